import Derived.Test.YtighkdnooglfjaaGreatDoorBxTree1
namespace Go.Proofs.YtighkdnooglfjaaGreatDoor
open Tryz
set_option maxRecDepth 100000
set_option maxHeartbeats 2000000
open Go.RowKit

theorem JbM (n:Nat) (dg:BA) (k:Key) (o:Nat×Nat) (w:World) (h:w.heap[n]? =some (.cells (ZO dg k o) 243)):
  Calls prog 224 #[.pointer (some ⟨n,0,none⟩)] w λe w'=>e=.returned (.bool true)/\w'=w:=by
 have c5:w.cell? ⟨n,5,none⟩=some (.pointer none):=Ja h
 clear h
 go_enter func224,ntmps224
 go_wp2
 go_ret
 exact ⟨rfl,rfl⟩
theorem Jbv (n:Nat) (dg:BA) (b nl nr:Nat) (w:World) (h:w.heap[n]? =some (.cells (brC dg b nl nr) 243)):
  Calls prog 224 #[.pointer (some ⟨n,0,none⟩)] w λe w'=>e=.returned (.bool false)/\w'=w:=by
 have c5:w.cell? ⟨n,5,none⟩=some (.pointer (some ⟨nl,0,none⟩)):=Ja h
 clear h
 go_enter func224,ntmps224
 go_wp2
 go_ret
 exact ⟨rfl,rfl⟩
theorem Zy (n one:Option Addr) (at_:Nat) (w:World):
  Calls prog 333 #[.pointer n,.pointer one,.int .i64 (at_:Int)] w λe w'=>e=.returned (if at_=0 then .agg #[.pointer one,.pointer n] else .agg #[.pointer n,.pointer one])/\Tch NoB w w':=by
 by_cases h:at_=0
 ·subst h
  rw [if_pos rfl]
  go_enter func333,ntmps333
  go_wp2
  exact QK (v:=.agg #[.pointer one,.pointer n]) (Qq results333 _ _ w.heap.size _ _ (0,0) _ rfl (Qf _ _) underlying241 rfl (by kernel_rfl)) rfl ⟨rfl,Ta _ _ _⟩
 ·rw [if_neg h]
  have hb:((at_:Int) == 0)=false:=by rw [beq_eq_false_iff_ne];omega
  go_enter func333,ntmps333
  go_wp2
  exact QK (v:=.agg #[.pointer n,.pointer one]) (Qq results333 _ _ w.heap.size _ _ (0,0) _ rfl (Qf _ _) underlying241 rfl (by kernel_rfl)) rfl ⟨rfl,Ta _ _ _⟩
theorem Jdz (E:Nat->Addr) (wj:Nat) (hw1:1<=wj) (hw:wj<=32) (F:Nat->Prop) (rv:Option Addr) (k:Key) (o:Nat×Nat) (hk:TrOk wj (.leaf k o)) (d:Nat) (hd:d<8 * (wj+1)) (t:Tr) (n ln:Nat) (w:World) (hE:Env E w) (hF:∀j,w.heap.size<=j->F j) (hn:Jf (dgW wj) F w n t) (hln:Jf (dgW wj) F w ln (.leaf k o))
  (hc:(∀W,Tch NoB w W->Calls prog 224 #[.pointer (some ⟨n,0,none⟩)] W λe w'=>e=.returned (.bool true)/\w'=W)\/∃b:Nat,(∀W,Tch NoB w W->Calls prog 224 #[.pointer (some ⟨n,0,none⟩)] W λe w'=>e=.returned (.bool false)/\w'=W)/\w.cell? ⟨n,4,none⟩=some (.int .i64 (b:Int))/\(d:Int)<(b:Int)):
  Calls prog 270 #[.agg #[.int .i64 (wj:Int),.pointer rv],.pointer (some ⟨n,0,none⟩),.pointer (some ⟨ln,0,none⟩),.int .i64 (d:Int)] w λe w'=>∃m,e=.returned (.tuple #[.pointer (some ⟨m,0,none⟩),.nilIface])/\Jf (dgW wj) F w' m (Tr.pair t (.leaf k o) d (bt k d))/\Tch NoB w w':=by
 have hnt:=hn.own.2
 rcases hc with hc | ⟨b,hc,hb4,hdi⟩
 all_goals
  have HC:Hid (∀W,_):=hc
  have hkl:k.length=wj+1:=hk.1
  have hlt:=hln.own.2
  have clk:w.cell? ⟨ln,1,none⟩=some (.string ⟨k.toArray⟩):=by cases hln with | leaf _ _ _ _ hr=>exact Ja hr
  have HBIT:Hid (∀W,Calls prog 288 #[.string ⟨k.toArray⟩,.int .i64 (d:Int)] W λe w'=>e=.returned (.int .i64 (bt k d:Int))/\w'=W):=λW=>YQ k d (by omega) (by omega) W
  have HF:Hid (∀j,w.heap.size<=j->F j):=hF
  have HPR:Hid (∃a b l r,(if bt k d=0 then Value.agg #[.pointer (some ⟨ln,0,none⟩),.pointer (some ⟨n,0,none⟩)] else .agg #[.pointer (some ⟨n,0,none⟩),.pointer (some ⟨ln,0,none⟩)])=.agg #[.pointer (some ⟨a,0,none⟩),.pointer (some ⟨b,0,none⟩)]/\Tr.pair t (.leaf k o) d (bt k d)=.br d l r/\Jf (dgW wj) F w a l/\Jf (dgW wj) F w b r):=by
   unfold Tr.pair
   by_cases hb:bt k d=0
   ·rw [if_pos hb,if_pos hb];exact ⟨_,_,_,_,rfl,rfl,hln,hn⟩
   ·rw [if_neg hb,if_neg hb];exact ⟨_,_,_,_,rfl,rfl,hn,hln⟩
  obtain ⟨pa,pb,pl,pr,hpe,hpt,hpl,hpr⟩:=HPR.o
  have HPW:Hid (∀W,Calls prog 333 #[.pointer (some ⟨n,0,none⟩),.pointer (some ⟨ln,0,none⟩),.int .i64 (bt k d:Int)] W λe w'=>e=.returned (.agg #[.pointer (some ⟨pa,0,none⟩),.pointer (some ⟨pb,0,none⟩)])/\Tch NoB W w'):=λW=>by
   have:=Zy (some ⟨n,0,none⟩) (some ⟨ln,0,none⟩) (bt k d) W
   rw [hpe] at this
   exact this
  have HNB:Hid (∀W,Tch NoB w W->Calls prog 332 #[.int .i64 (wj:Int),.int .i64 (d:Int),.agg #[.pointer (some ⟨pa,0,none⟩),.pointer (some ⟨pb,0,none⟩)]] W λe w'=>∃m,e=.returned (.tuple #[.pointer (some ⟨m,0,none⟩),.nilIface])/\Jf (dgW wj) F w' m (Tr.pair t (.leaf k o) d (bt k d))/\Tch NoB W w'):=λW hT=>by
   refine (Yv E wj hw1 hw d pa pb pl pr F hd W (hE.tch hT noE) (hpl.next hT) (hpr.next hT)).mono ?_
   rintro e w' ⟨m,rfl,h1,h2,h3⟩
   refine ⟨m,rfl,?_,h3⟩
   rw [hpt]
   exact .br m d pa pb pl pr (HF.o m (Qm hT.size h1)) h2 ((hpl.next hT).next h3) ((hpr.next hT).next h3)
  clear hc hE hn hln hpe hpt hpl hpr HPR hF hk
  generalize (⟨k.toArray⟩:BA)=kb at *
  generalize Tr.pair t (.leaf k o) d (bt k d)=tr at *
  generalize bt k d=bk at *
  go_enter func270,ntmps270
  go_wp2_with fail
  refine (HC.o _ (Ta _ _ _)).mono ?_
  rintro _ _ ⟨rfl,rfl⟩
  have HA:Hid (Tch NoB w (w.alloc (.cells #[.int .i64 (wj:Int),.pointer rv] 146)).drew):=(Ta NoB w _).trans (Td _ _ 1) (λ_ h=>.inl h)
  clear HC
  go_wp2_with fail
  go_region_held3 (λW=>W.cell? ⟨w.heap.size,0,none⟩=some (.int .i64 (wj:Int))/\W.cell? ⟨ln,1,none⟩=some (.string kb)) (go_keep) ((first | (go_at_call 288;refine (HBIT.o _).mono ?_;rintro _ _ ⟨rfl,rfl⟩) | (go_at_call 333;refine (HPW.o _).mono ?_;rintro _ w1 ⟨rfl,ht1⟩;have hz1:w.heap.size<w1.heap.size:=Qk (by simp) ht1.size;have hk0:w1.cell? ⟨w.heap.size,0,none⟩=some (.int .i64 (wj:Int)):=(ht1.cell (p:=⟨w.heap.size,0,none⟩) (by simp) (λh=>h)).trans (Ja (Qf _ _));have hk1:w1.cell? ⟨ln,1,none⟩=some (.string kb):=((HA.o.trans ht1 noE).cell (p:=⟨ln,1,none⟩) hlt (λh=>h)).trans clk;have HT1:Hid (Tch NoB w w1):=HA.o.trans ht1 noE;clear ht1) | (go_at_call 332;refine (HNB.o _ HT1.o).mono ?_;rintro _ w2 ⟨m,rfl,hm,ht2⟩;have hj0:=(ht2.cell (p:=⟨w.heap.size,0,none⟩) hz1 (λh=>h)).trans hk0;have hj1:=(ht2.cell (p:=⟨ln,1,none⟩) (by have:=HT1.o.size;show ln<_;omega) (λh=>h)).trans hk1;have HM:Hid (Jf _ _ _ _ _):=hm;have HT2:Hid (Tch NoB w w2):=HT1.o.trans ht2 noE;clear hm ht2)))
  all_goals
   go_wp2
   go_ret2
   exact ⟨m,rfl,HM.o,HT2.o⟩
theorem JiU (E:Nat->Addr) (wj:Nat) (hw1:1<=wj) (hw:wj<=32) (F:Nat->Prop) (rv:Option Addr) (k:Key) (o:Nat×Nat) (hk:TrOk wj (.leaf k o)) (d:Nat) (b:Nat) (hb:b<8 * (wj+1)) (hdb:¬d<b) (l r:Tr) (n nl nr ln:Nat) (w:World) (hE:Env E w) (hF:∀j,w.heap.size<=j->F j) (hrow:w.heap[n]? =some (.cells (brC (Tr.dig (dgW wj) (.br b l r)) b nl nr) 243)) (hnl:Jf (dgW wj) F w nl l) (hnr:Jf (dgW wj) F w nr r) (hln:Jf (dgW wj) F w ln (.leaf k o))
  (ih:∀(s:Nat) (tg:Tr),((s=nl/\tg=l.graft k o d/\bt k b=0)\/(s=nr/\tg=r.graft k o d/\bt k b ≠ 0))->∀W,Tch NoB w W->Calls prog 270 #[.agg #[.int .i64 (wj:Int),.pointer rv],.pointer (some ⟨s,0,none⟩),.pointer (some ⟨ln,0,none⟩),.int .i64 (d:Int)] W λe w'=>∃m,e=.returned (.tuple #[.pointer (some ⟨m,0,none⟩),.nilIface])/\Jf (dgW wj) F w' m tg/\Tch NoB W w'):
  Calls prog 270 #[.agg #[.int .i64 (wj:Int),.pointer rv],.pointer (some ⟨n,0,none⟩),.pointer (some ⟨ln,0,none⟩),.int .i64 (d:Int)] w λe w'=>∃m,e=.returned (.tuple #[.pointer (some ⟨m,0,none⟩),.nilIface])/\Jf (dgW wj) F w' m (Tr.graft k o d (.br b l r))/\Tch NoB w w':=by
 have hkl:k.length=wj+1:=hk.1
 have hlt:=hln.own.2
 have hnt:n<w.heap.size:=(Jb hrow)
 have clk:w.cell? ⟨ln,1,none⟩=some (.string ⟨k.toArray⟩):=by cases hln with | leaf _ _ _ _ hr=>exact Ja hr
 have c4:w.cell? ⟨n,4,none⟩=some (.int .i64 (b:Int)):=Ja hrow
 have c5:w.cell? ⟨n,5,none⟩=some (.pointer (some ⟨nl,0,none⟩)):=Ja hrow
 have c6:w.cell? ⟨n,6,none⟩=some (.pointer (some ⟨nr,0,none⟩)):=Ja hrow
 have HBIT:Hid (∀W,Calls prog 288 #[.string ⟨k.toArray⟩,.int .i64 (b:Int)] W λe w'=>e=.returned (.int .i64 (bt k b:Int))/\w'=W):=λW=>YQ k b (by omega) (by omega) W
 have HIL:Hid (∀W,Tch NoB w W->Calls prog 224 #[.pointer (some ⟨n,0,none⟩)] W λe w'=>e=.returned (.bool false)/\w'=W):=λW hT=>Jbv n _ b nl nr W ((hT.block n hnt (λh=>h)).trans hrow)
 have hdi:¬(d:Int)<(b:Int):=by omega
 have hbt:=YO k b
 have HIH:Hid (∀(s:Nat) (tg:Tr),_):=ih
 clear ih hk hrow
 have hsd:(bt k b=0/\Tr.graft k o d (.br b l r)=.br b (l.graft k o d) r)\/(bt k b=1/\Tr.graft k o d (.br b l r)=.br b l (r.graft k o d)):=by
  simp only [Tr.graft]
  rw [if_neg hdb]
  by_cases h0:bt k b=0
  ·exact .inl ⟨h0,by rw [if_pos h0]⟩
  ·exact .inr ⟨by omega,by rw [if_neg h0]⟩
 generalize (⟨k.toArray⟩:BA)=kb at *
 have HE:Hid (Env E w):=hE
 have HF:Hid (∀j,w.heap.size<=j->F j):=hF
 have HNL:Hid (Jf _ _ _ _ _):=hnl
 have HNR:Hid (Jf _ _ _ _ _):=hnr
 clear hE hF hnl hnr hln hdb hbt
 rcases hsd with ⟨h0,hg⟩ | ⟨h1,hg⟩
 case' inl=>
  rw [hg]
  have HB0:Hid (bt k b=0):=h0
  rw [h0] at HBIT
  have HREC:Hid (∀W,Tch NoB w W->Calls prog 270 #[.agg #[.int .i64 (wj:Int),.pointer rv],.pointer (some ⟨nl,0,none⟩),.pointer (some ⟨ln,0,none⟩),.int .i64 (d:Int)] W λe w'=>∃m,e=.returned (.tuple #[.pointer (some ⟨m,0,none⟩),.nilIface])/\Jf (dgW wj) F w' m (l.graft k o d)/\Tch NoB W w'):=HIH.o nl (l.graft k o d) (.inl ⟨rfl,rfl,h0⟩)
  have HPW:Hid (∀(m:Nat) W,Calls prog 333 #[.pointer (some ⟨nr,0,none⟩),.pointer (some ⟨m,0,none⟩),.int .i64 0] W λe w'=>e=.returned (.agg #[.pointer (some ⟨m,0,none⟩),.pointer (some ⟨nr,0,none⟩)])/\Tch NoB W w'):=λm W=>Zy (some ⟨nr,0,none⟩) (some ⟨m,0,none⟩) 0 W
  have HNB:Hid (∀(m:Nat) W,Tch NoB w W->Jf (dgW wj) F W m (l.graft k o d)->Calls prog 332 #[.int .i64 (wj:Int),.int .i64 (b:Int),.agg #[.pointer (some ⟨m,0,none⟩),.pointer (some ⟨nr,0,none⟩)]] W λe w'=>∃q,e=.returned (.tuple #[.pointer (some ⟨q,0,none⟩),.nilIface])/\Jf (dgW wj) F w' q (.br b (l.graft k o d) r)/\Tch NoB W w'):=λm W hT hm=>by
   refine (Yv E wj hw1 hw b m nr (l.graft k o d) r F hb W (HE.o.tch hT noE) hm (HNR.o.next hT)).mono ?_
   rintro e w' ⟨q,rfl,h1,h2,h3⟩
   exact ⟨q,rfl,.br q b m nr (l.graft k o d) r (HF.o q (Qm hT.size h1)) h2 (hm.next h3) ((HNR.o.next hT).next h3),h3⟩
  clear hg h0 HIH
 case' inr=>
  rw [hg]
  have HB0:Hid (bt k b=1):=h1
  rw [h1] at HBIT
  have HREC:Hid (∀W,Tch NoB w W->Calls prog 270 #[.agg #[.int .i64 (wj:Int),.pointer rv],.pointer (some ⟨nr,0,none⟩),.pointer (some ⟨ln,0,none⟩),.int .i64 (d:Int)] W λe w'=>∃m,e=.returned (.tuple #[.pointer (some ⟨m,0,none⟩),.nilIface])/\Jf (dgW wj) F w' m (r.graft k o d)/\Tch NoB W w'):=HIH.o nr (r.graft k o d) (.inr ⟨rfl,rfl,by omega⟩)
  have HPW:Hid (∀(m:Nat) W,Calls prog 333 #[.pointer (some ⟨nl,0,none⟩),.pointer (some ⟨m,0,none⟩),.int .i64 1] W λe w'=>e=.returned (.agg #[.pointer (some ⟨nl,0,none⟩),.pointer (some ⟨m,0,none⟩)])/\Tch NoB W w'):=λm W=>Zy (some ⟨nl,0,none⟩) (some ⟨m,0,none⟩) 1 W
  have HNB:Hid (∀(m:Nat) W,Tch NoB w W->Jf (dgW wj) F W m (r.graft k o d)->Calls prog 332 #[.int .i64 (wj:Int),.int .i64 (b:Int),.agg #[.pointer (some ⟨nl,0,none⟩),.pointer (some ⟨m,0,none⟩)]] W λe w'=>∃q,e=.returned (.tuple #[.pointer (some ⟨q,0,none⟩),.nilIface])/\Jf (dgW wj) F w' q (.br b l (r.graft k o d))/\Tch NoB W w'):=λm W hT hm=>by
   refine (Yv E wj hw1 hw b nl m l (r.graft k o d) F hb W (HE.o.tch hT noE) (HNL.o.next hT) hm).mono ?_
   rintro e w' ⟨q,rfl,h1,h2,h3⟩
   exact ⟨q,rfl,.br q b nl m l (r.graft k o d) (HF.o q (Qm hT.size h1)) h2 ((HNL.o.next hT).next h3) (hm.next h3),h3⟩
  clear hg h1 HIH
 all_goals
  go_enter func270,ntmps270
  go_wp2_with fail
  refine (HIL.o _ (Ta _ _ _)).mono ?_
  rintro _ _ ⟨rfl,rfl⟩
  have hA0:Tch NoB w (w.alloc (.cells #[.int .i64 (wj:Int),.pointer rv] 146)):=Ta _ _ _
  obtain ⟨wA,hwA⟩:∃wA,wA=w.alloc (.cells #[.int .i64 (wj:Int),.pointer rv] 146):=⟨_,rfl⟩
  rw [<-hwA] at hA0 ⊢
  have hrA:wA.heap[w.heap.size]? =some (.cells #[.int .i64 (wj:Int),.pointer rv] 146):=by rw [hwA];exact Qf _ _
  have hzA:w.heap.size<wA.heap.size:=(Jb hrA)
  have HCL:Hid (∀W,Tch NoB wA W->(W.cell? ⟨w.heap.size,0,none⟩=some (.int .i64 (wj:Int))/\W.cell? ⟨w.heap.size,1,none⟩=some (.pointer rv)/\W.cell? ⟨ln,1,none⟩=some (.string kb)/\W.cell? ⟨n,4,none⟩=some (.int .i64 (b:Int))/\W.cell? ⟨n,5,none⟩=some (.pointer (some ⟨nl,0,none⟩))/\W.cell? ⟨n,6,none⟩=some (.pointer (some ⟨nr,0,none⟩)))/\Tch NoB w W):=λW hT=>
   ⟨⟨(hT.cell (p:=⟨w.heap.size,0,none⟩) hzA (λh=>h)).trans (Ja hrA),(hT.cell (p:=⟨w.heap.size,1,none⟩) hzA (λh=>h)).trans (Ja hrA),((hA0.trans hT noE).cell (p:=⟨ln,1,none⟩) hlt (λh=>h)).trans clk,((hA0.trans hT noE).cell (p:=⟨n,4,none⟩) hnt (λh=>h)).trans c4,((hA0.trans hT noE).cell (p:=⟨n,5,none⟩) hnt (λh=>h)).trans c5,((hA0.trans hT noE).cell (p:=⟨n,6,none⟩) hnt (λh=>h)).trans c6⟩,hA0.trans hT noE⟩
  obtain ⟨⟨a0,a1,a2,a3,a4,a5⟩,_⟩:=HCL.o wA (Te _ _)
  clear hA0 hrA hwA clk c4 c5 c6
  go_wp2_with fail
  go_region_held3 (λW=>W.cell? ⟨ln,1,none⟩=some (.string kb)/\W.cell? ⟨n,4,none⟩=some (.int .i64 (b:Int))) (go_keep) ((go_at_call 288;refine (HBIT.o _).mono ?_;rintro _ _ ⟨rfl,rfl⟩))
  have HTW:Hid (∀q,Tch NoB w (wA.drewN q)):=λq=>(HCL.o _ (Td _ wA q)).2
  clear HBIT
  go_wp2_with fail
  go_region_held3 (λW=>W.cell? ⟨w.heap.size,0,none⟩=some (.int .i64 (wj:Int))/\W.cell? ⟨w.heap.size,1,none⟩=some (.pointer rv)/\W.cell? ⟨n,5,none⟩=some (.pointer (some ⟨nl,0,none⟩))/\W.cell? ⟨n,6,none⟩=some (.pointer (some ⟨nr,0,none⟩))) (go_keep) ((go_at_call 270;refine (HREC.o _ (HTW.o 2)).mono ?_;rintro _ w2 ⟨m,rfl,hm,ht2⟩;have hT2:Tch NoB wA w2:=(Td NoB wA 2).trans ht2 noE;obtain ⟨⟨b0,b1,b2,b3,b4,b5⟩,hTw2⟩:=HCL.o w2 hT2;have HM:Hid (Jf _ _ _ _ _):=hm;have HT2:Hid (Tch NoB wA w2):=hT2;have HW2:Hid (Tch NoB w w2):=hTw2;clear hm ht2 hT2 hTw2))
  all_goals
   clear HREC a0 a1 a2 a3 a4 a5 HTW
   have hz0:IntKind.i64.wrap 0=0:=by decide
   have hz1:IntKind.i64.wrap 1=1:=by decide
   have HTW:Hid (∀q,Tch NoB wA (w2.drewN q)):=λq=>HT2.o.trans (Td NoB w2 q) noE
   go_wp2_with fail
   go_region_held3 (λW=>W.cell? ⟨w.heap.size,0,none⟩=some (.int .i64 (wj:Int))/\W.cell? ⟨n,4,none⟩=some (.int .i64 (b:Int))/\W.cell? ⟨n,5,none⟩=some (.pointer (some ⟨nl,0,none⟩))/\W.cell? ⟨n,6,none⟩=some (.pointer (some ⟨nr,0,none⟩))) (go_keep) ((first | (go_at_call 333;refine (HPW.o m _).mono ?_;rintro _ w3 ⟨rfl,ht3⟩;have hT3:Tch NoB wA w3:=(HTW.o 1).trans ht3 noE;obtain ⟨⟨d0,d1,d2,d3,d4,d5⟩,hTw3⟩:=HCL.o w3 hT3;have HM3:Hid (Jf (dgW wj) F w3 m _):=(HM.o.next (Td NoB w2 1)).next ht3;have HT3:Hid (Tch NoB wA w3):=hT3;have HW3:Hid (Tch NoB w w3):=hTw3;clear ht3 hT3 hTw3) | (go_at_call 332;refine (HNB.o m _ HW3.o HM3.o).mono ?_;rintro _ w4 ⟨q,rfl,hq,ht4⟩;have hT4:Tch NoB wA w4:=HT3.o.trans ht4 noE;obtain ⟨⟨f0,f1,f2,f3,f4,f5⟩,hTw4⟩:=HCL.o w4 hT4;have HQ:Hid (Jf _ _ _ _ _):=hq;have HW4:Hid (Tch NoB w w4):=hTw4;clear ht4 hT4 hq hTw4)))
   all_goals
    go_wp2
    go_ret2
    exact ⟨q,rfl,HQ.o,HW4.o⟩
theorem Jhx (E:Nat->Addr) (wj:Nat) (hw1:1<=wj) (hw:wj<=32) (F:Nat->Prop) (rv:Option Addr) (k:Key) (o:Nat×Nat) (hk:TrOk wj (.leaf k o)) (d:Nat) (hd:d<8 * (wj+1)) (ln:Nat):∀(t:Tr) (n:Nat) (w:World),TrOk wj t->Env E w->(∀j,w.heap.size<=j->F j)->Jf (dgW wj) F w n t->Jf (dgW wj) F w ln (.leaf k o)->
  Calls prog 270 #[.agg #[.int .i64 (wj:Int),.pointer rv],.pointer (some ⟨n,0,none⟩),.pointer (some ⟨ln,0,none⟩),.int .i64 (d:Int)] w λe w'=>∃m,e=.returned (.tuple #[.pointer (some ⟨m,0,none⟩),.nilIface])/\Jf (dgW wj) F w' m (t.graft k o d)/\Tch NoB w w':=by
 intro t
 induction t with
 | leaf k' o'=>
  intro n w _ hE hF hn hln
  refine Jdz E wj hw1 hw F rv k o hk d hd (.leaf k' o') n ln w hE hF hn hln (.inl λW hT=>?_)
  cases hn with
  | leaf _ _ _ _ hr=>exact JbM n _ k' o' W ((hT.block n (Jb hr) (λh=>h)).trans hr)
 | br b l r ihl ihr=>
  intro n w hok hE hF hn hln
  obtain ⟨hb,hokl,hokr⟩:=hok
  have hn':=hn
  cases hn with
  | br _ _ nl nr _ _ hFn hr hnl hnr=>
   by_cases hdb:d<b
   ·have:=Jdz E wj hw1 hw F rv k o hk d hd (.br b l r) n ln w hE hF hn' hln (.inr ⟨b,λW hT=>Jbv n _ b nl nr W ((hT.block n (Jb hr) (λh=>h)).trans hr),Ja hr,by omega⟩)
    have e:Tr.graft k o d (.br b l r)=Tr.pair (.br b l r) (.leaf k o) d (bt k d):=by simp only [Tr.graft];rw [if_pos hdb]
    rw [e]
    exact this
   ·refine JiU E wj hw1 hw F rv k o hk d b hb hdb l r n nl nr ln w hE hF hr hnl hnr hln ?_
    rintro s tg (⟨rfl,rfl,_⟩ | ⟨rfl,rfl,_⟩) W hT
    ·exact ihl s W hokl (hE.tch hT noE) (λj hj=>hF j (Qm hT.size hj)) (hnl.next hT) (hln.next hT)
    ·exact ihr s W hokr (hE.tch hT noE) (λj hj=>hF j (Qm hT.size hj)) (hnr.next hT) (hln.next hT)

def StAt (d:List UInt8->BA) (F:Nat->Prop) (w:World):Option Nat->Option Tr->Prop
 | none,none=>True
 | some n,some t=>Jf d F w n t
 | _,_=>False
abbrev Jl (q:Option Nat):Value:=.pointer (q.map λn=>⟨n,0,none⟩)
theorem StAt.tch {d:List UInt8->BA} {F:Nat->Prop} {w w':World} {q:Option Nat} {st:Option Tr} {S:Nat->Prop} (h:StAt d F w q st) (k:Tch S w w') (hs:∀j,S j->¬F j):StAt d F w' q st:=by
 cases q <;> cases st <;> first | exact h | exact Jf.tch h k hs
theorem StAt.next {d:List UInt8->BA} {F:Nat->Prop} {w w':World} {q:Option Nat} {st:Option Tr} (h:StAt d F w q st) (k:Tch NoB w w'):StAt d F w' q st:=h.tch k noE
theorem StAt.mono {d:List UInt8->BA} {F F':Nat->Prop} {w:World} {q:Option Nat} {st:Option Tr} (h:StAt d F w q st) (hF:∀j,F j->F' j):StAt d F' w q st:=by
 cases q <;> cases st <;> first | exact h | exact Jf.mono h hF
def StOk (wj:Nat):Option Tr->Prop
 | none=>True
 | some t=>TrOk wj t
abbrev JeE (wj:Nat) (F:Nat->Prop) (r:Option Tr) (W:World) (e:Ending) (w':World):Prop:=∃q,e=.returned (.tuple #[Jl q,.nilIface])/\StAt (dgW wj) F w' q r/\Tch NoB W w'
theorem StAt.of_some {d:List UInt8->BA} {F:Nat->Prop} {w:World} {q:Option Nat} {t:Tr} (h:StAt d F w q (some t)):∃m,q=Option.some m/\Jf d F w m t:=by
 cases q with
 | none=>exact h.elim
 | some m=>exact ⟨m,rfl,h⟩
theorem StAt.of_none {d:List UInt8->BA} {F:Nat->Prop} {w:World} {q:Option Nat} (h:StAt d F w q Option.none):q=Option.none:=by
 cases q with
 | none=>rfl
 | some m=>exact h.elim
theorem JiI (wj:Nat) (F:Nat->Prop) (rv:Option Addr) (k:Key) (n:Nat) (w:World) (k':Key) (o':Nat×Nat) (hn:Jf (dgW wj) F w n (.leaf k' o')):
  Calls prog 339 #[.agg #[.int .i64 (wj:Int),.pointer rv],.pointer (some ⟨n,0,none⟩),.string ⟨k.toArray⟩] w λe w'=>JeE wj F none w e w':=by
 have HIL:Hid (∀W,Tch NoB w W->Calls prog 224 #[.pointer (some ⟨n,0,none⟩)] W λe w'=>e=.returned (.bool true)/\w'=W):=λW hT=>by
  cases hn with
  | leaf _ _ _ _ hr=>exact JbM n _ k' o' W ((hT.block n (Jb hr) (λh=>h)).trans hr)
 clear hn
 generalize (⟨k.toArray⟩:BA)=kb at *
 go_enter func339,ntmps339
 go_wp2_with fail
 refine (HIL.o _ (Ta _ _ _)).mono ?_
 rintro _ _ ⟨rfl,rfl⟩
 go_wp2
 go_ret2
 exact ⟨none,rfl,trivial,Ta _ _ _⟩
theorem JiH (wj:Nat) (F:Nat->Prop) (rv:Option Addr) (k:Key) (hkl:k.length=wj+1) (hw:wj<=32) (b:Nat) (hb:b<8 * (wj+1)) (n nl nr:Nat) (w:World) (d:BA) (hrow:w.heap[n]? =some (.cells (brC d b nl nr) 243)) (v nc no:Nat) (hv:(v=0/\nl=nc/\nr=no)\/(v=1/\nl=no/\nr=nc)) (hbt:bt k b=v) (st res:Option Tr)
  (ih:∀W,Tch NoB w W->Calls prog 339 #[.agg #[.int .i64 (wj:Int),.pointer rv],.pointer (some ⟨nc,0,none⟩),.string ⟨k.toArray⟩] W λe w'=>JeE wj F st W e w')
  (hN:st=none->∀W,Tch NoB w W->StAt (dgW wj) F W (some no) res)
  (hS:∀s,st=some s->∀(m:Nat) W,Tch NoB w W->Jf (dgW wj) F W m s->Calls prog 332 #[.int .i64 (wj:Int),.int .i64 (b:Int),if v=0 then .agg #[.pointer (some ⟨m,0,none⟩),.pointer (some ⟨no,0,none⟩)] else .agg #[.pointer (some ⟨no,0,none⟩),.pointer (some ⟨m,0,none⟩)]] W λe w'=>∃q,e=.returned (.tuple #[.pointer (some ⟨q,0,none⟩),.nilIface])/\StAt (dgW wj) F w' (some q) res/\Tch NoB W w'):
  Calls prog 339 #[.agg #[.int .i64 (wj:Int),.pointer rv],.pointer (some ⟨n,0,none⟩),.string ⟨k.toArray⟩] w λe w'=>JeE wj F res w e w':=by
 have hnt:n<w.heap.size:=(Jb hrow)
 have c4:w.cell? ⟨n,4,none⟩=some (.int .i64 (b:Int)):=Ja hrow
 have c5:w.cell? ⟨n,5,none⟩=some (.pointer (some ⟨nl,0,none⟩)):=Ja hrow
 have c6:w.cell? ⟨n,6,none⟩=some (.pointer (some ⟨nr,0,none⟩)):=Ja hrow
 have HBIT:Hid (∀W,Calls prog 288 #[.string ⟨k.toArray⟩,.int .i64 (b:Int)] W λe w'=>e=.returned (.int .i64 (v:Int))/\W=w'):=λW=>by
  have:=YQ k b (by omega) (by omega) W
  rw [hbt] at this
  exact this.mono λe w' h=>⟨h.1,h.2.symm⟩
 have HIL:Hid (∀W,Tch NoB w W->Calls prog 224 #[.pointer (some ⟨n,0,none⟩)] W λe w'=>e=.returned (.bool false)/\w'=W):=λW hT=>Jbv n _ b nl nr W ((hT.block n hnt (λh=>h)).trans hrow)
 have HREC:Hid (∀W,Tch NoB w W->Calls prog 339 #[.agg #[.int .i64 (wj:Int),.pointer rv],.pointer (some ⟨nc,0,none⟩),.string ⟨k.toArray⟩] W λe w'=>∃q,e=.returned (.tuple #[Jl q,.nilIface])/\StAt (dgW wj) F w' q st/\Tch NoB W w'):=ih
 have HPW:Hid (∀(m:Nat) W,Calls prog 333 #[.pointer (some ⟨no,0,none⟩),.pointer (some ⟨m,0,none⟩),.int .i64 (v:Int)] W λe w'=>e=.returned (if v=0 then .agg #[.pointer (some ⟨m,0,none⟩),.pointer (some ⟨no,0,none⟩)] else .agg #[.pointer (some ⟨no,0,none⟩),.pointer (some ⟨m,0,none⟩)])/\Tch NoB W w'):=λm W=>Zy (some ⟨no,0,none⟩) (some ⟨m,0,none⟩) v W
 have HN:Hid _:=hN
 have HS:Hid _:=hS
 clear ih hbt hN hS
 generalize (⟨k.toArray⟩:BA)=kb at *
 have hA0:Tch NoB w (w.alloc (.cells #[.int .i64 (wj:Int),.pointer rv] 146)):=Ta _ _ _
 obtain ⟨wA,hwA⟩:∃wA,wA=w.alloc (.cells #[.int .i64 (wj:Int),.pointer rv] 146):=⟨_,rfl⟩
 rw [<-hwA] at hA0
 have hrA:wA.heap[w.heap.size]? =some (.cells #[.int .i64 (wj:Int),.pointer rv] 146):=by rw [hwA];exact Qf _ _
 have hzA:w.heap.size<wA.heap.size:=(Jb hrA)
 have HCL:Hid (∀W,Tch NoB wA W->(W.cell? ⟨w.heap.size,0,none⟩=some (.int .i64 (wj:Int))/\W.cell? ⟨w.heap.size,1,none⟩=some (.pointer rv)/\W.cell? ⟨n,4,none⟩=some (.int .i64 (b:Int))/\W.cell? ⟨n,5,none⟩=some (.pointer (some ⟨nl,0,none⟩))/\W.cell? ⟨n,6,none⟩=some (.pointer (some ⟨nr,0,none⟩)))/\Tch NoB w W):=λW hT=>by
  have h1:=(hT.block _ hzA (λh=>h)).trans hrA
  have h2:=hA0.trans hT noE
  have h3:=(h2.block n hnt (λh=>h)).trans hrow
  exact ⟨⟨Ja h1,Ja h1,Ja h3,Ja h3,Ja h3⟩,h2⟩
 have HWA:Hid (wA=_):=hwA
 have HTW:Hid (∀q,Tch NoB w (wA.drewN q)):=λq=>(HCL.o _ (Td _ wA q)).2
 have hz0:IntKind.i64.wrap 0=0:=by decide
 have hz1:IntKind.i64.wrap 1=1:=by decide
 clear hA0 hrA hwA hrow
 rcases hv with ⟨rfl,rfl,rfl⟩ | ⟨rfl,rfl,rfl⟩
 all_goals
  simp only [if_true,Nat.succ_ne_self,if_false,Int.natCast_zero,Int.natCast_one] at HPW HS HBIT
  go_enter func339,ntmps339
  go_wp2_with fail
  refine (HIL.o _ (Ta _ _ _)).mono ?_
  rintro _ _ ⟨rfl,rfl⟩
  rw [<-HWA.o]
  clear c4 c5 c6 HIL HWA
  obtain ⟨⟨a0,a1,a3,a4,a5⟩,_⟩:=HCL.o wA (Te _ _)
  go_wp2_with fail
  refine (HBIT.o _).mono ?_
  rintro _ _ ⟨rfl,rfl⟩
  clear HBIT
  go_wp2_with fail
  cases st
  all_goals
   go_region_held3 (λW=>W.cell? ⟨w.heap.size,0,none⟩=some (.int .i64 (wj:Int))/\W.cell? ⟨w.heap.size,1,none⟩=some (.pointer rv)/\W.cell? ⟨n,5,none⟩=some (.pointer (some ⟨nl,0,none⟩))/\W.cell? ⟨n,6,none⟩=some (.pointer (some ⟨nr,0,none⟩))) (go_keep) ((go_at_call 339;refine (HREC.o _ (HTW.o 1)).mono ?_;rintro _ w2 ⟨q,rfl,hq,ht2⟩;have hT2:Tch NoB wA w2:=(Td NoB wA 1).trans ht2 noE;obtain ⟨⟨b0,b1,b3,b4,b5⟩,hTw2⟩:=HCL.o w2 hT2;(first | (obtain ⟨m,rfl,hm⟩:=hq.of_some;have HM:Hid (Jf _ _ _ _ _):=hm;clear hm) | (obtain rfl:=hq.of_none));clear hq;have HT2:Hid (Tch NoB wA w2):=hT2;have HW2:Hid (Tch NoB w w2):=hTw2;clear ht2 hT2 hTw2))
   clear HREC a0 a1 a3 a4 a5 HTW
  ·go_wp2
   go_ret2
   exact ⟨some _,rfl,HN.o (by trivial) _ HW2.o,HW2.o⟩
  ·have HTW:Hid (∀q,Tch NoB wA (w2.drewN q)):=λq=>HT2.o.trans (Td NoB w2 q) noE
   go_wp2_with fail
   go_region_held3 (λW=>W.cell? ⟨w.heap.size,0,none⟩=some (.int .i64 (wj:Int))/\W.cell? ⟨n,4,none⟩=some (.int .i64 (b:Int))) (go_keep) ((first | (go_at_call 333;refine (HPW.o m _).mono ?_;rintro _ w3 ⟨rfl,ht3⟩;have hT3:Tch NoB wA w3:=(HTW.o 1).trans ht3 noE;obtain ⟨⟨d0,d1,d3,d4,d5⟩,hTw3⟩:=HCL.o w3 hT3;have HM3:Hid (Jf (dgW wj) F w3 m _):=(HM.o.next (Td NoB w2 1)).next ht3;have HT3:Hid (Tch NoB wA w3):=hT3;have HW3:Hid (Tch NoB w w3):=hTw3;clear ht3 hT3 hTw3) | (go_at_call 332;refine (HS.o _ rfl m _ HW3.o HM3.o).mono ?_;rintro _ w4 ⟨q,rfl,hq,ht4⟩;have hT4:Tch NoB wA w4:=HT3.o.trans ht4 noE;obtain ⟨⟨f0,f1,f3,f4,f5⟩,hTw4⟩:=HCL.o w4 hT4;have HQ:Hid (StAt _ _ _ _ _):=hq;have HW4:Hid (Tch NoB w w4):=hTw4;clear ht4 hT4 hq hTw4)))
   all_goals
    go_wp2
    go_ret2
    exact ⟨some q,rfl,HQ.o,HW4.o⟩
theorem Jku (E:Nat->Addr) (wj:Nat) (hw1:1<=wj) (hw:wj<=32) (F:Nat->Prop) (rv:Option Addr) (k:Key) (hkl:k.length=wj+1):∀(t:Tr) (n:Nat) (w:World),TrOk wj t->Env E w->(∀j,w.heap.size<=j->F j)->Jf (dgW wj) F w n t->
  Calls prog 339 #[.agg #[.int .i64 (wj:Int),.pointer rv],.pointer (some ⟨n,0,none⟩),.string ⟨k.toArray⟩] w λe w'=>JeE wj F (t.cut k) w e w':=by
 intro t
 induction t with
 | leaf k' o'=>
  intro n w _ _ _ hn
  exact JiI wj F rv k n w k' o' hn
 | br b l r ihl ihr=>
  intro n w hok hE hF hn
  obtain ⟨hb,hokl,hokr⟩:=hok
  cases hn with
  | br _ _ nl nr _ _ hFn hr hnl hnr=>
   have il:∀W,Tch NoB w W->_:=λW (hT:Tch NoB w W)=>ihl nl W hokl (hE.tch hT noE) (λj hj=>hF j (Qm hT.size hj)) (hnl.next hT)
   have ir:∀W,Tch NoB w W->_:=λW (hT:Tch NoB w W)=>ihr nr W hokr (hE.tch hT noE) (λj hj=>hF j (Qm hT.size hj)) (hnr.next hT)
   have nb:∀(a c:Tr) (x y:Nat) W,Tch NoB w W->Jf (dgW wj) F W x a->Jf (dgW wj) F W y c->Calls prog 332 #[.int .i64 (wj:Int),.int .i64 (b:Int),.agg #[.pointer (some ⟨x,0,none⟩),.pointer (some ⟨y,0,none⟩)]] W λe w'=>∃q,e=.returned (.tuple #[.pointer (some ⟨q,0,none⟩),.nilIface])/\StAt (dgW wj) F w' (some q) (some (.br b a c))/\Tch NoB W w':=λa c x y W hT hx hy=>by
    refine (Yv E wj hw1 hw b x y a c F hb W (hE.tch hT noE) hx hy).mono ?_
    rintro e w' ⟨q,rfl,h1,h2,h3⟩
    exact ⟨q,rfl,.br q b x y a c (hF q (Qm hT.size h1)) h2 (hx.next h3) (hy.next h3),h3⟩
   simp only [Tr.cut]
   by_cases h0:bt k b=0
   ·rw [if_pos h0]
    refine JiH wj F rv k hkl hw b hb n nl nr w _ hr 0 nl nr (.inl ⟨rfl,rfl,rfl⟩) h0 _ _ il (λh W hT=>?_) (λs h m W hT hm=>?_)
    ·rw [h];exact hnr.next hT
    ·rw [h];exact nb s r m nr W hT hm (hnr.next hT)
   ·have h1:bt k b=1:=by have:=YO k b;omega
    rw [if_neg h0]
    refine JiH wj F rv k hkl hw b hb n nl nr w _ hr 1 nr nl (.inr ⟨rfl,rfl,rfl⟩) h1 _ _ ir (λh W hT=>?_) (λs h m W hT hm=>?_)
    ·rw [h];exact hnl.next hT
    ·rw [h];exact nb l s nl m W hT (hnl.next hT) hm
