import Derived.Test.YtighkdnooglfjaaGreatDoorOxTree1
namespace Go.Proofs.YtighkdnooglfjaaGreatDoor
open Tryz
set_option maxRecDepth 100000
set_option maxHeartbeats 1000000
open Go.RowKit

theorem Jak (n:Nat) (dg:BA) (k:Key) (o:Nat×Nat) (w:World) (h:w.heap[n]? =some (.cells (Jaa dg k o) 243)):
  Calls prog 224 #[.pointer (some ⟨n,0,none⟩)] w λe w'=>e=.returned (.bool true)/\w'=w:=by
 have c5:w.cell? ⟨n,5,none⟩=some (.pointer none):=Ja h
 clear h
 go_enter func224,ntmps224
 go_wp2
 go_ret
 exact ⟨rfl,rfl⟩
theorem Yw (n:Nat) (dg:BA) (b nl nr:Nat) (w:World) (h:w.heap[n]? =some (.cells (brC dg b nl nr) 243)):
  Calls prog 224 #[.pointer (some ⟨n,0,none⟩)] w λe w'=>e=.returned (.bool false)/\w'=w:=by
 have c5:w.cell? ⟨n,5,none⟩=some (.pointer (some ⟨nl,0,none⟩)):=Ja h
 clear h
 go_enter func224,ntmps224
 go_wp2
 go_ret
 exact ⟨rfl,rfl⟩
theorem Yy (n one:Option Addr) (at_:Nat) (w:World):
  Calls prog 333 #[.pointer n,.pointer one,.int .i64 (at_:Int)] w λe w'=>e=.returned (if at_=0 then .agg #[.pointer one,.pointer n] else .agg #[.pointer n,.pointer one])/\Tch NoB w w':=by
 by_cases h:at_=0
 ·subst h
  rw [if_pos rfl]
  go_enter func333,ntmps333
  go_wp2
  exact QJ (v:=.agg #[.pointer one,.pointer n]) (Qq results333 _ _ w.heap.size _ _ (0,0) _ rfl (Qf _ _) underlying241 rfl (by kernel_rfl)) rfl ⟨rfl,Tch.alloc _ _ _⟩
 ·rw [if_neg h]
  have hb:((at_:Int) == 0)=false:=by rw [beq_eq_false_iff_ne];omega
  go_enter func333,ntmps333
  go_wp2
  exact QJ (v:=.agg #[.pointer n,.pointer one]) (Qq results333 _ _ w.heap.size _ _ (0,0) _ rfl (Qf _ _) underlying241 rfl (by kernel_rfl)) rfl ⟨rfl,Tch.alloc _ _ _⟩
theorem Jh8 (E:Nat->Addr) (wd:Nat) (hw1:1<=wd) (hw:wd<=32) (F:Nat->Prop) (rv:Option Addr) (k:Key) (o:Nat×Nat) (hk:TrOk wd (.leaf k o)) (d:Nat) (hd:d<8 * (wd+1)) (t:Tr) (n ln:Nat) (w:World) (hE:Env E w) (hF:∀j,w.heap.size<=j->F j) (hn:Jf (dgW wd) F w n t) (hln:Jf (dgW wd) F w ln (.leaf k o))
  (hc:∀W,Tch NoB w W->Calls prog 224 #[.pointer (some ⟨n,0,none⟩)] W λe w'=>e=.returned (.bool true)/\w'=W):
  Calls prog 270 #[.agg #[.int .i64 (wd:Int),.pointer rv],.pointer (some ⟨n,0,none⟩),.pointer (some ⟨ln,0,none⟩),.int .i64 (d:Int)] w λe w'=>∃m,e=.returned (.tuple #[.pointer (some ⟨m,0,none⟩),.nilIface])/\Jf (dgW wd) F w' m (Tr.pair t (.leaf k o) d (bt k d))/\Tch NoB w w':=by
 have HC:Hid (∀W,_):=hc
 have hkl:k.length=wd+1:=hk.1
 have hlt:=hln.own.2
 have clk:w.cell? ⟨ln,1,none⟩=some (.string ⟨k.toArray⟩):=by cases hln with | leaf _ _ _ _ hr=>exact Ja hr
 have HBIT:Hid (∀W,Calls prog 288 #[.string ⟨k.toArray⟩,.int .i64 (d:Int)] W λe w'=>e=.returned (.int .i64 (bt k d:Int))/\w'=W):=λW=>Xb k d (by omega) (by omega) W
 have HF:Hid _:=hF
 have HPR:Hid (∃a b l r,(if bt k d=0 then Value.agg #[.pointer (some ⟨ln,0,none⟩),.pointer (some ⟨n,0,none⟩)] else .agg #[.pointer (some ⟨n,0,none⟩),.pointer (some ⟨ln,0,none⟩)])=.agg #[.pointer (some ⟨a,0,none⟩),.pointer (some ⟨b,0,none⟩)]/\Tr.pair t (.leaf k o) d (bt k d)=.br d l r/\Jf (dgW wd) F w a l/\Jf (dgW wd) F w b r):=by
  unfold Tr.pair
  by_cases hb:bt k d=0
  ·rw [if_pos hb,if_pos hb];exact ⟨_,_,_,_,rfl,rfl,hln,hn⟩
  ·rw [if_neg hb,if_neg hb];exact ⟨_,_,_,_,rfl,rfl,hn,hln⟩
 obtain ⟨pa,pb,pl,pr,hpe,hpt,hpl,hpr⟩:=HPR.o
 have HPW:Hid (∀W,Calls prog 333 #[.pointer (some ⟨n,0,none⟩),.pointer (some ⟨ln,0,none⟩),.int .i64 (bt k d:Int)] W λe w'=>e=.returned (.agg #[.pointer (some ⟨pa,0,none⟩),.pointer (some ⟨pb,0,none⟩)])/\Tch NoB W w'):=λW=>by
  have:=Yy (some ⟨n,0,none⟩) (some ⟨ln,0,none⟩) (bt k d) W
  rw [hpe] at this
  exact this
 have HNB:Hid (∀W,Tch NoB w W->Calls prog 332 #[.int .i64 (wd:Int),.int .i64 (d:Int),.agg #[.pointer (some ⟨pa,0,none⟩),.pointer (some ⟨pb,0,none⟩)]] W λe w'=>∃m,e=.returned (.tuple #[.pointer (some ⟨m,0,none⟩),.nilIface])/\Jf (dgW wd) F w' m (Tr.pair t (.leaf k o) d (bt k d))/\Tch NoB W w'):=λW hT=>by
  refine (XD E wd hw1 hw d pa pb pl pr F hd W (hE.tch hT noE) (hpl.next hT) (hpr.next hT)).mono ?_
  rintro e w' ⟨m,rfl,h1,h2,h3⟩
  refine ⟨m,rfl,?_,h3⟩
  rw [hpt]
  exact .br m d pa pb pl pr (HF.o m (Qm hT.size h1)) h2 ((hpl.next hT).next h3) ((hpr.next hT).next h3)
 clear hc hE hn hln hpe hpt hpl hpr HPR hF hk
 generalize (⟨k.toArray⟩:BA)=kb at *
 generalize Tr.pair t (.leaf k o) d (bt k d)=tr at *
 generalize bt k d=bk at *
 go_enter func270,ntmps270
 go_wp2_with fail
 refine (HC.o _ (Tch.alloc _ _ _)).mono ?_
 rintro _ _ ⟨rfl,rfl⟩
 have HA:Hid (Tch NoB w (w.alloc (.cells #[.int .i64 (wd:Int),.pointer rv] 146)).drew):=(Tch.alloc NoB w _).trans (Tch.drewN _ _ 1) (λ_ h=>.inl h)
 clear HC
 go_wp2_with fail
 go_region_held3 (λW=>W.cell? ⟨w.heap.size,0,none⟩=some (.int .i64 (wd:Int))/\W.cell? ⟨ln,1,none⟩=some (.string kb)) (go_keep) ((first | (go_at_call 288;refine (HBIT.o _).mono ?_;rintro _ _ ⟨rfl,rfl⟩) | (go_at_call 333;refine (HPW.o _).mono ?_;rintro _ w1 ⟨rfl,ht1⟩;have hz1:w.heap.size<w1.heap.size:=Qk (by simp) ht1.size;have hk0:w1.cell? ⟨w.heap.size,0,none⟩=some (.int .i64 (wd:Int)):=(ht1.cell (p:=⟨w.heap.size,0,none⟩) (by simp) (λh=>h)).trans (Ja (Qf _ _));have hk1:w1.cell? ⟨ln,1,none⟩=some (.string kb):=((HA.o.trans ht1 noE).cell (p:=⟨ln,1,none⟩) hlt (λh=>h)).trans clk;have HT1:Hid (Tch NoB w w1):=HA.o.trans ht1 noE;clear ht1) | (go_at_call 332;refine (HNB.o _ HT1.o).mono ?_;rintro _ w2 ⟨m,rfl,hm,ht2⟩;have hj0:=(ht2.cell (p:=⟨w.heap.size,0,none⟩) hz1 (λh=>h)).trans hk0;have hj1:=(ht2.cell (p:=⟨ln,1,none⟩) (by have:=HT1.o.size;show ln<_;omega) (λh=>h)).trans hk1;have HM:Hid _:=hm;have HT2:Hid (Tch NoB w w2):=HT1.o.trans ht2 noE;clear hm ht2)))
 all_goals
  go_wp2
  go_ret2
  exact ⟨m,rfl,HM.o,HT2.o⟩
theorem Jh7 (E:Nat->Addr) (wd:Nat) (hw1:1<=wd) (hw:wd<=32) (F:Nat->Prop) (rv:Option Addr) (k:Key) (o:Nat×Nat) (hk:TrOk wd (.leaf k o)) (d:Nat) (hd:d<8 * (wd+1)) (t:Tr) (n ln:Nat) (w:World) (hE:Env E w) (hF:∀j,w.heap.size<=j->F j) (hn:Jf (dgW wd) F w n t) (hln:Jf (dgW wd) F w ln (.leaf k o))
  (hc:∀W,Tch NoB w W->Calls prog 224 #[.pointer (some ⟨n,0,none⟩)] W λe w'=>e=.returned (.bool false)/\w'=W) (b:Nat) (hb4:w.cell? ⟨n,4,none⟩=some (.int .i64 (b:Int))) (hdb:d<b):
  Calls prog 270 #[.agg #[.int .i64 (wd:Int),.pointer rv],.pointer (some ⟨n,0,none⟩),.pointer (some ⟨ln,0,none⟩),.int .i64 (d:Int)] w λe w'=>∃m,e=.returned (.tuple #[.pointer (some ⟨m,0,none⟩),.nilIface])/\Jf (dgW wd) F w' m (Tr.pair t (.leaf k o) d (bt k d))/\Tch NoB w w':=by
 have HC:Hid (∀W,_):=hc
 have hkl:k.length=wd+1:=hk.1
 have hdi:(d:Int)<(b:Int):=by omega
 have hnt:=hn.own.2
 have hlt:=hln.own.2
 have clk:w.cell? ⟨ln,1,none⟩=some (.string ⟨k.toArray⟩):=by cases hln with | leaf _ _ _ _ hr=>exact Ja hr
 have HBIT:Hid (∀W,Calls prog 288 #[.string ⟨k.toArray⟩,.int .i64 (d:Int)] W λe w'=>e=.returned (.int .i64 (bt k d:Int))/\w'=W):=λW=>Xb k d (by omega) (by omega) W
 have HF:Hid _:=hF
 have HPR:Hid (∃a b l r,(if bt k d=0 then Value.agg #[.pointer (some ⟨ln,0,none⟩),.pointer (some ⟨n,0,none⟩)] else .agg #[.pointer (some ⟨n,0,none⟩),.pointer (some ⟨ln,0,none⟩)])=.agg #[.pointer (some ⟨a,0,none⟩),.pointer (some ⟨b,0,none⟩)]/\Tr.pair t (.leaf k o) d (bt k d)=.br d l r/\Jf (dgW wd) F w a l/\Jf (dgW wd) F w b r):=by
  unfold Tr.pair
  by_cases hb:bt k d=0
  ·rw [if_pos hb,if_pos hb];exact ⟨_,_,_,_,rfl,rfl,hln,hn⟩
  ·rw [if_neg hb,if_neg hb];exact ⟨_,_,_,_,rfl,rfl,hn,hln⟩
 obtain ⟨pa,pb,pl,pr,hpe,hpt,hpl,hpr⟩:=HPR.o
 have HPW:Hid (∀W,Calls prog 333 #[.pointer (some ⟨n,0,none⟩),.pointer (some ⟨ln,0,none⟩),.int .i64 (bt k d:Int)] W λe w'=>e=.returned (.agg #[.pointer (some ⟨pa,0,none⟩),.pointer (some ⟨pb,0,none⟩)])/\Tch NoB W w'):=λW=>by
  have:=Yy (some ⟨n,0,none⟩) (some ⟨ln,0,none⟩) (bt k d) W
  rw [hpe] at this
  exact this
 have HNB:Hid (∀W,Tch NoB w W->Calls prog 332 #[.int .i64 (wd:Int),.int .i64 (d:Int),.agg #[.pointer (some ⟨pa,0,none⟩),.pointer (some ⟨pb,0,none⟩)]] W λe w'=>∃m,e=.returned (.tuple #[.pointer (some ⟨m,0,none⟩),.nilIface])/\Jf (dgW wd) F w' m (Tr.pair t (.leaf k o) d (bt k d))/\Tch NoB W w'):=λW hT=>by
  refine (XD E wd hw1 hw d pa pb pl pr F hd W (hE.tch hT noE) (hpl.next hT) (hpr.next hT)).mono ?_
  rintro e w' ⟨m,rfl,h1,h2,h3⟩
  refine ⟨m,rfl,?_,h3⟩
  rw [hpt]
  exact .br m d pa pb pl pr (HF.o m (Qm hT.size h1)) h2 ((hpl.next hT).next h3) ((hpr.next hT).next h3)
 clear hc hE hn hln hpe hpt hpl hpr HPR hF hk
 generalize (⟨k.toArray⟩:BA)=kb at *
 generalize Tr.pair t (.leaf k o) d (bt k d)=tr at *
 generalize bt k d=bk at *
 go_enter func270,ntmps270
 go_wp2_with fail
 refine (HC.o _ (Tch.alloc _ _ _)).mono ?_
 rintro _ _ ⟨rfl,rfl⟩
 have HA:Hid (Tch NoB w (w.alloc (.cells #[.int .i64 (wd:Int),.pointer rv] 146)).drew):=(Tch.alloc NoB w _).trans (Tch.drewN _ _ 1) (λ_ h=>.inl h)
 clear HC
 go_wp2_with fail
 go_region_held3 (λW=>W.cell? ⟨w.heap.size,0,none⟩=some (.int .i64 (wd:Int))/\W.cell? ⟨ln,1,none⟩=some (.string kb)) (go_keep) ((first | (go_at_call 288;refine (HBIT.o _).mono ?_;rintro _ _ ⟨rfl,rfl⟩) | (go_at_call 333;refine (HPW.o _).mono ?_;rintro _ w1 ⟨rfl,ht1⟩;have hz1:w.heap.size<w1.heap.size:=Qk (by simp) ht1.size;have hk0:w1.cell? ⟨w.heap.size,0,none⟩=some (.int .i64 (wd:Int)):=(ht1.cell (p:=⟨w.heap.size,0,none⟩) (by simp) (λh=>h)).trans (Ja (Qf _ _));have hk1:w1.cell? ⟨ln,1,none⟩=some (.string kb):=((HA.o.trans ht1 noE).cell (p:=⟨ln,1,none⟩) hlt (λh=>h)).trans clk;have HT1:Hid (Tch NoB w w1):=HA.o.trans ht1 noE;clear ht1) | (go_at_call 332;refine (HNB.o _ HT1.o).mono ?_;rintro _ w2 ⟨m,rfl,hm,ht2⟩;have hj0:=(ht2.cell (p:=⟨w.heap.size,0,none⟩) hz1 (λh=>h)).trans hk0;have hj1:=(ht2.cell (p:=⟨ln,1,none⟩) (by have:=HT1.o.size;show ln<_;omega) (λh=>h)).trans hk1;have HM:Hid _:=hm;have HT2:Hid (Tch NoB w w2):=HT1.o.trans ht2 noE;clear hm ht2)))
 all_goals
  go_wp2
  go_ret2
  exact ⟨m,rfl,HM.o,HT2.o⟩
theorem JjV (E:Nat->Addr) (wd:Nat) (hw1:1<=wd) (hw:wd<=32) (F:Nat->Prop) (rv:Option Addr) (k:Key) (o:Nat×Nat) (hk:TrOk wd (.leaf k o)) (d:Nat) (b:Nat) (hb:b<8 * (wd+1)) (hdb:¬d<b) (l r:Tr) (n nl nr ln:Nat) (w:World) (hE:Env E w) (hF:∀j,w.heap.size<=j->F j) (hrow:w.heap[n]? =some (.cells (brC (Tr.dig (dgW wd) (.br b l r)) b nl nr) 243)) (hnl:Jf (dgW wd) F w nl l) (hnr:Jf (dgW wd) F w nr r) (hln:Jf (dgW wd) F w ln (.leaf k o))
  (ih:∀(s:Nat) (tg:Tr),((s=nl/\tg=l.graft k o d/\bt k b=0)\/(s=nr/\tg=r.graft k o d/\bt k b ≠ 0))->∀W,Tch NoB w W->Calls prog 270 #[.agg #[.int .i64 (wd:Int),.pointer rv],.pointer (some ⟨s,0,none⟩),.pointer (some ⟨ln,0,none⟩),.int .i64 (d:Int)] W λe w'=>∃m,e=.returned (.tuple #[.pointer (some ⟨m,0,none⟩),.nilIface])/\Jf (dgW wd) F w' m tg/\Tch NoB W w'):
  Calls prog 270 #[.agg #[.int .i64 (wd:Int),.pointer rv],.pointer (some ⟨n,0,none⟩),.pointer (some ⟨ln,0,none⟩),.int .i64 (d:Int)] w λe w'=>∃m,e=.returned (.tuple #[.pointer (some ⟨m,0,none⟩),.nilIface])/\Jf (dgW wd) F w' m (Tr.graft k o d (.br b l r))/\Tch NoB w w':=by
 have hkl:k.length=wd+1:=hk.1
 have hlt:=hln.own.2
 have hnt:n<w.heap.size:=(Jb hrow)
 have clk:w.cell? ⟨ln,1,none⟩=some (.string ⟨k.toArray⟩):=by cases hln with | leaf _ _ _ _ hr=>exact Ja hr
 have c4:w.cell? ⟨n,4,none⟩=some (.int .i64 (b:Int)):=Ja hrow
 have c5:w.cell? ⟨n,5,none⟩=some (.pointer (some ⟨nl,0,none⟩)):=Ja hrow
 have c6:w.cell? ⟨n,6,none⟩=some (.pointer (some ⟨nr,0,none⟩)):=Ja hrow
 have HBIT:Hid (∀W,Calls prog 288 #[.string ⟨k.toArray⟩,.int .i64 (b:Int)] W λe w'=>e=.returned (.int .i64 (bt k b:Int))/\w'=W):=λW=>Xb k b (by omega) (by omega) W
 have HIL:Hid (∀W,Tch NoB w W->Calls prog 224 #[.pointer (some ⟨n,0,none⟩)] W λe w'=>e=.returned (.bool false)/\w'=W):=λW hT=>Yw n _ b nl nr W ((hT.block n hnt (λh=>h)).trans hrow)
 have hdi:¬(d:Int)<(b:Int):=by omega
 have hbt:=YH k b
 have HIH:Hid _:=ih
 clear ih hk hrow
 have hsd:(bt k b=0/\Tr.graft k o d (.br b l r)=.br b (l.graft k o d) r)\/(bt k b=1/\Tr.graft k o d (.br b l r)=.br b l (r.graft k o d)):=by
  simp only [Tr.graft]
  rw [if_neg hdb]
  by_cases h0:bt k b=0
  ·exact .inl ⟨h0,by rw [if_pos h0]⟩
  ·exact .inr ⟨by omega,by rw [if_neg h0]⟩
 generalize (⟨k.toArray⟩:BA)=kb at *
 have HE:Hid (Env E w):=hE
 have HF:Hid _:=hF
 have HNL:Hid _:=hnl
 have HNR:Hid _:=hnr
 clear hE hF hnl hnr hln hdb hbt
 rcases hsd with ⟨h0,hg⟩ | ⟨h1,hg⟩
 ·rw [hg]
  have HB0:Hid _:=h0
  rw [h0] at HBIT
  have HREC:Hid (∀W,Tch NoB w W->Calls prog 270 #[.agg #[.int .i64 (wd:Int),.pointer rv],.pointer (some ⟨nl,0,none⟩),.pointer (some ⟨ln,0,none⟩),.int .i64 (d:Int)] W λe w'=>∃m,e=.returned (.tuple #[.pointer (some ⟨m,0,none⟩),.nilIface])/\Jf (dgW wd) F w' m (l.graft k o d)/\Tch NoB W w'):=HIH.o nl (l.graft k o d) (.inl ⟨rfl,rfl,h0⟩)
  have HPW:Hid (∀(m:Nat) W,Calls prog 333 #[.pointer (some ⟨nr,0,none⟩),.pointer (some ⟨m,0,none⟩),.int .i64 0] W λe w'=>e=.returned (.agg #[.pointer (some ⟨m,0,none⟩),.pointer (some ⟨nr,0,none⟩)])/\Tch NoB W w'):=λm W=>Yy (some ⟨nr,0,none⟩) (some ⟨m,0,none⟩) 0 W
  have HNB:Hid (∀(m:Nat) W,Tch NoB w W->Jf (dgW wd) F W m (l.graft k o d)->Calls prog 332 #[.int .i64 (wd:Int),.int .i64 (b:Int),.agg #[.pointer (some ⟨m,0,none⟩),.pointer (some ⟨nr,0,none⟩)]] W λe w'=>∃q,e=.returned (.tuple #[.pointer (some ⟨q,0,none⟩),.nilIface])/\Jf (dgW wd) F w' q (.br b (l.graft k o d) r)/\Tch NoB W w'):=λm W hT hm=>by
   refine (XD E wd hw1 hw b m nr (l.graft k o d) r F hb W (HE.o.tch hT noE) hm (HNR.o.next hT)).mono ?_
   rintro e w' ⟨q,rfl,h1,h2,h3⟩
   exact ⟨q,rfl,.br q b m nr (l.graft k o d) r (HF.o q (Qm hT.size h1)) h2 (hm.next h3) ((HNR.o.next hT).next h3),h3⟩
  clear hg h0 HIH
  go_enter func270,ntmps270
  go_wp2_with fail
  refine (HIL.o _ (Tch.alloc _ _ _)).mono ?_
  rintro _ _ ⟨rfl,rfl⟩
  have hA0:Tch NoB w (w.alloc (.cells #[.int .i64 (wd:Int),.pointer rv] 146)):=Tch.alloc _ _ _
  obtain ⟨wA,hwA⟩:∃wA,wA=w.alloc (.cells #[.int .i64 (wd:Int),.pointer rv] 146):=⟨_,rfl⟩
  rw [<-hwA] at hA0 ⊢
  have hrA:wA.heap[w.heap.size]? =some (.cells #[.int .i64 (wd:Int),.pointer rv] 146):=by rw [hwA];exact Qf _ _
  have hzA:w.heap.size<wA.heap.size:=(Jb hrA)
  have HCL:Hid (∀W,Tch NoB wA W->(W.cell? ⟨w.heap.size,0,none⟩=some (.int .i64 (wd:Int))/\W.cell? ⟨w.heap.size,1,none⟩=some (.pointer rv)/\W.cell? ⟨ln,1,none⟩=some (.string kb)/\W.cell? ⟨n,4,none⟩=some (.int .i64 (b:Int))/\W.cell? ⟨n,5,none⟩=some (.pointer (some ⟨nl,0,none⟩))/\W.cell? ⟨n,6,none⟩=some (.pointer (some ⟨nr,0,none⟩)))/\Tch NoB w W):=λW hT=>
   ⟨⟨(hT.cell (p:=⟨w.heap.size,0,none⟩) hzA (λh=>h)).trans (Ja hrA),(hT.cell (p:=⟨w.heap.size,1,none⟩) hzA (λh=>h)).trans (Ja hrA),((hA0.trans hT noE).cell (p:=⟨ln,1,none⟩) hlt (λh=>h)).trans clk,((hA0.trans hT noE).cell (p:=⟨n,4,none⟩) hnt (λh=>h)).trans c4,((hA0.trans hT noE).cell (p:=⟨n,5,none⟩) hnt (λh=>h)).trans c5,((hA0.trans hT noE).cell (p:=⟨n,6,none⟩) hnt (λh=>h)).trans c6⟩,hA0.trans hT noE⟩
  obtain ⟨⟨a0,a1,a2,a3,a4,a5⟩,_⟩:=HCL.o wA (Tch.refl _ _)
  clear hA0 hrA hwA clk c4 c5 c6
  go_wp2_with fail
  go_region_held3 (λW=>W.cell? ⟨ln,1,none⟩=some (.string kb)/\W.cell? ⟨n,4,none⟩=some (.int .i64 (b:Int))) (go_keep) ((go_at_call 288;refine (HBIT.o _).mono ?_;rintro _ _ ⟨rfl,rfl⟩))
  have HTW:Hid (∀q,Tch NoB w (wA.drewN q)):=λq=>(HCL.o _ (Tch.drewN _ wA q)).2
  clear HBIT
  go_wp2_with fail
  go_region_held3 (λW=>W.cell? ⟨w.heap.size,0,none⟩=some (.int .i64 (wd:Int))/\W.cell? ⟨w.heap.size,1,none⟩=some (.pointer rv)/\W.cell? ⟨n,5,none⟩=some (.pointer (some ⟨nl,0,none⟩))/\W.cell? ⟨n,6,none⟩=some (.pointer (some ⟨nr,0,none⟩))) (go_keep) ((go_at_call 270;refine (HREC.o _ (HTW.o 2)).mono ?_;rintro _ w2 ⟨m,rfl,hm,ht2⟩;have hT2:Tch NoB wA w2:=(Tch.drewN NoB wA 2).trans ht2 noE;obtain ⟨⟨b0,b1,b2,b3,b4,b5⟩,hTw2⟩:=HCL.o w2 hT2;have HM:Hid _:=hm;have HT2:Hid _:=hT2;have HW2:Hid _:=hTw2;clear hm ht2 hT2 hTw2))
  all_goals
   clear HREC a0 a1 a2 a3 a4 a5 HTW
   have hz0:IntKind.i64.wrap 0=0:=by decide
   have hz1:IntKind.i64.wrap 1=1:=by decide
   have HTW:Hid (∀q,Tch NoB wA (w2.drewN q)):=λq=>HT2.o.trans (Tch.drewN NoB w2 q) noE
   go_wp2_with fail
   go_region_held3 (λW=>W.cell? ⟨w.heap.size,0,none⟩=some (.int .i64 (wd:Int))/\W.cell? ⟨n,4,none⟩=some (.int .i64 (b:Int))/\W.cell? ⟨n,5,none⟩=some (.pointer (some ⟨nl,0,none⟩))/\W.cell? ⟨n,6,none⟩=some (.pointer (some ⟨nr,0,none⟩))) (go_keep) ((first | (go_at_call 333;refine (HPW.o m _).mono ?_;rintro _ w3 ⟨rfl,ht3⟩;have hT3:Tch NoB wA w3:=(HTW.o 1).trans ht3 noE;obtain ⟨⟨d0,d1,d2,d3,d4,d5⟩,hTw3⟩:=HCL.o w3 hT3;have HM3:Hid (Jf (dgW wd) F w3 m _):=(HM.o.next (Tch.drewN NoB w2 1)).next ht3;have HT3:Hid _:=hT3;have HW3:Hid _:=hTw3;clear ht3 hT3 hTw3) | (go_at_call 332;refine (HNB.o m _ HW3.o HM3.o).mono ?_;rintro _ w4 ⟨q,rfl,hq,ht4⟩;have hT4:Tch NoB wA w4:=HT3.o.trans ht4 noE;obtain ⟨⟨f0,f1,f2,f3,f4,f5⟩,hTw4⟩:=HCL.o w4 hT4;have HQ:Hid _:=hq;have HW4:Hid _:=hTw4;clear ht4 hT4 hq hTw4)))
   all_goals
    go_wp2
    go_ret2
    exact ⟨q,rfl,HQ.o,HW4.o⟩
 ·rw [hg]
  have HB0:Hid _:=h1
  rw [h1] at HBIT
  have HREC:Hid (∀W,Tch NoB w W->Calls prog 270 #[.agg #[.int .i64 (wd:Int),.pointer rv],.pointer (some ⟨nr,0,none⟩),.pointer (some ⟨ln,0,none⟩),.int .i64 (d:Int)] W λe w'=>∃m,e=.returned (.tuple #[.pointer (some ⟨m,0,none⟩),.nilIface])/\Jf (dgW wd) F w' m (r.graft k o d)/\Tch NoB W w'):=HIH.o nr (r.graft k o d) (.inr ⟨rfl,rfl,by omega⟩)
  have HPW:Hid (∀(m:Nat) W,Calls prog 333 #[.pointer (some ⟨nl,0,none⟩),.pointer (some ⟨m,0,none⟩),.int .i64 1] W λe w'=>e=.returned (.agg #[.pointer (some ⟨nl,0,none⟩),.pointer (some ⟨m,0,none⟩)])/\Tch NoB W w'):=λm W=>Yy (some ⟨nl,0,none⟩) (some ⟨m,0,none⟩) 1 W
  have HNB:Hid (∀(m:Nat) W,Tch NoB w W->Jf (dgW wd) F W m (r.graft k o d)->Calls prog 332 #[.int .i64 (wd:Int),.int .i64 (b:Int),.agg #[.pointer (some ⟨nl,0,none⟩),.pointer (some ⟨m,0,none⟩)]] W λe w'=>∃q,e=.returned (.tuple #[.pointer (some ⟨q,0,none⟩),.nilIface])/\Jf (dgW wd) F w' q (.br b l (r.graft k o d))/\Tch NoB W w'):=λm W hT hm=>by
   refine (XD E wd hw1 hw b nl m l (r.graft k o d) F hb W (HE.o.tch hT noE) (HNL.o.next hT) hm).mono ?_
   rintro e w' ⟨q,rfl,h1,h2,h3⟩
   exact ⟨q,rfl,.br q b nl m l (r.graft k o d) (HF.o q (Qm hT.size h1)) h2 ((HNL.o.next hT).next h3) (hm.next h3),h3⟩
  clear hg h1 HIH
  go_enter func270,ntmps270
  go_wp2_with fail
  refine (HIL.o _ (Tch.alloc _ _ _)).mono ?_
  rintro _ _ ⟨rfl,rfl⟩
  have hA0:Tch NoB w (w.alloc (.cells #[.int .i64 (wd:Int),.pointer rv] 146)):=Tch.alloc _ _ _
  obtain ⟨wA,hwA⟩:∃wA,wA=w.alloc (.cells #[.int .i64 (wd:Int),.pointer rv] 146):=⟨_,rfl⟩
  rw [<-hwA] at hA0 ⊢
  have hrA:wA.heap[w.heap.size]? =some (.cells #[.int .i64 (wd:Int),.pointer rv] 146):=by rw [hwA];exact Qf _ _
  have hzA:w.heap.size<wA.heap.size:=(Jb hrA)
  have HCL:Hid (∀W,Tch NoB wA W->(W.cell? ⟨w.heap.size,0,none⟩=some (.int .i64 (wd:Int))/\W.cell? ⟨w.heap.size,1,none⟩=some (.pointer rv)/\W.cell? ⟨ln,1,none⟩=some (.string kb)/\W.cell? ⟨n,4,none⟩=some (.int .i64 (b:Int))/\W.cell? ⟨n,5,none⟩=some (.pointer (some ⟨nl,0,none⟩))/\W.cell? ⟨n,6,none⟩=some (.pointer (some ⟨nr,0,none⟩)))/\Tch NoB w W):=λW hT=>
   ⟨⟨(hT.cell (p:=⟨w.heap.size,0,none⟩) hzA (λh=>h)).trans (Ja hrA),(hT.cell (p:=⟨w.heap.size,1,none⟩) hzA (λh=>h)).trans (Ja hrA),((hA0.trans hT noE).cell (p:=⟨ln,1,none⟩) hlt (λh=>h)).trans clk,((hA0.trans hT noE).cell (p:=⟨n,4,none⟩) hnt (λh=>h)).trans c4,((hA0.trans hT noE).cell (p:=⟨n,5,none⟩) hnt (λh=>h)).trans c5,((hA0.trans hT noE).cell (p:=⟨n,6,none⟩) hnt (λh=>h)).trans c6⟩,hA0.trans hT noE⟩
  obtain ⟨⟨a0,a1,a2,a3,a4,a5⟩,_⟩:=HCL.o wA (Tch.refl _ _)
  clear hA0 hrA hwA clk c4 c5 c6
  go_wp2_with fail
  go_region_held3 (λW=>W.cell? ⟨ln,1,none⟩=some (.string kb)/\W.cell? ⟨n,4,none⟩=some (.int .i64 (b:Int))) (go_keep) ((go_at_call 288;refine (HBIT.o _).mono ?_;rintro _ _ ⟨rfl,rfl⟩))
  have HTW:Hid (∀q,Tch NoB w (wA.drewN q)):=λq=>(HCL.o _ (Tch.drewN _ wA q)).2
  clear HBIT
  go_wp2_with fail
  go_region_held3 (λW=>W.cell? ⟨w.heap.size,0,none⟩=some (.int .i64 (wd:Int))/\W.cell? ⟨w.heap.size,1,none⟩=some (.pointer rv)/\W.cell? ⟨n,5,none⟩=some (.pointer (some ⟨nl,0,none⟩))/\W.cell? ⟨n,6,none⟩=some (.pointer (some ⟨nr,0,none⟩))) (go_keep) ((go_at_call 270;refine (HREC.o _ (HTW.o 2)).mono ?_;rintro _ w2 ⟨m,rfl,hm,ht2⟩;have hT2:Tch NoB wA w2:=(Tch.drewN NoB wA 2).trans ht2 noE;obtain ⟨⟨b0,b1,b2,b3,b4,b5⟩,hTw2⟩:=HCL.o w2 hT2;have HM:Hid _:=hm;have HT2:Hid _:=hT2;have HW2:Hid _:=hTw2;clear hm ht2 hT2 hTw2))
  all_goals
   clear HREC a0 a1 a2 a3 a4 a5 HTW
   have hz0:IntKind.i64.wrap 0=0:=by decide
   have hz1:IntKind.i64.wrap 1=1:=by decide
   have HTW:Hid (∀q,Tch NoB wA (w2.drewN q)):=λq=>HT2.o.trans (Tch.drewN NoB w2 q) noE
   go_wp2_with fail
   go_region_held3 (λW=>W.cell? ⟨w.heap.size,0,none⟩=some (.int .i64 (wd:Int))/\W.cell? ⟨n,4,none⟩=some (.int .i64 (b:Int))/\W.cell? ⟨n,5,none⟩=some (.pointer (some ⟨nl,0,none⟩))/\W.cell? ⟨n,6,none⟩=some (.pointer (some ⟨nr,0,none⟩))) (go_keep) ((first | (go_at_call 333;refine (HPW.o m _).mono ?_;rintro _ w3 ⟨rfl,ht3⟩;have hT3:Tch NoB wA w3:=(HTW.o 1).trans ht3 noE;obtain ⟨⟨d0,d1,d2,d3,d4,d5⟩,hTw3⟩:=HCL.o w3 hT3;have HM3:Hid (Jf (dgW wd) F w3 m _):=(HM.o.next (Tch.drewN NoB w2 1)).next ht3;have HT3:Hid _:=hT3;have HW3:Hid _:=hTw3;clear ht3 hT3 hTw3) | (go_at_call 332;refine (HNB.o m _ HW3.o HM3.o).mono ?_;rintro _ w4 ⟨q,rfl,hq,ht4⟩;have hT4:Tch NoB wA w4:=HT3.o.trans ht4 noE;obtain ⟨⟨f0,f1,f2,f3,f4,f5⟩,hTw4⟩:=HCL.o w4 hT4;have HQ:Hid _:=hq;have HW4:Hid _:=hTw4;clear ht4 hT4 hq hTw4)))
   all_goals
    go_wp2
    go_ret2
    exact ⟨q,rfl,HQ.o,HW4.o⟩
theorem Jh6 (E:Nat->Addr) (wd:Nat) (hw1:1<=wd) (hw:wd<=32) (F:Nat->Prop) (rv:Option Addr) (k:Key) (o:Nat×Nat) (hk:TrOk wd (.leaf k o)) (d:Nat) (hd:d<8 * (wd+1)) (ln:Nat):∀(t:Tr) (n:Nat) (w:World),TrOk wd t->Env E w->(∀j,w.heap.size<=j->F j)->Jf (dgW wd) F w n t->Jf (dgW wd) F w ln (.leaf k o)->
  Calls prog 270 #[.agg #[.int .i64 (wd:Int),.pointer rv],.pointer (some ⟨n,0,none⟩),.pointer (some ⟨ln,0,none⟩),.int .i64 (d:Int)] w λe w'=>∃m,e=.returned (.tuple #[.pointer (some ⟨m,0,none⟩),.nilIface])/\Jf (dgW wd) F w' m (t.graft k o d)/\Tch NoB w w':=by
 intro t
 induction t with
 | leaf k' o'=>
  intro n w _ hE hF hn hln
  refine Jh8 E wd hw1 hw F rv k o hk d hd (.leaf k' o') n ln w hE hF hn hln (λW hT=>?_)
  cases hn with
  | leaf _ _ _ _ hr=>exact Jak n _ k' o' W ((hT.block n (Jb hr) (λh=>h)).trans hr)
 | br b l r ihl ihr=>
  intro n w hok hE hF hn hln
  obtain ⟨hb,hokl,hokr⟩:=hok
  have hn':=hn
  cases hn with
  | br _ _ nl nr _ _ hFn hr hnl hnr=>
   by_cases hdb:d<b
   ·have:=Jh7 E wd hw1 hw F rv k o hk d hd (.br b l r) n ln w hE hF hn' hln (λW hT=>Yw n _ b nl nr W ((hT.block n (Jb hr) (λh=>h)).trans hr)) b (Ja hr) hdb
    have e:Tr.graft k o d (.br b l r)=Tr.pair (.br b l r) (.leaf k o) d (bt k d):=by simp only [Tr.graft];rw [if_pos hdb]
    rw [e]
    exact this
   ·refine JjV E wd hw1 hw F rv k o hk d b hb hdb l r n nl nr ln w hE hF hr hnl hnr hln ?_
    rintro s tg (⟨rfl,rfl,_⟩ | ⟨rfl,rfl,_⟩) W hT
    ·exact ihl s W hokl (hE.tch hT noE) (λj hj=>hF j (Qm hT.size hj)) (hnl.next hT) (hln.next hT)
    ·exact ihr s W hokr (hE.tch hT noE) (λj hj=>hF j (Qm hT.size hj)) (hnr.next hT) (hln.next hT)

def StAt (d:List UInt8->BA) (F:Nat->Prop) (w:World):Option Nat->Option Tr->Prop
 | none,none=>True
 | some n,some t=>Jf d F w n t
 | _,_=>False
abbrev Jk (q:Option Nat):Value:=.pointer (q.map λn=>⟨n,0,none⟩)
theorem StAt.tch {d:List UInt8->BA} {F:Nat->Prop} {w w':World} {q:Option Nat} {st:Option Tr} {S:Nat->Prop} (h:StAt d F w q st) (k:Tch S w w') (hs:∀j,S j->¬F j):StAt d F w' q st:=by
 cases q <;> cases st <;> first | exact h | exact Jf.tch h k hs
theorem StAt.next {d:List UInt8->BA} {F:Nat->Prop} {w w':World} {q:Option Nat} {st:Option Tr} (h:StAt d F w q st) (k:Tch NoB w w'):StAt d F w' q st:=h.tch k noE
theorem StAt.mono {d:List UInt8->BA} {F F':Nat->Prop} {w:World} {q:Option Nat} {st:Option Tr} (h:StAt d F w q st) (hF:∀j,F j->F' j):StAt d F' w q st:=by
 cases q <;> cases st <;> first | exact h | exact Jf.mono h hF
def StOk (wd:Nat):Option Tr->Prop
 | none=>True
 | some t=>TrOk wd t
abbrev Jaf (wd:Nat) (F:Nat->Prop) (r:Option Tr) (W:World) (e:Ending) (w':World):Prop:=∃q,e=.returned (.tuple #[Jk q,.nilIface])/\StAt (dgW wd) F w' q r/\Tch NoB W w'
theorem StAt.of_some {d:List UInt8->BA} {F:Nat->Prop} {w:World} {q:Option Nat} {t:Tr} (h:StAt d F w q (some t)):∃m,q=Option.some m/\Jf d F w m t:=by
 cases q with
 | none=>exact h.elim
 | some m=>exact ⟨m,rfl,h⟩
theorem StAt.of_none {d:List UInt8->BA} {F:Nat->Prop} {w:World} {q:Option Nat} (h:StAt d F w q Option.none):q=Option.none:=by
 cases q with
 | none=>rfl
 | some m=>exact h.elim
theorem JjI (wd:Nat) (F:Nat->Prop) (rv:Option Addr) (k:Key) (n:Nat) (w:World) (k':Key) (o':Nat×Nat) (hn:Jf (dgW wd) F w n (.leaf k' o')):
  Calls prog 339 #[.agg #[.int .i64 (wd:Int),.pointer rv],.pointer (some ⟨n,0,none⟩),.string ⟨k.toArray⟩] w λe w'=>Jaf wd F none w e w':=by
 have HIL:Hid (∀W,Tch NoB w W->Calls prog 224 #[.pointer (some ⟨n,0,none⟩)] W λe w'=>e=.returned (.bool true)/\w'=W):=λW hT=>by
  cases hn with
  | leaf _ _ _ _ hr=>exact Jak n _ k' o' W ((hT.block n (Jb hr) (λh=>h)).trans hr)
 clear hn
 generalize (⟨k.toArray⟩:BA)=kb at *
 go_enter func339,ntmps339
 go_wp2_with fail
 refine (HIL.o _ (Tch.alloc _ _ _)).mono ?_
 rintro _ _ ⟨rfl,rfl⟩
 go_wp2
 go_ret2
 exact ⟨none,rfl,trivial,Tch.alloc _ _ _⟩
theorem JhM (E:Nat->Addr) (wd:Nat) (hw1:1<=wd) (hw:wd<=32) (F:Nat->Prop) (rv:Option Addr) (k:Key) (hkl:k.length=wd+1) (b:Nat) (hb:b<8 * (wd+1)) (l r:Tr) (n nl nr:Nat) (w:World) (hE:Env E w) (hF:∀j,w.heap.size<=j->F j) (hrow:w.heap[n]? =some (.cells (brC (Tr.dig (dgW wd) (.br b l r)) b nl nr) 243)) (hnl:Jf (dgW wd) F w nl l) (hnr:Jf (dgW wd) F w nr r) (hbt:bt k b=0) (s:Tr)
  (ih:∀W,Tch NoB w W->Calls prog 339 #[.agg #[.int .i64 (wd:Int),.pointer rv],.pointer (some ⟨nl,0,none⟩),.string ⟨k.toArray⟩] W λe w'=>Jaf wd F (some s) W e w'):
  Calls prog 339 #[.agg #[.int .i64 (wd:Int),.pointer rv],.pointer (some ⟨n,0,none⟩),.string ⟨k.toArray⟩] w λe w'=>Jaf wd F (some (.br b s r)) w e w':=by
 have hnt:n<w.heap.size:=(Jb hrow)
 have c4:w.cell? ⟨n,4,none⟩=some (.int .i64 (b:Int)):=Ja hrow
 have c5:w.cell? ⟨n,5,none⟩=some (.pointer (some ⟨nl,0,none⟩)):=Ja hrow
 have c6:w.cell? ⟨n,6,none⟩=some (.pointer (some ⟨nr,0,none⟩)):=Ja hrow
 have HBIT:Hid (∀W,Calls prog 288 #[.string ⟨k.toArray⟩,.int .i64 (b:Int)] W λe w'=>e=.returned (.int .i64 0)/\W=w'):=λW=>by
  have:=Xb k b (by omega) (by omega) W
  rw [hbt] at this
  exact this.mono λe w' h=>⟨h.1,h.2.symm⟩
 have HIL:Hid (∀W,Tch NoB w W->Calls prog 224 #[.pointer (some ⟨n,0,none⟩)] W λe w'=>e=.returned (.bool false)/\w'=W):=λW hT=>Yw n _ b nl nr W ((hT.block n hnt (λh=>h)).trans hrow)
 have HREC:Hid _:=ih
 have HE:Hid (Env E w):=hE
 have HF:Hid _:=hF
 have HNL:Hid _:=hnl
 have HNR:Hid _:=hnr
 have HPW:Hid (∀(m:Nat) W,Calls prog 333 #[.pointer (some ⟨nr,0,none⟩),.pointer (some ⟨m,0,none⟩),.int .i64 0] W λe w'=>e=.returned (.agg #[.pointer (some ⟨m,0,none⟩),.pointer (some ⟨nr,0,none⟩)])/\Tch NoB W w'):=λm W=>Yy (some ⟨nr,0,none⟩) (some ⟨m,0,none⟩) 0 W
 have HNB:Hid (∀(m:Nat) W,Tch NoB w W->Jf (dgW wd) F W m s->Calls prog 332 #[.int .i64 (wd:Int),.int .i64 (b:Int),.agg #[.pointer (some ⟨m,0,none⟩),.pointer (some ⟨nr,0,none⟩)]] W λe w'=>∃q,e=.returned (.tuple #[.pointer (some ⟨q,0,none⟩),.nilIface])/\Jf (dgW wd) F w' q (.br b s r)/\Tch NoB W w'):=λm W hT hm=>by
  refine (XD E wd hw1 hw b m nr s r F hb W (HE.o.tch hT noE) hm (HNR.o.next hT)).mono ?_
  rintro e w' ⟨q,rfl,h1,h2,h3⟩
  exact ⟨q,rfl,.br q b m nr s r (HF.o q (Qm hT.size h1)) h2 (hm.next h3) ((HNR.o.next hT).next h3),h3⟩
 clear ih hrow hE hF hnl hnr hbt
 generalize (⟨k.toArray⟩:BA)=kb at *
 go_enter func339,ntmps339
 go_wp2_with fail
 refine (HIL.o _ (Tch.alloc _ _ _)).mono ?_
 rintro _ _ ⟨rfl,rfl⟩
 have hA0:Tch NoB w (w.alloc (.cells #[.int .i64 (wd:Int),.pointer rv] 146)):=Tch.alloc _ _ _
 obtain ⟨wA,hwA⟩:∃wA,wA=w.alloc (.cells #[.int .i64 (wd:Int),.pointer rv] 146):=⟨_,rfl⟩
 rw [<-hwA] at hA0 ⊢
 have hrA:wA.heap[w.heap.size]? =some (.cells #[.int .i64 (wd:Int),.pointer rv] 146):=by rw [hwA];exact Qf _ _
 have hzA:w.heap.size<wA.heap.size:=(Jb hrA)
 have HCL:Hid (∀W,Tch NoB wA W->(W.cell? ⟨w.heap.size,0,none⟩=some (.int .i64 (wd:Int))/\W.cell? ⟨w.heap.size,1,none⟩=some (.pointer rv)/\W.cell? ⟨n,4,none⟩=some (.int .i64 (b:Int))/\W.cell? ⟨n,5,none⟩=some (.pointer (some ⟨nl,0,none⟩))/\W.cell? ⟨n,6,none⟩=some (.pointer (some ⟨nr,0,none⟩)))/\Tch NoB w W):=λW hT=>
  ⟨⟨(hT.cell (p:=⟨w.heap.size,0,none⟩) hzA (λh=>h)).trans (Ja hrA),(hT.cell (p:=⟨w.heap.size,1,none⟩) hzA (λh=>h)).trans (Ja hrA),((hA0.trans hT noE).cell (p:=⟨n,4,none⟩) hnt (λh=>h)).trans c4,((hA0.trans hT noE).cell (p:=⟨n,5,none⟩) hnt (λh=>h)).trans c5,((hA0.trans hT noE).cell (p:=⟨n,6,none⟩) hnt (λh=>h)).trans c6⟩,hA0.trans hT noE⟩
 obtain ⟨⟨a0,a1,a3,a4,a5⟩,_⟩:=HCL.o wA (Tch.refl _ _)
 have hz0:IntKind.i64.wrap 0=0:=by decide
 have hz1:IntKind.i64.wrap 1=1:=by decide
 clear hA0 hrA hwA c4 c5 c6 HIL
 have HTW:Hid (∀q,Tch NoB w (wA.drewN q)):=λq=>(HCL.o _ (Tch.drewN _ wA q)).2
 go_wp2_with fail
 refine (HBIT.o _).mono ?_
 rintro _ _ ⟨rfl,rfl⟩
 clear HBIT
 go_wp2_with fail
 go_region_held3 (λW=>W.cell? ⟨w.heap.size,0,none⟩=some (.int .i64 (wd:Int))/\W.cell? ⟨w.heap.size,1,none⟩=some (.pointer rv)/\W.cell? ⟨n,5,none⟩=some (.pointer (some ⟨nl,0,none⟩))/\W.cell? ⟨n,6,none⟩=some (.pointer (some ⟨nr,0,none⟩))) (go_keep) ((go_at_call 339;refine (HREC.o _ (HTW.o 1)).mono ?_;rintro _ w2 ⟨q,rfl,hq,ht2⟩;have hT2:Tch NoB wA w2:=(Tch.drewN NoB wA 1).trans ht2 noE;obtain ⟨⟨b0,b1,b3,b4,b5⟩,hTw2⟩:=HCL.o w2 hT2;obtain ⟨m,rfl,hm⟩:=hq.of_some;have HM:Hid _:=hm;clear hm hq;have HT2:Hid _:=hT2;have HW2:Hid _:=hTw2;clear ht2 hT2 hTw2))
 all_goals
  clear HREC a0 a1 a3 a4 a5 HTW
  have HTW:Hid (∀q,Tch NoB wA (w2.drewN q)):=λq=>HT2.o.trans (Tch.drewN NoB w2 q) noE
  go_wp2_with fail
  go_region_held3 (λW=>W.cell? ⟨w.heap.size,0,none⟩=some (.int .i64 (wd:Int))/\W.cell? ⟨n,4,none⟩=some (.int .i64 (b:Int))) (go_keep) ((first | (go_at_call 333;refine (HPW.o m _).mono ?_;rintro _ w3 ⟨rfl,ht3⟩;have hT3:Tch NoB wA w3:=(HTW.o 1).trans ht3 noE;obtain ⟨⟨d0,d1,d3,d4,d5⟩,hTw3⟩:=HCL.o w3 hT3;have HM3:Hid (Jf (dgW wd) F w3 m _):=(HM.o.next (Tch.drewN NoB w2 1)).next ht3;have HT3:Hid _:=hT3;have HW3:Hid _:=hTw3;clear ht3 hT3 hTw3) | (go_at_call 332;refine (HNB.o m _ HW3.o HM3.o).mono ?_;rintro _ w4 ⟨q,rfl,hq,ht4⟩;have hT4:Tch NoB wA w4:=HT3.o.trans ht4 noE;obtain ⟨⟨f0,f1,f3,f4,f5⟩,hTw4⟩:=HCL.o w4 hT4;have HQ:Hid _:=hq;have HW4:Hid _:=hTw4;clear ht4 hT4 hq hTw4)))
  all_goals
   go_wp2
   go_ret2
   exact ⟨some q,rfl,HQ.o,HW4.o⟩
theorem JhL (E:Nat->Addr) (wd:Nat) (hw1:1<=wd) (hw:wd<=32) (F:Nat->Prop) (rv:Option Addr) (k:Key) (hkl:k.length=wd+1) (b:Nat) (hb:b<8 * (wd+1)) (l r:Tr) (n nl nr:Nat) (w:World) (hE:Env E w) (hF:∀j,w.heap.size<=j->F j) (hrow:w.heap[n]? =some (.cells (brC (Tr.dig (dgW wd) (.br b l r)) b nl nr) 243)) (hnl:Jf (dgW wd) F w nl l) (hnr:Jf (dgW wd) F w nr r) (hbt:bt k b=0)
  (ih:∀W,Tch NoB w W->Calls prog 339 #[.agg #[.int .i64 (wd:Int),.pointer rv],.pointer (some ⟨nl,0,none⟩),.string ⟨k.toArray⟩] W λe w'=>Jaf wd F none W e w'):
  Calls prog 339 #[.agg #[.int .i64 (wd:Int),.pointer rv],.pointer (some ⟨n,0,none⟩),.string ⟨k.toArray⟩] w λe w'=>Jaf wd F (some r) w e w':=by
 have hnt:n<w.heap.size:=(Jb hrow)
 have c4:w.cell? ⟨n,4,none⟩=some (.int .i64 (b:Int)):=Ja hrow
 have c5:w.cell? ⟨n,5,none⟩=some (.pointer (some ⟨nl,0,none⟩)):=Ja hrow
 have c6:w.cell? ⟨n,6,none⟩=some (.pointer (some ⟨nr,0,none⟩)):=Ja hrow
 have HBIT:Hid (∀W,Calls prog 288 #[.string ⟨k.toArray⟩,.int .i64 (b:Int)] W λe w'=>e=.returned (.int .i64 0)/\W=w'):=λW=>by
  have:=Xb k b (by omega) (by omega) W
  rw [hbt] at this
  exact this.mono λe w' h=>⟨h.1,h.2.symm⟩
 have HIL:Hid (∀W,Tch NoB w W->Calls prog 224 #[.pointer (some ⟨n,0,none⟩)] W λe w'=>e=.returned (.bool false)/\w'=W):=λW hT=>Yw n _ b nl nr W ((hT.block n hnt (λh=>h)).trans hrow)
 have HREC:Hid _:=ih
 have HE:Hid (Env E w):=hE
 have HF:Hid _:=hF
 have HNL:Hid _:=hnl
 have HNR:Hid _:=hnr
 clear ih hrow hE hF hnl hnr hbt
 generalize (⟨k.toArray⟩:BA)=kb at *
 go_enter func339,ntmps339
 go_wp2_with fail
 refine (HIL.o _ (Tch.alloc _ _ _)).mono ?_
 rintro _ _ ⟨rfl,rfl⟩
 have hA0:Tch NoB w (w.alloc (.cells #[.int .i64 (wd:Int),.pointer rv] 146)):=Tch.alloc _ _ _
 obtain ⟨wA,hwA⟩:∃wA,wA=w.alloc (.cells #[.int .i64 (wd:Int),.pointer rv] 146):=⟨_,rfl⟩
 rw [<-hwA] at hA0 ⊢
 have hrA:wA.heap[w.heap.size]? =some (.cells #[.int .i64 (wd:Int),.pointer rv] 146):=by rw [hwA];exact Qf _ _
 have hzA:w.heap.size<wA.heap.size:=(Jb hrA)
 have HCL:Hid (∀W,Tch NoB wA W->(W.cell? ⟨w.heap.size,0,none⟩=some (.int .i64 (wd:Int))/\W.cell? ⟨w.heap.size,1,none⟩=some (.pointer rv)/\W.cell? ⟨n,4,none⟩=some (.int .i64 (b:Int))/\W.cell? ⟨n,5,none⟩=some (.pointer (some ⟨nl,0,none⟩))/\W.cell? ⟨n,6,none⟩=some (.pointer (some ⟨nr,0,none⟩)))/\Tch NoB w W):=λW hT=>
  ⟨⟨(hT.cell (p:=⟨w.heap.size,0,none⟩) hzA (λh=>h)).trans (Ja hrA),(hT.cell (p:=⟨w.heap.size,1,none⟩) hzA (λh=>h)).trans (Ja hrA),((hA0.trans hT noE).cell (p:=⟨n,4,none⟩) hnt (λh=>h)).trans c4,((hA0.trans hT noE).cell (p:=⟨n,5,none⟩) hnt (λh=>h)).trans c5,((hA0.trans hT noE).cell (p:=⟨n,6,none⟩) hnt (λh=>h)).trans c6⟩,hA0.trans hT noE⟩
 obtain ⟨⟨a0,a1,a3,a4,a5⟩,_⟩:=HCL.o wA (Tch.refl _ _)
 have hz0:IntKind.i64.wrap 0=0:=by decide
 have hz1:IntKind.i64.wrap 1=1:=by decide
 clear hA0 hrA hwA c4 c5 c6 HIL
 have HTW:Hid (∀q,Tch NoB w (wA.drewN q)):=λq=>(HCL.o _ (Tch.drewN _ wA q)).2
 go_wp2_with fail
 refine (HBIT.o _).mono ?_
 rintro _ _ ⟨rfl,rfl⟩
 clear HBIT
 go_wp2_with fail
 go_region_held3 (λW=>W.cell? ⟨w.heap.size,0,none⟩=some (.int .i64 (wd:Int))/\W.cell? ⟨w.heap.size,1,none⟩=some (.pointer rv)/\W.cell? ⟨n,5,none⟩=some (.pointer (some ⟨nl,0,none⟩))/\W.cell? ⟨n,6,none⟩=some (.pointer (some ⟨nr,0,none⟩))) (go_keep) ((go_at_call 339;refine (HREC.o _ (HTW.o 1)).mono ?_;rintro _ w2 ⟨q,rfl,hq,ht2⟩;have hT2:Tch NoB wA w2:=(Tch.drewN NoB wA 1).trans ht2 noE;obtain ⟨⟨b0,b1,b3,b4,b5⟩,hTw2⟩:=HCL.o w2 hT2;obtain rfl:=hq.of_none;clear hq;have HT2:Hid _:=hT2;have HW2:Hid _:=hTw2;clear ht2 hT2 hTw2))
 all_goals
  clear HREC a0 a1 a3 a4 a5 HTW
  go_wp2
  go_ret2
  exact ⟨some nr,rfl,HNR.o.next HW2.o,HW2.o⟩
theorem JhO (E:Nat->Addr) (wd:Nat) (hw1:1<=wd) (hw:wd<=32) (F:Nat->Prop) (rv:Option Addr) (k:Key) (hkl:k.length=wd+1) (b:Nat) (hb:b<8 * (wd+1)) (l r:Tr) (n nl nr:Nat) (w:World) (hE:Env E w) (hF:∀j,w.heap.size<=j->F j) (hrow:w.heap[n]? =some (.cells (brC (Tr.dig (dgW wd) (.br b l r)) b nl nr) 243)) (hnl:Jf (dgW wd) F w nl l) (hnr:Jf (dgW wd) F w nr r) (hbt:bt k b=1) (s:Tr)
  (ih:∀W,Tch NoB w W->Calls prog 339 #[.agg #[.int .i64 (wd:Int),.pointer rv],.pointer (some ⟨nr,0,none⟩),.string ⟨k.toArray⟩] W λe w'=>Jaf wd F (some s) W e w'):
  Calls prog 339 #[.agg #[.int .i64 (wd:Int),.pointer rv],.pointer (some ⟨n,0,none⟩),.string ⟨k.toArray⟩] w λe w'=>Jaf wd F (some (.br b l s)) w e w':=by
 have hnt:n<w.heap.size:=(Jb hrow)
 have c4:w.cell? ⟨n,4,none⟩=some (.int .i64 (b:Int)):=Ja hrow
 have c5:w.cell? ⟨n,5,none⟩=some (.pointer (some ⟨nl,0,none⟩)):=Ja hrow
 have c6:w.cell? ⟨n,6,none⟩=some (.pointer (some ⟨nr,0,none⟩)):=Ja hrow
 have HBIT:Hid (∀W,Calls prog 288 #[.string ⟨k.toArray⟩,.int .i64 (b:Int)] W λe w'=>e=.returned (.int .i64 1)/\W=w'):=λW=>by
  have:=Xb k b (by omega) (by omega) W
  rw [hbt] at this
  exact this.mono λe w' h=>⟨h.1,h.2.symm⟩
 have HIL:Hid (∀W,Tch NoB w W->Calls prog 224 #[.pointer (some ⟨n,0,none⟩)] W λe w'=>e=.returned (.bool false)/\w'=W):=λW hT=>Yw n _ b nl nr W ((hT.block n hnt (λh=>h)).trans hrow)
 have HREC:Hid _:=ih
 have HE:Hid (Env E w):=hE
 have HF:Hid _:=hF
 have HNL:Hid _:=hnl
 have HNR:Hid _:=hnr
 have HPW:Hid (∀(m:Nat) W,Calls prog 333 #[.pointer (some ⟨nl,0,none⟩),.pointer (some ⟨m,0,none⟩),.int .i64 1] W λe w'=>e=.returned (.agg #[.pointer (some ⟨nl,0,none⟩),.pointer (some ⟨m,0,none⟩)])/\Tch NoB W w'):=λm W=>Yy (some ⟨nl,0,none⟩) (some ⟨m,0,none⟩) 1 W
 have HNB:Hid (∀(m:Nat) W,Tch NoB w W->Jf (dgW wd) F W m s->Calls prog 332 #[.int .i64 (wd:Int),.int .i64 (b:Int),.agg #[.pointer (some ⟨nl,0,none⟩),.pointer (some ⟨m,0,none⟩)]] W λe w'=>∃q,e=.returned (.tuple #[.pointer (some ⟨q,0,none⟩),.nilIface])/\Jf (dgW wd) F w' q (.br b l s)/\Tch NoB W w'):=λm W hT hm=>by
  refine (XD E wd hw1 hw b nl m l s F hb W (HE.o.tch hT noE) (HNL.o.next hT) hm).mono ?_
  rintro e w' ⟨q,rfl,h1,h2,h3⟩
  exact ⟨q,rfl,.br q b nl m l s (HF.o q (Qm hT.size h1)) h2 ((HNL.o.next hT).next h3) (hm.next h3),h3⟩
 clear ih hrow hE hF hnl hnr hbt
 generalize (⟨k.toArray⟩:BA)=kb at *
 go_enter func339,ntmps339
 go_wp2_with fail
 refine (HIL.o _ (Tch.alloc _ _ _)).mono ?_
 rintro _ _ ⟨rfl,rfl⟩
 have hA0:Tch NoB w (w.alloc (.cells #[.int .i64 (wd:Int),.pointer rv] 146)):=Tch.alloc _ _ _
 obtain ⟨wA,hwA⟩:∃wA,wA=w.alloc (.cells #[.int .i64 (wd:Int),.pointer rv] 146):=⟨_,rfl⟩
 rw [<-hwA] at hA0 ⊢
 have hrA:wA.heap[w.heap.size]? =some (.cells #[.int .i64 (wd:Int),.pointer rv] 146):=by rw [hwA];exact Qf _ _
 have hzA:w.heap.size<wA.heap.size:=(Jb hrA)
 have HCL:Hid (∀W,Tch NoB wA W->(W.cell? ⟨w.heap.size,0,none⟩=some (.int .i64 (wd:Int))/\W.cell? ⟨w.heap.size,1,none⟩=some (.pointer rv)/\W.cell? ⟨n,4,none⟩=some (.int .i64 (b:Int))/\W.cell? ⟨n,5,none⟩=some (.pointer (some ⟨nl,0,none⟩))/\W.cell? ⟨n,6,none⟩=some (.pointer (some ⟨nr,0,none⟩)))/\Tch NoB w W):=λW hT=>
  ⟨⟨(hT.cell (p:=⟨w.heap.size,0,none⟩) hzA (λh=>h)).trans (Ja hrA),(hT.cell (p:=⟨w.heap.size,1,none⟩) hzA (λh=>h)).trans (Ja hrA),((hA0.trans hT noE).cell (p:=⟨n,4,none⟩) hnt (λh=>h)).trans c4,((hA0.trans hT noE).cell (p:=⟨n,5,none⟩) hnt (λh=>h)).trans c5,((hA0.trans hT noE).cell (p:=⟨n,6,none⟩) hnt (λh=>h)).trans c6⟩,hA0.trans hT noE⟩
 obtain ⟨⟨a0,a1,a3,a4,a5⟩,_⟩:=HCL.o wA (Tch.refl _ _)
 have hz0:IntKind.i64.wrap 0=0:=by decide
 have hz1:IntKind.i64.wrap 1=1:=by decide
 clear hA0 hrA hwA c4 c5 c6 HIL
 have HTW:Hid (∀q,Tch NoB w (wA.drewN q)):=λq=>(HCL.o _ (Tch.drewN _ wA q)).2
 go_wp2_with fail
 refine (HBIT.o _).mono ?_
 rintro _ _ ⟨rfl,rfl⟩
 clear HBIT
 go_wp2_with fail
 go_region_held3 (λW=>W.cell? ⟨w.heap.size,0,none⟩=some (.int .i64 (wd:Int))/\W.cell? ⟨w.heap.size,1,none⟩=some (.pointer rv)/\W.cell? ⟨n,5,none⟩=some (.pointer (some ⟨nl,0,none⟩))/\W.cell? ⟨n,6,none⟩=some (.pointer (some ⟨nr,0,none⟩))) (go_keep) ((go_at_call 339;refine (HREC.o _ (HTW.o 1)).mono ?_;rintro _ w2 ⟨q,rfl,hq,ht2⟩;have hT2:Tch NoB wA w2:=(Tch.drewN NoB wA 1).trans ht2 noE;obtain ⟨⟨b0,b1,b3,b4,b5⟩,hTw2⟩:=HCL.o w2 hT2;obtain ⟨m,rfl,hm⟩:=hq.of_some;have HM:Hid _:=hm;clear hm hq;have HT2:Hid _:=hT2;have HW2:Hid _:=hTw2;clear ht2 hT2 hTw2))
 all_goals
  clear HREC a0 a1 a3 a4 a5 HTW
  have HTW:Hid (∀q,Tch NoB wA (w2.drewN q)):=λq=>HT2.o.trans (Tch.drewN NoB w2 q) noE
  go_wp2_with fail
  go_region_held3 (λW=>W.cell? ⟨w.heap.size,0,none⟩=some (.int .i64 (wd:Int))/\W.cell? ⟨n,4,none⟩=some (.int .i64 (b:Int))) (go_keep) ((first | (go_at_call 333;refine (HPW.o m _).mono ?_;rintro _ w3 ⟨rfl,ht3⟩;have hT3:Tch NoB wA w3:=(HTW.o 1).trans ht3 noE;obtain ⟨⟨d0,d1,d3,d4,d5⟩,hTw3⟩:=HCL.o w3 hT3;have HM3:Hid (Jf (dgW wd) F w3 m _):=(HM.o.next (Tch.drewN NoB w2 1)).next ht3;have HT3:Hid _:=hT3;have HW3:Hid _:=hTw3;clear ht3 hT3 hTw3) | (go_at_call 332;refine (HNB.o m _ HW3.o HM3.o).mono ?_;rintro _ w4 ⟨q,rfl,hq,ht4⟩;have hT4:Tch NoB wA w4:=HT3.o.trans ht4 noE;obtain ⟨⟨f0,f1,f3,f4,f5⟩,hTw4⟩:=HCL.o w4 hT4;have HQ:Hid _:=hq;have HW4:Hid _:=hTw4;clear ht4 hT4 hq hTw4)))
  all_goals
   go_wp2
   go_ret2
   exact ⟨some q,rfl,HQ.o,HW4.o⟩
theorem JhN (E:Nat->Addr) (wd:Nat) (hw1:1<=wd) (hw:wd<=32) (F:Nat->Prop) (rv:Option Addr) (k:Key) (hkl:k.length=wd+1) (b:Nat) (hb:b<8 * (wd+1)) (l r:Tr) (n nl nr:Nat) (w:World) (hE:Env E w) (hF:∀j,w.heap.size<=j->F j) (hrow:w.heap[n]? =some (.cells (brC (Tr.dig (dgW wd) (.br b l r)) b nl nr) 243)) (hnl:Jf (dgW wd) F w nl l) (hnr:Jf (dgW wd) F w nr r) (hbt:bt k b=1)
  (ih:∀W,Tch NoB w W->Calls prog 339 #[.agg #[.int .i64 (wd:Int),.pointer rv],.pointer (some ⟨nr,0,none⟩),.string ⟨k.toArray⟩] W λe w'=>Jaf wd F none W e w'):
  Calls prog 339 #[.agg #[.int .i64 (wd:Int),.pointer rv],.pointer (some ⟨n,0,none⟩),.string ⟨k.toArray⟩] w λe w'=>Jaf wd F (some l) w e w':=by
 have hnt:n<w.heap.size:=(Jb hrow)
 have c4:w.cell? ⟨n,4,none⟩=some (.int .i64 (b:Int)):=Ja hrow
 have c5:w.cell? ⟨n,5,none⟩=some (.pointer (some ⟨nl,0,none⟩)):=Ja hrow
 have c6:w.cell? ⟨n,6,none⟩=some (.pointer (some ⟨nr,0,none⟩)):=Ja hrow
 have HBIT:Hid (∀W,Calls prog 288 #[.string ⟨k.toArray⟩,.int .i64 (b:Int)] W λe w'=>e=.returned (.int .i64 1)/\W=w'):=λW=>by
  have:=Xb k b (by omega) (by omega) W
  rw [hbt] at this
  exact this.mono λe w' h=>⟨h.1,h.2.symm⟩
 have HIL:Hid (∀W,Tch NoB w W->Calls prog 224 #[.pointer (some ⟨n,0,none⟩)] W λe w'=>e=.returned (.bool false)/\w'=W):=λW hT=>Yw n _ b nl nr W ((hT.block n hnt (λh=>h)).trans hrow)
 have HREC:Hid _:=ih
 have HE:Hid (Env E w):=hE
 have HF:Hid _:=hF
 have HNL:Hid _:=hnl
 have HNR:Hid _:=hnr
 clear ih hrow hE hF hnl hnr hbt
 generalize (⟨k.toArray⟩:BA)=kb at *
 go_enter func339,ntmps339
 go_wp2_with fail
 refine (HIL.o _ (Tch.alloc _ _ _)).mono ?_
 rintro _ _ ⟨rfl,rfl⟩
 have hA0:Tch NoB w (w.alloc (.cells #[.int .i64 (wd:Int),.pointer rv] 146)):=Tch.alloc _ _ _
 obtain ⟨wA,hwA⟩:∃wA,wA=w.alloc (.cells #[.int .i64 (wd:Int),.pointer rv] 146):=⟨_,rfl⟩
 rw [<-hwA] at hA0 ⊢
 have hrA:wA.heap[w.heap.size]? =some (.cells #[.int .i64 (wd:Int),.pointer rv] 146):=by rw [hwA];exact Qf _ _
 have hzA:w.heap.size<wA.heap.size:=(Jb hrA)
 have HCL:Hid (∀W,Tch NoB wA W->(W.cell? ⟨w.heap.size,0,none⟩=some (.int .i64 (wd:Int))/\W.cell? ⟨w.heap.size,1,none⟩=some (.pointer rv)/\W.cell? ⟨n,4,none⟩=some (.int .i64 (b:Int))/\W.cell? ⟨n,5,none⟩=some (.pointer (some ⟨nl,0,none⟩))/\W.cell? ⟨n,6,none⟩=some (.pointer (some ⟨nr,0,none⟩)))/\Tch NoB w W):=λW hT=>
  ⟨⟨(hT.cell (p:=⟨w.heap.size,0,none⟩) hzA (λh=>h)).trans (Ja hrA),(hT.cell (p:=⟨w.heap.size,1,none⟩) hzA (λh=>h)).trans (Ja hrA),((hA0.trans hT noE).cell (p:=⟨n,4,none⟩) hnt (λh=>h)).trans c4,((hA0.trans hT noE).cell (p:=⟨n,5,none⟩) hnt (λh=>h)).trans c5,((hA0.trans hT noE).cell (p:=⟨n,6,none⟩) hnt (λh=>h)).trans c6⟩,hA0.trans hT noE⟩
 obtain ⟨⟨a0,a1,a3,a4,a5⟩,_⟩:=HCL.o wA (Tch.refl _ _)
 have hz0:IntKind.i64.wrap 0=0:=by decide
 have hz1:IntKind.i64.wrap 1=1:=by decide
 clear hA0 hrA hwA c4 c5 c6 HIL
 have HTW:Hid (∀q,Tch NoB w (wA.drewN q)):=λq=>(HCL.o _ (Tch.drewN _ wA q)).2
 go_wp2_with fail
 refine (HBIT.o _).mono ?_
 rintro _ _ ⟨rfl,rfl⟩
 clear HBIT
 go_wp2_with fail
 go_region_held3 (λW=>W.cell? ⟨w.heap.size,0,none⟩=some (.int .i64 (wd:Int))/\W.cell? ⟨w.heap.size,1,none⟩=some (.pointer rv)/\W.cell? ⟨n,5,none⟩=some (.pointer (some ⟨nl,0,none⟩))/\W.cell? ⟨n,6,none⟩=some (.pointer (some ⟨nr,0,none⟩))) (go_keep) ((go_at_call 339;refine (HREC.o _ (HTW.o 1)).mono ?_;rintro _ w2 ⟨q,rfl,hq,ht2⟩;have hT2:Tch NoB wA w2:=(Tch.drewN NoB wA 1).trans ht2 noE;obtain ⟨⟨b0,b1,b3,b4,b5⟩,hTw2⟩:=HCL.o w2 hT2;obtain rfl:=hq.of_none;clear hq;have HT2:Hid _:=hT2;have HW2:Hid _:=hTw2;clear ht2 hT2 hTw2))
 all_goals
  clear HREC a0 a1 a3 a4 a5 HTW
  go_wp2
  go_ret2
  exact ⟨some nl,rfl,HNL.o.next HW2.o,HW2.o⟩
theorem Jk8 (E:Nat->Addr) (wd:Nat) (hw1:1<=wd) (hw:wd<=32) (F:Nat->Prop) (rv:Option Addr) (k:Key) (hkl:k.length=wd+1):∀(t:Tr) (n:Nat) (w:World),TrOk wd t->Env E w->(∀j,w.heap.size<=j->F j)->Jf (dgW wd) F w n t->
  Calls prog 339 #[.agg #[.int .i64 (wd:Int),.pointer rv],.pointer (some ⟨n,0,none⟩),.string ⟨k.toArray⟩] w λe w'=>Jaf wd F (t.cut k) w e w':=by
 intro t
 induction t with
 | leaf k' o'=>
  intro n w _ _ _ hn
  exact JjI wd F rv k n w k' o' hn
 | br b l r ihl ihr=>
  intro n w hok hE hF hn
  obtain ⟨hb,hokl,hokr⟩:=hok
  cases hn with
  | br _ _ nl nr _ _ hFn hr hnl hnr=>
   have il:∀W,Tch NoB w W->_:=λW (hT:Tch NoB w W)=>ihl nl W hokl (hE.tch hT noE) (λj hj=>hF j (Qm hT.size hj)) (hnl.next hT)
   have ir:∀W,Tch NoB w W->_:=λW (hT:Tch NoB w W)=>ihr nr W hokr (hE.tch hT noE) (λj hj=>hF j (Qm hT.size hj)) (hnr.next hT)
   simp only [Tr.cut]
   by_cases h0:bt k b=0
   ·rw [if_pos h0]
    cases hc:l.cut k with
    | none=>rw [hc] at il;exact JhL E wd hw1 hw F rv k hkl b hb l r n nl nr w hE hF hr hnl hnr h0 il
    | some s=>rw [hc] at il;exact JhM E wd hw1 hw F rv k hkl b hb l r n nl nr w hE hF hr hnl hnr h0 s il
   ·have h1:bt k b=1:=by have:=YH k b;omega
    rw [if_neg h0]
    cases hc:r.cut k with
    | none=>rw [hc] at ir;exact JhN E wd hw1 hw F rv k hkl b hb l r n nl nr w hE hF hr hnl hnr h1 ir
    | some s=>rw [hc] at ir;exact JhO E wd hw1 hw F rv k hkl b hb l r n nl nr w hE hF hr hnl hnr h1 s ir
