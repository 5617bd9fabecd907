import Derived.Test.YtighkdnooglfjaaGreatDoorLcTree3
namespace Go.Proofs.YtighkdnooglfjaaGreatDoor
open Tryz
set_option maxRecDepth 100000
set_option maxHeartbeats 1000000
open Go.RowKit

theorem Jax(n:Nat)(dg:BA)(k:Key)(o:Nat×Nat)(w:World)(h:w.heap[n]? =some (.cells (YI dg k o) 243)):
  Calls prog 224 #[.pointer (some ⟨n,0,none⟩)] w λe w'=>e=.returned (.bool true)/\w'=w:=by
 have c5:w.cell? ⟨n,5,none⟩=some (.pointer none):=Ja h;clear h;go_enter func224,ntmps224;go_wp2;go_ret;exact⟨rfl,rfl⟩
theorem JaN(n:Nat)(dg:BA)(b nl nr:Nat)(w:World)(h:w.heap[n]? =some (.cells (brC dg b nl nr) 243)):
  Calls prog 224 #[.pointer (some ⟨n,0,none⟩)] w λe w'=>e=.returned (.bool false)/\w'=w:=by
 have c5:w.cell? ⟨n,5,none⟩=some (.pointer (some ⟨nl,0,none⟩)):=Ja h;clear h;go_enter func224,ntmps224;go_wp2;go_ret;exact⟨rfl,rfl⟩
theorem Jah(n one:Option Addr)(at_:Nat)(w:World):
  Calls prog 333 #[.pointer n,.pointer one,.int .i64 (at_:Int)] w λe w'=>e=.returned (if at_=0 then .agg #[.pointer one,.pointer n] else .agg #[.pointer n,.pointer one])/\Tch NoB w w':=by
 by_cases h:at_=0
 ·subst h;rw[if_pos rfl];go_enter func333,ntmps333;go_wp2;exact QJ (v:=.agg #[.pointer one,.pointer n]) (Qq results333 _ _ w.heap.size _ _ (0,0) _ rfl (Qf _ _) underlying241 rfl (by kernel_rfl)) rfl ⟨rfl,Ta _ _ _⟩
 ·rw[if_neg h];have hb:((at_:Int) == 0)=false:=by rw[beq_eq_false_iff_ne];omega
  go_enter func333,ntmps333;go_wp2;exact QJ (v:=.agg #[.pointer n,.pointer one]) (Qq results333 _ _ w.heap.size _ _ (0,0) _ rfl (Qf _ _) underlying241 rfl (by kernel_rfl)) rfl ⟨rfl,Ta _ _ _⟩
theorem Jel(E:Nat->Addr)(wj:Nat)(hw1:1<=wj)(hw:wj<=32)(F:Nat->Prop)(rv:Option Addr)(k:Key)(o:Nat×Nat)(hk:TrOk wj (.leaf k o))(d:Nat)(hd:d<8*(wj+1))(t:Tr)(n ln:Nat)(w:World)(hE:Env E w)(hF:∀j,w.heap.size<=j->F j)(hn:Jg (dgW wj) F w n t)(hln:Jg (dgW wj) F w ln (.leaf k o))
  (hc:(∀W,Tch NoB w W->Calls prog 224 #[.pointer (some ⟨n,0,none⟩)] W λe w'=>e=.returned (.bool true)/\w'=W)\/∃b:Nat,(∀W,Tch NoB w W->Calls prog 224 #[.pointer (some ⟨n,0,none⟩)] W λe w'=>e=.returned (.bool false)/\w'=W)/\w.cell? ⟨n,4,none⟩=some (.int .i64 (b:Int))/\(d:Int)<(b:Int)):
  Calls prog 270 #[.agg #[.int .i64 (wj:Int),.pointer rv],.pointer (some ⟨n,0,none⟩),.pointer (some ⟨ln,0,none⟩),.int .i64 (d:Int)] w λe w'=>∃m,e=.returned (.tuple #[.pointer (some ⟨m,0,none⟩),.nilIface])/\Jg (dgW wj) F w' m (Tr.pair t (.leaf k o) d (bt k d))/\Tch NoB w w':=by
 have hnt:=hn.own.2
 rcases hc with hc|⟨b,hc,hb4,hdi⟩
 all_goals
  have HC:Hid _:=hc;have hkl:=hk.1;have hlt:=hln.own.2;have clk:w.cell? ⟨ln,1,none⟩=some (.string ⟨k.toArray⟩):=Ja hln.a.2;have HBIT:Hid (∀W,_):=λW=>Zq k d (by omega) (by omega) W;have HF:Hid _:=hF;have HPR:Hid (∃a b l r,(if bt k d=0 then Value.agg #[.pointer (some ⟨ln,0,none⟩),.pointer (some ⟨n,0,none⟩)] else .agg #[.pointer (some ⟨n,0,none⟩),.pointer (some ⟨ln,0,none⟩)])=.agg #[.pointer (some ⟨a,0,none⟩),.pointer (some ⟨b,0,none⟩)]/\Tr.pair t (.leaf k o) d (bt k d)=.br d l r/\Jg (dgW wj) F w a l/\Jg (dgW wj) F w b r):=by
   unfold Tr.pair
   by_cases hb:bt k d=0
   ·rw[if_pos hb,if_pos hb];exact⟨_,_,_,_,rfl,rfl,hln,hn⟩
   ·rw[if_neg hb,if_neg hb];exact⟨_,_,_,_,rfl,rfl,hn,hln⟩
  obtain⟨pa,pb,pl,pr,hpe,hpt,hpl,hpr⟩:=HPR.o;have HPW:Hid (∀W,Calls prog 333 #[.pointer (some ⟨n,0,none⟩),.pointer (some ⟨ln,0,none⟩),.int .i64 (bt k d:Int)] W λe w'=>e=.returned (.agg #[.pointer (some ⟨pa,0,none⟩),.pointer (some ⟨pb,0,none⟩)])/\Tch NoB W w'):=λW=>by
   have:=Jah (some ⟨n,0,none⟩) (some ⟨ln,0,none⟩) (bt k d) W;rw[hpe]at this;exact this
  have HNB:Hid (∀W,Tch NoB w W->Calls prog 332 #[.int .i64 (wj:Int),.int .i64 (d:Int),.agg #[.pointer (some ⟨pa,0,none⟩),.pointer (some ⟨pb,0,none⟩)]] W λe w'=>∃m,e=.returned (.tuple #[.pointer (some ⟨m,0,none⟩),.nilIface])/\Jg (dgW wj) F w' m (Tr.pair t (.leaf k o) d (bt k d))/\Tch NoB W w'):=λW hT=>by
   refine(YO E wj hw1 hw d pa pb pl pr F hd W (hE.tch hT noE) (hpl.next hT) (hpr.next hT)).mono ?_;rintro e w'⟨m,rfl,h1,h2,h3⟩;refine⟨m,rfl,?_,h3⟩;rw[hpt];exact .br m d pa pb pl pr (HF m (Qm hT.size h1)) h2 ((hpl.next hT).next h3) ((hpr.next hT).next h3)
  generalize (⟨k.toArray⟩:BA)=kb at *;generalize Tr.pair t (.leaf k o) d (bt k d)=tr at *;generalize bt k d=bk at *;go_enter func270,ntmps270;go_wp2_with fail;refine(HC.o _ (Ta _ _ _)).mono ?_;rintro _ _⟨rfl,rfl⟩;have HA:Hid (Tch NoB w (w.alloc (.cells #[.int .i64 (wj:Int),.pointer rv] 146)).drew):=(Ta NoB w _).trans (Td _ _ 1) (λ_ h=>.inl h);go_wp2_with fail;go_region_held3 (λW=>W.cell? ⟨w.heap.size,0,none⟩=some (.int .i64 (wj:Int))/\W.cell? ⟨ln,1,none⟩=some (.string kb)) (go_keep) ((first|(go_at_call 288;refine(HBIT _).mono ?_;rintro _ _⟨rfl,rfl⟩)|(go_at_call 333;refine(HPW _).mono ?_;rintro _ w1⟨rfl,ht1⟩;have hz1:w.heap.size<w1.heap.size:=Qk (by simp) ht1.size;have hk0:w1.cell? ⟨w.heap.size,0,none⟩=some (.int .i64 (wj:Int)):=(ht1.cell (p:=⟨w.heap.size,0,none⟩) (by simp) (λh=>h)).trans (Ja (Qf _ _));have hk1:w1.cell? ⟨ln,1,none⟩=some (.string kb):=((HA.trans ht1 noE).cell (p:=⟨ln,1,none⟩) hlt (λh=>h)).trans clk;have HT1:Hid (Tch NoB w w1):=HA.trans ht1 noE)|(go_at_call 332;refine(HNB _ HT1).mono ?_;rintro _ w2⟨m,rfl,hm,ht2⟩;have hj0:=(ht2.cell (p:=⟨w.heap.size,0,none⟩) hz1 (λh=>h)).trans hk0;have hj1:=(ht2.cell (p:=⟨ln,1,none⟩) (by have:=HT1.o.size;show ln<_;omega) (λh=>h)).trans hk1;have HM:Hid _:=hm;have HT2:Hid (Tch NoB w w2):=HT1.trans ht2 noE)))
  all_goals go_wp2;go_ret2;exact⟨m,rfl,HM,HT2⟩
theorem JkY(E:Nat->Addr)(wj:Nat)(hw1:1<=wj)(hw:wj<=32)(F:Nat->Prop)(rv:Option Addr)(k:Key)(o:Nat×Nat)(hk:TrOk wj (.leaf k o))(d:Nat)(b:Nat)(hb:b<8*(wj+1))(hdb:¬d<b)(l r:Tr)(n nl nr ln:Nat)(w:World)(hE:Env E w)(hF:∀j,w.heap.size<=j->F j)(hrow:w.heap[n]? =some (.cells (brC (Tr.dig (dgW wj) (.br b l r)) b nl nr) 243))(hnl:Jg (dgW wj) F w nl l)(hnr:Jg (dgW wj) F w nr r)(hln:Jg (dgW wj) F w ln (.leaf k o))
  (ih:∀(s:Nat)(tg:Tr),((s=nl/\tg=l.graft k o d/\bt k b=0)\/(s=nr/\tg=r.graft k o d/\bt k b ≠ 0))->∀W,Tch NoB w W->Calls prog 270 #[.agg #[.int .i64 (wj:Int),.pointer rv],.pointer (some ⟨s,0,none⟩),.pointer (some ⟨ln,0,none⟩),.int .i64 (d:Int)] W λe w'=>∃m,e=.returned (.tuple #[.pointer (some ⟨m,0,none⟩),.nilIface])/\Jg (dgW wj) F w' m tg/\Tch NoB W w'):
  Calls prog 270 #[.agg #[.int .i64 (wj:Int),.pointer rv],.pointer (some ⟨n,0,none⟩),.pointer (some ⟨ln,0,none⟩),.int .i64 (d:Int)] w λe w'=>∃m,e=.returned (.tuple #[.pointer (some ⟨m,0,none⟩),.nilIface])/\Jg (dgW wj) F w' m (Tr.graft k o d (.br b l r))/\Tch NoB w w':=by
 have hkl:=hk.1;have hlt:=hln.own.2;have hnt:=(Jb hrow)
 have clk:w.cell? ⟨ln,1,none⟩=some (.string ⟨k.toArray⟩):=Ja hln.a.2;obtain⟨-, -, -, -,c4,c5,c6⟩:=rows hrow;have HBIT:Hid (∀W,_):=λW=>Zq k b (by omega) (by omega) W;have HIL:Hid (∀W,Tch NoB w W->_):=λW hT=>JaN n _ b nl nr W ((hT.block n hnt (λh=>h)).trans hrow);have hdi:¬(d:Int)<(b:Int):=by omega
 have hbt:=Yf k b;have HIH:Hid _:=ih;have hsd:(bt k b=0/\Tr.graft k o d (.br b l r)=.br b (l.graft k o d) r)\/(bt k b=1/\Tr.graft k o d (.br b l r)=.br b l (r.graft k o d)):=by
  simp only[Tr.graft];rw[if_neg hdb]
  by_cases h0:bt k b=0
  ·exact .inl ⟨h0,by rw[if_pos h0]⟩
  ·exact .inr ⟨by omega,by rw[if_neg h0]⟩
 generalize (⟨k.toArray⟩:BA)=kb at *;have HE:Hid _:=hE;have HF:Hid _:=hF;have HNL:Hid _:=hnl;have HNR:Hid _:=hnr
 rcases hsd with⟨(HB0:Hid _),hg⟩|⟨h1,hg⟩
 case' inl=>
  rw[hg];rw[HB0]at HBIT;have HREC:Hid _:=HIH nl (l.graft k o d) (.inl ⟨rfl,rfl,HB0⟩);have HPW:Hid (∀(m:Nat) W,_):=λm W=>Jah (some ⟨nr,0,none⟩) (some ⟨m,0,none⟩) 0 W;have HNB:Hid (∀(m:Nat) W,Tch NoB w W->Jg (dgW wj) F W m (l.graft k o d)->Calls prog 332 #[.int .i64 (wj:Int),.int .i64 (b:Int),.agg #[.pointer (some ⟨m,0,none⟩),.pointer (some ⟨nr,0,none⟩)]] W λe w'=>∃q,e=.returned (.tuple #[.pointer (some ⟨q,0,none⟩),.nilIface])/\Jg (dgW wj) F w' q (.br b (l.graft k o d) r)/\Tch NoB W w'):=λm W hT hm=>by
   refine(YO E wj hw1 hw b m nr (l.graft k o d) r F hb W (HE.tch hT noE) hm (HNR.next hT)).mono ?_;rintro e w'⟨q,rfl,h1,h2,h3⟩;exact⟨q,rfl,.br q b m nr (l.graft k o d) r (HF q (Qm hT.size h1)) h2 (hm.next h3) ((HNR.next hT).next h3),h3⟩
  clear hg HIH
 case' inr=>
  rw[hg];have HB0:Hid _:=h1;rw[h1]at HBIT;have HREC:Hid _:=HIH nr (r.graft k o d) (.inr ⟨rfl,rfl,by omega⟩);have HPW:Hid (∀(m:Nat) W,_):=λm W=>Jah (some ⟨nl,0,none⟩) (some ⟨m,0,none⟩) 1 W;have HNB:Hid (∀(m:Nat) W,Tch NoB w W->Jg (dgW wj) F W m (r.graft k o d)->Calls prog 332 #[.int .i64 (wj:Int),.int .i64 (b:Int),.agg #[.pointer (some ⟨nl,0,none⟩),.pointer (some ⟨m,0,none⟩)]] W λe w'=>∃q,e=.returned (.tuple #[.pointer (some ⟨q,0,none⟩),.nilIface])/\Jg (dgW wj) F w' q (.br b l (r.graft k o d))/\Tch NoB W w'):=λm W hT hm=>by
   refine(YO E wj hw1 hw b nl m l (r.graft k o d) F hb W (HE.tch hT noE) (HNL.next hT) hm).mono ?_;rintro e w'⟨q,rfl,h1,h2,h3⟩;exact⟨q,rfl,.br q b nl m l (r.graft k o d) (HF q (Qm hT.size h1)) h2 ((HNL.next hT).next h3) (hm.next h3),h3⟩
 all_goals
  go_enter func270,ntmps270;go_wp2_with fail;refine(HIL _ (Ta _ _ _)).mono ?_;rintro _ _⟨rfl,rfl⟩;have hA0:Tch NoB w (w.alloc (.cells #[.int .i64 (wj:Int),.pointer rv] 146)):=Ta _ _ _;obtain⟨wA,hwA⟩:∃wA,wA=w.alloc (.cells #[.int .i64 (wj:Int),.pointer rv] 146):=⟨_,rfl⟩
  rw[<-hwA]at hA0 ⊢;have hrA:=hn1 hwA;have hzA:=(Jb hrA)
  have HCL:Hid (∀W,Tch NoB wA W->(W.cell? ⟨w.heap.size,0,none⟩=some (.int .i64 (wj:Int))/\W.cell? ⟨w.heap.size,1,none⟩=some (.pointer rv)/\W.cell? ⟨ln,1,none⟩=some (.string kb)/\W.cell? ⟨n,4,none⟩=some (.int .i64 (b:Int))/\W.cell? ⟨n,5,none⟩=some (.pointer (some ⟨nl,0,none⟩))/\W.cell? ⟨n,6,none⟩=some (.pointer (some ⟨nr,0,none⟩)))/\Tch NoB w W):=λW hT=>
   ⟨⟨(hT.cell (p:=⟨w.heap.size,0,none⟩) hzA (λh=>h)).trans (Ja hrA),(hT.cell (p:=⟨w.heap.size,1,none⟩) hzA (λh=>h)).trans (Ja hrA),((hA0.trans hT noE).cell (p:=⟨ln,1,none⟩) hlt (λh=>h)).trans clk,((hA0.trans hT noE).cell (p:=⟨n,4,none⟩) hnt (λh=>h)).trans c4,((hA0.trans hT noE).cell (p:=⟨n,5,none⟩) hnt (λh=>h)).trans c5,((hA0.trans hT noE).cell (p:=⟨n,6,none⟩) hnt (λh=>h)).trans c6⟩,hA0.trans hT noE⟩
  obtain⟨⟨a0,a1,a2,a3,a4,a5⟩,_⟩:=HCL wA (Te _ _);clear hA0 hrA hwA clk c4 c5 c6;go_wp2_with fail;go_region_held3 (λW=>W.cell? ⟨ln,1,none⟩=some (.string kb)/\W.cell? ⟨n,4,none⟩=some (.int .i64 (b:Int))) (go_keep) ((go_at_call 288;refine(HBIT _).mono ?_;rintro _ _⟨rfl,rfl⟩));have HTW:Hid (∀q,_):=λq=>(HCL _ (Td _ wA q)).2;go_wp2_with fail;go_region_held3 (λW=>W.cell? ⟨w.heap.size,0,none⟩=some (.int .i64 (wj:Int))/\W.cell? ⟨w.heap.size,1,none⟩=some (.pointer rv)/\W.cell? ⟨n,5,none⟩=some (.pointer (some ⟨nl,0,none⟩))/\W.cell? ⟨n,6,none⟩=some (.pointer (some ⟨nr,0,none⟩))) (go_keep) ((go_at_call 270;refine(HREC _ (HTW 2)).mono ?_;rintro _ w2⟨m,rfl,(HM:Hid _),ht2⟩;have hT2:=(Td NoB wA 2).trans ht2 noE;obtain⟨⟨b0,b1,b2,b3,b4,b5⟩,(HW2:Hid _)⟩:=HCL w2 hT2;have HT2:Hid _:=hT2;clear ht2 hT2))
  all_goals
   have hz0:IntKind.i64.wrap 0=0:=(by decide);have hz1:IntKind.i64.wrap 1=1:=(by decide);have HTW:Hid (∀q,_):=λq=>HT2.trans (Td NoB w2 q) noE;go_wp2_with fail;go_region_held3 (λW=>W.cell? ⟨w.heap.size,0,none⟩=some (.int .i64 (wj:Int))/\W.cell? ⟨n,4,none⟩=some (.int .i64 (b:Int))/\W.cell? ⟨n,5,none⟩=some (.pointer (some ⟨nl,0,none⟩))/\W.cell? ⟨n,6,none⟩=some (.pointer (some ⟨nr,0,none⟩))) (go_keep) ((first|(go_at_call 333;refine(HPW m _).mono ?_;rintro _ w3⟨rfl,ht3⟩;have hT3:=(HTW 1).trans ht3 noE;obtain⟨⟨d0,d1,d2,d3,d4,d5⟩,(HW3:Hid _)⟩:=HCL w3 hT3;have HM3:Hid _:=(HM.next (Td NoB w2 1)).next ht3;have HT3:Hid _:=hT3;clear ht3 hT3)|(go_at_call 332;refine(HNB m _ HW3 HM3).mono ?_;rintro _ w4⟨q,rfl,(HQ:Hid _),ht4⟩;have hT4:=HT3.trans ht4 noE;obtain⟨⟨f0,f1,f2,f3,f4,f5⟩,(HW4:Hid _)⟩:=HCL w4 hT4;clear ht4 hT4)))
   all_goals go_wp2;go_ret2;exact⟨q,rfl,HQ,HW4⟩
theorem Ji9(E:Nat->Addr)(wj:Nat)(hw1:1<=wj)(hw:wj<=32)(F:Nat->Prop)(rv:Option Addr)(k:Key)(o:Nat×Nat)(hk:TrOk wj (.leaf k o))(d:Nat)(hd:d<8*(wj+1))(ln:Nat):∀(t:Tr)(n:Nat)(w:World),TrOk wj t->Env E w->(∀j,w.heap.size<=j->F j)->Jg (dgW wj) F w n t->Jg (dgW wj) F w ln (.leaf k o)->
  Calls prog 270 #[.agg #[.int .i64 (wj:Int),.pointer rv],.pointer (some ⟨n,0,none⟩),.pointer (some ⟨ln,0,none⟩),.int .i64 (d:Int)] w λe w'=>∃m,e=.returned (.tuple #[.pointer (some ⟨m,0,none⟩),.nilIface])/\Jg (dgW wj) F w' m (t.graft k o d)/\Tch NoB w w':=by
 intro t
 induction t using Tr.ri with
 | leaf k' o'=>
  intro n w _ hE hF hn hln;refine Jel E wj hw1 hw F rv k o hk d hd (.leaf k' o') n ln w hE hF hn hln (.inl λW hT=>?_);obtain⟨_,hr⟩:=hn.a;exact Jax n _ k' o' W ((hT.block n (Jb hr) (λh=>h)).trans hr)
 | br b l r ihl ihr=>
  intro n w hok hE hF hn hln;obtain⟨hb,hokl,hokr⟩:=hok;have hn':=hn;obtain⟨nl,nr,hFn,hr,hnl,hnr⟩:=hn.bri
  by_cases hdb:d<b
  ·have:=Jel E wj hw1 hw F rv k o hk d hd (.br b l r) n ln w hE hF hn' hln (.inr ⟨b,λW hT=>JaN n _ b nl nr W ((hT.block n (Jb hr) (λh=>h)).trans hr),Ja hr,by omega⟩);have e:Tr.graft k o d (.br b l r)=Tr.pair (.br b l r) (.leaf k o) d (bt k d):=(by simp only[Tr.graft];rw[if_pos hdb]);rw[e];exact this
  ·refine JkY E wj hw1 hw F rv k o hk d b hb hdb l r n nl nr ln w hE hF hr hnl hnr hln ?_;rintro s tg (⟨rfl,rfl,_⟩|⟨rfl,rfl,_⟩) W hT
   ·exact ihl s W hokl (hE.tch hT noE) (λj hj=>hF j (Qm hT.size hj)) (hnl.next hT) (hln.next hT)
   ·exact ihr s W hokr (hE.tch hT noE) (λj hj=>hF j (Qm hT.size hj)) (hnr.next hT) (hln.next hT)
