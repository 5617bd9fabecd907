import Derived.Test.YtighkdnooglfjaaGreatDoorLcChO
namespace Go.Proofs.YtighkdnooglfjaaGreatDoor
open Tryz
set_option maxRecDepth 100000
set_option maxHeartbeats 1000000
open Go.RowKit

variable {a:Act}{Q:Exit->Act->World->Prop}{ps:List Nat}{d:List UInt8->BA}{l m n n₀ p:Nat}{F S:Nat->Prop}{W W' w w':World}
attribute [local go_sem] Oper.semAt_some

def JF(d:List UInt8->BA):Tr->Jj
 | ⟨.inl (k,o)⟩=>(⟨#[76]⟩,⟨k.toArray⟩,o,0,⟨#[]⟩,⟨#[]⟩)
 | ⟨.inr (b,l,r)⟩=>(⟨#[78]⟩,⟨#[]⟩,(0,0),(b:Int),Tr.dig d l,Tr.dig d r)
def Js(d:List UInt8->BA):Tr->List Jj
 | ⟨.inl (k,o)⟩=>[JF d (.leaf k o)]
 | ⟨.inr (b,l,r)⟩=>JF d (.br b l r)::(Js d l++Js d r)
def Jkh(d:List UInt8->BA)(F:Nat->Prop)(w:World):Nat->Tr->List Nat->Prop
 | n,⟨.inl (k,o)⟩,ps=>F n/\w.heap[n]? =some (.cells (YI (Tr.dig d (.leaf k o)) k o) 243)/\ps=[n]
 | n,⟨.inr (b,l,r)⟩,ps=>∃nl nr pl pr,F n/\w.heap[n]? =some (.cells (brC (Tr.dig d (.br b l r)) b nl nr) 243)/\Jkh d F w nl l pl/\Jkh d F w nr r pr/\ps=n::(pl++pr)
structure JW(d:List UInt8->BA)(F:Nat->Prop)(w:World)(n:Nat)(t:Tr)(ps:List Nat):Prop where
 of ::
 a:Jkh d F w n t ps
theorem JW.leaf(n:Nat)(k:Key)(o:Nat×Nat)(h1:F n)(h2:w.heap[n]? =some (.cells (YI (Tr.dig d (.leaf k o)) k o) 243)):JW d F w n (.leaf k o) [n]:=⟨h1,h2,rfl⟩
theorem JW.br(n b nl nr:Nat)(l r:Tr)(pl pr:List Nat)(h1:F n)(h2:w.heap[n]? =some (.cells (brC (Tr.dig d (.br b l r)) b nl nr) 243))(h3:JW d F w nl l pl)(h4:JW d F w nr r pr):JW d F w n (.br b l r) (n::(pl++pr)):=⟨nl,nr,pl,pr,h1,h2,h3.a,h4.a,rfl⟩
theorem JW.bri{b:Nat}{l r:Tr}(h:JW d F w n (.br b l r) ps):∃nl nr pl pr,F n/\w.heap[n]? =some (.cells (brC (Tr.dig d (.br b l r)) b nl nr) 243)/\JW d F w nl l pl/\JW d F w nr r pr/\ps=n::(pl++pr):=by
 obtain⟨nl,nr,pl,pr,h1,h2,h3,h4,e⟩:=h.a;exact⟨nl,nr,pl,pr,h1,h2,⟨h3⟩,⟨h4⟩,e⟩
theorem JW.ri{motive:∀n t ps,JW d F w n t ps->Prop}(leaf:∀n k o hF hr,motive n (.leaf k o) [n] (.leaf n k o hF hr))(br:∀n b nl nr l r pl pr hF hr hl hr',motive nl l pl hl->motive nr r pr hr'->motive n (.br b l r) (n::(pl++pr)) (.br n b nl nr l r pl pr hF hr hl hr')):∀{n t ps} (h:JW d F w n t ps),motive n t ps h
 | n,⟨.inl (k,o)⟩,_,⟨h1,h2,rfl⟩=>leaf n k o h1 h2
 | n,⟨.inr (b,l,r)⟩,_,⟨nl,nr,pl,pr,h1,h2,h3,h4,rfl⟩=>br n b nl nr l r pl pr h1 h2 ⟨h3⟩ ⟨h4⟩ (JW.ri leaf br ⟨h3⟩) (JW.ri leaf br ⟨h4⟩)
theorem Jg.places{t:Tr}(h:Jg d F w n t):∃ps,JW d F w n t ps:=by
 induction h using Jg.ri with
 | leaf n k o hF hr=>exact⟨_,.leaf n k o hF hr⟩
 | br n b nl nr l r hF hr _ _ ihl ihr=>
  obtain⟨pl,hl⟩:=ihl;obtain⟨pr,hr'⟩:=ihr;exact⟨_,.br n b nl nr l r pl pr hF hr hl hr'⟩
theorem JW.tch{t:Tr}(h:JW d F w n t ps)(k:Tch S w w')(hs:∀j,S j->¬F j):JW d F w' n t ps:=by
 induction h using JW.ri with
 | leaf n key o hF hr=>exact .leaf n key o hF ((k.block n (Jb hr) (λe=>hs n e hF)).trans hr)
 | br n b nl nr l r pl pr hF hr _ _ ihl ihr=>exact .br n b nl nr l r pl pr hF ((k.block n (Jb hr) (λe=>hs n e hF)).trans hr) ihl ihr
theorem JW.row{t:Tr}(h:JW d F w n t ps):F n/\IsN w n/\w.cell? ⟨n,0,none⟩=some (.string (Tr.dig d t))/\n∈ps:=by
 cases h using JW.ri with
 | leaf n k o hF hr=>exact⟨hF,⟨_,hr⟩,Ja hr,QM⟩
 | br n b nl nr l r pl pr hF hr _ _=>exact⟨hF,⟨_,hr⟩,Ja hr,QM⟩
theorem JW.rows{t:Tr}(h:JW d F w n t ps):∀q∈ps,F q/\IsN w q:=by
 induction h using JW.ri with
 | leaf n k o hF hr=>intro q hq;rw[Qt.1 hq];exact⟨hF,_,hr⟩
 | br n b nl nr l r pl pr hF hr _ _ ihl ihr=>
  intro q hq;rw[List.mem_cons,QE]at hq
  rcases hq with rfl|hq|hq
  ·exact⟨hF,_,hr⟩
  ·exact ihl q hq
  ·exact ihr q hq
def Jas(n₀ p:Nat)(W W':World):Prop:=∃S:Nat->Prop,Tch S W W'/\∀j,S j->n₀<=j/\j ≠ p
theorem Jas.same(h:Jas n₀ p W W'){o:Obj}(ho:W.heap[p]? =some o):W'.heap[p]? =some o:=by
 obtain⟨S,h1,h2⟩:=h;exact(h1.block p (Jb ho) (λe=>(h2 p e).2 rfl)).trans ho
theorem IsN.below(h:Below n₀ W W'){q:Nat}(hq:q<n₀)(hn:IsN W q):IsN W' q:=by
 obtain⟨c,hc⟩:=hn;exact⟨c,((Tch.of_below h).block q (Jb hc) (by omega)).trans hc⟩
theorem Xx(k:Tch S W W')(hs:∀j,S j->n₀<=j)(hn:n₀<=W.heap.size):Below n₀ W W':=
 ⟨k.os,k.tape,k.output,k.size,λj hj=>k.block j (by omega) (λe=>by have:=hs j e;omega)⟩
theorem Jas.below(h:Jas n₀ p W W')(hn:n₀<=W.heap.size):Below n₀ W W':=by
 obtain⟨S,h1,h2⟩:=h;exact Xx h1 (λj e=>(h2 j e).1) hn
theorem Jd2(d:List UInt8->BA)(hp:n₀<=p)(J:List Jj->World->Prop)(hJ:∀pre W W',J pre W->Tch (λk=>k=p) W W'->J pre W')
 (K:Jj->Prop) (hY:∀pre x W,K x->J pre W->YieldAt Fence.wide m prog l #[.agg (Jo x)] W λe W'=>e=.returned (.bool true)/\J (pre++[x]) W'/\Jas n₀ p W W')
 (n:Nat) (k:Key) (o:Nat×Nat) (W:World) (hn:n<n₀) (hr:W.heap[n]? =some (.cells (YI (Tr.dig d (.leaf k o)) k o) 243)) (qs:List Nat) (hm:W.heap[p]? =some (.map (psE 0 qs).toArray qs.length)) (hq:∀x∈qs,IsN W x/\x<n₀) (hnq:n ∉ qs) (pre:List Jj) (h0:J pre W) (hK:K (JF d (.leaf k o))):
  Calls prog 322 #[.pointer (some ⟨n,0,none⟩),.map (some p),.func (.yield l) #[] #[]] W λe W'=>e=.returned (.bool true)/\J (pre++[JF d (.leaf k o)]) W'/\W'.heap[p]? =some (.map (psE 0 (qs++[n])).toArray (qs++[n]).length)/\Below n₀ W W':=by
 obtain⟨W1,hW1⟩:∃W1,W1=W.alloc (.cells #[] 288):=⟨_,rfl⟩
 have t1:Tch NoB W W1:=by rw[hW1];exact Ta _ _ _
 have isn:∀x,IsN W x->IsN W1 x:=λx ⟨c,hc⟩=>⟨c,(t1.block x (Jb hc) (λe=>e)).trans hc⟩
 have hm1:=(t1.block p (Jb hm) (λe=>e)).trans hm;have hlk:=Jiu hm ⟨_,hr⟩ (λx hx=>(hq x hx).1) hnq;have hpu:=Jiv hm1 (isn n ⟨_,hr⟩) (λx hx=>isn x (hq x hx).1) hnq;obtain⟨W2,hW2⟩:∃W2,W2=W1.setPs p (qs++[n]):=⟨_,rfl⟩
 have hm2:W2.heap[p]? =some (.map (psE 0 (qs++[n])).toArray (qs++[n]).length):=by rw[hW2];exact JdA hm1 _
 have t2:Tch (λk=>k=p) W W2:=by rw[hW2];exact(t1.mono noE).trans (Tch.setPs _ _ _) (λj hj=>.inl hj)
 rw[<-hW2]at hpu;rw[hW1]at hpu;have hr2:=(t2.block n (Jb hr) (λe=>by omega)).trans hr;have HPL:Hid (Calls prog 353 #[.pointer (some ⟨n,0,none⟩)] W2 λe w'=>e=.returned (.agg (Jo (JF d (.leaf k o))))/\Tch NoB W2 w'):=Jdl n _ k o W2 hr2;have HIL:Hid (∀V,Below n₀ W2 V->Calls prog 224 #[.pointer (some ⟨n,0,none⟩)] V λe w'=>e=.returned (.bool true)/\w'=V):=λV hV=>Jax n _ k o V (((Tch.of_below hV).block n (Jb hr2) (by omega)).trans hr2);have HJ2:Hid (J pre W2):=hJ _ _ _ h0 t2;have HSZ:Hid (n₀<=W.heap.size):=(by have:=(Jb hm);omega:n₀<=W.heap.size)
 have HT2:Hid (Tch (λk=>k=p) W W2):=t2;have HM2:Hid (W2.heap[p]? =some (.map (psE 0 (qs++[n])).toArray (qs++[n]).length)):=hm2;have HJ:Hid (∀pre W W',J pre W->Tch (λk=>k=p) W W'->J pre W'):=hJ;have HY:Hid (∀pre x W,K x->J pre W->YieldAt Fence.wide m prog l #[.agg (Jo x)] W λe W'=>e=.returned (.bool true)/\J (pre++[x]) W'/\Jas n₀ p W W'):=hY;have HK:Hid (K (JF d (.leaf k o))):=hK;clear hK;generalize JF d (.leaf k o)=x at *;clear hW1 t1 isn hm1 hW2 hm2 t2 hr2 hr hq hnq hm h0 hJ hY hn;refine(callsIn_wide (n:=m+1)).1 ?_;refine callsIn_of_wp func322 rfl trivial ?_ rfl;simp only[ntmps322,List.size_toArray,Qp,Qv,Nat.reduceAdd,Nat.reduceSub,Array.replicate_succ,Array.replicate_zero,List.push_toArray,List.append_toArray,List.nil_append,List.cons_append];gi_wp2;refine⟨trivial,(callsIn_wide.2 HPL.o).mono ?_⟩;rintro _ W3⟨rfl,ht3⟩;have HT3:Hid (Tch (λk=>k=p) W W3):=HT2.o.trans ht3 noE;have HM3:Hid (W3.heap[p]? =_):=(ht3.block p (Jb HM2.o) (λe=>e)).trans HM2.o;have hJ3:=HJ.o _ _ _ HJ2.o (ht3.mono noE);have HB3:Hid (Below n₀ W2 W3):=Xx ht3 noE (by have:=(Jb HM2.o);omega);obtain⟨fn,tmps,assign,body,hy,hR⟩:=HY.o _ x W3 HK.o hJ3;clear ht3 hJ3 HJ2 HPL;gi_wp2;refine hR.mono ?_;clear hR hy;rintro _ W4⟨rfl,hJ4,hk4⟩;have HB4:Hid (Below n₀ W2 W4):=HB3.o.trans (hk4.below (Qm HSZ.o HT3.o.size));have HM4:Hid (W4.heap[p]? =_):=hk4.same HM3.o;have HJ4:Hid (J _ W4):=hJ4;clear hk4 hJ4;gi_upto_region 7 with fail;refine wpIn_wide.2 ?_;go_wp2_with fail;refine(HIL.o W4 HB4.o).mono ?_;rintro _ _⟨rfl,rfl⟩;go_wp2;gi_wp2;go_ret;exact⟨rfl,HJ4.o,HM4.o,(Xx HT2.o (λj hj=>by rw[hj];exact hp) HSZ.o).trans HB4.o⟩
theorem Jgz(d:List UInt8->BA)(hp:n₀<=p)(J:List Jj->World->Prop)(hJ:∀pre W W',J pre W->Tch (λk=>k=p) W W'->J pre W')
 (K:Jj->Prop) (hY:∀pre x W,K x->J pre W->YieldAt Fence.wide m prog l #[.agg (Jo x)] W λe W'=>e=.returned (.bool true)/\J (pre++[x]) W'/\Jas n₀ p W W')
 (n b nl nr:Nat) (tl tr:Tr) (W:World) (hn:n<n₀) (hr:W.heap[n]? =some (.cells (brC (Tr.dig d (.br b tl tr)) b nl nr) 243)) (hnl:nl<n₀/\W.cell? ⟨nl,0,none⟩=some (.string (Tr.dig d tl))) (hnr:nr<n₀/\W.cell? ⟨nr,0,none⟩=some (.string (Tr.dig d tr))) (qs pl pr:List Nat) (hm:W.heap[p]? =some (.map (psE 0 qs).toArray qs.length)) (hq:∀x∈qs,IsN W x/\x<n₀) (hnq:n ∉ qs) (pre:List Jj) (h0:J pre W) (hK:K (JF d (.br b tl tr)))
 (hL:∀V pre,Below n₀ W V->V.heap[p]? =some (.map (psE 0 (qs++[n])).toArray (qs++[n]).length)->J pre V->Calls prog 322 #[.pointer (some ⟨nl,0,none⟩),.map (some p),.func (.yield l) #[] #[]] V λe W'=>e=.returned (.bool true)/\J (pre++Js d tl) W'/\W'.heap[p]? =some (.map (psE 0 (qs++[n]++pl)).toArray (qs++[n]++pl).length)/\Below n₀ V W')
 (hR:∀V pre,Below n₀ W V->V.heap[p]? =some (.map (psE 0 (qs++[n]++pl)).toArray (qs++[n]++pl).length)->J pre V->Calls prog 322 #[.pointer (some ⟨nr,0,none⟩),.map (some p),.func (.yield l) #[] #[]] V λe W'=>e=.returned (.bool true)/\J (pre++Js d tr) W'/\W'.heap[p]? =some (.map (psE 0 (qs++[n]++pl++pr)).toArray (qs++[n]++pl++pr).length)/\Below n₀ V W'):
  Calls prog 322 #[.pointer (some ⟨n,0,none⟩),.map (some p),.func (.yield l) #[] #[]] W λe W'=>e=.returned (.bool true)/\J (pre++[JF d (.br b tl tr)]++Js d tl++Js d tr) W'/\W'.heap[p]? =some (.map (psE 0 (qs++[n]++pl++pr)).toArray (qs++[n]++pl++pr).length)/\Below n₀ W W':=by
 obtain⟨W1,hW1⟩:∃W1,W1=W.alloc (.cells #[] 288):=⟨_,rfl⟩
 have t1:Tch NoB W W1:=by rw[hW1];exact Ta _ _ _
 have isn:∀x,IsN W x->IsN W1 x:=λx ⟨c,hc⟩=>⟨c,(t1.block x (Jb hc) (λe=>e)).trans hc⟩
 have hm1:=(t1.block p (Jb hm) (λe=>e)).trans hm;have hlk:=Jiu hm ⟨_,hr⟩ (λx hx=>(hq x hx).1) hnq;have hpu:=Jiv hm1 (isn n ⟨_,hr⟩) (λx hx=>isn x (hq x hx).1) hnq;obtain⟨W2,hW2⟩:∃W2,W2=W1.setPs p (qs++[n]):=⟨_,rfl⟩
 have hm2:W2.heap[p]? =some (.map (psE 0 (qs++[n])).toArray (qs++[n]).length):=by rw[hW2];exact JdA hm1 _
 have t2:Tch (λk=>k=p) W W2:=by rw[hW2];exact(t1.mono noE).trans (Tch.setPs _ _ _) (λj hj=>.inl hj)
 rw[<-hW2]at hpu;rw[hW1]at hpu;have hr2:=(t2.block n (Jb hr) (λe=>by omega)).trans hr;have HPL:Hid (Calls prog 353 #[.pointer (some ⟨n,0,none⟩)] W2 λe w'=>e=.returned (.agg (Jo (JF d (.br b tl tr))))/\Tch NoB W2 w'):=JgF n _ b nl nr _ _ W2 hr2 ((t2.cell (p:=⟨nl,0,none⟩) (Qr _ _ hnl.2) (λe=>by simp only at e;omega)).trans hnl.2) ((t2.cell (p:=⟨nr,0,none⟩) (Qr _ _ hnr.2) (λe=>by simp only at e;omega)).trans hnr.2) (Qk (Qr _ _ hnl.2) t2.size) (Qk (Qr _ _ hnr.2) t2.size);have HRW:Hid (∀V,Below n₀ W V->V.heap[n]? =some (.cells (brC (Tr.dig d (.br b tl tr)) b nl nr) 243)):=λV hV=>((Tch.of_below hV).block n (Jb hr) (by omega)).trans hr;have HIL:Hid (∀V,Below n₀ W V->Calls prog 224 #[.pointer (some ⟨n,0,none⟩)] V λe w'=>e=.returned (.bool false)/\w'=V):=λV hV=>JaN n _ b nl nr V (HRW.o V hV);have HL:Hid (∀V pre,Below n₀ W V->V.heap[p]? =some (.map (psE 0 (qs++[n])).toArray (qs++[n]).length)->J pre V->Calls _ _ _ _ _):=hL;have HR:Hid (∀V pre,Below n₀ W V->V.heap[p]? =some (.map (psE 0 (qs++[n]++pl)).toArray (qs++[n]++pl).length)->J pre V->Calls _ _ _ _ _):=hR;have HJ2:Hid (J pre W2):=hJ _ _ _ h0 t2;have HSZ:Hid (n₀<=W.heap.size):=(by have:=(Jb hm);omega:n₀<=W.heap.size)
 have HT2:Hid (Tch (λk=>k=p) W W2):=t2;have HM2:Hid (W2.heap[p]? =some (.map (psE 0 (qs++[n])).toArray (qs++[n]).length)):=hm2;have HJ:Hid (∀pre W W',J pre W->Tch (λk=>k=p) W W'->J pre W'):=hJ;have HY:Hid (∀pre x W,K x->J pre W->YieldAt Fence.wide m prog l #[.agg (Jo x)] W λe W'=>e=.returned (.bool true)/\J (pre++[x]) W'/\Jas n₀ p W W'):=hY;have HK:Hid (K (JF d (.br b tl tr))):=hK;clear hK;generalize JF d (.br b tl tr)=x at *;clear hW1 t1 isn hm1 hW2 hm2 t2 hr2 hr hq hnq hm h0 hJ hY hn hL hR hnl hnr;refine(callsIn_wide (n:=m+1)).1 ?_;refine callsIn_of_wp func322 rfl trivial ?_ rfl;simp only[ntmps322,List.size_toArray,Qp,Qv,Nat.reduceAdd,Nat.reduceSub,Array.replicate_succ,Array.replicate_zero,List.push_toArray,List.append_toArray,List.nil_append,List.cons_append];gi_wp2;refine⟨trivial,(callsIn_wide.2 HPL.o).mono ?_⟩;rintro _ W3⟨rfl,ht3⟩;have HT3:Hid (Tch (λk=>k=p) W W3):=HT2.o.trans ht3 noE;have HM3:Hid (W3.heap[p]? =_):=(ht3.block p (Jb HM2.o) (λe=>e)).trans HM2.o;have hJ3:=HJ.o _ _ _ HJ2.o (ht3.mono noE);have HB3:Hid (Below n₀ W2 W3):=Xx ht3 noE (by have:=(Jb HM2.o);omega);obtain⟨fn,tmps,assign,body,hy,hR⟩:=HY.o _ x W3 HK.o hJ3;clear ht3 hJ3 HJ2 HPL;gi_wp2;refine hR.mono ?_;clear hR hy;rintro _ W4⟨rfl,hJ4,hk4⟩;have HB4:Hid (Below n₀ W2 W4):=HB3.o.trans (hk4.below (Qm HSZ.o HT3.o.size));have HM4:Hid (W4.heap[p]? =_):=hk4.same HM3.o;have HJ4:Hid (J _ W4):=hJ4;clear hk4 hJ4;have HB5:Hid (Below n₀ W W4):=(Xx HT2.o (λj hj=>by rw[hj];exact hp) HSZ.o).trans HB4.o;have c5:W4.cell? ⟨n,5,none⟩=some (.pointer (some ⟨nl,0,none⟩)):=Ja (HRW.o W4 HB5.o);gi_upto_region 7 with fail;refine wpIn_wide.2 ?_;go_wp2_with fail;refine(HIL.o W4 HB5.o).mono ?_;rintro _ _⟨rfl,rfl⟩;go_wp2_with fail;refine(HL.o _ _ HB5.o HM4.o HJ4.o).mono ?_;rintro _ W5⟨rfl,hJ5,hm5,hb5⟩;have HB6:Hid (Below n₀ W W5):=HB5.o.trans hb5;have c6:W5.cell? ⟨n,6,none⟩=some (.pointer (some ⟨nr,0,none⟩)):=Ja (HRW.o W5 HB6.o);have HJ5:Hid (J _ W5):=hJ5;have HM5:Hid (W5.heap[p]? =_):=hm5;clear hJ5 hm5 hb5 c5;go_wp2_with fail;refine(HR.o _ _ HB6.o HM5.o HJ5.o).mono ?_;rintro _ W6⟨rfl,hJ6,hm6,hb6⟩;have HJ6:Hid (J _ W6):=hJ6;have HM6:Hid (W6.heap[p]? =_):=hm6;have HB7:Hid (Below n₀ W W6):=HB6.o.trans hb6;clear hJ6 hm6 hb6 c6;go_wp2;gi_wp2;go_ret;exact⟨rfl,HJ6.o,HM6.o,HB7.o⟩

attribute [local go_sem] Oper.semAt_some

theorem JW.same{t:Tr}(h:JW d F w n t ps):∀{t':Tr} {ps':List Nat},JW d F w n t' ps'->t=t':=by
 induction h using JW.ri with
 | leaf n k o hF hr=>
  intro t' ps' h'
  cases h' using JW.ri with
  | leaf _ k' o' _ hr'=>
   rw[hr]at hr';obtain⟨o1,o2⟩:=o;obtain⟨o1',o2'⟩:=o';simp only[YI,Qh,Obj.cells.injEq,Array.mk.injEq,QH,Value.string.injEq,Value.int.injEq,ByteArray.mk.injEq,true_and,and_true]at hr';obtain⟨_,hk,h1,h2⟩:=hr';have e1:k=k':=(by simpa using hk);have e2:o1=o1':=(by omega);have e3:o2=o2':=(by omega);rw[e1,e2,e3]
  | br _ b nl nr l r pl pr _ hr'=>rw[hr]at hr';simp[YI,brC]at hr'
 | br n b nl nr l r pl pr hF hr _ _ ihl ihr=>
  intro t' ps' h'
  cases h' using JW.ri with
  | leaf _ k' o' _ hr'=>rw[hr]at hr';simp[YI,brC]at hr'
  | br _ b' nl' nr' l' r' pl' pr' _ hr' hl' hr2'=>
   rw[hr]at hr';simp only[brC,Qh,Obj.cells.injEq,Array.mk.injEq,QH,Value.string.injEq,Value.int.injEq,Value.pointer.injEq,Addr.mk.injEq,true_and,and_true]at hr';obtain⟨_,hb,rfl,rfl⟩:=hr';have e:b=b':=(by omega);rw[e,ihl hl',ihr hr2']
theorem JW.part{t:Tr}(h:JW d F w n t ps):∀q∈ps,∃s ps',JW d F w q s ps'/\(∀x∈s.coins,x∈t.coins)/\s.coins.length<=t.coins.length:=by
 induction h using JW.ri with
 | leaf n k o hF hr=>intro q hq;rw[Qt.1 hq];exact⟨_,_,.leaf n k o hF hr,λ_ h=>h,Ql _⟩
 | br n b nl nr l r pl pr hF hr hl hr' ihl ihr=>
  intro q hq;rw[List.mem_cons,QE]at hq
  rcases hq with rfl|hq|hq
  ·exact⟨_,_,.br q b nl nr l r pl pr hF hr hl hr',λ_ h=>h,Ql _⟩
  ·obtain⟨s,ps',h1,h2,h3⟩:=ihl q hq;exact⟨s,ps',h1,λx hx=>by simp only[Tr.coins,QE];exact .inl (h2 x hx),by simp only[Tr.coins,Qe];omega⟩
  ·obtain⟨s,ps',h1,h2,h3⟩:=ihr q hq;exact⟨s,ps',h1,λx hx=>by simp only[Tr.coins,QE];exact .inr (h2 x hx),by simp only[Tr.coins,Qe];omega⟩
theorem JW.nodup{t:Tr}(h:JW d F w n t ps)(hw:t.Wf):ps.Nodup:=by
 induction h using JW.ri with
 | leaf n k o hF hr=>simp
 | br n b nl nr l r pl pr hF hr hl hr' ihl ihr=>
  obtain⟨w1,w2,h0,h1,_⟩:=hw;have nl0:=List.length_pos_iff.2 (Tr.coins_ne l);have nr0:=List.length_pos_iff.2 (Tr.coins_ne r);have me:=JW.br n b nl nr l r pl pr hF hr hl hr';rw[List.nodup_cons,List.nodup_append];refine⟨λhm=>?_,ihl w1,ihr w2,λa ha c hc e=>?_⟩
  ·rw[QE]at hm
   rcases hm with hm|hm
   ·obtain⟨s,ps',k1,_,k3⟩:=hl.part n hm;rw[<-me.same k1]at k3;simp only[Tr.coins,Qe]at k3;omega
   ·obtain⟨s,ps',k1,_,k3⟩:=hr'.part n hm;rw[<-me.same k1]at k3;simp only[Tr.coins,Qe]at k3;omega
  ·subst e;obtain⟨s,ps1,k1,k2,_⟩:=hl.part a ha;obtain⟨s',ps2,m1,m2,_⟩:=hr'.part a hc;have es:=k1.same m1;subst es;obtain⟨x,hx⟩:=List.exists_mem_of_ne_nil _ (Tr.coins_ne s);have a0:=h0 x (k2 x hx);have a1:=h1 x (m2 x hx);omega
theorem Jlk(d:List UInt8->BA)(hp:n₀<=p)(hF:∀j,F j->j<n₀)(J:List Jj->World->Prop)(hJ:∀pre W W',J pre W->Tch (λk=>k=p) W W'->J pre W')
 (K:Jj->Prop) (hY:∀pre x W,K x->J pre W->YieldAt Fence.wide m prog l #[.agg (Jo x)] W λe W'=>e=.returned (.bool true)/\J (pre++[x]) W'/\Jas n₀ p W W'):
  ∀(t:Tr)(n:Nat)(ps:List Nat)(W:World)(qs:List Nat)(pre:List Jj),JW d F W n t ps->W.heap[p]? =some (.map (psE 0 qs).toArray qs.length)->(∀x∈qs,IsN W x/\x<n₀)->(qs++ps).Nodup->J pre W->(∀x∈Js d t,K x)->
  Calls prog 322 #[.pointer (some ⟨n,0,none⟩),.map (some p),.func (.yield l) #[] #[]] W λe W'=>e=.returned (.bool true)/\J (pre++Js d t) W'/\W'.heap[p]? =some (.map (psE 0 (qs++ps)).toArray (qs++ps).length)/\Below n₀ W W':=by
 intro t
 induction t using Tr.ri with
 | leaf k o=>
  intro n ps W qs pre hN hm hq hnd h0 hK;obtain⟨hFn,hr,rfl⟩:=hN.a;exact Jd2 d hp J hJ K hY n k o W (hF n hFn) hr qs hm hq (λe=>(List.nodup_append.1 hnd).2.2 n e n (by simp) rfl) pre h0 (hK _ (by simp[Js]))
 | br b tl tr ihl ihr=>
  intro n ps W qs pre hN hm hq hnd h0 hK;obtain⟨nl,nr,pl,pr,hFn,hr,hl,hr',rfl⟩:=hN.bri;have rl:=hl.row;have rr:=hr'.row;have hnq:n ∉ qs:=λe=>(List.nodup_append.1 hnd).2.2 n e n (by simp) rfl;have hnd':(qs++[n]++pl++pr).Nodup:=by rw[show qs++[n]++pl++pr=qs++n::(pl++pr) by simp];exact hnd
  have isb:∀V,Below n₀ W V->∀x,(IsN W x/\x<n₀)->IsN V x/\x<n₀:=λV hV x hx=>⟨hx.1.below hV hx.2,hx.2⟩
  have hn':IsN W n/\n<n₀:=⟨⟨_,hr⟩,hF n hFn⟩
  have kp:∀V,Below n₀ W V->∀{q s u},JW d F W q s u->JW d F V q s u:=λV hV q s u hh=>hh.tch (Tch.of_below hV) (λj hj e=>by have:=hF j e;omega);have H:=Jgz d hp J hJ K hY n b nl nr tl tr W (hF n hFn) hr ⟨hF _ rl.1,rl.2.2.1⟩ ⟨hF _ rr.1,rr.2.2.1⟩ qs pl pr hm hq hnq pre h0 (hK _ (by simp[Js]))
   (λV pre hV hmV hJV=>ihl nl pl V (qs++[n]) pre (kp V hV hl) hmV (λx hx=>isb V hV x (by rw[QE,Qt]at hx;rcases hx with hx|rfl;exact hq x hx;exact hn')) (List.nodup_append.1 hnd').1 hJV (λx hx=>hK x (by simp[Js,hx])))
   (λV pre hV hmV hJV=>ihr nr pr V (qs++[n]++pl) pre (kp V hV hr') hmV (λx hx=>isb V hV x (by rw[QE,QE,Qt]at hx;rcases hx with(hx|rfl)|hx;exact hq x hx;exact hn';exact⟨(hl.rows x hx).2,hF x (hl.rows x hx).1⟩)) hnd' hJV (λx hx=>hK x (by simp[Js,hx])))
  refine H.mono λe W' k=>?_;rw[show qs++n::(pl++pr)=qs++[n]++pl++pr by simp,Js,show pre++JF d (.br b tl tr)::(Js d tl++Js d tr)=pre++[JF d (.br b tl tr)]++Js d tl++Js d tr by simp];exact k
def Jd(d:List UInt8->BA):Option Tr->List Jj
 | none=>[(⟨#[69]⟩,⟨#[]⟩,(0,0),0,⟨#[]⟩,⟨#[]⟩)]
 | some t=>Js d t
theorem JlT(d:List UInt8->BA)(hp:n₀<=p)(hF:∀j,F j->j<n₀)(J:List Jj->World->Prop)(hJ:∀pre W W',J pre W->Tch (λk=>k=p) W W'->J pre W')
 (K:Jj->Prop) (hY:∀pre x W,K x->J pre W->YieldAt Fence.wide m prog l #[.agg (Jo x)] W λe W'=>e=.returned (.bool true)/\J (pre++[x]) W'/\Jas n₀ p W W')
 (wj:Nat) (q:Option Nat) (st:Option Tr) (W:World) (hs:StAt d F W q st) (hw:∀t,st=some t->t.Wf) (hm:W.heap[p]? =some (.map #[] 0)) (pre:List Jj) (h0:J pre W) (hK:∀x∈Jd d st,K x):
  Calls prog 247 #[Jv wj q,.map (some p),.func (.yield l) #[] #[]] W λe W'=>e=.returned (.bool true)/\J (pre++Jd d st) W':=by
 obtain⟨W1,hW1⟩:∃(W1:World),W1=W.alloc (.cells #[.int .i64 (wj:Int),Jh q] 146):=⟨_,rfl⟩
 have t1:Tch NoB W W1:=by rw[hW1];exact Ta _ _ _
 have hr1:W1.heap[W.heap.size]? =some (.cells #[.int .i64 (wj:Int),Jh q] 146):=by rw[hW1];exact Qf _ _
 have c1:W1.cell? ⟨W.heap.size,1,none⟩=some (Jh q):=Ja hr1;have hJ1:=hJ _ _ _ h0 (t1.mono noE);have HW:Hid (W1=_):=hW1
 cases q with
 | none=>
  cases st with
  | some t=>exact absurd hs (by simp[StAt])
  | none=>
   obtain⟨fn,tmps,assign,body,hy,hR⟩:=hY _ (⟨#[69]⟩,⟨#[]⟩,(0,0),0,⟨#[]⟩,⟨#[]⟩) W1 (hK _ (by simp[Jd])) hJ1;have hy:(Instr.yield l #[.agg #[.string ⟨#[69]⟩,.string ⟨#[]⟩,.int .u64 0,.int .u8 0,.int .i64 0,.string ⟨#[]⟩,.string ⟨#[]⟩]]).run prog W1=.ok (.round l fn tmps assign body) W1:=hy;have HR:Hid (RoundIn _ _ _ _ _ _ _ _ _ _):=hR;clear hR hW1 t1 hr1 hJ hY hs hw hm h0 hJ1;simp only[Jh,Option.map_none]at c1 HW;unfold Jv;simp only[Jh,Option.map_none];refine(callsIn_wide (n:=m+1)).1 ?_;refine callsIn_of_wp func247 rfl trivial ?_ rfl;simp only[ntmps247,List.size_toArray,Qp,Qv,Nat.reduceAdd,Nat.reduceSub,Array.replicate_succ,Array.replicate_zero,List.push_toArray,List.append_toArray,List.nil_append,List.cons_append];gi_upto_region 1 with fail;rw[<-HW.o];gi_wp2;refine HR.o.mono ?_;rintro _ W2⟨rfl,h2,_⟩;gi_wp2;go_ret;exact⟨rfl,h2⟩
 | some n=>
  cases st with
  | none=>exact absurd hs (by simp[StAt])
  | some t=>
   obtain⟨ps,hN⟩:=Jg.places (show Jg d F W n t from hs);have hN1:=hN.tch t1 noE;have hm1:=(t1.block p (Jb hm) (λe=>e)).trans hm;have HP:Hid (Calls _ _ _ _ _):=Jlk d hp hF J hJ K hY t n ps W1 [] pre hN1 hm1 (λx hx=>absurd hx QD) (by rw[List.nil_append];exact hN.nodup (hw t rfl)) hJ1 hK;clear hW1 t1 hr1 hJ hY hs hw hm h0 hJ1 hN hN1 hm1;simp only[Jh,Option.map_some]at c1 HW;unfold Jv;simp only[Jh,Option.map_some];go_enter func247,ntmps247;go_upto_region 1 with fail;rw[<-HW.o];go_wp2_with fail;refine HP.o.mono ?_;rintro _ W2⟨rfl,h2,_⟩;have H2:Hid (J _ W2):=h2;clear h2;go_wp2;go_ret;exact⟨rfl,H2.o⟩
open Go Go.RowKit

theorem Tch.putObj(S:Nat->Prop)(W:World)(l:Nat)(o:Obj)(hl:S l):Tch S W (W.putObj l o):=
 ⟨rfl,rfl,rfl,by simp[World.putObj],λk _ hn=>World.putObj_heap_other (λe=>hn (by rw[e];exact hl))⟩
theorem JeA{P:Program}{α:Type}{g:Operand}{ps:Array Tmp}{assign body:Code}(h1:1<=n)
 {gf:Nat} {lb:Array Value} (hg:a.eval g=.func (.func gf) #[] lb) (eg:∀args w,(callFunc gf args).run P w=.ok (.enter gf args) w) {encs:α->Array Value} (hps:∀x,(encs x).size=ps.size)
 (r:Nat) (hr:r<w.heap.size) (I:List α->World->Prop) (hI:∀pre A B,I pre A->Tch (λk=>w.heap.size<=k) A B->I pre B) (h0:I [] w) (a₁:α->Nat->Act) (ob:α->Obj) (K:α->Prop) (xs:List α)
 (hseq:∀(l:Nat)(J:List α->World->Prop)(W:World),Tch NoB w W->w.heap.size<=l->l<W.heap.size->(∀pre A B,J pre A->Tch (λk=>k=W.heap.size) A B->J pre B)->
 (∀pre x V,K x->J pre V->YieldAt Fence.wide (n-1-1) P l (encs x) V λe V'=>e=.returned (.bool true)/\J (pre++[x]) V'/\Tch (λk=>k=r\/k=l) V V')->J [] W->
 CallsIn Fence.wide (n-1) P gf (#[.func (.yield l) #[] #[]]++lb) W λe W'=>(∃v,e=.returned v)/\J xs W')
 (hassign:∀(l:Nat)(x:α)(W:World)(K:Act->World->Prop),K (a₁ x W.heap.size) (W.alloc (ob x))->
 assign.wpIn (Fence.wide.inRound l) (n-1-1) P (Exit.then K (λ_ _ _=>False)) { tmps:=(ps.zip (encs x)).foldl (λt (p,v)=>t.setIfInBounds p v) a.tmps,defers:=[] } W)
 (hbody:∀(l:Nat)(pre:List α)(x:α)(b:Nat)(W:World),K x->I pre W->W.heap[b]? =some (ob x)->body.wpIn (Fence.wide.inRound l) (n-1-1) P (λe _ W'=>e=.normal/\Tch (λk=>k=r) W W'/\I (pre++[x]) W') (a₁ x b) W)
 (hdone:∀(D:Nat)(W:World),w.heap.size<=D->I xs W->W.heap[D]? =some (.deferred (some []))->Q .normal { a with defers:={ target:=.collected D,args:= #[] } :: a.defers } W):
  (Code.rangeFunc g ps assign body).wpIn Fence.wide n P Q a w:=by
 refine wpIn_rangeFunc ?_;intro fn hfn;rw[show Fence.wide.round=none from rfl];obtain⟨rec,hrec⟩:∃rec:LoopState->Option Code->Loop,rec=λst pe=>{ state:=st,pending:=pe,fn,tmps:=a.tmps,params:=ps,assign,body,defers:=w.heap.size }:=⟨_,rfl⟩
 obtain⟨W1,hW1⟩:∃W1,(w.alloc (.deferred (some []))).alloc (.loop (rec .ready none))=W1:=⟨_,rfl⟩
 have t1:Tch NoB w W1:=by rw[<-hW1];exact Tch.allocs _ _ _ _
 have hz1:W1.heap.size=w.heap.size+2:=by rw[<-hW1];simp
 have hL1:W1.heap[w.heap.size+1]? =some (.loop (rec .ready none)):=by rw[<-hW1];exact heap_alloc2_new _ _ _
 have hD1:W1.heap[w.heap.size]? =some (.deferred (some [])):=by rw[<-hW1];exact heap_alloc2_old _ _ _
 refine⟨w.heap.size+1,[{ target:=.collected w.heap.size,args:= #[] }],W1,{ target:=.fn (.func gf) lb,args:= #[.func (.yield (w.heap.size+1)) #[] #[]] },W1,gf,#[.func (.yield (w.heap.size+1)) #[] #[]]++lb,W1,?_,?_,?_,?_,λ_=>h1,?_⟩
 ·rw[<-hW1,hrec];exact run_enterLoop_outer _ _ _ _ _
 ·simp only[resolve,hg];simp[go_sem]
 ·intro f' hf';trivial
 ·simp[invoke,go_sem,eg]
 ·refine(hseq (w.heap.size+1) (λpre W=>I pre W/\W.heap[w.heap.size+1]? =some (.loop (rec .ready none))/\W.heap[w.heap.size]? =some (.deferred (some []))) W1 t1 (by omega) (by omega)
   (λpre A B h k=>⟨hI _ _ _ h.1 (k.mono (λj hj=>.inl (by omega))),(k.block _ (Jb h.2.1) (by omega)).trans h.2.1,(k.block _ (Jb h.2.2) (by omega)).trans h.2.2⟩)
   ?_ ⟨hI _ _ _ h0 (t1.mono noE),hL1,hD1⟩).mono ?_
  ·rintro pre x V hKx⟨hi,hl,hd⟩;have hlt:=(Jb hl)
   have hy:=run_yield (P:=P) (args:=encs x) hl (by rw[hrec];exact hps x);rw[hrec]at hy;have tA:=Ta NoB V (ob x);have hlA:=(tA.block _ hlt (λe=>e)).trans hl;have hdA:=(tA.block _ (Jb hd) (λe=>e)).trans hd;have hbA:=Qf V (ob x);refine⟨fn,_,assign,body,hy,roundIn_of_wpIn hfn (hassign _ x V _ ⟨_,run_beginRound hlA (by rw[hrec]),?_⟩)⟩;obtain⟨VA,hVA⟩:∃VA,VA=V.alloc (ob x):=⟨_,rfl⟩
   obtain⟨VB,hVB⟩:∃VB,VB=VA.putObj (w.heap.size+1) (.loop { rec .ready none with state:=.busy }):=⟨_,rfl⟩
   rw[<-hVA]at tA hlA hdA hbA ⊢;rw[<-hVB];have tB:Tch (λk=>k=w.heap.size+1) VA VB:=(by rw[hVB];exact Tch.putObj _ _ _ _ rfl);have hlB:VB.heap[w.heap.size+1]? =some (.loop { rec .ready none with state:=.busy }):=(by rw[hVB];exact World.putObj_heap_same (Jb hlA));have hdB:=(tB.block _ (Jb hdA) (by omega)).trans hdA;have hbB:=(tB.block _ (Jb hbA) (by omega)).trans hbA;have hiB:I pre VB:=hI _ _ _ (hI _ _ _ hi (tA.mono noE)) (tB.mono (λj hj=>.inl (by omega)));refine wpIn_mono (hbody _ pre x _ VB hKx hiB hbB) ?_;rintro e a3 VC⟨rfl,tC,hiC⟩;have hlC:=(tC.block _ (Jb hlB) (by omega)).trans hlB;have hdC:=(tC.block _ (Jb hdB) (by omega)).trans hdB;have hE:=run_endRound (P:=P) none hlC;rw[hrec]at hE;refine⟨_,_,hE,rfl,⟨?_,?_,?_⟩,?_⟩
   ·exact hI _ _ _ hiC (Tch.putObj _ _ _ _ (by omega))
   ·rw[hrec];exact World.putObj_heap_same (Jb hlC)
   ·exact(World.putObj_heap_other (by omega)).trans hdC
   ·refine(((tA.mono noE).trans tB (λj hj=>.inl (.inr hj))).trans tC (λj hj=>.inl (.inl hj))).trans (Tch.putObj (λk=>k=w.heap.size+1) _ _ _ rfl) (λj hj=>.inl (.inr hj))
  ·rintro e W2⟨⟨v,rfl⟩,hi,hl,hd⟩;have hE:=run_endLoop (P:=P) hl (by rw[hrec];simp);rw[hrec]at hE;exact⟨none,_,hE,hdone _ _ (Ql _) (hI _ _ _ hi (Tch.putObj _ _ _ _ (by omega))) ((World.putObj_heap_other (by omega)).trans hd)⟩

attribute [local go_sem] Oper.semAt_some

theorem JfL(d:List UInt8->BA)(hF:∀j,F j->j<n₀)(W:World)(hn:n₀<=W.heap.size)(J:List Jj->World->Prop)(hJ:∀pre A B,J pre A->Tch (λk=>k=W.heap.size) A B->J pre B)
 (K:Jj->Prop) (hY:∀pre x V,K x->J pre V->YieldAt Fence.wide m prog l #[.agg (Jo x)] V λe V'=>e=.returned (.bool true)/\J (pre++[x]) V'/\Jas n₀ W.heap.size V V')
 (Bt g c wj:Nat) (q:Option Nat) (st:Option Tr) (hb:W.cell? ⟨Bt,0,none⟩=some (.slice (some ⟨g,0,none⟩) 1 c)) (hg0:W.cell? ⟨g,0,none⟩=some (.int .i64 (wj:Int))) (hg1:W.cell? ⟨g,1,none⟩=some (Jh q)) (hs:StAt d F W q st) (hw:∀t,st=some t->t.Wf) (h0:J [] W) (hK:∀x∈Jd d st,K x):
  Calls prog 246 #[.func (.yield l) #[] #[],.pointer (some ⟨Bt,0,none⟩)] W λe W'=>(∃v,e=.returned v)/\J (Jd d st) W':=by
 obtain⟨W1,hW1⟩:∃(W1:World),W1=W.alloc (.map #[] 0):=⟨_,rfl⟩
 have t1:Tch NoB W W1:=by rw[hW1];exact Ta _ _ _
 have hm1:W1.heap[W.heap.size]? =some (.map #[] 0):=by rw[hW1];exact Qf _ _
 have lt0:=Qr _ _ hb;have ltg:=Qr _ _ hg0;have c0:=(t1.cell (p:=⟨Bt,0,none⟩) lt0 (λe=>e)).trans hb;have c1:=(t1.cell (p:=⟨g,0,none⟩) ltg (λe=>e)).trans hg0;have c2:=(t1.cell (p:=⟨g,1,none⟩) ltg (λe=>e)).trans hg1;obtain⟨rv,hrv⟩:∃rv,Jh q=.pointer rv:=⟨_,rfl⟩
 have HP:Hid (∀V,Tch NoB W1 V->Calls prog 247 #[.agg #[.int .i64 (wj:Int),.pointer rv],.map (some W.heap.size),.func (.yield l) #[] #[]] V λe W'=>e=.returned (.bool true)/\J (Jd d st) W'):=λV hV=>by
  have:=JlT d hn hF J hJ K hY wj q st V ((hs.next t1).next hV) hw ((hV.block _ (Jb hm1) (λe=>e)).trans hm1) [] (hJ _ _ _ h0 ((t1.go hV).mono noE)) hK;unfold Jv at this;rw[hrv]at this;exact this
 rw[hrv]at c2;have HW:Hid _:=hW1;have HZ:Hid (W.heap.size<W1.heap.size):=(Jb hm1)
 have hmk:(Instr.makeMap 405 none).run prog W=.ok (.map (some W.heap.size)) W1:=by rw[hW1];simp[Instr.makeMap,Result.andThen]
 clear hW1 t1 hm1 hb hg0 hg1 hs hw h0 hJ hY hF hn lt0 hrv;go_enter func246,ntmps246;go_upto_region 2 with fail;go_loopw [9] (λi wr=>(i=.int .i64 0/\wr=W1)\/(i=.int .i64 1/\Hid (J (Jd d st) wr))) (λi _=>1-(intOf i).toNat)
 case atStart=>exact .inl ⟨rfl,rfl⟩
 case round=>
  rcases hrel with⟨rfl,rfl⟩|⟨rfl,HJ1⟩
  ·go_wp2_with fail;refine(HP.o _ (by first|exact Ta _ _ _|exact Te _ _)).mono ?_;rintro _ W2⟨rfl,hj2⟩;have HJ2:Hid _:=hj2;clear hj2;go_wp2;go_roundw
   case rel=>exact .inr ⟨rfl,HJ2⟩
   case measure=>simp[intOf]
  ·go_wp2;refine bodyPost_end (v:=.tuple #[]) (results_none results246 _ _ _) rfl ?_;exact⟨⟨_,rfl⟩,HJ1.o⟩

attribute [local go_sem] Oper.semAt_some

set_option maxRecDepth 100000 in
theorem Jib(a:Option Addr)(n c:Nat)(w:World):Calls prog 158 #[.slice a n c] w λe w'=>e=.returned (.func (.func 246) #[] #[.pointer (some ⟨w.heap.size,0,none⟩)])/\w'=w.alloc (.cells #[.slice a n c] 189):=by
 have hmf:∀(fn:Fn)(first cap:Array Value)(w:World),(Instr.makeFunc fn first cap).run prog w=.ok (.func fn first cap) w:=λ_ _ _ _=>rfl;go_enter func158,ntmps158;go_wp2;go_ret;exact⟨rfl,rfl⟩

theorem Xu{ops:Array Oper}{rest:List Oper}{o:Oper}(hgd:o.guard=none)(s x:Operand)(T:TypeId)
 (ho:o.op=.call { callee:=.builtin .append,args:= #[s,x],argTypes:= #[T,T] }) {v xv v':Value} (hv:a.eval s=v) (hx:a.eval x=xv) (hrun:(Builtin.append_ #[T,T] o.type #[v,xv]).run Tryz.prog w=.ok v' w')
 (hK:wpList Tryz.prog ops Q rest (a.put o.dst v') w'):wpList Tryz.prog ops Q (o::rest) a w:=by
 refine wpList_plain hgd λK hK'=>?_;unfold Oper.wp;simp[execOp,ho,resolve,invoke,builtin,hv,hx,hrun,Result.andThen];exact hK' _ _ hK
