import Derived.Test.YtighkdnooglfjaaGreatDoorOcVfB
namespace Go.Proofs.YtighkdnooglfjaaGreatDoor
open Go.Proofs.Tryz
set_option maxRecDepth 100000
set_option maxHeartbeats 4000000
open Go.RowKit

attribute [local go_sem] Oper.semAt_some

def Zm (d:List UInt8->BA) (key:Key) (e:List UInt8) (l:List Stp) (j:Nat):List UInt8:=(Yu d key e (l.drop j)).headD []
theorem JaN (d:List UInt8->BA) (key:Key) (e:List UInt8):∀(l:List Stp) (j:Nat),j<=l.length->(Yu d key e l)[j]? =some (Zm d key e l j)
 | [],j,h=>by
  obtain rfl:j=0:=by simpa using h
  rfl
 | s :: r,0,_=>rfl
 | s :: r,j+1,h=>by
  have:=JaN d key e r j (by simpa using h)
  obtain ⟨b,oth⟩:=s
  simpa [Yu,Zm] using this
theorem JdV (d:List UInt8->BA) (key:Key) (e:List UInt8) (l:List Stp):Zm d key e l l.length=e:=by simp [Zm,Yu]
theorem JcG (d:List UInt8->BA) (key:Key) (e:List UInt8) (l:List Stp) (j:Nat) (h:j<l.length):Zm d key e l j=78 :: (beL l[j].1 2 2++(if bt key l[j].1=0 then (d (Zm d key e l (j+1))).data.toList++l[j].2.data.toList else l[j].2.data.toList++(d (Zm d key e l (j+1))).data.toList)):=by
 unfold Zm
 rw [List.drop_eq_getElem_cons h]
 generalize l[j]=s
 obtain ⟨b,oth⟩:=s
 rfl
theorem JdW (wd:Nat) (hw:wd<=32) (key:Key) (e:List UInt8) (he:e.length<=1000) (l:List Stp) (hl:∀s∈l,Jaf wd s) (j:Nat) (h:j<=l.length):(Zm (dgW wd) key e l j).length<=1000:=by
 by_cases hj:j<l.length
 ·rw [JcG _ _ _ _ _ hj]
  have hs:=(hl _ (Qx hj)).2
  have hd:=Jq wd hw (Zm (dgW wd) key e l (j+1))
  have e1:(dgW wd (Zm (dgW wd) key e l (j+1))).data.toList.length=wd:=by simpa using hd
  have e2:l[j].2.data.toList.length=wd:=by simpa using hs
  split <;> simp only [Qp,Qe,Je,e1,e2] <;> omega
 ·obtain rfl:j=l.length:=by omega
  rw [JdV]
  exact he
def upsT (d:List UInt8->BA) (wy:Wy):List BA:=(wy.nodes d).reverse.map λt=>⟨t.toArray⟩
theorem Zr (d:List UInt8->BA) (wy:Wy):(upsT d wy).length=wy.1.length+1:=by simp [upsT,Wy.nodes,Yz]
theorem JkM (d:List UInt8->BA) (wy:Wy) (p:Nat) (hp:p<=wy.1.length):(upsT d wy)[p]? =some ⟨(Zm d (XK wy) (Yf wy.2) wy.1 (wy.1.length - p)).toArray⟩:=by
 unfold upsT
 rw [List.getElem?_map,List.getElem?_reverse (by simp [Wy.nodes,Yz];omega)]
 have hl:(wy.nodes d).length=wy.1.length+1:=by simp [Wy.nodes,Yz]
 rw [hl,show wy.1.length+1 - 1 - p=wy.1.length - p by omega]
 unfold Wy.nodes
 rw [JaN d _ _ _ _ (by omega)]
 rfl
theorem JbT {wd:Nat} (hw:wd<=32) {wy:Wy} (h:WyOk wd wy):(Yf wy.2).length<=1000:=by
 obtain ⟨l,e⟩:=wy
 cases e with
 | none=>simp [Yf]
 | some x=>
  obtain ⟨k,o⟩:=x
  have:=(h.key _ rfl).1
  simp only [Yf,outB,Qp,Qe,Je]
  dsimp only at this
  omega
structure UpAt (E:Nat->Addr) (n₀ Bq Bw wd:Nat) (state kb:BA) (v1:Option Addr) (v2 v3:Nat) (wy:Wy) (W:World):Prop where
 env:Env E W
 low:18<=n₀
 q:W.heap[Bq]? =some (.cells #[.int .i64 (wd:Int),.string state,.string kb] 248)
 way:W.heap[Bw]? =some (.cells #[.slice v1 v2 v3,.bool wy.2.isSome,.string (wyK wy),.int .u64 ((wyO wy).1:Int),.int .u8 ((wyO wy).2:Int)] 258)
 st:VAt n₀ W (.slice v1 v2 v3) (wy.1.map encS)
def Jg4 (n₀ Bq Bw:Nat) (W W':World):Prop:=Below n₀ W W'/\(∀cs T,W.heap[Bq]? =some (.cells cs T)->W'.heap[Bq]? =some (.cells cs T))/\(∀cs T,W.heap[Bw]? =some (.cells cs T)->W'.heap[Bw]? =some (.cells cs T))
theorem UpAt.keep {E:Nat->Addr} {n₀ Bq Bw wd:Nat} {state kb:BA} {v1:Option Addr} {v2 v3:Nat} {wy:Wy} {W W':World} (h:UpAt E n₀ Bq Bw wd state kb v1 v2 v3 wy W) (k:Jg4 n₀ Bq Bw W W'):UpAt E n₀ Bq Bw wd state kb v1 v2 v3 wy W':=
 ⟨h.env.tch (Tch.of_below k.1) (λ_ hj=>Qm h.low hj),h.low,k.2.1 _ _ h.q,k.2.2 _ _ h.way,h.st.tch (Tch.of_below k.1) (λ_ hj=>hj)⟩
theorem UpAt.next {E:Nat->Addr} {n₀ Bq Bw wd:Nat} {state kb:BA} {v1:Option Addr} {v2 v3:Nat} {wy:Wy} {W W':World} (h:UpAt E n₀ Bq Bw wd state kb v1 v2 v3 wy W) (k:Tch NoB W W'):UpAt E n₀ Bq Bw wd state kb v1 v2 v3 wy W':=
 ⟨h.env.tch k (λ_ hj=>hj.elim),h.low,(k.block _ (Jb h.q) (λe=>e)).trans h.q,(k.block _ (Jb h.way) (λe=>e)).trans h.way,h.st.tch k (λ_ hj=>hj.elim)⟩
theorem UpAt.step {E:Nat->Addr} {n₀ Bq Bw wd:Nat} {state kb:BA} {v1:Option Addr} {v2 v3:Nat} {wy:Wy} {W:World} (h:UpAt E n₀ Bq Bw wd state kb v1 v2 v3 wy W) (hne:0<wy.1.length):∃gi oi,v1=some ⟨gi,oi,none⟩/\v2=wy.1.length:=by
 rcases h.st with ⟨e,e2⟩ | ⟨gi,oi,c,e,_⟩
 ·have:wy.1=[]:=by simpa using e2
  rw [this] at hne
  simp at hne
 ·simp only [Qy,QL] at e
  exact ⟨gi,oi,e.1,e.2.1⟩
theorem UpAt.len {E:Nat->Addr} {n₀ Bq Bw wd:Nat} {state kb:BA} {v1:Option Addr} {v2 v3:Nat} {wy:Wy} {W:World} (h:UpAt E n₀ Bq Bw wd state kb v1 v2 v3 wy W):v2=wy.1.length:=by
 obtain ⟨a,c,e⟩:=h.st.shape
 simp only [Qy,QL] at e
 exact e.2.1
theorem UpAt.cells {E:Nat->Addr} {n₀ Bq Bw wd:Nat} {state kb:BA} {gi oi v2 v3:Nat} {wy:Wy} {W:World} (h:UpAt E n₀ Bq Bw wd state kb (some ⟨gi,oi,none⟩) v2 v3 wy W) (j:Nat) (hj:j<wy.1.length):W.cell? ⟨gi,oi+j * 2,none⟩=some (.int .i64 (wy.1[j].1:Int))/\W.cell? ⟨gi,oi+j * 2+1,none⟩=some (.string wy.1[j].2):=by
 rcases h.st with ⟨e,e2⟩ | ⟨gi',oi',c,e,_,_,hc⟩
 ·cases e
 ·simp only [Qy,Qh,Addr.mk.injEq] at e
  obtain ⟨⟨rfl,rfl,_⟩,_,_⟩:=e
  have:=hc j (by simpa using hj)
  simpa [encS] using this
def Jg0 (v:Value):Nat:=match v with
 | .int _ z=>(z+1).toNat
 | _=>0
theorem JmT (E:Nat->Addr) (n:Nat) (hn:2<=n) (l Bq Bw n₀:Nat) (wd:Nat) (hw1:1<=wd) (hw:wd<=32) (state kb:BA) (v1:Option Addr) (v2 v3:Nat) (wy:Wy) (hok:WyOk wd wy) (J Jx:List BA->World->Prop)
  (hJ:∀pre W W',J pre W->Tch NoB W W'->J pre W')
  (hY:∀pre x W,J pre W->(upsT (dgW wd) wy)[pre.length]? =some x->YieldAt Fence.wide (n - 1) prog l #[.string x,.nilIface] W λe W'=>
   (e=.returned (.bool true)/\J (pre++[x]) W'/\Jg4 n₀ Bq Bw W W')\/(e=.returned (.bool false)/\Jx (pre++[x]) W'))
  (W:World) (hU:UpAt E n₀ Bq Bw wd state kb v1 v2 v3 wy W) (h0:J [] W):
  CallsIn Fence.wide n prog 341 #[.func (.yield l) #[] #[],.pointer (some ⟨Bq,0,none⟩),.pointer (some ⟨Bw,0,none⟩)] W λe W'=>(∃v,e=.returned v)/\
   ((∃ys,ys=upsT (dgW wd) wy/\J ys W')\/(∃pre,pre <+:upsT (dgW wd) wy/\Jx pre W')):=by
 have HOK:Hid _:=hok
 have HEND:Hid (∀V,UpAt E n₀ Bq Bw wd state kb v1 v2 v3 wy V->_):=λV hV=>Jmo E wd hw state kb v1 v2 v3 wy hok V hV.env
 have hv2:=hU.len
 obtain ⟨q0,q1,q2⟩:=rows hU.q
 obtain ⟨a0,a1,a2,a3,a4⟩:=rows hU.way
 have HU:Hid _:=hU
 obtain ⟨X,hX⟩:∃X:Nat->BA,X=λp=>⟨(Zm (dgW wd) (XK wy) (Yf wy.2) wy.1 (wy.1.length - p)).toArray⟩:=⟨_,rfl⟩
 have HX0:Hid (⟨(Yf wy.2).toArray⟩=X 0):=by show _=X 0;rw [hX];dsimp only;rw [Nat.sub_zero,JdV]
 have HXG:Hid (∀p,p<=wy.1.length->(upsT (dgW wd) wy)[p]? =some (X p)):=λp hp=>by rw [hX];exact JkM (dgW wd) wy p hp
 have HAB:Hid (∀p j (hj:j<wy.1.length),p+j+1=wy.1.length->∀V,Env E V->Calls prog 343 #[qV wd state kb,.string (X p),.agg #[.int .i64 (wy.1[j].1:Int),.string wy.1[j].2],.string (wyK wy)] V λe w'=>e=.returned (.tuple #[.string (X (p+1)),.nilIface])/\Tch NoB V w'):=λp j hj hpj V hE=>by
  have hkl:=Jea hok
  rw [if_neg (λe=>by rw [e] at hj;simp at hj)] at hkl
  have hxl:(X p).size<=1000:=by rw [hX];dsimp only;rw [Ju];exact JdW wd hw _ _ (JbT hw hok) _ hok.steps _ (by omega)
  have:=Jji E wd hw1 hw state kb (X p) hxl wy.1[j] (hok.steps _ (Qx hj)) (XK wy) hkl V hE
  rw [<-Jhy] at this
  refine this.mono λe w' h=>⟨?_,h.2⟩
  rw [h.1,hX]
  dsimp only
  rw [show wy.1.length - (p+1)=j by omega,show wy.1.length - p=j+1 by omega,JcG _ _ _ _ _ hj]
 clear hX
 have HV2:Hid _:=hv2
 have hlen:=hok.len
 have hv2b:v2<=264:=by omega
 clear hU hok hv2 hlen
 generalize hwk:wyK wy=wk at *
 have HWK:Hid _:=hwk
 clear hwk
 by_cases hz:v2=0
 ·have HZ:Hid _:=hz
  clear hz
  refine callsIn_of_wp func341 rfl trivial ?_ rfl
  simp only [ntmps341,List.size_toArray,Qp,Qv,Nat.reduceAdd,Nat.reduceSub,Array.replicate_succ,Array.replicate_zero,List.push_toArray,List.append_toArray,List.nil_append,List.cons_append]
  gi_wp2
  refine ⟨trivial,λ_=>by omega,(callsIn_wide.2 (HEND W HU)).mono ?_⟩
  rintro _ W1 ⟨rfl,(HT1:Hid _)⟩
  have a0:W1.cell? ⟨Bw,0,none⟩=some (.slice v1 v2 v3):=Ja (HU.next HT1).way
  clear HEND q0 q1 q2 a1 a2 a3 a4
  have hJ1:=hJ [] W W1 h0 HT1.o
  have HU1:Hid _:=HU.next HT1.o
  have HJ:Hid _:=hJ
  have HY:Hid _:=hY
  have HJ1:Hid _:=hJ1
  clear HU HT1 hJ hY hJ1 h0
  rw [HX0.o]
  gi_wp2
  gi_loopw [4,5,6] (λt e i wr=>∃p,p<=v2/\t=.string (X p)/\e=.nilIface/\i=.int .i64 ((v2:Int) - 1 - (p:Int))/\Hid (UpAt E n₀ Bq Bw wd state kb v1 v2 v3 wy wr)/\Hid (J ((upsT (dgW wd) wy).take p) wr))
   (λt e i wr=>Jg0 i)
  case atStart=>
   exact ⟨0,Nat.zero_le _,rfl,rfl,by simp,HU1,HJ1⟩
  case round=>
   obtain ⟨p,hp,rfl,rfl,rfl,HUr,HJr⟩:=hrel
   have hul:=Zr (dgW wd) wy
   have hxg:=HXG p (by rw [<-HV2.o];exact hp)
   have htl:((upsT (dgW wd) wy).take p).length=p:=by rw [QB,hul,<-HV2.o];omega
   have htk:(upsT (dgW wd) wy).take p++[X p]=(upsT (dgW wd) wy).take (p+1):=by rw [List.take_add_one,hxg];rfl
   obtain ⟨fn,tmps,assign,body,hy,hR⟩:=HY _ (X p) wr HJr (by rw [htl];exact hxg)
   rw [htk] at hR
   have HTK:Hid ((upsT (dgW wd) wy).length=v2+1):=(by rw [hul,HV2.o]:(upsT (dgW wd) wy).length=v2+1)
   clear hul hxg htl htk
   gi_wp2
   refine ⟨λ_=>by omega,hR.mono ?_⟩
   clear hR hy
   rintro e W3 (⟨rfl,(HJ3:Hid _),hk3⟩ | ⟨rfl,hJx3⟩)
   ·have HU3:Hid _:=HUr.keep hk3
    clear hk3 HUr HJr
    by_cases hpl:p<v2
    ·exact absurd hpl (by have:=HZ.o;omega)
    ·have hne:¬(0:Int)<=(v2:Int) - 1 - (p:Int):=by omega
     have hpe:p=v2:=by omega
     have HPE:Hid _:=hpe
     clear hpl hp hpe
     gi_wp2
     refine bodyPost_end (v:=.tuple #[]) (results_none results341 _ _ _) rfl ?_
     refine ⟨⟨_,rfl⟩,.inl ⟨_,?_,HJ3⟩⟩
     exact QQ (by rw [HTK.o,HPE.o];exact Ql _)
   ·gi_wp2
    refine bodyPost_end (v:=.tuple #[]) (results_none results341 _ _ _) rfl ?_
    exact ⟨⟨_,rfl⟩,.inr ⟨_,List.take_prefix _ _,hJx3⟩⟩
 ·obtain ⟨gi,oi,rfl,hv2'⟩:=HU.step (by rw [<-HV2.o];omega)
  clear hv2' hz
  refine callsIn_of_wp func341 rfl trivial ?_ rfl
  simp only [ntmps341,List.size_toArray,Qp,Qv,Nat.reduceAdd,Nat.reduceSub,Array.replicate_succ,Array.replicate_zero,List.push_toArray,List.append_toArray,List.nil_append,List.cons_append]
  gi_wp2
  refine ⟨trivial,λ_=>by omega,(callsIn_wide.2 (HEND W HU)).mono ?_⟩
  rintro _ W1 ⟨rfl,(HT1:Hid _)⟩
  have a0:W1.cell? ⟨Bw,0,none⟩=some (.slice (some ⟨gi,oi,none⟩) v2 v3):=Ja (HU.next HT1).way
  clear HEND q0 q1 q2 a1 a2 a3 a4
  have hJ1:=hJ [] W W1 h0 HT1.o
  have HU1:Hid _:=HU.next HT1.o
  have HJ:Hid _:=hJ
  have HY:Hid _:=hY
  have HJ1:Hid _:=hJ1
  clear HU HT1 hJ hY hJ1 h0
  rw [HX0.o]
  gi_wp2
  gi_loopw [4,5,6] (λt e i wr=>∃p,p<=v2/\t=.string (X p)/\e=.nilIface/\i=.int .i64 ((v2:Int) - 1 - (p:Int))/\Hid (UpAt E n₀ Bq Bw wd state kb (some ⟨gi,oi,none⟩) v2 v3 wy wr)/\Hid (J ((upsT (dgW wd) wy).take p) wr))
   (λt e i wr=>Jg0 i)
  case atStart=>
   exact ⟨0,Nat.zero_le _,rfl,rfl,by simp,HU1,HJ1⟩
  case round=>
   obtain ⟨p,hp,rfl,rfl,rfl,HUr,HJr⟩:=hrel
   have hul:=Zr (dgW wd) wy
   have hxg:=HXG p (by rw [<-HV2.o];exact hp)
   have htl:((upsT (dgW wd) wy).take p).length=p:=by rw [QB,hul,<-HV2.o];omega
   have htk:(upsT (dgW wd) wy).take p++[X p]=(upsT (dgW wd) wy).take (p+1):=by rw [List.take_add_one,hxg];rfl
   obtain ⟨fn,tmps,assign,body,hy,hR⟩:=HY _ (X p) wr HJr (by rw [htl];exact hxg)
   rw [htk] at hR
   have HTK:Hid ((upsT (dgW wd) wy).length=v2+1):=(by rw [hul,HV2.o]:(upsT (dgW wd) wy).length=v2+1)
   clear hul hxg htl htk
   gi_wp2
   refine ⟨λ_=>by omega,hR.mono ?_⟩
   clear hR hy
   rintro e W3 (⟨rfl,(HJ3:Hid _),hk3⟩ | ⟨rfl,hJx3⟩)
   ·have HU3:Hid _:=HUr.keep hk3
    clear hk3 HUr HJr
    by_cases hpl:p<v2
    ·obtain ⟨j,hj⟩:∃j,p+j+1=v2:=⟨v2 - 1 - p,by omega⟩
     have ei:(v2:Int) - 1 - (p:Int)=(j:Int):=by omega
     rw [ei]
     have hjl:j<wy.1.length:=by rw [<-HV2.o];omega
     have HC:Hid (∀V,Tch NoB W3 V->(V.cell? ⟨Bq,0,none⟩=some (.int .i64 (wd:Int))/\V.cell? ⟨Bq,1,none⟩=some (.string state)/\V.cell? ⟨Bq,2,none⟩=some (.string kb)/\V.cell? ⟨Bw,0,none⟩=some (.slice (some ⟨gi,oi,none⟩) v2 v3)/\V.cell? ⟨Bw,2,none⟩=some (.string wk)/\V.cell? ⟨gi,oi+j * 2,none⟩=some (.int .i64 (wy.1[j].1:Int))/\V.cell? ⟨gi,oi+j * 2+1,none⟩=some (.string wy.1[j].2))):=λV hT=>by
      have hV:=HU3.o.next hT
      exact ⟨Ja hV.q,Ja hV.q,Ja hV.q,Ja hV.way,(by rw [<-HWK.o];exact Ja hV.way),(hV.cells j hjl).1,(hV.cells j hjl).2⟩
     have HABj:Hid (∀V,Tch NoB W3 V->_):=λV hT=>HAB p j hjl (by rw [<-HV2.o];exact hj) V (HU3.next hT).env
     have HPJ:Hid _:=hj
     have hj0:(0:Int)<=(j:Int):=by omega
     have hj1:(j:Int)<(v2:Int):=by omega
     obtain ⟨sb,so,hsj⟩:∃sb so,wy.1[j]=(sb,so):=⟨_,_,rfl⟩
     rw [hsj] at HC HABj
     dsimp only at HC HABj
     clear hsj hjl
     obtain ⟨b0,b1,b2,b3,b4,b5,b6⟩:=HC W3 (Te _ _)
     clear hj ei hpl hp
     gi_wp2
     refine wpIn_wide.2 ?_
     go_region_held3 (λV=>V.cell? ⟨Bq,0,none⟩=some (.int .i64 (wd:Int))/\V.cell? ⟨Bq,1,none⟩=some (.string state)/\V.cell? ⟨Bq,2,none⟩=some (.string kb)/\V.cell? ⟨Bw,0,none⟩=some (.slice (some ⟨gi,oi,none⟩) v2 v3)/\V.cell? ⟨Bw,2,none⟩=some (.string wk)/\V.cell? ⟨gi,oi+j * 2,none⟩=some (.int .i64 (sb:Int))/\V.cell? ⟨gi,oi+j * 2+1,none⟩=some (.string so)) (go_keep) ((go_at_call 343;refine (HABj _ (Td _ _ 1)).mono ?_;rintro _ w4 ⟨rfl,ht4⟩;have HT4:Hid _:=(Td NoB W3 1).go ht4;obtain ⟨d0,d1,d2,d3,d4,d5,d6⟩:=HC _ HT4.o;clear ht4))
     all_goals
      gi_wp2
      go_roundw
     case rel=>
      refine ⟨p+1,by have:=HPJ.o;omega,rfl,rfl,?_,HU3.next HT4,HJ _ _ _ HJ3 HT4⟩
      have:=HPJ.o
      congr 1
      omega
     case measure=>
      have:=HPJ.o
      simp only [Jg0]
      omega
    ·have hne:¬(0:Int)<=(v2:Int) - 1 - (p:Int):=by omega
     have hpe:p=v2:=by omega
     have HPE:Hid _:=hpe
     clear hpl hp hpe
     gi_wp2
     refine bodyPost_end (v:=.tuple #[]) (results_none results341 _ _ _) rfl ?_
     refine ⟨⟨_,rfl⟩,.inl ⟨_,?_,HJ3⟩⟩
     exact QQ (by rw [HTK.o,HPE.o];exact Ql _)
   ·gi_wp2
    refine bodyPost_end (v:=.tuple #[]) (results_none results341 _ _ _) rfl ?_
    exact ⟨⟨_,rfl⟩,.inr ⟨_,List.take_prefix _ _,hJx3⟩⟩
theorem JiV (E:Nat->Addr) (n:Nat) (hn:2<=n) (Bq Bw n₀:Nat) (wd:Nat) (hw1:1<=wd) (hw:wd<=32) (state kb:BA) (v1:Option Addr) (v2 v3:Nat) (wy:Wy) (hok:WyOk wd wy) (w:World) (hU:UpAt E n₀ Bq Bw wd state kb v1 v2 v3 wy w):
  SeqStopsK Fence.wide n prog 341 #[.pointer (some ⟨Bq,0,none⟩),.pointer (some ⟨Bw,0,none⟩)] (λx:BA=> #[.string x,.nilIface]) (Jg4 n₀ Bq Bw) (λys=>ys=upsT (dgW wd) wy) (λpre=>pre <+:upsT (dgW wd) wy) (upsT (dgW wd) wy).length w:=λl J Jx W hW hJ _ hY h0=>
 JmT E n hn l Bq Bw n₀ wd hw1 hw state kb v1 v2 v3 wy hok J Jx (λpre W1 W2 h k=>hJ pre W1 W2 none h ⟨k.os,k.tape,k.output,k.size,λj hj _=>k.block j hj (λe=>e)⟩ (λr e=>by cases e)) (λpre x W hJ hx=>hY pre x W hJ (Qo.1 hx).1) W (hU.next ((Tch.of_below hW).mono (λ_ hj=>.inr hj))) h0
open Go.RowKit Go.Shelf

attribute [local go_sem] Oper.semAt_some

def nV (l:List BA):List Value:=l.map .string
def NOwn (base:Nat) (w:World) (v:Value) (l:List BA):Prop:=w.ownsRow base 9 1 v l.length (nV l)
theorem NOwn.nil (base:Nat) (w:World):NOwn base w (.slice none 0 0) []:=⟨rfl,.inl ⟨rfl,rfl⟩⟩
theorem NOwn.own {base:Nat} {w:World} {v:Value} {l:List BA} (h:NOwn base w v l):∀k,v.ownBlock=some k->base<=k/\∃cs m,w.heap[k]? =some (.cells cs 9 m):=by
 obtain ⟨_,⟨rfl,h0⟩ | ⟨g,cap,cur,rfl,hb,hrow,_⟩⟩:=h
 ·intro k hk;cases hk
 ·intro k hk;cases hk;exact ⟨hb,_,_,hrow⟩
theorem NOwn.tch {base:Nat} {w w':World} {v:Value} {l:List BA} {S:Nat->Prop} (h:NOwn base w v l) (k:Tch S w w') (hs:∀j,v.ownBlock=some j->¬S j):NOwn base w' v l:=by
 obtain ⟨h1,⟨rfl,h0⟩ | ⟨g,cap,cur,rfl,hb,hrow,h2⟩⟩:=h
 ·exact ⟨h1,.inl ⟨rfl,h0⟩⟩
 ·exact ⟨h1,.inr ⟨g,cap,cur,rfl,hb,(k.block g (Jb hrow) (hs g rfl)).trans hrow,h2⟩⟩
theorem NOwn.kept {base:Nat} {W W':World} {v:Value} {l:List BA} {row:Option Nat} (h:NOwn base W v l) (hg:W.grownBy W' row) (hr:∀r,row=some r->∃o:Obj,W.heap[r]? =some o/\o.isCells=false):NOwn base W' v l:=by
 obtain ⟨h1,⟨rfl,h0⟩ | ⟨g,cap,cur,rfl,hb,hrow,h2⟩⟩:=h
 ·exact ⟨h1,.inl ⟨rfl,h0⟩⟩
 ·exact ⟨h1,.inr ⟨g,cap,cur,rfl,hb,JX hrow hg hr,h2⟩⟩
theorem NOwn.at {base:Nat} {w:World} {v:Value} {l:List BA} (h:NOwn base w v l) (hl:l ≠ []):∃g cap,v=.slice (some ⟨g,0,none⟩) l.length cap/\base<=g/\g<w.heap.size/\(∃cs m,w.heap[g]? =some (.cells cs 9 m))/\∀i (hi:i<l.length),w.cell? ⟨g,i,none⟩=some (.string l[i])/\w.frozen? ⟨g,i,none⟩=false:=by
 obtain ⟨_,⟨rfl,h0⟩ | ⟨g,cap,cur,rfl,hb,hrow,_,_,hsz,htake⟩⟩:=h
 ·exact absurd (QN h0) hl
 ·refine ⟨g,cap,rfl,hb,(Jb hrow),⟨_,_,hrow⟩,λi hi=>⟨?_,Qg _ _ _ _ _ hrow⟩⟩
  rw [Ja hrow,<-Array.getElem?_toList]
  have e:(nV l)[i]? =some (.string l[i]):=by simp [nV,hi]
  rw [<-htake,List.getElem?_take_of_lt (by omega)] at e
  exact e
theorem NOwn.shape {base:Nat} {w:World} {v:Value} {l:List BA} (h:NOwn base w v l):∃a c,v=.slice a l.length c:=by
 obtain ⟨_,⟨rfl,h0⟩ | ⟨g,cap,cur,rfl,hb,hrow,_⟩⟩:=h
 ·exact ⟨none,0,by rw [h0]⟩
 ·exact ⟨_,_,rfl⟩
theorem JdT {P:Program} (w:World) (ty:TypeId) (a:Addr) (v:Value) (ha:(isAgg ty).run P w=.ok false w) (hc:w.cell? a=some v):(loadVar ty a).run P w=.ok v w:=by
 simp only [loadVar,Sem.run_bind,ha,Result.andThen]
 simp [hc]
theorem JcQ {P:Program} {fn:Func} {p p2:Tmp} {ty ty2:TypeId} (h:fn.results= #[.cell p ty,.cell p2 ty2]) (tmps:Array Value) (w:World) (a a2:Addr) (v v2:Value)
  (hp:tmps.getD p undef=.pointer (some a)) (hp2:tmps.getD p2 undef=.pointer (some a2)) (ha:(isAgg ty).run P w=.ok false w) (ha2:(isAgg ty2).run P w=.ok false w) (hc:w.cell? a=some v) (hc2:w.cell? a2=some v2):
  (results fn tmps).run P w=.ok (.tuple #[v,v2]) w:=by
 have hp':tmps[p]?.getD undef=.pointer (some a):=by simpa using hp
 have hp2':tmps[p2]?.getD undef=.pointer (some a2):=by simpa using hp2
 simp [results,h,hp',hp2',asAddr,JdT w ty a v ha hc,JdT w ty2 a2 v2 ha2 hc2]
theorem JjS:(prog.info? 9).map (λi=>(i.zero,i.size,i.bytes))=some (some (.string ⟨#[]⟩),1,16):=by kernel_rfl
theorem JcT {base:Nat} {w:World} {v:Value} {l:List BA} (h:NOwn base w v l) (k:Nat) (x:BA) (hx:w.cell? ⟨k,0,none⟩=some (.string x)) (ty:TypeId) (hb:l.length<=10000000000) (hbase:base<=w.heap.size):
  ∃v' w',(Builtin.append_ #[58,58] ty #[v,.slice (some ⟨k,0,none⟩) 1 1]).run prog w=.ok v' w'/\NOwn base w' v' (l++[x])/\w.grownBy w' v.ownBlock:=by
 obtain ⟨i,hi,hp⟩:=Option.map_eq_some_iff.1 JjS
 simp only [Qw] at hp
 obtain ⟨hz,hsz,hby⟩:=hp
 obtain ⟨v',w',hr,h2,h3,h4⟩:=run_append_own (P:=prog) w base 58 ty 9 i _ 1 16 underlying58 hi hz hsz hby rfl (by omega) v l.length (nV l) h ⟨k,0,none⟩ 1 1 (nV [x]) rfl (λj u hu=>by
  cases j with
  | zero=>simp only [nV,List.map_cons,List.map_nil,List.getElem?_cons_zero,Qh] at hu;rw [<-hu,Addr.add_lit];exact hx
  | succ j=>simp [nV] at hu) (λu hu=>by simp only [nV,List.map_cons,List.map_nil,Qt] at hu;rw [hu];rfl) (by simp only [maxLen];omega) (by omega) hbase
 exact ⟨v',w',hr,by unfold NOwn;rw [Qe,show nV (l++[x])=nV l++nV [x] by simp [nV]];exact h2,h3⟩
theorem Jdm {P:Program} {ops:Array Oper} {l n:Nat} {o:Oper} {rest:List Oper} {a:Act} {w w':World} {Q:Exit->Act->World->Prop} {v xv v':Value} (hgd:o.guard=none) (s x:Operand) (T:TypeId) (ho:o.op=.call { callee:=.builtin .append,args:= #[s,x],argTypes:= #[T,T] })
  (hv:a.eval s=v) (hx:a.eval x=xv) (hr:(Builtin.append_ #[T,T] o.type #[v,xv]).run P w=.ok v' w') (hK:wpListIn (Fence.wide.inRound l) n P ops Q rest (a.put o.dst v') w'):wpListIn (Fence.wide.inRound l) n P ops Q (o :: rest) a w:=by
 have hw:Region.wanted o (yielded ops a.tmps)=true:=by simp [Region.wanted,hgd]
 unfold wpListIn
 rw [if_pos hw]
 refine Jhk (K:=λa w=>wpListIn (Fence.wide.inRound l) n P ops Q rest a w) (λc e=>by rw [ho] at e;cases e) (λ_ _ h=>h) ?_
 unfold Oper.wp
 simp [execOp,ho,resolve,invoke,builtin,hv,hx,hr,Result.andThen]
 exact hK
structure NodI (w:World) (qc wc:Array Value) (pre:List BA) (W:World):Prop where
 below:Below w.heap.size w W
 row:∃v,W.heap[w.heap.size+4]? =some (.cells #[v] 58)/\NOwn w.heap.size W v pre
 r2:W.heap[w.heap.size+2]? =some (.cells #[.slice none 0 0] 58)
 r3:W.heap[w.heap.size+3]? =some (.cells #[.nilIface] 92)
 bq:W.heap[w.heap.size+5]? =some (.cells qc 248)
 bw:W.heap[w.heap.size+6]? =some (.cells wc 258)
theorem NodI.own {w:World} {qc wc:Array Value} {B:Nat} (hB:w.heap.size+7<=B):OwnFrom B (NodI w qc wc):=by
 intro s W W' row h hg hr
 have hr':∀r,row=some r->∃o:Obj,W.heap[r]? =some o/\o.isCells=false:=λr e=>(hr r e).2
 obtain ⟨v,h1,h2⟩:=h.row
 exact ⟨ownFrom_below (β:=List BA) (w₀:=w) (n₀:=w.heap.size) (B:=B) (Ql _) (by omega) s W W' row h.below hg hr,⟨v,JX h1 hg hr',h2.kept hg hr'⟩,JX h.r2 hg hr',JX h.r3 hg hr',JX h.bq hg hr',JX h.bw hg hr'⟩
theorem NodI.add {w W w3:World} {qc wc:Array Value} {pre:List BA} {v v':Value} {x:BA} (HI:NodI w qc wc pre W) (hpo:NOwn w.heap.size W v pre) (hT:Tch (λj=>some j=v.ownBlock) W w3) (hown:NOwn w.heap.size w3 v' (pre++[x])) (hrow:w3.heap[w.heap.size+4]? =some (.cells #[v] 58)):
  KeepsOthers W (w3.setCell ⟨w.heap.size+4,0,none⟩ v')/\Jg4 w.heap.size (w.heap.size+5) (w.heap.size+6) W (w3.setCell ⟨w.heap.size+4,0,none⟩ v')/\NodI w qc wc (pre++[x]) (w3.setCell ⟨w.heap.size+4,0,none⟩ v'):=by
 have hset:w3.setCell ⟨w.heap.size+4,0,none⟩ v'=w3.setRow (w.heap.size+4) #[v']:=Qj w3 (w.heap.size+4) 0 _ _ (0,0) v' hrow
 rw [hset]
 obtain ⟨v0,hv0,_⟩:=HI.row
 have hT4:Tch (λj=>some j=v.ownBlock\/j=w.heap.size+4) W (w3.setRow (w.heap.size+4) #[v']):=(hT.mono (λ_ h=>.inl (.inl h))).trans (Ts _ _ _) (λ_ h=>.inl (.inr h))
 have hkeep:∀{j:Nat} {cs:Array Value} {T:TypeId},T ≠ 9->j ≠ w.heap.size+4->W.heap[j]? =some (.cells cs T)->_:=λhne hj h=>(hT4.block _ (Jb h) (λe=>by
  rcases e with e | e
  ·obtain ⟨_,cs,m,hc⟩:=hpo.own _ e.symm
   rw [h] at hc
   simp only [Qh,Obj.cells.injEq] at hc
   exact hne hc.2.1
  ·exact hj e)).trans h
 have hz:=HI.below.size
 have hge:∀j,(some j=v.ownBlock\/j=w.heap.size+4)->w.heap.size<=j:=λj e=>by
  rcases e with e | e
  ·exact (hpo.own _ e.symm).1
  ·omega
 have hB:=hT4.below hz hge
 have hq:=hkeep (by decide) (by omega) HI.bq
 have hw':=hkeep (by decide) (by omega) HI.bw
 refine ⟨JbA hT4 (λj e=>?_),⟨hB,λcs T h=>?_,λcs T h=>?_⟩,HI.below.trans hB,⟨v',Qi _ _ _ _ _ _ hrow,?_⟩,hkeep (by decide) (by omega) HI.r2,hkeep (by decide) (by omega) HI.r3,hq,hw'⟩
 ·rcases e with e | e
  ·obtain ⟨_,cs,m,hc⟩:=hpo.own _ e.symm
   exact ⟨cs,_,m,hc⟩
  ·subst e;exact ⟨_,_,_,hv0⟩
 ·rw [HI.bq] at h;rw [hq,h]
 ·rw [HI.bw] at h;rw [hw',h]
 ·refine hown.tch (Ts _ _ _) (λj hj e=>?_)
  obtain ⟨_,cs,m,hc⟩:=hown.own _ hj
  rw [e,hrow] at hc
  simp only [Qh,Obj.cells.injEq] at hc
  exact absurd hc.2.1 (by decide)
theorem Jnr (qc wc:Array Value) (wd:Int) (state kb:BA) (v1:Option Addr) (v2 v3:Nat) (m:Bool) (k:BA) (a o:Int) (hq:qc= #[.int .i64 wd,.string state,.string kb]) (hwc:wc= #[.slice v1 v2 v3,.bool m,.string k,.int .u64 a,.int .u8 o]) (w:World):
  CallsIn Fence.wide 3 prog 289 #[.agg qc,.agg wc] w λe w'=>e=.returned (.func (.func 341) #[] #[.pointer (some ⟨w.heap.size,0,none⟩),.pointer (some ⟨w.heap.size+1,0,none⟩)])/\w'=(w.alloc (.cells qc 248)).alloc (.cells wc 258):=by
 refine callsIn_wide.2 ?_
 subst hq hwc
 have hmf:∀(fn:Fn) (first cap:Array Value) (w:World),(Instr.makeFunc fn first cap).run prog w=.ok (.func fn first cap) w:=λ_ _ _ _=>rfl
 go_enter func289,ntmps289
 go_wp2
 go_ret
 exact ⟨rfl,rfl⟩
def JkT (w:World) (l:List (List UInt8)) (e:Ending) (w':World):Prop:=∃g cap,e=.returned (.tuple #[.slice (some ⟨g,0,none⟩) l.length cap,.nilIface])/\w.heap.size<=g/\g<w'.heap.size/\(∀j (h:j<l.length),w'.cell? ⟨g,j,none⟩=some (.string ⟨l[j].toArray⟩))/\Below w.heap.size w w'
theorem Jj9 (E:Nat->Addr) (wd:Nat) (hw1:1<=wd) (hw:wd<=32) (state kb:BA) (v1:Option Addr) (v2 v3:Nat) (wy:Wy) (hok:WyOk wd wy) (w:World) (hE:Env E w) (hv:VAt w.heap.size w (.slice v1 v2 v3) (wy.1.map encS)):
  CallsIn Fence.wide 5 prog 214 #[qV wd state kb,wV v1 v2 v3 wy.2.isSome (wyK wy) (wyO wy).1 (wyO wy).2] w λe W'=>JkT w (wy.nodes (dgW wd)) e W':=by
 have h1:1<=5:=by omega
 have hro:Fence.wide.round=none:=rfl
 have HOK:Hid _:=hok
 have HE:Hid (Env E w):=hE
 have HV:Hid (VAt w.heap.size w (.slice v1 v2 v3) (wy.1.map encS)):=hv
 refine callsIn_of_wp_marks func214 rfl trivial ?_ hro
 simp only [ntmps214,List.size_toArray,Qp,Qv,Nat.reduceAdd,Nat.reduceSub,Array.replicate_succ,Array.replicate_zero,List.push_toArray,List.append_toArray,List.nil_append,List.cons_append]
 gi_wp2
 refine ⟨trivial,(callsIn_wide.2 (callsIn_wide.1 (Jnr _ _ _ _ _ _ _ _ _ _ _ _ rfl rfl _))).mono ?_⟩
 rintro _ _ ⟨rfl,rfl⟩
 gi_wp2
 obtain ⟨qc,hqc⟩:∃qc:Array Value,qc= #[.int .i64 (wd:Int),.string state,.string kb]:=⟨_,rfl⟩
 obtain ⟨wc,hwc⟩:∃wc:Array Value,wc= #[.slice v1 v2 v3,.bool wy.2.isSome,.string (wyK wy),.int .u64 ((wyO wy).1:Int),.int .u8 ((wyO wy).2:Int)]:=⟨_,rfl⟩
 obtain ⟨WD,hWD⟩:∃WD,WD=((((((w.alloc (.cells qc 248)).alloc (.cells wc 258)).alloc (.cells #[.slice none 0 0] 58)).alloc (.cells #[.nilIface] 92)).alloc (.cells #[.slice none 0 0] 58)).alloc (.cells qc 248)).alloc (.cells wc 258):=⟨_,rfl⟩
 rw [<-hqc,<-hwc,<-hWD]
 have hB0:Below w.heap.size w WD:=by rw [hWD];exact (((((((Below.refl _ w).alloc (Ql _) _).alloc (by simp) _).alloc (by simp;omega) _).alloc (by simp;omega) _).alloc (by simp;omega) _).alloc (by simp;omega) _).alloc (by simp;omega) _
 have hz:WD.heap.size=w.heap.size+7:=by rw [hWD];simp
 have hal:∀(V:World) (o:Obj) (j:Nat) (x:Obj),V.heap[j]? =some x->_:=λV o j x h=>(Below.heap_alloc V o j (Jb h)).trans h
 have hnw:∀(V:World) (o:Obj) (j:Nat),V.heap.size=j->(V.alloc o).heap[j]? =some o:=λV o j h=>by subst h;exact Qf V o
 have r2:WD.heap[w.heap.size+2]? =some (.cells #[.slice none 0 0] 58):=by rw [hWD];exact hal _ _ _ _ (hal _ _ _ _ (hal _ _ _ _ (hal _ _ _ _ (hnw _ _ _ (by simp)))))
 have r3:WD.heap[w.heap.size+3]? =some (.cells #[.nilIface] 92):=by rw [hWD];exact hal _ _ _ _ (hal _ _ _ _ (hal _ _ _ _ (hnw _ _ _ (by simp))))
 have r4:WD.heap[w.heap.size+4]? =some (.cells #[.slice none 0 0] 58):=by rw [hWD];exact hal _ _ _ _ (hal _ _ _ _ (hnw _ _ _ (by simp)))
 have r5:WD.heap[w.heap.size+5]? =some (.cells qc 248):=by rw [hWD];exact hal _ _ _ _ (hnw _ _ _ (by simp))
 have r6:WD.heap[w.heap.size+6]? =some (.cells wc 258):=by rw [hWD];exact hnw _ _ _ (by simp)
 have hT0:Tch NoB w WD:=(Tch.of_below hB0).mono (λ_ hj=>.inr hj)
 have hU:UpAt E w.heap.size (w.heap.size+5) (w.heap.size+6) wd state kb v1 v2 v3 wy WD:=⟨HE.tch hT0 noE,HE.size,by rw [r5,hqc],by rw [r6,hwc],HV.tch hT0 noE⟩
 have hI0:NodI w qc wc [] WD:=⟨hB0,⟨.slice none 0 0,r4,NOwn.nil _ _⟩,r2,r3,r5,r6⟩
 have hqa:(Value.agg #[.int .i64 (wd:Int),.string state,.string kb])=.agg qc:=by rw [hqc]
 have hwa:(Value.agg #[.slice v1 v2 v3,.bool wy.2.isSome,.string (wyK wy),.int .u64 ((wyO wy).1:Int),.int .u8 ((wyO wy).2:Int)])=.agg wc:=by rw [hwc]
 show Code.wpIn _ _ _ _ _ { tmps:= #[.agg #[.int .i64 (wd:Int),.string state,.string kb],.agg #[.slice v1 v2 v3,.bool wy.2.isSome,.string (wyK wy),.int .u64 ((wyO wy).1:Int),.int .u8 ((wyO wy).2:Int)],_,_,_,_,_,_,_,_,_,_,_,_,_,_,_,_,_,_,_,_,_,_],defers:=_ } _
 rw [hqa,hwa]
 refine wpIn_rangeFunc_ownF hro h1 (gf:=341) (lb:= #[.pointer (some ⟨w.heap.size+1+1+1+1+1,0,none⟩),.pointer (some ⟨w.heap.size+1+1+1+1+1+1,0,none⟩)]) rfl trivial (enters_of func341 (by kernel_rfl) rfl)
  (JiV E 4 (by omega) (w.heap.size+1+1+1+1+1) (w.heap.size+1+1+1+1+1+1) w.heap.size wd hw1 hw state kb v1 v2 v3 wy HOK WD hU) (λh k=>⟨h.1.trans k.1,λcs T hc=>k.2.1 cs T (h.2.1 cs T hc),λcs T hc=>k.2.2 cs T (h.2.2 cs T hc)⟩)
  (λW l o o' hl ho hc hw'=>⟨belowK_b (w:=w) (Ql _) W l o o' (by omega) ho hc hw',λcs T h=>JX h (grownBy_putObj' _ l o') (λr e=>by cases e;exact ⟨o,ho,hc⟩),λcs T h=>JX h (grownBy_putObj' _ l o') (λr e=>by cases e;exact ⟨o,ho,hc⟩)⟩) (Below.refl _ _) (λ_=>rfl)
  (NodI w qc wc) (λ_ _ _=>False) (NodI.own (by omega)) (λ_ _ _ _ _ hs _ _=>hs) hI0
  (λx=>{ tmps:= #[.agg qc,.agg wc,.pointer (some ⟨w.heap.size,0,none⟩),.pointer (some ⟨w.heap.size+1,0,none⟩),.pointer (some ⟨w.heap.size+1+1,0,none⟩),.pointer (some ⟨w.heap.size+1+1+1,0,none⟩),.pointer (some ⟨w.heap.size+1+1+1+1,0,none⟩),.string x,.nilIface,.agg qc,.agg wc,.func (.func 341) #[] #[.pointer (some ⟨w.heap.size+1+1+1+1+1,0,none⟩),.pointer (some ⟨w.heap.size+1+1+1+1+1+1,0,none⟩)],.string x,.nilIface,undef,undef,undef,undef,undef,undef,undef,undef,undef,undef],defers:=[] }) ?assign ?body ?done ?stop
 case assign=>
  intro l x W K hK
  gi_wp2
  exact hK
 case body=>
  rintro l pre x W hI hpl
  obtain ⟨v,hrow,hpo⟩:=hI.row
  have c0:W.cell? ⟨w.heap.size+1+1+1+1,0,none⟩=some v:=Ja hrow
  have HI:Hid _:=hI
  have HROW:Hid _:=hrow
  have HPO:Hid _:=hpo
  have tA:=Ta NoB W (.cells #[.string x] 9)
  have hpl2:pre.length<=10000:=by
   have h1:=Zr (dgW wd) wy
   have h2:=HOK.o.len
   omega
  obtain ⟨v',w3,hrun,hown,hg⟩:=JcT (hpo.tch tA (λ_ _ h=>h)) W.heap.size x (Ja (Qf W _)) 58 (by omega) (Qm hI.below.size tA.size)
  have hT3:=(tA.mono noE).trans (Tg hg) (λ_ h=>.inl h)
  have e3:=(hT3.block _ (Jb hrow) (λe=>by
   obtain ⟨_,cs,m,hc⟩:=hpo.own _ e.symm
   rw [hrow] at hc
   simp only [Qh,Obj.cells.injEq] at hc
   exact absurd hc.2.1 (by decide))).trans hrow
  have d0:w3.cell? ⟨w.heap.size+1+1+1+1,0,none⟩=some v:=Ja e3
  have f0:w3.frozen? ⟨w.heap.size+1+1+1+1,0,none⟩=false:=Qg _ _ _ _ _ e3
  obtain ⟨a',c',hvs⟩:=hown.shape
  generalize (pre++[x]).length=n' at hvs
  subst hvs
  have HOW:Hid _:=hown
  have HT3:Hid _:=hT3
  have E3:Hid _:=e3
  gi_wp2_with (gi_at_builtin;refine Jdm rfl _ _ 58 rfl rfl rfl hrun ?_)
  exact HI.add HPO HT3 HOW E3.out
 case done=>
  rintro D ys W hD (HYS:Hid _) hI (HDK:Hid _)
  obtain ⟨v,hrow,hpo⟩:=hI.row
  have hyl:ys.length=wy.1.length+1:=by rw [HYS,Zr]
  have hlen:=HOK.o.len
  obtain ⟨g,cap,hv,hgb,hgl,⟨gc,gm,(HGR:Hid _)⟩,hcells⟩:=hpo.at (λe=>by rw [e] at hyl;simp at hyl)
  subst hv
  have HREV:Hid (Calls prog 290 #[.slice (some ⟨g,0,none⟩) ys.length cap] W λe w'=>e=.returned (.tuple #[])/\Tch (λj=>j=g) W w'/\∀j (h:j<ys.reverse.length),w'.cell? ⟨g,j,none⟩=some (.string ys.reverse[j])):=reverse_any g cap ys W hcells (by omega)
  have c0:W.cell? ⟨w.heap.size+1+1+1+1,0,none⟩=some (.slice (some ⟨g,0,none⟩) ys.length cap):=Ja hrow
  have HI:Hid _:=hI
  have HROW:Hid _:=hrow
  have hgne:g ≠ w.heap.size+4/\g ≠ w.heap.size+2/\g ≠ w.heap.size+3:=by
   refine ⟨λe=>?_,λe=>?_,λe=>?_⟩
   ·rw [e,hrow] at HGR;simp only [Qh,Obj.cells.injEq] at HGR;exact absurd HGR.2.1 (by decide)
   ·rw [e,hI.r2] at HGR;simp only [Qh,Obj.cells.injEq] at HGR;exact absurd HGR.2.1 (by decide)
   ·rw [e,hI.r3] at HGR;simp only [Qh,Obj.cells.injEq] at HGR;exact absurd HGR.2.1 (by decide)
  have HGN:Hid _:=hgne
  have HGB:Hid (w.heap.size<=g/\g<W.heap.size):=⟨hgb,hgl⟩
  clear hI hrow hpo hgne hgb hgl hcells hyl hlen hI0 hU r5 r6 hB0
  gi_wp2
  refine ⟨trivial,(callsIn_wide.2 HREV.o).mono ?_⟩
  rintro _ W2 ⟨rfl,(HT2:Hid _),(HC2:Hid _)⟩
  have hk:∀{j:Nat} {o:Obj},W.heap[j]? =some o->j ≠ g->_:=λh hj=>(HT2.block _ (Jb h) hj).trans h
  have hr4:=hk HROW (λe=>HGN.1 e.symm)
  have hr2:=hk HI.r2 (λe=>HGN.2.1 e.symm)
  have hr3:=hk HI.r3 (λe=>HGN.2.2 e.symm)
  have hKd:=hk HDK (λe=>by rw [e,HGR.o] at HDK;have:=HDK.o;simp at this)
  have c0:W2.cell? ⟨w.heap.size+1+1+1+1,0,none⟩=some (.slice (some ⟨g,0,none⟩) ys.length cap):=Ja hr4
  have d2:W2.cell? ⟨w.heap.size+1+1,0,none⟩=some (.slice none 0 0):=Ja hr2
  have d3:W2.cell? ⟨w.heap.size+1+1+1,0,none⟩=some .nilIface:=Ja hr3
  have f2:W2.frozen? ⟨w.heap.size+1+1,0,none⟩=false:=Qg _ _ _ _ _ hr2
  have f3:W2.frozen? ⟨w.heap.size+1+1+1,0,none⟩=false:=Qg _ _ _ _ _ hr3
  have R2:Hid _:=hr2
  have R3:Hid _:=hr3
  have KD:Hid _:=hKd
  clear hk hr4 hr2 hr3 hKd HREV
  gi_wp2
  obtain ⟨W4,hW4⟩:∃W4,W4=(W2.setRow (w.heap.size+2) #[.slice (some ⟨g,0,none⟩) ys.length cap]).setRow (w.heap.size+3) #[.nilIface]:=⟨_,rfl⟩
  have hs4:(W2.setCell ⟨w.heap.size+1+1,0,none⟩ (.slice (some ⟨g,0,none⟩) ys.length cap)).setCell ⟨w.heap.size+1+1+1,0,none⟩ .nilIface=W4:=by
   rw [hW4,Qj W2 (w.heap.size+2) 0 _ _ (0,0) _ R2.o,Qj _ (w.heap.size+3) 0 _ _ (0,0) _ ((setRow_other _ _ _ _ (by omega)).trans R3.o)]
   rfl
  rw [hs4]
  have t4:Tch (λj=>j=w.heap.size+2\/j=w.heap.size+3) W2 W4:=by rw [hW4];exact ((Ts W2 (w.heap.size+2) _).mono (λ_ h=>.inl (.inl h))).trans (Ts _ (w.heap.size+3) _) (λ_ h=>.inl (.inr h))
  have q2:W4.heap[w.heap.size+2]? =some (.cells #[.slice (some ⟨g,0,none⟩) ys.length cap] 58):=by rw [hW4];exact (setRow_other _ _ _ _ (by omega)).trans (Qi _ _ _ _ _ _ R2)
  have q3:W4.heap[w.heap.size+3]? =some (.cells #[.nilIface] 92):=by rw [hW4];exact Qi _ _ _ _ _ _ ((setRow_other _ _ _ _ (by omega)).trans R3)
  have hKd:=(t4.block _ (Jb KD) (λe=>by
   rcases e with e | e
   ·have:=KD.out;rw [e,R2.o] at this;simp at this
   ·have:=KD.out;rw [e,R3.o] at this;simp at this)).trans KD.out
  have hg:=grownBy_putObj' W4 D (.deferred none)
  have hr':∀r,some D=some r->∃o:Obj,W4.heap[r]? =some o/\o.isCells=false:=λr e=>by cases e;exact ⟨_,hKd,rfl⟩
  refine ⟨by simp,.inl ⟨_,_,rfl,run_takeDeferred hKd,?_⟩⟩
  refine ⟨_,JcQ results214 _ _ ⟨w.heap.size+1+1,0,none⟩ ⟨w.heap.size+1+1+1,0,none⟩ (.slice (some ⟨g,0,none⟩) ys.length cap) .nilIface rfl rfl (isAgg58 _) (isAgg92 _) (Ja (JX q2 hg hr')) (Ja (JX q3 hg hr')),?_⟩
  have hyn:ys.reverse=(wy.nodes (dgW wd)).map λt=>⟨t.toArray⟩:=by rw [HYS.o,upsT,<-List.map_reverse,List.reverse_reverse]
  have hyl:ys.length=(wy.nodes (dgW wd)).length:=by have:=congrArg List.length hyn;simpa using this
  have hDg:D ≠ g:=λe=>by have:=HDK.o;rw [e,HGR.o] at this;simp at this
  refine ⟨g,cap,by rw [hyl],HGB.1,?_,λj h=>?_,?_⟩
  ·have:=HT2.o.size;have:=t4.size;have:=HGB.o.2;have:=hg.size;omega
  ·have h':j<ys.reverse.length:=by rw [List.length_reverse,hyl];exact h
   have e1:=HC2 j h'
   have e2:(W4.putObj D (.deferred none)).cell? ⟨g,j,none⟩=W2.cell? ⟨g,j,none⟩:=by
    rw [show (W4.putObj D (.deferred none)).cell? ⟨g,j,none⟩=W4.cell? ⟨g,j,none⟩ from World.cell?_of_block (hg.block g (by have:=HT2.o.size;have:=t4.size;have:=HGB.o.2;omega) (λe=>hDg (by cases e;rfl)))]
    exact t4.cell (p:=⟨g,j,none⟩) (by have:=HT2.o.size;have:=HGB.o.2;show g<_;omega) (λe=>by
     rcases e with e | e
     ·exact HGN.2.1 e
     ·exact HGN.2.2 e)
   rw [e2,e1]
   simp only [hyn,List.getElem_map]
  ·have b1:=HI.below
   have b2:=HT2.below b1.size (λj e=>by rw [e];exact HGB.1)
   have b3:=t4.below (Qm b1.size b2.size) (λj e=>by omega)
   exact ((b1.trans b2).trans b3).trans (belowK_b (w:=w) (Ql _) _ D _ _ (by omega) hKd rfl rfl)
 case stop=>
  rintro D c pre W _ _ h _
  exact h.elim
