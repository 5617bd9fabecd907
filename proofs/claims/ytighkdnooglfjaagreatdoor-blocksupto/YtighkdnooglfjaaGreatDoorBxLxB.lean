import Derived.Test.YtighkdnooglfjaaGreatDoorBxRfQ
import Derived.Test.YtighkdnooglfjaaGreatDoorBxRfX
namespace Go.Proofs.YtighkdnooglfjaaGreatDoor
open Tryz
set_option maxRecDepth 100000
set_option maxHeartbeats 2000000
open Go.RowKit

structure WAt (base:Nat) (w:World) (wb:Nat) (vls vrs vl vm:Value) (L R:List Value):Prop where
 row:w.heap[wb]? =some (.cells #[vls,vrs,vl,vm] 71)
 ls:VOwn 32 base w vls L
 rs:VOwn 129 base w vrs R
def WOwn (wb:Nat) (vls vrs:Value) (j:Nat):Prop:=j=wb\/vls.ownBlock=some j\/vrs.ownBlock=some j
theorem WAt.tch {base:Nat} {w w':World} {wb:Nat} {vls vrs vl vm:Value} {L R:List Value} {S:Nat->Prop} (h:WAt base w wb vls vrs vl vm L R) (k:Tch S w w') (hs:∀j,S j->¬WOwn wb vls vrs j):WAt base w' wb vls vrs vl vm L R:=
 ⟨(k.block _ (Jb h.row) (λe=>hs _ e (.inl rfl))).trans h.row,h.ls.tch k (λ_ hj e=>hs _ e (.inr (.inl hj))),h.rs.tch k (λ_ hj e=>hs _ e (.inr (.inr hj)))⟩
theorem WAt.app1 {base:Nat} {w w3:World} {wb:Nat} {vls vrs vl vm v':Value} {L R L':List Value} (h:WAt base w wb vls vrs vl vm L R) (hv:VOwn 32 base w3 v' L') (hg:w.grownBy w3 vls.ownBlock):
  w3.cell? ⟨wb,0,none⟩=some vls/\(∀j,w3.frozen? ⟨wb,j,none⟩=false)/\WAt base (w3.setCell ⟨wb,0,none⟩ v') wb v' vrs vl vm L' R/\Tch (WOwn wb vls vrs) w (w3.setCell ⟨wb,0,none⟩ v'):=by
 have t3:Tch (λj=>vls.ownBlock=some j) w w3:=(Tg hg).mono (λj hj=>.inl hj.symm)
 have r3:=(t3.block wb (Jb h.row) (h.ls.apart h.row (by decide))).trans h.row
 have e4:=Qj w3 wb 0 _ _ _ v' r3
 have t4:=Ts w3 wb #[v',vrs,vl,vm]
 have hr3:VOwn 129 base w3 vrs R:=h.rs.tch t3 (λj hj e=>by
  obtain ⟨_,_,cs,m,hr⟩:=h.rs.own j hj
  exact h.ls.apart hr (by decide) e)
 refine ⟨Ja r3,λj=>Qg _ _ _ _ _ r3,?_,?_⟩
 ·rw [e4]
  exact ⟨Qi _ _ _ _ _ _ r3,hv.tch t4 (λj hj e=>by rw [e] at hj;exact hv.apart r3 (by decide) hj),hr3.tch t4 (λj hj e=>by rw [e] at hj;exact hr3.apart r3 (by decide) hj)⟩
 ·rw [e4]
  exact (t3.mono (λj hj=>.inl (.inr (.inl hj)))).trans t4 (λj hj=>.inl (.inl hj))
theorem WAt.app2 {base:Nat} {w w3:World} {wb:Nat} {vls vrs vl vm v':Value} {L R R':List Value} (h:WAt base w wb vls vrs vl vm L R) (hv:VOwn 129 base w3 v' R') (hg:w.grownBy w3 vrs.ownBlock):
  w3.cell? ⟨wb,1,none⟩=some vrs/\(∀j,w3.frozen? ⟨wb,j,none⟩=false)/\WAt base (w3.setCell ⟨wb,1,none⟩ v') wb vls v' vl vm L R'/\Tch (WOwn wb vls vrs) w (w3.setCell ⟨wb,1,none⟩ v'):=by
 have t3:Tch (λj=>vrs.ownBlock=some j) w w3:=(Tg hg).mono (λj hj=>.inl hj.symm)
 have r3:=(t3.block wb (Jb h.row) (h.rs.apart h.row (by decide))).trans h.row
 have e4:=Qj w3 wb 1 _ _ _ v' r3
 have t4:=Ts w3 wb #[vls,v',vl,vm]
 have hr3:VOwn 32 base w3 vls L:=h.ls.tch t3 (λj hj e=>by
  obtain ⟨_,_,cs,m,hr⟩:=h.ls.own j hj
  exact h.rs.apart hr (by decide) e)
 refine ⟨Ja r3,λj=>Qg _ _ _ _ _ r3,?_,?_⟩
 ·rw [e4]
  exact ⟨Qi _ _ _ _ _ _ r3,hr3.tch t4 (λj hj e=>by rw [e] at hj;exact hr3.apart r3 (by decide) hj),hv.tch t4 (λj hj e=>by rw [e] at hj;exact hv.apart r3 (by decide) hj)⟩
 ·rw [e4]
  exact (t3.mono (λj hj=>.inl (.inr (.inr hj)))).trans t4 (λj hj=>.inl (.inl hj))
theorem Jf1 (wb:Nat) (w:World):Calls prog 65 #[.pointer (some ⟨wb,0,none⟩),.pointer none,.pointer none] w λe w'=>e=.returned (.bool true)/\w'=w:=by
 go_enter func65,ntmps65
 go_wp2
 go_ret
 exact ⟨rfl,rfl⟩
theorem JkA {base wb:Nat} {w:World} {vls vrs vl vm:Value} {L R:List Value} (h:WAt base w wb vls vrs vl vm L R) (a b:Addr) (hL:L.length<=1000000000) (hR:R.length<=1000000000) (hbase:base<=w.heap.size):
  Calls prog 65 #[.pointer (some ⟨wb,0,none⟩),.pointer (some a),.pointer (some b)] w λe w'=>e=.returned (.bool true)/\∃vls' vrs',WAt base w' wb vls' vrs' vl vm (L++[.pointer (some a)]) (R++[.pointer (some b)])/\Tch (WOwn wb vls vrs) w w'/\∀j,WOwn wb vls' vrs' j->WOwn wb vls vrs j\/w.heap.size<=j:=by
 obtain ⟨ia,ic,rfl⟩:=h.ls.shape
 obtain ⟨ja,jc,rfl⟩:=h.rs.shape
 generalize hln:L.length=ln at *
 generalize hrn:R.length=rn at *
 have HLN:Hid (L.length=ln/\R.length=rn):=⟨hln,hrn⟩
 clear hln hrn
 obtain ⟨W1,hW1⟩:∃W1,W1=w.alloc (.cells #[.pointer (some a)] 32):=⟨_,rfl⟩
 have t1:Tch NoB w W1:=by rw [hW1];exact Ta _ _ _
 have HW1:Hid (WAt base W1 wb (.slice ia ln ic) (.slice ja rn jc) vl vm L R):=h.tch t1 (λ_ e=>e.elim)
 have HC1:Hid (W1.cell? ⟨w.heap.size,0,none⟩=some (.pointer (some a))):=by show _=_;rw [hW1];exact Ja (Qf _ _)
 have HT1:Hid (Tch NoB w W1):=t1
 have HH1:Hid (W1.heap.size=w.heap.size+1):=by show _=_;rw [hW1,World.size_alloc]
 have HWW:Hid (W1=w.alloc (.cells #[.pointer (some a)] 32)):=hW1
 have q0:w.cell? ⟨wb,0,none⟩=some (.slice ia ln ic):=Ja h.row
 have HBW:Hid (base<=w.heap.size):=hbase
 clear h t1 hW1 hbase
 go_enter func65,ntmps65
 go_upto_region 5 with (at_builtin;rw [<-HWW.o];refine XU Jl3 rfl _ _ rfl rfl HW1.o.ls _ (.pointer (some a)) rfl HC1.o rfl (by rw [HLN.o.1];exact hL) (by have:=HBW.o;have:=HH1.o;omega) ?_;intro v3 w3 hv3 hg3 ho3;obtain ⟨xa,xn,xc,rfl⟩:=hv3.shape3;obtain ⟨r0,r1,r2,r3⟩:=HW1.o.app1 hv3 hg3;have HW3:Hid (WAt _ _ _ _ _ _ _ _ _):=r2;have HT3:Hid (Tch _ W1 _):=r3;have HO3:Hid (_\/_):=ho3;clear r2 r3 hv3 hg3 ho3)
 generalize w3.setCell ⟨wb,0,none⟩ (.slice xa xn xc)=w4 at *
 clear q0 r0 r1
 obtain ⟨W5,hW5⟩:∃W5,W5=w4.alloc (.cells #[.pointer (some b)] 129):=⟨_,rfl⟩
 have t5:Tch NoB w4 W5:=by rw [hW5];exact Ta _ _ _
 have HW5:Hid (WAt base W5 wb (.slice xa xn xc) (.slice ja rn jc) vl vm (L++[.pointer (some a)]) R):=HW3.o.tch t5 (λ_ e=>e.elim)
 have HC5:Hid (W5.cell? ⟨w4.heap.size,0,none⟩=some (.pointer (some b))):=by show _=_;rw [hW5];exact Ja (Qf _ _)
 have HT5:Hid (Tch NoB w4 W5):=t5
 have HWV:Hid (W5=w4.alloc (.cells #[.pointer (some b)] 129)):=hW5
 have q0:w4.cell? ⟨wb,1,none⟩=some (.slice ja rn jc):=Ja HW3.o.row
 clear t5 hW5
 go_wp2_with (at_builtin;rw [<-HWV.o];refine XU Jl5 rfl _ _ rfl rfl HW5.o.rs _ (.pointer (some b)) rfl HC5.o rfl (by rw [HLN.o.2];exact hR) (by have:=HBW.o;have:=HH1.o;have:=HT3.o.size;have:=HT5.o.size;omega) ?_;intro v6 w6 hv6 hg6 ho6;obtain ⟨ya,yn,yc,rfl⟩:=hv6.shape3;obtain ⟨r0,r1,r2,r3⟩:=HW5.o.app2 hv6 hg6;have HW6:Hid (WAt _ _ _ _ _ _ _ _ _):=r2;have HT6:Hid (Tch _ W5 _):=r3;have HO6:Hid (_\/_):=ho6;clear r2 r3 hv6 hg6 ho6)
 go_ret
 have hs:w.heap.size<=W1.heap.size/\W1.heap.size<=W5.heap.size:=⟨HT1.o.size,Qm HT3.o.size HT5.o.size⟩
 have ho:∀j,WOwn wb (.slice xa xn xc) (.slice ja rn jc) j->WOwn wb (.slice ia ln ic) (.slice ja rn jc) j\/w.heap.size<=j:=λj hj=>by
  rcases hj with h | h | h
  ·exact .inl (.inl h)
  ·rcases HO3.o with e | e
   ·rw [e] at h;exact .inl (.inr (.inl h))
   ·rw [e] at h;cases h;exact .inr hs.1
  ·exact .inl (.inr (.inr h))
 refine ⟨rfl,_,_,HW6.o,?_,λj hj=>?_⟩
 ·exact (((HT1.o.mono noE).trans HT3.o (λ_ h=>.inl h)).go HT5.o).trans HT6.o ho
 ·rcases hj with h | h | h
  ·exact .inl (.inl h)
  ·exact ho j (.inr (.inl h))
  ·rcases HO6.o with e | e
   ·rw [e] at h;exact ho j (.inr (.inr h))
   ·rw [e] at h;cases h;exact .inr (Qm hs.1 hs.2)

def ptrV (b:Nat):Value:=.pointer (some ⟨b,0,none⟩)
structure WOk (base:Nat) (w:World) (wb n:Nat) (vls vrs vl vm:Value) (ls rs:List Nat) (c:Nat->Nat):Prop where
 at':WAt base w wb vls vrs vl vm (ls.map ptrV) (rs.map ptrV)
 len:ls.length=rs.length
 few:ls.length<=n
 own:∀j,WOwn wb vls vrs j->c j=1/\base<=j/\j<w.heap.size
 duo:∀i lb rb,ls[i]? =some lb->rs[i]? =some rb->∃F G,Duo base w n lb rb F G/\(∀j,F j->c j=2 * i+2)/\∀j,G j->c j=2 * i+3
def WSt (base:Nat) (w:World) (wb n:Nat) (vl vm:Value):Prop:=∃vls vrs ls rs c,WOk base w wb n vls vrs vl vm ls rs c
theorem WOk.tch {base:Nat} {w w':World} {wb n:Nat} {vls vrs vl vm:Value} {ls rs:List Nat} {c:Nat->Nat} {S:Nat->Prop} (h:WOk base w wb n vls vrs vl vm ls rs c) (k:Tch S w w') (hs:∀j,S j->c j=0):WOk base w' wb n vls vrs vl vm ls rs c:=
 ⟨h.at'.tch k (λj e o=>by have:=(h.own j o).1;rw [hs j e] at this;cases this),h.len,h.few,λj hj=>⟨(h.own j hj).1,(h.own j hj).2.1,Qk (h.own j hj).2.2 k.size⟩,λi lb rb h1 h2=>by
  obtain ⟨F,G,d1,d2,d3⟩:=h.duo i lb rb h1 h2
  exact ⟨F,G,d1.tch k (λj e=>⟨λf=>by have:=d2 j f;rw [hs j e] at this;omega,λf=>by have:=d3 j f;rw [hs j e] at this;omega⟩),d2,d3⟩⟩
theorem WSt.tch0 {base:Nat} {w w':World} {wb n:Nat} {vl vm:Value} (h:WSt base w wb n vl vm) (k:Tch NoB w w'):WSt base w' wb n vl vm:=by
 obtain ⟨vls,vrs,ls,rs,c,h⟩:=h
 exact ⟨vls,vrs,ls,rs,c,h.tch k (λ_ e=>e.elim)⟩
theorem WOk.up {base:Nat} {w:World} {wb n m:Nat} {vls vrs vl vm:Value} {ls rs:List Nat} {c:Nat->Nat} (h:WOk base w wb n vls vrs vl vm ls rs c) (hm:n<=m):WOk base w wb m vls vrs vl vm ls rs c:=
 ⟨h.at',h.len,Qm h.few hm,h.own,λi lb rb h1 h2=>by
  obtain ⟨F,G,d1,d2,d3⟩:=h.duo i lb rb h1 h2
  exact ⟨F,G,d1.up hm,d2,d3⟩⟩
theorem WSt.up {base:Nat} {w:World} {wb n m:Nat} {vl vm:Value} (h:WSt base w wb n vl vm) (hm:n<=m):WSt base w wb m vl vm:=by
 obtain ⟨vls,vrs,ls,rs,c,h⟩:=h
 exact ⟨vls,vrs,ls,rs,c,h.up hm⟩
open Classical in
theorem WOk.led {base:Nat} {w w':World} {wb n:Nat} {vls vrs vl vm:Value} {ls rs:List Nat} {c:Nat->Nat} (h:WOk base w wb n vls vrs vl vm ls rs c) {i lb rb:Nat} (h1:ls[i]? =some lb) (h2:rs[i]? =some rb) {F G:Nat->Prop} (hd:Duo base w n lb rb F G) (hF:∀j,F j->c j=2 * i+2) (hG:∀j,G j->c j=2 * i+3) (t:JaL base w n lb rb F G w'):WSt base w' wb (n+1) vl vm/\Tch (λj=>base<=j) w w':=by
 obtain ⟨t1,F',G',t2,t3,t4⟩:=t
 have hlt:=hd.own
 refine ⟨⟨vls,vrs,ls,rs,λj=>if j<w.heap.size then c j else if F' j then 2 * i+2 else if G' j then 2 * i+3 else 0,h.at'.tch t1 (λj e o=>?_),h.len,by have:=h.few;omega,λj hj=>?_,λk lb' rb' k1 k2=>?_⟩,t1.mono (λj hj=>.inl (hlt j hj).1)⟩
 ·have h3:=(h.own j o).1
  rcases e with e | e
  ·have:=hF j e;omega
  ·have:=hG j e;omega
 ·obtain ⟨o1,o2,o3⟩:=h.own j hj
  exact ⟨by rw [if_pos o3];exact o1,o2,Qk o3 t1.size⟩
 ·by_cases hk:k=i
  ·subst hk
   rw [h1] at k1
   rw [h2] at k2
   cases k1
   cases k2
   refine ⟨F',G',t2,λj hj=>?_,λj hj=>?_⟩
   ·by_cases hs:j<w.heap.size
    ·rw [if_pos hs]
     rcases t3 j hj with e | e
     ·exact hF j e
     ·omega
    ·rw [if_neg hs,if_pos hj]
   ·by_cases hs:j<w.heap.size
    ·rw [if_pos hs]
     rcases t4 j hj with e | e
     ·exact hG j e
     ·omega
    ·have:¬F' j:=λhf=>by
      obtain ⟨_,_,_,_,_,_,_,_,q⟩:=t2
      exact q j hf hj
     rw [if_neg hs,if_neg this,if_pos hj]
  ·obtain ⟨F2,G2,d1,d2,d3⟩:=h.duo k lb' rb' k1 k2
   refine ⟨F2,G2,(d1.tch t1 (λj e=>⟨λf=>?_,λf=>?_⟩)).up (by omega),λj hj=>?_,λj hj=>?_⟩
   ·have:=d2 j f
    rcases e with e | e
    ·have:=hF j e;omega
    ·have:=hG j e;omega
   ·have:=d3 j f
    rcases e with e | e
    ·have:=hF j e;omega
    ·have:=hG j e;omega
   ·rw [if_pos (d1.own j (.inl hj)).2];exact d2 j hj
   ·rw [if_pos (d1.own j (.inr hj)).2];exact d3 j hj
open Classical in
theorem WOk.join {base:Nat} {w V V':World} {wb n:Nat} {vls vrs vl vm vls' vrs':Value} {ls rs:List Nat} {c:Nat->Nat} (h:WOk base w wb n vls vrs vl vm ls rs c) (k:Tch NoB w V) {lb rb:Nat} {F G:Nat->Prop} (hd:Duo base V 1 lb rb F G) (hF:∀j,F j\/G j->w.heap.size<=j) (hA:WAt base V' wb vls' vrs' vl vm (ls.map ptrV++[ptrV lb]) (rs.map ptrV++[ptrV rb])) (t:Tch (WOwn wb vls vrs) V V') (hO:∀j,WOwn wb vls' vrs' j->WOwn wb vls vrs j\/V.heap.size<=j) (hbw:base<=w.heap.size) (hn:ls.length<n+1):WSt base V' wb (n+1) vl vm/\Tch (λj=>base<=j) w V':=by
 have hs:=k.size
 have hlt:=hd.own
 have hV:=h.tch k (λ_ e=>e.elim)
 refine ⟨⟨vls',vrs',ls++[lb],rs++[rb],λj=>if j<w.heap.size then c j else if F j then 2 * ls.length+2 else if G j then 2 * ls.length+3 else 1,?_,by rw [Qe,Qe,h.len];rfl,by rw [Qe];simp;omega,λj hj=>?_,λi lb' rb' k1 k2=>?_⟩,(k.mono (λ_ e=>e.elim)).trans t (λj hj=>.inl (h.own j hj).2.1)⟩
 ·rw [List.map_append,List.map_append]
  exact hA
 ·have hsz:j<V'.heap.size:=by
   rcases hj with e | e | e
   ·rw [e];exact (Jb hA.row)
   ·exact (hA.ls.own j e).2.1
   ·exact (hA.rs.own j e).2.1
  rcases hO j hj with o | o
  ·obtain ⟨o1,o2,o3⟩:=h.own j o
   exact ⟨by rw [if_pos o3];exact o1,o2,hsz⟩
  ·have h1:¬F j:=λe=>by have:=(hlt j (.inl e)).2;omega
   have h2:¬G j:=λe=>by have:=(hlt j (.inr e)).2;omega
   exact ⟨by rw [if_neg (by omega),if_neg h1,if_neg h2],by omega,hsz⟩
 ·have apart:∀j,WOwn wb vls vrs j->j<w.heap.size:=λj hj=>(h.own j hj).2.2
  by_cases hi:i<ls.length
  ·rw [QF hi] at k1
   rw [QF (by rw [<-h.len];exact hi)] at k2
   obtain ⟨F2,G2,d1,d2,d3⟩:=h.duo i lb' rb' k1 k2
   refine ⟨F2,G2,((d1.tch k (λ_ e=>e.elim)).tch t (λj o=>⟨λf=>?_,λf=>?_⟩)).up (by omega),λj hj=>?_,λj hj=>?_⟩
   ·have:=d2 j f;have:=(h.own j o).1;omega
   ·have:=d3 j f;have:=(h.own j o).1;omega
   ·rw [if_pos (d1.own j (.inl hj)).2];exact d2 j hj
   ·rw [if_pos (d1.own j (.inr hj)).2];exact d3 j hj
  ·rw [Qz (by omega)] at k1
   rw [Qz (by rw [<-h.len];omega)] at k2
   obtain rfl:i=ls.length:=by
    have:=(Qo.1 k1).1
    simp at this
    omega
   rw [Nat.sub_self] at k1
   rw [<-h.len,Nat.sub_self] at k2
   simp only [List.getElem?_cons_zero,Qh] at k1 k2
   subst k1
   subst k2
   refine ⟨F,G,(hd.tch t (λj o=>⟨λf=>?_,λf=>?_⟩)).up (by omega),λj hj=>?_,λj hj=>?_⟩
   ·have:=hF j (.inl f);have:=apart j o;omega
   ·have:=hF j (.inr f);have:=apart j o;omega
   ·rw [if_neg (by have:=hF j (.inl hj);omega),if_pos hj]
   ·have:¬F j:=λhf=>by
     obtain ⟨_,_,_,_,_,_,_,_,q⟩:=hd
     exact q j hf hj
    rw [if_neg (by have:=hF j (.inr hj);omega),if_neg this,if_pos hj]

theorem JdK {V:World} {g:Nat} {os:List (Nat×Nat)} (h:V.heap[g]? =some (.cells (vvA (os.map encO++Xw)) 80)):Jr V.heap.size V (.slice (some ⟨g,0,none⟩) os.length (os.length+8)) os:=
 .inr ⟨g,0,_,rfl,(Jb h),(Jb h),λi hi=>by
  have:=Xf h (i:=i) (encO os[i]) (by
   rw [QF (by simpa using hi),List.getElem?_map,Qd hi]
   rfl)
  rw [Nat.zero_add]
  exact this⟩
def WTo (base:Nat) (w:World) (wb n:Nat) (vl vm:Value) (e:Ending) (w':World):Prop:=e=.returned (.bool true)/\WSt base w' wb n vl vm/\Tch (λj=>base<=j) w w'
theorem Jlv (E:Nat->Addr) {base:Nat} {w:World} {wb n:Nat} {vl vm:Value} (hF:XP E base w) (h:WSt base w wb n vl vm) (hn:n<=900000) (hbw:base<=w.heap.size) (x:OpL) (log:BA) (hk:x.kind=2) {os:List (Nat×Nat)} {ts:List TxL} {sl:List (Sl×Sl)} (hx:OpOk base w x os ts sl):
  Calls prog 33 #[.pointer (some ⟨wb,0,none⟩),opV x,.string log] w (WTo base w wb (n+1) vl vm):=by
 have hol:=hx.oLen
 by_cases hok:1<=x.a/\x.a<=32/\1<=os.length/\os.length<=3
 ·obtain ⟨a1,a2,o1,o3⟩:=hok
  obtain ⟨wj,hw⟩:=Int.eq_ofNat_of_zero_le (show 0<=x.a by omega)
  have hw1:1<=wj:=by omega
  have hw32:wj<=32:=by omega
  obtain ⟨st,hst⟩:=Zm (dgW wj (71 :: Ju os)) os hx.oOk o3
  refine Jct w wb x log hk hbw (os.map encO) (by rw [QM];omega) hx.outs.vr (Jev _) 0
   (λg pl V=>∃lb F,pl=some ⟨lb,0,none⟩/\LAt wj base 0 V lb F 0 [(⟨(hdrB (XN wj os st)).toArray⟩,st)]/\∀j,F j->g<j/\w.heap.size<=j)
   (λg pl pr V=>∃lb rb F G,pl=some ⟨lb,0,none⟩/\pr=some ⟨rb,0,none⟩/\Duo base V 1 lb rb F G/\∀j,F j\/G j->g<j/\w.heap.size<=j) _ (λV g hV hg hr=>?_) (λV g pl hV hq=>?_) (λV V' g pl pr hq ht=>?_) (λV g pl pr hV hq=>?_)
  ·rw [QM,hw]
   refine (JhB E base wj _ os hw1 hw32 (hF.tch hV (λ_ e=>e.elim)) (Qm hbw hV.size) (JdK hr) o1 o3 hx.oOk).mono λe V' k=>?_
   obtain ⟨k0,lb,F,h',st',k1,k2,k3,_,k4,k5⟩:=k
   rw [hst] at k3
   cases k3
   subst k4
   have hg1:=(Jb hr)
   exact ⟨_,k1,k0,lb,F,rfl,k2,λj hj=>⟨by have:=k5 j hj;omega,Qm hV.size (k5 j hj)⟩⟩
  ·obtain ⟨lb,F,rfl,q1,q2⟩:=hq
   rw [hw]
   refine (JmG dgC wj hw1 hw32 _ os hx.oOk o1 o3 base V (hx.outs.tch hV (λ_ e=>e.elim)) base (Qm hbw hV.size) st hst).mono λe V' k=>?_
   obtain ⟨k0,rb,G,vL,lv,b,k1,k2,k3⟩:=k
   refine ⟨_,k1,k0,lb,rb,F,G,rfl,rfl,⟨wj,_,vL,lv,b,q1.keep k0 (λ_ e=>e.elim),k2,Ql _,λj hf hg=>?_⟩,λj hj=>?_⟩
   ·have:=(q1.low j hf).2;have:=k3 j hg;omega
   ·rcases hj with hj | hj
    ·exact q2 j hj
    ·have h1:=k3 j hj
     have h2:=hV.size
     have h3:=q1.low lb (by obtain ⟨_,_,_,_,_,_,C⟩:=q1;exact C.ownL)
     have h4:=q2 lb (by obtain ⟨_,_,_,_,_,_,C⟩:=q1;exact C.ownL)
     omega
  ·obtain ⟨lb,rb,F,G,rfl,rfl,q1,q2⟩:=hq
   exact ⟨lb,rb,F,G,rfl,rfl,q1.tch ht (λj e=>⟨λf=>by have:=q2 j (.inl f);omega,λf=>by have:=q2 j (.inr f);omega⟩),q2⟩
  ·obtain ⟨lb,rb,F,G,rfl,rfl,q1,q2⟩:=hq
   obtain ⟨vls,vrs,ls,rs,c,hW⟩:=h
   have hWV:=hW.tch hV (λ_ e=>e.elim)
   have hfew:=hW.few
   refine (JkA hWV.at' ⟨lb,0,none⟩ ⟨rb,0,none⟩ (by rw [QM];omega) (by rw [QM,<-hW.len];omega) (Qm hbw hV.size)).mono λe V' k=>?_
   obtain ⟨k0,vls',vrs',k1,k2,k3⟩:=k
   exact ⟨k0,hW.join hV q1 (λj hj=>(q2 j hj).2) k1 k2 k3 hbw (by omega)⟩
 ·refine Jct w wb x log hk hbw (os.map encO) (by rw [QM];omega) hx.outs.vr (Jev _) 1 (λg pl V=>pl=none) (λg pl pr V=>pl=none/\pr=none) _ (λV g hV hg hr=>?_) (λV g pl hV hq=>?_) (λV V' g pl pr hq ht=>hq) (λV g pl pr hV hq=>?_)
  ·rw [QM]
   exact (Jjn E x.a _ os V (hF.tch hV (λ_ e=>e.elim)) (JdK hr) hol hx.oOk hok).mono λe V' k=>⟨_,k.1,k.2,rfl⟩
  ·subst hq
   exact (Jjs x.a _ os base V (hx.outs.tch hV (λ_ e=>e.elim)) (by omega) hok).mono λe V' k=>⟨_,k.1,k.2,rfl,rfl⟩
  ·obtain ⟨rfl,rfl⟩:=hq
   exact (Jf1 wb V).mono λe V' k=>⟨k.1,by rw [k.2];exact (h.tch0 hV).up (by omega),by rw [k.2];exact hV.mono (λ_ e=>e.elim)⟩
theorem Jkz (E:Nat->Addr) {base:Nat} {w:World} {wb n:Nat} {vl vm:Value} (hF:XP E base w) (h:WSt base w wb n vl vm) (hn:n<=900000) (hbw:base<=w.heap.size) (x:OpL) (hk:x.kind=1\/x.kind=2) {os:List (Nat×Nat)} {ts:List TxL} {sl:List (Sl×Sl)} (hx:OpOk base w x os ts sl):
  Calls prog 68 #[.pointer (some ⟨wb,0,none⟩),opV x] w (WTo base w wb (n+1) vl vm):=by
 obtain ⟨w0,hw0,t0,hbx⟩:=Jd6 w x
 have HNE:Hid (x.kind=2->Calls prog 33 #[.pointer (some ⟨wb,0,none⟩),opV x,.string x.s] w0 (WTo base w wb (n+1) vl vm)):=λhk=>(Jlv E (hF.tch t0 (λ_ e=>e.elim)) (h.tch0 t0) hn (Qm hbw t0.size) x x.s hk (hx.tch t0 (λ_ e=>e.elim))).mono λe w' k=>⟨k.1,k.2.1,(t0.mono (λ_ e=>e.elim)).trans k.2.2 (λ_ e=>.inl e)⟩
 obtain ⟨S,code,hd1,hd2⟩:∃(S:BA) (code:Int),(∀V,Tch NoB w V->Calls prog 73 #[.int .i64 x.a,.string x.s] V λe w'=>Tch NoB V w'/\e=.returned (.tuple #[.string S,.int .i64 code]))/\∀V,Calls prog 113 #[.int .i64 x.a,.string x.s] V λe w'=>Tch NoB V w'/\e=.returned (.tuple #[.string S,.int .i64 code]):=by
  have hs:=hx.s
  have p1:=λV (hV:Tch NoB w V)=>Jjm E x.a x.s V (hF.tch hV (λ_ e=>e.elim)) (by omega)
  have p2:=λV=>Jjq x.a x.s V (by omega) hx.ra.1 hx.ra.2
  by_cases hw:1<=x.a/\x.a<=32
  ·refine ⟨dgW x.a.toNat x.s.data.toList,0,λV hV=>?_,λV=>?_⟩
   ·have:=p1 V hV
    rw [if_pos hw] at this
    exact this
   ·have:=p2 V
    rw [if_pos hw] at this
    exact this
  ·refine ⟨⟨#[]⟩,1,λV hV=>?_,λV=>?_⟩
   ·have:=p1 V hV
    rw [if_neg hw] at this
    exact this
   ·have:=p2 V
    rw [if_neg hw] at this
    exact this
 have HD1:Hid (∀V,_):=hd1
 have HD2:Hid (∀V,_):=hd2
 have HST:Hid (∀V,Tch NoB w V->WTo base w wb (n+1) vl vm (.returned (.bool true)) V):=λV hV=>⟨rfl,(h.tch0 hV).up (by omega),hV.mono (λ_ e=>e.elim)⟩
 have HW0:Hid (w0=w.alloc _):=hw0
 have HT0:Hid (Tch NoB w w0):=t0
 have HBX:Hid (∀V S,Tch S w0 V->(∀j,S j->j<w.heap.size\/w0.heap.size<=j)->BoxC V w.heap.size x):=hbx
 clear hF hbw hx hw0 t0 hbx h hd1 hd2
 obtain ⟨kind,a,b',which,s,t,u,cx,cn,⟨oa,on,oc⟩,⟨ta,tn,tc⟩⟩:=x
 simp only [BoxC] at *
 obtain ⟨R,hR⟩:∃R,R=WTo base w wb (n+1) vl vm:=⟨_,rfl⟩
 rw [<-hR] at HNE HST ⊢
 go_enter func68,ntmps68
 go_upto_region 1 with fail
 rw [<-HW0.o]
 obtain ⟨c0,c1,c2,c3,c4,c5,c6,c7,c8,c9,c10⟩:=HBX.o w0 _ (Te NoB _) (λ_ e=>e.elim)
 rcases hk with rfl | rfl
 ·go_wp2_with fail
  refine (HD1.o w0 HT0.o).mono ?_
  rintro _ w1 ⟨ht1,rfl⟩
  have HT1:Hid (Tch NoB w0 w1):=ht1
  clear c0 c1 c2 c3 c4 c5 c6 c7 c8 c9 c10 ht1
  obtain ⟨_,c1,_,_,c4,_⟩:=HBX.o w1 _ HT1.o (λ_ e=>e.elim)
  go_wp2_with fail
  refine (HD2.o w1).mono ?_
  rintro _ w2 ⟨ht2,rfl⟩
  have HT2:Hid (Tch NoB w w2):=(HT0.o.go HT1.o).go ht2
  clear ht2 c1 c4
  go_wp2_with fail
  refine (JdE _ _).mono ?_
  rintro _ _ ⟨rfl,rfl⟩
  go_wp2
  exact HST.o _ HT2.o
 ·go_wp2_with fail
  refine (HNE.o trivial).mono ?_
  intro e w1 hr
  obtain ⟨rfl,hr2⟩:e=.returned (.bool true)/\R e w1:=⟨by rw [hR] at hr;exact hr.1,hr⟩
  have HR1:Hid (R _ _):=hr2
  clear hr hr2 c0 c1 c2 c3 c4 c5 c6 c7 c8 c9 c10
  go_wp2
  exact HR1.o
