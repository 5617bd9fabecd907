import Derived.Deep.RegionHeld3
namespace Go.Proofs.YtighkdnooglfjaaGreatDoor
open Go

section
variable {P:Program} {md:Region.Mode} {Q:Exit->Act->World->Prop}

def Zz (md:Region.Mode) (o:Oper):List Nat:=(o.after.toList.filter (Region.binds md)).map (·.on)
def Jka (md:Region.Mode) (l:List Oper):Nat->List Nat->List Nat
 | 0,D=>D
 | n+1,D=>Jka md l n ((D++D.flatMap λj=>((l[j]?).map (Zz md)).getD []).eraseDups)
def Je9 (md:Region.Mode) (l:List Oper) (o:Oper) (n:Nat):Bool:=
 (List.range l.length).all (λj=>(Jka md l n (Zz md o)).contains j) && (Zz md o).all (λj=>decide (j<l.length)) &&
 (List.range l.length).all (λi=>((l[i]?).map (λx=>(Zz md x).all (λj=>decide (j<i)))).getD true) && l.all (λx=>x.guard.isNone) && o.guard.isNone
theorem Yz {o:Oper} {j:Nat}:j∈Zz md o↔∃e∈o.after,Region.binds md e=true/\e.on=j:=by
 simp only [Zz,List.mem_map,List.mem_filter,Array.mem_toList_iff,and_assoc]
def JgE (md:Region.Mode) (l:List Oper) (listed:Array Bool):Prop:=∀i o,l[i]? =some o->listed.getD i false=true->∀j∈Zz md o,listed.getD j false=true
theorem Jbj {l:List Oper} {listed:Array Bool} (h:JgE md l listed):∀(n:Nat) (D:List Nat),(∀j∈D,listed.getD j false=true)->∀j∈Jka md l n D,listed.getD j false=true
 | 0,_,hD=>hD
 | n+1,D,hD=>Jbj h n _ (λj hj=>by
   rw [List.mem_eraseDups,List.mem_append,List.mem_flatMap] at hj
   rcases hj with hj | ⟨i,hi,hj⟩
   ·exact hD j hj
   ·cases ho:l[i]? with
    | none=>rw [ho] at hj;simp at hj
    | some o=>rw [ho] at hj;exact h i o ho (hD i hi) j (by simpa using hj))
def Jdm (P:Program) (ops:Array Oper) (o:Oper) (Q:Exit->Act->World->Prop):Exit->Act->World->Prop
 | .normal,a,w=>wpList P ops Q [o] a w
 | e,a,w=>Q e a w
theorem YK {listed:Array Bool} {i:Nat} (h:i<listed.size) (d:Bool):(listed.push false).getD i d=listed.getD i d:=by
 simp [Array.getD,h,Array.getElem_push_lt,Nat.lt_succ_of_lt h]
theorem JaJ {l:List Oper} {o:Oper} {n:Nat} (hB:Je9 md l o n=true):∀(fuel:Nat) (listed:Array Bool) (a:Act) (w:World),listed.size=l.length->JgE md l listed->
  wpAny P md l.toArray (Jdm P (l++[o]).toArray o Q) fuel listed a w->wpAny P md (l++[o]).toArray Q (fuel+1) (listed.push false) a w:=by
 simp only [Je9,Bool.and_eq_true,List.all_eq_true,List.mem_range,List.contains_iff_mem,decide_eq_true_eq,Option.isNone_iff_eq_none] at hB
 obtain ⟨⟨⟨⟨h1,h2⟩,h3⟩,h4⟩,h5⟩:=hB
 have hlast:∀listed:Array Bool,listed.size=l.length->JgE md l listed->l.length∈Region.ready md (l++[o]).toArray (listed.push false)->∀j<l.length,listed.getD j false=true:=by
  intro listed hs hc hr j hj
  obtain ⟨_,o',ho',hall⟩:=mem_ready.1 hr
  have ho'':o'=o:=by simpa using ho'.symm
  subst ho''
  refine Jbj hc n _ (λi hi=>?_) j (h1 j hj)
  obtain ⟨e,he,hb,rfl⟩:=Yz.1 hi
  have:=hall e he hb
  rwa [YK (by rw [hs];exact h2 _ hi)] at this
 have hsame:∀(listed:Array Bool),listed.size=l.length->∀i,i<l.length->(i∈Region.ready md (l++[o]).toArray (listed.push false)↔i∈Region.ready md l.toArray listed):=by
  intro listed hs i hi
  rw [mem_ready,mem_ready,YK (by omega)]
  have e1:((l++[o]).toArray)[i]? =l.toArray[i]? :=by simp [List.getElem?_append_left hi]
  rw [e1]
  refine and_congr_right λ_=>exists_congr λx=>and_congr_right λhx=>forall_congr' λe=>forall_congr' λhe=>forall_congr' λhb=>?_
  have hx':l[i]? =some x:=by simpa using hx
  have hlt:e.on<i:=by
   have:=h3 i hi
   rw [hx'] at this
   simp only [Option.map_some,Option.getD_some,List.all_eq_true,decide_eq_true_eq] at this
   exact this _ (Yz.2 ⟨e,he,hb,rfl⟩)
  rw [YK (by omega)]
 have hempty:∀(listed:Array Bool),listed.size=l.length->Region.ready md l.toArray listed=[]->∀j<l.length,listed.getD j false=true:=by
  intro listed hs hr j
  induction j using Nat.strongRecOn with
  | _ j ih=>
   intro hj
   cases hd:listed.getD j false with
   | true=>rfl
   | false=>
    exfalso
    have:j∈Region.ready md l.toArray listed:=by
     refine mem_ready.2 ⟨?_,l[j],by simp [hj],λe he hb=>?_⟩
     ·have hj':j<listed.size:=by omega
      simp [Array.getD,hj'] at hd ⊢;exact hd
     ·have hx:=h3 j hj
      rw [List.getElem?_eq_getElem hj] at hx
      simp only [Option.map_some,Option.getD_some,List.all_eq_true,decide_eq_true_eq] at hx
      have:=hx _ (Yz.2 ⟨e,he,hb,rfl⟩)
      exact ih _ this (by omega)
    rw [hr] at this;cases this
 have hwO:∀(listed:Array Bool) (i:Nat) (K:Act->World->Prop) (Q':Exit->Act->World->Prop) (a:Act) (w:World),i<l.length->wpOp P l.toArray Q' i K a w->wpOp P (l++[o]).toArray Q' i K a w:=by
  intro listed i K Q' a w hi h
  unfold wpOp at *
  have e1:((l++[o]).toArray)[i]? =l.toArray[i]? :=by simp [List.getElem?_append_left hi]
  rw [e1]
  have e2:l.toArray[i]? =some l[i]:=by simp [hi]
  rw [e2] at h ⊢
  have hg:(l[i]).guard=none:=h4 _ (List.getElem_mem hi)
  simpa only [Region.wanted,hg,if_true] using h
 have hQ:∀(i:Nat) (K:Act->World->Prop) (a:Act) (w:World),wpOp P (l++[o]).toArray (Jdm P (l++[o]).toArray o Q) i K a w->wpOp P (l++[o]).toArray Q i K a w:=by
  intro i K a w h
  unfold wpOp at *
  split at h
  ·exact h
  ·rename_i x hx
   split at h
   ·rename_i hw
    rw [if_pos hw]
    rcases h with h | ⟨h,hl⟩
    ·refine .inl ?_
     unfold Oper.wp at *
     generalize (execOp a.eval x).run P w=r at *
     cases r with
     | ok nx w'=>
      cases nx <;> simp only [Oper.upon] at h ⊢ <;> first | exact h | exact Calls.mono h (λe w'' he=>by cases e <;> exact he)
     | halt y w'=>cases y <;> simp only [Oper.upon] at h ⊢ <;> exact h
    ·exact .inr ⟨h,hl⟩
   ·rename_i hw;rw [if_neg hw];exact h
 have hk:∀(listed:Array Bool),listed.size=l.length->∀i∈Region.ready md (l++[o]).toArray (listed.push false),i<l.length\/i=l.length:=by
  intro listed hs i hi
  obtain ⟨_,x,hx,_⟩:=mem_ready.1 hi
  have:=(Array.getElem?_eq_some_iff.1 hx).1
  simp at this
  omega
 have hend:∀(fuel:Nat) (listed:Array Bool) (a:Act) (w:World),listed.size=l.length->(∀j<l.length,listed.getD j false=true)->wpList P (l++[o]).toArray Q [o] a w->wpAny P md (l++[o]).toArray Q (fuel+1) (listed.push false) a w:=by
  intro fuel listed a w hs hall h
  have hkr:l.length∈Region.ready md (l++[o]).toArray (listed.push false):=by
   refine mem_ready.2 ⟨?_,o,by simp,λe he hb=>?_⟩
   ·simp [Array.getD,<-hs]
   ·have:=h2 _ (Yz.2 ⟨e,he,hb,rfl⟩)
    rw [YK (by omega)];exact hall _ this
  have honly:∀i∈Region.ready md (l++[o]).toArray (listed.push false),i=l.length:=by
   intro i hi
   rcases hk listed hs i hi with hlt | he
   ·have h0:=(mem_ready.1 hi).1
    rw [YK (by omega)] at h0
    have:=hall i hlt
    have hj':i<listed.size:=by omega
    simp [Array.getD,hj'] at h0 this
    rw [h0] at this;cases this
   ·exact he
  refine ⟨λh0=>(by rw [h0] at hkr;cases hkr),λi hi=>?_⟩
  have:=honly i hi
  subst this
  have hend2:∀(f:Nat) (a:Act) (w:World),Q .normal a w->wpAny P md (l++[o]).toArray Q f ((listed.push false).setIfInBounds l.length true) a w:=by
   intro f a w hq
   have hnone:Region.ready md (l++[o]).toArray ((listed.push false).setIfInBounds l.length true)=[]:=by
    cases hr:Region.ready md (l++[o]).toArray ((listed.push false).setIfInBounds l.length true) with
    | nil=>rfl
    | cons i t=>
     exfalso
     have hi':i∈Region.ready md (l++[o]).toArray ((listed.push false).setIfInBounds l.length true):=by rw [hr];exact List.mem_cons_self
     obtain ⟨h0,x,hx,_⟩:=mem_ready.1 hi'
     have hlt:=(Array.getElem?_eq_some_iff.1 hx).1
     simp at hlt
     by_cases hil:i=l.length
     ·subst hil;simp [Array.getD,<-hs] at h0
     ·rw [getD_set_ne true (λe=>hil e.symm),YK (by omega)] at h0
      have:=hall i (by omega)
      have hj':i<listed.size:=by omega
      simp [Array.getD,hj'] at h0 this
      rw [h0] at this;cases this
   cases f with
   | zero=>exact ⟨hnone,hq⟩
   | succ f=>exact ⟨λ_=>hq,by rw [hnone];intro i hi;cases hi⟩
  unfold wpOp
  have e2:((l++[o]).toArray)[l.length]? =some o:=by simp
  rw [e2]
  simp only [wpList] at h
  simp only [Region.wanted,h5,if_true] at h ⊢
  rcases h with h | h
  ·exact .inl (Oper.wp_mono (λa w hq=>hend2 fuel a w hq) h)
  ·exact .inr h
 intro fuel
 induction fuel with
 | zero=>
  intro listed a w hs hc h
  exact hend 0 listed a w hs (hempty listed hs h.1) h.2
 | succ fuel ih=>
  intro listed a w hs hc h
  by_cases hne:Region.ready md l.toArray listed=[]
  ·exact hend (fuel+1) listed a w hs (hempty listed hs hne) (h.1 hne)
  ·refine ⟨λh0=>?_,λi hi=>?_⟩
   ·exfalso
    cases hr:Region.ready md l.toArray listed with
    | nil=>exact hne hr
    | cons j t=>
     have hj:j∈Region.ready md l.toArray listed:=by rw [hr];exact List.mem_cons_self
     have hlt:j<l.length:=by
      obtain ⟨_,x,hx,_⟩:=mem_ready.1 hj
      simpa using (Array.getElem?_eq_some_iff.1 hx).1
     have:=(hsame listed hs j hlt).2 hj
     rw [h0] at this;cases this
   ·rcases hk listed hs i hi with hlt | he
    ·have hi':=(hsame listed hs i hlt).1 hi
     have hw:=h.2 i hi'
     have hset:(listed.push false).setIfInBounds i true=(listed.setIfInBounds i true).push false:=by
      apply Array.ext_getElem?
      intro j
      simp only [Array.getElem?_setIfInBounds,Array.getElem?_push,Array.size_setIfInBounds,Array.size_push]
      by_cases hji:i=j
      ·subst hji;simp [hs,hlt,Nat.lt_succ_of_lt hlt,Nat.ne_of_lt hlt]
      ·simp [hji]
     have hc':JgE md l (listed.setIfInBounds i true):=by
      intro m x hx hm j hj
      by_cases hmi:m=i
      ·subst hmi
       obtain ⟨_,x',hx',hall⟩:=mem_ready.1 hi'
       have:x'=x:=by
        have:l[m]? =some x':=by simpa using hx'
        rw [hx] at this;exact (Option.some.inj this).symm
       subst this
       obtain ⟨e,he,hb,rfl⟩:=Yz.1 hj
       exact getD_set_true (hall e he hb)
      ·rw [getD_set_ne false (λe=>hmi e.symm)] at hm
       exact getD_set_true (hc m x hx hm j hj)
     refine hQ i _ a w (hwO listed i _ _ a w hlt (wpOp_mono (λa' w' h'=>?_) hw))
     rw [hset]
     exact ih _ a' w' (by simp [hs]) hc' h'
    ·subst he
     have:=hlast listed hs hc hi
     exfalso
     apply hne
     cases hr:Region.ready md l.toArray listed with
     | nil=>rfl
     | cons j t=>
      have hj:j∈Region.ready md l.toArray listed:=by rw [hr];exact List.mem_cons_self
      obtain ⟨h0,x,hx,_⟩:=mem_ready.1 hj
      have hlt:j<l.length:=by simpa using (Array.getElem?_eq_some_iff.1 hx).1
      have h':=this j hlt
      have hj':j<listed.size:=by omega
      simp [Array.getD,hj'] at h0 h'
      rw [h0] at h';cases h'
theorem YV (n:Nat):(Array.replicate n false).push false=Array.replicate (n+1) false:=by rw [Array.replicate_succ]

variable {S:World->Prop}
theorem Xd {id:Nat} {a:Act} {w:World} {L:List Oper} (n:Nat) (hne:L ≠ []) (hm:P.follows .mixedOrders=true) (hB:Je9 .any L.dropLast (L.getLast hne) n=true) (hS:S w.drew)
  (h:S w.drew->∀l o,L.dropLast=l->L.getLast hne=o->wpAnyH P .any l.toArray (Jdm P L.toArray o Q) S l.length (Array.replicate l.length false) a w.drew):(Code.region id L.toArray true).wp P Q a w:=by
 refine wp_region_any hm ?_
 have e:L=L.dropLast++[L.getLast hne]:=(List.dropLast_concat_getLast hne).symm
 have h1:=wpAny_of_held _ _ _ _ (h hS _ _ rfl rfl)
 have h2:=JaJ (Q:=Q) hB L.dropLast.length (Array.replicate L.dropLast.length false) a w.drew (by simp) (λi o _ hi=>by simp [Array.getD] at hi) (by rw [<-e];exact h1)
 rw [<-e,YV] at h2
 have hl:L.dropLast.length+1=L.toArray.size:=by
  have:=congrArg List.length e
  simpa using this.symm
 rw [hl] at h2
 exact h2
theorem Ji {l:List Oper} {md:Region.Mode} {i:Nat} {oi:Oper} {v:Value} {fuel:Nat} {listed:Array Bool} {a:Act} {w:World} (hi:l[i]? =some oi)
  (hs:Region.noSelect l.toArray=true) (hf:Region.free md l.toArray listed i=true) (hr:(Region.ready md l.toArray listed).contains i=true)
  (hQ:∀c a w,Q (.panic c) (a.put oi.dst v) w->Q (.panic c) a w) (hg:oi.guard=none) (hy:∀w,S w->(execOp a.eval oi).run P w=.ok (.value v) w) (hS:S w)
  (h:wpAnyH P md l.toArray Q S fuel (listed.setIfInBounds i true) (a.put oi.dst v) w):wpAnyH P md l.toArray Q S (fuel+1) listed a w:=
 wpAnyH_take (by simpa using hi) hs hf hr hQ (.inl ⟨by simp [Region.wanted,hg],hy⟩) hS h
theorem tkL {l:List Oper} {md:Region.Mode} (i:Nat) {oi:Oper} {v:Value} {fuel:Nat} {listed:Array Bool} {a:Act} {w:World} (h:wpAnyH P md l.toArray Q S fuel (listed.setIfInBounds i true) (a.put oi.dst v) w) (hi:l[i]? =some oi:=by rfl) (hs:Region.noSelect l.toArray=true:=by kernel_rfl) (hf:Region.free md l.toArray listed i=true:=by kernel_rfl) (hr:(Region.ready md l.toArray listed).contains i=true:=by kernel_rfl)
  (hQ:∀c a w,Q (.panic c) (a.put oi.dst v) w->Q (.panic c) a w:=by exact λ_ _ _ h=>h) (hg:oi.guard=none:=by rfl) (hy:∀w,S w->(execOp a.eval oi).run P w=.ok (.value v) w:=by intro W hSW;(try dsimp only at hSW);go_simp;(try with_reducible rfl)) (hS:S w:=by first | assumption | trivial):wpAnyH P md l.toArray Q S (fuel+1) listed a w:=Ji hi hs hf hr hQ hg hy hS h
theorem JbQ {l:List Oper} {md:Region.Mode} {i:Nat} {oi:Oper} {fuel:Nat} {listed:Array Bool} {a:Act} {w:World} (hi:l[i]? =some oi) (hr:Region.ready md l.toArray listed=[i])
  (h:∀K:Act->World->Prop,Shut (∀a w,S w->(S w->wpAnyH P md l.toArray Q S fuel (listed.setIfInBounds i true) a w)->K a w)->if Region.wanted oi (yielded l.toArray a.tmps)=true then Oper.wp P oi a w K Q else K (a.put oi.dst undef) w):wpAnyH P md l.toArray Q S (fuel+1) listed a w:=
 wpAnyH_ready hr (by simp) (AllReadyH.cons (o:=oi) (by simpa using hi) h AllReadyH.nil)
end
