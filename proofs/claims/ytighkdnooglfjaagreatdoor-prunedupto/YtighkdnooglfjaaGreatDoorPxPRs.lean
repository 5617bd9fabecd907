import Derived.Test.YtighkdnooglfjaaGreatDoorPxStA
namespace Go.Proofs.YtighkdnooglfjaaGreatDoor

def Tr.posts (d:List UInt8->BA):Tr->List (List UInt8)
 | .leaf k o=>[(Tr.leaf k o).text d]
 | .br b l r=>l.posts d++r.posts d++[(Tr.br b l r).text d]
def JaM (d:List UInt8->BA):Option Tr->List (List UInt8)
 | none=>[[69]]
 | some t=>t.posts d
inductive Xx (d:List UInt8->BA):List KO->List UInt8->List (List UInt8)->Prop where
 | none:Xx d [] [69] [[69]]
 | one (k:Key) (o:Nat×Nat):Xx d [(k,o)] (76 :: (k++outB o)) [76 :: (k++outB o)]
 | two (l:List KO) (b:Nat) (x y:List UInt8) (p q:List (List UInt8)):Fork l b->Xx d (side l b 0) x p->Xx d (side l b 1) y q->Xx d l (78 :: (beL b 2 2++((d x).data.toList++(d y).data.toList))) (p++q++[78 :: (beL b 2 2++((d x).data.toList++(d y).data.toList))])
theorem Xx.root {d:List UInt8->BA} {l:List KO} {s:List UInt8} {a:List (List UInt8)} (h:Xx d l s a):Root d l s:=by
 induction h with
 | none=>exact .none
 | one k o=>exact .one k o
 | two l b x y p q hf _ _ h1 h2=>exact .two l b x y hf h1 h2
theorem Xx.of_tree {d:List UInt8->BA} (t:Tr):∀(l:List KO) (s:List UInt8) (a:List (List UInt8)),t.Wf->(∀x,x∈l↔x∈t.coins)->(l.map (·.1)).Nodup->Xx d l s a->a=t.posts d:=by
 induction t with
 | leaf k o=>
  intro l s a _ hm hn hr
  simp only [Tr.coins,Qt] at hm
  have hl:l=[(k,o)]:=by
   match l,hm,hn with
   | [],hm,_=>exact absurd ((hm (k,o)).2 rfl) (by simp)
   | [a],hm,_=>rw [(hm a).1 (by simp)]
   | a :: b :: r,hm,hn=>
    have e1:=(hm a).1 (by simp)
    have e2:=(hm b).1 (by simp)
    simp [e1,e2] at hn
  subst hl
  cases hr with
  | one=>rfl
  | two _ b x y p q hf _ _=>exact absurd hf.two (by simp)
 | br b lt rt ihl ihr=>
  intro l s a hw hm hn hr
  have hroot:=Root.of_tree (.br b lt rt) l s hw hm hn hr.root
  obtain ⟨w1,w2,h0,h1,hs⟩:=hw
  have hf:Fork l b:=by
   obtain ⟨x,hx⟩:=List.exists_mem_of_ne_nil _ lt.coins_ne
   obtain ⟨y,hy⟩:=List.exists_mem_of_ne_nil _ rt.coins_ne
   refine ⟨λx hx y hy i hi=>hs x ((hm x).1 hx) y ((hm y).1 hy) i hi,x,(hm x).2 (by simp [Tr.coins,hx]),y,(hm y).2 (by simp [Tr.coins,hy]),?_⟩
   rw [h0 x hx,h1 y hy];decide
  have hl2:=hf.two
  cases hr with
  | none=>simp at hl2
  | one=>simp at hl2
  | two _ b' x y p q hf' hx hy=>
   obtain rfl:=hf.unique hf'
   have hx':=ihl (side l b 0) x p w1 (λz=>by
    unfold side
    rw [List.mem_filter,hm]
    simp only [Tr.coins,QE,decide_eq_true_iff]
    constructor
    ·rintro ⟨h | h,h2⟩
     ·exact h
     ·have:=h1 z h;omega
    ·intro h;exact ⟨.inl h,h0 z h⟩) (hn.sublist (List.Sublist.map _ List.filter_sublist)) hx
   have hy':=ihr (side l b 1) y q w2 (λz=>by
    unfold side
    rw [List.mem_filter,hm]
    simp only [Tr.coins,QE,decide_eq_true_iff]
    constructor
    ·rintro ⟨h | h,h2⟩
     ·have:=h0 z h;omega
     ·exact h
    ·intro h;exact ⟨.inr h,h1 z h⟩) (hn.sublist (List.Sublist.map _ List.filter_sublist)) hy
   rw [hroot,hx',hy'];rfl
theorem Xx.of_state {d:List UInt8->BA} {st:Option Tr} {l:List KO} {s:List UInt8} {a:List (List UInt8)} (hw:∀t,st=some t->t.Wf) (hm:∀x,x∈l↔x∈JZ st) (hn:(l.map (·.1)).Nodup) (hr:Xx d l s a):a=JaM d st:=by
 cases st with
 | none=>
  cases l with
  | nil=>cases hr with
   | none=>rfl
   | two _ b x y p q hf _ _=>exact absurd hf.two (by simp)
  | cons a r=>exact absurd ((hm a).1 (by simp)) (by simp [JZ])
 | some t=>exact Xx.of_tree t l s a (hw t rfl) hm hn hr
theorem JfF (l:List KO) (b:Nat):(side l b 0).length+(side l b 1).length=l.length:=by
 unfold side
 induction l with
 | nil=>rfl
 | cons x r ih=>
  have h2:bt x.1 b=0\/bt x.1 b=1:=by have:=XA x.1 b;omega
  rcases h2 with h | h
  ·simp [h] at ih ⊢;omega
  ·simp [h] at ih ⊢;omega
theorem Xx.len {d:List UInt8->BA} {l:List KO} {s:List UInt8} {a:List (List UInt8)} (h:Xx d l s a):l ≠ []->a.length+1=2 * l.length:=by
 induction h with
 | none=>intro h;exact absurd rfl h
 | one k o=>intro _;rfl
 | two l b x y p q hf _ _ h1 h2=>
  intro _
  have hs:=JfF l b
  obtain ⟨_,u,hu,v,hv,hne⟩:=hf
  have k0:side l b 0 ≠ []:=λe=>by
   have a1:u ∉ side l b 0:=by rw [e];simp
   have a2:v ∉ side l b 0:=by rw [e];simp
   unfold side at a1 a2
   rw [List.mem_filter] at a1 a2
   have b1:=XA u.1 b
   have b2:=XA v.1 b
   simp only [hu,hv,true_and,decide_eq_true_eq] at a1 a2
   omega
  have k1:side l b 1 ≠ []:=λe=>by
   have a1:u ∉ side l b 1:=by rw [e];simp
   have a2:v ∉ side l b 1:=by rw [e];simp
   unfold side at a1 a2
   rw [List.mem_filter] at a1 a2
   have b1:=XA u.1 b
   have b2:=XA v.1 b
   simp only [hu,hv,true_and,decide_eq_true_eq] at a1 a2
   omega
  have e1:=h1 k0
  have e2:=h2 k1
  simp only [Qe,Qp,Qv]
  omega
def Xe:List (List UInt8)->List (List UInt8)->List (List UInt8)
 | acc,[]=>acc
 | acc,x :: r=>Xe (if x∈acc then acc else acc++[x]) r
theorem JaD:∀(l acc:List (List UInt8)),acc.Nodup->(Xe acc l).Nodup/\∀x,x∈Xe acc l↔x∈acc\/x∈l
 | [],acc,h=>⟨h,λx=>by simp [Xe]⟩
 | y :: r,acc,h=>by
  rw [Xe]
  by_cases hy:y∈acc
  ·rw [if_pos hy]
   obtain ⟨h1,h2⟩:=JaD r acc h
   refine ⟨h1,λx=>?_⟩
   rw [h2,List.mem_cons]
   constructor
   ·rintro (h | h)
    ·exact .inl h
    ·exact .inr (.inr h)
   ·rintro (h | rfl | h)
    ·exact .inl h
    ·exact .inl hy
    ·exact .inr h
  ·rw [if_neg hy]
   obtain ⟨h1,h2⟩:=JaD r (acc++[y]) (List.nodup_append.2 ⟨h,by simp,λa ha b hb e=>hy (by rw [Qt] at hb;rw [<-hb,<-e];exact ha)⟩)
   refine ⟨h1,λx=>?_⟩
   rw [h2,QE,Qt,List.mem_cons]
   constructor
   ·rintro ((h | h) | h)
    ·exact .inl h
    ·exact .inr (.inl h)
    ·exact .inr (.inr h)
   ·rintro (h | h | h)
    ·exact .inl (.inl h)
    ·exact .inl (.inr h)
    ·exact .inr h
theorem Jiu {α:Type}:∀(a b:List α),a.Nodup->b.Nodup->(∀x,x∈a↔x∈b)->a.length=b.length:=λ_ _ ha hb h=>((List.perm_ext_iff_of_nodup ha hb).2 h).length_eq

def txtN (n:JL):List UInt8:=if n.1=⟨#[76]⟩ then 76 :: (n.2.1.data.toList++outB n.2.2.1) else if n.1=⟨#[78]⟩ then 78 :: (beL n.2.2.2.1.toNat 2 2++(n.2.2.2.2.1.data.toList++n.2.2.2.2.2.data.toList)) else [69]
theorem Zp (d:List UInt8->BA) (t:Tr):txtN (XD d t)=t.text d:=by
 cases t with
 | leaf k o=>unfold txtN;exact if_pos rfl
 | br b l r=>
  unfold txtN
  exact (if_neg (by show ¬(⟨#[78]⟩:BA)=⟨#[76]⟩;decide)).trans (if_pos rfl)
theorem Yn {wd:Nat} (d:List UInt8->BA):∀(t:Tr),TrOk wd t->(∀x∈JY d t,∃s,x=XD d s/\TrOk wd s/\s.text d∈t.posts d)/\∀y∈t.posts d,∃x∈JY d t,txtN x=y
 | .leaf k o,h=>by
  constructor
  ·intro x hx
   rw [JY,Qt] at hx
   exact ⟨.leaf k o,hx,h,by simp [Tr.posts]⟩
  ·intro y hy
   rw [Tr.posts,Qt] at hy
   exact ⟨XD d (.leaf k o),by simp [JY],by rw [hy];exact Zp d _⟩
 | .br b l r,h=>by
  obtain ⟨l1,l2⟩:=Yn d l h.2.1
  obtain ⟨r1,r2⟩:=Yn d r h.2.2
  constructor
  ·intro x hx
   rw [JY,List.mem_cons,QE] at hx
   rcases hx with hx | hx | hx
   ·exact ⟨.br b l r,hx,h,by simp [Tr.posts]⟩
   ·obtain ⟨s,k1,k2,k3⟩:=l1 x hx
    exact ⟨s,k1,k2,by simp [Tr.posts,k3]⟩
   ·obtain ⟨s,k1,k2,k3⟩:=r1 x hx
    exact ⟨s,k1,k2,by simp [Tr.posts,k3]⟩
  ·intro y hy
   rw [Tr.posts,QE,QE,Qt] at hy
   rcases hy with (hy | hy) | hy
   ·obtain ⟨x,k1,k2⟩:=l2 y hy
    exact ⟨x,by simp [JY,k1],k2⟩
   ·obtain ⟨x,k1,k2⟩:=r2 y hy
    exact ⟨x,by simp [JY,k1],k2⟩
   ·exact ⟨XD d (.br b l r),by simp [JY],by rw [hy];exact Zp d _⟩
theorem Jej:∀(l acc:List JL),acc.Nodup->(l.foldl insN acc).Nodup/\∀x,x∈l.foldl insN acc↔x∈acc\/x∈l
 | [],acc,h=>⟨h,λx=>by simp⟩
 | y :: r,acc,h=>by
  rw [List.foldl_cons]
  by_cases hy:y∈acc
  ·have e:insN acc y=acc:=by unfold insN;exact if_pos hy
   rw [e]
   obtain ⟨h1,h2⟩:=Jej r acc h
   refine ⟨h1,λx=>?_⟩
   rw [h2,List.mem_cons]
   constructor
   ·rintro (h | h)
    ·exact .inl h
    ·exact .inr (.inr h)
   ·rintro (h | rfl | h)
    ·exact .inl h
    ·exact .inl hy
    ·exact .inr h
  ·have e:insN acc y=acc++[y]:=by unfold insN;exact if_neg hy
   rw [e]
   obtain ⟨h1,h2⟩:=Jej r (acc++[y]) (List.nodup_append.2 ⟨h,by simp,λa ha b hb e=>hy (by rw [Qt] at hb;rw [<-hb,<-e];exact ha)⟩)
   refine ⟨h1,λx=>?_⟩
   rw [h2,QE,Qt,List.mem_cons]
   constructor
   ·rintro ((h | h) | h)
    ·exact .inl h
    ·exact .inr (.inl h)
    ·exact .inr (.inr h)
   ·rintro (h | h | h)
    ·exact .inl (.inl h)
    ·exact .inl (.inr h)
    ·exact .inr h
theorem Jea (k a b:Nat) (ha:a<2 ^ (8 * k)) (hb:b<2 ^ (8 * k)) (h:beL a k k=beL b k k):a=b:=by
 have e1:=Jbc a k ha k (Ql _)
 have e2:=Jbc b k hb k (Ql _)
 rw [h] at e1
 rw [e1] at e2
 rw [Nat.sub_self] at e2
 simpa using e2
theorem JkM {wd:Nat} (hw:wd<=32) (s t:Tr) (hs:TrOk wd s) (ht:TrOk wd t) (h:s.text (dgW wd)=t.text (dgW wd)):XD (dgW wd) s=XD (dgW wd) t:=by
 have hd:∀t:Tr,(Tr.dig (dgW wd) t).data.toList.length=wd:=λt=>by rw [Xo];cases t <;> exact Js wd hw _
 cases s with
 | leaf k o=>
  cases t with
  | leaf k' o'=>
   unfold Tr.text at h
   simp only [QH,true_and] at h
   have hl:k.length=k'.length:=by rw [hs.1,ht.1]
   obtain ⟨rfl,h2⟩:=List.append_inj h hl
   unfold outB at h2
   obtain ⟨h3,h4⟩:=List.append_inj h2 (by rw [Je,Je])
   have e1:=Jea 8 o.1 o'.1 hs.2.2.1 ht.2.2.1 h3
   have e2:=Jea 1 o.2 o'.2 hs.2.2.2 ht.2.2.2 h4
   obtain ⟨o1,o2⟩:=o
   obtain ⟨o1',o2'⟩:=o'
   simp only at e1 e2
   rw [e1,e2]
  | br b l r=>unfold Tr.text at h;simp at h
 | br b l r=>
  cases t with
  | leaf k' o'=>unfold Tr.text at h;simp at h
  | br b' l' r'=>
   unfold Tr.text at h
   simp only [QH,true_and] at h
   obtain ⟨h1,h2⟩:=List.append_inj h (by rw [Je,Je])
   obtain ⟨h3,h4⟩:=List.append_inj h2 (by rw [hd,hd])
   have e:=Jea 2 b b' (by have:=hs.1;omega) (by have:=ht.1;omega) h1
   have e3:Tr.dig (dgW wd) l=Tr.dig (dgW wd) l':=by rw [<-strL (Tr.dig (dgW wd) l),h3,strL]
   have e4:Tr.dig (dgW wd) r=Tr.dig (dgW wd) r':=by rw [<-strL (Tr.dig (dgW wd) r),h4,strL]
   rw [XD,XD,e,e3,e4]
theorem JjH {wd:Nat} (hw:wd<=32) (st:Option Tr) (hok:StOk wd st):((JH (dgW wd) st).foldl insN []).length=(Xe [] (JaM (dgW wd) st)).length:=by
 obtain ⟨u1,u2⟩:=Jej (JH (dgW wd) st) [] List.nodup_nil
 obtain ⟨f1,f2⟩:=JaD (JaM (dgW wd) st) [] List.nodup_nil
 have hinj:∀x∈JH (dgW wd) st,∀y∈JH (dgW wd) st,txtN x=txtN y->x=y:=by
  cases st with
  | none=>intro x hx y hy _;rw [JH,Qt] at hx hy;rw [hx,hy]
  | some t=>
   intro x hx y hy e
   obtain ⟨s,rfl,k2,_⟩:=(Yn (dgW wd) t hok).1 x hx
   obtain ⟨s',rfl,m2,_⟩:=(Yn (dgW wd) t hok).1 y hy
   rw [Zp,Zp] at e
   exact JkM hw s s' k2 m2 e
 have hmem:∀y,y∈(JH (dgW wd) st).map txtN↔y∈JaM (dgW wd) st:=by
  cases st with
  | none=>intro y;rw [JH,JaM];rfl
  | some t=>
   intro y
   rw [List.mem_map]
   constructor
   ·rintro ⟨x,hx,rfl⟩
    obtain ⟨s,rfl,_,k3⟩:=(Yn (dgW wd) t hok).1 x hx
    rw [Zp]
    exact k3
   ·intro hy
    exact (Yn (dgW wd) t hok).2 y hy
 have hlm:(((JH (dgW wd) st).foldl insN []).map txtN).length=((JH (dgW wd) st).foldl insN []).length:=List.length_map _
 rw [<-hlm]
 refine Jiu _ _ ?_ f1 λy=>?_
 ·refine List.pairwise_map.2 (List.Pairwise.imp_of_mem ?_ u1)
  intro a b ha hb hne e
  exact hne (hinj a (by simpa using (u2 a).1 ha) b (by simpa using (u2 b).1 hb) e)
 ·rw [f2,List.mem_map]
  constructor
  ·rintro ⟨x,hx,rfl⟩
   exact .inr ((hmem _).1 (List.mem_map.2 ⟨x,by simpa using (u2 x).1 hx,rfl⟩))
  ·rintro (h | h)
   ·simp at h
   ·obtain ⟨x,hx,e⟩:=List.mem_map.1 ((hmem y).2 h)
    exact ⟨x,(u2 x).2 (.inr hx),e⟩
