import Derived.Test.YtighkdnooglfjaaGreatDoorLxStA
namespace Go.Proofs.YtighkdnooglfjaaGreatDoor

variable {e:BA}{n:Jk}{a:List (List UInt8)}{l:List KO}{s:List UInt8}{d:List UInt8->BA}{b wj:Nat}{st st1 st2:Option Tr}{r t u:Tr}{S:Tr->Prop}
def Tr.posts(d:List UInt8->BA):Tr->List (List UInt8)
 | .leaf k o=>[(Tr.leaf k o).text d]
 | .br b l r=>l.posts d++r.posts d++[(Tr.br b l r).text d]
def Xq(d:List UInt8->BA):Option Tr->List (List UInt8)
 | none=>[[69]]
 | some t=>t.posts d
inductive XK (d:List UInt8->BA):List KO->List UInt8->List (List UInt8)->Prop where
 | none:XK d [] [69] [[69]]
 | one (k:Key) (o:Nat×Nat):XK d [(k,o)] (76::(k++outB o)) [76::(k++outB o)]
 | two (l:List KO) (b:Nat) (x y:List UInt8) (p q:List (List UInt8)):Fork l b->XK d (side l b 0) x p->XK d (side l b 1) y q->XK d l (78::(beL b 2 2++((d x).data.toList++(d y).data.toList))) (p++q++[78::(beL b 2 2++((d x).data.toList++(d y).data.toList))])
theorem XK.root(h:XK d l s a):Root d l s:=by
 induction h with
 | none=>exact .none
 | one k o=>exact .one k o
 | two l b x y p q hf _ _ h1 h2=>exact .two l b x y hf h1 h2
theorem XK.of_tree(t:Tr):∀(l:List KO)(s:List UInt8)(a:List (List UInt8)),t.Wf->(∀x,x∈l↔x∈t.coins)->(l.map (·.1)).Nodup->XK d l s a->a=t.posts d:=by
 induction t with
 | leaf k o=>
  intro l s a _ hm hn hr;simp only[Tr.coins,Qt]at hm;have hl:l=[(k,o)]:=by
   match l,hm,hn with
   | [],hm,_=>exact absurd ((hm (k,o)).2 rfl) (by simp)
   | [a],hm,_=>rw[(hm a).1 (by simp)]
   | a::b::r,hm,hn=>
    have e1:=(hm a).1 (by simp);have e2:=(hm b).1 (by simp);simp[e1,e2]at hn
  subst hl
  cases hr with
  | one=>rfl
  | two _ b x y p q hf _ _=>exact absurd hf.two (by simp)
 | br b lt rt ihl ihr=>
  intro l s a hw hm hn hr;have hroot:=Root.of_tree (.br b lt rt) l s hw hm hn hr.root;obtain⟨w1,w2,h0,h1,hs⟩:=hw;have hf:Fork l b:=by obtain⟨x,hx⟩:=List.exists_mem_of_ne_nil _ lt.coins_ne;obtain⟨y,hy⟩:=List.exists_mem_of_ne_nil _ rt.coins_ne;refine⟨λx hx y hy i hi=>hs x ((hm x).1 hx) y ((hm y).1 hy) i hi,x,(hm x).2 (by simp[Tr.coins,hx]),y,(hm y).2 (by simp[Tr.coins,hy]),?_⟩;rw[h0 x hx,h1 y hy];decide
  have hl2:=hf.two
  cases hr with
  | none=>simp at hl2
  | one=>simp at hl2
  | two _ b' x y p q hf' hx hy=>
   obtain rfl:=hf.unique hf';have hx':=ihl (side l b 0) x p w1 (λz=>by
    unfold side;rw[QN,hm];simp only[Tr.coins,QE,decide_eq_true_iff];constructor
    ·rintro⟨h|h,h2⟩
     ·exact h
     ·have:=h1 z h;omega
    ·intro h;exact⟨.inl h,h0 z h⟩) (hn.sublist (List.Sublist.map _ List.filter_sublist)) hx
   have hy':=ihr (side l b 1) y q w2 (λz=>by
    unfold side;rw[QN,hm];simp only[Tr.coins,QE,decide_eq_true_iff];constructor
    ·rintro⟨h|h,h2⟩
     ·have:=h0 z h;omega
     ·exact h
    ·intro h;exact⟨.inr h,h1 z h⟩) (hn.sublist (List.Sublist.map _ List.filter_sublist)) hy
   rw[hroot,hx',hy'];rfl
theorem XK.of_state(hw:∀t,st=some t->t.Wf)(hm:∀x,x∈l↔x∈Jr st)(hn:(l.map (·.1)).Nodup)(hr:XK d l s a):a=Xq d st:=by
 cases st with
 | none=>
  cases l with
  | nil=>cases hr with
   | none=>rfl
   | two _ b x y p q hf _ _=>exact absurd hf.two (by simp)
  | cons a r=>exact absurd ((hm a).1 (by simp)) (by simp[Jr])
 | some t=>exact XK.of_tree t l s a (hw t rfl) hm hn hr
theorem JgO(l:List KO)(b:Nat):(side l b 0).length+(side l b 1).length=l.length:=by
 unfold side
 induction l with
 | nil=>rfl
 | cons x r ih=>
  have h2:bt x.1 b=0\/bt x.1 b=1:=by have:=Yf x.1 b;omega
  rcases h2 with h|h
  ·simp[h]at ih ⊢;omega
  ·simp[h]at ih ⊢;omega
theorem XK.len(h:XK d l s a):l ≠ []->a.length+1=2*l.length:=by
 induction h with
 | none=>intro h;exact absurd rfl h
 | one k o=>intro _;rfl
 | two l b x y p q hf _ _ h1 h2=>
  intro _;have hs:=JgO l b;obtain⟨_,u,hu,v,hv,hne⟩:=hf;have k0:side l b 0 ≠ []:=λe=>by
   have a1:u ∉ side l b 0:=(by rw[e];simp);have a2:v ∉ side l b 0:=(by rw[e];simp);unfold side at a1 a2;rw[QN]at a1 a2;have b1:=Yf u.1 b;have b2:=Yf v.1 b;simp only[hu,hv,true_and,decide_eq_true_eq]at a1 a2;omega
  have k1:side l b 1 ≠ []:=λe=>by
   have a1:u ∉ side l b 1:=(by rw[e];simp);have a2:v ∉ side l b 1:=(by rw[e];simp);unfold side at a1 a2;rw[QN]at a1 a2;have b1:=Yf u.1 b;have b2:=Yf v.1 b;simp only[hu,hv,true_and,decide_eq_true_eq]at a1 a2;omega
  have e1:=h1 k0;have e2:=h2 k1;simp only[Qe,Qp,Qv];omega
theorem Jjy{α:Type}:∀(a b:List α),a.Nodup->b.Nodup->(∀x,x∈a↔x∈b)->a.length=b.length:=λ_ _ ha hb h=>((List.perm_ext_iff_of_nodup ha hb).2 h).length_eq

def txtN(n:Jk):List UInt8:=if n.1=⟨#[76]⟩ then 76::(n.2.1.data.toList++outB n.2.2.1) else if n.1=⟨#[78]⟩ then 78::(beL n.2.2.2.1.toNat 2 2++(n.2.2.2.2.1.data.toList++n.2.2.2.2.2.data.toList)) else [69]
theorem Xg(d:List UInt8->BA)(t:Tr):txtN (JK d t)=t.text d:=by
 cases t with
 | leaf k o=>unfold txtN;exact if_pos rfl
 | br b l r=>
  unfold txtN;exact(if_neg (by show ¬(⟨#[78]⟩:BA)=⟨#[76]⟩;decide)).trans (if_pos rfl)
theorem YT(d:List UInt8->BA):∀(t:Tr),TrOk wj t->(∀x∈Js d t,∃s,x=JK d s/\TrOk wj s/\s.text d∈t.posts d)/\∀y∈t.posts d,∃x∈Js d t,txtN x=y
 | .leaf k o,h=>by
  constructor
  ·intro x hx;rw[Js,Qt]at hx;exact⟨.leaf k o,hx,h,by simp[Tr.posts]⟩
  ·intro y hy;rw[Tr.posts,Qt]at hy;exact⟨JK d (.leaf k o),by simp[Js],by rw[hy];exact Xg d _⟩
 | .br b l r,h=>by
  obtain⟨l1,l2⟩:=YT d l h.2.1;obtain⟨r1,r2⟩:=YT d r h.2.2;constructor
  ·intro x hx;rw[Js,List.mem_cons,QE]at hx
   rcases hx with hx|hx|hx
   ·exact⟨.br b l r,hx,h,by simp[Tr.posts]⟩
   ·obtain⟨s,k1,k2,k3⟩:=l1 x hx;exact⟨s,k1,k2,by simp[Tr.posts,k3]⟩
   ·obtain⟨s,k1,k2,k3⟩:=r1 x hx;exact⟨s,k1,k2,by simp[Tr.posts,k3]⟩
  ·intro y hy;rw[Tr.posts,QE,QE,Qt]at hy
   rcases hy with(hy|hy)|hy
   ·obtain⟨x,k1,k2⟩:=l2 y hy;exact⟨x,by simp[Js,k1],k2⟩
   ·obtain⟨x,k1,k2⟩:=r2 y hy;exact⟨x,by simp[Js,k1],k2⟩
   ·exact⟨JK d (.br b l r),by simp[Js],by rw[hy];exact Xg d _⟩
theorem JeV(k a b:Nat)(ha:a<2 ^ (8*k))(hb:b<2 ^ (8*k))(h:beL a k k=beL b k k):a=b:=by
 have e1:=Jab a k ha k (Ql _);have e2:=Jab b k hb k (Ql _);rw[h]at e1;rw[e1]at e2;rw[Nat.sub_self]at e2;simpa using e2
theorem JlR(hw:wj<=32)(s t:Tr)(hs:TrOk wj s)(ht:TrOk wj t)(h:s.text (dgW wj)=t.text (dgW wj)):JK (dgW wj) s=JK (dgW wj) t:=by
 have hd:∀t:Tr,(Tr.dig (dgW wj) t).data.toList.length=wj:=λt=>by rw[JR];cases t<;>exact Jw wj hw _
 cases s with
 | leaf k o=>
  cases t with
  | leaf k' o'=>
   unfold Tr.text at h;simp only[QH,true_and]at h;have hl:k.length=k'.length:=(by rw[hs.1,ht.1]);obtain⟨rfl,h2⟩:=List.append_inj h hl;unfold outB at h2;obtain⟨h3,h4⟩:=List.append_inj h2 (by rw[Jf,Jf]);have e1:=JeV 8 o.1 o'.1 hs.2.2.1 ht.2.2.1 h3;have e2:=JeV 1 o.2 o'.2 hs.2.2.2 ht.2.2.2 h4;obtain⟨o1,o2⟩:=o;obtain⟨o1',o2'⟩:=o';simp only at e1 e2;rw[e1,e2]
  | br b l r=>unfold Tr.text at h;simp at h
 | br b l r=>
  cases t with
  | leaf k' o'=>unfold Tr.text at h;simp at h
  | br b' l' r'=>
   unfold Tr.text at h;simp only[QH,true_and]at h;obtain⟨h1,h2⟩:=List.append_inj h (by rw[Jf,Jf]);obtain⟨h3,h4⟩:=List.append_inj h2 (by rw[hd,hd]);have e:=JeV 2 b b' (by have:=hs.1;omega) (by have:=ht.1;omega) h1;have e3:Tr.dig (dgW wj) l=Tr.dig (dgW wj) l':=(by rw[<-strL (Tr.dig (dgW wj) l),h3,strL]);have e4:Tr.dig (dgW wj) r=Tr.dig (dgW wj) r':=(by rw[<-strL (Tr.dig (dgW wj) r),h4,strL]);rw[JK,JK,e,e3,e4]

abbrev ByL:=List (BA×Jk)
def Xb(b:ByL)(e:BA):Option Jk:=(b.find? (λq=>decide (q.1=e))).map (·.2)
theorem JbZ{b:ByL}(hd:(b.map (·.1)).Nodup) :Xb b e=some n↔(e,n)∈b:=by
 induction b with
 | nil=>simp[Xb]
 | cons q r ih=>
  obtain⟨q1,q2⟩:=q;rw[List.map_cons,List.nodup_cons]at hd;have ih:=ih hd.2;unfold Xb at ih ⊢;rw[List.find?_cons]
  by_cases h:q1=e
  ·subst h;simp only[decide_true,Option.map_some,Qh,List.mem_cons,Qw,true_and];refine⟨λh=>.inl h.symm,λh=>h.elim (λh=>h.symm) (λh=>absurd (List.mem_map_of_mem (f:=(·.1)) h) hd.1)⟩
  ·simp only[h,decide_false,ih,List.mem_cons,Qw];exact⟨λh=>.inr h,λk=>k.elim (λk=>absurd k.1.symm h) (λk=>k)⟩
theorem Ja8{b:ByL} :Xb b e=none↔e ∉ b.map (·.1):=by
 simp only[Xb,Option.map_eq_none_iff,List.find?_eq_none,decide_eq_true_eq,QK,not_exists,not_and]
structure Spot where
 dg:BA
 nd:Option Jk
 ab:Int
structure Vw where
 met:List BA
 outs:List (BA×(Nat×Nat))
 left:List BA
def Jt(b:ByL)(e:BA)(ab:Int):Spot:=⟨e,Xb b e,ab⟩
def Yb(v : Vw)(s : Spot)(res : Option Vw) : Prop :=
  (s.nd = none /\ res = some ⟨v.met, v.outs, v.left ++ [s.dg]⟩) \/ ∃ n, s.nd = some n /\
    ((s.dg ∈ v.met /\ res = none) \/ (s.dg ∉ v.met /\
      ((n.1 = ⟨#[76]⟩ /\ ((n.2.1 ∈ v.outs.map (·.1) /\ res = none) \/ (n.2.1 ∉ v.outs.map (·.1) /\ res = some ⟨v.met ++ [s.dg], v.outs ++ [(n.2.1, n.2.2.1)], v.left⟩))) \/
       (n.1 = ⟨#[78]⟩ /\ ((n.2.2.2.1 <= s.ab /\ res = none) \/ (s.ab < n.2.2.2.1 /\ res = some ⟨v.met ++ [s.dg], v.outs, v.left⟩))) \/
       (n.1 ≠ ⟨#[76]⟩ /\ n.1 ≠ ⟨#[78]⟩ /\ res = some ⟨v.met ++ [s.dg], v.outs, v.left⟩))))
def Xs(b:ByL)(s:Spot):List Spot:=match s.nd with
 | none=>[]
 | some n=>if n.1=⟨#[78]⟩ then [Jt b n.2.2.2.2.1 n.2.2.2.1,Jt b n.2.2.2.2.2 n.2.2.2.1] else []
inductive JS (b:ByL):List Spot->Vw->Option Vw->Prop where
 | done (v:Vw):JS b [] v (some v)
 | bad (s:Spot) (r:List Spot) (v:Vw):Yb v s none->JS b (s::r) v none
 | step (s:Spot) (r:List Spot) (v v':Vw) (res:Option Vw):Yb v s (some v')->JS b (Xs b s++r) v' res->JS b (s::r) v res
theorem Yb.one{v:Vw}{s:Spot}{x y:Option Vw}(h:Yb v s x)(k:Yb v s y):x=y:=by
 rcases h with⟨h1,rfl⟩|⟨n,h1,h2⟩<;>rcases k with⟨k1,rfl⟩|⟨m,k1,k2⟩
 ·rfl
 ·rw[h1]at k1;cases k1
 ·rw[h1]at k1;cases k1
 ·rw[h1]at k1
  cases k1
  have hne:(⟨#[76]⟩:BA) ≠ ⟨#[78]⟩:=by decide
  rcases h2 with⟨h2,rfl⟩|⟨h2,⟨h3,⟨h4,rfl⟩|⟨h4,rfl⟩⟩|⟨h3,⟨h4,rfl⟩|⟨h4,rfl⟩⟩|⟨h3,h4,rfl⟩⟩ <;>
   rcases k2 with⟨k2,rfl⟩|⟨k2,⟨k3,⟨k4,rfl⟩|⟨k4,rfl⟩⟩|⟨k3,⟨k4,rfl⟩|⟨k4,rfl⟩⟩|⟨k3,k4,rfl⟩⟩ <;>
   first|rfl|exact absurd h2 k2|exact absurd k2 h2|exact absurd h4 k4|exact absurd k4 h4|exact absurd h3 k3|exact absurd k3 h3|exact absurd (h3.symm.trans k3) hne|exact absurd (k3.symm.trans h3) hne|exact absurd h3 k4|exact absurd k3 h4|(exfalso;omega)
theorem JS.go{b:ByL}{s:Spot}{r:List Spot}{v v':Vw}{res:Option Vw}(h:JS b (s::r) v res)(k:Yb v s (some v')):JS b (Xs b s++r) v' res:=by
 cases h with
 | bad _ _ _ h=>cases h.one k
 | step _ _ _ _ _ h1 h2=>cases h1.one k;exact h2
theorem JS.end{b:ByL}{v:Vw}{res:Option Vw}(h:JS b [] v res):res=some v:=by cases h;rfl
def Tr.subs:Tr->List Tr
 | .leaf k o=>[.leaf k o]
 | .br b l r=>.br b l r::(l.subs++r.subs)
theorem Xt(d:List UInt8->BA):∀t:Tr,Js d t=t.subs.map (JK d)
 | .leaf _ _=>rfl
 | .br _ l r=>by simp[Js,Tr.subs,Xt d l,Xt d r]
theorem Tr.self_mem(t:Tr):t∈t.subs:=by cases t<;>simp[subs]
theorem Tr.subs_trans:∀{t s u:Tr},s∈t.subs->u∈s.subs->u∈t.subs
 | .leaf _ _,s,u,hs,hu=>by
  rw[subs,Qt]at hs;rw[hs]at hu;exact hu
 | .br b l r,s,u,hs,hu=>by
  rw[subs,List.mem_cons,QE]at hs
  rcases hs with rfl|hs|hs
  ·exact hu
  ·rw[subs,List.mem_cons,QE];exact .inr (.inl (subs_trans hs hu))
  ·rw[subs,List.mem_cons,QE];exact .inr (.inr (subs_trans hs hu))
def Tr.sz:Tr->Nat
 | .leaf _ _=>1
 | .br _ l r=>1+l.sz+r.sz
theorem Tr.subs_size:∀{t s:Tr},s∈t.subs->s.sz<=t.sz
 | .leaf _ _,s,hs=>by
  rw[subs,Qt]at hs;rw[hs];exact Ql _
 | .br b l r,s,hs=>by
  rw[subs,List.mem_cons,QE]at hs
  rcases hs with rfl|hs|hs
  ·exact Ql _
  ·have:=subs_size hs;rw[Tr.sz];omega
  ·have:=subs_size hs;rw[Tr.sz];omega
theorem Tr.subs_coins:∀{t s:Tr},s∈t.subs->∀x∈s.coins,x∈t.coins
 | .leaf _ _,s,hs,x,hx=>by
  rw[subs,Qt]at hs
  rwa [hs]at hx
 | .br b l r,s,hs,x,hx=>by
  rw[subs,List.mem_cons,QE]at hs
  rcases hs with rfl|hs|hs
  ·exact hx
  ·rw[coins,QE];exact .inl (subs_coins hs x hx)
  ·rw[coins,QE];exact .inr (subs_coins hs x hx)
theorem Tr.apart{l s:Tr}(h:(Tr.br b l r).Wf)(hs:s∈l.subs)(hu:u∈r.subs):s ≠ u:=by
 rintro rfl;obtain⟨x,hx⟩:=List.exists_mem_of_ne_nil _ s.coins_ne;have h1:=h.2.2.1 x (subs_coins hs x hx);have h2:=h.2.2.2.1 x (subs_coins hu x hx);omega
theorem Tr.subs_nodup:∀{t:Tr},t.Wf->t.subs.Nodup
 | .leaf _ _,_=>by simp[subs]
 | .br b l r,h=>by
  rw[subs,List.nodup_cons,List.nodup_append,QE];refine⟨λk=>?_,subs_nodup h.1,subs_nodup h.2.1,λs hs u hu=>apart h hs hu⟩
  rcases k with k|k
  ·have:=subs_size k;rw[Tr.sz]at this;omega
  ·have:=subs_size k;rw[Tr.sz]at this;omega
theorem Tr.keys_nodup:∀{t:Tr},t.Wf->(t.coins.map (·.1)).Nodup
 | .leaf _ _,_=>by simp[coins]
 | .br b l r,h=>by
  rw[coins,List.map_append,List.nodup_append];refine⟨keys_nodup h.1,keys_nodup h.2.1,?_⟩;rintro k hk k' hk' rfl;obtain⟨x,hx,rfl⟩:=QK.1 hk;obtain⟨y,hy,e⟩:=QK.1 hk';have h1:=h.2.2.1 x hx;have h2:=h.2.2.2.1 y hy;rw[e]at h2;omega
theorem Tr.bit_l{b':Nat}{l l' r':Tr}(h:(Tr.br b l r).Wf)(he:l=.br b' l' r'\/r=.br b' l' r'):b<b':=by
 have hw:(Tr.br b' l' r').Wf:=by rcases he with e|e<;>rw[<-e];exact h.1;exact h.2.1
 obtain⟨x,hx⟩:=List.exists_mem_of_ne_nil _ l'.coins_ne;obtain⟨y,hy⟩:=List.exists_mem_of_ne_nil _ r'.coins_ne;have a1:=hw.2.2.1 x hx;have a2:=hw.2.2.2.1 y hy;have hx':x∈(Tr.br b' l' r').coins:=by rw[coins,QE];exact .inl hx
 have hy':y∈(Tr.br b' l' r').coins:=by rw[coins,QE];exact .inr hy
 have hne:b' ≠ b:=by
  rintro rfl
  rcases he with e|e
  ·have:=h.2.2.1 y (by rw[e];exact hy');omega
  ·have:=h.2.2.2.1 x (by rw[e];exact hx');omega
 have hge:¬b'<b:=λk=>by
  have hx2:x∈l.coins++r.coins:=by rw[QE];rcases he with e|e;exact .inl (by rw[e];exact hx');exact .inr (by rw[e];exact hx')
  have hy2:y∈l.coins++r.coins:=by rw[QE];rcases he with e|e;exact .inl (by rw[e];exact hy');exact .inr (by rw[e];exact hy')
  have:=h.2.2.2.2 x hx2 y hy2 b' k;omega
 omega
def Tr.kids(d:List UInt8->BA):Tr->List BA
 | .leaf _ _=>[]
 | .br _ l r=>[l.dig d,r.dig d]
theorem Tr.kids_all(d:List UInt8->BA):∀t:Tr,(t.dig d::t.subs.flatMap (kids d)).Perm (t.subs.map (Tr.dig d))
 | .leaf k o=>by simp[subs,kids]
 | .br b l r=>by
  simp only[subs,QG,List.flatMap_append,List.map_cons,List.map_append];refine List.Perm.cons _ ?_;have h1:=kids_all d l;have h2:=kids_all d r;refine List.Perm.trans ?_ (h1.append h2);simp only[kids,List.cons_append,List.nil_append];exact List.Perm.cons _ (List.perm_middle.symm)
theorem Tr.leaf_mem:∀{t:Tr} {x:Key×(Nat×Nat)},x∈t.coins->Tr.leaf x.1 x.2∈t.subs
 | .leaf k o,x,hx=>by
  rw[coins,Qt]at hx;rw[hx];exact self_mem _
 | .br b l r,x,hx=>by
  rw[coins,QE]at hx;rw[subs,List.mem_cons,QE];exact .inr (hx.imp leaf_mem leaf_mem)
structure Told(d:List UInt8->BA)(b:ByL)(S:Tr->Prop)(t:Tr):Prop where
 wf:t.Wf
 no:∀u∈t.subs,S u->Xb b (u.dig d)=none
 yes:∀u∈t.subs,¬S u->Xb b (u.dig d)=some (JK d u)
 inj:∀u∈t.subs,∀v∈t.subs,u.dig d=v.dig d->u=v
 low:∀u∈t.subs,S u->∀v∈u.subs,S v
theorem Told.sub{b:ByL}{s:Tr}(h:Told d b S t)(hw:s.Wf)(hs:∀u∈s.subs,u∈t.subs):Told d b S s:=
 ⟨hw,λu hu=>h.no u (hs u hu),λu hu=>h.yes u (hs u hu),λu hu v hv=>h.inj u (hs u hu) v (hs v hv),λu hu=>h.low u (hs u hu)⟩
structure Seen(d:List UInt8->BA)(b:ByL)(S:Tr->Prop)(t:Tr)(m:List BA)(o:List (BA×(Nat×Nat)))(l:List BA)(C:List Tr):Prop where
 met:∀e,e∈m↔∃u∈t.subs,¬S u/\e=u.dig d
 outs:∀q,q∈o↔∃x∈t.coins,¬S (.leaf x.1 x.2)/\q=(⟨x.1.toArray⟩,x.2)
 both:∀u,u∈C↔u∈t.subs/\S u
 once:C.Nodup
 left:(l++C.flatMap (Tr.kids d)).Perm (C.map (Tr.dig d))
 walk:∀(ab:Int)(r:List Spot)(v:Vw)(res:Option Vw),(∀u∈t.subs,u.dig d ∉ v.met)->(∀x∈t.coins,(⟨x.1.toArray⟩:BA) ∉ v.outs.map (·.1))->(∀b' l' r',t=.br b' l' r'->ab<(b':Int))->JS b (Jt b (t.dig d) ab::r) v res->JS b r ⟨v.met++m,v.outs++o,v.left++l⟩ res
theorem ZH{k k':Key}(h:(⟨k.toArray⟩:BA)=⟨k'.toArray⟩):k=k':=by
 have:=congrArg (λz=>z.data.toList) h;simpa using this
theorem Told.shared{b:ByL}(h:Told d b S t)(hs:S t):Seen d b S t [] [] [t.dig d] t.subs:=by
 have hall:∀u∈t.subs,S u:=h.low t t.self_mem hs;refine⟨λe=>⟨λk=>(by cases k),λ⟨u,hu,k,_⟩=>absurd (hall u hu) k⟩,λq=>⟨λk=>(by cases k),λ⟨x,hx,k,_⟩=>absurd (hall _ (Tr.leaf_mem hx)) k⟩,λu=>⟨λk=>⟨k,hall u k⟩,λk=>k.1⟩,Tr.subs_nodup h.wf,Tr.kids_all d t,λab r v res _ _ _ hk=>?_⟩;have hn:(Jt b (t.dig d) ab).nd=none:=h.no t t.self_mem hs;have:=hk.go (v':=⟨v.met,v.outs,v.left++[t.dig d]⟩) (.inl ⟨hn,rfl⟩);have hb:Xs b (Jt b (t.dig d) ab)=[]:=by unfold Xs;rw[hn]
 rw[hb,List.nil_append]at this;simpa using this
theorem Told.seen{b:ByL} :∀{t:Tr},Told d b S t->∃m o l C,Seen d b S t m o l C:=by
 intro t
 induction t with
 | leaf k o=>
  intro h
  rcases Classical.em (S (.leaf k o)) with hs|hs
  ·exact⟨_,_,_,_,h.shared hs⟩
  ·have hy:=h.yes _ (Tr.self_mem _) hs;refine⟨[(Tr.leaf k o).dig d],[(⟨k.toArray⟩,o)],[],[],λe=>?_,λq=>?_,λu=>?_,List.nodup_nil,by simp,λab r v res h1 h2 _ hk=>?_⟩
   ·rw[Qt];refine⟨λe=>⟨_,Tr.self_mem _,hs,e⟩,?_⟩;rintro⟨u,hu,_,rfl⟩;rw[Tr.subs,Qt]at hu;rw[hu]
   ·rw[Qt];refine⟨λe=>⟨(k,o),by simp[Tr.coins],hs,e⟩,?_⟩;rintro⟨x,hx,_,rfl⟩;rw[Tr.coins,Qt]at hx;rw[hx]
   ·rw[Tr.subs,Qt];exact⟨λk=>(by cases k),λk=>absurd (k.1 ▸ k.2) hs⟩
   ·have:=hk.go (v':=⟨v.met++[(Tr.leaf k o).dig d],v.outs++[(⟨k.toArray⟩,o)],v.left⟩) (.inr ⟨_,hy,.inr ⟨h1 _ (Tr.self_mem _),.inl ⟨rfl,.inr ⟨h2 (k,o) (by simp[Tr.coins]),rfl⟩⟩⟩⟩);have hb:Xs b (Jt b ((Tr.leaf k o).dig d) ab)=[]:=(by unfold Xs Jt;simp only[hy];rfl);rw[hb,List.nil_append]at this;simpa using this
 | br bit l r ihl ihr=>
  intro h
  rcases Classical.em (S (.br bit l r)) with hs|hs
  ·exact⟨_,_,_,_,h.shared hs⟩
  ·have hy:=h.yes _ (Tr.self_mem _) hs;have hsl:∀u∈l.subs,u∈(Tr.br bit l r).subs:=λu hu=>by rw[Tr.subs,List.mem_cons,QE];exact .inr (.inl hu)
   have hsr:∀u∈r.subs,u∈(Tr.br bit l r).subs:=λu hu=>by rw[Tr.subs,List.mem_cons,QE];exact .inr (.inr hu)
   have hcl:∀x∈l.coins,x∈(Tr.br bit l r).coins:=λx hx=>by rw[Tr.coins,QE];exact .inl hx
   have hcr:∀x∈r.coins,x∈(Tr.br bit l r).coins:=λx hx=>by rw[Tr.coins,QE];exact .inr hx
   have hnl:∀u∈l.subs++r.subs,Tr.br bit l r ≠ u:=λu hu e=>by
    rw[<-e]at hu
    rcases QE.1 hu with k|k
    ·have:=Tr.subs_size k;rw[Tr.sz]at this;omega
    ·have:=Tr.subs_size k;rw[Tr.sz]at this;omega
   obtain⟨m1,o1,l1,C1,A⟩:=ihl (h.sub h.wf.1 hsl);obtain⟨m2,o2,l2,C2,B⟩:=ihr (h.sub h.wf.2.1 hsr);refine⟨(Tr.br bit l r).dig d::(m1++m2),o1++o2,l1++l2,C1++C2,λe=>?_,λq=>?_,λu=>?_,?_,?_,λab rr v res h1 h2 h3 hk=>?_⟩
   ·rw[List.mem_cons,QE,A.met,B.met];constructor
    ·rintro(rfl|⟨u,hu,k,rfl⟩|⟨u,hu,k,rfl⟩)
     ·exact⟨_,Tr.self_mem _,hs,rfl⟩
     ·exact⟨u,hsl u hu,k,rfl⟩
     ·exact⟨u,hsr u hu,k,rfl⟩
    ·rintro⟨u,hu,k,rfl⟩;rw[Tr.subs,List.mem_cons,QE]at hu
     rcases hu with rfl|hu|hu
     ·exact .inl rfl
     ·exact .inr (.inl ⟨u,hu,k,rfl⟩)
     ·exact .inr (.inr ⟨u,hu,k,rfl⟩)
   ·rw[QE,A.outs,B.outs];constructor
    ·rintro(⟨x,hx,k,rfl⟩|⟨x,hx,k,rfl⟩)
     ·exact⟨x,hcl x hx,k,rfl⟩
     ·exact⟨x,hcr x hx,k,rfl⟩
    ·rintro⟨x,hx,k,rfl⟩;rw[Tr.coins,QE]at hx;exact hx.imp (λhx=>⟨x,hx,k,rfl⟩) (λhx=>⟨x,hx,k,rfl⟩)
   ·rw[QE,A.both,B.both,Tr.subs,List.mem_cons,QE];constructor
    ·rintro(k|k)
     ·exact⟨.inr (.inl k.1),k.2⟩
     ·exact⟨.inr (.inr k.1),k.2⟩
    ·rintro⟨rfl|k|k,k2⟩
     ·exact absurd k2 hs
     ·exact .inl ⟨k,k2⟩
     ·exact .inr ⟨k,k2⟩
   ·rw[List.nodup_append];exact⟨A.once,B.once,λu hu v hv=>Tr.apart h.wf ((A.both u).1 hu).1 ((B.both v).1 hv).1⟩
   ·rw[List.flatMap_append,List.map_append];refine List.Perm.trans ?_ (A.left.append B.left);rw[Qs,Qs];refine List.Perm.append_left _ ?_;rw[<-Qs,<-Qs];exact List.Perm.append_right _ List.perm_append_comm
   ·have e1:=hk.go (v':=⟨v.met++[(Tr.br bit l r).dig d],v.outs,v.left⟩) (.inr ⟨_,hy,.inr ⟨h1 _ (Tr.self_mem _),.inr (.inl ⟨rfl,.inr ⟨h3 _ _ _ rfl,rfl⟩⟩)⟩⟩);have hb:Xs b (Jt b ((Tr.br bit l r).dig d) ab)=[Jt b (l.dig d) (bit:Int),Jt b (r.dig d) (bit:Int)]:=by
     unfold Xs;rw[show (Jt b ((Tr.br bit l r).dig d) ab).nd=some (JK d (.br bit l r)) from hy];rfl
    rw[hb]at e1;have e2:=A.walk bit _ ⟨v.met++[(Tr.br bit l r).dig d],v.outs,v.left⟩ _ (λu hu=>?_) (λx hx=>h2 x (hcl x hx)) (λb' l' r' e=>by have:=Tr.bit_l h.wf (.inl e);omega) e1
    ·have e3:=B.walk bit _ ⟨v.met++[(Tr.br bit l r).dig d]++m1,v.outs++o1,v.left++l1⟩ _ (λu hu=>?_) (λx hx=>?_) (λb' l' r' e=>by have:=Tr.bit_l h.wf (.inr e);omega) e2
     ·simpa using e3
     ·simp only[QE,Qt,not_or];refine⟨⟨h1 u (hsr u hu),λe=>hnl u (QE.2 (.inr hu)) (h.inj _ (hsr u hu) _ (Tr.self_mem _) e).symm⟩,λk=>?_⟩;obtain⟨z,hz,_,e⟩:=(A.met _).1 k;exact Tr.apart h.wf hz hu (h.inj _ (hsr u hu) _ (hsl z hz) e).symm
     ·simp only[List.map_append,QE,not_or];refine⟨h2 x (hcr x hx),λk=>?_⟩;obtain⟨q,hq,e⟩:=QK.1 k;obtain⟨y,hy2,_,rfl⟩:=(A.outs q).1 hq;have e':=ZH e;have a1:=h.wf.2.2.1 y hy2;have a2:=h.wf.2.2.2.1 x hx;rw[e']at a1;omega
    ·simp only[QE,Qt,not_or];exact⟨h1 u (hsl u hu),λe=>hnl u (QE.2 (.inl hu)) (h.inj _ (hsl u hu) _ (Tr.self_mem _) e).symm⟩
def JbD:Option Tr->List Tr
 | none=>[]
 | some t=>t.subs
theorem Jdj{x:Key×(Nat×Nat)}:Tr.leaf x.1 x.2∈JbD st↔x∈Jr st:=by
 cases st with
 | none=>simp[JbD,Jr]
 | some t=>exact⟨λh=>Tr.subs_coins h x (by simp[Tr.coins]),λh=>Tr.leaf_mem h⟩
theorem JeB{P:Jk->Prop}(hP:∀x y,P x->P y->d (txtN x)=d (txtN y)->x=y):∀(s u:Tr),(∀x∈Js d s,P x)->(∀x∈Js d u,P x)->JK d s=JK d u->s=u:=by
 intro s
 induction s with
 | leaf k o=>
  intro u _ _ h
  cases u with
  | leaf k' o'=>
   simp only[JK,Qw,true_and,and_true]at h;rw[ZH h.1,h.2]
  | br b l r=>simp[JK]at h
 | br b l r ihl ihr=>
  intro u hs hu h
  cases u with
  | leaf k' o'=>simp[JK]at h
  | br b' l' r'=>
   simp only[JK,Qw,true_and]at h;have key:∀(x y:Tr),(∀z∈Js d x,P z)->(∀z∈Js d y,P z)->x.dig d=y.dig d->JK d x=JK d y:=λx y hx hy e=>by
    refine hP _ _ (hx _ ?_) (hy _ ?_) ?_
    ·rw[Xt];exact List.mem_map_of_mem x.self_mem
    ·rw[Xt];exact List.mem_map_of_mem y.self_mem
    ·rw[Xg,Xg,<-Tr.dig_text d x,<-Tr.dig_text d y];exact e
   have a1:∀z∈Js d l,P z:=λz hz=>hs z (by simp[Js,hz]);have a2:∀z∈Js d r,P z:=λz hz=>hs z (by simp[Js,hz]);have b1:∀z∈Js d l',P z:=λz hz=>hu z (by simp[Js,hz]);have b2:∀z∈Js d r',P z:=λz hz=>hu z (by simp[Js,hz]);rw[ihl l' a1 b1 (key l l' a1 b1 h.2.1),ihr r' a2 b2 (key r r' a2 b2 h.2.2),show b=b' by omega]
structure Yr(d:List UInt8->BA)(b:ByL)(st1 st2:Option Tr):Prop where
 nd:(b.map (·.1)).Nodup
 tell:∀e n,(e,n)∈b↔e=d (txtN n)/\((n∈Jd d st1/\n ∉ Jd d st2)\/(n ∉ Jd d st1/\n∈Jd d st2))
 inj:∀x y,x∈Jd d st1\/x∈Jd d st2->y∈Jd d st1\/y∈Jd d st2->d (txtN x)=d (txtN y)->x=y
 wf1:∀t,st1=some t->t.Wf
 wf2:∀t,st2=some t->t.Wf
theorem Yr.symm{b:ByL}(h:Yr d b st1 st2):Yr d b st2 st1:=
 ⟨h.nd,λe n=>by rw[h.tell e n];exact⟨λk=>⟨k.1,k.2.symm.imp (λk=>⟨k.2,k.1⟩) (λk=>⟨k.2,k.1⟩)⟩,λk=>⟨k.1,k.2.symm.imp (λk=>⟨k.2,k.1⟩) (λk=>⟨k.2,k.1⟩)⟩⟩,λx y hx hy=>h.inj x y hx.symm hy.symm,h.wf2,h.wf1⟩
theorem Yr.get{b:ByL}(h:Yr d b st1 st2)(hn:n∈Jd d st1):(n ∉ Jd d st2->Xb b (d (txtN n))=some n)/\(n∈Jd d st2->Xb b (d (txtN n))=none):=by
 refine⟨λk=>(JbZ h.nd).2 ((h.tell _ _).2 ⟨rfl,.inl ⟨hn,k⟩⟩),λk=>Ja8.2 λhm=>?_⟩;obtain⟨⟨e,n'⟩,hq,he⟩:=QK.1 hm;obtain⟨e1,h2⟩:=(h.tell _ _).1 hq;have:n'=n:=h.inj _ _ (h2.imp (λk=>k.1) (λk=>k.2)) (.inl hn) (e1.symm.trans he);subst this
 rcases h2 with h2|h2
 ·exact h2.2 k
 ·exact h2.1 hn
theorem Yr.mem{b:ByL}(h:Yr d b (some t) st2)(hu:u∈t.subs):JK d u∈Jd d st2↔u∈JbD st2:=by
 cases st2 with
 | none=>
  simp only[Jd,JbD,Qt,QD,iff_false]
  cases u<;>simp[JK]
 | some s=>
  simp only[Jd,JbD];rw[Xt,QK];constructor
  ·rintro⟨v,hv,e⟩;have:v=u:=JeB (P:=λx=>x∈Js d t\/x∈Js d s) h.inj v u (λx hx=>.inr ?_) (λx hx=>.inl ?_) e
   ·rwa [<-this]
   ·rw[Xt]at hx ⊢;obtain⟨z,hz,rfl⟩:=QK.1 hx;exact List.mem_map_of_mem (Tr.subs_trans hv hz)
   ·rw[Xt]at hx ⊢;obtain⟨z,hz,rfl⟩:=QK.1 hx;exact List.mem_map_of_mem (Tr.subs_trans hu hz)
  ·exact λh=>⟨u,h,rfl⟩
theorem Yr.told{b:ByL}(h:Yr d b (some t) st2):Told d b (λu=>u∈JbD st2) t:=by
 have hin:∀u∈t.subs,JK d u∈Jd d (some t):=λu hu=>by simp only[Jd];rw[Xt];exact List.mem_map_of_mem hu
 have ed:∀u:Tr,d (txtN (JK d u))=u.dig d:=λu=>by rw[Xg,<-Tr.dig_text d u]
 refine⟨h.wf1 t rfl,λu hu k=>?_,λu hu k=>?_,λu hu v hv e=>?_,λu hu k v hv=>?_⟩
 ·have:=(h.get (hin u hu)).2 ((h.mem hu).2 k)
  rwa [ed]at this
 ·have:=(h.get (hin u hu)).1 (λk2=>k ((h.mem hu).1 k2))
  rwa [ed]at this
 ·have:=h.inj _ _ (.inl (hin u hu)) (.inl (hin v hv)) (by rw[ed,ed];exact e);refine JeB (P:=λx=>x∈Js d t) (λx y hx hy=>h.inj x y (.inl hx) (.inl hy)) u v (λx hx=>?_) (λx hx=>?_) this
  ·rw[Xt]at hx ⊢;obtain⟨z,hz,rfl⟩:=QK.1 hx;exact List.mem_map_of_mem (Tr.subs_trans hu hz)
  ·rw[Xt]at hx ⊢;obtain⟨z,hz,rfl⟩:=QK.1 hx;exact List.mem_map_of_mem (Tr.subs_trans hv hz)
 ·cases st2 with
  | none=>cases k
  | some s=>exact Tr.subs_trans k hv
structure JfJ(d:List UInt8->BA)(b:ByL)(st1 st2:Option Tr)(v:Vw):Prop where
 walk:∀res,JS b [Jt b (JU d st1) (-1)] ⟨[],[],[]⟩ res->res=some v
 met:∀n∈Jd d st1,n ∉ Jd d st2->d (txtN n)∈v.met
 outs:∀q,q∈v.outs↔∃x∈Jr st1,x ∉ Jr st2/\q=(⟨x.1.toArray⟩,x.2)
 left:(st1=none/\st2=none/\v.left=[d [69]])\/((st1 ≠ none\/st2 ≠ none)/\∃C:List Tr,C.Nodup/\(∀u,u∈C↔u∈JbD st1/\u∈JbD st2)/\(v.left++C.flatMap (Tr.kids d)).Perm (C.map (Tr.dig d)))
theorem Yr.seen{b:ByL}(h:Yr d b st1 st2):∃v,JfJ d b st1 st2 v:=by
 cases st1 with
 | some t=>
  obtain⟨m,o,l,C,k⟩:=h.told.seen;refine⟨⟨m,o,l⟩,λres hr=>?_,λn hn k2=>?_,λq=>?_,.inr ⟨.inl (by simp),C,k.once,k.both,k.left⟩⟩
  ·have:=k.walk (-1) [] ⟨[],[],[]⟩ res (by simp) (by simp) (λb' _ _ _=>by omega) hr;simpa using this.end
  ·simp only[Jd]at hn;rw[Xt]at hn;obtain⟨u,hu,rfl⟩:=QK.1 hn;exact(k.met _).2 ⟨u,hu,λk3=>k2 ((h.mem hu).2 k3),by rw[Xg,<-Tr.dig_text d u]⟩
  ·rw[k.outs];constructor
   ·rintro⟨x,hx,h1,rfl⟩;exact⟨x,hx,λk=>h1 (Jdj.2 k),rfl⟩
   ·rintro⟨x,hx,h1,rfl⟩;exact⟨x,hx,λk=>h1 (Jdj.1 k),rfl⟩
 | none=>
  have hg:=h.get (n:=(⟨#[69]⟩,⟨#[]⟩,(0,0),0,⟨#[]⟩,⟨#[]⟩)) (by simp[Jd]);have et:txtN (⟨#[69]⟩,⟨#[]⟩,(0,0),0,⟨#[]⟩,⟨#[]⟩)=[69]:=rfl;rw[et]at hg
  cases st2 with
  | none=>
   have hn:=hg.2 (by simp[Jd]);refine⟨⟨[],[],[d [69]]⟩,λres hr=>?_,λn hn k2=>absurd hn k2,λq=>by simp[Jr],.inl ⟨rfl,rfl,rfl⟩⟩;have:=hr.go (v':=⟨[],[],[]++[d [69]]⟩) (.inl ⟨hn,rfl⟩);have hb:Xs b (Jt b (JU d none) (-1))=[]:=(by unfold Xs;rw[show (Jt b (JU d none) (-1)).nd=none from hn]);rw[hb]at this;exact this.end
  | some s=>
   have hn:=hg.1 (by
    simp only[Jd];rw[Xt,QK];rintro⟨u,_,e⟩
    cases u<;>simp[JK]at e)
   refine⟨⟨[d [69]],[],[]⟩,λres hr=>?_,λn hn k2=>?_,λq=>by simp[Jr],.inr ⟨.inr (by simp),[],List.nodup_nil,by simp[JbD],by simp⟩⟩
   ·have:=hr.go (v':=⟨[]++[d [69]],[],[]⟩) (.inr ⟨_,hn,.inr ⟨by simp,.inr (.inr ⟨by decide,by decide,rfl⟩)⟩⟩);have hb:Xs b (Jt b (JU d none) (-1))=[]:=(by unfold Xs;rw[show (Jt b (JU d none) (-1)).nd=some _ from hn];rfl);rw[hb]at this;exact this.end
   ·simp only[Jd,Qt]at hn;rw[hn,et];simp
theorem Yr.left{b:ByL}{v1 v2:Vw}(h1:JfJ d b st1 st2 v1)(h2:JfJ d b st2 st1 v2):v1.left.Perm v2.left:=by
 rcases h1.left with⟨rfl,rfl,e1⟩|⟨hn,C,c1,c2,c3⟩
 ·rcases h2.left with⟨_,_,e2⟩|⟨hn,_⟩
  ·rw[e1,e2]
  ·exact absurd rfl (hn.elim id id)
 ·rcases h2.left with⟨rfl,rfl,e2⟩|⟨_,D,d1,d2,d3⟩
  ·exact absurd rfl (hn.elim id id)
  ·have p:C.Perm D:=(List.perm_ext_iff_of_nodup c1 d1).2 λu=>by rw[c2,d2];exact And.comm
   have q:=(c3.trans (p.map _)).trans d3.symm;exact(List.perm_append_right_iff _).1 (q.trans (List.Perm.append_left _ ((p.flatMap_right _).symm)))
theorem Yr.met{b:ByL}{v1 v2:Vw}(h:Yr d b st1 st2)(h1:JfJ d b st1 st2 v1)(h2:JfJ d b st2 st1 v2):∀e∈b.map (·.1),e∈v1.met\/e∈v2.met:=by
 intro e he;obtain⟨⟨e,n⟩,hq,rfl⟩:=QK.1 he;obtain⟨rfl,k⟩:=(h.tell _ _).1 hq;exact k.imp (λk=>h1.met n k.1 k.2) (λk=>h2.met n k.2 k.1)
