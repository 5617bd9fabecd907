import Derived.Test.YtighkdnooglfjaaGreatDoorTcLst
namespace Go.Proofs.YtighkdnooglfjaaGreatDoor


def bt (k:List UInt8) (i:Nat):Nat:=(k.getD (i / 8) 0).toNat / 2 ^ (7 - i % 8) % 2
theorem Xz (k:List UInt8) (i:Nat):bt k i<2:=Nat.mod_lt _ (by decide)
abbrev Key:=List UInt8
structure Tr where
 of ::
 v:(Key×(Nat×Nat)) ⊕ (Nat×Tr×Tr)
abbrev Tr.leaf (key:Key) (out:Nat×Nat):Tr:=⟨.inl (key,out)⟩
abbrev Tr.br (bit:Nat) (l r:Tr):Tr:=⟨.inr (bit,l,r)⟩
theorem Tr.ri {motive:Tr->Prop} (leaf:∀key out,motive (.leaf key out)) (br:∀bit l r,motive l->motive r->motive (.br bit l r)):∀t,motive t
 | ⟨.inl (k,o)⟩=>leaf k o
 | ⟨.inr (b,l,r)⟩=>br b l r (Tr.ri leaf br l) (Tr.ri leaf br r)
def Tr.coins:Tr->List (Key×(Nat×Nat))
 | ⟨.inl (k,o)⟩=>[(k,o)]
 | ⟨.inr (_,l,r)⟩=>l.coins++r.coins
def Tr.near (k:Key):Tr->Key×(Nat×Nat)
 | ⟨.inl (k',o)⟩=>(k',o)
 | ⟨.inr (b,l,r)⟩=>if bt k b=0 then l.near k else r.near k
def Tr.pair (n one:Tr) (b at_:Nat):Tr:=if at_=0 then .br b one n else .br b n one
def Tr.graft (k:Key) (o:Nat×Nat) (d:Nat):Tr->Tr
 | ⟨.inl (k',o')⟩=>Tr.pair (.leaf k' o') (.leaf k o) d (bt k d)
 | ⟨.inr (b,l,r)⟩=>if d<b then Tr.pair (.br b l r) (.leaf k o) d (bt k d) else if bt k b=0 then .br b (l.graft k o d) r else .br b l (r.graft k o d)
def Tr.cut (k:Key):Tr->Option Tr
 | ⟨.inl (_,_)⟩=>none
 | ⟨.inr (b,l,r)⟩=>if bt k b=0 then (match l.cut k with | none=>some r | some l'=>some (.br b l' r)) else (match r.cut k with | none=>some l | some r'=>some (.br b l r'))
def Tr.Wf:Tr->Prop
 | ⟨.inl (_,_)⟩=>True
 | ⟨.inr (b,l,r)⟩=>l.Wf/\r.Wf/\(∀x∈l.coins,bt x.1 b=0)/\(∀x∈r.coins,bt x.1 b=1)/\∀x∈l.coins++r.coins,∀y∈l.coins++r.coins,∀i,i<b->bt x.1 i=bt y.1 i
theorem Tr.coins_ne (t:Tr):t.coins ≠ []:=by
 induction t using Tr.ri with
 | leaf=>simp [coins]
 | br b l r ihl ihr=>simp [coins,ihl]
theorem Tr.near_mem (k:Key) (t:Tr):t.near k∈t.coins:=by
 induction t using Tr.ri with
 | leaf=>simp [near,coins]
 | br b l r ihl ihr=>simp only [near,coins,QE];split <;> simp [*]
theorem Tr.near_of_mem (k:Key) (o:Nat×Nat) (t:Tr) (hw:t.Wf) (h:(k,o)∈t.coins):t.near k=(k,o):=by
 induction t using Tr.ri with
 | leaf=>simp only [coins,Qt] at h;rw [h];rfl
 | br b l r ihl ihr=>
  obtain ⟨w1,w2,h0,h1,_⟩:=hw
  simp only [coins,QE] at h
  simp only [near]
  rcases h with h | h
  ·have:=h0 _ h;simp only at this;rw [if_pos this];exact ihl w1 h
  ·have:=h1 _ h;simp only at this;rw [if_neg (by omega)];exact ihr w2 h
theorem Tr.graft_ok (k:Key) (o:Nat×Nat) (d:Nat) (t:Tr) (hw:t.Wf) (hd:bt k d ≠ bt (t.near k).1 d) (hi:∀i,i<d->bt k i=bt (t.near k).1 i):
  (t.graft k o d).Wf/\(∀x,x∈(t.graft k o d).coins↔x=(k,o)\/x∈t.coins)/\(t.graft k o d).coins.length=t.coins.length+1:=by
 have hpair:∀n:Tr,n.Wf->(∀x∈n.coins,bt x.1 d ≠ bt k d)->(∀x∈n.coins,∀i,i<d->bt x.1 i=bt k i)->(Tr.pair n (.leaf k o) d (bt k d)).Wf/\(∀x,x∈(Tr.pair n (.leaf k o) d (bt k d)).coins↔x=(k,o)\/x∈n.coins)/\(Tr.pair n (.leaf k o) d (bt k d)).coins.length=n.coins.length+1:=by
  intro n wn hn hs
  have k2:=Xz k d
  unfold pair
  split
  ·refine ⟨⟨trivial,wn,?_,?_,?_⟩,?_,?_⟩
   ·intro x hx;simp only [coins,Qt] at hx;rw [hx];assumption
   ·intro x hx;have:=hn x hx;have:=Xz x.1 d;omega
   ·intro x hx y hy i hid
    simp only [coins,QE,Qt] at hx hy
    have e1:bt x.1 i=bt k i:=by rcases hx with rfl | hx;rfl;exact hs x hx i hid
    have e2:bt y.1 i=bt k i:=by rcases hy with rfl | hy;rfl;exact hs y hy i hid
    rw [e1,e2]
   ·intro x;simp [coins]
   ·simp [coins]
  ·refine ⟨⟨wn,trivial,?_,?_,?_⟩,?_,?_⟩
   ·intro x hx;have:=hn x hx;have:=Xz x.1 d;omega
   ·intro x hx;simp only [coins,Qt] at hx;rw [hx];simp only;omega
   ·intro x hx y hy i hid
    simp only [coins,QE,Qt] at hx hy
    have e1:bt x.1 i=bt k i:=by rcases hx with hx | rfl;exact hs x hx i hid;rfl
    have e2:bt y.1 i=bt k i:=by rcases hy with hy | rfl;exact hs y hy i hid;rfl
    rw [e1,e2]
   ·intro x;simp only [coins,QE,Qt];exact Or.comm
   ·simp [coins]
 induction t using Tr.ri with
 | leaf k' o'=>
  simp only [near] at hd hi
  exact hpair _ trivial (by intro x hx;simp only [coins,Qt] at hx;rw [hx];exact λe=>hd e.symm) (by intro x hx i hid;simp only [coins,Qt] at hx;rw [hx];exact (hi i hid).symm)
 | br b l r ihl ihr=>
  have hw':=hw
  obtain ⟨w1,w2,h0,h1,hs⟩:=hw
  simp only [graft]
  have hm:=near_mem k (.br b l r)
  split
  ·rename_i hdb
   refine hpair _ hw' ?_ ?_
   ·intro x hx e;exact hd (by rw [<-e];exact hs _ hx _ hm d hdb)
   ·intro x hx i hid;rw [hi i hid];exact hs _ hx _ hm i (by omega)
  ·rename_i hdb
   simp only [near] at hd hi hm
   have k2:=Xz k b
   split
   ·rename_i hz
    simp only [hz,if_true] at hd hi hm
    obtain ⟨g1,g2,g3⟩:=ihl w1 hd hi
    have hnm:=near_mem k l
    have hne:b ≠ d:=by rintro rfl;exact hd (by rw [hz];exact (h0 _ hnm).symm)
    refine ⟨⟨g1,w2,?_,h1,?_⟩,?_,?_⟩
    ·intro x hx;rw [g2] at hx;rcases hx with rfl | hx
     ·exact hz
     ·exact h0 x hx
    ·have ek:∀x∈l.coins++r.coins,∀i,i<b->bt x.1 i=bt k i:=by
      intro x hx i hib
      rw [hi i (by omega)]
      exact hs _ hx _ (List.mem_append_left _ hnm) i hib
     intro x hx y hy i hib
     have e:∀x∈(l.graft k o d).coins++r.coins,bt x.1 i=bt k i:=by
      intro x hx
      simp only [QE,g2] at hx
      rcases hx with (rfl | hx) | hx
      ·rfl
      ·exact ek x (List.mem_append_left _ hx) i hib
      ·exact ek x (List.mem_append_right _ hx) i hib
     rw [e x hx,e y hy]
    ·intro x;simp only [coins,QE,g2];exact or_assoc
    ·simp only [coins,Qe,g3];omega
   ·rename_i hz
    simp only [hz,if_false] at hd hi hm
    obtain ⟨g1,g2,g3⟩:=ihr w2 hd hi
    have hnm:=near_mem k r
    have hne:b ≠ d:=by rintro rfl;exact hd (by rw [h1 _ hnm];omega)
    refine ⟨⟨w1,g1,h0,?_,?_⟩,?_,?_⟩
    ·intro x hx;rw [g2] at hx;rcases hx with rfl | hx
     ·simp only;omega
     ·exact h1 x hx
    ·have ek:∀x∈l.coins++r.coins,∀i,i<b->bt x.1 i=bt k i:=by
      intro x hx i hib
      rw [hi i (by omega)]
      exact hs _ hx _ (List.mem_append_right _ hnm) i hib
     intro x hx y hy i hib
     have e:∀x∈l.coins++(r.graft k o d).coins,bt x.1 i=bt k i:=by
      intro x hx
      simp only [QE,g2] at hx
      rcases hx with hx | rfl | hx
      ·exact ek x (List.mem_append_left _ hx) i hib
      ·rfl
      ·exact ek x (List.mem_append_right _ hx) i hib
     rw [e x hx,e y hy]
    ·intro x;simp only [coins,QE,g2];constructor
     ·rintro (h | h | h) <;> simp [h]
     ·rintro (h | h | h) <;> simp [h]
    ·simp only [coins,Qe,g3];omega
def Xa:Option Tr->List (Key×(Nat×Nat))
 | none=>[]
 | some t=>t.coins
theorem Tr.cut_ok (k:Key) (t:Tr) (hw:t.Wf) (hk:(t.near k).1=k):
  (∀t',t.cut k=some t'->t'.Wf)/\(∀x,x∈Xa (t.cut k)↔x∈t.coins/\x.1 ≠ k)/\(Xa (t.cut k)).length+1=t.coins.length:=by
 induction t using Tr.ri with
 | leaf k' o'=>
  simp only [near] at hk
  subst hk
  refine ⟨λt' h=>by simp [cut] at h,λx=>?_,by simp [cut,Xa,coins]⟩
  simp only [cut,Xa,coins,Qt]
  constructor
  ·intro h;cases h
  ·rintro ⟨rfl,h⟩;exact absurd rfl h
 | br b l r ihl ihr=>
  obtain ⟨w1,w2,h0,h1,hs⟩:=hw
  simp only [near] at hk
  simp only [cut]
  split
  ·rename_i hz
   simp only [hz,if_true] at hk
   obtain ⟨g1,g2,g3⟩:=ihl w1 hk
   have hr:∀x∈r.coins,x.1 ≠ k:=by rintro x hx rfl;have:=h1 x hx;omega
   cases hc:l.cut k with
   | none=>
    rw [hc] at g1 g2 g3
    refine ⟨λt' h=>by simp only [Qh] at h;rw [<-h];exact w2,λx=>?_,by simp only [Xa,coins,Qe,Qv] at g3 ⊢;omega⟩
    simp only [Xa,coins,QE]
    constructor
    ·intro h;exact ⟨.inr h,hr x h⟩
    ·rintro ⟨h | h,hn⟩
     ·exact absurd ((g2 x).2 ⟨h,hn⟩) (by simp [Xa])
     ·exact h
   | some l'=>
    rw [hc] at g1 g2 g3
    refine ⟨λt' h=>?_,λx=>?_,by simp only [Xa,coins,Qe] at g3 ⊢;omega⟩
    ·simp only [Qh] at h
     rw [<-h]
     have hsub:∀x∈l'.coins++r.coins,x∈l.coins++r.coins:=by
      intro x hx;rw [QE] at hx ⊢;rcases hx with hx | hx
      ·exact .inl ((g2 x).1 hx).1
      ·exact .inr hx
     exact ⟨g1 l' rfl,w2,λx hx=>h0 x ((g2 x).1 hx).1,h1,λx hx y hy i hi=>hs x (hsub x hx) y (hsub y hy) i hi⟩
    ·have g2':=g2 x
     simp only [Xa] at g2'
     simp only [Xa,coins,QE,g2']
     constructor
     ·rintro (⟨h,hn⟩ | h)
      ·exact ⟨.inl h,hn⟩
      ·exact ⟨.inr h,hr x h⟩
     ·rintro ⟨h | h,hn⟩
      ·exact .inl ⟨h,hn⟩
      ·exact .inr h
  ·rename_i hz
   simp only [hz,if_false] at hk
   obtain ⟨g1,g2,g3⟩:=ihr w2 hk
   have hl:∀x∈l.coins,x.1 ≠ k:=by rintro x hx rfl;have:=h0 x hx;omega
   cases hc:r.cut k with
   | none=>
    rw [hc] at g1 g2 g3
    refine ⟨λt' h=>by simp only [Qh] at h;rw [<-h];exact w1,λx=>?_,by simp only [Xa,coins,Qe,Qv] at g3 ⊢;omega⟩
    simp only [Xa,coins,QE]
    constructor
    ·intro h;exact ⟨.inl h,hl x h⟩
    ·rintro ⟨h | h,hn⟩
     ·exact h
     ·exact absurd ((g2 x).2 ⟨h,hn⟩) (by simp [Xa])
   | some r'=>
    rw [hc] at g1 g2 g3
    refine ⟨λt' h=>?_,λx=>?_,by simp only [Xa,coins,Qe] at g3 ⊢;omega⟩
    ·simp only [Qh] at h
     rw [<-h]
     have hsub:∀x∈l.coins++r'.coins,x∈l.coins++r.coins:=by
      intro x hx;rw [QE] at hx ⊢;rcases hx with hx | hx
      ·exact .inl hx
      ·exact .inr ((g2 x).1 hx).1
     exact ⟨w1,g1 r' rfl,h0,λx hx=>h1 x ((g2 x).1 hx).1,λx hx y hy i hi=>hs x (hsub x hx) y (hsub y hy) i hi⟩
    ·have g2':=g2 x
     simp only [Xa] at g2'
     simp only [Xa,coins,QE,g2']
     constructor
     ·rintro (h | ⟨h,hn⟩)
      ·exact ⟨.inl h,hl x h⟩
      ·exact ⟨.inr h,hn⟩
     ·rintro ⟨h | h,hn⟩
      ·exact .inl h
      ·exact .inr ⟨h,hn⟩
def lz8 (x:UInt8):Nat:=if 128<=x.toNat then 0 else if 64<=x.toNat then 1 else if 32<=x.toNat then 2 else if 16<=x.toNat then 3 else if 8<=x.toNat then 4 else if 4<=x.toNat then 5 else if 2<=x.toNat then 6 else if 1<=x.toNat then 7 else 8
def fd:Key->Key->Nat
 | x :: a,y :: b=>if x=y then 8+fd a b else lz8 (x ^^^ y)
 | _,_=>0
theorem Jmy:∀z:Fin 256,z ≠ 0->lz8 (UInt8.ofNat z.val)<8/\z.val / 2 ^ (7 - lz8 (UInt8.ofNat z.val)) % 2=1/\∀i:Fin 8,i.val<lz8 (UInt8.ofNat z.val)->z.val / 2 ^ (7 - i.val) % 2=0:=by decide +kernel
theorem Jhc (x y i:Nat):(x ^^^ y) / 2 ^ i % 2=(x / 2 ^ i % 2+y / 2 ^ i % 2) % 2:=by
 have h:∀a:Nat,a / 2 ^ i % 2=(a.testBit i).toNat:=λa=>by rw [Nat.toNat_testBit]
 rw [h,h,h,Nat.testBit_xor]
 cases x.testBit i <;> cases y.testBit i <;> rfl
theorem Jhh:∀(a b:Key),a.length=b.length->a ≠ b->fd a b<8 * a.length/\bt a (fd a b) ≠ bt b (fd a b)/\∀i,i<fd a b->bt a i=bt b i:=by
 intro a
 induction a with
 | nil=>intro b h hn;cases b with
  | nil=>exact absurd rfl hn
  | cons=>simp at h
 | cons x a ih=>
  intro b h hn
  cases b with
  | nil=>simp at h
  | cons y b=>
   simp only [Qp,Nat.add_right_cancel_iff] at h
   have s1:∀(z:UInt8) (c:Key) (i:Nat),i<8->bt (z :: c) i=z.toNat / 2 ^ (7 - i) % 2:=by
    intro z c i hi;unfold bt;rw [Nat.div_eq_of_lt hi,Nat.mod_eq_of_lt hi];rfl
   have s2:∀(z:UInt8) (c:Key) (i:Nat),bt (z :: c) (8+i)=bt c i:=by
    intro z c i;unfold bt;rw [show (8+i) / 8=i / 8+1 by omega,show (8+i) % 8=i % 8 by omega];rfl
   simp only [fd]
   split
   ·rename_i e
    subst e
    obtain ⟨p1,p2,p3⟩:=ih b h (λe=>hn (by rw [e]))
    refine ⟨by simp only [Qp];omega,by rw [s2,s2];exact p2,λi hi=>?_⟩
    by_cases h8:i<8
    ·rw [s1 _ _ _ h8,s1 _ _ _ h8]
    ·obtain ⟨j,rfl⟩:∃j,i=8+j:=⟨i - 8,by omega⟩
     rw [s2,s2];exact p3 j (by omega)
   ·rename_i e
    have hz:(x ^^^ y).toNat ≠ 0:=by
     intro h0
     apply e
     rw [UInt8.toNat_xor] at h0
     apply UInt8.toNat_inj.1
     apply Nat.eq_of_testBit_eq
     intro i
     have:=congrArg (λn=>n.testBit i) h0
     simp only [Nat.testBit_xor,Nat.zero_testBit] at this
     revert this
     cases x.toNat.testBit i <;> cases y.toNat.testBit i <;> simp
    have hlt:(x ^^^ y).toNat<256:=UInt8.toNat_lt _
    obtain ⟨q1,q2,q3⟩:=Jmy ⟨(x ^^^ y).toNat,hlt⟩ (λe=>hz (by have:=congrArg Fin.val e;exact this))
    rw [show UInt8.ofNat (⟨(x ^^^ y).toNat,hlt⟩:Fin 256).val=x ^^^ y from UInt8.ofNat_toNat] at q1 q2 q3
    simp only at q2 q3
    rw [UInt8.toNat_xor,Jhc] at q2
    refine ⟨by simp only [Qp];omega,?_,λi hi=>?_⟩
    ·rw [s1 _ _ _ q1,s1 _ _ _ q1];omega
    ·have:=q3 ⟨i,by omega⟩ hi
     simp only at this
     rw [UInt8.toNat_xor,Jhc] at this
     rw [s1 _ _ _ (by omega),s1 _ _ _ (by omega)];omega
open Tryz
set_option maxRecDepth 100000
set_option maxHeartbeats 400000
open Go.RowKit

def Jg (E:Nat->Addr) (w:World) (b:Nat) (g:Option Nat) (wd:Int):Option PS->Prop
 | some p=>Jc w b g wd .nilIface p
 | none=>∃p t u,Jc w b g wd (.iface t u) p/\Jl E 7 w (.iface t u)
def JN:Option PS->Nat
 | some p=>p.len
 | none=>0
def JE (x k:Nat) (st:Option PS):Nat×Option PS:=match st.bind (PS.num x k) with
 | some (m,p)=>(m,some p)
 | none=>(0,none)
def Jj (s:List UInt8) (k:Nat) (st:Option PS):List UInt8×Option PS:=match st.bind (PS.txt s k) with
 | some (t,p)=>(t,some p)
 | none=>([],none)
theorem JX {x k m:Nat} {p p1:PS} (h:p.num x k=some (m,p1)):JE x k (some p)=(m,some p1):=by simp [JE,h]
theorem ZY {x k:Nat} {p:PS} (h:p.num x k=none):JE x k (some p)=(0,none):=by simp [JE,h]
theorem JiO (x k:Nat):JE x k none=(0,none):=rfl
theorem JK {s t:List UInt8} {k:Nat} {p p1:PS} (h:p.txt s k=some (t,p1)):Jj s k (some p)=(t,some p1):=by simp [Jj,h]
theorem Yg {s:List UInt8} {k:Nat} {p:PS} (h:p.txt s k=none):Jj s k (some p)=([],none):=by simp [Jj,h]
theorem Jg.at {E:Nat->Addr} {w:World} {b:Nat} {g:Option Nat} {wd:Int} {st:Option PS} (h:Jg E w b g wd st):∃p e,Jc w b g wd e p/\(e=.nilIface\/∃t u,e=.iface t u):=by
 cases st with
 | some p=>exact ⟨p,_,h,.inl rfl⟩
 | none=>obtain ⟨p,t,u,h,_⟩:=h;exact ⟨p,_,h,.inr ⟨t,u,rfl⟩⟩
theorem Jg.lt {E:Nat->Addr} {w:World} {b:Nat} {g:Option Nat} {wd:Int} {st:Option PS} (h:Jg E w b g wd st):b<w.heap.size:=by
 obtain ⟨p,e,h,_⟩:=h.at;exact h.lt
theorem Jg.own {E:Nat->Addr} {w:World} {b:Nat} {g:Option Nat} {wd:Int} {st:Option PS} (h:Jg E w b g wd st):∀k,g=some k->b<k/\k<w.heap.size:=by
 obtain ⟨p,e,h,_⟩:=h.at;exact h.own
theorem Jg.width {E:Nat->Addr} {w:World} {b:Nat} {g:Option Nat} {wd:Int} {st:Option PS} (h:Jg E w b g wd st):w.cell? ⟨b,1,none⟩=some (.int .i64 wd):=by
 obtain ⟨p,e,h,_⟩:=h.at
 cases p using PS.on with
 | rd q r=>exact Ja h.2
 | wr d=>obtain ⟨v,_,_,hr⟩:=h;exact Ja hr
theorem Jg.same {E:Nat->Addr} {w:World} {b:Nat} {g g':Option Nat} {wd width':Int} {st st':Option PS} (h:Jg E w b g wd st) (k:Jg E w b g' width' st'):g=g':=by
 obtain ⟨p,e,h,_⟩:=h.at
 obtain ⟨p',e',k,_⟩:=k.at
 exact h.same k
theorem Jg.tch {E:Nat->Addr} {S:Nat->Prop} {w w':World} {b:Nat} {g:Option Nat} {wd:Int} {st:Option PS} (h:Jg E w b g wd st) (k:Tch S w w') (hb:¬S b) (hg:∀j,g=some j->¬S j) (hs:∀p s u,w.heap[p]? =some (.cells #[.string s,u] 237)->¬S p):Jg E w' b g wd st:=by
 cases st with
 | some p=>exact Jc.tch h k hb hg
 | none=>obtain ⟨p,t,u,h1,h2⟩:=h;exact ⟨p,t,u,h1.tch k hb hg,h2.tch k hs⟩
theorem Jg.next {E:Nat->Addr} {w w':World} {b:Nat} {g:Option Nat} {wd:Int} {st:Option PS} (h:Jg E w b g wd st) (k:Tch NoB w w'):Jg E w' b g wd st:=
 h.tch k (λh=>h) (λ_ _ h=>h) (λ_ _ _ _ h=>h)
theorem Jg.row {E:Nat->Addr} {w:World} {b r:Nat} {g:Option Nat} {wd:Int} {st:Option PS} {cur cs:Array Value} {T:TypeId} (h:Jg E w b g wd st) (hr:w.heap[r]? =some (.cells cur T)) (hT:T ≠ 237) (hb:¬(r=b\/some r=g)):Jg E (w.setRow r cs) b g wd st:=
 h.tch (Ts w r cs) (λe=>hb (.inl e.symm)) (λj hj e=>hb (.inr (by rw [hj,e]))) (λp s u hp e=>by subst e;rw [hr] at hp;simp at hp;exact hT hp.2)
def StTo (E:Nat->Addr) (w w':World) (b:Nat) (g:Option Nat) (wd:Int) (st':Option PS):Prop:=
 ∃g',Jg E w' b g' wd st'/\Jm w g g'/\Tch (λk=>k=b\/some k=g) w w'
theorem StTo.trans {E:Nat->Addr} {w w1 w2:World} {b:Nat} {g g1:Option Nat} {wd:Int} {st2:Option PS} (hm:Jm w g g1) (h:Tch (λk=>k=b\/some k=g) w w1) (k:StTo E w1 w2 b g1 wd st2):StTo E w w2 b g wd st2:=by
 obtain ⟨g2,h1,h2,h3⟩:=k
 exact ⟨g2,h1,hm.trans h2 h.size,Ye h h3 hm⟩
theorem StTo.fresh {E:Nat->Addr} {w w1 w2:World} {b:Nat} {g:Option Nat} {wd:Int} {st2:Option PS} (h:Tch NoB w w1) (k:StTo E w1 w2 b g wd st2):StTo E w w2 b g wd st2:=by
 obtain ⟨g2,h1,h2,h3⟩:=k
 refine ⟨g2,h1,?_,(h.mono noE).trans h3 (λ_ h=>.inl h)⟩
 rcases h2 with h2 | ⟨i,h2,hi⟩
 ·exact .inl h2
 ·exact .inr ⟨i,h2,Qm h.size hi⟩
theorem StTo.row {E:Nat->Addr} {w w2:World} {b r:Nat} {g:Option Nat} {wd:Int} {st2:Option PS} {cur cs:Array Value} {T:TypeId} (k:StTo E w w2 b g wd st2) (hw:w.heap.size<=r) (hr:w2.heap[r]? =some (.cells cur T)) (hT:T ≠ 237) (hb:¬r=b) (hg:∀g',Jm w g g'->Jg E w2 b g' wd st2->some r ≠ g'):StTo E w (w2.setRow r cs) b g wd st2:=by
 obtain ⟨g2,h1,h2,h3⟩:=k
 exact ⟨g2,h1.row hr hT (by rintro (e | e);exact hb e;exact hg g2 h2 h1 e),h2,h3.trans (Ts w2 r cs) (λj hj=>.inr (by omega))⟩
theorem Jbo {E:Nat->Addr} {w:World} {b:Nat} {g:Option Nat} {wd:Int} {st:Option PS} (h12:18<=b) (h:Jg E w b g wd st):∀j,(j=b\/some j=g)->18<=j:=by
 rintro j (rfl | e)
 ·exact h12
 ·have:=(h.own j e.symm).1;omega
theorem JgM {E:Nat->Addr} {w:World} {b:Nat} {g:Option Nat} {wd:Int} {st:Option PS} (h:Jg E w b g wd st) (k:Nat) (hk:w.heap.size<=k):¬(k=b\/some k=g):=by
 have h1:=h.lt
 rintro (rfl | e)
 ·omega
 ·have:=(h.own k e.symm).2;omega
theorem Jbp {E:Nat->Addr} {w wA:World} {b:Nat} {g g':Option Nat} {wd:Int} {st:Option PS} (h:Jg E w b g wd st) (hm:Jm wA g g') (k:Nat) (hk:w.heap.size<=k) (hA:k<wA.heap.size):¬(k=b\/some k=g'):=by
 rcases hm with rfl | ⟨i,rfl,hi⟩
 ·exact JgM h k hk
 ·have h1:=h.lt
  rintro (rfl | e)
  ·omega
  ·cases e;omega
theorem JaG (x k:Nat) (st:Option PS):JN (JE x k st).2<=JN st+k:=by
 unfold JE
 cases st with
 | none=>simp [JN]
 | some p=>
  simp only [Qu]
  cases h:p.num x k with
  | none=>simp [JN]
  | some r=>exact Zr _ _ _ _ _ h
theorem Yl (s:List UInt8) (k:Nat) (st:Option PS):JN (Jj s k st).2<=JN st+k:=by
 unfold Jj
 cases st with
 | none=>simp [JN]
 | some p=>
  simp only [Qu]
  cases h:p.txt s k with
  | none=>simp [JN]
  | some r=>exact JeG _ _ _ _ _ h
theorem Jbn (x k:Nat) (st:Option PS):(JE x k st).1<256 ^ k:=by
 have hpos:0<256 ^ k:=Nat.pow_pos (by decide)
 unfold JE
 cases st with
 | none=>exact hpos
 | some p=>
  simp only [Qu]
  cases h:p.num x k with
  | none=>exact hpos
  | some r=>
   obtain ⟨m,p'⟩:=r
   show m<256 ^ k
   cases p using PS.on with
   | rd q r=>
    simp only [PS.num] at h
    split at h
    ·cases h
     have h1:=Jcn (r.take k)
     have h2:256 ^ (r.take k).length<=256 ^ k:=Nat.pow_le_pow_right (by decide) (by rw [QB];omega)
     omega
    ·cases h
   | wr d=>
    simp only [PS.num] at h
    split at h
    ·rename_i hx
     cases h
     rw [Nat.div_eq_zero_iff] at hx
     have e:(256:Nat) ^ k=2 ^ (8 * k):=by rw [Nat.pow_mul]
     rcases hx with hx | hx
     ·have:0<2 ^ (8 * k):=Nat.pow_pos (by decide);omega
     ·omega
    ·cases h
theorem ZF (E:Nat->Addr) (b:Nat) (g:Option Nat) (wd:Int) (x n:Nat) (st:Option PS) (w:World) (hE:Env E w) (hp:Jg E w b g wd st) (h8:n<=8) (hd:JN st<=10000000000000):
  Calls prog 138 #[.pointer (some ⟨b,0,none⟩),.int .u64 (x:Int),.int .i64 (n:Int)] w λe w'=>e=.returned (.int .u64 ((JE x n st).1:Int))/\StTo E w w' b g wd (JE x n st).2:=by
 unfold JE
 cases st with
 | none=>
  obtain ⟨p,t,u,h1,h2⟩:=hp
  refine (ZT b g wd _ _ p t u w h1).mono ?_
  rintro e w' ⟨rfl,rfl⟩
  exact ⟨rfl,g,⟨p,t,u,h1,h2⟩,.inl rfl,Te _ _⟩
 | some p=>
  simp only [Qu]
  cases h:p.num x n with
  | none=>
   refine (YN E b g wd x n p w hE hp h8 hd h).mono ?_
   rintro e w' ⟨rfl,h1,h2⟩
   exact ⟨rfl,g,⟨p,_,_,h1,.base⟩,.inl rfl,h2.mono (λ_ h=>.inl (.inl h))⟩
  | some r=>
   obtain ⟨m,p'⟩:=r
   exact (Xn b g wd x n m p p' w hp h8 hd h).mono λe w' ⟨h1,h2⟩=>⟨h1,h2⟩
theorem JeF (E:Nat->Addr) (b:Nat) (g:Option Nat) (wd:Int) (s:BA) (n:Nat) (st:Option PS) (w:World) (hE:Env E w) (hp:Jg E w b g wd st) (hd:JN st+n<=10000000000000):
  Calls prog 209 #[.pointer (some ⟨b,0,none⟩),.string s,.int .i64 (n:Int)] w λe w'=>e=.returned (.string ⟨(Jj s.data.toList n st).1.toArray⟩)/\StTo E w w' b g wd (Jj s.data.toList n st).2:=by
 unfold Jj
 cases st with
 | none=>
  obtain ⟨p,t,u,h1,h2⟩:=hp
  refine (JfR b g wd _ _ p t u w h1).mono ?_
  rintro e w' ⟨rfl,rfl⟩
  exact ⟨rfl,g,⟨p,t,u,h1,h2⟩,.inl rfl,Te _ _⟩
 | some p=>
  simp only [Qu]
  cases h:p.txt s.data.toList n with
  | none=>
   refine (JdW E b g wd s n p w hE hp (by simp only [JN] at hd;omega) h).mono ?_
   rintro e w' ⟨rfl,h1,h2⟩
   exact ⟨rfl,g,⟨p,_,_,h1,.base⟩,.inl rfl,h2.mono (λ_ h=>.inl (.inl h))⟩
  | some r=>
   obtain ⟨m,p'⟩:=r
   exact (ZK b g wd s n m p p' w hp hd h).mono λe w' ⟨h1,h2⟩=>⟨h1,h2⟩
theorem ZH (E:Nat->Addr) (b:Nat) (g:Option Nat) (wd:Int) (s:BA) (st:Option PS) (w:World) (hE:Env E w) (hp:Jg E w b g wd st):
  Calls prog 200 #[.pointer (some ⟨b,0,none⟩),.string s] w λe w'=>e=.returned (.tuple #[])/\StTo E w w' b g wd none:=by
 cases st with
 | none=>
  obtain ⟨p,t,u,h1,h2⟩:=hp
  refine (JaZ b g wd _ p t u w h1).mono ?_
  rintro e w' ⟨rfl,rfl⟩
  exact ⟨rfl,g,⟨p,t,u,h1,h2⟩,.inl rfl,Te _ _⟩
 | some p=>
  refine (JcP E b g wd s p w hE hp).mono ?_
  rintro e w' ⟨rfl,h1,h2,h3⟩
  exact ⟨rfl,g,⟨p,_,_,h1,h2⟩,.inl rfl,h3.mono (λ_ h=>.inl (.inl h))⟩
theorem YA (E:Nat->Addr) (b:Nat) (g:Option Nat) (wd:Nat) (s:BA) (st:Option PS) (w:World) (hE:Env E w) (hp:Jg E w b g wd st) (hd:JN st+wd<=10000000000000):
  Calls prog 139 #[.pointer (some ⟨b,0,none⟩),.string s] w λe w'=>e=.returned (.string ⟨(Jj s.data.toList wd st).1.toArray⟩)/\StTo E w w' b g wd (Jj s.data.toList wd st).2:=by
 have c1:=hp.width
 have HC:Hid (Calls prog 209 _ w _):=JeF E b g wd s wd st w hE hp hd
 go_enter func139,ntmps139
 go_wp2_with fail
 refine HC.o.mono ?_
 rintro _ w1 ⟨rfl,h⟩
 have HS:Hid _:=h
 go_wp2
 go_ret
 exact ⟨rfl,HS⟩
