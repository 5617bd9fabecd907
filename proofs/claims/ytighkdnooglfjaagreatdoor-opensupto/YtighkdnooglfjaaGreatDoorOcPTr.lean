import Derived.Test.YtighkdnooglfjaaGreatDoorOcLg
namespace Go.Proofs.YtighkdnooglfjaaGreatDoor


def bt (k:List UInt8) (i:Nat):Nat:=(k.getD (i / 8) 0).toNat / 2 ^ (7 - i % 8) % 2
theorem YH (k:List UInt8) (i:Nat):bt k i<2:=Nat.mod_lt _ (by decide)
abbrev Key:=List UInt8
structure Tr where
 of ::
 v:(Key×(Nat×Nat)) ⊕ (Nat×Tr×Tr)
abbrev Tr.leaf (key:Key) (out:Nat×Nat):Tr:=⟨.inl (key,out)⟩
abbrev Tr.br (bit:Nat) (l r:Tr):Tr:=⟨.inr (bit,l,r)⟩
theorem Tr.ri {motive:Tr->Prop} (leaf:∀key out,motive (.leaf key out)) (br:∀bit l r,motive l->motive r->motive (.br bit l r)):∀t,motive t
 | ⟨.inl (k,o)⟩=>leaf k o
 | ⟨.inr (b,l,r)⟩=>br b l r (Tr.ri leaf br l) (Tr.ri leaf br r)
def Tr.coins:Tr->List (Key×(Nat×Nat))
 | ⟨.inl (k,o)⟩=>[(k,o)]
 | ⟨.inr (_,l,r)⟩=>l.coins++r.coins
def Tr.near (k:Key):Tr->Key×(Nat×Nat)
 | ⟨.inl (k',o)⟩=>(k',o)
 | ⟨.inr (b,l,r)⟩=>if bt k b=0 then l.near k else r.near k
def Tr.pair (n one:Tr) (b at_:Nat):Tr:=if at_=0 then .br b one n else .br b n one
def Tr.graft (k:Key) (o:Nat×Nat) (d:Nat):Tr->Tr
 | ⟨.inl (k',o')⟩=>Tr.pair (.leaf k' o') (.leaf k o) d (bt k d)
 | ⟨.inr (b,l,r)⟩=>if d<b then Tr.pair (.br b l r) (.leaf k o) d (bt k d) else if bt k b=0 then .br b (l.graft k o d) r else .br b l (r.graft k o d)
def Tr.cut (k:Key):Tr->Option Tr
 | ⟨.inl (_,_)⟩=>none
 | ⟨.inr (b,l,r)⟩=>if bt k b=0 then (match l.cut k with | none=>some r | some l'=>some (.br b l' r)) else (match r.cut k with | none=>some l | some r'=>some (.br b l r'))
def Tr.Wf:Tr->Prop
 | ⟨.inl (_,_)⟩=>True
 | ⟨.inr (b,l,r)⟩=>l.Wf/\r.Wf/\(∀x∈l.coins,bt x.1 b=0)/\(∀x∈r.coins,bt x.1 b=1)/\∀x∈l.coins++r.coins,∀y∈l.coins++r.coins,∀i,i<b->bt x.1 i=bt y.1 i
theorem Tr.coins_ne (t:Tr):t.coins ≠ []:=by
 induction t using Tr.ri with
 | leaf=>simp [coins]
 | br b l r ihl ihr=>simp [coins,ihl]
theorem Tr.near_mem (k:Key) (t:Tr):t.near k∈t.coins:=by
 induction t using Tr.ri with
 | leaf=>simp [near,coins]
 | br b l r ihl ihr=>simp only [near,coins,QE];split <;> simp [*]
theorem Tr.near_of_mem (k:Key) (o:Nat×Nat) (t:Tr) (hw:t.Wf) (h:(k,o)∈t.coins):t.near k=(k,o):=by
 induction t using Tr.ri with
 | leaf=>simp only [coins,Qt] at h;rw [h];rfl
 | br b l r ihl ihr=>
  obtain ⟨w1,w2,h0,h1,_⟩:=hw
  simp only [coins,QE] at h
  simp only [near]
  rcases h with h | h
  ·have:=h0 _ h;simp only at this;rw [if_pos this];exact ihl w1 h
  ·have:=h1 _ h;simp only at this;rw [if_neg (by omega)];exact ihr w2 h
theorem Tr.graft_ok (k:Key) (o:Nat×Nat) (d:Nat) (t:Tr) (hw:t.Wf) (hd:bt k d ≠ bt (t.near k).1 d) (hi:∀i,i<d->bt k i=bt (t.near k).1 i):
  (t.graft k o d).Wf/\(∀x,x∈(t.graft k o d).coins↔x=(k,o)\/x∈t.coins)/\(t.graft k o d).coins.length=t.coins.length+1:=by
 have hpair:∀n:Tr,n.Wf->(∀x∈n.coins,bt x.1 d ≠ bt k d)->(∀x∈n.coins,∀i,i<d->bt x.1 i=bt k i)->(Tr.pair n (.leaf k o) d (bt k d)).Wf/\(∀x,x∈(Tr.pair n (.leaf k o) d (bt k d)).coins↔x=(k,o)\/x∈n.coins)/\(Tr.pair n (.leaf k o) d (bt k d)).coins.length=n.coins.length+1:=by
  intro n wn hn hs
  have k2:=YH k d
  unfold pair
  split
  ·refine ⟨⟨trivial,wn,?_,?_,?_⟩,?_,?_⟩
   ·intro x hx;simp only [coins,Qt] at hx;rw [hx];assumption
   ·intro x hx;have:=hn x hx;have:=YH x.1 d;omega
   ·intro x hx y hy i hid
    simp only [coins,QE,Qt] at hx hy
    have e1:bt x.1 i=bt k i:=by rcases hx with rfl | hx;rfl;exact hs x hx i hid
    have e2:bt y.1 i=bt k i:=by rcases hy with rfl | hy;rfl;exact hs y hy i hid
    rw [e1,e2]
   ·intro x;simp [coins]
   ·simp [coins]
  ·refine ⟨⟨wn,trivial,?_,?_,?_⟩,?_,?_⟩
   ·intro x hx;have:=hn x hx;have:=YH x.1 d;omega
   ·intro x hx;simp only [coins,Qt] at hx;rw [hx];simp only;omega
   ·intro x hx y hy i hid
    simp only [coins,QE,Qt] at hx hy
    have e1:bt x.1 i=bt k i:=by rcases hx with hx | rfl;exact hs x hx i hid;rfl
    have e2:bt y.1 i=bt k i:=by rcases hy with hy | rfl;exact hs y hy i hid;rfl
    rw [e1,e2]
   ·intro x;simp only [coins,QE,Qt];exact Or.comm
   ·simp [coins]
 induction t using Tr.ri with
 | leaf k' o'=>
  simp only [near] at hd hi
  exact hpair _ trivial (by intro x hx;simp only [coins,Qt] at hx;rw [hx];exact λe=>hd e.symm) (by intro x hx i hid;simp only [coins,Qt] at hx;rw [hx];exact (hi i hid).symm)
 | br b l r ihl ihr=>
  have hw':=hw
  obtain ⟨w1,w2,h0,h1,hs⟩:=hw
  simp only [graft]
  have hm:=near_mem k (.br b l r)
  split
  ·rename_i hdb
   refine hpair _ hw' ?_ ?_
   ·intro x hx e;exact hd (by rw [<-e];exact hs _ hx _ hm d hdb)
   ·intro x hx i hid;rw [hi i hid];exact hs _ hx _ hm i (by omega)
  ·rename_i hdb
   simp only [near] at hd hi hm
   have k2:=YH k b
   split
   ·rename_i hz
    simp only [hz,if_true] at hd hi hm
    obtain ⟨g1,g2,g3⟩:=ihl w1 hd hi
    have hnm:=near_mem k l
    have hne:b ≠ d:=by rintro rfl;exact hd (by rw [hz];exact (h0 _ hnm).symm)
    refine ⟨⟨g1,w2,?_,h1,?_⟩,?_,?_⟩
    ·intro x hx;rw [g2] at hx;rcases hx with rfl | hx
     ·exact hz
     ·exact h0 x hx
    ·have ek:∀x∈l.coins++r.coins,∀i,i<b->bt x.1 i=bt k i:=by
      intro x hx i hib
      rw [hi i (by omega)]
      exact hs _ hx _ (List.mem_append_left _ hnm) i hib
     intro x hx y hy i hib
     have e:∀x∈(l.graft k o d).coins++r.coins,bt x.1 i=bt k i:=by
      intro x hx
      simp only [QE,g2] at hx
      rcases hx with (rfl | hx) | hx
      ·rfl
      ·exact ek x (List.mem_append_left _ hx) i hib
      ·exact ek x (List.mem_append_right _ hx) i hib
     rw [e x hx,e y hy]
    ·intro x;simp only [coins,QE,g2];exact or_assoc
    ·simp only [coins,Qe,g3];omega
   ·rename_i hz
    simp only [hz,if_false] at hd hi hm
    obtain ⟨g1,g2,g3⟩:=ihr w2 hd hi
    have hnm:=near_mem k r
    have hne:b ≠ d:=by rintro rfl;exact hd (by rw [h1 _ hnm];omega)
    refine ⟨⟨w1,g1,h0,?_,?_⟩,?_,?_⟩
    ·intro x hx;rw [g2] at hx;rcases hx with rfl | hx
     ·simp only;omega
     ·exact h1 x hx
    ·have ek:∀x∈l.coins++r.coins,∀i,i<b->bt x.1 i=bt k i:=by
      intro x hx i hib
      rw [hi i (by omega)]
      exact hs _ hx _ (List.mem_append_right _ hnm) i hib
     intro x hx y hy i hib
     have e:∀x∈l.coins++(r.graft k o d).coins,bt x.1 i=bt k i:=by
      intro x hx
      simp only [QE,g2] at hx
      rcases hx with hx | rfl | hx
      ·exact ek x (List.mem_append_left _ hx) i hib
      ·rfl
      ·exact ek x (List.mem_append_right _ hx) i hib
     rw [e x hx,e y hy]
    ·intro x;simp only [coins,QE,g2];constructor
     ·rintro (h | h | h) <;> simp [h]
     ·rintro (h | h | h) <;> simp [h]
    ·simp only [coins,Qe,g3];omega
def Xb:Option Tr->List (Key×(Nat×Nat))
 | none=>[]
 | some t=>t.coins
theorem Tr.cut_ok (k:Key) (t:Tr) (hw:t.Wf) (hk:(t.near k).1=k):
  (∀t',t.cut k=some t'->t'.Wf)/\(∀x,x∈Xb (t.cut k)↔x∈t.coins/\x.1 ≠ k)/\(Xb (t.cut k)).length+1=t.coins.length:=by
 induction t using Tr.ri with
 | leaf k' o'=>
  simp only [near] at hk
  subst hk
  refine ⟨λt' h=>by simp [cut] at h,λx=>?_,by simp [cut,Xb,coins]⟩
  simp only [cut,Xb,coins,Qt]
  constructor
  ·intro h;cases h
  ·rintro ⟨rfl,h⟩;exact absurd rfl h
 | br b l r ihl ihr=>
  obtain ⟨w1,w2,h0,h1,hs⟩:=hw
  simp only [near] at hk
  simp only [cut]
  split
  ·rename_i hz
   simp only [hz,if_true] at hk
   obtain ⟨g1,g2,g3⟩:=ihl w1 hk
   have hr:∀x∈r.coins,x.1 ≠ k:=by rintro x hx rfl;have:=h1 x hx;omega
   cases hc:l.cut k with
   | none=>
    rw [hc] at g1 g2 g3
    refine ⟨λt' h=>by simp only [Qh] at h;rw [<-h];exact w2,λx=>?_,by simp only [Xb,coins,Qe,Qv] at g3 ⊢;omega⟩
    simp only [Xb,coins,QE]
    constructor
    ·intro h;exact ⟨.inr h,hr x h⟩
    ·rintro ⟨h | h,hn⟩
     ·exact absurd ((g2 x).2 ⟨h,hn⟩) (by simp [Xb])
     ·exact h
   | some l'=>
    rw [hc] at g1 g2 g3
    refine ⟨λt' h=>?_,λx=>?_,by simp only [Xb,coins,Qe] at g3 ⊢;omega⟩
    ·simp only [Qh] at h
     rw [<-h]
     have hsub:∀x∈l'.coins++r.coins,x∈l.coins++r.coins:=by
      intro x hx;rw [QE] at hx ⊢;rcases hx with hx | hx
      ·exact .inl ((g2 x).1 hx).1
      ·exact .inr hx
     exact ⟨g1 l' rfl,w2,λx hx=>h0 x ((g2 x).1 hx).1,h1,λx hx y hy i hi=>hs x (hsub x hx) y (hsub y hy) i hi⟩
    ·have g2':=g2 x
     simp only [Xb] at g2'
     simp only [Xb,coins,QE,g2']
     constructor
     ·rintro (⟨h,hn⟩ | h)
      ·exact ⟨.inl h,hn⟩
      ·exact ⟨.inr h,hr x h⟩
     ·rintro ⟨h | h,hn⟩
      ·exact .inl ⟨h,hn⟩
      ·exact .inr h
  ·rename_i hz
   simp only [hz,if_false] at hk
   obtain ⟨g1,g2,g3⟩:=ihr w2 hk
   have hl:∀x∈l.coins,x.1 ≠ k:=by rintro x hx rfl;have:=h0 x hx;omega
   cases hc:r.cut k with
   | none=>
    rw [hc] at g1 g2 g3
    refine ⟨λt' h=>by simp only [Qh] at h;rw [<-h];exact w1,λx=>?_,by simp only [Xb,coins,Qe,Qv] at g3 ⊢;omega⟩
    simp only [Xb,coins,QE]
    constructor
    ·intro h;exact ⟨.inl h,hl x h⟩
    ·rintro ⟨h | h,hn⟩
     ·exact h
     ·exact absurd ((g2 x).2 ⟨h,hn⟩) (by simp [Xb])
   | some r'=>
    rw [hc] at g1 g2 g3
    refine ⟨λt' h=>?_,λx=>?_,by simp only [Xb,coins,Qe] at g3 ⊢;omega⟩
    ·simp only [Qh] at h
     rw [<-h]
     have hsub:∀x∈l.coins++r'.coins,x∈l.coins++r.coins:=by
      intro x hx;rw [QE] at hx ⊢;rcases hx with hx | hx
      ·exact .inl hx
      ·exact .inr ((g2 x).1 hx).1
     exact ⟨w1,g1 r' rfl,h0,λx hx=>h1 x ((g2 x).1 hx).1,λx hx y hy i hi=>hs x (hsub x hx) y (hsub y hy) i hi⟩
    ·have g2':=g2 x
     simp only [Xb] at g2'
     simp only [Xb,coins,QE,g2']
     constructor
     ·rintro (h | ⟨h,hn⟩)
      ·exact ⟨.inl h,hl x h⟩
      ·exact ⟨.inr h,hn⟩
     ·rintro ⟨h | h,hn⟩
      ·exact .inl h
      ·exact .inr ⟨h,hn⟩
def lz8 (x:UInt8):Nat:=if 128<=x.toNat then 0 else if 64<=x.toNat then 1 else if 32<=x.toNat then 2 else if 16<=x.toNat then 3 else if 8<=x.toNat then 4 else if 4<=x.toNat then 5 else if 2<=x.toNat then 6 else if 1<=x.toNat then 7 else 8
def fd:Key->Key->Nat
 | x :: a,y :: b=>if x=y then 8+fd a b else lz8 (x ^^^ y)
 | _,_=>0
theorem JmB:∀z:Fin 256,z ≠ 0->lz8 (UInt8.ofNat z.val)<8/\z.val / 2 ^ (7 - lz8 (UInt8.ofNat z.val)) % 2=1/\∀i:Fin 8,i.val<lz8 (UInt8.ofNat z.val)->z.val / 2 ^ (7 - i.val) % 2=0:=by decide +kernel
theorem Jhb (x y i:Nat):(x ^^^ y) / 2 ^ i % 2=(x / 2 ^ i % 2+y / 2 ^ i % 2) % 2:=by
 have h:∀a:Nat,a / 2 ^ i % 2=(a.testBit i).toNat:=λa=>by rw [Nat.toNat_testBit]
 rw [h,h,h,Nat.testBit_xor]
 cases x.testBit i <;> cases y.testBit i <;> rfl
theorem JjD:∀(a b:Key),a.length=b.length->a ≠ b->fd a b<8 * a.length/\bt a (fd a b) ≠ bt b (fd a b)/\∀i,i<fd a b->bt a i=bt b i:=by
 intro a
 induction a with
 | nil=>intro b h hn;cases b with
  | nil=>exact absurd rfl hn
  | cons=>simp at h
 | cons x a ih=>
  intro b h hn
  cases b with
  | nil=>simp at h
  | cons y b=>
   simp only [Qp,Nat.add_right_cancel_iff] at h
   have s1:∀(z:UInt8) (c:Key) (i:Nat),i<8->bt (z :: c) i=z.toNat / 2 ^ (7 - i) % 2:=by
    intro z c i hi;unfold bt;rw [Nat.div_eq_of_lt hi,Nat.mod_eq_of_lt hi];rfl
   have s2:∀(z:UInt8) (c:Key) (i:Nat),bt (z :: c) (8+i)=bt c i:=by
    intro z c i;unfold bt;rw [show (8+i) / 8=i / 8+1 by omega,show (8+i) % 8=i % 8 by omega];rfl
   simp only [fd]
   split
   ·rename_i e
    subst e
    obtain ⟨p1,p2,p3⟩:=ih b h (λe=>hn (by rw [e]))
    refine ⟨by simp only [Qp];omega,by rw [s2,s2];exact p2,λi hi=>?_⟩
    by_cases h8:i<8
    ·rw [s1 _ _ _ h8,s1 _ _ _ h8]
    ·obtain ⟨j,rfl⟩:∃j,i=8+j:=⟨i - 8,by omega⟩
     rw [s2,s2];exact p3 j (by omega)
   ·rename_i e
    have hz:(x ^^^ y).toNat ≠ 0:=by
     intro h0
     apply e
     rw [UInt8.toNat_xor] at h0
     apply UInt8.toNat_inj.1
     apply Nat.eq_of_testBit_eq
     intro i
     have:=congrArg (λn=>n.testBit i) h0
     simp only [Nat.testBit_xor,Nat.zero_testBit] at this
     revert this
     cases x.toNat.testBit i <;> cases y.toNat.testBit i <;> simp
    have hlt:(x ^^^ y).toNat<256:=UInt8.toNat_lt _
    obtain ⟨q1,q2,q3⟩:=JmB ⟨(x ^^^ y).toNat,hlt⟩ (λe=>hz (by have:=congrArg Fin.val e;exact this))
    rw [show UInt8.ofNat (⟨(x ^^^ y).toNat,hlt⟩:Fin 256).val=x ^^^ y from UInt8.ofNat_toNat] at q1 q2 q3
    simp only at q2 q3
    rw [UInt8.toNat_xor,Jhb] at q2
    refine ⟨by simp only [Qp];omega,?_,λi hi=>?_⟩
    ·rw [s1 _ _ _ q1,s1 _ _ _ q1];omega
    ·have:=q3 ⟨i,by omega⟩ hi
     simp only at this
     rw [UInt8.toNat_xor,Jhb] at this
     rw [s1 _ _ _ (by omega),s1 _ _ _ (by omega)];omega
open Tryz
set_option maxRecDepth 100000
set_option maxHeartbeats 1000000
open Go.RowKit

def Jh (E:Nat->Addr) (w:World) (b:Nat) (g:Option Nat) (wd:Int):Option PS->Prop
 | some p=>Jc w b g wd .nilIface p
 | none=>∃p t u,Jc w b g wd (.iface t u) p/\Jl E 7 w (.iface t u)
def JN:Option PS->Nat
 | some p=>p.len
 | none=>0
def JF (x k:Nat) (st:Option PS):Nat×Option PS:=match st.bind (PS.num x k) with
 | some (m,p)=>(m,some p)
 | none=>(0,none)
def Jj (s:List UInt8) (k:Nat) (st:Option PS):List UInt8×Option PS:=match st.bind (PS.txt s k) with
 | some (t,p)=>(t,some p)
 | none=>([],none)
theorem JS {x k m:Nat} {p p1:PS} (h:p.num x k=some (m,p1)):JF x k (some p)=(m,some p1):=by simp [JF,h]
theorem ZV {x k:Nat} {p:PS} (h:p.num x k=none):JF x k (some p)=(0,none):=by simp [JF,h]
theorem JiL (x k:Nat):JF x k none=(0,none):=rfl
theorem JL {s t:List UInt8} {k:Nat} {p p1:PS} (h:p.txt s k=some (t,p1)):Jj s k (some p)=(t,some p1):=by simp [Jj,h]
theorem XX {s:List UInt8} {k:Nat} {p:PS} (h:p.txt s k=none):Jj s k (some p)=([],none):=by simp [Jj,h]
theorem Jh.at {E:Nat->Addr} {w:World} {b:Nat} {g:Option Nat} {wd:Int} {st:Option PS} (h:Jh E w b g wd st):∃p e,Jc w b g wd e p/\(e=.nilIface\/∃t u,e=.iface t u):=by
 cases st with
 | some p=>exact ⟨p,_,h,.inl rfl⟩
 | none=>obtain ⟨p,t,u,h,_⟩:=h;exact ⟨p,_,h,.inr ⟨t,u,rfl⟩⟩
theorem Jh.lt {E:Nat->Addr} {w:World} {b:Nat} {g:Option Nat} {wd:Int} {st:Option PS} (h:Jh E w b g wd st):b<w.heap.size:=by
 obtain ⟨p,e,h,_⟩:=h.at;exact h.lt
theorem Jh.own {E:Nat->Addr} {w:World} {b:Nat} {g:Option Nat} {wd:Int} {st:Option PS} (h:Jh E w b g wd st):∀k,g=some k->b<k/\k<w.heap.size:=by
 obtain ⟨p,e,h,_⟩:=h.at;exact h.own
theorem Jh.width {E:Nat->Addr} {w:World} {b:Nat} {g:Option Nat} {wd:Int} {st:Option PS} (h:Jh E w b g wd st):w.cell? ⟨b,1,none⟩=some (.int .i64 wd):=by
 obtain ⟨p,e,h,_⟩:=h.at
 cases p using PS.on with
 | rd q r=>exact Ja h.2
 | wr d=>obtain ⟨v,_,_,hr⟩:=h;exact Ja hr
theorem Jh.same {E:Nat->Addr} {w:World} {b:Nat} {g g':Option Nat} {wd width':Int} {st st':Option PS} (h:Jh E w b g wd st) (k:Jh E w b g' width' st'):g=g':=by
 obtain ⟨p,e,h,_⟩:=h.at
 obtain ⟨p',e',k,_⟩:=k.at
 exact h.same k
theorem Jh.tch {E:Nat->Addr} {S:Nat->Prop} {w w':World} {b:Nat} {g:Option Nat} {wd:Int} {st:Option PS} (h:Jh E w b g wd st) (k:Tch S w w') (hb:¬S b) (hg:∀j,g=some j->¬S j) (hs:∀p s u,w.heap[p]? =some (.cells #[.string s,u] 237)->¬S p):Jh E w' b g wd st:=by
 cases st with
 | some p=>exact Jc.tch h k hb hg
 | none=>obtain ⟨p,t,u,h1,h2⟩:=h;exact ⟨p,t,u,h1.tch k hb hg,h2.tch k hs⟩
theorem Jh.next {E:Nat->Addr} {w w':World} {b:Nat} {g:Option Nat} {wd:Int} {st:Option PS} (h:Jh E w b g wd st) (k:Tch NoB w w'):Jh E w' b g wd st:=
 h.tch k (λh=>h) (λ_ _ h=>h) (λ_ _ _ _ h=>h)
theorem Jh.row {E:Nat->Addr} {w:World} {b r:Nat} {g:Option Nat} {wd:Int} {st:Option PS} {cur cs:Array Value} {T:TypeId} (h:Jh E w b g wd st) (hr:w.heap[r]? =some (.cells cur T)) (hT:T ≠ 237) (hb:¬(r=b\/some r=g)):Jh E (w.setRow r cs) b g wd st:=
 h.tch (Ts w r cs) (λe=>hb (.inl e.symm)) (λj hj e=>hb (.inr (by rw [hj,e]))) (λp s u hp e=>by subst e;rw [hr] at hp;simp at hp;exact hT hp.2)
def StTo (E:Nat->Addr) (w w':World) (b:Nat) (g:Option Nat) (wd:Int) (st':Option PS):Prop:=
 ∃g',Jh E w' b g' wd st'/\Jm w g g'/\Tch (λk=>k=b\/some k=g) w w'
theorem StTo.trans {E:Nat->Addr} {w w1 w2:World} {b:Nat} {g g1:Option Nat} {wd:Int} {st2:Option PS} (hm:Jm w g g1) (h:Tch (λk=>k=b\/some k=g) w w1) (k:StTo E w1 w2 b g1 wd st2):StTo E w w2 b g wd st2:=by
 obtain ⟨g2,h1,h2,h3⟩:=k
 exact ⟨g2,h1,hm.trans h2 h.size,XV h h3 hm⟩
theorem StTo.fresh {E:Nat->Addr} {w w1 w2:World} {b:Nat} {g:Option Nat} {wd:Int} {st2:Option PS} (h:Tch NoB w w1) (k:StTo E w1 w2 b g wd st2):StTo E w w2 b g wd st2:=by
 obtain ⟨g2,h1,h2,h3⟩:=k
 refine ⟨g2,h1,?_,(h.mono noE).trans h3 (λ_ h=>.inl h)⟩
 rcases h2 with h2 | ⟨i,h2,hi⟩
 ·exact .inl h2
 ·exact .inr ⟨i,h2,Qm h.size hi⟩
theorem StTo.row {E:Nat->Addr} {w w2:World} {b r:Nat} {g:Option Nat} {wd:Int} {st2:Option PS} {cur cs:Array Value} {T:TypeId} (k:StTo E w w2 b g wd st2) (hw:w.heap.size<=r) (hr:w2.heap[r]? =some (.cells cur T)) (hT:T ≠ 237) (hb:¬r=b) (hg:∀g',Jm w g g'->Jh E w2 b g' wd st2->some r ≠ g'):StTo E w (w2.setRow r cs) b g wd st2:=by
 obtain ⟨g2,h1,h2,h3⟩:=k
 exact ⟨g2,h1.row hr hT (by rintro (e | e);exact hb e;exact hg g2 h2 h1 e),h2,h3.trans (Ts w2 r cs) (λj hj=>.inr (by omega))⟩
theorem Jbm {E:Nat->Addr} {w:World} {b:Nat} {g:Option Nat} {wd:Int} {st:Option PS} (h12:18<=b) (h:Jh E w b g wd st):∀j,(j=b\/some j=g)->18<=j:=by
 rintro j (rfl | e)
 ·exact h12
 ·have:=(h.own j e.symm).1;omega
theorem JgP {E:Nat->Addr} {w:World} {b:Nat} {g:Option Nat} {wd:Int} {st:Option PS} (h:Jh E w b g wd st) (k:Nat) (hk:w.heap.size<=k):¬(k=b\/some k=g):=by
 have h1:=h.lt
 rintro (rfl | e)
 ·omega
 ·have:=(h.own k e.symm).2;omega
theorem Jbn {E:Nat->Addr} {w wA:World} {b:Nat} {g g':Option Nat} {wd:Int} {st:Option PS} (h:Jh E w b g wd st) (hm:Jm wA g g') (k:Nat) (hk:w.heap.size<=k) (hA:k<wA.heap.size):¬(k=b\/some k=g'):=by
 rcases hm with rfl | ⟨i,rfl,hi⟩
 ·exact JgP h k hk
 ·have h1:=h.lt
  rintro (rfl | e)
  ·omega
  ·cases e;omega
theorem JaA (x k:Nat) (st:Option PS):JN (JF x k st).2<=JN st+k:=by
 unfold JF
 cases st with
 | none=>simp [JN]
 | some p=>
  simp only [Qu]
  cases h:p.num x k with
  | none=>simp [JN]
  | some r=>exact Zn _ _ _ _ _ h
theorem Yc (s:List UInt8) (k:Nat) (st:Option PS):JN (Jj s k st).2<=JN st+k:=by
 unfold Jj
 cases st with
 | none=>simp [JN]
 | some p=>
  simp only [Qu]
  cases h:p.txt s k with
  | none=>simp [JN]
  | some r=>exact JeP _ _ _ _ _ h
theorem Jbl (x k:Nat) (st:Option PS):(JF x k st).1<256 ^ k:=by
 have hpos:0<256 ^ k:=Nat.pow_pos (by decide)
 unfold JF
 cases st with
 | none=>exact hpos
 | some p=>
  simp only [Qu]
  cases h:p.num x k with
  | none=>exact hpos
  | some r=>
   obtain ⟨m,p'⟩:=r
   show m<256 ^ k
   cases p using PS.on with
   | rd q r=>
    simp only [PS.num] at h
    split at h
    ·cases h
     have h1:=Jbc (r.take k)
     have h2:256 ^ (r.take k).length<=256 ^ k:=Nat.pow_le_pow_right (by decide) (by rw [QB];omega)
     omega
    ·cases h
   | wr d=>
    simp only [PS.num] at h
    split at h
    ·rename_i hx
     cases h
     rw [Nat.div_eq_zero_iff] at hx
     have e:(256:Nat) ^ k=2 ^ (8 * k):=by rw [Nat.pow_mul]
     rcases hx with hx | hx
     ·have:0<2 ^ (8 * k):=Nat.pow_pos (by decide);omega
     ·omega
    ·cases h
theorem ZD (E:Nat->Addr) (b:Nat) (g:Option Nat) (wd:Int) (x n:Nat) (st:Option PS) (w:World) (hE:Env E w) (hp:Jh E w b g wd st) (h8:n<=8) (hd:JN st<=10000000000000):
  Calls prog 138 #[.pointer (some ⟨b,0,none⟩),.int .u64 (x:Int),.int .i64 (n:Int)] w λe w'=>e=.returned (.int .u64 ((JF x n st).1:Int))/\StTo E w w' b g wd (JF x n st).2:=by
 unfold JF
 cases st with
 | none=>
  obtain ⟨p,t,u,h1,h2⟩:=hp
  refine (Zb b g wd _ _ p t u w h1).mono ?_
  rintro e w' ⟨rfl,rfl⟩
  exact ⟨rfl,g,⟨p,t,u,h1,h2⟩,.inl rfl,Te _ _⟩
 | some p=>
  simp only [Qu]
  cases h:p.num x n with
  | none=>
   refine (YC E b g wd x n p w hE hp h8 hd h).mono ?_
   rintro e w' ⟨rfl,h1,h2⟩
   exact ⟨rfl,g,⟨p,_,_,h1,.base⟩,.inl rfl,h2.mono (λ_ h=>.inl (.inl h))⟩
  | some r=>
   obtain ⟨m,p'⟩:=r
   exact (Xk b g wd x n m p p' w hp h8 hd h).mono λe w' ⟨h1,h2⟩=>⟨h1,h2⟩
theorem JeO (E:Nat->Addr) (b:Nat) (g:Option Nat) (wd:Int) (s:BA) (n:Nat) (st:Option PS) (w:World) (hE:Env E w) (hp:Jh E w b g wd st) (hd:JN st+n<=10000000000000):
  Calls prog 209 #[.pointer (some ⟨b,0,none⟩),.string s,.int .i64 (n:Int)] w λe w'=>e=.returned (.string ⟨(Jj s.data.toList n st).1.toArray⟩)/\StTo E w w' b g wd (Jj s.data.toList n st).2:=by
 unfold Jj
 cases st with
 | none=>
  obtain ⟨p,t,u,h1,h2⟩:=hp
  refine (Jc6 b g wd _ _ p t u w h1).mono ?_
  rintro e w' ⟨rfl,rfl⟩
  exact ⟨rfl,g,⟨p,t,u,h1,h2⟩,.inl rfl,Te _ _⟩
 | some p=>
  simp only [Qu]
  cases h:p.txt s.data.toList n with
  | none=>
   refine (Jd7 E b g wd s n p w hE hp (by simp only [JN] at hd;omega) h).mono ?_
   rintro e w' ⟨rfl,h1,h2⟩
   exact ⟨rfl,g,⟨p,_,_,h1,.base⟩,.inl rfl,h2.mono (λ_ h=>.inl (.inl h))⟩
  | some r=>
   obtain ⟨m,p'⟩:=r
   exact (ZJ b g wd s n m p p' w hp hd h).mono λe w' ⟨h1,h2⟩=>⟨h1,h2⟩
theorem ZG (E:Nat->Addr) (b:Nat) (g:Option Nat) (wd:Int) (s:BA) (st:Option PS) (w:World) (hE:Env E w) (hp:Jh E w b g wd st):
  Calls prog 200 #[.pointer (some ⟨b,0,none⟩),.string s] w λe w'=>e=.returned (.tuple #[])/\StTo E w w' b g wd none:=by
 cases st with
 | none=>
  obtain ⟨p,t,u,h1,h2⟩:=hp
  refine (ZU b g wd _ p t u w h1).mono ?_
  rintro e w' ⟨rfl,rfl⟩
  exact ⟨rfl,g,⟨p,t,u,h1,h2⟩,.inl rfl,Te _ _⟩
 | some p=>
  refine (JaR E b g wd s p w hE hp).mono ?_
  rintro e w' ⟨rfl,h1,h2,h3⟩
  exact ⟨rfl,g,⟨p,_,_,h1,h2⟩,.inl rfl,h3.mono (λ_ h=>.inl (.inl h))⟩
theorem Ys (E:Nat->Addr) (b:Nat) (g:Option Nat) (wd:Nat) (s:BA) (st:Option PS) (w:World) (hE:Env E w) (hp:Jh E w b g wd st) (hd:JN st+wd<=10000000000000):
  Calls prog 139 #[.pointer (some ⟨b,0,none⟩),.string s] w λe w'=>e=.returned (.string ⟨(Jj s.data.toList wd st).1.toArray⟩)/\StTo E w w' b g wd (Jj s.data.toList wd st).2:=by
 have c1:=hp.width
 have HC:Hid (Calls prog 209 _ w _):=JeO E b g wd s wd st w hE hp hd
 go_enter func139,ntmps139
 go_wp2_with fail
 refine HC.o.mono ?_
 rintro _ w1 ⟨rfl,h⟩
 have HS:Hid _:=h
 go_wp2
 go_ret
 exact ⟨rfl,HS⟩

theorem Jcu (n:Int):IntKind.u64.wrap n=(JD n:Int):=by
 simp [IntKind.wrap,IntKind.bits,IntKind.signed,JD];omega
def Yv (wd:Nat) (c:BA×Int) (st:Option PS):(List UInt8×Nat)×Option PS:=
 (((Jj c.1.data.toList wd st).1,(JF (JD c.2) 1 (Jj c.1.data.toList wd st).2).1),if 3<=(JF (JD c.2) 1 (Jj c.1.data.toList wd st).2).1 then none else (JF (JD c.2) 1 (Jj c.1.data.toList wd st).2).2)
theorem JfR (wd:Nat) (c:BA×Int) (p:PS) (h:p.coin wd c=none):(Yv wd c (some p)).2=none:=by
 unfold Yv
 unfold PS.coin at h
 cases h1:p.txt c.1.data.toList wd with
 | none=>rw [XX h1,JiL];rfl
 | some r=>
  obtain ⟨t,p1⟩:=r
  rw [JL h1]
  simp only [h1] at h
  cases h2:p1.num (JD c.2) 1 with
  | none=>rw [ZV h2];rfl
  | some r=>
   obtain ⟨m,p2⟩:=r
   rw [JS h2]
   simp only [h2] at h
   split at h
   ·cases h
   ·exact if_pos (by simp only;omega)
theorem Jb5 (wd:Nat) (c y:BA×Int) (p p2:PS) (h:p.coin wd c=some (y,p2)):(Yv wd c (some p)).2=some p2/\y=(⟨(Yv wd c (some p)).1.1.toArray⟩,((Yv wd c (some p)).1.2:Int)):=by
 unfold Yv
 unfold PS.coin at h
 cases h1:p.txt c.1.data.toList wd with
 | none=>rw [h1] at h;cases h
 | some r=>
  obtain ⟨t,p1⟩:=r
  rw [JL h1]
  simp only [h1] at h
  cases h2:p1.num (JD c.2) 1 with
  | none=>rw [h2] at h;cases h
  | some r=>
   obtain ⟨m,p2'⟩:=r
   rw [JS h2]
   simp only [h2] at h
   split at h
   ·rename_i h3
    simp only [Qh,Qw] at h
    obtain ⟨rfl,rfl⟩:=h
    exact ⟨if_neg (by simp only;omega),rfl⟩
   ·cases h
theorem Jgn (m:Nat) (h:m<256):IntKind.i64.wrap (m:Int)=(m:Int):=JC _ (by omega) (by omega)

theorem Jhd (E:Nat->Addr) (b:Nat) (hb12:18<=b) (g:Option Nat) (wd:Nat) (c:BA×Int) (st:Option PS) (w:World) (hE:Env E w) (hp:Jh E w b g wd st) (hd:JN st+wd<=90000000):
  Calls prog 203 #[.pointer (some ⟨b,0,none⟩),.agg #[.string c.1,.int .i64 c.2]] w λe w'=>e=.returned (.agg #[.string ⟨(Yv wd c st).1.1.toArray⟩,.int .i64 ((Yv wd c st).1.2:Int)])/\StTo E w w' b g wd (Yv wd c st).2:=by
 have hlt:=hp.lt
 have hx:=Jcu c.2
 obtain ⟨s,N⟩:=c
 simp only at hx
 have HC:Hid (Yv wd (s,N) st=(((Jj s.data.toList wd st).1,(JF (JD N) 1 (Jj s.data.toList wd st).2).1),if 3<=(JF (JD N) 1 (Jj s.data.toList wd st).2).1 then none else (JF (JD N) 1 (Jj s.data.toList wd st).2).2)):=rfl
 simp only
 go_enter func203,ntmps203
 go_wp2_with fail
 refine (Ys E b g wd s st _ (hE.allocs _ _) (hp.next (Tch.allocs _ _ _ _)) (by omega)).mono ?_
 rintro _ w1 ⟨rfl,g1,(HP1:Hid _),hm1,ht1⟩
 have hl1:=Yc s.data.toList wd st
 generalize hS1:(Jj s.data.toList wd st).2=st1 at *
 generalize hTB:(⟨(Jj s.data.toList wd st).1.toArray⟩:BA)=tb at *
 have HS1:Hid _:=hS1
 have HTB:Hid _:=hTB
 have cB:=(ht1.cell (p:=⟨w.heap.size,1,none⟩) (by simp;omega) (JgP hp _ (Ql _))).trans (Ja (heap_alloc2_old _ _ _))
 have rR:=(ht1.block _ (by simp) (JgP hp _ (by omega))).trans (heap_alloc2_new _ _ _)
 have hsz1:=ht1.size
 simp at hsz1
 have HE1:Hid _:=(hE.allocs _ _).tch ht1 (Jbm hb12 hp)
 have HN:Hid (∀g',Jm w1 g1 g'->¬(w.heap.size+1=b\/some (w.heap.size+1)=g')):=λg' hm=>Jbn hp (hm1.trans hm ht1.size) _ (by omega) (by simp)
 have RR:Hid _:=rR
 have HM1:Hid (Jm _ _ _):=hm1
 have HT1:Hid (Tch _ _ _):=ht1
 clear rR hm1 ht1 hp hE
 go_wp2_with fail
 refine (ZD E b g1 wd (JD N) 1 st1 _ HE1 HP1 (by omega) (by omega)).mono ?_
 rintro _ w2 ⟨rfl,g2,hp2,hm2,ht2⟩
 have hm:=Jbl (JD N) 1 st1
 generalize hS2:(JF (JD N) 1 st1).2=st2 at *
 generalize hM:(JF (JD N) 1 st1).1=m at *
 have HS2:Hid _:=hS2
 have HMM:Hid _:=hM
 have hw2:=Jgn m (by omega)
 have rR2:w2.heap[w.heap.size+1]? =some (.cells #[.string ⟨#[]⟩,.int .i64 0] 49):=(ht2.block _ (by omega) (HN g1 (.inl rfl))).trans RR.out
 have RR2:Hid _:=rR2
 have HE2:Hid _:=HE1.tch ht2 (Jbm hb12 HP1)
 have HP2:Hid _:=hp2
 have HM2:Hid (Jm _ _ _):=hm2
 have HT2:Hid _:=ht2
 have TA:Hid _:=XV HT1 ht2 HM1.o
 have MA:Hid (Jm _ g g2):=HM1.o.trans hm2 HT1.o.size
 by_cases h3:3<=m
 ·have h3i:(3:Int)<=(m:Int):=by omega
  go_wp2_with fail
  refine (ZG E b g2 wd _ st2 w2 HE2 HP2).mono ?_
  rintro _ w3 ⟨rfl,g3,hp3,hm3,(HT3:Hid _)⟩
  have rR3:=(HT3.block _ (Jb RR2) (HN g2 HM2)).trans RR2.out
  obtain ⟨e0,e1⟩:=rows rR3
  have fR:∀j,w3.frozen? ⟨w.heap.size+1,j,none⟩=false:=λj=>Qg _ _ _ _ _ rR3
  have RR3:Hid _:=rR3
  have HP3:Hid (Jh _ _ _ _ _ _):=hp3
  have HM3:Hid (Jm _ _ _):=hm3
  clear rR3 hp3 hm3
  go_wp2
  rw [set2 _ _ _ _ _ _ _ RR3.out]
  obtain rfl:=HTB.o
  obtain rfl:=HS2.o
  obtain rfl:=HMM.o
  obtain rfl:=HS1.o
  refine QJ (v:=.agg #[.string _,.int .i64 _]) (Qq results203 _ _ (w.heap.size+1) _ _ (0,0) _ rfl (Qi _ _ _ _ _ _ RR3) underlying49 rfl (by kernel_rfl)) rfl ⟨by rw [HC.o],?_⟩
  rw [HC.o,if_pos h3]
  refine StTo.row (StTo.fresh (Tch.allocs _ _ _ _) (StTo.trans MA TA ⟨g3,HP3,HM3,HT3⟩)) (by omega) RR3 (by decide) (by omega) (λg' _ hg e=>?_)
  exact HN.o g3 (HM2.o.trans HM3.o HT2.o.size) (.inr (by rw [e];exact hg.same HP3.o))
 ·have h3i:¬(3:Int)<=(m:Int):=by omega
  obtain ⟨e0,e1⟩:=rows rR2
  have fR:∀j,w2.frozen? ⟨w.heap.size+1,j,none⟩=false:=λj=>Qg _ _ _ _ _ rR2
  go_wp2
  rw [set2 _ _ _ _ _ _ _ RR2.out]
  obtain rfl:=HTB.o
  obtain rfl:=HS2.o
  obtain rfl:=HMM.o
  obtain rfl:=HS1.o
  refine QJ (v:=.agg #[.string _,.int .i64 _]) (Qq results203 _ _ (w.heap.size+1) _ _ (0,0) _ rfl (Qi _ _ _ _ _ _ RR2) underlying49 rfl (by kernel_rfl)) rfl ⟨by rw [HC.o],?_⟩
  rw [HC.o,if_neg h3]
  refine StTo.row (StTo.fresh (Tch.allocs _ _ _ _) ⟨g2,HP2,MA,TA⟩) (by omega) RR2 (by decide) (by omega) (λg' _ hg e=>?_)
  exact HN g2 HM2 (.inr (by rw [e];exact hg.same HP2))

theorem Jlu (x m:Nat) (p p1:PS) (h:p.num x 1=some (m,p1)):m<256:=by
 have:=Jbl x 1 (some p)
 rw [JS h] at this
 simpa using this
theorem Jbe (a o:Nat) (y:Nat×Nat) (p p2:PS) (h:p.out a o=some (y,p2)):∃p1,p.num a 8=some (y.1,p1)/\p1.num o 1=some (y.2,p2)/\p1.len<=p.len+8/\p2.len<=p.len+9/\y.2<256:=by
 unfold PS.out at h
 cases q:p.num a 8 with
 | none=>simp [q] at h
 | some r=>
  obtain ⟨a',p1⟩:=r
  simp only [q] at h
  cases q2:p1.num o 1 with
  | none=>simp [q2] at h
  | some s=>
   obtain ⟨o',p2'⟩:=s
   simp only [q2,Qh,Qw] at h
   obtain ⟨rfl,rfl⟩:=h
   have l1:=Zn _ _ _ _ _ q
   have l2:=Zn _ _ _ _ _ q2
   exact ⟨p1,rfl,q2,l1,by omega,Jlu _ _ _ _ q2⟩
def encO (o:Nat×Nat):VV:=(.int .u64 (o.1:Int),.int .u8 (o.2:Int))
def Jb0:XE (Nat×Nat) where
 f:=λo p=>p.out o.1 o.2
 grow:=9
 zero:=(0,0)
 zeroV:=zO
 Init:=λ_ _ _ x o=>x=encO o/\o.2<256
 Done:=λ_ _ _ x o=>x=encO o
theorem lawO (E:Nat->Addr) (b:Nat) (hb12:18<=b) (wd lim:Nat) (hl:lim<=80000000):Yw E b wd lim lkO.fP Jb0 ShO where
 init_tch:=λh _ _ _=>h
 init_zero:=λ_ _=>⟨rfl,by decide⟩
 init_shape:=λh=>⟨_,_,h.1⟩
 done_tch:=λh _ _ _=>h
 done_mono:=λh _=>h
 like:=λ{a a' p p'} h=>by
  obtain ⟨p1,h1,h2,_⟩:=Jbe _ _ _ _ _ h
  exact (XR h1).trans (XR h2)
 len:=λ{w x a a' p p'} _ h=>by
  obtain ⟨p1,_,_,_,h2,_⟩:=Jbe _ _ _ _ _ h
  exact h2
 call:=λ{w g p x a} hE hp hI hd=>by
  obtain ⟨rfl,ha⟩:=hI
  show Calls _ _ #[_,.agg #[.int .u64 (a.1:Int),.int .u8 (a.2:Int)]] _ _
  show Calls _ _ _ _ λe w'=>∃y,ShO y/\e=_/\ToP E w b g wd Jb0 (p.out a.1 a.2) y w'
  cases h:p.out a.1 a.2 with
  | none=>
   have hno:Calls prog 205 #[.pointer (some ⟨b,0,none⟩),.agg #[.int .u64 (a.1:Int),.int .u8 (a.2:Int)]] w λe w'=>∃x y:Int,e=.returned (.agg #[.int .u64 x,.int .u8 y])/\JaI E w w' b g wd:=by
    unfold PS.out at h
    cases h1:p.num a.1 8 with
    | none=>exact Jim E b g wd a.1 a.2 p w hE hp (by omega) h1
    | some r=>
     obtain ⟨a',p1⟩:=r
     simp only [h1] at h
     cases h2:p1.num a.2 1 with
     | none=>exact Jin E b hb12 g wd a.1 a.2 a' p p1 w hE hp (by omega) ha h1 h2
     | some r=>simp [h2] at h
   refine hno.mono ?_
   rintro e w' ⟨x,y,rfl,g',p',h1,h2,h3⟩
   exact ⟨(.int .u64 x,.int .u8 y),⟨_,_,rfl⟩,rfl,g',_,p',h1,h2,h3,.base⟩
  | some r=>
   obtain ⟨y,p2⟩:=r
   obtain ⟨p1,h1,h2,l1,l2,hy⟩:=Jbe _ _ _ _ _ h
   refine (Jkc b g wd a.1 a.2 y.1 y.2 p p1 p2 w hp (by omega) (by omega) ha h1 h2 hy).mono ?_
   rintro e w' ⟨rfl,g',k1,k2,k3⟩
   exact ⟨encO y,⟨_,_,rfl⟩,rfl,g',_,p2,k1,k2,k3,rfl,rfl,rfl⟩
def encC (c:BA×Int):VV:=(.string c.1,.int .i64 c.2)
def JbZ (wd:Nat):XE (BA×Int) where
 f:=λc p=>p.coin wd c
 grow:=wd+1
 zero:=(⟨#[]⟩,0)
 zeroV:=zC
 Init:=λ_ _ _ x c=>x=encC c
 Done:=λ_ _ _ x c=>x=encC c
theorem ZM {wd:Nat} {c y:BA×Int} {p p2:PS} (h:p.coin wd c=some (y,p2)):p.like p2/\p2.len<=p.len+(wd+1):=by
 unfold PS.coin at h
 cases q:p.txt c.1.data.toList wd with
 | none=>simp [q] at h
 | some r=>
  obtain ⟨t,p1⟩:=r
  simp only [q] at h
  cases q2:p1.num (JD c.2) 1 with
  | none=>simp [q2] at h
  | some s=>
   obtain ⟨m,p2'⟩:=s
   simp only [q2] at h
   split at h
   ·simp only [Qh,Qw] at h
    obtain ⟨_,rfl⟩:=h
    have l1:=JeP _ _ _ _ _ q
    have l2:=Zn _ _ _ _ _ q2
    exact ⟨(Jf2 q).trans (XR q2),by omega⟩
   ·cases h
theorem lawC (E:Nat->Addr) (b:Nat) (hb12:18<=b) (wd lim:Nat) (hl:lim+wd<=80000000):Yw E b wd lim lkC.fP (JbZ wd) ShC where
 init_tch:=λh _ _ _=>h
 init_zero:=λ_ _=>rfl
 init_shape:=λh=>⟨_,_,h⟩
 done_tch:=λh _ _ _=>h
 done_mono:=λh _=>h
 like:=λh=>(ZM h).1
 len:=λ_ h=>(ZM h).2
 call:=λ{w g p x a} hE hp hI hd=>by
  obtain rfl:=hI
  show Calls _ _ #[_,.agg #[.string a.1,.int .i64 a.2]] _ _
  refine (Jhd E b hb12 g wd a (some p) w hE hp (by simp only [JN];omega)).mono ?_
  rintro e w' ⟨rfl,g',k1,k2,k3⟩
  refine ⟨(.string _,.int .i64 _),⟨_,_,rfl⟩,rfl,?_⟩
  show ToP E w b g wd (JbZ wd) (p.coin wd a) _ w'
  cases h:p.coin wd a with
  | none=>
   rw [JfR wd a p h] at k1
   obtain ⟨p',t,u,h1,h2⟩:=k1
   exact ⟨g',_,p',h1,k2,k3,h2⟩
  | some r=>
   obtain ⟨y,p2⟩:=r
   obtain ⟨e1,e2⟩:=Jb5 wd a y p p2 h
   rw [e1] at k1
   exact ⟨g',_,p2,k1,k2,k3,rfl,rfl,by rw [e2];rfl⟩
theorem JdU:∀(l:List (Nat×Nat)) (p:PS),PS.many Jb0.f l p=PS.outs l p
 | [],_=>rfl
 | x :: r,p=>by
  simp only [PS.many,PS.outs]
  have e:Jb0.f x p=p.out x.1 x.2:=rfl
  rw [e]
  cases p.out x.1 x.2 with
  | none=>rfl
  | some q=>simp only [JdU r];cases PS.outs r q.2 <;> rfl
theorem JcD (wd:Nat):∀(l:List (BA×Int)) (p:PS),PS.many (JbZ wd).f l p=PS.coins wd l p
 | [],_=>rfl
 | x :: r,p=>by
  simp only [PS.many,PS.coins]
  have e:(JbZ wd).f x p=p.coin wd x:=rfl
  rw [e]
  cases p.coin wd x with
  | none=>rfl
  | some q=>simp only [JcD wd r];cases PS.coins wd r q.2 <;> rfl
theorem JkA (l:List (Nat×Nat)) (cnt:Nat):Jz (0,0) l cnt=YJ l cnt:=by
 unfold Jz YJ
 cases l <;> simp
theorem Jkz (l:List (BA×Int)) (cnt:Nat):Jz (⟨#[]⟩,0) l cnt=YI l cnt:=by
 unfold Jz YI
 cases l <;> simp
theorem Jj5 (least most:Nat) (l:List (Nat×Nat)) (p:PS):p.lst Jb0.f Jb0.zero 1 least most l=p.listO least most l:=by
 unfold PS.lst PS.listO
 cases p.num l.length 1 with
 | none=>rfl
 | some r=>simp only [JdU,<-JkA];rfl
theorem Jj4 (wd least most:Nat) (l:List (BA×Int)) (p:PS):p.lst (JbZ wd).f (JbZ wd).zero 1 least most l=p.listC wd least most l:=by
 unfold PS.lst PS.listC
 cases p.num l.length 1 with
 | none=>rfl
 | some r=>simp only [JcD,<-Jkz];rfl
theorem Jo.vat {B:Nat} {w:World} {v:Value} {l:List (Nat×Nat)} (h:Jo B w v l):VAt B w v (l.map encO):=by
 rcases h with ⟨h1,h2⟩ | ⟨gi,oi,c,h1,h2,h3,h4⟩
 ·exact .inl ⟨h1,by rw [h2];rfl⟩
 ·exact .inr ⟨gi,oi,c,by rw [QL];exact h1,h2,h3,λi hi=>by
   rw [List.getElem_map];exact h4 i (by simpa using hi)⟩
theorem JB.vat {B:Nat} {w:World} {v:Value} {l:List (BA×Int)} (h:JB B w v l):VAt B w v (l.map encC):=by
 rcases h with ⟨h1,h2⟩ | ⟨gi,oi,c,h1,h2,h3,h4⟩
 ·exact .inl ⟨h1,by rw [h2];rfl⟩
 ·exact .inr ⟨gi,oi,c,by rw [QL];exact h1,h2,h3,λi hi=>by
   rw [List.getElem_map];exact h4 i (by simpa using hi)⟩
theorem JbX {α:Type} (enc:α->VV):∀(xs:List VV) (ys:List α),xs.length=ys.length->(∀(j:Nat) x a,xs[j]? =some x->ys[j]? =some a->x=enc a)->xs=ys.map enc:=by
 intro xs ys hl h
 apply List.ext_getElem (by simpa using hl)
 intro j h1 h2
 rw [List.getElem_map]
 exact h j _ _ (Qd h1) (Qd (by omega))
def ToO (E:Nat->Addr) (w:World) (b:Nat) (g:Option Nat) (wd:Nat) (r:Option (List (Nat×Nat)×PS)) (e:Ending) (w':World):Prop:=
 match r with
 | some (ys,p2)=>∃gp,e=.returned (.slice (some ⟨gp,0,none⟩) ys.length ys.length)/\w.heap.size<=gp/\w'.heap[gp]? =some (.cells (vvA (ys.map encO)) 80)/\∃g',Jc w' b g' wd .nilIface p2/\some gp ≠ g'/\Jm w g g'/\Tch (λk=>k=b\/some k=g) w w'
 | none=>(∃a n c,e=.returned (.slice a n c))/\JaW E w w' b g wd
def ToC (E:Nat->Addr) (w:World) (b:Nat) (g:Option Nat) (wd:Nat) (r:Option (List (BA×Int)×PS)) (e:Ending) (w':World):Prop:=
 match r with
 | some (ys,p2)=>∃gp,e=.returned (.slice (some ⟨gp,0,none⟩) ys.length ys.length)/\w.heap.size<=gp/\w'.heap[gp]? =some (.cells (vvA (ys.map encC)) 49)/\∃g',Jc w' b g' wd .nilIface p2/\some gp ≠ g'/\Jm w g g'/\Tch (λk=>k=b\/some k=g) w w'
 | none=>(∃a n c,e=.returned (.slice a n c))/\JaW E w w' b g wd
theorem ToO.of {E:Nat->Addr} {w w':World} {b:Nat} {g:Option Nat} {wd:Nat} {r:Option (List (Nat×Nat)×PS)} {e:Ending} (h:ToL lkO E w b g wd Jb0 r e w'):ToO E w b g wd r e w':=by
 cases r with
 | none=>exact h
 | some r=>
  obtain ⟨ys,p2⟩:=r
  obtain ⟨gp,xs,h1,h2,h3,h4,g',h5,h6,h7,h8,h9⟩:=h
  exact ⟨gp,h1,h2,by rw [JbX encO xs ys h4 h7] at h3;exact h3,g',h5,h6,h8,h9⟩
theorem ToC.of {E:Nat->Addr} {w w':World} {b:Nat} {g:Option Nat} {wd:Nat} {r:Option (List (BA×Int)×PS)} {e:Ending} (h:ToL lkC E w b g wd (JbZ wd) r e w'):ToC E w b g wd r e w':=by
 cases r with
 | none=>exact h
 | some r=>
  obtain ⟨ys,p2⟩:=r
  obtain ⟨gp,xs,h1,h2,h3,h4,g',h5,h6,h7,h8,h9⟩:=h
  exact ⟨gp,h1,h2,by rw [JbX encC xs ys h4 h7] at h3;exact h3,g',h5,h6,h8,h9⟩
theorem ToO.shape {E:Nat->Addr} {w w':World} {b:Nat} {g:Option Nat} {wd:Nat} {r:Option (List (Nat×Nat)×PS)} {e:Ending} (h:ToO E w b g wd r e w'):∃a n c,e=.returned (.slice a n c):=by
 cases r with
 | none=>exact h.1
 | some r=>obtain ⟨gp,he,_⟩:=h;exact ⟨_,_,_,he⟩
theorem ToC.shape {E:Nat->Addr} {w w':World} {b:Nat} {g:Option Nat} {wd:Nat} {r:Option (List (BA×Int)×PS)} {e:Ending} (h:ToC E w b g wd r e w'):∃a n c,e=.returned (.slice a n c):=by
 cases r with
 | none=>exact h.1
 | some r=>obtain ⟨gp,he,_⟩:=h;exact ⟨_,_,_,he⟩
theorem JdS (E:Nat->Addr) (b:Nat) (hb12:18<=b) (g:Option Nat) (wd:Nat) (what:BA) (v:Value) (l:List (Nat×Nat)) (least most:Nat) (p0:PS) (w:World)
  (hE:Env E w) (hp:Jc w b g wd .nilIface p0) (hv:Jo b w v l) (hwh:what.size<=1000) (hl3:l.length<1000000) (hm3:most<=3) (hvc:p0.takes v) (ho:∀x∈l,x.2<256) (hd:p0.len<=70000000):
  Calls prog 204 #[.pointer (some ⟨b,0,none⟩),.agg #[.string what,.int .i64 ((1:Nat):Int),.int .u64 (least:Int),.int .u64 (most:Int)],v,.func (.func 205) #[.pointer (some ⟨b,0,none⟩)] #[]] w λe w'=>ToO E w b g wd (p0.listO least most l) e w':=by
 rw [<-Jj5]
 exact (Jlj (lawO E b hb12 wd 80000000 (by omega)) rfl hb12 g what hwh 1 least most v (l.map encO) l p0 w hE hp (hv.vat.up (Nat.le_of_lt hp.lt)) (hv.vat.free hp) (by simp) hl3 (by simp only [Jb0];omega) (by omega) (by omega) hm3 hvc (λj x a h1 h2=>by
  rw [List.getElem?_map,h2] at h1
  simp only [Option.map_some,Qh] at h1
  exact ⟨h1.symm,ho a (QR h2)⟩)).mono λe w' h=>ToO.of h
theorem Jia (E:Nat->Addr) (b:Nat) (hb12:18<=b) (g:Option Nat) (wd:Nat) (hw:wd<=1000) (what:BA) (v:Value) (l:List (BA×Int)) (least most:Nat) (p0:PS) (w:World)
  (hE:Env E w) (hp:Jc w b g wd .nilIface p0) (hv:JB b w v l) (hwh:what.size<=1000) (hl3:l.length<1000000) (hm3:most<=3) (hvc:p0.takes v) (hd:p0.len<=70000000):
  Calls prog 202 #[.pointer (some ⟨b,0,none⟩),.agg #[.string what,.int .i64 ((1:Nat):Int),.int .u64 (least:Int),.int .u64 (most:Int)],v,.func (.func 203) #[.pointer (some ⟨b,0,none⟩)] #[]] w λe w'=>ToC E w b g wd (p0.listC wd least most l) e w':=by
 rw [<-Jj4]
 exact (Jle (lawC E b hb12 wd 79000000 (by omega)) rfl hb12 g what hwh 1 least most v (l.map encC) l p0 w hE hp (hv.vat.up (Nat.le_of_lt hp.lt)) (hv.vat.free hp) (by simp) hl3 (by simp only [JbZ];omega) (by omega) (by omega) hm3 hvc (λj x a h1 h2=>by
  rw [List.getElem?_map,h2] at h1
  simp only [Option.map_some,Qh] at h1
  exact h1.symm)).mono λe w' h=>ToC.of h
theorem Zu (E:Nat->Addr) (b:Nat) (hb12:18<=b) (g:Option Nat) (wd:Nat) (v:Value) (l:List (Nat×Nat)) (p0:PS) (w:World)
  (hE:Env E w) (hp:Jc w b g wd .nilIface p0) (hv:Jo b w v l) (hl3:l.length<1000000) (hvc:p0.takes v) (ho:∀x∈l,x.2<256) (hd:p0.len<=70000000):
  Calls prog 188 #[.pointer (some ⟨b,0,none⟩),v] w λe w'=>
   ToO E w b g wd (p0.listO 1 3 l) e w':=by
 obtain ⟨ia,ic,hvs⟩:=hv.shape
 have hmf:∀(fn:Fn) (first cap:Array Value) (w:World),(Instr.makeFunc fn first cap).run prog w=.ok (.func fn first cap) w:=λ_ _ _ _=>rfl
 have HL':Hid (∀what:BA,what.size<=1000->_):=λwhat hwh=>JdS E b hb12 g wd what v l 1 3 p0 w hE hp hv hwh hl3 (by omega) hvc ho hd
 clear hE hp hv hvc ho
 subst hvs
 go_enter func188,ntmps188
 go_wp2_with fail
 refine (HL'.out _ (by decide)).mono ?_
 clear HL'
 intro e w1 h
 obtain ⟨a,n,c,rfl⟩:=h.shape
 have HH:Hid (ToO _ _ _ _ _ _ _ _):=h
 clear h
 go_wp2
 go_ret
 exact HH.o
