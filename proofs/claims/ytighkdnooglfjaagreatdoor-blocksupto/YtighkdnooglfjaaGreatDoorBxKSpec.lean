import Derived.Test.YtighkdnooglfjaaGreatDoorBxKRow
namespace Go.Proofs.YtighkdnooglfjaaGreatDoor
open Go.RowKit

def Jio (w:World) (v:Value) (ts:List TxL):Prop:=
 ∃l:List (Sl×Sl),JR w.heap.size w v l/\l.length=ts.length/\∀(j:Nat) x t,l[j]? =some x->ts[j]? =some t->Jz w.heap.size w (.slice x.1.1 x.1.2.1 x.1.2.2) t.1/\Jr w.heap.size w (.slice x.2.1 x.2.2.1 x.2.2.2) t.2
structure XP (E:Nat->Addr) (base:Nat) (w:World):Prop where
 env:Env E w
 sent:Sent E w
 vars:18<=base
 rows:∀g∈Ss,(E g).block<base
theorem XP.tch {E:Nat->Addr} {base:Nat} {S:Nat->Prop} {w w':World} (h:XP E base w) (k:Tch S w w') (hs:∀j,S j->base<=j):XP E base w':=
 ⟨h.env.tch k (λj hj=>Qm h.vars (hs j hj)),h.sent.tch k (λg hg hj=>by have:=hs _ hj;have:=h.rows g hg;omega),h.vars,h.rows⟩
def ZE (ch:Ch) (h:Int):BA:=if 0<=h then (ch.getD h.toNat (⟨#[]⟩,none)).1 else ⟨#[]⟩

def Xn (id:BA) (outs:List (Nat×Nat)) (n:Nat):List Held:=(List.range n).map λ(i:Nat)=>((id,(i:Int)),outs.getD i (0,0))
theorem JbL (id:BA) (outs:List (Nat×Nat)) (n:Nat):Xn id outs (n+1)=Xn id outs n++[((id,(n:Int)),outs.getD n (0,0))]:=by
 unfold Xn;rw [List.range_succ,List.map_append];rfl
theorem Je1 (id:BA) (outs:List (Nat×Nat)) (n:Nat):Xr (Xn id outs n) (id,(n:Int))=none:=by
 unfold Xr
 rw [List.findIdx?_eq_none_iff]
 intro x hx
 unfold Xn at hx
 rw [QL] at hx
 obtain ⟨i,hi,rfl⟩:=hx
 rw [List.mem_range] at hi
 simp only [decide_eq_false_iff_not]
 intro h
 have:=congrArg Prod.snd h
 simp only at this
 omega
theorem Jas (id:BA) (outs:List (Nat×Nat)):∀(r:List (Nat×Nat)) (n:Nat),outs.drop n=r->n+r.length=outs.length->∀(o:Nat) (b:Bool),∃o' b',YU id n r (Xn id outs n,o,b)=some (Xn id outs outs.length,o',b'):=by
 intro r
 induction r with
 | nil=>intro n _ hn o b;simp only [Qv,Nat.add_zero] at hn;subst hn;exact ⟨o,b,rfl⟩
 | cons x r ih=>
  intro n hd hn o b
  simp only [YU,Je1]
  have hlt:n<outs.length:=by simp only [Qp] at hn;omega
  have e:=List.drop_eq_getElem_cons hlt
  rw [hd] at e
  simp only [QH] at e
  have ex:outs.getD n (0,0)=x:=by simp [List.getD_eq_getElem?_getD,List.getElem?_eq_getElem hlt,e.1]
  have:=ih (n+1) e.2.symm (by simp only [Qp] at hn;omega) ((o+x.1) % M64) (b || decide ((o+x.1) % M64<o))
  rw [JbL,ex] at this
  exact this
theorem JfT (wj:Nat) (outs:List (Nat×Nat)) (ho:∀o∈outs,JC o) (h3:outs.length<=3) (id:BA) (hid:id.size=wj) (st:Option Tr) (h:Jv id 0 outs none=.ok st):Book wj st (Xn id outs outs.length):=by
 have B0:Book wj none []:=by
  refine ⟨?_,?_,?_,?_⟩
  ·intro t ht;cases ht
  ·intro h hh;exact (QD hh).elim
  ·exact List.nodup_nil
  ·intro k o;simp [JS]
 have:=Ja6 wj id hid outs ho 0 (by omega) none [] 0 false B0
 obtain ⟨o',b',e⟩:=Jas id outs outs 0 rfl (by omega) 0 false
 have e0:Xn id outs 0=[]:=rfl
 rw [e0] at e
 rw [show (0:Nat) % M64=0 from rfl,e] at this
 obtain ⟨st',e1,B,_⟩:=this
 rw [h] at e1
 cases e1
 exact B
