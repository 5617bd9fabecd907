import Derived.Test.YtighkdnooglfjaaGreatDoorBxPBook
import Derived.Laws.AppendOwnNone
namespace Go.Proofs.YtighkdnooglfjaaGreatDoor
open Tryz
open Go.RowKit

theorem Tch.box (w:World) (o:Obj):Tch NoB w (w.alloc o).drew:=(Ta _ w o).trans (Td _ (w.alloc o) 1) (λ_ h=>.inl h)
theorem Tch.box2 (w:World) (o o':Obj):Tch NoB w ((w.alloc o).alloc o').drew:=((Ta _ w o).trans (Ta _ (w.alloc o) o') (λ_ h=>.inl h)).trans (Td _ ((w.alloc o).alloc o') 1) (λ_ h=>.inl h)
theorem Bs.tchOwn {base:Nat} {w w':World} {v:Value} {xs:List Value} (h:Bs base w v xs) (hg:w.grownBy w' v.ownBlock) {W:World} (hW:W.heap.size<=base) (k:Tch NoB W w):Tch NoB W w':=
 k.trans (Tg hg) (λj hj=>by
  have:=(h.own j hj.symm).1
  exact .inr (by omega))
theorem JgP {a b:BA} (h:a.data.toList=b.data.toList):a=b:=by
 cases a;cases b;simp only at h;rw [Array.toList_inj] at h;rw [h]
theorem JaT (b:Nat) (w:World) (k:Nat) (hb:b<256) (hc:w.cell? ⟨k,0,none⟩=some (.int .u8 (b:Int))):(convert 52 9 (.slice (some ⟨k,0,none⟩) 1 1)).run prog w=.ok (.string ⟨#[UInt8.ofNat b]⟩) w:=by
 have:=run_convert_bytes_back (P:=prog) w 52 9 5 ⟨k,0,none⟩ 1 [UInt8.ofNat b] underlying52 underlying5 underlying9 (λj hj=>by
  obtain rfl:j=0:=by simpa using hj
  rw [Addr.add_lit,Nat.zero_add,hc]
  simp [Nat.mod_eq_of_lt hb])
 exact this
theorem JfZ (b:Nat) (w:World) (hb:b<256):(convert 52 9 (.slice (some ⟨w.heap.size,0,none⟩) 1 1)).run prog (w.alloc (.cells #[.int .u8 (b:Int)] 5))=.ok (.string ⟨#[UInt8.ofNat b]⟩) (w.alloc (.cells #[.int .u8 (b:Int)] 5)):=by
 have:=run_convert_bytes_back (P:=prog) (w.alloc (.cells #[.int .u8 (b:Int)] 5)) 52 9 5 ⟨w.heap.size,0,none⟩ 1 [UInt8.ofNat b] underlying52 underlying5 underlying9 (λj hj=>by
  obtain rfl:j=0:=by simpa using hj
  rw [Addr.add_lit,Nat.zero_add,Ja (Qf _ _)]
  simp [Nat.mod_eq_of_lt hb])
 exact this

theorem Jhw (wj:Nat) (l:List (BA×Int)) (h:∀x∈l,Jo wj x):(l.flatMap Jd).length=l.length * (wj+1):=by
 induction l with
 | nil=>simp
 | cons x r ih=>rw [QG,Qe,JY (h x QN),ih (λy hy=>h y (QQ _ hy)),Qp,Nat.succ_mul];omega
theorem Jcx (o:Nat×Nat):(outB o).length=9:=by simp [outB,Je]
theorem Jdx (l:List (Nat×Nat)):(l.flatMap outB).length=l.length * 9:=by
 induction l with
 | nil=>simp
 | cons x r ih=>rw [QG,Qe,Jcx,ih,Qp,Nat.succ_mul];omega
def txA1 (t:TxL) (i:Nat):List UInt8:=beL t.1.length 1 1++(t.1.take i).flatMap Jd
def txA2 (t:TxL) (i:Nat):List UInt8:=txA1 t t.1.length++(beL t.2.length 1 1++(t.2.take i).flatMap outB)
theorem Jif (t:TxL) (i:Nat) (h:i<t.1.length):txA1 t (i+1)=txA1 t i++Jd t.1[i]:=by
 unfold txA1;rw [QR h];simp only [List.flatMap_append,QG,List.flatMap_nil,QC,Qs]
theorem Jj3 (t:TxL):txA2 t t.2.length=txB t:=by
 unfold txA2 txA1 txB Jcu Ju;rw [List.take_length,List.take_length]
theorem Jc4 (wj:Nat) (t:TxL) (h:TxOk wj t) (hw:wj<=32) (i:Nat):(txA1 t i).length<=100:=by
 unfold txA1
 rw [Qe,Je,Jhw wj _ (λx hx=>h.coins x (List.mem_of_mem_take hx)),QB]
 have:=h.ins
 have:min i t.1.length<=3:=by omega
 have:min i t.1.length * (wj+1)<=3 * (32+1):=Nat.mul_le_mul this (by omega)
 omega
theorem Jj4 (wj:Nat) (t:TxL) (h:TxOk wj t) (hw:wj<=32) (i:Nat):(txA2 t i).length<=200:=by
 unfold txA2
 rw [Qe,Qe,Je,Jdx,QB]
 have:=Jc4 wj t h hw t.1.length
 have:=h.made
 omega
theorem JZ (a b:List UInt8) (h:a.length+b.length<=1000000000) (W:World):(Op.stringOp .add (⟨a.toArray⟩:BA) ⟨b.toArray⟩).run Tryz.prog W=.ok (.string ⟨(a++b).toArray⟩) W:=by
 rw [run_string_add_sum (P:=Tryz.prog) W (⟨a.toArray⟩:BA) ⟨b.toArray⟩ (by show a.toArray.size+b.toArray.size<=_;simp;omega)]
 exact congrArg (λx=>Result.ok (Value.string x) W) (JgP (by simp))
theorem beL1 (n:Nat):beL n 1 1=[UInt8.ofNat n]:=by simp [beL]

theorem Je0 {l:List Held} {c:BA×Int} {k:Nat} (hk:k<l.length) (he:l[k].1=c) (hn:∀j (hj:j<l.length),j<k->l[j].1 ≠ c):Xr l c=some k:=by
 unfold Xr
 rw [List.findIdx?_eq_some_iff_getElem]
 exact ⟨hk,by simpa using he,λj hj=>by simpa using hn j (by omega) hj⟩
theorem JiO {l:List Held} {c:BA×Int} (hn:∀j (hj:j<l.length),l[j].1 ≠ c):Xr l c=none:=by
 unfold Xr
 rw [List.findIdx?_eq_none_iff]
 intro x hx
 obtain ⟨j,hj,rfl⟩:=List.getElem_of_mem hx
 simpa using hn j hj
def XF (l:List Held) (c:BA×Int):Int:=match Xr l c with | some k=>(k:Int) | none=> -1
