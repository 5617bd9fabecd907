/-
  A reader, whatever its state is: that it is a reader stays. Header; Body behind something wrong.
-/
import Derived.Test.YtighkdnooglfjaaGreatDoorPdChI
namespace Go.Proofs.YtighkdnooglfjaaGreatDoor
open Go.RowKit

/-- A reader, whatever its state is. -/
def RdSt (E : Nat → Addr) (w : World) (b : Nat) (width : Int) : Option PS → Prop
  | some p => PortAt w b none width .nilIface p ∧ ∃ q r, p = .rd q r
  | none => ∃ q r t u, PortAt w b none width (.iface t u) (.rd q r) ∧ ErrIs E 7 w (.iface t u)
def RdTo (E : Nat → Addr) (w w' : World) (b : Nat) (width : Int) (st' : Option PS) : Prop := RdSt E w' b width st' ∧ Tch (fun k => k = b) w w'
theorem num_rd {x n m : Nat} {q r : List UInt8} {p' : PS} (h : (PS.rd q r).num x n = some (m, p')) : ∃ q' r', p' = .rd q' r' := by
  simp only [PS.num] at h
  split at h
  · cases h; exact ⟨_, _, rfl⟩
  · cases h
theorem txt_rd {s t : List UInt8} {n : Nat} {q r : List UInt8} {p' : PS} (h : (PS.rd q r).txt s n = some (t, p')) : ∃ q' r', p' = .rd q' r' := by
  simp only [PS.txt] at h
  split at h
  · cases h; exact ⟨_, _, rfl⟩
  · cases h
theorem PortTo.rd {w w' : World} {b : Nat} {width : Int} {q r : List UInt8} (E : Nat → Addr) (h : PortTo w w' b none width (.rd q r)) : RdTo E w w' b width (some (.rd q r)) := by
  obtain ⟨g', h1, _, h3⟩ := h
  obtain rfl := h1.1
  exact ⟨⟨h1, _, _, rfl⟩, h3.mono (fun j hj => by rcases hj with h | h; exact .inl h; cases h)⟩
theorem number_rs (E : Nat → Addr) (b : Nat) (width : Int) (x n : Nat) (st : Option PS) (w : World) (hE : Env E w) (hp : RdSt E w b width st) (h8 : n ≤ 8) (hd : stLen st ≤ 100000000) :
    Calls Tryz.prog 138 #[.pointer (some ⟨b, 0, none⟩), .int .u64 (x : Int), .int .i64 (n : Int)] w fun e w' => e = .returned (.int .u64 ((stNum x n st).1 : Int)) ∧ RdTo E w w' b width (stNum x n st).2 := by
  unfold stNum
  cases st with
  | none =>
    obtain ⟨q, r, t, u, h1, h2⟩ := hp
    refine (number_err b none width _ _ _ t u w h1).mono ?_
    rintro e w' ⟨rfl, rfl⟩
    exact ⟨rfl, ⟨q, r, t, u, h1, h2⟩, Tch.refl _ _⟩
  | some p =>
    obtain ⟨hp, q, r, rfl⟩ := hp
    simp only [Option.bind_some]
    cases h : (PS.rd q r).num x n with
    | none =>
      refine (number_none E b none width x n _ w hE hp h8 hd h).mono ?_
      rintro e w' ⟨rfl, h1, h2⟩
      exact ⟨rfl, ⟨q, r, _, _, h1, .base⟩, h2⟩
    | some y =>
      obtain ⟨m, p'⟩ := y
      obtain ⟨q', r', rfl⟩ := num_rd h
      exact (number_some b none width x n m _ _ w hp h8 hd h).mono fun e w' ⟨h1, h2⟩ => ⟨h1, h2.rd E⟩
theorem text_rs (E : Nat → Addr) (b : Nat) (width : Int) (s : ByteArray) (n : Nat) (st : Option PS) (w : World) (hE : Env E w) (hp : RdSt E w b width st) (hd : stLen st + n ≤ 100000000) :
    Calls Tryz.prog 209 #[.pointer (some ⟨b, 0, none⟩), .string s, .int .i64 (n : Int)] w fun e w' => e = .returned (.string ⟨(stTxt s.data.toList n st).1.toArray⟩) ∧ RdTo E w w' b width (stTxt s.data.toList n st).2 := by
  unfold stTxt
  cases st with
  | none =>
    obtain ⟨q, r, t, u, h1, h2⟩ := hp
    refine (text_err b none width _ _ _ t u w h1).mono ?_
    rintro e w' ⟨rfl, rfl⟩
    exact ⟨rfl, ⟨q, r, t, u, h1, h2⟩, Tch.refl _ _⟩
  | some p =>
    obtain ⟨hp, q, r, rfl⟩ := hp
    simp only [Option.bind_some]
    cases h : (PS.rd q r).txt s.data.toList n with
    | none =>
      refine (text_none E b none width s n _ w hE hp (by simp only [stLen] at hd; omega) h).mono ?_
      rintro e w' ⟨rfl, h1, h2⟩
      exact ⟨rfl, ⟨q, r, _, _, h1, .base⟩, h2⟩
    | some y =>
      obtain ⟨m, p'⟩ := y
      obtain ⟨q', r', rfl⟩ := txt_rd h
      exact (text_some b none width s n m _ _ w hp hd h).mono fun e w' ⟨h1, h2⟩ => ⟨h1, h2.rd E⟩
theorem RdSt.st {E : Nat → Addr} {w : World} {b : Nat} {width : Int} {st : Option PS} (h : RdSt E w b width st) : PortSt E w b none width st := by
  cases st with
  | none => obtain ⟨q, r, t, u, h1, h2⟩ := h; exact ⟨_, t, u, h1, h2⟩
  | some p => exact h.1
theorem RdSt.tch {E : Nat → Addr} {S : Nat → Prop} {w w' : World} {b : Nat} {width : Int} {st : Option PS} (h : RdSt E w b width st) (k : Tch S w w') (hb : ¬ S b) (hs : ∀ p s u, w.heap[p]? = some (.cells #[.string s, u] 237) → ¬ S p) : RdSt E w' b width st := by
  cases st with
  | some p => exact ⟨h.1.tch k hb (fun _ h => by cases h), h.2⟩
  | none => obtain ⟨q, r, t, u, h1, h2⟩ := h; exact ⟨q, r, t, u, h1.tch k hb (fun _ h => by cases h), h2.tch k hs⟩
set_option maxRecDepth 100000 in
set_option maxHeartbeats 400000 in
theorem digest_rs (E : Nat → Addr) (b : Nat) (width : Nat) (s : ByteArray) (st : Option PS) (w : World) (hE : Env E w) (hp : RdSt E w b width st) (hd : stLen st + width ≤ 100000000) :
    Calls Tryz.prog 139 #[.pointer (some ⟨b, 0, none⟩), .string s] w fun e w' => e = .returned (.string ⟨(stTxt s.data.toList width st).1.toArray⟩) ∧ RdTo E w w' b width (stTxt s.data.toList width st).2 := by
  have c1 := hp.st.width
  have HC : Hid (Calls Tryz.prog 209 _ w _) := text_rs E b width s width st w hE hp hd
  clear hp hE
  go_enter Tryz.func139, Tryz.ntmps139
  go_wp2_with fail
  refine HC.out.mono ?_
  rintro _ w1 ⟨rfl, h⟩
  have HS : Hid (RdTo _ _ _ _ _ _) := h
  clear h HC
  go_wp2
  go_ret
  exact ⟨rfl, HS.out⟩
/-- A reader behind calls. -/
structure RRun (E : Nat → Addr) (w0 wA w : World) (b : Nat) (width : Int) (st : Option PS) : Prop where
  env : Env E w
  port : RdSt E w b width st
  tch : Tch (fun k => k = b) wA w
  a : Tch (fun _ => False) w0 wA
  lo : 18 ≤ b
  lt : b < w0.heap.size
theorem RRun.step {E : Nat → Addr} {w0 wA w w' : World} {b : Nat} {width : Int} {st st' : Option PS} (h : RRun E w0 wA w b width st) (k : RdTo E w w' b width st') : RRun E w0 wA w' b width st' :=
  ⟨h.env.tch k.2 (fun j hj => by have := h.lo; omega), k.1, h.tch.trans k.2 (fun j hj => .inl hj), h.a, h.lo, h.lt⟩
theorem RRun.box {E : Nat → Addr} {w0 wA w : World} {b : Nat} {width : Int} {st : Option PS} (h : RRun E w0 wA w b width st) {k : Nat} {o : Obj} (hk : w0.heap.size ≤ k) (hA : wA.heap[k]? = some o) : w.heap[k]? = some o :=
  (h.tch.block k (Array.getElem?_eq_some_iff.1 hA).1 (fun e => by have := h.lt; omega)).trans hA
set_option maxRecDepth 100000 in
set_option maxHeartbeats 400000 in
theorem header_rs (E : Nat → Addr) (b : Nat) (hb12 : 18 ≤ b) (width : Nat) (n : Nat) (s1 s2 s3 : ByteArray) (st : Option PS) (w : World) (hE : Env E w) (hp : RdSt E w b width st) (hd : stLen st + 4 * width ≤ 90000000) :
    Calls Tryz.prog 86 #[.pointer (some ⟨b, 0, none⟩), .agg #[.int .u64 (n : Int), .string s1, .string s2, .string s3]] w fun e w' => e = .returned (hdV (stHdr width (n, s1, s2, s3) st).1) ∧ RdTo E w w' b width (stHdr width (n, s1, s2, s3) st).2 := by
  have hlt := hp.st.lt
  have hA := Tch.allocs (fun _ => False) w (.cells #[.int .u64 (n : Int), .string s1, .string s2, .string s3] 167) (.cells #[.int .u64 0, .string ⟨#[]⟩, .string ⟨#[]⟩, .string ⟨#[]⟩] 167)
  have HR0 : RRun E w _ _ b width st := ⟨hE.tch hA (fun _ h => h.elim), hp.tch hA (fun h => h) (fun _ _ _ _ h => h), Tch.refl _ _, hA, hb12, hlt⟩
  have hl0 := stNum_len n 4 st
  have hl1 := stTxt_len s1.data.toList width (stNum n 4 st).2
  have hl2 := stTxt_len s2.data.toList width (stTxt s1.data.toList width (stNum n 4 st).2).2
  have RUN : Hid (RRun _ _ _ _ _ _ _) := HR0
  clear hE hp HR0 hA
  go_enter Tryz.func86, Tryz.ntmps86
  go_wp2_with fail
  refine (number_rs E b width n 4 st _ RUN.out.env RUN.out.port (by omega) (by omega)).mono ?_
  rintro _ w1 ⟨rfl, h⟩
  have R1 := RUN.out.step h
  have bx1 := R1.box (k := w.heap.size) (Nat.le_refl _) (heap_alloc2_old _ _ _)
  have c1 : w1.cell? ⟨w.heap.size, 1, none⟩ = some (.string s1) := cell_of_row _ _ _ _ _ _ bx1
  have RUN1 : Hid (RRun _ _ _ _ _ _ _) := R1
  clear R1 bx1 h
  go_wp2_with fail
  refine (digest_rs E b width s1 _ _ RUN1.out.env RUN1.out.port (by omega)).mono ?_
  rintro _ w2 ⟨rfl, h⟩
  have R2 := RUN1.out.step h
  have bx2 := R2.box (k := w.heap.size) (Nat.le_refl _) (heap_alloc2_old _ _ _)
  have c2 : w2.cell? ⟨w.heap.size, 2, none⟩ = some (.string s2) := cell_of_row _ _ _ _ _ _ bx2
  have RUN2 : Hid (RRun _ _ _ _ _ _ _) := R2
  clear R2 bx2 h
  go_wp2_with fail
  refine (digest_rs E b width s2 _ _ RUN2.out.env RUN2.out.port (by omega)).mono ?_
  rintro _ w3 ⟨rfl, h⟩
  have R3 := RUN2.out.step h
  have bx3 := R3.box (k := w.heap.size) (Nat.le_refl _) (heap_alloc2_old _ _ _)
  have c3 : w3.cell? ⟨w.heap.size, 3, none⟩ = some (.string s3) := cell_of_row _ _ _ _ _ _ bx3
  have RUN3 : Hid (RRun _ _ _ _ _ _ _) := R3
  clear R3 bx3 h
  go_wp2_with fail
  refine (digest_rs E b width s3 _ _ RUN3.out.env RUN3.out.port (by omega)).mono ?_
  rintro _ w4 ⟨rfl, h⟩
  have R4 := RUN3.out.step h
  have rR := R4.box (k := w.heap.size + 1) (by omega) (heap_alloc2_new _ _ _)
  have e0 : w4.cell? ⟨w.heap.size + 1, 0, none⟩ = some (.int .u64 0) := cell_of_row _ _ _ _ _ _ rR
  have e1 : w4.cell? ⟨w.heap.size + 1, 1, none⟩ = some (.string ⟨#[]⟩) := cell_of_row _ _ _ _ _ _ rR
  have e2 : w4.cell? ⟨w.heap.size + 1, 2, none⟩ = some (.string ⟨#[]⟩) := cell_of_row _ _ _ _ _ _ rR
  have e3 : w4.cell? ⟨w.heap.size + 1, 3, none⟩ = some (.string ⟨#[]⟩) := cell_of_row _ _ _ _ _ _ rR
  have fR : ∀ j, w4.frozen? ⟨w.heap.size + 1, j, none⟩ = false := fun j => frozen_of_row _ _ _ _ _ rR
  have RUN4 : Hid (RRun _ _ _ _ _ _ _) := R4
  have RR : Hid (_ = _) := rR
  clear R4 rR h
  go_wp2
  rw [set4 _ _ _ _ _ _ _ _ _ _ _ RR.out]
  have hN := RUN4.out.a.size
  refine bodyPost_ret (v := hdV (stHdr width (n, s1, s2, s3) st).1) (results_cell_row Tryz.results86 _ _ (w.heap.size + 1) _ _ (0, 0) _ rfl (setRow_heap _ _ _ _ _ _ RR.out) Tryz.underlying167 rfl (by kernel_rfl)) rfl ⟨rfl, RUN4.out.port.tch (Tch.setRow _ _ _) (by omega) (fun p s u hp e => by subst e; rw [RR.out] at hp; simp at hp), ?_⟩
  exact ((RUN4.out.a.mono (fun _ h => h.elim)).trans RUN4.out.tch (fun j hj => .inl hj)).trans (Tch.setRow _ _ _) (fun j hj => .inr (by omega))
set_option maxRecDepth 100000 in
set_option maxHeartbeats 400000 in
theorem body_err (b : Nat) (g : Option Nat) (width : Nat) (ia : Option Addr) (n ic : Nat) (p0 : PS) (t : TypeId) (u : Value) (w : World) (hp : PortAt w b g width (.iface t u) p0) :
    Calls Tryz.prog 78 #[.pointer (some ⟨b, 0, none⟩), .slice ia n ic] w fun e w' => e = .returned (.slice none 0 0) ∧ PortAt w' b g width (.iface t u) p0 ∧ Tch (fun _ => False) w w' := by
  have hmf : ∀ (fn : Fn) (first cap : Array Value) (w : World), (Instr.makeFunc fn first cap).run Tryz.prog w = .ok (.func fn first cap) w := fun _ _ _ _ => rfl
  have HL : Hid (∀ what : ByteArray, what.size ≤ 1000 → _) := fun what hwh => lsT_err b g width what hwh 1 0 3 (.slice ia n ic) ia n ic rfl p0 t u w hp
  clear hp
  go_enter Tryz.func78, Tryz.ntmps78
  go_wp2_with fail
  refine (HL.out _ (by decide)).mono ?_
  clear HL
  rintro e w1 ⟨rfl, h⟩
  have HH : Hid (PortAt _ _ _ _ _ _ ∧ _) := h
  clear h
  go_wp2
  go_ret
  exact ⟨rfl, HH.out⟩
end Go.Proofs.YtighkdnooglfjaaGreatDoor
