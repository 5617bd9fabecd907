/-
  The contract of trove/trovelaw.sixteens: bytes, as two digits each ('hexL').
-/
import Derived.Test.YtighkdnooglfjaaDoorDig
namespace Go.Proofs.YtighkdnooglfjaaDoor
open Go.RowKit

def digits : ByteArray := ⟨#[48, 49, 50, 51, 52, 53, 54, 55, 56, 57, 97, 98, 99, 100, 101, 102]⟩
def dg (n : Nat) : UInt8 := digits.data.toList.getD n 0
def hexL (l : List UInt8) : List UInt8 := l.flatMap fun c => [dg (c.toNat / 16), dg (c.toNat % 16)]

theorem hexL_length (l : List UInt8) : (hexL l).length = 2 * l.length := by
  induction l with
  | nil => rfl
  | cons a l ih => simp only [hexL, List.flatMap_cons, List.length_append] at ih ⊢; simp [ih]; omega
theorem hexL_step (s : ByteArray) (k : Nat) (h : k < s.size) : hexL (s.data.toList.take (k + 1)) = hexL (s.data.toList.take k) ++ [dg (s[k].toNat / 16), dg (s[k].toNat % 16)] := by
  rw [List.take_succ_eq_append_getElem (by simpa using h)]
  simp only [hexL, List.flatMap_append, List.flatMap_cons, List.flatMap_nil, List.append_nil]
  rfl
theorem slice_digit (d : Nat) (h : d < 16) (W : World) : (Instr.slice 9 (.string (⟨#[48, 49, 50, 51, 52, 53, 54, 55, 56, 57, 97, 98, 99, 100, 101, 102]⟩ : ByteArray)) (some (.int .u8 (d : Int))) (some (.int .u8 ((d : Int) + 1))) none).run Tryd.prog W = .ok (.string ⟨#[dg d]⟩) W := by
  rw [run_slice_string (P := Tryd.prog) W 9 (⟨#[48, 49, 50, 51, 52, 53, 54, 55, 56, 57, 97, 98, 99, 100, 101, 102]⟩ : ByteArray) .u8 .u8 (d : Int) ((d : Int) + 1) Tryd.underlying9 (by omega) (by omega) (by show (d : Int) + 1 ≤ 16; omega)]
  have e1 : ((d : Int) + 1).toNat = d + 1 := by omega
  rw [Int.toNat_natCast, e1]
  have : ∀ d : Fin 16, ((⟨#[48, 49, 50, 51, 52, 53, 54, 55, 56, 57, 97, 98, 99, 100, 101, 102]⟩ : ByteArray)).extract d.val (d.val + 1) = ⟨#[dg d.val]⟩ := by decide
  rw [this ⟨d, h⟩]
theorem u8wrap_small (x : Int) (h0 : 0 ≤ x) (h : x < 256) : IntKind.u8.wrap x = x := by
  simp [IntKind.wrap, IntKind.bits, IntKind.signed]; omega

set_option maxRecDepth 100000 in
set_option maxHeartbeats 1000000 in
theorem hex_any (s : ByteArray) (w : World) (hs : s.size ≤ 1000000) :
    Calls Tryd.prog 5 #[.string s] w fun e w' => e = .returned (.string ⟨(hexL s.data.toList).toArray⟩) ∧ ∃ n, w' = w.drewN n := by
  go_enter Tryd.func5, Tryd.ntmps5
  go_wp2
  go_loopw [4, 5] (fun t i wr => ∃ k n : Nat, k ≤ s.size ∧ i = .int .i64 k ∧ t = .string ⟨(hexL (s.data.toList.take k)).toArray⟩ ∧ wr = w.drewN n) (fun _ i _ => s.size - (intOf i).toNat)
  case atStart => exact ⟨0, 0, by omega, rfl, rfl, rfl⟩
  case round =>
    obtain ⟨k, n, hk, rfl, rfl, rfl⟩ := hrel
    by_cases hlt : k < s.size
    · have hlti : (k : Int) < (s.size : Int) := by omega
      have hc : s[k].toNat < 256 := UInt8.toNat_lt _
      obtain ⟨d1, hd1, hd1'⟩ : ∃ d1 : Nat, d1 = s[k].toNat / 16 ∧ d1 < 16 := ⟨_, rfl, by omega⟩
      obtain ⟨d2, hd2, hd2'⟩ : ∃ d2 : Nat, d2 = s[k].toNat % 16 ∧ d2 < 16 := ⟨_, rfl, by omega⟩
      have w1 : IntKind.u8.wrap ((s[k].toNat : Int) / 16) = (d1 : Int) := by rw [u8wrap_small _ (by omega) (by omega)]; omega
      have w2 : IntKind.u8.wrap ((d1 : Int) + 1) = (d1 : Int) + 1 := u8wrap_small _ (by omega) (by omega)
      have w3 : (s[k].toNat : Int) % 16 = (d2 : Int) := by omega
      have w4 : IntKind.u8.wrap ((d2 : Int) + 1) = (d2 : Int) + 1 := u8wrap_small _ (by omega) (by omega)
      have w5 : IntKind.u8.wrap (d2 : Int) = (d2 : Int) := u8wrap_small _ (by omega) (by omega)
      have b1 : (d1 : Int) + 1 ≤ 16 := by omega
      have b2 : (d2 : Int) + 1 ≤ 16 := by omega
      have H1 : Hid (d1 = s[k].toNat / 16) := hd1
      have H2 : Hid (d2 = s[k].toNat % 16) := hd2
      clear hd1 hd2
      have hs1 : ∀ W, (Instr.slice 9 (.string (⟨#[48, 49, 50, 51, 52, 53, 54, 55, 56, 57, 97, 98, 99, 100, 101, 102]⟩ : ByteArray)) (some (.int .u8 (d1 : Int))) (some (.int .u8 ((d1 : Int) + 1))) none).run Tryd.prog W = .ok (.string ⟨#[dg d1]⟩) W := slice_digit d1 hd1'
      have hs2 : ∀ W, (Instr.slice 9 (.string (⟨#[48, 49, 50, 51, 52, 53, 54, 55, 56, 57, 97, 98, 99, 100, 101, 102]⟩ : ByteArray)) (some (.int .u8 (d2 : Int))) (some (.int .u8 ((d2 : Int) + 1))) none).run Tryd.prog W = .ok (.string ⟨#[dg d2]⟩) W := slice_digit d2 hd2'
      obtain ⟨t1, ha1, ht1⟩ : ∃ t1 : ByteArray, (∀ W, (Op.stringOp .add ⟨(hexL (s.data.toList.take k)).toArray⟩ ⟨#[dg d1]⟩).run Tryd.prog W = .ok (.string t1) W) ∧ t1 = ⟨(hexL (s.data.toList.take k) ++ [dg d1]).toArray⟩ :=
        ⟨_, fun W => run_string_add_lists (P := Tryd.prog) W (hexL (s.data.toList.take k)) [dg d1] (by rw [hexL_length]; simp; omega) (by simp), rfl⟩
      obtain ⟨t2, ha2, ht2⟩ : ∃ t2 : ByteArray, (∀ W, (Op.stringOp .add t1 ⟨#[dg d2]⟩).run Tryd.prog W = .ok (.string t2) W) ∧ t2 = ⟨(hexL (s.data.toList.take (k + 1))).toArray⟩ := by
        refine ⟨_, fun W => ?_, rfl⟩
        rw [ht1, run_string_add_lists (P := Tryd.prog) W (hexL (s.data.toList.take k) ++ [dg d1]) [dg d2] (by rw [List.length_append, hexL_length]; simp; omega) (by simp), hexL_step s k hlt, ← H1.out, ← H2.out]
        simp
      have HT2 : Hid (t2 = _) := ht2
      clear ht2 ht1
      generalize dg d1 = g1 at *
      generalize dg d2 = g2 at *
      generalize (⟨(hexL (s.data.toList.take k)).toArray⟩ : ByteArray) = t at *
      go_wp2
      go_quiet (fail)
      go_wp2
      go_roundw
      case rel => exact ⟨k + 1, _, by omega, by go_num, by rw [HT2.out], rfl⟩
      case measure => simp [intOf]; omega
    · have HK : Hid (s.data.toList.take k = s.data.toList) := List.take_of_length_le (by simp; omega)
      go_wp2
      go_ret
      exact ⟨congrArg (fun l : List UInt8 => Ending.returned (.string ⟨(hexL l).toArray⟩)) HK.out, n, rfl⟩
end Go.Proofs.YtighkdnooglfjaaDoor
