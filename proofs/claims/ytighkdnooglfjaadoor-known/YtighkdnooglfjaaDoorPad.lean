/-
  The contract of trove/digest.padded: the last bytes of a text, filled up as SHA-256 asks ('padL').
-/
import Derived.Test.YtighkdnooglfjaaDoorBs
import Derived.Test.YtighkdnooglfjaaDoorComp
namespace Go.Proofs.YtighkdnooglfjaaDoor
open Go.RowKit

theorem info5 : (Tryd.prog.info? 5).map (fun i => (i.zero, i.size, i.bytes)) = some (some (.int .u8 0), 1, 1) := by kernel_rfl
def bc (l : List UInt8) : List Value := l.map fun b => Value.int .u8 b.toNat
theorem bc_length (l : List UInt8) : (bc l).length = l.length := by simp [bc]
theorem bc_append (l m : List UInt8) : bc (l ++ m) = bc l ++ bc m := by simp [bc]
def slen : Value → Nat
  | .slice _ n _ => n
  | _ => 0
def zs (n : Nat) : Nat := (119 - n % 64) % 64
def be8 (n k : Nat) : List UInt8 := (List.range k).map fun j => UInt8.ofNat (n / 2 ^ (56 - 8 * j))
theorem be8_step (pre : List UInt8) (n j : Nat) : bc (pre ++ be8 (n * 8) (j + 1)) = bc (pre ++ be8 (n * 8) j) ++ [.int .u8 ((n : Int) * 8 / 2 ^ (56 - 8 * j) % 256)] := by
  have h : be8 (n * 8) (j + 1) = be8 (n * 8) j ++ [UInt8.ofNat (n * 8 / 2 ^ (56 - 8 * j))] := by simp [be8, List.range_succ]
  rw [h, ← List.append_assoc, bc_append]
  congr 1
def padL (r : List UInt8) (n : Nat) : List UInt8 := r ++ [128] ++ List.replicate (zs r.length) 0 ++ be8 (n * 8) 8

set_option maxRecDepth 100000 in
set_option maxHeartbeats 400000 in
theorem pad_any (s : ByteArray) (n : Nat) (w : World) (hs : s.size < 64) (hn : n < 1152921504606846976) :
    Calls Tryd.prog 15 #[.string s, .int .i64 n] w fun e w' => e = .returned (.string ⟨(padL s.data.toList n).toArray⟩) ∧ Below w.heap.size w w' := by
  obtain ⟨i0, hi, hz0, hz1, hz2⟩ := info_parts info5
  obtain ⟨v0, w0, hrun, hbs, hg⟩ := bs_of_string (P := Tryd.prog) w 9 36 5 s Tryd.underlying9 Tryd.underlying36 Tryd.underlying5 (by simp [maxLen]; omega)
  have hB0 : Below w.heap.size w w0 := (Below.refl _ _).grown hg (Nat.le_refl _) (fun _ e => by cases e)
  have hl0 : (byteCells s).length = s.size := byteCells_length s
  go_enter Tryd.func15, Tryd.ntmps15
  go_wp2_with (at_builtin; refine wpList_append_bs rfl _ _ 36 36 5 rfl i0 _ Tryd.underlying36 hi hz0 hz1 hz2 rfl rfl (hbs.alloc _) _ 1 [.int .u8 128] rfl (Src.ofSlice _ Tryd.underlying36 _ 1 1 _ rfl (cell_one_new _ _ _) (by simp [Value.oneCell'])) (by rw [hl0]; omega) (by have := hg.size; simp; omega) ?_; intro v1 w1 hbs1 hg1 _)
  have hbs1' : Bs w.heap.size w1 v1 (bc (s.data.toList ++ [128] ++ List.replicate 0 0)) := by simpa [bc, byteCells] using hbs1
  have hB1 : Below w.heap.size w w1 := by
    refine (hB0.alloc hB0.size _).grown hg1 (by have := hB0.size; simp; omega) (fun k e => ?_)
    exact (hbs.own k e).1
  clear hrun hg hl0 hbs1 hg1 hbs hB0
  go_loopw [5] (fun v wr => ∃ k : Nat, k ≤ zs s.size ∧ Bs w.heap.size wr v (bc (s.data.toList ++ [128] ++ List.replicate k 0)) ∧ Below w.heap.size w wr) (fun v _ => 200 - slen v)
  case atStart => exact ⟨0, Nat.zero_le _, hbs1', hB1⟩
  case round =>
    clear hbs1' hB1
    obtain ⟨k, hk, hb, hB⟩ := hrel
    have hL : (bc (s.data.toList ++ [128] ++ List.replicate k 0)).length = s.size + 1 + k := by
      have : s.data.toList.length = s.size := by simp
      rw [bc_length]; simp; omega
    obtain ⟨a, c, rfl⟩ : ∃ a c, u5 = .slice a (s.size + 1 + k) c := by rw [← hL]; exact hb.shape
    have hzs : zs s.size < 64 := Nat.mod_lt _ (by omega)
    by_cases hk2 : k < zs s.size
    · have ht : (((s.size : Int) + 1 + (k : Int)) % 64 != 56) = true := by
        rw [bne_iff_ne]; unfold zs at hk2 hzs; omega
      have hsz := hB.size
      go_wp2_with (at_builtin; refine wpList_append_bs rfl _ _ 36 36 5 rfl i0 _ Tryd.underlying36 hi hz0 hz1 hz2 rfl rfl (hb.alloc _) _ 1 [.int .u8 0] rfl (Src.ofSlice _ Tryd.underlying36 _ 1 1 _ rfl (cell_one_new _ _ _) (by simp [Value.oneCell'])) (by rw [hL]; omega) (by simp; omega) ?_; intro v2 w2 hbs2 hg2 _)
      have hb2 : Bs w.heap.size w2 v2 (bc (s.data.toList ++ [128] ++ List.replicate (k + 1) 0)) := by
        have e : bc (s.data.toList ++ [128] ++ List.replicate (k + 1) 0) = bc (s.data.toList ++ [128] ++ List.replicate k 0) ++ [.int .u8 0] := by
          rw [List.replicate_succ', ← List.append_assoc, bc_append]; rfl
        rw [e]; exact hbs2
      have hB2 : Below w.heap.size w w2 := (hB.alloc hB.size _).grown hg2 (by simp; omega) (fun k e => (hb.own k e).1)
      obtain ⟨a2, c2, hv2⟩ := hbs2.shape
      go_roundw
      case rel => exact ⟨k + 1, by omega, hb2, hB2⟩
      case measure =>
        have hL2 : (bc (s.data.toList ++ [128] ++ List.replicate k 0) ++ [Value.int .u8 0]).length = s.size + 1 + k + 1 := by rw [List.length_append, hL]; rfl
        rw [hv2, hL2]; simp [slen]; omega
    · have ht : ((s.size : Int) + 1 + (k : Int)) % 64 = 56 := by unfold zs at hk2 hk hzs; omega
      have hkz : Hid (k = zs s.size) := (by omega : k = zs s.size)
      go_wp2
      have HE : Hid (s.data.toList ++ [128] ++ List.replicate k 0 = s.data.toList ++ [128] ++ List.replicate (zs s.data.toList.length) 0) := by
        show _ = _
        rw [hkz.out]; simp
      generalize s.data.toList ++ [128] ++ List.replicate k 0 = pre at *
      have hL0 : pre.length = s.size + 1 + k := by rw [← bc_length]; exact hL
      go_loopw [5, 7] (fun v i wr => ∃ j : Nat, j ≤ 8 ∧ i = .int .i64 (56 - 8 * (j : Int)) ∧ Bs w.heap.size wr v (bc (pre ++ be8 (n * 8) j)) ∧ Below w.heap.size w wr) (fun _ i _ => (intOf i + 8).toNat)
      case atStart => exact ⟨0, by omega, rfl, by simpa [be8] using hb, hB⟩
      case round =>
        clear hb hB ht hL hk2 hkz
        obtain ⟨j, hj, rfl, hb, hB⟩ := hrel
        have hL : (bc (pre ++ be8 (n * 8) j)).length = s.size + 1 + k + j := by rw [bc_length]; simp [be8, hL0]
        by_cases hj2 : j < 8
        · have hsz := hB.size
          go_wp2_with (at_builtin; refine wpList_append_bs rfl _ _ 36 36 5 rfl i0 _ Tryd.underlying36 hi hz0 hz1 hz2 rfl rfl (hb.alloc _) _ 1 [_] rfl (Src.ofSlice _ Tryd.underlying36 _ 1 1 _ rfl (cell_one_new _ _ _) (by simp [Value.oneCell'])) (by rw [hL]; omega) (by simp; omega) ?_; intro v2 w2 hbs2 hg2 _)
          have hb2 : Bs w.heap.size w2 v2 (bc (pre ++ be8 (n * 8) (j + 1))) := by rw [be8_step]; exact hbs2
          have hB2 : Below w.heap.size w w2 := (hB.alloc hB.size _).grown hg2 (by simp; omega) (fun k e => (hb.own k e).1)
          exact ⟨⟨j + 1, by omega, congrArg (Value.int .i64) (by omega), hb2, hB2⟩, by simp only [intOf]; omega⟩
        · have hj8 : Hid (j = 8) := (by omega : j = 8)
          have hstr := run_string_of_bs (P := Tryd.prog) hb 36 9 5 Tryd.underlying36 Tryd.underlying5 Tryd.underlying9
          have HE2 : Hid (pre ++ be8 (n * 8) j = padL s.data.toList n) := by
            show _ = _
            rw [hj8.out, HE.out]; rfl
          generalize pre ++ be8 (n * 8) j = fin at *
          go_wp2
          go_ret
          exact ⟨by rw [← HE2.out]; rfl, hB⟩
end Go.Proofs.YtighkdnooglfjaaDoor
