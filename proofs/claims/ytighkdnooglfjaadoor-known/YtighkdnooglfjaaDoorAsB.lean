/-
  The contract of trove/digest.asBytes: eight words as 32 bytes, the greatest first ('asB').
-/
import Derived.Test.YtighkdnooglfjaaDoorPad
namespace Go.Proofs.YtighkdnooglfjaaDoor
open Go.RowKit

/-- Byte j of a word. -/
def byteOf (x : Int) (j : Nat) : Int := x / 2 ^ (24 - 8 * j) % 256
def S8.list (s : S8) : List Int := [s.a, s.b, s.c, s.d, s.e, s.f, s.g, s.h]
def asB (s : S8) : Nat → List Int
  | 0 => []
  | k + 1 => asB s k ++ [byteOf (s.list.getD (k / 4) 0) (k % 4)]
theorem asB_length (s : S8) (k : Nat) : (asB s k).length = k := by
  induction k with
  | zero => rfl
  | succ k ih => simp [asB, ih]
theorem asB_step (s : S8) (k j : Nat) (hj : j < 4) : asB s (4 * k + (j + 1)) = asB s (4 * k + j) ++ [byteOf (s.list.getD k 0) j] := by
  show asB s (4 * k + j) ++ [byteOf (s.list.getD ((4 * k + j) / 4) 0) ((4 * k + j) % 4)] = _
  rw [show (4 * k + j) / 4 = k by omega, show (4 * k + j) % 4 = j by omega]
def arr8 (l : List Int) : Array Value := (l.map (Value.int .u8) ++ List.replicate (32 - l.length) (Value.int .u8 0)).toArray
theorem arr8_old (l : List Int) (k : Nat) (hk : k < l.length) : (arr8 l)[k]? = some (.int .u8 (l.getD k 0)) := by
  simp [arr8, List.getElem?_append, hk, List.getD_eq_getElem?_getD]
theorem arr8_new (l : List Int) (hk : l.length < 32) : (arr8 l)[l.length]? = some (.int .u8 0) := by
  have : ¬ 32 - l.length = 0 := by omega
  simp [arr8, List.getElem?_append, List.getElem?_replicate]; omega
theorem arr8_set (l : List Int) (v : Int) (hk : l.length < 32) : (arr8 l).setIfInBounds l.length (.int .u8 v) = arr8 (l ++ [v]) := by
  obtain ⟨m, hm⟩ : ∃ m, 32 - l.length = m + 1 := ⟨31 - l.length, by omega⟩
  have hm' : 32 - (l ++ [v]).length = m := by simp; omega
  unfold arr8
  rw [hm, hm', List.replicate_succ]
  simp [List.setIfInBounds_toArray]
theorem arr8_size (l : List Int) (h : l.length ≤ 32) : (arr8 l).size = 32 := by simp [arr8]; omega
theorem arr8_one (l : List Int) : (arr8 l).all (·.oneCell') = true := by
  rw [Array.all_eq_true_iff_forall_mem]
  intro v hv
  simp [arr8] at hv
  rcases hv with ⟨a, _, rfl⟩ | ⟨_, rfl⟩ <;> rfl
/-- Three new blocks: the words, the result, the bytes in the making. -/
abbrev W3 (w : World) (o : Obj) (l : List Int) : World := ((w.alloc o).alloc (.cells (arr8 []) 34)).alloc (.cells (arr8 l) 34)
theorem W3_heap (w : World) (o : Obj) (l : List Int) : (W3 w o l).heap[w.heap.size + 1 + 1]? = some (.cells (arr8 l) 34) := by
  have := heap_alloc_new ((w.alloc o).alloc (.cells (arr8 []) 34)) (.cells (arr8 l) 34)
  simpa using this
theorem W3_new (w : World) (o : Obj) (l : List Int) (k : Nat) (hl : l.length = k) (hk : k < 32) : (W3 w o l).cell? ⟨w.heap.size + 1 + 1, k, none⟩ = some (.int .u8 0) := by
  subst hl; rw [cell_of_row _ _ _ _ _ _ (W3_heap w o l)]; exact arr8_new l hk
theorem W3_frozen (w : World) (o : Obj) (l : List Int) (k : Nat) : (W3 w o l).frozen? ⟨w.heap.size + 1 + 1, k, none⟩ = false := frozen_of_row _ _ _ _ _ (W3_heap w o l)
theorem W3_set (w : World) (o : Obj) (l : List Int) (v : Int) (k : Nat) (hl : l.length = k) (hk : k < 32) : (W3 w o l).setCell ⟨w.heap.size + 1 + 1, k, none⟩ (.int .u8 v) = W3 w o (l ++ [v]) := by
  subst hl
  rw [World.setCell_alloc_at _ _ _ _ _ (by simp), arr8_set l v hk]
theorem W3_below (w : World) (o : Obj) (l : List Int) : Below w.heap.size w (W3 w o l) :=
  (((Below.refl w.heap.size w).alloc (Nat.le_refl _) o).alloc (by simp) _).alloc (by simp; omega) _
theorem index8 (x0 x1 x2 x3 x4 x5 x6 x7 : Int) (k : Nat) (hk : k < 8) (w : World) :
    (Instr.index 45 (.agg #[.int .u32 x0, .int .u32 x1, .int .u32 x2, .int .u32 x3, .int .u32 x4, .int .u32 x5, .int .u32 x6, .int .u32 x7]) (.int .i64 (k : Int))).run Tryd.prog w = .ok (.int .u32 ((S8.list ⟨x0, x1, x2, x3, x4, x5, x6, x7⟩).getD k 0)) w := by
  obtain rfl | rfl | rfl | rfl | rfl | rfl | rfl | rfl : k = 0 ∨ k = 1 ∨ k = 2 ∨ k = 3 ∨ k = 4 ∨ k = 5 ∨ k = 6 ∨ k = 7 := by omega
  all_goals kernel_rfl

set_option maxRecDepth 100000 in
set_option maxHeartbeats 400000 in
theorem asb_any (s : S8) (w : World) :
    Calls Tryd.prog 16 #[s.val] w fun e w' => e = .returned (.agg (arr8 (asB s 32))) ∧ Below w.heap.size w w' := by
  obtain ⟨x0, x1, x2, x3, x4, x5, x6, x7⟩ := s
  unfold S8.val
  have hix := index8 x0 x1 x2 x3 x4 x5 x6 x7
  go_enter Tryd.func16, Tryd.ntmps16
  go_wp2
  generalize hS : (⟨x0, x1, x2, x3, x4, x5, x6, x7⟩ : S8) = S at *
  have HSS : Hid (_ = S) := hS
  clear hS
  generalize hO : (Obj.cells #[.int .u32 x0, .int .u32 x1, .int .u32 x2, .int .u32 x3, .int .u32 x4, .int .u32 x5, .int .u32 x6, .int .u32 x7] 45) = O
  clear hO
  have HX : Hid (∀ k : Nat, k < 8 → ∀ w, _) := hix
  clear hix
  go_loopw [8] (fun i wr => ∃ k : Nat, k ≤ 8 ∧ i = .int .i64 k ∧ wr = W3 w O (asB S (4 * k))) (fun i _ => 8 - (intOf i).toNat)
  case atStart => exact ⟨0, by omega, rfl, rfl⟩
  case round =>
    obtain ⟨k, hk, rfl, rfl⟩ := hrel
    by_cases hlt : k < 8
    · have hx := HX.out k hlt
      have HN : Hid (∀ j : Nat, j < 4 → asB S (4 * k + (j + 1)) = asB S (4 * k + j) ++ [byteOf (S.list.getD k 0) j]) := fun j hj => asB_step S k j hj
      generalize S.list.getD k 0 = x at hx HN
      have hd : decide ((k : Int) < 8) = true := by simp; omega
      go_wp2
      go_loopw [12] (fun i wr => ∃ j : Nat, j ≤ 4 ∧ i = .int .i64 j ∧ wr = W3 w O (asB S (4 * k + j))) (fun i _ => 4 - (intOf i).toNat)
      case atStart => exact ⟨0, by omega, rfl, rfl⟩
      case round =>
        obtain ⟨j, hj, rfl, rfl⟩ := hrel
        by_cases hj2 : j < 4
        · have hl := asB_length S (4 * k + j)
          have hc := W3_new w O (asB S (4 * k + j)) (4 * k + j) hl (by omega)
          have hf := W3_frozen w O (asB S (4 * k + j)) (4 * k + j)
          have HS : Hid (∀ v, (W3 w O (asB S (4 * k + j))).setCell ⟨w.heap.size + 1 + 1, 4 * k + j, none⟩ (.int .u8 v) = W3 w O (asB S (4 * k + j) ++ [v])) := fun v => W3_set w O (asB S (4 * k + j)) v (4 * k + j) hl (by omega)
          generalize hW : W3 w O (asB S (4 * k + j)) = W at *
          clear hW hl hx
          go_wp2
          go_roundw
          case rel => exact ⟨j + 1, by omega, by go_num, by rw [HN.out j hj2]; exact HS.out _⟩
          case measure => simp [intOf]; omega
        · have HJ : Hid (4 * k + j = 4 * (k + 1)) := (by omega : 4 * k + j = 4 * (k + 1))
          clear hx
          go_wp2
          go_roundw
          case rel => exact ⟨k + 1, by omega, by go_num, by rw [HJ.out]⟩
          case measure => simp [intOf]; omega
    · have hk8 : Hid (k = 8) := (by omega : k = 8)
      have hA : (arr8 (asB S (4 * k))).size = 32 := arr8_size _ (by rw [asB_length]; omega)
      have hA1 : (arr8 (asB S (4 * k))).all (·.oneCell') = true := arr8_one _
      have hG := W3_heap w O (asB S (4 * k))
      have hG0 : (W3 w O (asB S (4 * k))).heap[w.heap.size + 1]? = some (.cells (arr8 []) 34) := by
        rw [Below.heap_alloc _ _ _ (by simp)]
        have := heap_alloc_new (w.alloc O) (.cells (arr8 []) 34)
        simpa using this
      have hB : Below w.heap.size w (W3 w O (asB S (4 * k))) := W3_below _ _ _
      generalize W3 w O (asB S (4 * k)) = W at *
      have HE : Hid (arr8 (asB S (4 * k)) = arr8 (asB S 32)) := (by rw [hk8.out] : arr8 (asB S (4 * k)) = arr8 (asB S 32))
      generalize arr8 (asB S (4 * k)) = A at *
      have hi : (Tryd.prog.info? 34).map (·.size) = some A.size := by rw [hA]; kernel_rfl
      go_wp2_with (first | (refine wpList_load_row rfl 34 _ rfl (w.heap.size + 1 + 1) rfl 34 A (0, 0) (.array 32 5) hG Tryd.underlying34 rfl hi ?_) | (refine wpList_store_row rfl 34 _ _ rfl (w.heap.size + 1) A rfl rfl 34 (arr8 []) hG0 hi (by rw [hA]; rfl) hA1 ?_))
      refine bodyPost_ret (v := .agg A) (results_cell_row Tryd.results16 _ _ (w.heap.size + 1) 34 A (0, 0) (.array 32 5) rfl (setRow_heap _ _ _ _ _ _ hG0) Tryd.underlying34 rfl hi) rfl ⟨by rw [HE.out, ← HSS.out], below_setRow hB (by omega) _⟩
end Go.Proofs.YtighkdnooglfjaaDoor
