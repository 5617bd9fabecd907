/-
  The contract of trove/digest.schedule: of 64 bytes it hands back the 64 words of SHA-256's message schedule, as 'Wl' writes them, and turns no old memory.
-/
import Derived.Test.YtighkdnooglfjaaDoorRot
import Derived.BigRegion
import Derived.BigQuiet
import Derived.Deep.QuietTactic
namespace Go.Proofs.YtighkdnooglfjaaDoor
open Go.RowKit

def sg0 (x : Int) : Int := bits .xor .u32 (bits .xor .u32 (rr 7 x) (rr 18 x)) (x / 8)
def sg1 (x : Int) : Int := bits .xor .u32 (bits .xor .u32 (rr 17 x) (rr 19 x)) (x / 1024)
def word (b0 b1 b2 b3 : UInt8) : Int :=
  bits .or .u32 (bits .or .u32 (bits .or .u32 ((b0.toNat : Int) % 4294967296 * 16777216 % 4294967296) ((b1.toNat : Int) % 4294967296 * 65536 % 4294967296)) ((b2.toNat : Int) % 4294967296 * 256 % 4294967296)) ((b3.toNat : Int) % 4294967296)
def nxW (b : List UInt8) (k : Nat) (l : List Int) : Int :=
  if k < 16 then word (b.getD (4 * k) 0) (b.getD (4 * k + 1) 0) (b.getD (4 * k + 2) 0) (b.getD (4 * k + 3) 0)
  else (l.getD (k - 16) 0 + sg0 (l.getD (k - 15) 0) + l.getD (k - 7) 0 + sg1 (l.getD (k - 2) 0)) % 4294967296
def stW (b : List UInt8) (k : Nat) (l : List Int) : List Int := l ++ [nxW b k l]
def Wl (b : List UInt8) : Nat → List Int
  | 0 => []
  | k + 1 => stW b k (Wl b k)
theorem Wl_length (b : List UInt8) (k : Nat) : (Wl b k).length = k := by
  induction k with
  | zero => rfl
  | succ k ih => simp [Wl, stW, ih]
def arr (l : List Int) : Array Value := (l.map (Value.int .u32) ++ List.replicate (64 - l.length) (Value.int .u32 0)).toArray
theorem arr_old (l : List Int) (k : Nat) (hk : k < l.length) : (arr l)[k]? = some (.int .u32 (l.getD k 0)) := by
  simp [arr, List.getElem?_append, hk, List.getD_eq_getElem?_getD]
theorem arr_new (l : List Int) (hk : l.length < 64) : (arr l)[l.length]? = some (.int .u32 0) := by
  have : ¬ 64 - l.length = 0 := by omega
  simp [arr, List.getElem?_append, List.getElem?_replicate]; omega
theorem arr_set (l : List Int) (v : Int) (hk : l.length < 64) : (arr l).setIfInBounds l.length (.int .u32 v) = arr (l ++ [v]) := by
  obtain ⟨m, hm⟩ : ∃ m, 64 - l.length = m + 1 := ⟨63 - l.length, by omega⟩
  have hm' : 64 - (l ++ [v]).length = m := by simp; omega
  unfold arr
  rw [hm, hm', List.replicate_succ]
  simp [List.setIfInBounds_toArray]
/-- Two new blocks of 64 numbers, the second in the making. -/
abbrev W2 (w : World) (l : List Int) (n : Nat) : World := ((w.alloc (.cells (arr []) 60)).alloc (.cells (arr l) 60)).drewN n
theorem W2_heap (w : World) (l : List Int) (n : Nat) : (W2 w l n).heap[w.heap.size + 1]? = some (.cells (arr l) 60) := heap_alloc2_new _ _ _
theorem W2_cell (w : World) (l : List Int) (k n : Nat) (hk : k < l.length) : (W2 w l n).cell? ⟨w.heap.size + 1, k, none⟩ = some (.int .u32 (l.getD k 0)) := by
  rw [cell_of_row _ _ _ _ _ _ (W2_heap w l n)]; exact arr_old l k hk
theorem W2_new (w : World) (l : List Int) (k n : Nat) (hl : l.length = k) (hk : k < 64) : (W2 w l n).cell? ⟨w.heap.size + 1, k, none⟩ = some (.int .u32 0) := by
  subst hl; rw [cell_of_row _ _ _ _ _ _ (W2_heap w l n)]; exact arr_new l hk
theorem W2_frozen (w : World) (l : List Int) (k n : Nat) : (W2 w l n).frozen? ⟨w.heap.size + 1, k, none⟩ = false := frozen_of_row _ _ _ _ _ (W2_heap w l n)
theorem W2_set (w : World) (l : List Int) (v : Int) (k n : Nat) (hl : l.length = k) (hk : k < 64) : (W2 w l n).setCell ⟨w.heap.size + 1, k, none⟩ (.int .u32 v) = W2 w (l ++ [v]) n := by
  subst hl
  show ((((w.alloc (.cells (arr []) 60)).alloc (.cells (arr l) 60))).setCell ⟨w.heap.size + 1, l.length, none⟩ (.int .u32 v)).drewN n = _
  rw [World.setCell_alloc_at _ _ _ _ _ (by simp), arr_set l v hk]
theorem arr_size (l : List Int) (h : l.length ≤ 64) : (arr l).size = 64 := by simp [arr]; omega
theorem arr_one (l : List Int) : (arr l).all (·.oneCell') = true := by
  rw [Array.all_eq_true_iff_forall_mem]
  intro v hv
  simp [arr] at hv
  rcases hv with ⟨a, _, rfl⟩ | ⟨_, rfl⟩ <;> rfl
theorem W2_below (w : World) (l : List Int) (n : Nat) : Below w.heap.size w (W2 w l n) := by
  have h := ((Below.refl w.heap.size w).alloc (Nat.le_refl _) (.cells (arr []) 60)).alloc (by simp) (.cells (arr l) 60)
  exact ⟨h.os, h.tape, h.output, h.size, h.block⟩
theorem below_setRow {B : Nat} {a w : World} (h : Below B a w) {g : Nat} (hg : B ≤ g) (cs : Array Value) : Below B a (w.setRow g cs) :=
  ⟨h.os, h.tape, h.output, by simp; exact h.size, fun k hk => by rw [setRow_other _ _ _ _ (by omega)]; exact h.block k hk⟩
theorem byte_at (b : ByteArray) (k j : Nat) (hb : b.size = 64) (hk : k < 16) (hj : j < 4) (h : j < (b.extract (4 * k) (4 * k + 4)).size) : (b.extract (4 * k) (4 * k + 4))[j] = b.data.toList.getD (4 * k + j) 0 := by
  have h2 : 4 * k + j < b.data.size := by have : b.data.size = 64 := hb; omega
  rw [ByteArray.getElem_eq_getElem_data]
  simp only [ByteArray.data_extract, List.getD_eq_getElem?_getD, Array.getElem_extract, Array.getElem?_toList]
  rw [Array.getElem?_eq_getElem h2]; rfl

set_option maxRecDepth 100000 in
set_option maxHeartbeats 400000 in
theorem sched_any (b : ByteArray) (w : World) (hb : b.size = 64)  :
    Calls Tryd.prog 17 #[.string b] w fun e w' => e = .returned (.agg (arr (Wl b.data.toList 64))) ∧ Below w.heap.size w w' := by
  go_enter Tryd.func17, Tryd.ntmps17
  go_wp2
  go_loopw [11] (fun i wr => ∃ k n : Nat, k ≤ 16 ∧ i = .int .i64 k ∧ wr = W2 w (Wl b.data.toList k) n) (fun i _ => 16 - (intOf i).toNat)
  case atStart => 
    exact ⟨0, 0, by omega, rfl, rfl⟩
  case round =>
    obtain ⟨k, n, hk, rfl, rfl⟩ := hrel
    by_cases hlt : k < 16
    · go_wp2
      have hl := Wl_length b.data.toList k
      have hc := W2_new w (Wl b.data.toList k) k n hl (by omega)
      have hf := W2_frozen w (Wl b.data.toList k) k n
      have hp : (b.extract (4 * k) (4 * k + 4)).size = 4 := by simp; omega
      have hs := fun v => W2_set w (Wl b.data.toList k) v k n hl (by omega)
      obtain ⟨p, hp, hpe, hw⟩ : ∃ p : ByteArray, ∃ hp : p.size = 4, b.extract (4 * k) (4 * k + 4) = p ∧ nxW b.data.toList k (Wl b.data.toList k) = word p[0] p[1] p[2] p[3] := by
        refine ⟨_, hp, rfl, ?_⟩
        rw [byte_at b k 0 hb hlt (by omega), byte_at b k 1 hb hlt (by omega), byte_at b k 2 hb hlt (by omega), byte_at b k 3 hb hlt (by omega)]
        simp [nxW, hlt]
      rw [hpe]
      have HW : Hid (Wl b.data.toList (k + 1) = Wl b.data.toList k ++ [word p[0] p[1] p[2] p[3]]) := by rw [← hw]; rfl
      have HS : Hid (∀ v, (W2 w (Wl b.data.toList k) n).setCell ⟨w.heap.size + 1, k, none⟩ (.int .u32 v) = W2 w (Wl b.data.toList k ++ [v]) n) := hs
      clear hw hs hl hpe
      generalize hW : W2 w (Wl b.data.toList k) n = W at *
      clear hW
      go_region
      go_wp2
      go_roundw
      case rel => exact ⟨k + 1, n + 1, by omega, by go_num, by rw [HW.out]; exact congrArg World.drew (HS.out _)⟩
      case measure => simp [intOf]; omega
    · have hk16 : Hid (k = 16) := (by omega : k = 16)
      go_wp2
      go_loopw [6] (fun i wr => ∃ k n : Nat, 16 ≤ k ∧ k ≤ 64 ∧ i = .int .i64 k ∧ wr = W2 w (Wl b.data.toList k) n) (fun i _ => 64 - (intOf i).toNat)
      case atStart => exact ⟨16, n, by omega, by omega, rfl, by rw [hk16.out]⟩
      case round =>
        clear hlt hk hk16
        obtain ⟨k, n, h16, hk, rfl, rfl⟩ := hrel
        by_cases hlt : k < 64
        · have hl := Wl_length b.data.toList k
          have hc := W2_new w (Wl b.data.toList k) k n hl (by omega)
          have hf := W2_frozen w (Wl b.data.toList k) k n
          have h2 := W2_cell w (Wl b.data.toList k) (k - 2) n (by omega)
          have h7 := W2_cell w (Wl b.data.toList k) (k - 7) n (by omega)
          have h15 := W2_cell w (Wl b.data.toList k) (k - 15) n (by omega)
          have h16' := W2_cell w (Wl b.data.toList k) (k - 16) n (by omega)
          have HS : Hid (∀ v, (W2 w (Wl b.data.toList k) n).setCell ⟨w.heap.size + 1, k, none⟩ (.int .u32 v) = W2 w (Wl b.data.toList k ++ [v]) n) := fun v => W2_set w (Wl b.data.toList k) v k n hl (by omega)
          have HW : Hid (Wl b.data.toList (k + 1) = Wl b.data.toList k ++ [((Wl b.data.toList k).getD (k - 16) 0 + sg0 ((Wl b.data.toList k).getD (k - 15) 0) + (Wl b.data.toList k).getD (k - 7) 0 + sg1 ((Wl b.data.toList k).getD (k - 2) 0)) % 4294967296]) := by
            show stW b.data.toList k _ = _
            simp [stW, nxW, show ¬ k < 16 by omega]
          generalize (Wl b.data.toList k).getD (k - 2) 0 = x2 at *
          generalize (Wl b.data.toList k).getD (k - 7) 0 = x7 at *
          generalize (Wl b.data.toList k).getD (k - 15) 0 = x15 at *
          generalize (Wl b.data.toList k).getD (k - 16) 0 = x16 at *
          generalize hW : W2 w (Wl b.data.toList k) n = W at *
          clear hW hl
          go_wp2
          go_region
          go_wp2_with fail
          refine (rot7 _ _).mono ?_
          rintro e w' ⟨rfl, rfl⟩
          go_wp2_with fail
          refine (rot18 _ _).mono ?_
          rintro e w' ⟨rfl, rfl⟩
          go_wp2_with fail
          refine (rot17 _ _).mono ?_
          rintro e w' ⟨rfl, rfl⟩
          go_wp2_with fail
          refine (rot19 _ _).mono ?_
          rintro e w' ⟨rfl, rfl⟩
          go_wp2_with fail
          go_region
          go_wp2
          go_roundw
          case rel => exact ⟨k + 1, n + 2, by omega, by omega, by go_num, by rw [HW.out]; exact congrArg (fun x => World.drew (World.drew x)) (HS.out _)⟩
          case measure => simp [intOf]; omega
        · have hk64 : Hid (k = 64) := (by omega : k = 64)
          have hA : (arr (Wl b.data.toList k)).size = 64 := arr_size _ (by rw [Wl_length]; omega)
          have hA1 : (arr (Wl b.data.toList k)).all (·.oneCell') = true := arr_one _
          have hG := W2_heap w (Wl b.data.toList k) n
          have hG0 : (W2 w (Wl b.data.toList k) n).heap[w.heap.size]? = some (.cells (arr []) 60) := heap_alloc2_old _ _ _
          have hB : Below w.heap.size w (W2 w (Wl b.data.toList k) n) := W2_below _ _ _
          generalize W2 w (Wl b.data.toList k) n = W at *
          have HE : Hid (arr (Wl b.data.toList k) = arr (Wl b.data.toList 64)) := (by rw [hk64.out] : arr (Wl b.data.toList k) = arr (Wl b.data.toList 64))
          generalize arr (Wl b.data.toList k) = A at *
          have hi : (Tryd.prog.info? 60).map (·.size) = some A.size := by rw [hA]; kernel_rfl
          go_wp2_with (first | (refine wpList_load_row rfl 60 _ rfl (w.heap.size + 1) rfl 60 A (0, 0) (.array 64 44) hG Tryd.underlying60 rfl hi ?_) | (refine wpList_store_row rfl 60 _ _ rfl w.heap.size A rfl rfl 60 (arr []) hG0 hi (by rw [hA]; rfl) hA1 ?_))
          refine bodyPost_ret (v := .agg A) (results_cell_row Tryd.results17 _ _ w.heap.size 60 A (0, 0) (.array 64 44) rfl (setRow_heap _ _ _ _ _ _ hG0) Tryd.underlying60 rfl hi) rfl ⟨by rw [HE.out], below_setRow hB (Nat.le_refl _) _⟩
end Go.Proofs.YtighkdnooglfjaaDoor
