/-
  The contracts of trove/digest.Of and trove/trove.Digest where the width may be one: the first bytes of 'digL'.
-/
import Derived.Test.YtighkdnooglfjaaDoorSha
namespace Go.Proofs.YtighkdnooglfjaaDoor
open Go.RowKit

def digL (l : List UInt8) : List UInt8 := (asB (shaS l) 32).map fun x => UInt8.ofNat x.toNat
theorem byteOf_range (x : Int) (j : Nat) : 0 ≤ byteOf x j ∧ byteOf x j < 256 := ⟨Int.emod_nonneg _ (by omega), Int.emod_lt_of_pos _ (by omega)⟩
theorem asB_range (s : S8) (k : Nat) : ∀ x ∈ asB s k, 0 ≤ x ∧ x < 256 := by
  induction k with
  | zero => intro x hx; cases hx
  | succ k ih =>
    intro x hx
    simp only [asB, List.mem_append, List.mem_singleton] at hx
    rcases hx with hx | rfl
    · exact ih x hx
    · exact byteOf_range _ _
theorem digL_length (l : List UInt8) : (digL l).length = 32 := by simp [digL, asB_length]
theorem cell_bytes (L : List Int) (j : Nat) (hr : ∀ x ∈ L, 0 ≤ x ∧ x < 256) (h : j < (L.map fun x => UInt8.ofNat x.toNat).length) : (arr8 L)[j]? = some (.int .u8 ((L.map fun x => UInt8.ofNat x.toNat)[j].toNat : Int)) := by
  have hj' : j < L.length := by simpa using h
  rw [arr8_old _ _ hj']
  have hr := hr _ (List.getElem_mem hj')
  simp only [List.getElem_map, List.getD_eq_getElem?_getD, List.getElem?_eq_getElem hj', Option.getD_some, UInt8.toNat_ofNat']
  congr 2
  omega
theorem digL_cell (l : List UInt8) (j : Nat) (h : j < (digL l).length) : (arr8 (asB (shaS l) 32))[j]? = some (.int .u8 ((digL l)[j].toNat : Int)) :=
  cell_bytes (asB (shaS l) 32) j (asB_range _ _) h

set_option maxRecDepth 100000 in
set_option maxHeartbeats 1000000 in
theorem of_any (n : Nat) (s : ByteArray) (w : World) (h1 : 1 ≤ n) (h32 : n ≤ 32) (hs : s.size < 1152921504606846976) (h7 : 8 < w.heap.size) (hT : ∀ i, i < 64 → w.cell? ⟨8, i, none⟩ = some (.int .u32 (Ks.getD i 0))) :
    Calls Tryd.prog 8 #[.int .i64 (n : Int), .string s] w fun e w' => e = .returned (.string ⟨((digL s.data.toList).take n).toArray⟩) ∧ Below w.heap.size w w' := by
  have HT : Hid (∀ i, i < 64 → w.cell? ⟨8, i, none⟩ = some (.int .u32 (Ks.getD i 0))) := hT
  clear hT
  go_enter Tryd.func8, Tryd.ntmps8
  go_wp2_with fail
  refine (sha_any s _ hs h7 HT.out).mono ?_
  rintro _ w1 ⟨rfl, hB⟩
  have hA32 : (arr8 (asB (shaS s.data.toList) 32)).size = 32 := arr8_size _ (by rw [asB_length]; omega)
  have hA1 : (arr8 (asB (shaS s.data.toList) 32)).all (·.oneCell') = true := arr8_one _
  have HC : Hid (∀ j (hj : j < (digL s.data.toList).length), (arr8 (asB (shaS s.data.toList) 32))[j]? = some (.int .u8 ((digL s.data.toList)[j].toNat : Int))) := fun j hj => digL_cell _ j hj
  generalize arr8 (asB (shaS s.data.toList) 32) = A at *
  have hi : (Tryd.prog.info? 34).map (·.size) = some A.size := by rw [hA32]; kernel_rfl
  have hBc : ∀ o, Below w.heap.size w ((w1.alloc o).setRow w1.heap.size A) := fun o => below_setRow (hB.alloc hB.size _) hB.size _
  have hconv : ∀ C, (convert 36 9 (.slice (some ⟨w1.heap.size, 0, none⟩) n 32)).run Tryd.prog ((w1.alloc (.cells C 34)).setRow w1.heap.size A) = .ok (.string ⟨((digL s.data.toList).take n).toArray⟩) ((w1.alloc (.cells C 34)).setRow w1.heap.size A) := by
    intro C
    have hrow : ((w1.alloc (.cells C 34)).setRow w1.heap.size A).heap[w1.heap.size]? = some (.cells A 34) := setRow_heap _ _ _ _ _ _ (heap_alloc_new _ _)
    have hl : ((digL s.data.toList).take n).length = n := by rw [List.length_take, digL_length]; omega
    have := run_convert_bytes_back (P := Tryd.prog) ((w1.alloc (.cells C 34)).setRow w1.heap.size A) 36 9 5 ⟨w1.heap.size, 0, none⟩ 32 ((digL s.data.toList).take n) Tryd.underlying36 Tryd.underlying5 Tryd.underlying9 (fun j hj => by
      rw [Addr.add_lit, Nat.zero_add, cell_of_row _ _ _ _ _ _ hrow]
      have hj2 : j < (digL s.data.toList).length := by rw [List.length_take] at hj; omega
      rw [HC.out j hj2]
      simp)
    rw [hl] at this
    exact this
  have h32i : (n : Int) ≤ 32 := by omega
  have h32 : ¬ 32 = 0 := by omega
  go_wp2_with (refine wpList_store_row rfl 34 _ _ rfl w1.heap.size A rfl rfl 34 _ (heap_alloc_new _ _) hi (by rw [hA32]; rfl) hA1 ?_)
  all_goals go_ret
  all_goals exact ⟨rfl, hBc _⟩

set_option maxRecDepth 100000 in
set_option maxHeartbeats 400000 in
theorem checkWidth_ok (n : Nat) (w : World) (h1 : 1 ≤ n) (h32 : n ≤ 32) :
    Calls Tryd.prog 6 #[.int .i64 (n : Int)] w fun e w' => e = .returned .nilIface ∧ w = w' := by
  have a1 : ¬ (n : Int) < 1 := by omega
  have a2 : ¬ (32 : Int) < (n : Int) := by omega
  go_enter Tryd.func6, Tryd.ntmps6
  go_wp2
  go_ret
  exact ⟨rfl, rfl⟩
set_option maxRecDepth 100000 in
set_option maxHeartbeats 400000 in
theorem digest_ok (n : Nat) (s : ByteArray) (w : World) (h1 : 1 ≤ n) (h32 : n ≤ 32) (hs : s.size < 1152921504606846976) (h7 : 8 < w.heap.size) (hT : ∀ i, i < 64 → w.cell? ⟨8, i, none⟩ = some (.int .u32 (Ks.getD i 0))) :
    Calls Tryd.prog 4 #[.int .i64 (n : Int), .string s] w fun e w' => e = .returned (.tuple #[.string ⟨((digL s.data.toList).take n).toArray⟩, .int .i64 0]) ∧ Below w.heap.size w w' := by
  have HT : Hid (∀ i, i < 64 → w.cell? ⟨8, i, none⟩ = some (.int .u32 (Ks.getD i 0))) := hT
  clear hT
  go_enter Tryd.func4, Tryd.ntmps4
  go_wp2_with fail
  refine (checkWidth_ok n _ h1 h32).mono ?_
  rintro _ _ ⟨rfl, rfl⟩
  go_wp2_with fail
  refine (of_any n s _ h1 h32 hs h7 HT.out).mono ?_
  rintro _ w1 ⟨rfl, hB⟩
  go_wp2
  go_ret2
  exact ⟨rfl, hB⟩
end Go.Proofs.YtighkdnooglfjaaDoor
