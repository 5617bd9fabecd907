/-
  The walk of trove/trovelaw.Known: it answers true, and turns no old memory, wherever the table of the round's numbers lies in its variable.
-/
import Derived.Test.YtighkdnooglfjaaDoorHex
namespace Go.Proofs.YtighkdnooglfjaaDoor
open Go.RowKit

theorem known0 : digL [] = [227, 176, 196, 66, 152, 252, 28, 20, 154, 251, 244, 200, 153, 111, 185, 36, 39, 174, 65, 228, 100, 155, 147, 76, 164, 149, 153, 27, 120, 82, 184, 85] := by decide +kernel
theorem hexed0 : hexL [227, 176, 196, 66, 152, 252, 28, 20, 154, 251, 244, 200, 153, 111, 185, 36, 39, 174, 65, 228, 100, 155, 147, 76, 164, 149, 153, 27, 120, 82, 184, 85] = [101, 51, 98, 48, 99, 52, 52, 50, 57, 56, 102, 99, 49, 99, 49, 52, 57, 97, 102, 98, 102, 52, 99, 56, 57, 57, 54, 102, 98, 57, 50, 52, 50, 55, 97, 101, 52, 49, 101, 52, 54, 52, 57, 98, 57, 51, 52, 99, 97, 52, 57, 53, 57, 57, 49, 98, 55, 56, 53, 50, 98, 56, 53, 53] := by decide +kernel
theorem dig0 (w : World) (h7 : 8 < w.heap.size) (hT : ∀ i, i < 64 → w.cell? ⟨8, i, none⟩ = some (.int .u32 (Ks.getD i 0))) :
    Calls Tryd.prog 4 #[.int .i64 32, .string ⟨#[]⟩] w fun e w' => ∃ d : ByteArray, d.data.toList = [227, 176, 196, 66, 152, 252, 28, 20, 154, 251, 244, 200, 153, 111, 185, 36, 39, 174, 65, 228, 100, 155, 147, 76, 164, 149, 153, 27, 120, 82, 184, 85] ∧ e = .returned (.tuple #[.string d, .int .i64 0]) ∧ Below w.heap.size w w' :=
  (digest_ok 32 ⟨#[]⟩ w (by decide) (by decide) (by decide) h7 hT).mono fun _ _ h => ⟨_, by
    show (digL []).take 32 = _
    rw [known0]; rfl, h.1, h.2⟩
theorem hexc0 (d : ByteArray) (w : World) (hd : d.data.toList = [227, 176, 196, 66, 152, 252, 28, 20, 154, 251, 244, 200, 153, 111, 185, 36, 39, 174, 65, 228, 100, 155, 147, 76, 164, 149, 153, 27, 120, 82, 184, 85]) :
    Calls Tryd.prog 5 #[.string d] w fun e w' => ∃ x : ByteArray, (x.toList == [101, 51, 98, 48, 99, 52, 52, 50, 57, 56, 102, 99, 49, 99, 49, 52, 57, 97, 102, 98, 102, 52, 99, 56, 57, 57, 54, 102, 98, 57, 50, 52, 50, 55, 97, 101, 52, 49, 101, 52, 54, 52, 57, 98, 57, 51, 52, 99, 97, 52, 57, 53, 57, 57, 49, 98, 55, 56, 53, 50, 98, 56, 53, 53]) = true ∧ e = .returned (.string x) ∧ ∃ n, w' = w.drewN n :=
  (hex_any d w (by have : d.data.toList.length = d.size := by simp
                   rw [← this, hd]; decide)).mono fun _ _ h => ⟨_, by
    rw [hd, hexed0, ByteArray.toList_eq]; exact beq_self_eq_true _, h.1, h.2⟩
theorem known1 : digL [97, 98, 99] = [186, 120, 22, 191, 143, 1, 207, 234, 65, 65, 64, 222, 93, 174, 34, 35, 176, 3, 97, 163, 150, 23, 122, 156, 180, 16, 255, 97, 242, 0, 21, 173] := by decide +kernel
theorem hexed1 : hexL [186, 120, 22, 191, 143, 1, 207, 234, 65, 65, 64, 222, 93, 174, 34, 35, 176, 3, 97, 163, 150, 23, 122, 156, 180, 16, 255, 97, 242, 0, 21, 173] = [98, 97, 55, 56, 49, 54, 98, 102, 56, 102, 48, 49, 99, 102, 101, 97, 52, 49, 52, 49, 52, 48, 100, 101, 53, 100, 97, 101, 50, 50, 50, 51, 98, 48, 48, 51, 54, 49, 97, 51, 57, 54, 49, 55, 55, 97, 57, 99, 98, 52, 49, 48, 102, 102, 54, 49, 102, 50, 48, 48, 49, 53, 97, 100] := by decide +kernel
theorem dig1 (w : World) (h7 : 8 < w.heap.size) (hT : ∀ i, i < 64 → w.cell? ⟨8, i, none⟩ = some (.int .u32 (Ks.getD i 0))) :
    Calls Tryd.prog 4 #[.int .i64 32, .string ⟨#[97, 98, 99]⟩] w fun e w' => ∃ d : ByteArray, d.data.toList = [186, 120, 22, 191, 143, 1, 207, 234, 65, 65, 64, 222, 93, 174, 34, 35, 176, 3, 97, 163, 150, 23, 122, 156, 180, 16, 255, 97, 242, 0, 21, 173] ∧ e = .returned (.tuple #[.string d, .int .i64 0]) ∧ Below w.heap.size w w' :=
  (digest_ok 32 ⟨#[97, 98, 99]⟩ w (by decide) (by decide) (by decide) h7 hT).mono fun _ _ h => ⟨_, by
    show (digL [97, 98, 99]).take 32 = _
    rw [known1]; rfl, h.1, h.2⟩
theorem hexc1 (d : ByteArray) (w : World) (hd : d.data.toList = [186, 120, 22, 191, 143, 1, 207, 234, 65, 65, 64, 222, 93, 174, 34, 35, 176, 3, 97, 163, 150, 23, 122, 156, 180, 16, 255, 97, 242, 0, 21, 173]) :
    Calls Tryd.prog 5 #[.string d] w fun e w' => ∃ x : ByteArray, (x.toList == [98, 97, 55, 56, 49, 54, 98, 102, 56, 102, 48, 49, 99, 102, 101, 97, 52, 49, 52, 49, 52, 48, 100, 101, 53, 100, 97, 101, 50, 50, 50, 51, 98, 48, 48, 51, 54, 49, 97, 51, 57, 54, 49, 55, 55, 97, 57, 99, 98, 52, 49, 48, 102, 102, 54, 49, 102, 50, 48, 48, 49, 53, 97, 100]) = true ∧ e = .returned (.string x) ∧ ∃ n, w' = w.drewN n :=
  (hex_any d w (by have : d.data.toList.length = d.size := by simp
                   rw [← this, hd]; decide)).mono fun _ _ h => ⟨_, by
    rw [hd, hexed1, ByteArray.toList_eq]; exact beq_self_eq_true _, h.1, h.2⟩
theorem known2 : digL [97, 98, 99, 100, 98, 99, 100, 101, 99, 100, 101, 102, 100, 101, 102, 103, 101, 102, 103, 104, 102, 103, 104, 105, 103, 104, 105, 106, 104, 105, 106, 107, 105, 106, 107, 108, 106, 107, 108, 109, 107, 108, 109, 110, 108, 109, 110, 111, 109, 110, 111, 112, 110, 111, 112, 113] = [36, 141, 106, 97, 210, 6, 56, 184, 229, 192, 38, 147, 12, 62, 96, 57, 163, 60, 228, 89, 100, 255, 33, 103, 246, 236, 237, 212, 25, 219, 6, 193] := by decide +kernel
theorem hexed2 : hexL [36, 141, 106, 97, 210, 6, 56, 184, 229, 192, 38, 147, 12, 62, 96, 57, 163, 60, 228, 89, 100, 255, 33, 103, 246, 236, 237, 212, 25, 219, 6, 193] = [50, 52, 56, 100, 54, 97, 54, 49, 100, 50, 48, 54, 51, 56, 98, 56, 101, 53, 99, 48, 50, 54, 57, 51, 48, 99, 51, 101, 54, 48, 51, 57, 97, 51, 51, 99, 101, 52, 53, 57, 54, 52, 102, 102, 50, 49, 54, 55, 102, 54, 101, 99, 101, 100, 100, 52, 49, 57, 100, 98, 48, 54, 99, 49] := by decide +kernel
theorem dig2 (w : World) (h7 : 8 < w.heap.size) (hT : ∀ i, i < 64 → w.cell? ⟨8, i, none⟩ = some (.int .u32 (Ks.getD i 0))) :
    Calls Tryd.prog 4 #[.int .i64 32, .string ⟨#[97, 98, 99, 100, 98, 99, 100, 101, 99, 100, 101, 102, 100, 101, 102, 103, 101, 102, 103, 104, 102, 103, 104, 105, 103, 104, 105, 106, 104, 105, 106, 107, 105, 106, 107, 108, 106, 107, 108, 109, 107, 108, 109, 110, 108, 109, 110, 111, 109, 110, 111, 112, 110, 111, 112, 113]⟩] w fun e w' => ∃ d : ByteArray, d.data.toList = [36, 141, 106, 97, 210, 6, 56, 184, 229, 192, 38, 147, 12, 62, 96, 57, 163, 60, 228, 89, 100, 255, 33, 103, 246, 236, 237, 212, 25, 219, 6, 193] ∧ e = .returned (.tuple #[.string d, .int .i64 0]) ∧ Below w.heap.size w w' :=
  (digest_ok 32 ⟨#[97, 98, 99, 100, 98, 99, 100, 101, 99, 100, 101, 102, 100, 101, 102, 103, 101, 102, 103, 104, 102, 103, 104, 105, 103, 104, 105, 106, 104, 105, 106, 107, 105, 106, 107, 108, 106, 107, 108, 109, 107, 108, 109, 110, 108, 109, 110, 111, 109, 110, 111, 112, 110, 111, 112, 113]⟩ w (by decide) (by decide) (by decide) h7 hT).mono fun _ _ h => ⟨_, by
    show (digL [97, 98, 99, 100, 98, 99, 100, 101, 99, 100, 101, 102, 100, 101, 102, 103, 101, 102, 103, 104, 102, 103, 104, 105, 103, 104, 105, 106, 104, 105, 106, 107, 105, 106, 107, 108, 106, 107, 108, 109, 107, 108, 109, 110, 108, 109, 110, 111, 109, 110, 111, 112, 110, 111, 112, 113]).take 32 = _
    rw [known2]; rfl, h.1, h.2⟩
theorem hexc2 (d : ByteArray) (w : World) (hd : d.data.toList = [36, 141, 106, 97, 210, 6, 56, 184, 229, 192, 38, 147, 12, 62, 96, 57, 163, 60, 228, 89, 100, 255, 33, 103, 246, 236, 237, 212, 25, 219, 6, 193]) :
    Calls Tryd.prog 5 #[.string d] w fun e w' => ∃ x : ByteArray, (x.toList == [50, 52, 56, 100, 54, 97, 54, 49, 100, 50, 48, 54, 51, 56, 98, 56, 101, 53, 99, 48, 50, 54, 57, 51, 48, 99, 51, 101, 54, 48, 51, 57, 97, 51, 51, 99, 101, 52, 53, 57, 54, 52, 102, 102, 50, 49, 54, 55, 102, 54, 101, 99, 101, 100, 100, 52, 49, 57, 100, 98, 48, 54, 99, 49]) = true ∧ e = .returned (.string x) ∧ ∃ n, w' = w.drewN n :=
  (hex_any d w (by have : d.data.toList.length = d.size := by simp
                   rw [← this, hd]; decide)).mono fun _ _ h => ⟨_, by
    rw [hd, hexed2, ByteArray.toList_eq]; exact beq_self_eq_true _, h.1, h.2⟩

set_option maxRecDepth 100000 in
set_option maxHeartbeats 1000000 in
theorem known_any (w : World) (h7 : 8 < w.heap.size) (hT : ∀ i, i < 64 → w.cell? ⟨8, i, none⟩ = some (.int .u32 (Ks.getD i 0))) :
    Calls Tryd.prog 3 #[] w fun e w' => e = .returned (.bool true) ∧ Below w.heap.size w w' := by
  have HT : Hid (∀ i, i < 64 → w.cell? ⟨8, i, none⟩ = some (.int .u32 (Ks.getD i 0))) := hT
  clear hT
  go_enter Tryd.func3, Tryd.ntmps3
  go_wp2_with fail
  refine (dig0 _ h7 HT.out).mono ?_
  rintro _ w1 ⟨d0, hd0, rfl, hB1⟩
  have HD0 : Hid (_ = _) := hd0
  have h71 : 8 < w1.heap.size := Nat.lt_of_lt_of_le h7 hB1.size
  have HT1 : Hid (∀ i, i < 64 → w1.cell? ⟨8, i, none⟩ = some (.int .u32 (Ks.getD i 0))) := fun i hi => by rw [hB1.cell (p := ⟨8, i, none⟩) h7]; exact HT.out i hi
  clear hd0
  go_wp2_with fail
  refine (dig1 _ h71 HT1.out).mono ?_
  rintro _ w2 ⟨d1, hd1, rfl, hB2⟩
  have HD1 : Hid (_ = _) := hd1
  have hB2' : Below w.heap.size w w2 := hB1.trans (hB2.mono hB1.size)
  have h72 : 8 < w2.heap.size := Nat.lt_of_lt_of_le h7 hB2'.size
  have HT2 : Hid (∀ i, i < 64 → w2.cell? ⟨8, i, none⟩ = some (.int .u32 (Ks.getD i 0))) := fun i hi => by rw [hB2'.cell (p := ⟨8, i, none⟩) h7]; exact HT.out i hi
  clear hd1
  go_wp2_with fail
  refine (dig2 _ h72 HT2.out).mono ?_
  rintro _ w3 ⟨d2, hd2, rfl, hB3⟩
  have HD2 : Hid (_ = _) := hd2
  have hB3' : Below w.heap.size w w3 := hB2'.trans (hB3.mono hB2'.size)
  clear hd2 hB1 hB2 hB3 h71 h72 HT1 HT2 HT hB2'
  go_wp2_with fail
  refine (hexc0 d0 _ HD0.out).mono ?_
  rintro _ w4 ⟨x0, hx0, rfl, n0, rfl⟩
  go_wp2_with fail
  refine (hexc1 d1 _ HD1.out).mono ?_
  rintro _ w5 ⟨x1, hx1, rfl, n1, rfl⟩
  go_wp2_with fail
  refine (hexc2 d2 _ HD2.out).mono ?_
  rintro _ w6 ⟨x2, hx2, rfl, n2, rfl⟩
  go_wp2
  go_ret
  exact ⟨rfl, ⟨hB3'.os, hB3'.tape, hB3'.output, hB3'.size, hB3'.block⟩⟩
end Go.Proofs.YtighkdnooglfjaaDoor
