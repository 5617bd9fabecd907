/-
  Proved: trovekeep.Paid, at any width, first outputs and script that hold together at most 1048576 values and letters, called when the program's package-level variables that the row lists hold what their text lays there, returns true and leaves what came in as it was; and the card, tied to the program's text.
-/
import Derived.Test.YtighkdnooglfjaaGreatDoorPdCPa
import Derived.Test.YtighkdnooglfjaaGreatDoorPdCPc
namespace Go.Proofs.YtighkdnooglfjaaGreatDoor
open Go.ChangeShapes Go.WideShapes Go.ChangeAt Go.RowKit

theorem paid_said : Rows.PaidUptoSaid :=
  OpenClaim.holds_of_cond 4 Tryz.f4 rfl rfl rfl rfl rfl rfl rfl ⟨rfl, rfl, rfl, rfl, rfl⟩ rfl rfl rfl rfl rfl (by kernel_rfl) Tryz.func4 paid_closed
    (of_decide_eq_true (by kernel_rfl)) (by unfold Func.isWrapper; first | (rw [if_pos (by decide +kernel)]; kernel_rfl) | (rw [if_neg (by decide +kernel)]; exact ⟨rfl, rfl⟩))
    (fun os started H enc _ F => by rw [OpenClaim.pre_eq_preRow]; exact paid_lifted os started H enc F)
theorem paid_plain (f : FuncId) (fn : Func) (hf : Tryz.pinned.checked.prog.funcNamed "trove/trovekeep.Paid" = some f) (hfn : Tryz.pinned.checked.prog.funcs[f]? = some fn) :
    true = Tryz.pinned.checked.prog.looks [] ∧ ∀ (j : Nat) t, fn.params[j]? = some t → Tryz.pinned.checked.prog.wantsStandIn t = false := by
  obtain rfl : f = 4 := Option.some.inj ((show Tryz.prog.funcNamed "trove/trovekeep.Paid" = some 4 by kernel_rfl).symm.trans hf) |>.symm
  obtain rfl : fn = Tryz.f4 := (Option.some.inj (Tryz.func4.symm.trans hfn)).symm
  refine ⟨by kernel_rfl, fun j t ht => ?_⟩
  rw [Tryz.params4] at ht
  have hm := Array.mem_of_getElem? ht
  simp only [List.mem_toArray, List.mem_cons, List.not_mem_nil, or_false] at hm
  rcases hm with rfl | rfl | rfl
  · exact (show Tryz.prog.wantsStandIn 3 = false by kernel_rfl)
  · exact (show Tryz.prog.wantsStandIn 22 = false by kernel_rfl)
  · exact (show Tryz.prog.wantsStandIn 26 = false by kernel_rfl)
theorem paid_card : Rows.PaidUptoCardSaid :=
  Claim7.holds_tied_plain_at .later [] _ _ _ _ paid_said (fun _ h => by cases h) (by kernel_rfl) (fun _ h => by cases h) paidUpto_row_tie rfl ⟨rfl, rfl⟩ (by kernel_rfl) rfl paid_plain (by kernel_rfl)
end Go.Proofs.YtighkdnooglfjaaGreatDoor
