/-
  DERIVED. GIVEN WITH THE SEED: THE PROGRAM's TIES (one call each: nine closed facts by the kernel) AND EACH ROW's TIE, after the 31st guide's Derived/Test/Toyas{Tie, Card}.lean. No idea stands in it: it is a product of the set-up. Laid BY PROGRAM, IN A SANDBOX (cutbox-door.mjs). By AI agents, Wed Nov 11 2026. No macro, syntax, notation, axiom, sorry.
-/
import Derived.Test.YtighkdnooglfjaaDoorRows
import Derived.LaidByTextLater
import Derived.SevenTiedAt
import Derived.LaidSub
import Derived.LaidOnce
namespace Go.Proofs.YtighkdnooglfjaaDoor
open Go
set_option maxRecDepth 100000
theorem seatTie1 : Tryd.prog.laidByTextLater [("trove/fault.Form", Rows.laid_trove_fault_Form), ("trove/fault.Tip", Rows.laid_trove_fault_Tip), ("trove/fault.Input", Rows.laid_trove_fault_Input), ("trove/fault.Exists", Rows.laid_trove_fault_Exists), ("trove/fault.Sum", Rows.laid_trove_fault_Sum), ("trove/fault.Root", Rows.laid_trove_fault_Root), ("trove/fault.Range", Rows.laid_trove_fault_Range), ("trove/fault.Torn", Rows.laid_trove_fault_Torn), ("trove/digest.roundConstants", Rows.laid_trove_digest_roundConstants)] [.sentinel, .sentinel, .sentinel, .sentinel, .sentinel, .sentinel, .sentinel, .sentinel, .data] true :=
  Program.laidByTextLater_by_one 166 8 65 (by kernel_rfl) (by kernel_rfl) (by kernel_rfl) (by kernel_rfl) (by kernel_rfl) (by kernel_rfl) (fun _ _ => by kernel_rfl)
theorem noOwnUnsafe : Tryd.pinned.checked.prog.headLifts.contains "ownunsafe" = false := by kernel_rfl
theorem tie : Tryd.prog.laidByTextLater [("trove/fault.Form", Rows.laid_trove_fault_Form), ("trove/fault.Tip", Rows.laid_trove_fault_Tip), ("trove/fault.Input", Rows.laid_trove_fault_Input), ("trove/fault.Exists", Rows.laid_trove_fault_Exists), ("trove/fault.Sum", Rows.laid_trove_fault_Sum), ("trove/fault.Root", Rows.laid_trove_fault_Root), ("trove/fault.Range", Rows.laid_trove_fault_Range), ("trove/fault.Torn", Rows.laid_trove_fault_Torn), ("trove/digest.roundConstants", Rows.laid_trove_digest_roundConstants)] [.sentinel, .sentinel, .sentinel, .sentinel, .sentinel, .sentinel, .sentinel, .sentinel, .data] true :=
  Program.laidByTextLater.sub seatTie1 ["trove/fault.Form", "trove/fault.Tip", "trove/fault.Input", "trove/fault.Exists", "trove/fault.Sum", "trove/fault.Root", "trove/fault.Range", "trove/fault.Torn", "trove/digest.roundConstants"] (by kernel_rfl) (by kernel_rfl)
theorem known_row_tie : Rows.knownRow.laidByTextAt .later Tryd.pinned [.sentinel, .sentinel, .sentinel, .sentinel, .sentinel, .sentinel, .sentinel, .sentinel, .data] true :=
  OpenClaim.laidByTextAt_later rfl rfl tie noOwnUnsafe
theorem knownUpto_row_tie : Rows.knownUptoRow.laidByTextAt .later Tryd.pinned [.sentinel, .sentinel, .sentinel, .sentinel, .sentinel, .sentinel, .sentinel, .sentinel, .data] true :=
  OpenClaim.laidByTextAt_later rfl rfl tie noOwnUnsafe
end Go.Proofs.YtighkdnooglfjaaDoor
