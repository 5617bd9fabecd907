/-
  The closed facts of Shown's row.
-/
import Derived.Test.YtighkdnooglfjaaGreatDoorCards
import Derived.Test.YtighkdnooglfjaaGreatDoorChecked
import Derived.ProofKit
import Derived.JoinedCond
namespace Go.Proofs.YtighkdnooglfjaaGreatDoor
open Go.ChangeShapes Go.WideShapes Go.ChangeAt Go.RowKit

set_option maxRecDepth 100000 in
set_option maxHeartbeats 8000000 in
theorem shown_closed:joinedFacts Tryz.pinned.checked.prog 6 Tryz.f6 (Rows.OpenSpec.upto Rows.shownSpec).bare Rows.shownUptoRow=true:=by
 unfold joinedFacts
 simp only [Bool.and_eq_true]
 repeat' apply And.intro
 all_goals as_aux_lemma=>kernel_rfl
end Go.Proofs.YtighkdnooglfjaaGreatDoor
