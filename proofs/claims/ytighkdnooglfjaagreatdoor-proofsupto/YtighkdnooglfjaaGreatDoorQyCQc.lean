import Derived.Test.YtighkdnooglfjaaGreatDoorCards
import Derived.ProofKit

set_option maxRecDepth 100000
set_option maxHeartbeats 8000000
namespace Go.Proofs.YtighkdnooglfjaaGreatDoor
open Go.ChangeShapes Go.WideShapes Go.ChangeAt Go.RowKit

theorem Je2:joinedFacts Tryz.pinned.checked.prog 5 Tryz.f5 (Rows.OpenSpec.upto Rows.proofsSpec).bare Rows.proofsUptoRow=true:=by
 unfold joinedFacts;simp only[Bool.and_eq_true]
 repeat' apply And.intro
 all_goals as_aux_lemma=>kernel_rfl
