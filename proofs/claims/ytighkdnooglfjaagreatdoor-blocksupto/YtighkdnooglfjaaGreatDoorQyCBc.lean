import Derived.Test.YtighkdnooglfjaaGreatDoorCards
import Derived.ProofKit

set_option maxRecDepth 100000
set_option maxHeartbeats 8000000
namespace Go.Proofs.YtighkdnooglfjaaGreatDoor
open Go.ChangeShapes Go.WideShapes Go.ChangeAt Go.RowKit

theorem JeO:joinedFacts Tryz.pinned.checked.prog 3 Tryz.f3 (Rows.OpenSpec.upto Rows.blocksSpec).bare Rows.blocksUptoRow=true:=by
 unfold joinedFacts;simp only[Bool.and_eq_true]
 repeat' apply And.intro
 all_goals as_aux_lemma=>kernel_rfl
