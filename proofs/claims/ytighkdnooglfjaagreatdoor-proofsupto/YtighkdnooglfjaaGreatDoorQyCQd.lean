/-
  Proved: trovelaw.Proofs, at any width, first outputs and script that hold together at most 1048576 values and letters, called when the program's package-level variables that the row lists hold what their text lays there, returns true and leaves what came in as it was; and the card, tied to the program's text.
-/
import Derived.Test.YtighkdnooglfjaaGreatDoorQyCQa
import Derived.Test.YtighkdnooglfjaaGreatDoorQyCQc
open Option renaming some->Z
namespace Go.Proofs.YtighkdnooglfjaaGreatDoor
open Go.Proofs.Tryz
open Go.ChangeShapes Go.WideShapes Go.ChangeAt Go.RowKit

theorem JhH:Rows.ProofsUptoSaid:=
 OpenClaim.holds_of_cond 5 Tryz.f5 rfl rfl rfl rfl rfl rfl rfl ⟨rfl,rfl,rfl,rfl,rfl⟩ rfl rfl rfl rfl rfl (by kernel_rfl) func5 Je2
  (of_decide_eq_true (by kernel_rfl)) (by unfold Func.isWrapper;first|(rw[if_pos (by decide +kernel)];kernel_rfl)|(rw[if_neg (by decide +kernel)];exact⟨rfl,rfl⟩))
  (λos started H enc _ F=>by rw[OpenClaim.pre_eq_preRow];exact Je3 os started H enc F)
theorem Jgo(f:FuncId)(fn:Func)(hf:Tryz.pinned.checked.prog.funcNamed "trove/trovelaw.Proofs" =Z f) (ar:Tryz.pinned.checked.prog.funcs[f]? =Z fn):
  true=Tryz.pinned.checked.prog.looks []/\∀(j:Nat) t,fn.params[j]? =Z t->Tryz.pinned.checked.prog.wantsStandIn t=false:=by
 obtain rfl:f=5:=Option.some.inj ((show prog.funcNamed "trove/trovelaw.Proofs" =Z 5 by kernel_rfl).symm.trans hf) |>.symm
 obtain rfl:fn=Tryz.f5:=(Option.some.inj (func5.symm.trans ar)).symm;refine⟨by kernel_rfl,λj t ht=>?_⟩;rw[params5]at ht;have hm:=Array.mem_of_getElem? ht;simp only[List.mem_toArray,List.mem_cons,QD,or_false]at hm
 rcases hm with rfl|rfl|rfl
 ·exact(show prog.wantsStandIn 3=false by kernel_rfl)
 ·exact(show prog.wantsStandIn 22=false by kernel_rfl)
 ·exact(show prog.wantsStandIn 23=false by kernel_rfl)
theorem proofs_card:Rows.ProofsUptoCardSaid:=
 Claim7.holds_tied_plain_at .later [] _ _ _ _ JhH (λ_ h=>by cases h) (by as_aux_lemma=>kernel_rfl) (λ_ h=>by cases h) proofsUpto_row_tie rfl ⟨rfl,rfl⟩ (by as_aux_lemma=>kernel_rfl) rfl Jgo (by as_aux_lemma=>kernel_rfl)
