/-
  Proved: trovelaw.Blocks, at any width, first outputs and script that hold together at most 1048576 values and letters, called when the program's package-level variables that the row lists hold what their text lays there, returns true and leaves what came in as it was; and the card, tied to the program's text.
-/
import Derived.Test.YtighkdnooglfjaaGreatDoorQyCBa
import Derived.Test.YtighkdnooglfjaaGreatDoorQyCBc
open Option renaming some->Z
namespace Go.Proofs.YtighkdnooglfjaaGreatDoor
open Go.Proofs.Tryz
open Go.ChangeShapes Go.WideShapes Go.ChangeAt Go.RowKit

theorem JgS:Rows.BlocksUptoSaid:=
 OpenClaim.holds_of_cond 3 Tryz.f3 rfl rfl rfl rfl rfl rfl rfl ⟨rfl,rfl,rfl,rfl,rfl⟩ rfl rfl rfl rfl rfl (by kernel_rfl) func3 JeO
  (of_decide_eq_true (by kernel_rfl)) (by unfold Func.isWrapper;first|(rw[if_pos (by decide +kernel)];kernel_rfl)|(rw[if_neg (by decide +kernel)];exact⟨rfl,rfl⟩))
  (λos started H enc _ F=>by rw[OpenClaim.pre_eq_preRow];exact JeP os started H enc F)
theorem JfZ(f:FuncId)(fn:Func)(hf:Tryz.pinned.checked.prog.funcNamed "trove/trovelaw.Blocks" =Z f) (ar:Tryz.pinned.checked.prog.funcs[f]? =Z fn):
  true=Tryz.pinned.checked.prog.looks []/\∀(j:Nat) t,fn.params[j]? =Z t->Tryz.pinned.checked.prog.wantsStandIn t=false:=by
 obtain rfl:f=3:=Option.some.inj ((show prog.funcNamed "trove/trovelaw.Blocks" =Z 3 by kernel_rfl).symm.trans hf) |>.symm
 obtain rfl:fn=Tryz.f3:=(Option.some.inj (func3.symm.trans ar)).symm;refine⟨by kernel_rfl,λj t ht=>?_⟩;rw[params3]at ht;have hm:=Array.mem_of_getElem? ht;simp only[List.mem_toArray,List.mem_cons,QD,or_false]at hm
 rcases hm with rfl|rfl|rfl
 ·exact(show prog.wantsStandIn 3=false by kernel_rfl)
 ·exact(show prog.wantsStandIn 22=false by kernel_rfl)
 ·exact(show prog.wantsStandIn 23=false by kernel_rfl)
theorem blocks_card:Rows.BlocksUptoCardSaid:=
 Claim7.holds_tied_plain_at .later [] _ _ _ _ JgS (λ_ h=>by cases h) (by as_aux_lemma=>kernel_rfl) (λ_ h=>by cases h) blocksUpto_row_tie rfl ⟨rfl,rfl⟩ (by as_aux_lemma=>kernel_rfl) rfl JfZ (by as_aux_lemma=>kernel_rfl)
