/-
  Proved: trovekeep.Shown, at any width, first outputs and script that hold together at most 1048576 values and letters, called when the program's package-level variables that the row lists hold what their text lays there, returns true and leaves what came in as it was; and the card, tied to the program's text.
  Proved: trovekeep.Shown, at any width, first outputs and script that hold together at most 1048576 values and letters, called when the program's package-level variables that the row lists hold what their text lays there, returns true and leaves what came in as it was; and the card, tied to the program's text.
-/
import Derived.Test.YtighkdnooglfjaaGreatDoorCards
import Derived.Test.YtighkdnooglfjaaGreatDoorTie
import Derived.Test.YtighkdnooglfjaaGreatDoorSwLdE
import Derived.Test.YtighkdnooglfjaaGreatDoorSwKSh
import Derived.Deep.DeepHandedRow
import Derived.Deep.DeepWitnessRowRef
import Derived.Stop.Joined
import Derived.SevenTiedAt
import Derived.Test.YtighkdnooglfjaaGreatDoorSwCSc
namespace Go.Proofs.YtighkdnooglfjaaGreatDoor
open Go.ChangeShapes Go.WideShapes Go.ChangeAt Go.RowKit

theorem own:ownKnob Tryz.prog.godebug=none:=by kernel_rfl
theorem laidOut:laidOutB Tryz.prog=true:=by kernel_rfl
theorem rdOuts:Tryz.prog.readableRec 22=true:=by kernel_rfl
theorem rdSteps:Tryz.prog.readableRec 26=true:=by kernel_rfl
theorem rdInt:Tryz.prog.readableRec 3=true:=by kernel_rfl
theorem ltOuts:22<Tryz.prog.types.size:=of_decide_eq_true (by kernel_rfl)
theorem ltSteps:26<Tryz.prog.types.size:=of_decide_eq_true (by kernel_rfl)
theorem ltInt:3<Tryz.prog.types.size:=of_decide_eq_true (by kernel_rfl)
theorem Tch.belowN {W W':World} (h:Tch (λj=>W.heap.size<=j) W W'):Below W.heap.size W W':=h.below (Nat.le_refl _) (λ_ h=>h)
set_option maxRecDepth 100000 in
theorem shown_contract (H:Type) (enc:TypeId×Value->H) (W:World) (base:Nat) (args:Array Value) (ds gs:List (DataW H)) (before:List MemPlace)
  (hval:∀(j:Nat) t v,Tryz.f6.params[j]? =some t->args[j]? =some v->Value.okWide Tryz.prog W .any base t v)
  (hW:DataW.Whole enc Tryz.prog Tryz.f6.params.toList Rows.shownSpec.vars false W args.toList ds gs before) (hk:Rows.uptoSmall H (ds++gs)=true) (hL:laidMetH Tryz.prog Rows.shownUptoRow.laid W):
  Calls Tryz.prog 6 args W λe W'=>∃v,e=.returned v/\Rows.shownSpec.post enc Tryz.prog Tryz.f6 false true false false W args v W':=by
 have hW':=hW
 obtain ⟨p,q,hA0,hV,rfl,hfz,hnd⟩:=hW
 have hA:DataW.TrodAll enc Tryz.prog W 0 (λ_=>true) true Tryz.f6.params.toList args.toList ds p:=hA0
 rw [Tryz.params6] at hA hval
 obtain ⟨v0,vs0,d0,ds0,p0,q0,hargs,rfl,rfl,h0,r0⟩:=trodAll_cons hA
 obtain ⟨v1,vs1,d1,ds1,p1,q1,rfl,rfl,rfl,h1,r1⟩:=trodAll_cons r0
 obtain ⟨v2,vs2,d2,ds2,p2,q2,rfl,rfl,rfl,h2,r2⟩:=trodAll_cons r1
 obtain ⟨rfl,rfl,rfl⟩:=trodAll_nil r2
 obtain rfl:args= #[v0,v1,v2]:=by cases args;simp_all
 obtain ⟨rfl,rfl⟩:=trodVars_none hV
 clear hA0 hA r0 r1 r2
 simp only [List.append_nil] at hW' hk hfz
 have hlt:∀x∈p0++(p1++p2),x.block<W.heap.size:=λx hx=>hW'.lt x hx
 have h0k:=h0
 have h1k:=h1
 have h2k:=h2
 have hb:Rows.uptoBulk d2<=1048576:=by
  have:=of_decide_eq_true hk
  simp only [Rows.uptoBulkAll] at this
  omega
 obtain ⟨f0,h0⟩:=h0
 obtain ⟨f1,h1⟩:=h1
 obtain ⟨f2,h2⟩:=h2
 have o1:=hval 1 22 v1 rfl rfl
 have o2:=hval 2 26 v2 rfl rfl
 have e1:v1.cells.toList=[v1]:=by rcases slice_has Tryz.underlying22 o1 with rfl | ⟨_,_,_,_,rfl,_⟩ <;> rfl
 have e2:v2.cells.toList=[v2]:=by rcases slice_has Tryz.underlying26 o2 with rfl | ⟨_,_,_,_,rfl,_⟩ <;> rfl
 rw [e1] at h1
 rw [e2] at h2
 obtain ⟨outs,hO,hOk⟩:=outs_open o1 h1
 obtain ⟨script,hSt,hPo,hAB,hn⟩:=steps_open o2 h2 hb
 obtain ⟨c,e0,_,b0⟩:=DataW.trod_int Tryz.underlying3 h0
 have bc0:=bounds_i64 b0
 obtain rfl:v0=.int .i64 c:=by
  have o0:=hval 0 3 v0 rfl rfl
  unfold Value.okWide at o0
  rw [Tryz.underlying3] at o0
  simp only at o0
  unfold Cell.okWide at o0
  rw [Tryz.underlying3] at o0
  cases v0 <;> simp only at o0 <;> first | (simp [Value.cells] at e0;rw [e0.1,e0.2];done) | (unfold Cell.ok at o0;rw [Tryz.underlying3] at o0;exact absurd o0 (by simp))
 obtain ⟨E,hE,hS,hR⟩:=shown_env hL
 refine (k_showns (theMakerQ E W.heap.size) (λwidth=>theLedQ_q E W.heap.size width) c v1 v2 outs script W ⟨hE,hS,hE.size,hR⟩ (Nat.le_refl _) hO hOk bc0.1 (by omega) hSt hPo hAB (by omega)).mono λe W' ⟨he,hT⟩=>?_
 subst he
 have hB:=hT.belowN
 refine ⟨_,rfl,[d0,d1,d2],[],p0++(p1++p2),[],p0++(p1++p2),[],hW',trodAll_mk1 (shut_bool Tryz.underlying4 _),trodAll_mk3 (Below.trod laidOut rdInt ltInt h0k hB (λx hx=>hlt x (by simp [hx]))) (Below.trod laidOut rdOuts ltOuts h1k hB (λx hx=>hlt x (by simp [hx]))) (Below.trod laidOut rdSteps ltSteps h2k hB (λx hx=>hlt x (by simp [hx]))),rfl,hB.frame _,λh=>by cases h⟩

theorem shown_met (os:Os) (args:Array Value):laidMetH Tryz.prog Rows.shownUptoRow.laid ((World.doorLaid Tryz.prog 400 os).forCall (λ_ _=>0) ⟨#[],args,[]⟩).memory:=
 laidMetH_of_parts3 (fuel:=8) (laidMet_of_run' 8 (by kernel_rfl) (by kernel_rfl)) (by kernel_rfl) (by kernel_rfl)
theorem shown_reads (os:Os) {H:Type} (enc:TypeId×Value->H):∃places,DataW.whole enc Tryz.prog ((World.doorLaid Tryz.prog 400 os).forCall (λ_ _=>0) ⟨#[],#[.int .i64 0,.slice none 0 0,.slice none 0 0],[]⟩).memory Tryz.f6.params.toList Rows.shownSpec.vars false #[Value.int .i64 0,.slice none 0 0,.slice none 0 0].toList 8=some ([.lit (.int .i64 0),.nil,.nil],[],places):=
 ⟨[],by kernel_rfl⟩
set_option maxRecDepth 100000 in
theorem shown_lifted (os:Os) (started:os.Started) (H:Type) (enc:TypeId×Value->H) (F:Stop.Interp):
  ReturnsInHanded {} Tryz.checked os 6 .any ((Rows.OpenSpec.upto Rows.shownSpec).preRow enc Tryz.prog Tryz.f6 Rows.shownUptoRow.domain false Rows.shownUptoRow.laid) (((Rows.OpenSpec.upto Rows.shownSpec).at F).post enc Tryz.prog Tryz.f6 false true false false):=by
 obtain ⟨places,hx⟩:=shown_reads os enc
 refine returnsInHanded_of_row (C:=Tryz.checked) (s:=Rows.OpenSpec.upto Rows.shownSpec) own started (by kernel_rfl) Tryz.func6
  (witness_row_atRef (enc:=enc) (C:=Tryz.checked) false (World.doorLaid Tryz.prog 400 os) #[.int .i64 0,.slice none 0 0,.slice none 0 0] rfl (by kernel_rfl) (by kernel_rfl) (by kernel_rfl)
   (OpenSpec.preRow_of_cond 8 hx (by kernel_rfl) (λk hk=>by cases hk;kernel_rfl) (by kernel_rfl) (shown_met os _))) ?_
 intro W base args ds gs before hval hW _ hcond _ hL _ _
 exact shown_contract H enc W base args ds gs before hval hW (hcond _ rfl) hL
end Go.Proofs.YtighkdnooglfjaaGreatDoor
namespace Go.Proofs.YtighkdnooglfjaaGreatDoor
open Go.ChangeShapes Go.WideShapes Go.ChangeAt Go.RowKit

theorem shown_said:Rows.ShownUptoSaid:=
 OpenClaim.holds_of_cond 6 Tryz.f6 rfl rfl rfl rfl rfl rfl rfl ⟨rfl,rfl,rfl,rfl,rfl⟩ rfl rfl rfl rfl rfl (by kernel_rfl) Tryz.func6 shown_closed
  (of_decide_eq_true (by kernel_rfl)) (by unfold Func.isWrapper;first | (rw [if_pos (by decide +kernel)];kernel_rfl) | (rw [if_neg (by decide +kernel)];exact ⟨rfl,rfl⟩))
  (λos started H enc _ F=>by rw [OpenClaim.pre_eq_preRow];exact shown_lifted os started H enc F)
theorem shown_plain (f:FuncId) (fn:Func) (hf:Tryz.pinned.checked.prog.funcNamed "trove/trovekeep.Shown" =some f) (hfn:Tryz.pinned.checked.prog.funcs[f]? =some fn):
  true=Tryz.pinned.checked.prog.looks []/\∀(j:Nat) t,fn.params[j]? =some t->Tryz.pinned.checked.prog.wantsStandIn t=false:=by
 obtain rfl:f=6:=Option.some.inj ((show Tryz.prog.funcNamed "trove/trovekeep.Shown" =some 6 by kernel_rfl).symm.trans hf) |>.symm
 obtain rfl:fn=Tryz.f6:=(Option.some.inj (Tryz.func6.symm.trans hfn)).symm
 refine ⟨by kernel_rfl,λj t ht=>?_⟩
 rw [Tryz.params6] at ht
 have hm:=Array.mem_of_getElem? ht
 simp only [List.mem_toArray,List.mem_cons,List.not_mem_nil,or_false] at hm
 rcases hm with rfl | rfl | rfl
 ·exact (show Tryz.prog.wantsStandIn 3=false by kernel_rfl)
 ·exact (show Tryz.prog.wantsStandIn 22=false by kernel_rfl)
 ·exact (show Tryz.prog.wantsStandIn 26=false by kernel_rfl)
theorem shown_card:Rows.ShownUptoCardSaid:=
 Claim7.holds_tied_plain_at .later [] _ _ _ _ shown_said (λ_ h=>by cases h) (by kernel_rfl) (λ_ h=>by cases h) shownUpto_row_tie rfl ⟨rfl,rfl⟩ (by kernel_rfl) rfl shown_plain (by kernel_rfl)
end Go.Proofs.YtighkdnooglfjaaGreatDoor
