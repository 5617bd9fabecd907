/-
  Proved: trovekeep.Paid, at any width, first outputs and script that hold together at most 1048576 values and letters, called when the program's package-level variables that the row lists hold what their text lays there, returns true and leaves what came in as it was; and the card, tied to the program's text.
-/
import Derived.Test.YtighkdnooglfjaaGreatDoorCards
import Derived.Test.YtighkdnooglfjaaGreatDoorTie
import Derived.Test.YtighkdnooglfjaaGreatDoorPdLdE
import Derived.Test.YtighkdnooglfjaaGreatDoorPdKPaid
import Derived.Test.YtighkdnooglfjaaGreatDoorPdFaA
import Derived.Deep.DeepHandedRow
import Derived.Deep.DeepWitnessRowRef
import Derived.Stop.Joined
import Derived.SevenTiedAt
namespace Go.Proofs.YtighkdnooglfjaaGreatDoor
open Go.ChangeShapes Go.WideShapes Go.ChangeAt Go.RowKit

theorem own : ownKnob Tryz.prog.godebug = none := by kernel_rfl
theorem laidOut : laidOutB Tryz.prog = true := by kernel_rfl
theorem rdOuts : Tryz.prog.readableRec 22 = true := by kernel_rfl
theorem rdSteps : Tryz.prog.readableRec 26 = true := by kernel_rfl
theorem rdInt : Tryz.prog.readableRec 3 = true := by kernel_rfl
theorem ltOuts : 22 < Tryz.prog.types.size := of_decide_eq_true (by kernel_rfl)
theorem ltSteps : 26 < Tryz.prog.types.size := of_decide_eq_true (by kernel_rfl)
theorem ltInt : 3 < Tryz.prog.types.size := of_decide_eq_true (by kernel_rfl)
theorem Tch.belowN {W W' : World} (h : Tch (fun j => W.heap.size ≤ j) W W') : Below W.heap.size W W' := h.below (Nat.le_refl _) (fun _ h => h)
set_option maxRecDepth 100000 in
theorem paid_contract (H : Type) (enc : TypeId × Value → H) (W : World) (base : Nat) (args : Array Value) (ds gs : List (DataW H)) (before : List MemPlace)
    (hval : ∀ (j : Nat) t v, Tryz.f4.params[j]? = some t → args[j]? = some v → Value.okWide Tryz.prog W .any base t v)
    (hW : DataW.Whole enc Tryz.prog Tryz.f4.params.toList Rows.paidSpec.vars false W args.toList ds gs before) (hk : Rows.uptoSmall H (ds ++ gs) = true) (hL : laidMetH Tryz.prog Rows.paidUptoRow.laid W) :
    Calls Tryz.prog 4 args W fun e W' => ∃ v, e = .returned v ∧ Rows.paidSpec.post enc Tryz.prog Tryz.f4 false true false false W args v W' := by
  have hW' := hW
  obtain ⟨p, q, hA0, hV, rfl, hfz, hnd⟩ := hW
  have hA : DataW.TrodAll enc Tryz.prog W 0 (fun _ => true) true Tryz.f4.params.toList args.toList ds p := hA0
  rw [Tryz.params4] at hA hval
  obtain ⟨v0, vs0, d0, ds0, p0, q0, hargs, rfl, rfl, h0, r0⟩ := trodAll_cons hA
  obtain ⟨v1, vs1, d1, ds1, p1, q1, rfl, rfl, rfl, h1, r1⟩ := trodAll_cons r0
  obtain ⟨v2, vs2, d2, ds2, p2, q2, rfl, rfl, rfl, h2, r2⟩ := trodAll_cons r1
  obtain ⟨rfl, rfl, rfl⟩ := trodAll_nil r2
  obtain rfl : args = #[v0, v1, v2] := by cases args; simp_all
  obtain ⟨rfl, rfl⟩ := trodVars_none hV
  clear hA0 hA r0 r1 r2
  simp only [List.append_nil] at hW' hk hfz
  have hlt : ∀ x ∈ p0 ++ (p1 ++ p2), x.block < W.heap.size := fun x hx => hW'.lt x hx
  have h0k := h0
  have h1k := h1
  have h2k := h2
  have hb : Rows.uptoBulk d2 ≤ 1048576 := by
    have := of_decide_eq_true hk
    simp only [Rows.uptoBulkAll] at this
    omega
  obtain ⟨f0, h0⟩ := h0
  obtain ⟨f1, h1⟩ := h1
  obtain ⟨f2, h2⟩ := h2
  have o1 := hval 1 22 v1 rfl rfl
  have o2 := hval 2 26 v2 rfl rfl
  have e1 : v1.cells.toList = [v1] := by rcases slice_has Tryz.underlying22 o1 with rfl | ⟨_, _, _, _, rfl, _⟩ <;> rfl
  have e2 : v2.cells.toList = [v2] := by rcases slice_has Tryz.underlying26 o2 with rfl | ⟨_, _, _, _, rfl, _⟩ <;> rfl
  rw [e1] at h1
  rw [e2] at h2
  obtain ⟨outs, hO, hOk⟩ := outs_open o1 h1
  obtain ⟨script, hSt, hPo, _, hn⟩ := steps_open o2 h2 hb
  obtain ⟨c, e0, _, b0⟩ := DataW.trod_int Tryz.underlying3 h0
  have bc0 := bounds_i64 b0
  obtain rfl : v0 = .int .i64 c := by
    have o0 := hval 0 3 v0 rfl rfl
    unfold Value.okWide at o0
    rw [Tryz.underlying3] at o0
    simp only at o0
    unfold Cell.okWide at o0
    rw [Tryz.underlying3] at o0
    cases v0 <;> simp only at o0 <;> first | (simp [Value.cells] at e0; rw [e0.1, e0.2]; done) | (unfold Cell.ok at o0; rw [Tryz.underlying3] at o0; exact absurd o0 (by simp))
  obtain ⟨E, hE, hS, hR⟩ := paid_env hL
  refine (k_paid (theMaker E W.heap.size) c v1 v2 outs script W ⟨hE, hS, hE.size, hR⟩ (Nat.le_refl _) hO hOk bc0.1 (by omega) hSt hPo (by omega)).mono fun e W' ⟨he, hT⟩ => ?_
  subst he
  have hB := hT.belowN
  refine ⟨_, rfl, [d0, d1, d2], [], p0 ++ (p1 ++ p2), [], p0 ++ (p1 ++ p2), [], hW', trodAll_mk1 (shut_bool Tryz.underlying4 _), trodAll_mk3 (Below.trod laidOut rdInt ltInt h0k hB (fun x hx => hlt x (by simp [hx]))) (Below.trod laidOut rdOuts ltOuts h1k hB (fun x hx => hlt x (by simp [hx]))) (Below.trod laidOut rdSteps ltSteps h2k hB (fun x hx => hlt x (by simp [hx]))), rfl, hB.frame _, fun h => by cases h⟩

theorem paid_met (os : Os) (args : Array Value) : laidMetH Tryz.prog Rows.paidUptoRow.laid ((World.doorLaid Tryz.prog 400 os).forCall (fun _ _ => 0) ⟨#[], args, []⟩).memory :=
  laidMetH_of_parts3 (fuel := 8) (laidMet_of_run' 8 (by kernel_rfl) (by kernel_rfl)) (by kernel_rfl) (by kernel_rfl)
theorem paid_reads (os : Os) {H : Type} (enc : TypeId × Value → H) : ∃ places, DataW.whole enc Tryz.prog ((World.doorLaid Tryz.prog 400 os).forCall (fun _ _ => 0) ⟨#[], #[.int .i64 0, .slice none 0 0, .slice none 0 0], []⟩).memory Tryz.f4.params.toList Rows.paidSpec.vars false #[Value.int .i64 0, .slice none 0 0, .slice none 0 0].toList 8 = some ([.lit (.int .i64 0), .nil, .nil], [], places) :=
  ⟨[], by kernel_rfl⟩
set_option maxRecDepth 100000 in
theorem paid_lifted (os : Os) (started : os.Started) (H : Type) (enc : TypeId × Value → H) (F : Stop.Interp) :
    ReturnsInHanded {} Tryz.checked os 4 .any ((Rows.OpenSpec.upto Rows.paidSpec).preRow enc Tryz.prog Tryz.f4 Rows.paidUptoRow.domain false Rows.paidUptoRow.laid) (((Rows.OpenSpec.upto Rows.paidSpec).at F).post enc Tryz.prog Tryz.f4 false true false false) := by
  obtain ⟨places, hx⟩ := paid_reads os enc
  refine returnsInHanded_of_row (C := Tryz.checked) (s := Rows.OpenSpec.upto Rows.paidSpec) own started (by kernel_rfl) Tryz.func4
    (witness_row_atRef (enc := enc) (C := Tryz.checked) false (World.doorLaid Tryz.prog 400 os) #[.int .i64 0, .slice none 0 0, .slice none 0 0] rfl (by kernel_rfl) (by kernel_rfl) (by kernel_rfl)
      (OpenSpec.preRow_of_cond 8 hx (by kernel_rfl) (fun k hk => by cases hk; kernel_rfl) (by kernel_rfl) (paid_met os _))) ?_
  intro W base args ds gs before hval hW _ hcond _ hL _ _
  exact paid_contract H enc W base args ds gs before hval hW (hcond _ rfl) hL
end Go.Proofs.YtighkdnooglfjaaGreatDoor
