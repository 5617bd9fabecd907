/-
  The contract of (tree.Tree).cut: made by tools/mk_cut.py.
-/
import Derived.Test.YtighkdnooglfjaaGreatDoorPdTree5
namespace Go.Proofs.YtighkdnooglfjaaGreatDoor
open Go.RowKit

/-- A state's root: none, or a tree. -/
def StAt (d : List UInt8 → ByteArray) (F : Nat → Prop) (w : World) : Option Nat → Option Tr → Prop
  | none, none => True
  | some n, some t => NodeAt d F w n t
  | _, _ => False
abbrev rootV (q : Option Nat) : Value := .pointer (q.map fun n => ⟨n, 0, none⟩)
theorem StAt.tch {d : List UInt8 → ByteArray} {F : Nat → Prop} {w w' : World} {q : Option Nat} {st : Option Tr} {S : Nat → Prop} (h : StAt d F w q st) (k : Tch S w w') (hs : ∀ j, S j → ¬ F j) : StAt d F w' q st := by
  cases q <;> cases st <;> first | exact h | exact NodeAt.tch h k hs
theorem StAt.next {d : List UInt8 → ByteArray} {F : Nat → Prop} {w w' : World} {q : Option Nat} {st : Option Tr} (h : StAt d F w q st) (k : Tch (fun _ => False) w w') : StAt d F w' q st := h.tch k (fun _ h => h.elim)
theorem StAt.mono {d : List UInt8 → ByteArray} {F F' : Nat → Prop} {w : World} {q : Option Nat} {st : Option Tr} (h : StAt d F w q st) (hF : ∀ j, F j → F' j) : StAt d F' w q st := by
  cases q <;> cases st <;> first | exact h | exact NodeAt.mono h hF
def StOk (width : Nat) : Option Tr → Prop
  | none => True
  | some t => TrOk width t
/-- What cut comes to. -/
abbrev CutTo (width : Nat) (F : Nat → Prop) (r : Option Tr) (W : World) (e : Ending) (w' : World) : Prop := ∃ q, e = .returned (.tuple #[rootV q, .nilIface]) ∧ StAt (dgW width) F w' q r ∧ Tch (fun _ => False) W w'
theorem StAt.of_some {d : List UInt8 → ByteArray} {F : Nat → Prop} {w : World} {q : Option Nat} {t : Tr} (h : StAt d F w q (some t)) : ∃ m, q = Option.some m ∧ NodeAt d F w m t := by
  cases q with
  | none => exact h.elim
  | some m => exact ⟨m, rfl, h⟩
theorem StAt.of_none {d : List UInt8 → ByteArray} {F : Nat → Prop} {w : World} {q : Option Nat} (h : StAt d F w q Option.none) : q = Option.none := by
  cases q with
  | none => rfl
  | some m => exact h.elim
set_option maxRecDepth 100000 in
set_option maxHeartbeats 1000000 in
theorem cut_leaf (width : Nat) (F : Nat → Prop) (rv : Option Addr) (k : Key) (n : Nat) (w : World) (k' : Key) (o' : Nat × Nat) (hn : NodeAt (dgW width) F w n (.leaf k' o')) :
    Calls Tryz.prog 339 #[.agg #[.int .i64 (width : Int), .pointer rv], .pointer (some ⟨n, 0, none⟩), .string ⟨k.toArray⟩] w fun e w' => CutTo width F none w e w' := by
  have HIL : Hid (∀ W, Tch (fun _ => False) w W → Calls Tryz.prog 224 #[.pointer (some ⟨n, 0, none⟩)] W fun e w' => e = .returned (.bool true) ∧ w' = W) := fun W hT => by
    cases hn with
    | leaf _ _ _ _ hr => exact isLeaf_leaf n _ k' o' W ((hT.block n (Array.getElem?_eq_some_iff.1 hr).1 (fun h => h)).trans hr)
  clear hn
  generalize (⟨k.toArray⟩ : ByteArray) = kb at *
  go_enter Tryz.func339, Tryz.ntmps339
  go_wp2_with fail
  refine (HIL.out _ (Tch.alloc _ _ _)).mono ?_
  rintro _ _ ⟨rfl, rfl⟩
  go_wp2
  go_ret2
  exact ⟨none, rfl, trivial, Tch.alloc _ _ _⟩
set_option maxRecDepth 100000 in
set_option maxHeartbeats 1000000 in
theorem cut_lsome (E : Nat → Addr) (width : Nat) (hw1 : 1 ≤ width) (hw : width ≤ 32) (F : Nat → Prop) (rv : Option Addr) (k : Key) (hkl : k.length = width + 1) (b : Nat) (hb : b < 8 * (width + 1)) (l r : Tr) (n nl nr : Nat) (w : World) (hE : Env E w) (hF : ∀ j, w.heap.size ≤ j → F j) (hrow : w.heap[n]? = some (.cells (brC (Tr.dig (dgW width) (.br b l r)) b nl nr) 243)) (hnl : NodeAt (dgW width) F w nl l) (hnr : NodeAt (dgW width) F w nr r) (hbt : bt k b = 0) (s : Tr)
    (ih : ∀ W, Tch (fun _ => False) w W → Calls Tryz.prog 339 #[.agg #[.int .i64 (width : Int), .pointer rv], .pointer (some ⟨nl, 0, none⟩), .string ⟨k.toArray⟩] W fun e w' => CutTo width F (some s) W e w') :
    Calls Tryz.prog 339 #[.agg #[.int .i64 (width : Int), .pointer rv], .pointer (some ⟨n, 0, none⟩), .string ⟨k.toArray⟩] w fun e w' => CutTo width F (some (.br b s r)) w e w' := by
  have hnt : n < w.heap.size := (Array.getElem?_eq_some_iff.1 hrow).1
  have c4 : w.cell? ⟨n, 4, none⟩ = some (.int .i64 (b : Int)) := cell_of_row _ _ _ _ _ _ hrow
  have c5 : w.cell? ⟨n, 5, none⟩ = some (.pointer (some ⟨nl, 0, none⟩)) := cell_of_row _ _ _ _ _ _ hrow
  have c6 : w.cell? ⟨n, 6, none⟩ = some (.pointer (some ⟨nr, 0, none⟩)) := cell_of_row _ _ _ _ _ _ hrow
  have HBIT : Hid (∀ W, Calls Tryz.prog 288 #[.string ⟨k.toArray⟩, .int .i64 (b : Int)] W fun e w' => e = .returned (.int .i64 0) ∧ W = w') := fun W => by
    have := keyBit_any k b (by omega) (by omega) W
    rw [hbt] at this
    exact this.mono fun e w' h => ⟨h.1, h.2.symm⟩
  have HIL : Hid (∀ W, Tch (fun _ => False) w W → Calls Tryz.prog 224 #[.pointer (some ⟨n, 0, none⟩)] W fun e w' => e = .returned (.bool false) ∧ w' = W) := fun W hT => isLeaf_br n _ b nl nr W ((hT.block n hnt (fun h => h)).trans hrow)
  have HREC : Hid (∀ W, Tch (fun _ => False) w W → Calls Tryz.prog 339 #[.agg #[.int .i64 (width : Int), .pointer rv], .pointer (some ⟨nl, 0, none⟩), .string ⟨k.toArray⟩] W fun e w' => ∃ q, e = .returned (.tuple #[rootV q, .nilIface]) ∧ StAt (dgW width) F w' q (some s) ∧ Tch (fun _ => False) W w') := ih
  have HE : Hid (Env E w) := hE
  have HF : Hid (∀ j, w.heap.size ≤ j → F j) := hF
  have HNL : Hid (NodeAt _ _ _ _ _) := hnl
  have HNR : Hid (NodeAt _ _ _ _ _) := hnr
  have HPW : Hid (∀ (m : Nat) W, Calls Tryz.prog 333 #[.pointer (some ⟨nr, 0, none⟩), .pointer (some ⟨m, 0, none⟩), .int .i64 0] W fun e w' => e = .returned (.agg #[.pointer (some ⟨m, 0, none⟩), .pointer (some ⟨nr, 0, none⟩)]) ∧ Tch (fun _ => False) W w') := fun m W => paired_any (some ⟨nr, 0, none⟩) (some ⟨m, 0, none⟩) 0 W
  have HNB : Hid (∀ (m : Nat) W, Tch (fun _ => False) w W → NodeAt (dgW width) F W m s → Calls Tryz.prog 332 #[.int .i64 (width : Int), .int .i64 (b : Int), .agg #[.pointer (some ⟨m, 0, none⟩), .pointer (some ⟨nr, 0, none⟩)]] W fun e w' => ∃ q, e = .returned (.tuple #[.pointer (some ⟨q, 0, none⟩), .nilIface]) ∧ NodeAt (dgW width) F w' q (.br b s r) ∧ Tch (fun _ => False) W w') := fun m W hT hm => by
    refine (newBranch_any E width hw1 hw b m nr s r F hb W (HE.out.tch hT (fun _ h => h.elim)) hm (HNR.out.next hT)).mono ?_
    rintro e w' ⟨q, rfl, h1, h2, h3⟩
    exact ⟨q, rfl, .br q b m nr s r (HF.out q (Nat.le_trans hT.size h1)) h2 (hm.next h3) ((HNR.out.next hT).next h3), h3⟩
  clear ih hrow hE hF hnl hnr hbt
  generalize (⟨k.toArray⟩ : ByteArray) = kb at *
  go_enter Tryz.func339, Tryz.ntmps339
  go_wp2_with fail
  refine (HIL.out _ (Tch.alloc _ _ _)).mono ?_
  rintro _ _ ⟨rfl, rfl⟩
  have hA0 : Tch (fun _ => False) w (w.alloc (.cells #[.int .i64 (width : Int), .pointer rv] 146)) := Tch.alloc _ _ _
  obtain ⟨wA, hwA⟩ : ∃ wA, wA = w.alloc (.cells #[.int .i64 (width : Int), .pointer rv] 146) := ⟨_, rfl⟩
  rw [← hwA] at hA0 ⊢
  have hrA : wA.heap[w.heap.size]? = some (.cells #[.int .i64 (width : Int), .pointer rv] 146) := by rw [hwA]; exact heap_alloc_new _ _
  have hzA : w.heap.size < wA.heap.size := (Array.getElem?_eq_some_iff.1 hrA).1
  have HCL : Hid (∀ W, Tch (fun _ => False) wA W → (W.cell? ⟨w.heap.size, 0, none⟩ = some (.int .i64 (width : Int)) ∧ W.cell? ⟨w.heap.size, 1, none⟩ = some (.pointer rv) ∧ W.cell? ⟨n, 4, none⟩ = some (.int .i64 (b : Int)) ∧ W.cell? ⟨n, 5, none⟩ = some (.pointer (some ⟨nl, 0, none⟩)) ∧ W.cell? ⟨n, 6, none⟩ = some (.pointer (some ⟨nr, 0, none⟩))) ∧ Tch (fun _ => False) w W) := fun W hT =>
    ⟨⟨(hT.cell (p := ⟨w.heap.size, 0, none⟩) hzA (fun h => h)).trans (cell_of_row _ _ _ _ _ _ hrA), (hT.cell (p := ⟨w.heap.size, 1, none⟩) hzA (fun h => h)).trans (cell_of_row _ _ _ _ _ _ hrA), ((hA0.trans hT (fun _ h => h.elim)).cell (p := ⟨n, 4, none⟩) hnt (fun h => h)).trans c4, ((hA0.trans hT (fun _ h => h.elim)).cell (p := ⟨n, 5, none⟩) hnt (fun h => h)).trans c5, ((hA0.trans hT (fun _ h => h.elim)).cell (p := ⟨n, 6, none⟩) hnt (fun h => h)).trans c6⟩, hA0.trans hT (fun _ h => h.elim)⟩
  obtain ⟨⟨a0, a1, a3, a4, a5⟩, _⟩ := HCL.out wA (Tch.refl _ _)
  have hz0 : IntKind.i64.wrap 0 = 0 := by decide
  have hz1 : IntKind.i64.wrap 1 = 1 := by decide
  clear hA0 hrA hwA c4 c5 c6 HIL
  have HTW : Hid (∀ q, Tch (fun _ => False) w (wA.drewN q)) := fun q => (HCL.out _ (Tch.drewN _ wA q)).2
  go_wp2_with fail
  refine (HBIT.out _).mono ?_
  rintro _ _ ⟨rfl, rfl⟩
  clear HBIT
  go_wp2_with fail
  go_region_held3 (fun W => W.cell? ⟨w.heap.size, 0, none⟩ = some (.int .i64 (width : Int)) ∧ W.cell? ⟨w.heap.size, 1, none⟩ = some (.pointer rv) ∧ W.cell? ⟨n, 5, none⟩ = some (.pointer (some ⟨nl, 0, none⟩)) ∧ W.cell? ⟨n, 6, none⟩ = some (.pointer (some ⟨nr, 0, none⟩))) (go_keep) ((go_at_call 339; refine (HREC.out _ (HTW.out 1)).mono ?_; rintro _ w2 ⟨q, rfl, hq, ht2⟩; have hT2 : Tch (fun _ => False) wA w2 := (Tch.drewN (fun _ => False) wA 1).trans ht2 (fun _ h => h.elim); obtain ⟨⟨b0, b1, b3, b4, b5⟩, hTw2⟩ := HCL.out w2 hT2; obtain ⟨m, rfl, hm⟩ := hq.of_some; have HM : Hid (NodeAt _ _ _ _ _) := hm; clear hm hq; have HT2 : Hid (Tch (fun _ => False) wA w2) := hT2; have HW2 : Hid (Tch (fun _ => False) w w2) := hTw2; clear ht2 hT2 hTw2))
  all_goals
    clear HREC a0 a1 a3 a4 a5 HTW
    have HTW : Hid (∀ q, Tch (fun _ => False) wA (w2.drewN q)) := fun q => HT2.out.trans (Tch.drewN (fun _ => False) w2 q) (fun _ h => h.elim)
    go_wp2_with fail
    go_region_held3 (fun W => W.cell? ⟨w.heap.size, 0, none⟩ = some (.int .i64 (width : Int)) ∧ W.cell? ⟨n, 4, none⟩ = some (.int .i64 (b : Int))) (go_keep) ((first | (go_at_call 333; refine (HPW.out m _).mono ?_; rintro _ w3 ⟨rfl, ht3⟩; have hT3 : Tch (fun _ => False) wA w3 := (HTW.out 1).trans ht3 (fun _ h => h.elim); obtain ⟨⟨d0, d1, d3, d4, d5⟩, hTw3⟩ := HCL.out w3 hT3; have HM3 : Hid (NodeAt (dgW width) F w3 m _) := (HM.out.next (Tch.drewN (fun _ => False) w2 1)).next ht3; have HT3 : Hid (Tch (fun _ => False) wA w3) := hT3; have HW3 : Hid (Tch (fun _ => False) w w3) := hTw3; clear ht3 hT3 hTw3) | (go_at_call 332; refine (HNB.out m _ HW3.out HM3.out).mono ?_; rintro _ w4 ⟨q, rfl, hq, ht4⟩; have hT4 : Tch (fun _ => False) wA w4 := HT3.out.trans ht4 (fun _ h => h.elim); obtain ⟨⟨f0, f1, f3, f4, f5⟩, hTw4⟩ := HCL.out w4 hT4; have HQ : Hid (NodeAt _ _ _ _ _) := hq; have HW4 : Hid (Tch (fun _ => False) w w4) := hTw4; clear ht4 hT4 hq hTw4)))
    all_goals
      go_wp2
      go_ret2
      exact ⟨some q, rfl, HQ.out, HW4.out⟩
set_option maxRecDepth 100000 in
set_option maxHeartbeats 1000000 in
theorem cut_lnone (E : Nat → Addr) (width : Nat) (hw1 : 1 ≤ width) (hw : width ≤ 32) (F : Nat → Prop) (rv : Option Addr) (k : Key) (hkl : k.length = width + 1) (b : Nat) (hb : b < 8 * (width + 1)) (l r : Tr) (n nl nr : Nat) (w : World) (hE : Env E w) (hF : ∀ j, w.heap.size ≤ j → F j) (hrow : w.heap[n]? = some (.cells (brC (Tr.dig (dgW width) (.br b l r)) b nl nr) 243)) (hnl : NodeAt (dgW width) F w nl l) (hnr : NodeAt (dgW width) F w nr r) (hbt : bt k b = 0)
    (ih : ∀ W, Tch (fun _ => False) w W → Calls Tryz.prog 339 #[.agg #[.int .i64 (width : Int), .pointer rv], .pointer (some ⟨nl, 0, none⟩), .string ⟨k.toArray⟩] W fun e w' => CutTo width F none W e w') :
    Calls Tryz.prog 339 #[.agg #[.int .i64 (width : Int), .pointer rv], .pointer (some ⟨n, 0, none⟩), .string ⟨k.toArray⟩] w fun e w' => CutTo width F (some r) w e w' := by
  have hnt : n < w.heap.size := (Array.getElem?_eq_some_iff.1 hrow).1
  have c4 : w.cell? ⟨n, 4, none⟩ = some (.int .i64 (b : Int)) := cell_of_row _ _ _ _ _ _ hrow
  have c5 : w.cell? ⟨n, 5, none⟩ = some (.pointer (some ⟨nl, 0, none⟩)) := cell_of_row _ _ _ _ _ _ hrow
  have c6 : w.cell? ⟨n, 6, none⟩ = some (.pointer (some ⟨nr, 0, none⟩)) := cell_of_row _ _ _ _ _ _ hrow
  have HBIT : Hid (∀ W, Calls Tryz.prog 288 #[.string ⟨k.toArray⟩, .int .i64 (b : Int)] W fun e w' => e = .returned (.int .i64 0) ∧ W = w') := fun W => by
    have := keyBit_any k b (by omega) (by omega) W
    rw [hbt] at this
    exact this.mono fun e w' h => ⟨h.1, h.2.symm⟩
  have HIL : Hid (∀ W, Tch (fun _ => False) w W → Calls Tryz.prog 224 #[.pointer (some ⟨n, 0, none⟩)] W fun e w' => e = .returned (.bool false) ∧ w' = W) := fun W hT => isLeaf_br n _ b nl nr W ((hT.block n hnt (fun h => h)).trans hrow)
  have HREC : Hid (∀ W, Tch (fun _ => False) w W → Calls Tryz.prog 339 #[.agg #[.int .i64 (width : Int), .pointer rv], .pointer (some ⟨nl, 0, none⟩), .string ⟨k.toArray⟩] W fun e w' => ∃ q, e = .returned (.tuple #[rootV q, .nilIface]) ∧ StAt (dgW width) F w' q none ∧ Tch (fun _ => False) W w') := ih
  have HE : Hid (Env E w) := hE
  have HF : Hid (∀ j, w.heap.size ≤ j → F j) := hF
  have HNL : Hid (NodeAt _ _ _ _ _) := hnl
  have HNR : Hid (NodeAt _ _ _ _ _) := hnr
  clear ih hrow hE hF hnl hnr hbt
  generalize (⟨k.toArray⟩ : ByteArray) = kb at *
  go_enter Tryz.func339, Tryz.ntmps339
  go_wp2_with fail
  refine (HIL.out _ (Tch.alloc _ _ _)).mono ?_
  rintro _ _ ⟨rfl, rfl⟩
  have hA0 : Tch (fun _ => False) w (w.alloc (.cells #[.int .i64 (width : Int), .pointer rv] 146)) := Tch.alloc _ _ _
  obtain ⟨wA, hwA⟩ : ∃ wA, wA = w.alloc (.cells #[.int .i64 (width : Int), .pointer rv] 146) := ⟨_, rfl⟩
  rw [← hwA] at hA0 ⊢
  have hrA : wA.heap[w.heap.size]? = some (.cells #[.int .i64 (width : Int), .pointer rv] 146) := by rw [hwA]; exact heap_alloc_new _ _
  have hzA : w.heap.size < wA.heap.size := (Array.getElem?_eq_some_iff.1 hrA).1
  have HCL : Hid (∀ W, Tch (fun _ => False) wA W → (W.cell? ⟨w.heap.size, 0, none⟩ = some (.int .i64 (width : Int)) ∧ W.cell? ⟨w.heap.size, 1, none⟩ = some (.pointer rv) ∧ W.cell? ⟨n, 4, none⟩ = some (.int .i64 (b : Int)) ∧ W.cell? ⟨n, 5, none⟩ = some (.pointer (some ⟨nl, 0, none⟩)) ∧ W.cell? ⟨n, 6, none⟩ = some (.pointer (some ⟨nr, 0, none⟩))) ∧ Tch (fun _ => False) w W) := fun W hT =>
    ⟨⟨(hT.cell (p := ⟨w.heap.size, 0, none⟩) hzA (fun h => h)).trans (cell_of_row _ _ _ _ _ _ hrA), (hT.cell (p := ⟨w.heap.size, 1, none⟩) hzA (fun h => h)).trans (cell_of_row _ _ _ _ _ _ hrA), ((hA0.trans hT (fun _ h => h.elim)).cell (p := ⟨n, 4, none⟩) hnt (fun h => h)).trans c4, ((hA0.trans hT (fun _ h => h.elim)).cell (p := ⟨n, 5, none⟩) hnt (fun h => h)).trans c5, ((hA0.trans hT (fun _ h => h.elim)).cell (p := ⟨n, 6, none⟩) hnt (fun h => h)).trans c6⟩, hA0.trans hT (fun _ h => h.elim)⟩
  obtain ⟨⟨a0, a1, a3, a4, a5⟩, _⟩ := HCL.out wA (Tch.refl _ _)
  have hz0 : IntKind.i64.wrap 0 = 0 := by decide
  have hz1 : IntKind.i64.wrap 1 = 1 := by decide
  clear hA0 hrA hwA c4 c5 c6 HIL
  have HTW : Hid (∀ q, Tch (fun _ => False) w (wA.drewN q)) := fun q => (HCL.out _ (Tch.drewN _ wA q)).2
  go_wp2_with fail
  refine (HBIT.out _).mono ?_
  rintro _ _ ⟨rfl, rfl⟩
  clear HBIT
  go_wp2_with fail
  go_region_held3 (fun W => W.cell? ⟨w.heap.size, 0, none⟩ = some (.int .i64 (width : Int)) ∧ W.cell? ⟨w.heap.size, 1, none⟩ = some (.pointer rv) ∧ W.cell? ⟨n, 5, none⟩ = some (.pointer (some ⟨nl, 0, none⟩)) ∧ W.cell? ⟨n, 6, none⟩ = some (.pointer (some ⟨nr, 0, none⟩))) (go_keep) ((go_at_call 339; refine (HREC.out _ (HTW.out 1)).mono ?_; rintro _ w2 ⟨q, rfl, hq, ht2⟩; have hT2 : Tch (fun _ => False) wA w2 := (Tch.drewN (fun _ => False) wA 1).trans ht2 (fun _ h => h.elim); obtain ⟨⟨b0, b1, b3, b4, b5⟩, hTw2⟩ := HCL.out w2 hT2; obtain rfl := hq.of_none; clear hq; have HT2 : Hid (Tch (fun _ => False) wA w2) := hT2; have HW2 : Hid (Tch (fun _ => False) w w2) := hTw2; clear ht2 hT2 hTw2))
  all_goals
    clear HREC a0 a1 a3 a4 a5 HTW
    go_wp2
    go_ret2
    exact ⟨some nr, rfl, HNR.out.next HW2.out, HW2.out⟩
set_option maxRecDepth 100000 in
set_option maxHeartbeats 1000000 in
theorem cut_rsome (E : Nat → Addr) (width : Nat) (hw1 : 1 ≤ width) (hw : width ≤ 32) (F : Nat → Prop) (rv : Option Addr) (k : Key) (hkl : k.length = width + 1) (b : Nat) (hb : b < 8 * (width + 1)) (l r : Tr) (n nl nr : Nat) (w : World) (hE : Env E w) (hF : ∀ j, w.heap.size ≤ j → F j) (hrow : w.heap[n]? = some (.cells (brC (Tr.dig (dgW width) (.br b l r)) b nl nr) 243)) (hnl : NodeAt (dgW width) F w nl l) (hnr : NodeAt (dgW width) F w nr r) (hbt : bt k b = 1) (s : Tr)
    (ih : ∀ W, Tch (fun _ => False) w W → Calls Tryz.prog 339 #[.agg #[.int .i64 (width : Int), .pointer rv], .pointer (some ⟨nr, 0, none⟩), .string ⟨k.toArray⟩] W fun e w' => CutTo width F (some s) W e w') :
    Calls Tryz.prog 339 #[.agg #[.int .i64 (width : Int), .pointer rv], .pointer (some ⟨n, 0, none⟩), .string ⟨k.toArray⟩] w fun e w' => CutTo width F (some (.br b l s)) w e w' := by
  have hnt : n < w.heap.size := (Array.getElem?_eq_some_iff.1 hrow).1
  have c4 : w.cell? ⟨n, 4, none⟩ = some (.int .i64 (b : Int)) := cell_of_row _ _ _ _ _ _ hrow
  have c5 : w.cell? ⟨n, 5, none⟩ = some (.pointer (some ⟨nl, 0, none⟩)) := cell_of_row _ _ _ _ _ _ hrow
  have c6 : w.cell? ⟨n, 6, none⟩ = some (.pointer (some ⟨nr, 0, none⟩)) := cell_of_row _ _ _ _ _ _ hrow
  have HBIT : Hid (∀ W, Calls Tryz.prog 288 #[.string ⟨k.toArray⟩, .int .i64 (b : Int)] W fun e w' => e = .returned (.int .i64 1) ∧ W = w') := fun W => by
    have := keyBit_any k b (by omega) (by omega) W
    rw [hbt] at this
    exact this.mono fun e w' h => ⟨h.1, h.2.symm⟩
  have HIL : Hid (∀ W, Tch (fun _ => False) w W → Calls Tryz.prog 224 #[.pointer (some ⟨n, 0, none⟩)] W fun e w' => e = .returned (.bool false) ∧ w' = W) := fun W hT => isLeaf_br n _ b nl nr W ((hT.block n hnt (fun h => h)).trans hrow)
  have HREC : Hid (∀ W, Tch (fun _ => False) w W → Calls Tryz.prog 339 #[.agg #[.int .i64 (width : Int), .pointer rv], .pointer (some ⟨nr, 0, none⟩), .string ⟨k.toArray⟩] W fun e w' => ∃ q, e = .returned (.tuple #[rootV q, .nilIface]) ∧ StAt (dgW width) F w' q (some s) ∧ Tch (fun _ => False) W w') := ih
  have HE : Hid (Env E w) := hE
  have HF : Hid (∀ j, w.heap.size ≤ j → F j) := hF
  have HNL : Hid (NodeAt _ _ _ _ _) := hnl
  have HNR : Hid (NodeAt _ _ _ _ _) := hnr
  have HPW : Hid (∀ (m : Nat) W, Calls Tryz.prog 333 #[.pointer (some ⟨nl, 0, none⟩), .pointer (some ⟨m, 0, none⟩), .int .i64 1] W fun e w' => e = .returned (.agg #[.pointer (some ⟨nl, 0, none⟩), .pointer (some ⟨m, 0, none⟩)]) ∧ Tch (fun _ => False) W w') := fun m W => paired_any (some ⟨nl, 0, none⟩) (some ⟨m, 0, none⟩) 1 W
  have HNB : Hid (∀ (m : Nat) W, Tch (fun _ => False) w W → NodeAt (dgW width) F W m s → Calls Tryz.prog 332 #[.int .i64 (width : Int), .int .i64 (b : Int), .agg #[.pointer (some ⟨nl, 0, none⟩), .pointer (some ⟨m, 0, none⟩)]] W fun e w' => ∃ q, e = .returned (.tuple #[.pointer (some ⟨q, 0, none⟩), .nilIface]) ∧ NodeAt (dgW width) F w' q (.br b l s) ∧ Tch (fun _ => False) W w') := fun m W hT hm => by
    refine (newBranch_any E width hw1 hw b nl m l s F hb W (HE.out.tch hT (fun _ h => h.elim)) (HNL.out.next hT) hm).mono ?_
    rintro e w' ⟨q, rfl, h1, h2, h3⟩
    exact ⟨q, rfl, .br q b nl m l s (HF.out q (Nat.le_trans hT.size h1)) h2 ((HNL.out.next hT).next h3) (hm.next h3), h3⟩
  clear ih hrow hE hF hnl hnr hbt
  generalize (⟨k.toArray⟩ : ByteArray) = kb at *
  go_enter Tryz.func339, Tryz.ntmps339
  go_wp2_with fail
  refine (HIL.out _ (Tch.alloc _ _ _)).mono ?_
  rintro _ _ ⟨rfl, rfl⟩
  have hA0 : Tch (fun _ => False) w (w.alloc (.cells #[.int .i64 (width : Int), .pointer rv] 146)) := Tch.alloc _ _ _
  obtain ⟨wA, hwA⟩ : ∃ wA, wA = w.alloc (.cells #[.int .i64 (width : Int), .pointer rv] 146) := ⟨_, rfl⟩
  rw [← hwA] at hA0 ⊢
  have hrA : wA.heap[w.heap.size]? = some (.cells #[.int .i64 (width : Int), .pointer rv] 146) := by rw [hwA]; exact heap_alloc_new _ _
  have hzA : w.heap.size < wA.heap.size := (Array.getElem?_eq_some_iff.1 hrA).1
  have HCL : Hid (∀ W, Tch (fun _ => False) wA W → (W.cell? ⟨w.heap.size, 0, none⟩ = some (.int .i64 (width : Int)) ∧ W.cell? ⟨w.heap.size, 1, none⟩ = some (.pointer rv) ∧ W.cell? ⟨n, 4, none⟩ = some (.int .i64 (b : Int)) ∧ W.cell? ⟨n, 5, none⟩ = some (.pointer (some ⟨nl, 0, none⟩)) ∧ W.cell? ⟨n, 6, none⟩ = some (.pointer (some ⟨nr, 0, none⟩))) ∧ Tch (fun _ => False) w W) := fun W hT =>
    ⟨⟨(hT.cell (p := ⟨w.heap.size, 0, none⟩) hzA (fun h => h)).trans (cell_of_row _ _ _ _ _ _ hrA), (hT.cell (p := ⟨w.heap.size, 1, none⟩) hzA (fun h => h)).trans (cell_of_row _ _ _ _ _ _ hrA), ((hA0.trans hT (fun _ h => h.elim)).cell (p := ⟨n, 4, none⟩) hnt (fun h => h)).trans c4, ((hA0.trans hT (fun _ h => h.elim)).cell (p := ⟨n, 5, none⟩) hnt (fun h => h)).trans c5, ((hA0.trans hT (fun _ h => h.elim)).cell (p := ⟨n, 6, none⟩) hnt (fun h => h)).trans c6⟩, hA0.trans hT (fun _ h => h.elim)⟩
  obtain ⟨⟨a0, a1, a3, a4, a5⟩, _⟩ := HCL.out wA (Tch.refl _ _)
  have hz0 : IntKind.i64.wrap 0 = 0 := by decide
  have hz1 : IntKind.i64.wrap 1 = 1 := by decide
  clear hA0 hrA hwA c4 c5 c6 HIL
  have HTW : Hid (∀ q, Tch (fun _ => False) w (wA.drewN q)) := fun q => (HCL.out _ (Tch.drewN _ wA q)).2
  go_wp2_with fail
  refine (HBIT.out _).mono ?_
  rintro _ _ ⟨rfl, rfl⟩
  clear HBIT
  go_wp2_with fail
  go_region_held3 (fun W => W.cell? ⟨w.heap.size, 0, none⟩ = some (.int .i64 (width : Int)) ∧ W.cell? ⟨w.heap.size, 1, none⟩ = some (.pointer rv) ∧ W.cell? ⟨n, 5, none⟩ = some (.pointer (some ⟨nl, 0, none⟩)) ∧ W.cell? ⟨n, 6, none⟩ = some (.pointer (some ⟨nr, 0, none⟩))) (go_keep) ((go_at_call 339; refine (HREC.out _ (HTW.out 1)).mono ?_; rintro _ w2 ⟨q, rfl, hq, ht2⟩; have hT2 : Tch (fun _ => False) wA w2 := (Tch.drewN (fun _ => False) wA 1).trans ht2 (fun _ h => h.elim); obtain ⟨⟨b0, b1, b3, b4, b5⟩, hTw2⟩ := HCL.out w2 hT2; obtain ⟨m, rfl, hm⟩ := hq.of_some; have HM : Hid (NodeAt _ _ _ _ _) := hm; clear hm hq; have HT2 : Hid (Tch (fun _ => False) wA w2) := hT2; have HW2 : Hid (Tch (fun _ => False) w w2) := hTw2; clear ht2 hT2 hTw2))
  all_goals
    clear HREC a0 a1 a3 a4 a5 HTW
    have HTW : Hid (∀ q, Tch (fun _ => False) wA (w2.drewN q)) := fun q => HT2.out.trans (Tch.drewN (fun _ => False) w2 q) (fun _ h => h.elim)
    go_wp2_with fail
    go_region_held3 (fun W => W.cell? ⟨w.heap.size, 0, none⟩ = some (.int .i64 (width : Int)) ∧ W.cell? ⟨n, 4, none⟩ = some (.int .i64 (b : Int))) (go_keep) ((first | (go_at_call 333; refine (HPW.out m _).mono ?_; rintro _ w3 ⟨rfl, ht3⟩; have hT3 : Tch (fun _ => False) wA w3 := (HTW.out 1).trans ht3 (fun _ h => h.elim); obtain ⟨⟨d0, d1, d3, d4, d5⟩, hTw3⟩ := HCL.out w3 hT3; have HM3 : Hid (NodeAt (dgW width) F w3 m _) := (HM.out.next (Tch.drewN (fun _ => False) w2 1)).next ht3; have HT3 : Hid (Tch (fun _ => False) wA w3) := hT3; have HW3 : Hid (Tch (fun _ => False) w w3) := hTw3; clear ht3 hT3 hTw3) | (go_at_call 332; refine (HNB.out m _ HW3.out HM3.out).mono ?_; rintro _ w4 ⟨q, rfl, hq, ht4⟩; have hT4 : Tch (fun _ => False) wA w4 := HT3.out.trans ht4 (fun _ h => h.elim); obtain ⟨⟨f0, f1, f3, f4, f5⟩, hTw4⟩ := HCL.out w4 hT4; have HQ : Hid (NodeAt _ _ _ _ _) := hq; have HW4 : Hid (Tch (fun _ => False) w w4) := hTw4; clear ht4 hT4 hq hTw4)))
    all_goals
      go_wp2
      go_ret2
      exact ⟨some q, rfl, HQ.out, HW4.out⟩
set_option maxRecDepth 100000 in
set_option maxHeartbeats 1000000 in
theorem cut_rnone (E : Nat → Addr) (width : Nat) (hw1 : 1 ≤ width) (hw : width ≤ 32) (F : Nat → Prop) (rv : Option Addr) (k : Key) (hkl : k.length = width + 1) (b : Nat) (hb : b < 8 * (width + 1)) (l r : Tr) (n nl nr : Nat) (w : World) (hE : Env E w) (hF : ∀ j, w.heap.size ≤ j → F j) (hrow : w.heap[n]? = some (.cells (brC (Tr.dig (dgW width) (.br b l r)) b nl nr) 243)) (hnl : NodeAt (dgW width) F w nl l) (hnr : NodeAt (dgW width) F w nr r) (hbt : bt k b = 1)
    (ih : ∀ W, Tch (fun _ => False) w W → Calls Tryz.prog 339 #[.agg #[.int .i64 (width : Int), .pointer rv], .pointer (some ⟨nr, 0, none⟩), .string ⟨k.toArray⟩] W fun e w' => CutTo width F none W e w') :
    Calls Tryz.prog 339 #[.agg #[.int .i64 (width : Int), .pointer rv], .pointer (some ⟨n, 0, none⟩), .string ⟨k.toArray⟩] w fun e w' => CutTo width F (some l) w e w' := by
  have hnt : n < w.heap.size := (Array.getElem?_eq_some_iff.1 hrow).1
  have c4 : w.cell? ⟨n, 4, none⟩ = some (.int .i64 (b : Int)) := cell_of_row _ _ _ _ _ _ hrow
  have c5 : w.cell? ⟨n, 5, none⟩ = some (.pointer (some ⟨nl, 0, none⟩)) := cell_of_row _ _ _ _ _ _ hrow
  have c6 : w.cell? ⟨n, 6, none⟩ = some (.pointer (some ⟨nr, 0, none⟩)) := cell_of_row _ _ _ _ _ _ hrow
  have HBIT : Hid (∀ W, Calls Tryz.prog 288 #[.string ⟨k.toArray⟩, .int .i64 (b : Int)] W fun e w' => e = .returned (.int .i64 1) ∧ W = w') := fun W => by
    have := keyBit_any k b (by omega) (by omega) W
    rw [hbt] at this
    exact this.mono fun e w' h => ⟨h.1, h.2.symm⟩
  have HIL : Hid (∀ W, Tch (fun _ => False) w W → Calls Tryz.prog 224 #[.pointer (some ⟨n, 0, none⟩)] W fun e w' => e = .returned (.bool false) ∧ w' = W) := fun W hT => isLeaf_br n _ b nl nr W ((hT.block n hnt (fun h => h)).trans hrow)
  have HREC : Hid (∀ W, Tch (fun _ => False) w W → Calls Tryz.prog 339 #[.agg #[.int .i64 (width : Int), .pointer rv], .pointer (some ⟨nr, 0, none⟩), .string ⟨k.toArray⟩] W fun e w' => ∃ q, e = .returned (.tuple #[rootV q, .nilIface]) ∧ StAt (dgW width) F w' q none ∧ Tch (fun _ => False) W w') := ih
  have HE : Hid (Env E w) := hE
  have HF : Hid (∀ j, w.heap.size ≤ j → F j) := hF
  have HNL : Hid (NodeAt _ _ _ _ _) := hnl
  have HNR : Hid (NodeAt _ _ _ _ _) := hnr
  clear ih hrow hE hF hnl hnr hbt
  generalize (⟨k.toArray⟩ : ByteArray) = kb at *
  go_enter Tryz.func339, Tryz.ntmps339
  go_wp2_with fail
  refine (HIL.out _ (Tch.alloc _ _ _)).mono ?_
  rintro _ _ ⟨rfl, rfl⟩
  have hA0 : Tch (fun _ => False) w (w.alloc (.cells #[.int .i64 (width : Int), .pointer rv] 146)) := Tch.alloc _ _ _
  obtain ⟨wA, hwA⟩ : ∃ wA, wA = w.alloc (.cells #[.int .i64 (width : Int), .pointer rv] 146) := ⟨_, rfl⟩
  rw [← hwA] at hA0 ⊢
  have hrA : wA.heap[w.heap.size]? = some (.cells #[.int .i64 (width : Int), .pointer rv] 146) := by rw [hwA]; exact heap_alloc_new _ _
  have hzA : w.heap.size < wA.heap.size := (Array.getElem?_eq_some_iff.1 hrA).1
  have HCL : Hid (∀ W, Tch (fun _ => False) wA W → (W.cell? ⟨w.heap.size, 0, none⟩ = some (.int .i64 (width : Int)) ∧ W.cell? ⟨w.heap.size, 1, none⟩ = some (.pointer rv) ∧ W.cell? ⟨n, 4, none⟩ = some (.int .i64 (b : Int)) ∧ W.cell? ⟨n, 5, none⟩ = some (.pointer (some ⟨nl, 0, none⟩)) ∧ W.cell? ⟨n, 6, none⟩ = some (.pointer (some ⟨nr, 0, none⟩))) ∧ Tch (fun _ => False) w W) := fun W hT =>
    ⟨⟨(hT.cell (p := ⟨w.heap.size, 0, none⟩) hzA (fun h => h)).trans (cell_of_row _ _ _ _ _ _ hrA), (hT.cell (p := ⟨w.heap.size, 1, none⟩) hzA (fun h => h)).trans (cell_of_row _ _ _ _ _ _ hrA), ((hA0.trans hT (fun _ h => h.elim)).cell (p := ⟨n, 4, none⟩) hnt (fun h => h)).trans c4, ((hA0.trans hT (fun _ h => h.elim)).cell (p := ⟨n, 5, none⟩) hnt (fun h => h)).trans c5, ((hA0.trans hT (fun _ h => h.elim)).cell (p := ⟨n, 6, none⟩) hnt (fun h => h)).trans c6⟩, hA0.trans hT (fun _ h => h.elim)⟩
  obtain ⟨⟨a0, a1, a3, a4, a5⟩, _⟩ := HCL.out wA (Tch.refl _ _)
  have hz0 : IntKind.i64.wrap 0 = 0 := by decide
  have hz1 : IntKind.i64.wrap 1 = 1 := by decide
  clear hA0 hrA hwA c4 c5 c6 HIL
  have HTW : Hid (∀ q, Tch (fun _ => False) w (wA.drewN q)) := fun q => (HCL.out _ (Tch.drewN _ wA q)).2
  go_wp2_with fail
  refine (HBIT.out _).mono ?_
  rintro _ _ ⟨rfl, rfl⟩
  clear HBIT
  go_wp2_with fail
  go_region_held3 (fun W => W.cell? ⟨w.heap.size, 0, none⟩ = some (.int .i64 (width : Int)) ∧ W.cell? ⟨w.heap.size, 1, none⟩ = some (.pointer rv) ∧ W.cell? ⟨n, 5, none⟩ = some (.pointer (some ⟨nl, 0, none⟩)) ∧ W.cell? ⟨n, 6, none⟩ = some (.pointer (some ⟨nr, 0, none⟩))) (go_keep) ((go_at_call 339; refine (HREC.out _ (HTW.out 1)).mono ?_; rintro _ w2 ⟨q, rfl, hq, ht2⟩; have hT2 : Tch (fun _ => False) wA w2 := (Tch.drewN (fun _ => False) wA 1).trans ht2 (fun _ h => h.elim); obtain ⟨⟨b0, b1, b3, b4, b5⟩, hTw2⟩ := HCL.out w2 hT2; obtain rfl := hq.of_none; clear hq; have HT2 : Hid (Tch (fun _ => False) wA w2) := hT2; have HW2 : Hid (Tch (fun _ => False) w w2) := hTw2; clear ht2 hT2 hTw2))
  all_goals
    clear HREC a0 a1 a3 a4 a5 HTW
    go_wp2
    go_ret2
    exact ⟨some nl, rfl, HNL.out.next HW2.out, HW2.out⟩
theorem cut_any (E : Nat → Addr) (width : Nat) (hw1 : 1 ≤ width) (hw : width ≤ 32) (F : Nat → Prop) (rv : Option Addr) (k : Key) (hkl : k.length = width + 1) : ∀ (t : Tr) (n : Nat) (w : World), TrOk width t → Env E w → (∀ j, w.heap.size ≤ j → F j) → NodeAt (dgW width) F w n t →
    Calls Tryz.prog 339 #[.agg #[.int .i64 (width : Int), .pointer rv], .pointer (some ⟨n, 0, none⟩), .string ⟨k.toArray⟩] w fun e w' => CutTo width F (t.cut k) w e w' := by
  intro t
  induction t with
  | leaf k' o' =>
    intro n w _ _ _ hn
    exact cut_leaf width F rv k n w k' o' hn
  | br b l r ihl ihr =>
    intro n w hok hE hF hn
    obtain ⟨hb, hokl, hokr⟩ := hok
    cases hn with
    | br _ _ nl nr _ _ hFn hr hnl hnr =>
      have il : ∀ W, Tch (fun _ => False) w W → _ := fun W (hT : Tch (fun _ => False) w W) => ihl nl W hokl (hE.tch hT (fun _ h => h.elim)) (fun j hj => hF j (Nat.le_trans hT.size hj)) (hnl.next hT)
      have ir : ∀ W, Tch (fun _ => False) w W → _ := fun W (hT : Tch (fun _ => False) w W) => ihr nr W hokr (hE.tch hT (fun _ h => h.elim)) (fun j hj => hF j (Nat.le_trans hT.size hj)) (hnr.next hT)
      simp only [Tr.cut]
      by_cases h0 : bt k b = 0
      · rw [if_pos h0]
        cases hc : l.cut k with
        | none => rw [hc] at il; exact cut_lnone E width hw1 hw F rv k hkl b hb l r n nl nr w hE hF hr hnl hnr h0 il
        | some s => rw [hc] at il; exact cut_lsome E width hw1 hw F rv k hkl b hb l r n nl nr w hE hF hr hnl hnr h0 s il
      · have h1 : bt k b = 1 := by have := bt_two k b; omega
        rw [if_neg h0]
        cases hc : r.cut k with
        | none => rw [hc] at ir; exact cut_rnone E width hw1 hw F rv k hkl b hb l r n nl nr w hE hF hr hnl hnr h1 ir
        | some s => rw [hc] at ir; exact cut_rsome E width hw1 hw F rv k hkl b hb l r n nl nr w hE hF hr hnl hnr h1 s ir
end Go.Proofs.YtighkdnooglfjaaGreatDoor
