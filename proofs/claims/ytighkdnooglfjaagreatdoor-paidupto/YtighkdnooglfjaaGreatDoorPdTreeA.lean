/-
  The contract of (tree.Tree).Without.
-/
import Derived.Test.YtighkdnooglfjaaGreatDoorPdTree9
namespace Go.Proofs.YtighkdnooglfjaaGreatDoor
open Go.RowKit

theorem results_cell2_tmp {P : Program} {fn : Func} {p p2 t : Tmp} {ty ty2 : TypeId} (h : fn.results = #[.cell p ty, .cell p2 ty2, .tmp t]) (tmps : Array Value) (w : World) (g g2 : Nat) (T T2 : TypeId) (cs cs2 : Array Value) (fr fr2 : Nat × Nat) (d d2 : TypeDesc)
    (hp : tmps.getD p undef = .pointer (some ⟨g, 0, none⟩)) (hg : w.heap[g]? = some (.cells cs T fr))
    (hu : P.underlying ty = some d) (hd : (match d with | .struct _ | .array _ _ => true | _ => false) = true) (hi : (P.info? ty).map (·.size) = some cs.size)
    (hp2 : tmps.getD p2 undef = .pointer (some ⟨g2, 0, none⟩)) (hg2 : w.heap[g2]? = some (.cells cs2 T2 fr2))
    (hu2 : P.underlying ty2 = some d2) (hd2 : (match d2 with | .struct _ | .array _ _ => true | _ => false) = true) (hi2 : (P.info? ty2).map (·.size) = some cs2.size) :
    (results fn tmps).run P w = .ok (.tuple #[.agg cs, .agg cs2, tmps.getD t undef]) w := by
  have hp' : tmps[p]?.getD undef = .pointer (some ⟨g, 0, none⟩) := by simpa using hp
  have hp2' : tmps[p2]?.getD undef = .pointer (some ⟨g2, 0, none⟩) := by simpa using hp2
  simp [results, h, hp', hp2', asAddr, run_loadVar_row w g T ty cs fr d hg hu hd hi, run_loadVar_row w g2 T2 ty2 cs2 fr2 d2 hg2 hu2 hd2 hi2]
/-- The four rows of Without: the tree, the coin, the two results. -/
structure OutBox (w W : World) (width : Nat) (q : Option Nat) (c : ByteArray × Int) : Prop where
  t : W.heap[w.heap.size]? = some (.cells #[.int .i64 (width : Int), rootV q] 146)
  c : W.heap[w.heap.size + 1]? = some (.cells #[.string c.1, .int .i64 c.2] 49)
  r : W.heap[w.heap.size + 2]? = some (.cells #[.int .i64 0, .pointer none] 146)
  o : W.heap[w.heap.size + 3]? = some (.cells #[.int .u64 0, .int .u8 0] 80)
theorem OutBox.next {w W W' : World} {width : Nat} {q : Option Nat} {c : ByteArray × Int} (h : OutBox w W width q c) (k : Tch (fun _ => False) W W') : OutBox w W' width q c :=
  ⟨(k.block _ (Array.getElem?_eq_some_iff.1 h.t).1 (fun h => h)).trans h.t, (k.block _ (Array.getElem?_eq_some_iff.1 h.c).1 (fun h => h)).trans h.c, (k.block _ (Array.getElem?_eq_some_iff.1 h.r).1 (fun h => h)).trans h.r, (k.block _ (Array.getElem?_eq_some_iff.1 h.o).1 (fun h => h)).trans h.o⟩
theorem outBox_new (w : World) (width : Nat) (q : Option Nat) (c : ByteArray × Int) : OutBox w ((((w.alloc (.cells #[.int .i64 (width : Int), rootV q] 146)).alloc (.cells #[.string c.1, .int .i64 c.2] 49)).alloc (.cells #[.int .i64 0, .pointer none] 146)).alloc (.cells #[.int .u64 0, .int .u8 0] 80)) width q c :=
  ⟨(heap_alloc4_low _ _ _ _ _ _ (by omega)).trans (heap_alloc3_0 _ _ _ _), (heap_alloc4_low _ _ _ _ _ _ (by omega)).trans (heap_alloc3_1 _ _ _ _), (heap_alloc4_low _ _ _ _ _ _ (by omega)).trans (heap_alloc3_2 _ _ _ _), heap_alloc4_3 _ _ _ _ _⟩
/-- Both results stored. -/
theorem out_stored {d : List UInt8 → ByteArray} {F : Nat → Prop} {w W : World} {width : Nat} {q : Option Nat} {c : ByteArray × Int} (h : OutBox w W width q c) (hT : Tch (fun _ => False) w W) (v0 v1 u0 u1 : Value) :
    ((((W.setCell ⟨w.heap.size + 2, 0, none⟩ v0).setCell ⟨w.heap.size + 2, 1, none⟩ v1).setCell ⟨w.heap.size + 3, 0, none⟩ u0).setCell ⟨w.heap.size + 3, 1, none⟩ u1).heap[w.heap.size + 2]? = some (.cells #[v0, v1] 146) ∧
    ((((W.setCell ⟨w.heap.size + 2, 0, none⟩ v0).setCell ⟨w.heap.size + 2, 1, none⟩ v1).setCell ⟨w.heap.size + 3, 0, none⟩ u0).setCell ⟨w.heap.size + 3, 1, none⟩ u1).heap[w.heap.size + 3]? = some (.cells #[u0, u1] 80) ∧
    Tch (fun _ => False) w ((((W.setCell ⟨w.heap.size + 2, 0, none⟩ v0).setCell ⟨w.heap.size + 2, 1, none⟩ v1).setCell ⟨w.heap.size + 3, 0, none⟩ u0).setCell ⟨w.heap.size + 3, 1, none⟩ u1) ∧
    ∀ q' st', StAt d F W q' st' → StAt d F ((((W.setCell ⟨w.heap.size + 2, 0, none⟩ v0).setCell ⟨w.heap.size + 2, 1, none⟩ v1).setCell ⟨w.heap.size + 3, 0, none⟩ u0).setCell ⟨w.heap.size + 3, 1, none⟩ u1) q' st' := by
  rw [set2 W (w.heap.size + 2) _ _ _ _ _ h.r]
  have t1 := Tch.setRow W (w.heap.size + 2) #[v0, v1]
  have o1 : (W.setRow (w.heap.size + 2) #[v0, v1]).heap[w.heap.size + 3]? = some (.cells #[.int .u64 0, .int .u8 0] 80) := (t1.block _ (Array.getElem?_eq_some_iff.1 h.o).1 (by omega)).trans h.o
  have r1 : (W.setRow (w.heap.size + 2) #[v0, v1]).heap[w.heap.size + 2]? = some (.cells #[v0, v1] 146) := setRow_heap _ _ _ _ _ _ h.r
  rw [set2 _ (w.heap.size + 3) _ _ _ _ _ o1]
  have t2 := Tch.setRow (W.setRow (w.heap.size + 2) #[v0, v1]) (w.heap.size + 3) #[u0, u1]
  refine ⟨(t2.block _ (Array.getElem?_eq_some_iff.1 r1).1 (by omega)).trans r1, setRow_heap _ _ _ _ _ _ o1, (hT.trans t1 (fun j hj => .inr (by omega))).trans t2 (fun j hj => .inr (by omega)), fun q' st' hs => ?_⟩
  exact (hs.row h.r (by decide)).row o1 (by decide)
/-- What Without comes to. -/
def WoTo (E : Nat → Addr) (width : Nat) (F : Nat → Prop) (r : Except Er (Option Tr × (Nat × Nat))) (e : Ending) (w' : World) : Prop := match r with
  | .ok (st', o) => ∃ q', e = .returned (.tuple #[treeV width q', .agg #[.int .u64 (o.1 : Int), .int .u8 (o.2 : Int)], .nilIface]) ∧ StAt (dgW width) F w' q' st'
  | .error _ => e = .returned (.tuple #[.agg #[.int .i64 0, .pointer none], .agg #[.int .u64 0, .int .u8 0], eV E 1])
set_option maxRecDepth 100000 in
set_option maxHeartbeats 1000000 in
theorem without_any (E : Nat → Addr) (width : Nat) (hw1 : 1 ≤ width) (hw : width ≤ 32) (F : Nat → Prop) (q : Option Nat) (st : Option Tr) (c : ByteArray × Int) (hc : CoinOk width c) (w : World) (hE : Env E w) (hF : ∀ j, w.heap.size ≤ j → F j) (hs : StAt (dgW width) F w q st) (hok : StOk width st) :
    Calls Tryz.prog 284 #[treeV width q, .agg #[.string c.1, .int .i64 c.2]] w fun e w' => Tch (fun _ => False) w w' ∧ WoTo E width F (withoutT st (coinB c)) e w' := by
  have hkl : (coinB c).length = width + 1 := coinB_len hc
  have HKO : Hid (∀ W, Tch (fun _ => False) w W → Calls Tryz.prog 145 #[.int .i64 (width : Int), .agg #[.string c.1, .int .i64 c.2]] W fun e w' => e = .returned (.tuple #[.string ⟨(coinB c).toArray⟩, .nilIface]) ∧ Tch (fun _ => False) W w') := fun W hT => keysOf_ok E width hw c hc W (hE.tch hT (fun _ h => h.elim))
  have HS : Hid (StAt (dgW width) F w q st) := hs
  have HE : Hid (Env E w) := hE
  have HF : Hid (∀ j, w.heap.size ≤ j → F j) := hF
  have HOK : Hid (StOk width st) := hok
  have HBX := outBox_new w width q c
  obtain ⟨rv, hrv⟩ : ∃ rv, rv = (q.map fun n => (⟨n, 0, none⟩ : Addr)) := ⟨_, rfl⟩
  have hrq : rootV q = .pointer rv := by rw [hrv]
  clear hs hE hF hok hc
  obtain ⟨cs, cn⟩ := c
  dsimp only at HKO HBX ⊢
  show Calls _ _ #[.agg #[_, rootV q], _] _ _
  rw [hrq]
  have HRQ : Hid (rootV q = .pointer rv) := hrq
  clear hrq hrv
  have HA0 : Hid (Tch (fun _ => False) w ((((w.alloc (.cells #[.int .i64 (width : Int), .pointer rv] 146)).alloc (.cells #[.string cs, .int .i64 cn] 49)).alloc (.cells #[.int .i64 0, .pointer none] 146)).alloc (.cells #[.int .u64 0, .int .u8 0] 80))) := (Tch.allocs3 (fun _ => False) w _ _ _).trans (Tch.alloc _ _ _) (fun _ h => .inl h)
  have HB0 : Hid (OutBox w ((((w.alloc (.cells #[.int .i64 (width : Int), .pointer rv] 146)).alloc (.cells #[.string cs, .int .i64 cn] 49)).alloc (.cells #[.int .i64 0, .pointer none] 146)).alloc (.cells #[.int .u64 0, .int .u8 0] 80)) width q (cs, cn)) := by rw [← HRQ.out]; exact HBX
  clear HBX
  go_enter Tryz.func284, Tryz.ntmps284
  go_wp2_with fail
  refine (HKO.out _ HA0.out).mono ?_
  rintro _ w2 ⟨rfl, ht1⟩
  have HT2 : Hid (Tch (fun _ => False) w w2) := HA0.out.trans ht1 (fun _ h => h.elim)
  have b2 := HB0.out.next ht1
  have HB2 : Hid (OutBox w w2 width q (cs, cn)) := b2
  have d0 : w2.cell? ⟨w.heap.size, 0, none⟩ = some (.int .i64 (width : Int)) := cell_of_row _ _ _ _ _ _ b2.t
  have d1 : w2.cell? ⟨w.heap.size, 1, none⟩ = some (.pointer rv) := by rw [← HRQ.out]; exact cell_of_row _ _ _ _ _ _ b2.t
  generalize hKB : (⟨(coinB (cs, cn)).toArray⟩ : ByteArray) = kb at *
  have HKB : Hid (_ = kb) := hKB
  clear hKB ht1 b2 HKO HB0 HA0
  cases st with
  | none =>
    obtain rfl := HS.out.of_none
    obtain rfl : rv = none := by have := HRQ.out; simpa [rootV] using this.symm
    have HN : Hid (Calls Tryz.prog 269 #[.agg #[.int .i64 (width : Int), .pointer none], .string kb] w2 fun e w' => e = .returned (.pointer none) ∧ Tch (fun _ => False) w2 w') := by
      have := nearest_none (width : Int) (coinB (cs, cn)) (by omega) (by omega) w2
      rw [HKB.out] at this
      exact this
    go_wp2_with fail
    refine HN.out.mono ?_
    rintro _ w3 ⟨rfl, ht3⟩
    have b3 := HB2.out.next ht3
    have HT3 : Hid (Tch (fun _ => False) w w3) := HT2.out.trans ht3 (fun _ h => h.elim)
    have hin := (HE.out.tch HT3.out (fun _ h => h.elim)).input
    have r0 : w3.cell? ⟨w.heap.size + 1 + 1, 0, none⟩ = some (.int .i64 0) := cell_of_row _ _ _ _ _ _ b3.r
    have r1 : w3.cell? ⟨w.heap.size + 1 + 1, 1, none⟩ = some (.pointer none) := cell_of_row _ _ _ _ _ _ b3.r
    have fR : ∀ j, w3.frozen? ⟨w.heap.size + 1 + 1, j, none⟩ = false := fun j => frozen_of_row _ _ _ _ _ b3.r
    have o0 : w3.cell? ⟨w.heap.size + 1 + 1 + 1, 0, none⟩ = some (.int .u64 0) := cell_of_row _ _ _ _ _ _ b3.o
    have o1 : w3.cell? ⟨w.heap.size + 1 + 1 + 1, 1, none⟩ = some (.int .u8 0) := cell_of_row _ _ _ _ _ _ b3.o
    have fO : ∀ j, w3.frozen? ⟨w.heap.size + 1 + 1 + 1, j, none⟩ = false := fun j => frozen_of_row _ _ _ _ _ b3.o
    have HB3 : Hid (OutBox w w3 width none (cs, cn)) := b3
    clear ht3 b3 HN d0 d1
    go_wp2
    go_region
    all_goals
      go_wp2
      obtain ⟨q1, q2, q3, _⟩ := out_stored (d := dgW width) (F := F) (W := w3.drew) (HB3.out.next (Tch.drewN (fun _ => False) w3 1)) (HT3.out.trans (Tch.drewN (fun _ => False) w3 1) (fun _ h => h.elim)) (.int .i64 0) (.pointer none) (.int .u64 0) (.int .u8 0)
      refine bodyPost_ret (v := .tuple #[.agg #[.int .i64 0, .pointer none], .agg #[.int .u64 0, .int .u8 0], eV E 1]) (results_cell2_tmp Tryz.results284 _ _ (w.heap.size + 1 + 1) (w.heap.size + 1 + 1 + 1) _ _ _ _ (0, 0) (0, 0) _ _ rfl q1 Tryz.underlying146 rfl (by kernel_rfl) rfl q2 Tryz.underlying80 rfl (by kernel_rfl)) rfl ⟨q3, ?_⟩
      rfl
  | some t =>
    obtain ⟨n, rfl, hn⟩ := HS.out.of_some
    obtain rfl : rv = some ⟨n, 0, none⟩ := by have := HRQ.out; simpa [rootV] using this.symm
    have HTO : Hid (TrOk width t) := HOK.out
    have HNT : Hid (NodeAt (dgW width) F w2 n t) := hn.next HT2.out
    have HN : Hid (Calls Tryz.prog 269 #[.agg #[.int .i64 (width : Int), .pointer (some ⟨n, 0, none⟩)], .string kb] w2 fun e w' => ∃ m, e = .returned (.pointer (some ⟨m, 0, none⟩)) ∧ NodeAt (dgW width) F w' m (.leaf (t.near (coinB (cs, cn))).1 (t.near (coinB (cs, cn))).2) ∧ Tch (fun _ => False) w2 w') := by
      have := nearest_some width (by omega) (dgW width) F n t (coinB (cs, cn)) hkl w2 HNT.out HTO.out
      rw [HKB.out] at this
      exact this
    clear hn
    go_wp2_with fail
    refine HN.out.mono ?_
    rintro _ w3 ⟨m, rfl, hm, ht3⟩
    have b3 := HB2.out.next ht3
    have e0 : w3.cell? ⟨w.heap.size, 0, none⟩ = some (.int .i64 (width : Int)) := cell_of_row _ _ _ _ _ _ b3.t
    have e1 : w3.cell? ⟨w.heap.size, 1, none⟩ = some (.pointer (some ⟨n, 0, none⟩)) := cell_of_row _ _ _ _ _ _ b3.t
    have r0 : w3.cell? ⟨w.heap.size + 1 + 1, 0, none⟩ = some (.int .i64 0) := cell_of_row _ _ _ _ _ _ b3.r
    have r1 : w3.cell? ⟨w.heap.size + 1 + 1, 1, none⟩ = some (.pointer none) := cell_of_row _ _ _ _ _ _ b3.r
    have fR : ∀ j, w3.frozen? ⟨w.heap.size + 1 + 1, j, none⟩ = false := fun j => frozen_of_row _ _ _ _ _ b3.r
    have o0 : w3.cell? ⟨w.heap.size + 1 + 1 + 1, 0, none⟩ = some (.int .u64 0) := cell_of_row _ _ _ _ _ _ b3.o
    have o1 : w3.cell? ⟨w.heap.size + 1 + 1 + 1, 1, none⟩ = some (.int .u8 0) := cell_of_row _ _ _ _ _ _ b3.o
    have fO : ∀ j, w3.frozen? ⟨w.heap.size + 1 + 1 + 1, j, none⟩ = false := fun j => frozen_of_row _ _ _ _ _ b3.o
    have hmk : w3.cell? ⟨m, 1, none⟩ = some (.string ⟨(t.near (coinB (cs, cn))).1.toArray⟩) := by cases hm with | leaf _ _ _ _ hr => exact cell_of_row _ _ _ _ _ _ hr
    have hm2 : w3.cell? ⟨m, 2, none⟩ = some (.int .u64 ((t.near (coinB (cs, cn))).2.1 : Int)) := by cases hm with | leaf _ _ _ _ hr => exact cell_of_row _ _ _ _ _ _ hr
    have hm3 : w3.cell? ⟨m, 3, none⟩ = some (.int .u8 ((t.near (coinB (cs, cn))).2.2 : Int)) := by cases hm with | leaf _ _ _ _ hr => exact cell_of_row _ _ _ _ _ _ hr
    have hmlt := hm.own.2
    have HT3 : Hid (Tch (fun _ => False) w w3) := HT2.out.trans ht3 (fun _ h => h.elim)
    have HNT3 : Hid (NodeAt (dgW width) F w3 n t) := HNT.out.next ht3
    have HB3 : Hid (OutBox w w3 width (some n) (cs, cn)) := b3
    have hin := (HE.out.tch HT3.out (fun _ h => h.elim)).input
    clear ht3 b3 HN d0 d1 hm HNT HB2
    generalize hNB : (⟨(t.near (coinB (cs, cn))).1.toArray⟩ : ByteArray) = nb at *
    have HNB : Hid (_ = nb) := hNB
    clear hNB
    have hnl : nb.data.toList = (t.near (coinB (cs, cn))).1 := by rw [← HNB.out]
    have hkl2 : kb.data.toList = coinB (cs, cn) := by rw [← HKB.out]
    by_cases heq : (t.near (coinB (cs, cn))).1 = coinB (cs, cn)
    · have hkk : nb = kb := by rw [← HNB.out, heq]; exact HKB.out
      have HWO : Hid (withoutT (some t) (coinB (cs, cn)) = .ok (t.cut (coinB (cs, cn)), (t.near (coinB (cs, cn))).2)) := if_pos heq
      have HCU : Hid (∀ W, Tch (fun _ => False) w3 W → Calls Tryz.prog 339 #[.agg #[.int .i64 (width : Int), .pointer (some ⟨n, 0, none⟩)], .pointer (some ⟨n, 0, none⟩), .string kb] W fun e w' => CutTo width F (t.cut (coinB (cs, cn))) W e w') := fun W hT => by
        have := cut_any E width hw1 hw F (some ⟨n, 0, none⟩) (coinB (cs, cn)) hkl t n W HTO.out (HE.out.tch (HT3.out.trans hT (fun _ h => h.elim)) (fun _ h => h.elim)) (fun j hj => HF.out j (Nat.le_trans (HT3.out.trans hT (fun _ h => h.elim)).size hj)) (HNT3.out.next hT)
        rw [HKB.out] at this
        exact this
      subst hkk
      clear heq hnl hkl2
      have hz3 := (Array.getElem?_eq_some_iff.1 HB3.out.o).1
      obtain ⟨xa, hXA⟩ : ∃ x, (t.near (coinB (cs, cn))).2.1 = x := ⟨_, rfl⟩
      obtain ⟨xo, hXO⟩ : ∃ x, (t.near (coinB (cs, cn))).2.2 = x := ⟨_, rfl⟩
      rw [hXA] at hm2
      rw [hXO] at hm3
      have HX : Hid ((t.near (coinB (cs, cn))).2 = (xa, xo)) := Prod.ext hXA hXO
      clear hXA hXO
      go_wp2_with fail
      refine (HCU.out _ (Tch.refl _ _)).mono ?_
      rintro _ w4 ⟨q4, rfl, hq4, ht4⟩
      have b4 := HB3.out.next ht4
      have HB4 : Hid (OutBox w w4 width (some n) (cs, cn)) := b4
      have HT4 : Hid (Tch (fun _ => False) w w4) := HT3.out.trans ht4 (fun _ h => h.elim)
      have HQ4 : Hid (StAt (dgW width) F w4 q4 (t.cut (coinB (cs, cn)))) := hq4
      have s0 : w4.cell? ⟨w.heap.size + 1 + 1, 0, none⟩ = some (.int .i64 0) := cell_of_row _ _ _ _ _ _ b4.r
      have s1 : w4.cell? ⟨w.heap.size + 1 + 1, 1, none⟩ = some (.pointer none) := cell_of_row _ _ _ _ _ _ b4.r
      have gR : ∀ j, w4.frozen? ⟨w.heap.size + 1 + 1, j, none⟩ = false := fun j => frozen_of_row _ _ _ _ _ b4.r
      have p0 : w4.cell? ⟨w.heap.size + 1 + 1 + 1, 0, none⟩ = some (.int .u64 0) := cell_of_row _ _ _ _ _ _ b4.o
      have p1 : w4.cell? ⟨w.heap.size + 1 + 1 + 1, 1, none⟩ = some (.int .u8 0) := cell_of_row _ _ _ _ _ _ b4.o
      have gO : ∀ j, w4.frozen? ⟨w.heap.size + 1 + 1 + 1, j, none⟩ = false := fun j => frozen_of_row _ _ _ _ _ b4.o
      have f0 : w4.cell? ⟨w.heap.size, 0, none⟩ = some (.int .i64 (width : Int)) := cell_of_row _ _ _ _ _ _ b4.t
      have n2 : w4.cell? ⟨m, 2, none⟩ = some (.int .u64 (xa : Int)) := (ht4.cell (p := ⟨m, 2, none⟩) hmlt (fun h => h)).trans hm2
      have n3 : w4.cell? ⟨m, 3, none⟩ = some (.int .u8 (xo : Int)) := (ht4.cell (p := ⟨m, 3, none⟩) hmlt (fun h => h)).trans hm3
      clear ht4 b4 hq4 e0 e1 r0 r1 fR o0 o1 fO hm2 hm3 hmk HCU
      obtain ⟨v4, hv4⟩ : ∃ v, rootV q4 = .pointer v := ⟨_, rfl⟩
      rw [hv4]
      have HV4 : Hid (rootV q4 = .pointer v4) := hv4
      clear hv4
      go_wp2
      go_region
      all_goals
        go_wp2
        obtain ⟨q1, q2, q3, q5⟩ := out_stored (d := dgW width) (F := F) (W := w4) HB4.out HT4.out (.int .i64 (width : Int)) (.pointer v4) (.int .u64 (xa : Int)) (.int .u8 (xo : Int))
        refine bodyPost_ret (v := .tuple #[.agg #[.int .i64 (width : Int), .pointer v4], .agg #[.int .u64 (xa : Int), .int .u8 (xo : Int)], .nilIface]) (results_cell2_tmp Tryz.results284 _ _ (w.heap.size + 1 + 1) (w.heap.size + 1 + 1 + 1) _ _ _ _ (0, 0) (0, 0) _ _ rfl q1 Tryz.underlying146 rfl (by kernel_rfl) rfl q2 Tryz.underlying80 rfl (by kernel_rfl)) rfl ⟨q3.trans (Tch.drewN (fun _ => False) _ 1) (fun _ h => h.elim), ?_⟩
        rw [HWO.out, HX.out]
        refine ⟨q4, ?_, (q5 _ _ HQ4.out).next (Tch.drewN (fun _ => False) _ 1)⟩
        rw [treeV, HV4.out]
    · have hne : (nb.toList == kb.toList) = false := by
        rw [ByteArray.toList_eq, ByteArray.toList_eq, hnl, hkl2]
        simpa using heq
      have hne2 : (nb.toList != kb.toList) = true := by rw [bne, hne]; rfl
      have HWO : Hid (withoutT (some t) (coinB (cs, cn)) = .error .input) := if_neg heq
      clear hnl hkl2 heq hm2 hm3
      go_wp2
      go_region
      all_goals
        go_wp2
        obtain ⟨q1, q2, q3, _⟩ := out_stored (d := dgW width) (F := F) (W := w3.drew) (HB3.out.next (Tch.drewN (fun _ => False) w3 1)) (HT3.out.trans (Tch.drewN (fun _ => False) w3 1) (fun _ h => h.elim)) (.int .i64 0) (.pointer none) (.int .u64 0) (.int .u8 0)
        refine bodyPost_ret (v := .tuple #[.agg #[.int .i64 0, .pointer none], .agg #[.int .u64 0, .int .u8 0], eV E 1]) (results_cell2_tmp Tryz.results284 _ _ (w.heap.size + 1 + 1) (w.heap.size + 1 + 1 + 1) _ _ _ _ (0, 0) (0, 0) _ _ rfl q1 Tryz.underlying146 rfl (by kernel_rfl) rfl q2 Tryz.underlying80 rfl (by kernel_rfl)) rfl ⟨q3, ?_⟩
        rw [HWO.out]; rfl
end Go.Proofs.YtighkdnooglfjaaGreatDoor
