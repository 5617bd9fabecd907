/-
  The contract of chain.spend.
-/
import Derived.Test.YtighkdnooglfjaaGreatDoorPdChA
namespace Go.Proofs.YtighkdnooglfjaaGreatDoor
open Go.RowKit

/-- The boxes that spend's step holds: the state, and what is spent. -/
structure SpBox (w : World) (N width : Nat) (q : Option Nat) (M G n : Nat) (sp : List VV) : Prop where
  s : w.heap[N]? = some (.cells #[.int .i64 (width : Int), rootV q] 146)
  m : w.heap[M]? = some (.cells #[.slice (some ⟨G, 0, none⟩) n n] 22)
  g : w.heap[G]? = some (.cells (vvA sp) 80)
  len : sp.length = n
theorem SpBox.next {w w' : World} {N width : Nat} {q : Option Nat} {M G n : Nat} {sp : List VV} (h : SpBox w N width q M G n sp) (k : Tch (fun _ => False) w w') : SpBox w' N width q M G n sp :=
  ⟨(k.block _ (Array.getElem?_eq_some_iff.1 h.s).1 (fun h => h)).trans h.s, (k.block _ (Array.getElem?_eq_some_iff.1 h.m).1 (fun h => h)).trans h.m, (k.block _ (Array.getElem?_eq_some_iff.1 h.g).1 (fun h => h)).trans h.g, h.len⟩
theorem SpBox.cells {w : World} {N width : Nat} {q : Option Nat} {M G n : Nat} {sp : List VV} (h : SpBox w N width q M G n sp) (rv : Option Addr) (hrv : rootV q = .pointer rv) (i : Nat) (hi : i < n) : w.cell? ⟨N, 0, none⟩ = some (.int .i64 (width : Int)) ∧ w.cell? ⟨N, 1, none⟩ = some (.pointer rv) ∧ w.cell? ⟨M, 0, none⟩ = some (.slice (some ⟨G, 0, none⟩) n n) ∧
    (∃ x0 y0, w.cell? ⟨G, i * 2, none⟩ = some x0 ∧ w.cell? ⟨G, i * 2 + 1, none⟩ = some y0) ∧ (∀ j, w.frozen? ⟨N, j, none⟩ = false) ∧ (∀ j, w.frozen? ⟨G, j, none⟩ = false) := by
  refine ⟨cell_of_row _ _ _ _ _ _ h.s, ?_, cell_of_row _ _ _ _ _ _ h.m, ?_, fun j => frozen_of_row _ _ _ _ _ h.s, fun j => frozen_of_row _ _ _ _ _ h.g⟩
  · rw [← hrv]; exact cell_of_row _ _ _ _ _ _ h.s
  · obtain ⟨e0, e1⟩ := vvA_get sp i (by rw [h.len]; exact hi)
    exact ⟨_, _, (cell_of_row _ _ _ _ _ _ h.g).trans e0, (cell_of_row _ _ _ _ _ _ h.g).trans e1⟩
theorem SpBox.apart {w : World} {N width : Nat} {q : Option Nat} {M G n : Nat} {sp : List VV} (h : SpBox w N width q M G n sp) : N ≠ G ∧ M ≠ G ∧ N ≠ M := by
  have h1 := h.s
  have h2 := h.m
  have h3 := h.g
  refine ⟨?_, ?_, ?_⟩
  · rintro rfl; rw [h1] at h3; simp at h3
  · rintro rfl; rw [h2] at h3; simp at h3
  · rintro rfl; rw [h1] at h2; simp at h2
theorem SpBox.put {w W : World} {N width : Nat} {q : Option Nat} {M G n : Nat} {sp : List VV} (h : SpBox W N width q M G n sp) (hT : Tch (fun _ => False) w W) (i : Nat) (hi : i < n) (width' : Nat) (q' : Option Nat) (v' : Option Addr) (hv : rootV q' = .pointer v') (a o : Value) :
    Tch (fun k => k = N ∨ k = G) w ((((W.setCell ⟨N, 0, none⟩ (.int .i64 (width' : Int))).setCell ⟨N, 1, none⟩ (.pointer v')).setCell ⟨G, i * 2, none⟩ a).setCell ⟨G, i * 2 + 1, none⟩ o) ∧
    SpBox ((((W.setCell ⟨N, 0, none⟩ (.int .i64 (width' : Int))).setCell ⟨N, 1, none⟩ (.pointer v')).setCell ⟨G, i * 2, none⟩ a).setCell ⟨G, i * 2 + 1, none⟩ o) N width' q' M G n (sp.set i (a, o)) ∧
    ∀ d F q' st', StAt d F W q' st' → StAt d F ((((W.setCell ⟨N, 0, none⟩ (.int .i64 (width' : Int))).setCell ⟨N, 1, none⟩ (.pointer v')).setCell ⟨G, i * 2, none⟩ a).setCell ⟨G, i * 2 + 1, none⟩ o) q' st' := by
  obtain ⟨hNG, hMG, hNM⟩ := h.apart
  rw [set2 W N _ _ _ _ _ h.s]
  have t1 := Tch.setRow W N #[.int .i64 (width' : Int), .pointer v']
  have g1 : (W.setRow N #[.int .i64 (width' : Int), .pointer v']).heap[G]? = some (.cells (vvA sp) 80) := (t1.block _ (Array.getElem?_eq_some_iff.1 h.g).1 (by omega)).trans h.g
  have m1 : (W.setRow N #[.int .i64 (width' : Int), .pointer v']).heap[M]? = some (.cells #[.slice (some ⟨G, 0, none⟩) n n] 22) := (t1.block _ (Array.getElem?_eq_some_iff.1 h.m).1 (by omega)).trans h.m
  have s1 : (W.setRow N #[.int .i64 (width' : Int), .pointer v']).heap[N]? = some (.cells #[.int .i64 (width' : Int), .pointer v'] 146) := setRow_heap _ _ _ _ _ _ h.s
  have k1 : ∀ d F q' st', StAt d F W q' st' → StAt d F (W.setRow N #[.int .i64 (width' : Int), .pointer v']) q' st' := fun d F q' st' hs => hs.row h.s (by decide)
  have T1 : Tch (fun k => k = N ∨ k = G) w (W.setRow N #[.int .i64 (width' : Int), .pointer v']) := (hT.mono (fun _ h => h.elim)).trans t1 (fun j hj => .inl (.inl hj))
  generalize W.setRow N #[.int .i64 (width' : Int), .pointer v'] = W1 at *
  rw [setCell_eq_setRow W1 G (i * 2) _ _ (0, 0) _ g1, setCell_eq_setRow _ G (i * 2 + 1) _ _ (0, 0) _ (setRow_heap _ _ _ _ _ _ g1), setRow_setRow, vvA_set sp i a o (by rw [h.len]; exact hi)]
  have t2 := Tch.setRow W1 G (vvA (sp.set i (a, o)))
  refine ⟨T1.trans t2 (fun j hj => .inl (.inr hj)), ⟨?_, (t2.block _ (Array.getElem?_eq_some_iff.1 m1).1 (by omega)).trans m1, setRow_heap _ _ _ _ _ _ g1, by rw [List.length_set]; exact h.len⟩, fun d F q' st' hs => (k1 _ _ _ _ hs).row g1 (by decide)⟩
  rw [hv]
  exact (t2.block _ (Array.getElem?_eq_some_iff.1 s1).1 (by omega)).trans s1
/-- What spend's step comes to. -/
def SpTo (E : Nat → Addr) (width : Nat) (F : Nat → Prop) (N M G n i : Nat) (sp : List VV) (r : Except Er (Option Tr × (Nat × Nat))) (e : Ending) (w' : World) : Prop := match r with
  | .ok (st', o) => ∃ q', e = .returned .nilIface ∧ SpBox w' N width q' M G n (sp.set i (encO o)) ∧ StAt (dgW width) F w' q' st'
  | .error _ => e = .returned (eV E 1) ∧ SpBox w' N 0 none M G n (sp.set i zO)
set_option maxRecDepth 100000 in
set_option maxHeartbeats 1000000 in
theorem spendStep (E : Nat → Addr) (width : Nat) (hw1 : 1 ≤ width) (hw : width ≤ 32) (F : Nat → Prop) (N : Nat) (q : Option Nat) (st : Option Tr) (M G n : Nat) (sp : List VV) (i : Nat) (hi : i < n) (c : ByteArray × Int) (hc : CoinOk width c) (w : World) (hE : Env E w) (hF : ∀ j, w.heap.size ≤ j → F j) (hB : SpBox w N width q M G n sp) (hs : StAt (dgW width) F w q st) (hok : StOk width st) :
    Calls Tryz.prog 283 #[.int .i64 (i : Int), .agg #[.string c.1, .int .i64 c.2], .pointer (some ⟨N, 0, none⟩), .pointer (some ⟨M, 0, none⟩)] w fun e w' => Tch (fun k => k = N ∨ k = G) w w' ∧ SpTo E width F N M G n i sp (withoutT st (coinB c)) e w' := by
  have HW : Hid (∀ W, Tch (fun _ => False) w W → Calls Tryz.prog 284 #[treeV width q, .agg #[.string c.1, .int .i64 c.2]] W fun e w' => Tch (fun _ => False) W w' ∧ WoTo E width F (withoutT st (coinB c)) e w') := fun W hT =>
    without_any E width hw1 hw F q st c hc W (hE.tch hT (fun _ h => h.elim)) (fun j hj => hF j (Nat.le_trans hT.size hj)) (hs.next hT) hok
  have HBX : Hid (SpBox w N width q M G n sp) := hB
  obtain ⟨rv, hrv⟩ : ∃ rv, rootV q = .pointer rv := ⟨_, rfl⟩
  have hNs : N < w.heap.size := (Array.getElem?_eq_some_iff.1 hB.s).1
  have hMs : M < w.heap.size := (Array.getElem?_eq_some_iff.1 hB.m).1
  have hGs : G < w.heap.size := (Array.getElem?_eq_some_iff.1 hB.g).1
  have a0 : w.cell? ⟨N, 0, none⟩ = some (.int .i64 (width : Int)) := cell_of_row _ _ _ _ _ _ hB.s
  have a1 : w.cell? ⟨N, 1, none⟩ = some (.pointer rv) := by rw [← hrv]; exact cell_of_row _ _ _ _ _ _ hB.s
  have a2 : w.cell? ⟨M, 0, none⟩ = some (.slice (some ⟨G, 0, none⟩) n n) := cell_of_row _ _ _ _ _ _ hB.m
  obtain ⟨hNG, hMG, hNM⟩ := hB.apart
  have hGN := hNG.symm
  have hGM := hMG.symm
  have hMN := hNM.symm
  have hii : (i : Int) < (n : Int) := by omega
  have hi0 : (0 : Int) ≤ (i : Int) := by omega
  have HRV : Hid (rootV q = .pointer rv) := hrv
  unfold treeV at HW
  rw [hrv] at HW
  generalize hR : withoutT st (coinB c) = R at *
  clear hE hF hB hs hok hrv hc
  obtain ⟨cs, cn⟩ := c
  dsimp only at HW ⊢
  have HTA : Hid (∀ k, Tch (fun _ => False) w ((w.alloc (.cells #[.string cs, .int .i64 cn] 49)).drewN k)) := fun k => (Tch.alloc _ _ _).dr k
  go_enter Tryz.func283, Tryz.ntmps283
  go_wp2_with fail
  cases R with
  | ok r =>
    obtain ⟨st', o⟩ := r
    go_region_with (go_at_call 284; refine (HW.out _ (HTA.out 1)).mono ?_; rintro _ w2 ⟨ht2, q2, rfl, hs2⟩; have hT : Tch (fun _ => False) w w2 := (HTA.out 1).go ht2; obtain ⟨b0, b1, b2, ⟨x0, y0, b3, b4⟩, fN, fG⟩ := (HBX.out.next hT).cells rv HRV.out i hi; obtain ⟨v2, hv2⟩ : ∃ v, rootV q2 = .pointer v := ⟨_, rfl⟩; have HV2 : Hid (rootV q2 = .pointer v2) := hv2; unfold treeV; rw [hv2]; have HT : Hid (Tch (fun _ => False) w w2) := hT; have HS2 : Hid (StAt _ _ _ _ _) := hs2; clear hv2 hT ht2 hs2)
    all_goals
      go_wp2
      go_ret
      obtain ⟨p1, p2, p3⟩ := (HBX.out.next HT.out).put HT.out i hi width q2 v2 HV2.out (.int .u64 (o.1 : Int)) (.int .u8 (o.2 : Int))
      exact ⟨p1, q2, rfl, p2, p3 _ _ _ _ HS2.out⟩
  | error er =>
    go_region_with (go_at_call 284; refine (HW.out _ (HTA.out 1)).mono ?_; rintro _ w2 ⟨ht2, rfl⟩; have hT : Tch (fun _ => False) w w2 := (HTA.out 1).go ht2; obtain ⟨b0, b1, b2, ⟨x0, y0, b3, b4⟩, fN, fG⟩ := (HBX.out.next hT).cells rv HRV.out i hi; have HT : Hid (Tch (fun _ => False) w w2) := hT; clear hT ht2)
    all_goals
      go_wp2
      go_ret
      obtain ⟨p1, p2, p3⟩ := (HBX.out.next HT.out).put HT.out i hi 0 none none rfl (.int .u64 0) (.int .u8 0)
      exact ⟨p1, rfl, p2⟩
end Go.Proofs.YtighkdnooglfjaaGreatDoor
