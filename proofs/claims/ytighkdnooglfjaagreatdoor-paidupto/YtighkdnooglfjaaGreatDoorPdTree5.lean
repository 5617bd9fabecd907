/-
  The contracts of isLeaf, pairedWith, toward, graft and cut.
-/
import Derived.Test.YtighkdnooglfjaaGreatDoorPdTree1
namespace Go.Proofs.YtighkdnooglfjaaGreatDoor
open Go.RowKit

set_option maxRecDepth 100000 in
set_option maxHeartbeats 400000 in
theorem isLeaf_leaf (n : Nat) (dg : ByteArray) (k : Key) (o : Nat × Nat) (w : World) (h : w.heap[n]? = some (.cells (leafC dg k o) 243)) :
    Calls Tryz.prog 224 #[.pointer (some ⟨n, 0, none⟩)] w fun e w' => e = .returned (.bool true) ∧ w' = w := by
  have c5 : w.cell? ⟨n, 5, none⟩ = some (.pointer none) := cell_of_row _ _ _ _ _ _ h
  clear h
  go_enter Tryz.func224, Tryz.ntmps224
  go_wp2
  go_ret
  exact ⟨rfl, rfl⟩
set_option maxRecDepth 100000 in
set_option maxHeartbeats 400000 in
theorem isLeaf_br (n : Nat) (dg : ByteArray) (b nl nr : Nat) (w : World) (h : w.heap[n]? = some (.cells (brC dg b nl nr) 243)) :
    Calls Tryz.prog 224 #[.pointer (some ⟨n, 0, none⟩)] w fun e w' => e = .returned (.bool false) ∧ w' = w := by
  have c5 : w.cell? ⟨n, 5, none⟩ = some (.pointer (some ⟨nl, 0, none⟩)) := cell_of_row _ _ _ _ _ _ h
  clear h
  go_enter Tryz.func224, Tryz.ntmps224
  go_wp2
  go_ret
  exact ⟨rfl, rfl⟩
set_option maxRecDepth 100000 in
set_option maxHeartbeats 400000 in
theorem paired_any (n one : Option Addr) (at_ : Nat) (w : World) :
    Calls Tryz.prog 333 #[.pointer n, .pointer one, .int .i64 (at_ : Int)] w fun e w' => e = .returned (if at_ = 0 then .agg #[.pointer one, .pointer n] else .agg #[.pointer n, .pointer one]) ∧ Tch (fun _ => False) w w' := by
  by_cases h : at_ = 0
  · subst h
    rw [if_pos rfl]
    go_enter Tryz.func333, Tryz.ntmps333
    go_wp2
    exact bodyPost_ret (v := .agg #[.pointer one, .pointer n]) (results_cell_row Tryz.results333 _ _ w.heap.size _ _ (0, 0) _ rfl (heap_alloc_new _ _) Tryz.underlying241 rfl (by kernel_rfl)) rfl ⟨rfl, Tch.alloc _ _ _⟩
  · rw [if_neg h]
    have hb : ((at_ : Int) == 0) = false := by rw [beq_eq_false_iff_ne]; omega
    go_enter Tryz.func333, Tryz.ntmps333
    go_wp2
    exact bodyPost_ret (v := .agg #[.pointer n, .pointer one]) (results_cell_row Tryz.results333 _ _ w.heap.size _ _ (0, 0) _ rfl (heap_alloc_new _ _) Tryz.underlying241 rfl (by kernel_rfl)) rfl ⟨rfl, Tch.alloc _ _ _⟩
/-- Two sides as the pair's node. -/
theorem pair_node {d : List UInt8 → ByteArray} {F : Nat → Prop} {w : World} {n b nl nr : Nat} {l r : Tr} (hF : F n) (hr : w.heap[n]? = some (.cells (brC (Tr.dig d (.br b l r)) b nl nr) 243)) (h1 : NodeAt d F w nl l) (h2 : NodeAt d F w nr r) : NodeAt d F w n (.br b l r) := .br n b nl nr l r hF hr h1 h2
set_option maxRecDepth 100000 in
set_option maxHeartbeats 1000000 in
theorem graft_top (E : Nat → Addr) (width : Nat) (hw1 : 1 ≤ width) (hw : width ≤ 32) (F : Nat → Prop) (rv : Option Addr) (k : Key) (o : Nat × Nat) (hk : TrOk width (.leaf k o)) (d : Nat) (hd : d < 8 * (width + 1)) (t : Tr) (n ln : Nat) (w : World) (hE : Env E w) (hF : ∀ j, w.heap.size ≤ j → F j) (hn : NodeAt (dgW width) F w n t) (hln : NodeAt (dgW width) F w ln (.leaf k o))
    (hc : ∀ W, Tch (fun _ => False) w W → Calls Tryz.prog 224 #[.pointer (some ⟨n, 0, none⟩)] W fun e w' => e = .returned (.bool true) ∧ w' = W) :
    Calls Tryz.prog 270 #[.agg #[.int .i64 (width : Int), .pointer rv], .pointer (some ⟨n, 0, none⟩), .pointer (some ⟨ln, 0, none⟩), .int .i64 (d : Int)] w fun e w' => ∃ m, e = .returned (.tuple #[.pointer (some ⟨m, 0, none⟩), .nilIface]) ∧ NodeAt (dgW width) F w' m (Tr.pair t (.leaf k o) d (bt k d)) ∧ Tch (fun _ => False) w w' := by
  have HC : Hid (∀ W, _) := hc
  have hkl : k.length = width + 1 := hk.1
  have hlt := hln.own.2
  have clk : w.cell? ⟨ln, 1, none⟩ = some (.string ⟨k.toArray⟩) := by cases hln with | leaf _ _ _ _ hr => exact cell_of_row _ _ _ _ _ _ hr
  have HBIT : Hid (∀ W, Calls Tryz.prog 288 #[.string ⟨k.toArray⟩, .int .i64 (d : Int)] W fun e w' => e = .returned (.int .i64 (bt k d : Int)) ∧ w' = W) := fun W => keyBit_any k d (by omega) (by omega) W
  have HF : Hid (∀ j, w.heap.size ≤ j → F j) := hF
  have HPR : Hid (∃ a b l r, (if bt k d = 0 then Value.agg #[.pointer (some ⟨ln, 0, none⟩), .pointer (some ⟨n, 0, none⟩)] else .agg #[.pointer (some ⟨n, 0, none⟩), .pointer (some ⟨ln, 0, none⟩)]) = .agg #[.pointer (some ⟨a, 0, none⟩), .pointer (some ⟨b, 0, none⟩)] ∧ Tr.pair t (.leaf k o) d (bt k d) = .br d l r ∧ NodeAt (dgW width) F w a l ∧ NodeAt (dgW width) F w b r) := by
    unfold Tr.pair
    by_cases hb : bt k d = 0
    · rw [if_pos hb, if_pos hb]; exact ⟨_, _, _, _, rfl, rfl, hln, hn⟩
    · rw [if_neg hb, if_neg hb]; exact ⟨_, _, _, _, rfl, rfl, hn, hln⟩
  obtain ⟨pa, pb, pl, pr, hpe, hpt, hpl, hpr⟩ := HPR.out
  have HPW : Hid (∀ W, Calls Tryz.prog 333 #[.pointer (some ⟨n, 0, none⟩), .pointer (some ⟨ln, 0, none⟩), .int .i64 (bt k d : Int)] W fun e w' => e = .returned (.agg #[.pointer (some ⟨pa, 0, none⟩), .pointer (some ⟨pb, 0, none⟩)]) ∧ Tch (fun _ => False) W w') := fun W => by
    have := paired_any (some ⟨n, 0, none⟩) (some ⟨ln, 0, none⟩) (bt k d) W
    rw [hpe] at this
    exact this
  have HNB : Hid (∀ W, Tch (fun _ => False) w W → Calls Tryz.prog 332 #[.int .i64 (width : Int), .int .i64 (d : Int), .agg #[.pointer (some ⟨pa, 0, none⟩), .pointer (some ⟨pb, 0, none⟩)]] W fun e w' => ∃ m, e = .returned (.tuple #[.pointer (some ⟨m, 0, none⟩), .nilIface]) ∧ NodeAt (dgW width) F w' m (Tr.pair t (.leaf k o) d (bt k d)) ∧ Tch (fun _ => False) W w') := fun W hT => by
    refine (newBranch_any E width hw1 hw d pa pb pl pr F hd W (hE.tch hT (fun _ h => h.elim)) (hpl.next hT) (hpr.next hT)).mono ?_
    rintro e w' ⟨m, rfl, h1, h2, h3⟩
    refine ⟨m, rfl, ?_, h3⟩
    rw [hpt]
    exact .br m d pa pb pl pr (HF.out m (Nat.le_trans hT.size h1)) h2 ((hpl.next hT).next h3) ((hpr.next hT).next h3)
  clear hc hE hn hln hpe hpt hpl hpr HPR hF hk
  generalize (⟨k.toArray⟩ : ByteArray) = kb at *
  generalize Tr.pair t (.leaf k o) d (bt k d) = tr at *
  generalize bt k d = bk at *
  go_enter Tryz.func270, Tryz.ntmps270
  go_wp2_with fail
  refine (HC.out _ (Tch.alloc _ _ _)).mono ?_
  rintro _ _ ⟨rfl, rfl⟩
  have HA : Hid (Tch (fun _ => False) w (w.alloc (.cells #[.int .i64 (width : Int), .pointer rv] 146)).drew) := (Tch.alloc (fun _ => False) w _).trans (Tch.drewN _ _ 1) (fun _ h => .inl h)
  clear HC
  go_wp2_with fail
  go_region_held3 (fun W => W.cell? ⟨w.heap.size, 0, none⟩ = some (.int .i64 (width : Int)) ∧ W.cell? ⟨ln, 1, none⟩ = some (.string kb)) (go_keep) ((first | (go_at_call 288; refine (HBIT.out _).mono ?_; rintro _ _ ⟨rfl, rfl⟩) | (go_at_call 333; refine (HPW.out _).mono ?_; rintro _ w1 ⟨rfl, ht1⟩; have hz1 : w.heap.size < w1.heap.size := Nat.lt_of_lt_of_le (by simp) ht1.size; have hk0 : w1.cell? ⟨w.heap.size, 0, none⟩ = some (.int .i64 (width : Int)) := (ht1.cell (p := ⟨w.heap.size, 0, none⟩) (by simp) (fun h => h)).trans (cell_of_row _ _ _ _ _ _ (heap_alloc_new _ _)); have hk1 : w1.cell? ⟨ln, 1, none⟩ = some (.string kb) := ((HA.out.trans ht1 (fun _ h => h.elim)).cell (p := ⟨ln, 1, none⟩) hlt (fun h => h)).trans clk; have HT1 : Hid (Tch (fun _ => False) w w1) := HA.out.trans ht1 (fun _ h => h.elim); clear ht1) | (go_at_call 332; refine (HNB.out _ HT1.out).mono ?_; rintro _ w2 ⟨m, rfl, hm, ht2⟩; have hj0 := (ht2.cell (p := ⟨w.heap.size, 0, none⟩) hz1 (fun h => h)).trans hk0; have hj1 := (ht2.cell (p := ⟨ln, 1, none⟩) (by have := HT1.out.size; show ln < _; omega) (fun h => h)).trans hk1; have HM : Hid (NodeAt _ _ _ _ _) := hm; have HT2 : Hid (Tch (fun _ => False) w w2) := HT1.out.trans ht2 (fun _ h => h.elim); clear hm ht2)))
  all_goals
    go_wp2
    go_ret2
    exact ⟨m, rfl, HM.out, HT2.out⟩
set_option maxRecDepth 100000 in
set_option maxHeartbeats 1000000 in
theorem graft_mid (E : Nat → Addr) (width : Nat) (hw1 : 1 ≤ width) (hw : width ≤ 32) (F : Nat → Prop) (rv : Option Addr) (k : Key) (o : Nat × Nat) (hk : TrOk width (.leaf k o)) (d : Nat) (hd : d < 8 * (width + 1)) (t : Tr) (n ln : Nat) (w : World) (hE : Env E w) (hF : ∀ j, w.heap.size ≤ j → F j) (hn : NodeAt (dgW width) F w n t) (hln : NodeAt (dgW width) F w ln (.leaf k o))
    (hc : ∀ W, Tch (fun _ => False) w W → Calls Tryz.prog 224 #[.pointer (some ⟨n, 0, none⟩)] W fun e w' => e = .returned (.bool false) ∧ w' = W) (b : Nat) (hb4 : w.cell? ⟨n, 4, none⟩ = some (.int .i64 (b : Int))) (hdb : d < b) :
    Calls Tryz.prog 270 #[.agg #[.int .i64 (width : Int), .pointer rv], .pointer (some ⟨n, 0, none⟩), .pointer (some ⟨ln, 0, none⟩), .int .i64 (d : Int)] w fun e w' => ∃ m, e = .returned (.tuple #[.pointer (some ⟨m, 0, none⟩), .nilIface]) ∧ NodeAt (dgW width) F w' m (Tr.pair t (.leaf k o) d (bt k d)) ∧ Tch (fun _ => False) w w' := by
  have HC : Hid (∀ W, _) := hc
  have hkl : k.length = width + 1 := hk.1
  have hdi : (d : Int) < (b : Int) := by omega
  have hnt := hn.own.2
  have hlt := hln.own.2
  have clk : w.cell? ⟨ln, 1, none⟩ = some (.string ⟨k.toArray⟩) := by cases hln with | leaf _ _ _ _ hr => exact cell_of_row _ _ _ _ _ _ hr
  have HBIT : Hid (∀ W, Calls Tryz.prog 288 #[.string ⟨k.toArray⟩, .int .i64 (d : Int)] W fun e w' => e = .returned (.int .i64 (bt k d : Int)) ∧ w' = W) := fun W => keyBit_any k d (by omega) (by omega) W
  have HF : Hid (∀ j, w.heap.size ≤ j → F j) := hF
  have HPR : Hid (∃ a b l r, (if bt k d = 0 then Value.agg #[.pointer (some ⟨ln, 0, none⟩), .pointer (some ⟨n, 0, none⟩)] else .agg #[.pointer (some ⟨n, 0, none⟩), .pointer (some ⟨ln, 0, none⟩)]) = .agg #[.pointer (some ⟨a, 0, none⟩), .pointer (some ⟨b, 0, none⟩)] ∧ Tr.pair t (.leaf k o) d (bt k d) = .br d l r ∧ NodeAt (dgW width) F w a l ∧ NodeAt (dgW width) F w b r) := by
    unfold Tr.pair
    by_cases hb : bt k d = 0
    · rw [if_pos hb, if_pos hb]; exact ⟨_, _, _, _, rfl, rfl, hln, hn⟩
    · rw [if_neg hb, if_neg hb]; exact ⟨_, _, _, _, rfl, rfl, hn, hln⟩
  obtain ⟨pa, pb, pl, pr, hpe, hpt, hpl, hpr⟩ := HPR.out
  have HPW : Hid (∀ W, Calls Tryz.prog 333 #[.pointer (some ⟨n, 0, none⟩), .pointer (some ⟨ln, 0, none⟩), .int .i64 (bt k d : Int)] W fun e w' => e = .returned (.agg #[.pointer (some ⟨pa, 0, none⟩), .pointer (some ⟨pb, 0, none⟩)]) ∧ Tch (fun _ => False) W w') := fun W => by
    have := paired_any (some ⟨n, 0, none⟩) (some ⟨ln, 0, none⟩) (bt k d) W
    rw [hpe] at this
    exact this
  have HNB : Hid (∀ W, Tch (fun _ => False) w W → Calls Tryz.prog 332 #[.int .i64 (width : Int), .int .i64 (d : Int), .agg #[.pointer (some ⟨pa, 0, none⟩), .pointer (some ⟨pb, 0, none⟩)]] W fun e w' => ∃ m, e = .returned (.tuple #[.pointer (some ⟨m, 0, none⟩), .nilIface]) ∧ NodeAt (dgW width) F w' m (Tr.pair t (.leaf k o) d (bt k d)) ∧ Tch (fun _ => False) W w') := fun W hT => by
    refine (newBranch_any E width hw1 hw d pa pb pl pr F hd W (hE.tch hT (fun _ h => h.elim)) (hpl.next hT) (hpr.next hT)).mono ?_
    rintro e w' ⟨m, rfl, h1, h2, h3⟩
    refine ⟨m, rfl, ?_, h3⟩
    rw [hpt]
    exact .br m d pa pb pl pr (HF.out m (Nat.le_trans hT.size h1)) h2 ((hpl.next hT).next h3) ((hpr.next hT).next h3)
  clear hc hE hn hln hpe hpt hpl hpr HPR hF hk
  generalize (⟨k.toArray⟩ : ByteArray) = kb at *
  generalize Tr.pair t (.leaf k o) d (bt k d) = tr at *
  generalize bt k d = bk at *
  go_enter Tryz.func270, Tryz.ntmps270
  go_wp2_with fail
  refine (HC.out _ (Tch.alloc _ _ _)).mono ?_
  rintro _ _ ⟨rfl, rfl⟩
  have HA : Hid (Tch (fun _ => False) w (w.alloc (.cells #[.int .i64 (width : Int), .pointer rv] 146)).drew) := (Tch.alloc (fun _ => False) w _).trans (Tch.drewN _ _ 1) (fun _ h => .inl h)
  clear HC
  go_wp2_with fail
  go_region_held3 (fun W => W.cell? ⟨w.heap.size, 0, none⟩ = some (.int .i64 (width : Int)) ∧ W.cell? ⟨ln, 1, none⟩ = some (.string kb)) (go_keep) ((first | (go_at_call 288; refine (HBIT.out _).mono ?_; rintro _ _ ⟨rfl, rfl⟩) | (go_at_call 333; refine (HPW.out _).mono ?_; rintro _ w1 ⟨rfl, ht1⟩; have hz1 : w.heap.size < w1.heap.size := Nat.lt_of_lt_of_le (by simp) ht1.size; have hk0 : w1.cell? ⟨w.heap.size, 0, none⟩ = some (.int .i64 (width : Int)) := (ht1.cell (p := ⟨w.heap.size, 0, none⟩) (by simp) (fun h => h)).trans (cell_of_row _ _ _ _ _ _ (heap_alloc_new _ _)); have hk1 : w1.cell? ⟨ln, 1, none⟩ = some (.string kb) := ((HA.out.trans ht1 (fun _ h => h.elim)).cell (p := ⟨ln, 1, none⟩) hlt (fun h => h)).trans clk; have HT1 : Hid (Tch (fun _ => False) w w1) := HA.out.trans ht1 (fun _ h => h.elim); clear ht1) | (go_at_call 332; refine (HNB.out _ HT1.out).mono ?_; rintro _ w2 ⟨m, rfl, hm, ht2⟩; have hj0 := (ht2.cell (p := ⟨w.heap.size, 0, none⟩) hz1 (fun h => h)).trans hk0; have hj1 := (ht2.cell (p := ⟨ln, 1, none⟩) (by have := HT1.out.size; show ln < _; omega) (fun h => h)).trans hk1; have HM : Hid (NodeAt _ _ _ _ _) := hm; have HT2 : Hid (Tch (fun _ => False) w w2) := HT1.out.trans ht2 (fun _ h => h.elim); clear hm ht2)))
  all_goals
    go_wp2
    go_ret2
    exact ⟨m, rfl, HM.out, HT2.out⟩
set_option maxRecDepth 100000 in
set_option maxHeartbeats 1000000 in
theorem graft_br (E : Nat → Addr) (width : Nat) (hw1 : 1 ≤ width) (hw : width ≤ 32) (F : Nat → Prop) (rv : Option Addr) (k : Key) (o : Nat × Nat) (hk : TrOk width (.leaf k o)) (d : Nat) (b : Nat) (hb : b < 8 * (width + 1)) (hdb : ¬ d < b) (l r : Tr) (n nl nr ln : Nat) (w : World) (hE : Env E w) (hF : ∀ j, w.heap.size ≤ j → F j) (hrow : w.heap[n]? = some (.cells (brC (Tr.dig (dgW width) (.br b l r)) b nl nr) 243)) (hnl : NodeAt (dgW width) F w nl l) (hnr : NodeAt (dgW width) F w nr r) (hln : NodeAt (dgW width) F w ln (.leaf k o))
    (ih : ∀ (s : Nat) (tg : Tr), ((s = nl ∧ tg = l.graft k o d ∧ bt k b = 0) ∨ (s = nr ∧ tg = r.graft k o d ∧ bt k b ≠ 0)) → ∀ W, Tch (fun _ => False) w W → Calls Tryz.prog 270 #[.agg #[.int .i64 (width : Int), .pointer rv], .pointer (some ⟨s, 0, none⟩), .pointer (some ⟨ln, 0, none⟩), .int .i64 (d : Int)] W fun e w' => ∃ m, e = .returned (.tuple #[.pointer (some ⟨m, 0, none⟩), .nilIface]) ∧ NodeAt (dgW width) F w' m tg ∧ Tch (fun _ => False) W w') :
    Calls Tryz.prog 270 #[.agg #[.int .i64 (width : Int), .pointer rv], .pointer (some ⟨n, 0, none⟩), .pointer (some ⟨ln, 0, none⟩), .int .i64 (d : Int)] w fun e w' => ∃ m, e = .returned (.tuple #[.pointer (some ⟨m, 0, none⟩), .nilIface]) ∧ NodeAt (dgW width) F w' m (Tr.graft k o d (.br b l r)) ∧ Tch (fun _ => False) w w' := by
  have hkl : k.length = width + 1 := hk.1
  have hlt := hln.own.2
  have hnt : n < w.heap.size := (Array.getElem?_eq_some_iff.1 hrow).1
  have clk : w.cell? ⟨ln, 1, none⟩ = some (.string ⟨k.toArray⟩) := by cases hln with | leaf _ _ _ _ hr => exact cell_of_row _ _ _ _ _ _ hr
  have c4 : w.cell? ⟨n, 4, none⟩ = some (.int .i64 (b : Int)) := cell_of_row _ _ _ _ _ _ hrow
  have c5 : w.cell? ⟨n, 5, none⟩ = some (.pointer (some ⟨nl, 0, none⟩)) := cell_of_row _ _ _ _ _ _ hrow
  have c6 : w.cell? ⟨n, 6, none⟩ = some (.pointer (some ⟨nr, 0, none⟩)) := cell_of_row _ _ _ _ _ _ hrow
  have HBIT : Hid (∀ W, Calls Tryz.prog 288 #[.string ⟨k.toArray⟩, .int .i64 (b : Int)] W fun e w' => e = .returned (.int .i64 (bt k b : Int)) ∧ w' = W) := fun W => keyBit_any k b (by omega) (by omega) W
  have HIL : Hid (∀ W, Tch (fun _ => False) w W → Calls Tryz.prog 224 #[.pointer (some ⟨n, 0, none⟩)] W fun e w' => e = .returned (.bool false) ∧ w' = W) := fun W hT => isLeaf_br n _ b nl nr W ((hT.block n hnt (fun h => h)).trans hrow)
  have hdi : ¬ (d : Int) < (b : Int) := by omega
  have hbt := bt_two k b
  have HIH : Hid (∀ (s : Nat) (tg : Tr), _) := ih
  clear ih hk hrow
  have hsd : (bt k b = 0 ∧ Tr.graft k o d (.br b l r) = .br b (l.graft k o d) r) ∨ (bt k b = 1 ∧ Tr.graft k o d (.br b l r) = .br b l (r.graft k o d)) := by
    simp only [Tr.graft]
    rw [if_neg hdb]
    by_cases h0 : bt k b = 0
    · exact .inl ⟨h0, by rw [if_pos h0]⟩
    · exact .inr ⟨by omega, by rw [if_neg h0]⟩
  generalize (⟨k.toArray⟩ : ByteArray) = kb at *
  have HE : Hid (Env E w) := hE
  have HF : Hid (∀ j, w.heap.size ≤ j → F j) := hF
  have HNL : Hid (NodeAt _ _ _ _ _) := hnl
  have HNR : Hid (NodeAt _ _ _ _ _) := hnr
  clear hE hF hnl hnr hln hdb hbt
  rcases hsd with ⟨h0, hg⟩ | ⟨h1, hg⟩
  · rw [hg]
    have HB0 : Hid (bt k b = 0) := h0
    rw [h0] at HBIT
    have HREC : Hid (∀ W, Tch (fun _ => False) w W → Calls Tryz.prog 270 #[.agg #[.int .i64 (width : Int), .pointer rv], .pointer (some ⟨nl, 0, none⟩), .pointer (some ⟨ln, 0, none⟩), .int .i64 (d : Int)] W fun e w' => ∃ m, e = .returned (.tuple #[.pointer (some ⟨m, 0, none⟩), .nilIface]) ∧ NodeAt (dgW width) F w' m (l.graft k o d) ∧ Tch (fun _ => False) W w') := HIH.out nl (l.graft k o d) (.inl ⟨rfl, rfl, h0⟩)
    have HPW : Hid (∀ (m : Nat) W, Calls Tryz.prog 333 #[.pointer (some ⟨nr, 0, none⟩), .pointer (some ⟨m, 0, none⟩), .int .i64 0] W fun e w' => e = .returned (.agg #[.pointer (some ⟨m, 0, none⟩), .pointer (some ⟨nr, 0, none⟩)]) ∧ Tch (fun _ => False) W w') := fun m W => paired_any (some ⟨nr, 0, none⟩) (some ⟨m, 0, none⟩) 0 W
    have HNB : Hid (∀ (m : Nat) W, Tch (fun _ => False) w W → NodeAt (dgW width) F W m (l.graft k o d) → Calls Tryz.prog 332 #[.int .i64 (width : Int), .int .i64 (b : Int), .agg #[.pointer (some ⟨m, 0, none⟩), .pointer (some ⟨nr, 0, none⟩)]] W fun e w' => ∃ q, e = .returned (.tuple #[.pointer (some ⟨q, 0, none⟩), .nilIface]) ∧ NodeAt (dgW width) F w' q (.br b (l.graft k o d) r) ∧ Tch (fun _ => False) W w') := fun m W hT hm => by
      refine (newBranch_any E width hw1 hw b m nr (l.graft k o d) r F hb W (HE.out.tch hT (fun _ h => h.elim)) hm (HNR.out.next hT)).mono ?_
      rintro e w' ⟨q, rfl, h1, h2, h3⟩
      exact ⟨q, rfl, .br q b m nr (l.graft k o d) r (HF.out q (Nat.le_trans hT.size h1)) h2 (hm.next h3) ((HNR.out.next hT).next h3), h3⟩
    clear hg h0 HIH
    go_enter Tryz.func270, Tryz.ntmps270
    go_wp2_with fail
    refine (HIL.out _ (Tch.alloc _ _ _)).mono ?_
    rintro _ _ ⟨rfl, rfl⟩
    have hA0 : Tch (fun _ => False) w (w.alloc (.cells #[.int .i64 (width : Int), .pointer rv] 146)) := Tch.alloc _ _ _
    obtain ⟨wA, hwA⟩ : ∃ wA, wA = w.alloc (.cells #[.int .i64 (width : Int), .pointer rv] 146) := ⟨_, rfl⟩
    rw [← hwA] at hA0 ⊢
    have hrA : wA.heap[w.heap.size]? = some (.cells #[.int .i64 (width : Int), .pointer rv] 146) := by rw [hwA]; exact heap_alloc_new _ _
    have hzA : w.heap.size < wA.heap.size := (Array.getElem?_eq_some_iff.1 hrA).1
    have HCL : Hid (∀ W, Tch (fun _ => False) wA W → (W.cell? ⟨w.heap.size, 0, none⟩ = some (.int .i64 (width : Int)) ∧ W.cell? ⟨w.heap.size, 1, none⟩ = some (.pointer rv) ∧ W.cell? ⟨ln, 1, none⟩ = some (.string kb) ∧ W.cell? ⟨n, 4, none⟩ = some (.int .i64 (b : Int)) ∧ W.cell? ⟨n, 5, none⟩ = some (.pointer (some ⟨nl, 0, none⟩)) ∧ W.cell? ⟨n, 6, none⟩ = some (.pointer (some ⟨nr, 0, none⟩))) ∧ Tch (fun _ => False) w W) := fun W hT =>
      ⟨⟨(hT.cell (p := ⟨w.heap.size, 0, none⟩) hzA (fun h => h)).trans (cell_of_row _ _ _ _ _ _ hrA), (hT.cell (p := ⟨w.heap.size, 1, none⟩) hzA (fun h => h)).trans (cell_of_row _ _ _ _ _ _ hrA), ((hA0.trans hT (fun _ h => h.elim)).cell (p := ⟨ln, 1, none⟩) hlt (fun h => h)).trans clk, ((hA0.trans hT (fun _ h => h.elim)).cell (p := ⟨n, 4, none⟩) hnt (fun h => h)).trans c4, ((hA0.trans hT (fun _ h => h.elim)).cell (p := ⟨n, 5, none⟩) hnt (fun h => h)).trans c5, ((hA0.trans hT (fun _ h => h.elim)).cell (p := ⟨n, 6, none⟩) hnt (fun h => h)).trans c6⟩, hA0.trans hT (fun _ h => h.elim)⟩
    obtain ⟨⟨a0, a1, a2, a3, a4, a5⟩, _⟩ := HCL.out wA (Tch.refl _ _)
    clear hA0 hrA hwA clk c4 c5 c6
    go_wp2_with fail
    go_region_held3 (fun W => W.cell? ⟨ln, 1, none⟩ = some (.string kb) ∧ W.cell? ⟨n, 4, none⟩ = some (.int .i64 (b : Int))) (go_keep) ((go_at_call 288; refine (HBIT.out _).mono ?_; rintro _ _ ⟨rfl, rfl⟩))
    have HTW : Hid (∀ q, Tch (fun _ => False) w (wA.drewN q)) := fun q => (HCL.out _ (Tch.drewN _ wA q)).2
    clear HBIT
    go_wp2_with fail
    go_region_held3 (fun W => W.cell? ⟨w.heap.size, 0, none⟩ = some (.int .i64 (width : Int)) ∧ W.cell? ⟨w.heap.size, 1, none⟩ = some (.pointer rv) ∧ W.cell? ⟨n, 5, none⟩ = some (.pointer (some ⟨nl, 0, none⟩)) ∧ W.cell? ⟨n, 6, none⟩ = some (.pointer (some ⟨nr, 0, none⟩))) (go_keep) ((go_at_call 270; refine (HREC.out _ (HTW.out 2)).mono ?_; rintro _ w2 ⟨m, rfl, hm, ht2⟩; have hT2 : Tch (fun _ => False) wA w2 := (Tch.drewN (fun _ => False) wA 2).trans ht2 (fun _ h => h.elim); obtain ⟨⟨b0, b1, b2, b3, b4, b5⟩, hTw2⟩ := HCL.out w2 hT2; have HM : Hid (NodeAt _ _ _ _ _) := hm; have HT2 : Hid (Tch (fun _ => False) wA w2) := hT2; have HW2 : Hid (Tch (fun _ => False) w w2) := hTw2; clear hm ht2 hT2 hTw2))
    all_goals
      clear HREC a0 a1 a2 a3 a4 a5 HTW
      have hz0 : IntKind.i64.wrap 0 = 0 := by decide
      have hz1 : IntKind.i64.wrap 1 = 1 := by decide
      have HTW : Hid (∀ q, Tch (fun _ => False) wA (w2.drewN q)) := fun q => HT2.out.trans (Tch.drewN (fun _ => False) w2 q) (fun _ h => h.elim)
      go_wp2_with fail
      go_region_held3 (fun W => W.cell? ⟨w.heap.size, 0, none⟩ = some (.int .i64 (width : Int)) ∧ W.cell? ⟨n, 4, none⟩ = some (.int .i64 (b : Int)) ∧ W.cell? ⟨n, 5, none⟩ = some (.pointer (some ⟨nl, 0, none⟩)) ∧ W.cell? ⟨n, 6, none⟩ = some (.pointer (some ⟨nr, 0, none⟩))) (go_keep) ((first | (go_at_call 333; refine (HPW.out m _).mono ?_; rintro _ w3 ⟨rfl, ht3⟩; have hT3 : Tch (fun _ => False) wA w3 := (HTW.out 1).trans ht3 (fun _ h => h.elim); obtain ⟨⟨d0, d1, d2, d3, d4, d5⟩, hTw3⟩ := HCL.out w3 hT3; have HM3 : Hid (NodeAt (dgW width) F w3 m _) := (HM.out.next (Tch.drewN (fun _ => False) w2 1)).next ht3; have HT3 : Hid (Tch (fun _ => False) wA w3) := hT3; have HW3 : Hid (Tch (fun _ => False) w w3) := hTw3; clear ht3 hT3 hTw3) | (go_at_call 332; refine (HNB.out m _ HW3.out HM3.out).mono ?_; rintro _ w4 ⟨q, rfl, hq, ht4⟩; have hT4 : Tch (fun _ => False) wA w4 := HT3.out.trans ht4 (fun _ h => h.elim); obtain ⟨⟨f0, f1, f2, f3, f4, f5⟩, hTw4⟩ := HCL.out w4 hT4; have HQ : Hid (NodeAt _ _ _ _ _) := hq; have HW4 : Hid (Tch (fun _ => False) w w4) := hTw4; clear ht4 hT4 hq hTw4)))
      all_goals
        go_wp2
        go_ret2
        exact ⟨q, rfl, HQ.out, HW4.out⟩
  · rw [hg]
    have HB0 : Hid (bt k b = 1) := h1
    rw [h1] at HBIT
    have HREC : Hid (∀ W, Tch (fun _ => False) w W → Calls Tryz.prog 270 #[.agg #[.int .i64 (width : Int), .pointer rv], .pointer (some ⟨nr, 0, none⟩), .pointer (some ⟨ln, 0, none⟩), .int .i64 (d : Int)] W fun e w' => ∃ m, e = .returned (.tuple #[.pointer (some ⟨m, 0, none⟩), .nilIface]) ∧ NodeAt (dgW width) F w' m (r.graft k o d) ∧ Tch (fun _ => False) W w') := HIH.out nr (r.graft k o d) (.inr ⟨rfl, rfl, by omega⟩)
    have HPW : Hid (∀ (m : Nat) W, Calls Tryz.prog 333 #[.pointer (some ⟨nl, 0, none⟩), .pointer (some ⟨m, 0, none⟩), .int .i64 1] W fun e w' => e = .returned (.agg #[.pointer (some ⟨nl, 0, none⟩), .pointer (some ⟨m, 0, none⟩)]) ∧ Tch (fun _ => False) W w') := fun m W => paired_any (some ⟨nl, 0, none⟩) (some ⟨m, 0, none⟩) 1 W
    have HNB : Hid (∀ (m : Nat) W, Tch (fun _ => False) w W → NodeAt (dgW width) F W m (r.graft k o d) → Calls Tryz.prog 332 #[.int .i64 (width : Int), .int .i64 (b : Int), .agg #[.pointer (some ⟨nl, 0, none⟩), .pointer (some ⟨m, 0, none⟩)]] W fun e w' => ∃ q, e = .returned (.tuple #[.pointer (some ⟨q, 0, none⟩), .nilIface]) ∧ NodeAt (dgW width) F w' q (.br b l (r.graft k o d)) ∧ Tch (fun _ => False) W w') := fun m W hT hm => by
      refine (newBranch_any E width hw1 hw b nl m l (r.graft k o d) F hb W (HE.out.tch hT (fun _ h => h.elim)) (HNL.out.next hT) hm).mono ?_
      rintro e w' ⟨q, rfl, h1, h2, h3⟩
      exact ⟨q, rfl, .br q b nl m l (r.graft k o d) (HF.out q (Nat.le_trans hT.size h1)) h2 ((HNL.out.next hT).next h3) (hm.next h3), h3⟩
    clear hg h1 HIH
    go_enter Tryz.func270, Tryz.ntmps270
    go_wp2_with fail
    refine (HIL.out _ (Tch.alloc _ _ _)).mono ?_
    rintro _ _ ⟨rfl, rfl⟩
    have hA0 : Tch (fun _ => False) w (w.alloc (.cells #[.int .i64 (width : Int), .pointer rv] 146)) := Tch.alloc _ _ _
    obtain ⟨wA, hwA⟩ : ∃ wA, wA = w.alloc (.cells #[.int .i64 (width : Int), .pointer rv] 146) := ⟨_, rfl⟩
    rw [← hwA] at hA0 ⊢
    have hrA : wA.heap[w.heap.size]? = some (.cells #[.int .i64 (width : Int), .pointer rv] 146) := by rw [hwA]; exact heap_alloc_new _ _
    have hzA : w.heap.size < wA.heap.size := (Array.getElem?_eq_some_iff.1 hrA).1
    have HCL : Hid (∀ W, Tch (fun _ => False) wA W → (W.cell? ⟨w.heap.size, 0, none⟩ = some (.int .i64 (width : Int)) ∧ W.cell? ⟨w.heap.size, 1, none⟩ = some (.pointer rv) ∧ W.cell? ⟨ln, 1, none⟩ = some (.string kb) ∧ W.cell? ⟨n, 4, none⟩ = some (.int .i64 (b : Int)) ∧ W.cell? ⟨n, 5, none⟩ = some (.pointer (some ⟨nl, 0, none⟩)) ∧ W.cell? ⟨n, 6, none⟩ = some (.pointer (some ⟨nr, 0, none⟩))) ∧ Tch (fun _ => False) w W) := fun W hT =>
      ⟨⟨(hT.cell (p := ⟨w.heap.size, 0, none⟩) hzA (fun h => h)).trans (cell_of_row _ _ _ _ _ _ hrA), (hT.cell (p := ⟨w.heap.size, 1, none⟩) hzA (fun h => h)).trans (cell_of_row _ _ _ _ _ _ hrA), ((hA0.trans hT (fun _ h => h.elim)).cell (p := ⟨ln, 1, none⟩) hlt (fun h => h)).trans clk, ((hA0.trans hT (fun _ h => h.elim)).cell (p := ⟨n, 4, none⟩) hnt (fun h => h)).trans c4, ((hA0.trans hT (fun _ h => h.elim)).cell (p := ⟨n, 5, none⟩) hnt (fun h => h)).trans c5, ((hA0.trans hT (fun _ h => h.elim)).cell (p := ⟨n, 6, none⟩) hnt (fun h => h)).trans c6⟩, hA0.trans hT (fun _ h => h.elim)⟩
    obtain ⟨⟨a0, a1, a2, a3, a4, a5⟩, _⟩ := HCL.out wA (Tch.refl _ _)
    clear hA0 hrA hwA clk c4 c5 c6
    go_wp2_with fail
    go_region_held3 (fun W => W.cell? ⟨ln, 1, none⟩ = some (.string kb) ∧ W.cell? ⟨n, 4, none⟩ = some (.int .i64 (b : Int))) (go_keep) ((go_at_call 288; refine (HBIT.out _).mono ?_; rintro _ _ ⟨rfl, rfl⟩))
    have HTW : Hid (∀ q, Tch (fun _ => False) w (wA.drewN q)) := fun q => (HCL.out _ (Tch.drewN _ wA q)).2
    clear HBIT
    go_wp2_with fail
    go_region_held3 (fun W => W.cell? ⟨w.heap.size, 0, none⟩ = some (.int .i64 (width : Int)) ∧ W.cell? ⟨w.heap.size, 1, none⟩ = some (.pointer rv) ∧ W.cell? ⟨n, 5, none⟩ = some (.pointer (some ⟨nl, 0, none⟩)) ∧ W.cell? ⟨n, 6, none⟩ = some (.pointer (some ⟨nr, 0, none⟩))) (go_keep) ((go_at_call 270; refine (HREC.out _ (HTW.out 2)).mono ?_; rintro _ w2 ⟨m, rfl, hm, ht2⟩; have hT2 : Tch (fun _ => False) wA w2 := (Tch.drewN (fun _ => False) wA 2).trans ht2 (fun _ h => h.elim); obtain ⟨⟨b0, b1, b2, b3, b4, b5⟩, hTw2⟩ := HCL.out w2 hT2; have HM : Hid (NodeAt _ _ _ _ _) := hm; have HT2 : Hid (Tch (fun _ => False) wA w2) := hT2; have HW2 : Hid (Tch (fun _ => False) w w2) := hTw2; clear hm ht2 hT2 hTw2))
    all_goals
      clear HREC a0 a1 a2 a3 a4 a5 HTW
      have hz0 : IntKind.i64.wrap 0 = 0 := by decide
      have hz1 : IntKind.i64.wrap 1 = 1 := by decide
      have HTW : Hid (∀ q, Tch (fun _ => False) wA (w2.drewN q)) := fun q => HT2.out.trans (Tch.drewN (fun _ => False) w2 q) (fun _ h => h.elim)
      go_wp2_with fail
      go_region_held3 (fun W => W.cell? ⟨w.heap.size, 0, none⟩ = some (.int .i64 (width : Int)) ∧ W.cell? ⟨n, 4, none⟩ = some (.int .i64 (b : Int)) ∧ W.cell? ⟨n, 5, none⟩ = some (.pointer (some ⟨nl, 0, none⟩)) ∧ W.cell? ⟨n, 6, none⟩ = some (.pointer (some ⟨nr, 0, none⟩))) (go_keep) ((first | (go_at_call 333; refine (HPW.out m _).mono ?_; rintro _ w3 ⟨rfl, ht3⟩; have hT3 : Tch (fun _ => False) wA w3 := (HTW.out 1).trans ht3 (fun _ h => h.elim); obtain ⟨⟨d0, d1, d2, d3, d4, d5⟩, hTw3⟩ := HCL.out w3 hT3; have HM3 : Hid (NodeAt (dgW width) F w3 m _) := (HM.out.next (Tch.drewN (fun _ => False) w2 1)).next ht3; have HT3 : Hid (Tch (fun _ => False) wA w3) := hT3; have HW3 : Hid (Tch (fun _ => False) w w3) := hTw3; clear ht3 hT3 hTw3) | (go_at_call 332; refine (HNB.out m _ HW3.out HM3.out).mono ?_; rintro _ w4 ⟨q, rfl, hq, ht4⟩; have hT4 : Tch (fun _ => False) wA w4 := HT3.out.trans ht4 (fun _ h => h.elim); obtain ⟨⟨f0, f1, f2, f3, f4, f5⟩, hTw4⟩ := HCL.out w4 hT4; have HQ : Hid (NodeAt _ _ _ _ _) := hq; have HW4 : Hid (Tch (fun _ => False) w w4) := hTw4; clear ht4 hT4 hq hTw4)))
      all_goals
        go_wp2
        go_ret2
        exact ⟨q, rfl, HQ.out, HW4.out⟩
theorem graft_any (E : Nat → Addr) (width : Nat) (hw1 : 1 ≤ width) (hw : width ≤ 32) (F : Nat → Prop) (rv : Option Addr) (k : Key) (o : Nat × Nat) (hk : TrOk width (.leaf k o)) (d : Nat) (hd : d < 8 * (width + 1)) (ln : Nat) : ∀ (t : Tr) (n : Nat) (w : World), TrOk width t → Env E w → (∀ j, w.heap.size ≤ j → F j) → NodeAt (dgW width) F w n t → NodeAt (dgW width) F w ln (.leaf k o) →
    Calls Tryz.prog 270 #[.agg #[.int .i64 (width : Int), .pointer rv], .pointer (some ⟨n, 0, none⟩), .pointer (some ⟨ln, 0, none⟩), .int .i64 (d : Int)] w fun e w' => ∃ m, e = .returned (.tuple #[.pointer (some ⟨m, 0, none⟩), .nilIface]) ∧ NodeAt (dgW width) F w' m (t.graft k o d) ∧ Tch (fun _ => False) w w' := by
  intro t
  induction t with
  | leaf k' o' =>
    intro n w _ hE hF hn hln
    refine graft_top E width hw1 hw F rv k o hk d hd (.leaf k' o') n ln w hE hF hn hln (fun W hT => ?_)
    cases hn with
    | leaf _ _ _ _ hr => exact isLeaf_leaf n _ k' o' W ((hT.block n (Array.getElem?_eq_some_iff.1 hr).1 (fun h => h)).trans hr)
  | br b l r ihl ihr =>
    intro n w hok hE hF hn hln
    obtain ⟨hb, hokl, hokr⟩ := hok
    have hn' := hn
    cases hn with
    | br _ _ nl nr _ _ hFn hr hnl hnr =>
      by_cases hdb : d < b
      · have := graft_mid E width hw1 hw F rv k o hk d hd (.br b l r) n ln w hE hF hn' hln (fun W hT => isLeaf_br n _ b nl nr W ((hT.block n (Array.getElem?_eq_some_iff.1 hr).1 (fun h => h)).trans hr)) b (cell_of_row _ _ _ _ _ _ hr) hdb
        have e : Tr.graft k o d (.br b l r) = Tr.pair (.br b l r) (.leaf k o) d (bt k d) := by simp only [Tr.graft]; rw [if_pos hdb]
        rw [e]
        exact this
      · refine graft_br E width hw1 hw F rv k o hk d b hb hdb l r n nl nr ln w hE hF hr hnl hnr hln ?_
        rintro s tg (⟨rfl, rfl, _⟩ | ⟨rfl, rfl, _⟩) W hT
        · exact ihl s W hokl (hE.tch hT (fun _ h => h.elim)) (fun j hj => hF j (Nat.le_trans hT.size hj)) (hnl.next hT) (hln.next hT)
        · exact ihr s W hokr (hE.tch hT (fun _ h => h.elim)) (fun j hj => hF j (Nat.le_trans hT.size hj)) (hnr.next hT) (hln.next hT)
end Go.Proofs.YtighkdnooglfjaaGreatDoor
