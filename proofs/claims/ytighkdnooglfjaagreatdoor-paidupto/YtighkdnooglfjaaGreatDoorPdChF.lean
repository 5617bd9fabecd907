/-
  The contract of chain.apply.
-/
import Derived.Test.YtighkdnooglfjaaGreatDoorPdChD
namespace Go.Proofs.YtighkdnooglfjaaGreatDoor
open Go.RowKit

set_option maxRecDepth 100000 in
theorem eachT_nil (fv : Value) (what : ByteArray) (w : World) : Calls Tryz.prog 135 #[.string what, .slice none 0 0, fv] w fun e w' => e = .returned .nilIface ∧ w = w' := by
  go_enter Tryz.func135, Tryz.ntmps135
  go_wp2
  go_loopw [12] (fun i wr => i = .int .i64 0 ∧ w = wr) (fun i _ => 0)
  case atStart => exact ⟨rfl, rfl⟩
  case round =>
    obtain ⟨rfl, rfl⟩ := hrel
    go_wp2
    go_ret
    exact ⟨rfl, rfl⟩
/-- The boxes that apply's step holds: the width and the state. -/
structure AyBox (w : World) (N width width' : Nat) (q : Option Nat) : Prop where
  i : w.heap[N]? = some (.cells #[.int .i64 (width : Int)] 3)
  s : w.heap[N + 1]? = some (.cells #[.int .i64 (width' : Int), rootV q] 146)
theorem AyBox.next {w w' : World} {N width width' : Nat} {q : Option Nat} (h : AyBox w N width width' q) (k : Tch (fun _ => False) w w') : AyBox w' N width width' q :=
  ⟨(k.block _ (Array.getElem?_eq_some_iff.1 h.i).1 (fun h => h)).trans h.i, (k.block _ (Array.getElem?_eq_some_iff.1 h.s).1 (fun h => h)).trans h.s⟩
theorem AyBox.put {w W : World} {N width width0 : Nat} {q : Option Nat} (h : AyBox W N width width0 q) (hT : Tch (fun _ => False) w W) (width' : Nat) (q' : Option Nat) (v' : Option Addr) (hv : rootV q' = .pointer v') :
    Tch (fun k => k = N + 1) w ((W.setCell ⟨N + 1, 0, none⟩ (.int .i64 (width' : Int))).setCell ⟨N + 1, 1, none⟩ (.pointer v')) ∧
    AyBox ((W.setCell ⟨N + 1, 0, none⟩ (.int .i64 (width' : Int))).setCell ⟨N + 1, 1, none⟩ (.pointer v')) N width width' q' ∧
    (∀ d F q' st', StAt d F W q' st' → StAt d F ((W.setCell ⟨N + 1, 0, none⟩ (.int .i64 (width' : Int))).setCell ⟨N + 1, 1, none⟩ (.pointer v')) q' st') ∧ ∀ E k v, ErrIs E k W v → ErrIs E k ((W.setCell ⟨N + 1, 0, none⟩ (.int .i64 (width' : Int))).setCell ⟨N + 1, 1, none⟩ (.pointer v')) v := by
  rw [set2 W (N + 1) _ _ _ _ _ h.s]
  have t1 := Tch.setRow W (N + 1) #[.int .i64 (width' : Int), .pointer v']
  refine ⟨(hT.mono (S' := fun k => k = N + 1) (fun _ h => h.elim)).trans t1 (fun j hj => .inl hj), ⟨(t1.block _ (Array.getElem?_eq_some_iff.1 h.i).1 (by omega)).trans h.i, ?_⟩, fun d F q' st' hs => hs.row h.s (by decide), fun E k v he => he.tch t1 ?_⟩
  · rw [hv]; exact setRow_heap _ _ _ _ _ _ h.s
  · rintro p s u hp rfl
    rw [h.s] at hp
    injection hp with hp
    injection hp with _ h2
    exact absurd h2 (by decide)
/-- What apply's step comes to. -/
def AyTo (E : Nat → Addr) (width : Nat) (F : Nat → Prop) (N : Nat) (r : Except Er (Option Tr)) (e : Ending) (w' : World) : Prop := match r with
  | .ok st' => ∃ q', e = .returned .nilIface ∧ AyBox w' N width width q' ∧ StAt (dgW width) F w' q' st' ∧ StOk width st'
  | .error er => ∃ (u : Nat) (q' : Option Nat) (t : TypeId) (v : Value), e = .returned (.iface t v) ∧ AyBox w' N width u q' ∧ ErrIs E (erG er) w' (.iface t v)
set_option maxRecDepth 100000 in
set_option maxHeartbeats 1000000 in
theorem applyStep (E : Nat → Addr) (width : Nat) (hw1 : 1 ≤ width) (hw : width ≤ 32) (F : Nat → Prop) (N : Nat) (q : Option Nat) (st : Option Tr) (i : Nat) (x : Sl × Sl) (t : TxL) (ht : TxOk width t) (w : World) (hE : Env E w) (hF : ∀ j, w.heap.size ≤ j → F j) (hB : AyBox w N width width q) (h1 : CoinsAt w.heap.size w (.slice x.1.1 x.1.2.1 x.1.2.2) t.1) (h2 : OutsAt w.heap.size w (.slice x.2.1 x.2.2.1 x.2.2.2) t.2) (hs : StAt (dgW width) F w q st) (hok : StOk width st) :
    Calls Tryz.prog 136 #[.int .i64 (i : Int), .agg #[.slice x.1.1 x.1.2.1 x.1.2.2, .slice x.2.1 x.2.2.1 x.2.2.2], .pointer (some ⟨N, 0, none⟩), .pointer (some ⟨N + 1, 0, none⟩)] w fun e w' => Tch (fun k => k = N + 1) w w' ∧ AyTo E width F N (applyOneT (dgW width) st t) e w' := by
  have HW : Hid (∀ W, Tch (fun _ => False) w W → Calls Tryz.prog 137 #[.int .i64 (width : Int), treeV width q, .agg #[.slice x.1.1 x.1.2.1 x.1.2.2, .slice x.2.1 x.2.2.1 x.2.2.2]] W fun e w' => Tch (fun _ => False) W w' ∧ ApTo E width F (applyOneT (dgW width) st t) e w') := fun W hT =>
    applyOne_any E width hw1 hw F q st x t ht W (hE.tch hT (fun _ h => h.elim)) (fun j hj => hF j (Nat.le_trans hT.size hj)) ((h1.tch hT (fun _ h => h.elim)).up hT.size) ((h2.tch hT (fun _ h => h.elim)).up hT.size) (hs.next hT) hok
  have HBX : Hid (AyBox w N width width q) := hB
  obtain ⟨rv, hrv⟩ : ∃ rv, rootV q = .pointer rv := ⟨_, rfl⟩
  have hNb : N + 1 < w.heap.size := (Array.getElem?_eq_some_iff.1 hB.s).1
  have hNs : N < w.heap.size := by omega
  have a0 : w.cell? ⟨N + 1, 0, none⟩ = some (.int .i64 (width : Int)) := cell_of_row _ _ _ _ _ _ hB.s
  have a1 : w.cell? ⟨N + 1, 1, none⟩ = some (.pointer rv) := by rw [← hrv]; exact cell_of_row _ _ _ _ _ _ hB.s
  have a2 : w.cell? ⟨N, 0, none⟩ = some (.int .i64 (width : Int)) := cell_of_row _ _ _ _ _ _ hB.i
  have HRV : Hid (rootV q = .pointer rv) := hrv
  unfold treeV at HW
  rw [hrv] at HW
  generalize applyOneT (dgW width) st t = R at *
  clear hE hF hB hs hok hrv ht h1 h2
  obtain ⟨⟨x1, x2, x3⟩, y1, y2, y3⟩ := x
  dsimp only at HW ⊢
  have HTA : Hid (∀ k, Tch (fun _ => False) w ((w.alloc (.cells #[.slice x1 x2 x3, .slice y1 y2 y3] 98)).drewN k)) := fun k => (Tch.alloc _ _ _).dr k
  go_enter Tryz.func136, Tryz.ntmps136
  go_wp2_with fail
  refine (HW.out _ (HTA.out 0)).mono ?_
  clear HW a0 a1 a2
  cases R with
  | ok st' =>
    rintro _ w2 ⟨ht2, q2, rfl, hs2, hk2⟩
    have hT : Tch (fun _ => False) w w2 := (HTA.out 0).go ht2
    have b2 := HBX.out.next hT
    have HB2 : Hid (AyBox w2 N width width q) := b2
    have c0 : w2.cell? ⟨N + 1, 0, none⟩ = some (.int .i64 (width : Int)) := cell_of_row _ _ _ _ _ _ b2.s
    have c1 : w2.cell? ⟨N + 1, 1, none⟩ = some (.pointer rv) := by rw [← HRV.out]; exact cell_of_row _ _ _ _ _ _ b2.s
    have fN : ∀ j, w2.frozen? ⟨N + 1, j, none⟩ = false := fun j => frozen_of_row _ _ _ _ _ b2.s
    have HT : Hid (Tch (fun _ => False) w w2) := hT
    have HS2 : Hid (StAt (dgW width) F w2 q2 st') := hs2
    have HK2 : Hid (StOk width st') := hk2
    clear hT ht2 hs2 b2 HTA hk2
    unfold treeV
    obtain ⟨v2, hv2⟩ : ∃ v, rootV q2 = .pointer v := ⟨_, rfl⟩
    rw [hv2]
    have HV2 : Hid (rootV q2 = .pointer v2) := hv2
    clear hv2
    go_wp2
    go_ret
    obtain ⟨p1, p2, p3, _⟩ := HB2.out.put HT.out width q2 v2 HV2.out
    exact ⟨p1, q2, rfl, p2, p3 _ _ _ _ HS2.out, HK2.out⟩
  | error er =>
    rintro _ w2 ⟨ht2, u2, q2, t2, e2, rfl, hv⟩
    have hT : Tch (fun _ => False) w w2 := (HTA.out 0).go ht2
    have b2 := HBX.out.next hT
    have HB2 : Hid (AyBox w2 N width width q) := b2
    have c0 : w2.cell? ⟨N + 1, 0, none⟩ = some (.int .i64 (width : Int)) := cell_of_row _ _ _ _ _ _ b2.s
    have c1 : w2.cell? ⟨N + 1, 1, none⟩ = some (.pointer rv) := by rw [← HRV.out]; exact cell_of_row _ _ _ _ _ _ b2.s
    have fN : ∀ j, w2.frozen? ⟨N + 1, j, none⟩ = false := fun j => frozen_of_row _ _ _ _ _ b2.s
    have HT : Hid (Tch (fun _ => False) w w2) := hT
    have HV : Hid (ErrIs E (erG er) w2 (.iface t2 e2)) := hv
    clear hT ht2 b2 HTA hv
    unfold treeV
    obtain ⟨v2, hv2⟩ : ∃ v, rootV q2 = .pointer v := ⟨_, rfl⟩
    rw [hv2]
    have HV2 : Hid (rootV q2 = .pointer v2) := hv2
    clear hv2
    go_wp2
    go_ret
    obtain ⟨p1, p2, _, p4⟩ := HB2.out.put HT.out u2 q2 v2 HV2.out
    exact ⟨p1, u2, q2, t2, e2, rfl, p2, p4 _ _ _ HV.out⟩
theorem applyT_step (dg : List UInt8 → ByteArray) (ts : List TxL) (i : Nat) (h : i < ts.length) (st : Option Tr) : applyT dg st (ts.drop i) = match applyOneT dg st ts[i] with
    | .error e => .error e
    | .ok st1 => applyT dg st1 (ts.drop (i + 1)) := by
  rw [List.drop_eq_getElem_cons h]
  rfl
/-- Transactions in memory, each with its coins and outputs. -/
def TxIn (B : Nat) (w : World) (l : List (Sl × Sl)) (ts : List TxL) : Prop := l.length = ts.length ∧ ∀ (j : Nat) x t, l[j]? = some x → ts[j]? = some t → CoinsAt B w (.slice x.1.1 x.1.2.1 x.1.2.2) t.1 ∧ OutsAt B w (.slice x.2.1 x.2.2.1 x.2.2.2) t.2
/-- What is so ahead of the round i of apply. -/
structure AyInv (width : Nat) (F : Nat → Prop) (ts : List TxL) (R : Except Er (Option Tr)) (w0 : World) (N : Nat) (i : Nat) (w : World) (q : Option Nat) (st : Option Tr) : Prop where
  box : AyBox w N width width q
  at_ : StAt (dgW width) F w q st
  ok : StOk width st
  eq : applyT (dgW width) st (ts.drop i) = R
  tch : Tch (fun k => k = N + 1) w0 w
def AyBad (E : Nat → Addr) (width : Nat) (R : Except Er (Option Tr)) (w0 : World) (N : Nat) (v : Value) (w : World) : Prop := ∃ (er : Er) (u : Nat) (q : Option Nat), R = .error er ∧ ErrIs E (erG er) w v ∧ AyBox w N width u q ∧ Tch (fun k => k = N + 1) w0 w
set_option maxRecDepth 100000 in
theorem apply_stepV (E : Nat → Addr) (width : Nat) (hw1 : 1 ≤ width) (hw : width ≤ 32) (F : Nat → Prop) (l : List (Sl × Sl)) (ts : List TxL) (hts : ∀ t ∈ ts, TxOk width t) (R : Except Er (Option Tr)) (w0 : World) (hE : Env E w0) (hF : ∀ j, w0.heap.size ≤ j → F j) (N : Nat) (hN : 18 ≤ N) (hN0 : N ≤ w0.heap.size) (hin : TxIn N w0 l ts) (g off : Nat) (hg : g < N) (hz : g < w0.heap.size)
    (hr : ∀ i (h : i < l.length), w0.cell? ⟨g, off + i * 2, none⟩ = some (.slice l[i].1.1 l[i].1.2.1 l[i].1.2.2) ∧ w0.cell? ⟨g, off + i * 2 + 1, none⟩ = some (.slice l[i].2.1 l[i].2.2.1 l[i].2.2.2)) :
    StepV 136 #[.pointer (some ⟨N, 0, none⟩), .pointer (some ⟨N + 1, 0, none⟩)] g off l.length (fun i => (l.map encT).getD i zT) (fun i w => ∃ q st, AyInv width F ts R w0 N i w q st) (AyBad E width R w0 N) := by
  have hx : ∀ i (h : i < l.length), (l.map encT).getD i zT = encT l[i] := fun i h => by simp [List.getD_eq_getElem?_getD, h]
  refine ⟨fun _ _ => rfl, ?_, ?_, ?_⟩
  · rintro i w hi ⟨q, st, I⟩
    rw [hx i hi]
    have hc : ∀ o, w.cell? ⟨g, o, none⟩ = w0.cell? ⟨g, o, none⟩ := fun o => I.tch.cell (p := ⟨g, o, none⟩) hz (by show ¬ g = N + 1; omega)
    rw [hc, hc]
    exact hr i hi
  · rintro i w o ⟨q, st, I⟩
    have ha := Tch.alloc (fun _ => False) w o
    exact ⟨q, st, I.box.next ha, I.at_.next ha, I.ok, I.eq, I.tch.go ha⟩
  · rintro i w hi ⟨q, st, I⟩
    rw [hx i hi]
    have hi' : i < ts.length := by rw [← hin.1]; exact hi
    obtain ⟨k1, k2⟩ := hin.2 i l[i] ts[i] (List.getElem?_eq_getElem hi) (List.getElem?_eq_getElem hi')
    have hNw : N ≤ w.heap.size := Nat.le_trans hN0 I.tch.size
    refine (applyStep E width hw1 hw F N q st i l[i] ts[i] (hts _ (List.getElem_mem hi')) w (hE.tch I.tch (fun j hj => by omega)) (fun j hj => hF j (Nat.le_trans I.tch.size hj)) I.box ((k1.tch I.tch (fun j hj => by omega)).up hNw) ((k2.tch I.tch (fun j hj => by omega)).up hNw) I.at_ I.ok).mono ?_
    rintro e w' ⟨ht, hr⟩
    have e1 := I.eq
    rw [applyT_step (dgW width) ts i hi'] at e1
    have hT : Tch (fun k => k = N + 1) w0 w' := I.tch.trans ht (fun j hj => .inl hj)
    cases hres : applyOneT (dgW width) st ts[i] with
    | ok st' =>
      rw [hres] at hr e1
      obtain ⟨q', rfl, hb, hs, hk⟩ := hr
      exact .inl ⟨rfl, q', st', hb, hs, hk, e1, hT⟩
    | error er =>
      rw [hres] at hr e1
      obtain ⟨u, q', t', v', rfl, hb, hv⟩ := hr
      exact .inr ⟨t', v', rfl, er, u, q', e1.symm, hv, hb, hT⟩
set_option maxRecDepth 100000 in
set_option maxHeartbeats 1000000 in
theorem apply_any (E : Nat → Addr) (width : Nat) (hw1 : 1 ≤ width) (hw : width ≤ 32) (F : Nat → Prop) (q : Option Nat) (st : Option Tr) (v : Value) (l : List (Sl × Sl)) (ts : List TxL) (hts : ∀ t ∈ ts, TxOk width t) (h3 : ts.length ≤ 3) (w : World) (hE : Env E w) (hF : ∀ j, w.heap.size ≤ j → F j) (hv : TxsAt w.heap.size w v l) (hin : TxIn w.heap.size w l ts) (hs : StAt (dgW width) F w q st) (hok : StOk width st) :
    Calls Tryz.prog 81 #[.int .i64 (width : Int), treeV width q, v] w fun e w' => Tch (fun _ => False) w w' ∧ ApTo E width F (applyT (dgW width) st ts) e w' := by
  obtain ⟨rv, hrv⟩ : ∃ rv, rootV q = .pointer rv := ⟨_, rfl⟩
  obtain ⟨W, hW⟩ : ∃ W, W = ((w.alloc (.cells #[.int .i64 (width : Int)] 3)).alloc (.cells #[.int .i64 (width : Int), .pointer rv] 146)).alloc (.cells #[.int .i64 0, .pointer none] 146) := ⟨_, rfl⟩
  have hA : Tch (fun _ => False) w W := by rw [hW]; exact Tch.allocs3 _ _ _ _ _
  have hbx : AyBox W w.heap.size width width q := by rw [hW, hrv.symm]; exact ⟨heap_alloc3_0 _ _ _ _, heap_alloc3_1 _ _ _ _⟩
  have hro : W.heap[w.heap.size + 1 + 1]? = some (.cells #[.int .i64 0, .pointer none] 146) := by rw [hW]; exact heap_alloc3_2 _ _ _ _
  generalize hR : applyT (dgW width) st ts = R
  have hEW := hE.tch hA (fun _ h => h.elim)
  have hi0 : AyInv width F ts R W w.heap.size 0 W q st := ⟨hbx, hs.next hA, hok, hR, Tch.refl _ _⟩
  have hinW : TxIn w.heap.size W l ts := ⟨hin.1, fun j x t k1 k2 => ⟨(hin.2 j x t k1 k2).1.tch hA (fun _ h => h.elim), (hin.2 j x t k1 k2).2.tch hA (fun _ h => h.elim)⟩⟩
  have HEA : Hid (∀ what : ByteArray, what.size ≤ 1000 → Calls Tryz.prog 135 #[.string what, v, .func (.func 136) #[] #[.pointer (some ⟨w.heap.size, 0, none⟩), .pointer (some ⟨w.heap.size + 1, 0, none⟩)]] W fun e w' => ToE (fun i w' => ∃ q st, AyInv width F ts R W w.heap.size i w' q st) (AyBad E width R W w.heap.size) l.length e w') := fun what hwh => by
    rcases hv with ⟨rfl, rfl⟩ | ⟨gi, oi, c, rfl, h1, h2, h3'⟩
    · refine (eachT_nil _ _ _).mono ?_
      rintro _ _ ⟨rfl, rfl⟩
      exact .inl ⟨rfl, q, st, hi0⟩
    · refine eachT _ _ _ _ _ _ _ _ (fun i hi => ?_) _ _ (apply_stepV E width hw1 hw F l ts hts R W hEW (fun j hj => hF j (Nat.le_trans hA.size hj)) w.heap.size hE.size hA.size hinW gi oi h1 (Nat.lt_of_lt_of_le h2 hA.size) (fun i hi => ?_)) (by rw [hin.1]; exact h3) hwh W ⟨q, st, hi0⟩
      · simp only [List.getD_eq_getElem?_getD, List.getElem?_map, List.getElem?_eq_getElem hi]; exact ⟨_, _, rfl⟩
      · have hc : ∀ o, W.cell? ⟨gi, o, none⟩ = w.cell? ⟨gi, o, none⟩ := fun o => hA.cell (p := ⟨gi, o, none⟩) h2 (fun h => h)
        rw [hc, hc]; exact h3' i hi
  obtain ⟨ia, ic, hvs⟩ := hv.shape
  have HRV : Hid (rootV q = .pointer rv) := hrv
  have HRO : Hid (W.heap[w.heap.size + 1 + 1]? = _) := hro
  have HA : Hid (Tch (fun _ => False) w W) := hA
  have hmf : ∀ (fn : Fn) (first cap : Array Value) (w : World), (Instr.makeFunc fn first cap).run Tryz.prog w = .ok (.func fn first cap) w := fun _ _ _ _ => rfl
  have HW : Hid (W = _) := hW
  have HLL : Hid (l.length = ts.length) := hin.1
  subst hvs
  unfold treeV
  rw [hrv]
  clear hE hF hv hs hok hrv hro hA hi0 hEW hbx hW hts h3 hR hin hinW
  go_enter Tryz.func81, Tryz.ntmps81
  go_wp2_with fail
  rw [← HW.out]
  refine (HEA.out _ (by decide)).mono ?_
  rintro e w2 (⟨rfl, q2, st2, I⟩ | ⟨p, sx, vx, w1, rfl, hp, ⟨er, u2, q2, hR, hv, hb, ht⟩, hbl⟩)
  · have hsR := (Array.getElem?_eq_some_iff.1 HRO.out).1
    have hr2 : w2.heap[w.heap.size + 1 + 1]? = some (.cells #[.int .i64 0, .pointer none] 146) := (I.tch.block _ hsR (by omega)).trans HRO.out
    obtain ⟨v2, hv2⟩ : ∃ v, rootV q2 = .pointer v := ⟨_, rfl⟩
    have c0 : w2.cell? ⟨w.heap.size + 1, 0, none⟩ = some (.int .i64 (width : Int)) := cell_of_row _ _ _ _ _ _ I.box.s
    have c1 : w2.cell? ⟨w.heap.size + 1, 1, none⟩ = some (.pointer v2) := by rw [← hv2]; exact cell_of_row _ _ _ _ _ _ I.box.s
    have r0 : w2.cell? ⟨w.heap.size + 1 + 1, 0, none⟩ = some (.int .i64 0) := cell_of_row _ _ _ _ _ _ hr2
    have r1 : w2.cell? ⟨w.heap.size + 1 + 1, 1, none⟩ = some (.pointer none) := cell_of_row _ _ _ _ _ _ hr2
    have fR : ∀ j, w2.frozen? ⟨w.heap.size + 1 + 1, j, none⟩ = false := fun j => frozen_of_row _ _ _ _ _ hr2
    have HR2 : Hid (w2.heap[w.heap.size + 1 + 1]? = _) := hr2
    have HI : Hid (AyInv width F ts R W w.heap.size ts.length w2 q2 st2) := by rw [← HLL.out]; exact I
    have HV2 : Hid (rootV q2 = .pointer v2) := hv2
    have hz2 : w.heap.size + 1 + 1 < w2.heap.size := (Array.getElem?_eq_some_iff.1 hr2).1
    clear I hr2 hv2 HEA hsR
    go_wp2
    obtain ⟨p1, p2, p3, _⟩ := tree_put HR2.out ((HA.out.trans HI.out.tch (fun j hj => .inr (by omega))) : Tch (fun _ => False) w w2) (by omega) (.int .i64 (width : Int)) (.pointer v2)
    refine bodyPost_ret (v := .tuple #[.agg #[.int .i64 (width : Int), .pointer v2], .nilIface]) (results_cell_tmp Tryz.results81 _ _ (w.heap.size + 1 + 1) _ _ (0, 0) _ rfl p1 Tryz.underlying146 rfl (by kernel_rfl)) rfl ⟨p2, ?_⟩
    have e1 := HI.out.eq
    rw [List.drop_length] at e1
    rw [← e1]
    exact ⟨q2, by rw [treeV, HV2.out], p3 _ _ _ _ HI.out.at_, HI.out.ok⟩
  · have hsR := (Array.getElem?_eq_some_iff.1 HRO.out).1
    have hr1 : w1.heap[w.heap.size + 1 + 1]? = some (.cells #[.int .i64 0, .pointer none] 146) := (ht.block _ hsR (by omega)).trans HRO.out
    have hz1 := (Array.getElem?_eq_some_iff.1 hr1).1
    have hr2 : w2.heap[w.heap.size + 1 + 1]? = some (.cells #[.int .i64 0, .pointer none] 146) := (hbl.block _ hz1).trans hr1
    obtain ⟨v2, hv2⟩ : ∃ v, rootV q2 = .pointer v := ⟨_, rfl⟩
    have hs2 : w2.heap[w.heap.size + 1]? = some (.cells #[.int .i64 (u2 : Int), rootV q2] 146) := (hbl.block _ (Array.getElem?_eq_some_iff.1 hb.s).1).trans hb.s
    have hz2 : w.heap.size + 1 + 1 < w2.heap.size := (Array.getElem?_eq_some_iff.1 hr2).1
    have c0 : w2.cell? ⟨w.heap.size + 1, 0, none⟩ = some (.int .i64 (u2 : Int)) := cell_of_row _ _ _ _ _ _ hs2
    have c1 : w2.cell? ⟨w.heap.size + 1, 1, none⟩ = some (.pointer v2) := by rw [← hv2]; exact cell_of_row _ _ _ _ _ _ hs2
    have r0 : w2.cell? ⟨w.heap.size + 1 + 1, 0, none⟩ = some (.int .i64 0) := cell_of_row _ _ _ _ _ _ hr2
    have r1 : w2.cell? ⟨w.heap.size + 1 + 1, 1, none⟩ = some (.pointer none) := cell_of_row _ _ _ _ _ _ hr2
    have fR : ∀ j, w2.frozen? ⟨w.heap.size + 1 + 1, j, none⟩ = false := fun j => frozen_of_row _ _ _ _ _ hr2
    have HR2 : Hid (w2.heap[w.heap.size + 1 + 1]? = _) := hr2
    have HT2 : Hid (Tch (fun k => k = w.heap.size + 1) W w2) := ht.trans (Tch.of_below hbl) (fun j hj => .inr (Nat.le_trans ht.size hj))
    have HP : Hid (ErrIs E (erG er) w2 (.iface 235 (.pointer (some ⟨p, 0, none⟩)))) := .wrap p _ _ hp (hv.later hbl)
    have HR : Hid (R = _) := hR
    have HV2 : Hid (rootV q2 = .pointer v2) := hv2
    clear hr1 hr2 hs2 hbl ht hb hp hR HEA hsR hz1 hv hv2
    go_wp2
    obtain ⟨p1, p2, p3, p4⟩ := tree_put HR2.out ((HA.out.trans HT2.out (fun j hj => .inr (by omega))) : Tch (fun _ => False) w w2) (by omega) (.int .i64 (u2 : Int)) (.pointer v2)
    refine bodyPost_ret (v := .tuple #[.agg #[.int .i64 (u2 : Int), .pointer v2], .iface 235 (.pointer (some ⟨p, 0, none⟩))]) (results_cell_tmp Tryz.results81 _ _ (w.heap.size + 1 + 1) _ _ (0, 0) _ rfl p1 Tryz.underlying146 rfl (by kernel_rfl)) rfl ⟨p2, ?_⟩
    rw [HR.out]
    exact ⟨u2, q2, _, _, by rw [treeV, HV2.out], p4 _ _ _ HP.out⟩
end Go.Proofs.YtighkdnooglfjaaGreatDoor
