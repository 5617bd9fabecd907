/-
  The contracts of (*wire.Coder).Node, whatever the port's state is, and of (wire.Node).Text.
-/
import Derived.Test.YtighkdnooglfjaaGreatDoorPdWNode
namespace Go.Proofs.YtighkdnooglfjaaGreatDoor
open Go.RowKit

/-- A node by itself: its letter; key and output; bit and two digests. -/
abbrev NodeL := ByteArray × ByteArray × (Nat × Nat) × Int × ByteArray × ByteArray
def zNode : NodeL := (⟨#[]⟩, ⟨#[]⟩, (0, 0), 0, ⟨#[]⟩, ⟨#[]⟩)
def nodeC (n : NodeL) : Array Value := #[.string n.1, .string n.2.1, .int .u64 (n.2.2.1.1 : Int), .int .u8 (n.2.2.1.2 : Int), .int .i64 n.2.2.2.1, .string n.2.2.2.2.1, .string n.2.2.2.2.2]
def stNode (width : Nat) (n : NodeL) (st : Option PS) : NodeL × Option PS :=
  if (stTxt n.1.data.toList 1 st).1 = [69] then ((⟨#[69]⟩, ⟨#[]⟩, (0, 0), 0, ⟨#[]⟩, ⟨#[]⟩), (stTxt n.1.data.toList 1 st).2)
  else if (stTxt n.1.data.toList 1 st).1 = [76] then ((⟨#[76]⟩, ⟨(stLeaf width n.2.1 n.2.2.1 (stTxt n.1.data.toList 1 st).2).1.1.toArray⟩, (stLeaf width n.2.1 n.2.2.1 (stTxt n.1.data.toList 1 st).2).1.2, 0, ⟨#[]⟩, ⟨#[]⟩), (stLeaf width n.2.1 n.2.2.1 (stTxt n.1.data.toList 1 st).2).2)
  else if (stTxt n.1.data.toList 1 st).1 = [78] then ((⟨#[78]⟩, ⟨#[]⟩, (0, 0), ((stBr width n.2.2.2.1 n.2.2.2.2.1 n.2.2.2.2.2 (stTxt n.1.data.toList 1 st).2).1.1 : Int), ⟨(stBr width n.2.2.2.1 n.2.2.2.2.1 n.2.2.2.2.2 (stTxt n.1.data.toList 1 st).2).1.2.1.toArray⟩, ⟨(stBr width n.2.2.2.1 n.2.2.2.2.1 n.2.2.2.2.2 (stTxt n.1.data.toList 1 st).2).1.2.2.toArray⟩), (stBr width n.2.2.2.1 n.2.2.2.2.1 n.2.2.2.2.2 (stTxt n.1.data.toList 1 st).2).2)
  else (zNode, none)
theorem stNode_wr {width : Nat} {n : NodeL} {st : Option PS} (h : stWr st) : stWr (stNode width n st).2 := by
  unfold stNode
  split
  · exact stTxt_wr h
  · split
    · exact stLeaf_wr (stTxt_wr h)
    · split
      · exact stBr_wr (stTxt_wr h)
      · exact stWr_none
theorem set7 (w : World) (g : Nat) (t : TypeId) (a b c d e f h v0 v1 v2 v3 v4 v5 v6 : Value) (hr : w.heap[g]? = some (.cells #[a, b, c, d, e, f, h] t (0, 0))) :
    ((((((w.setCell ⟨g, 0, none⟩ v0).setCell ⟨g, 1, none⟩ v1).setCell ⟨g, 2, none⟩ v2).setCell ⟨g, 3, none⟩ v3).setCell ⟨g, 4, none⟩ v4).setCell ⟨g, 5, none⟩ v5).setCell ⟨g, 6, none⟩ v6 = w.setRow g #[v0, v1, v2, v3, v4, v5, v6] := by
  rw [setCell_eq_setRow w g 0 _ t (0, 0) v0 hr, setCell_eq_setRow _ g 1 _ t (0, 0) v1 (setRow_heap _ _ _ _ _ _ hr), setRow_setRow,
    setCell_eq_setRow _ g 2 _ t (0, 0) v2 (setRow_heap _ _ _ _ _ _ hr), setRow_setRow, setCell_eq_setRow _ g 3 _ t (0, 0) v3 (setRow_heap _ _ _ _ _ _ hr), setRow_setRow,
    setCell_eq_setRow _ g 4 _ t (0, 0) v4 (setRow_heap _ _ _ _ _ _ hr), setRow_setRow, setCell_eq_setRow _ g 5 _ t (0, 0) v5 (setRow_heap _ _ _ _ _ _ hr), setRow_setRow,
    setCell_eq_setRow _ g 6 _ t (0, 0) v6 (setRow_heap _ _ _ _ _ _ hr), setRow_setRow]
  refine congrArg (w.setRow g) ?_
  simp
set_option maxRecDepth 100000 in
set_option maxHeartbeats 400000 in
theorem leafNode_any (k : ByteArray) (a o : Int) (w : World) : Calls Tryz.prog 307 #[.agg #[.string k, .int .u64 a, .int .u8 o]] w fun e w' => e = .returned (.agg #[.string ⟨#[76]⟩, .string k, .int .u64 a, .int .u8 o, .int .i64 0, .string ⟨#[]⟩, .string ⟨#[]⟩]) ∧ Tch (fun _ => False) w w' := by
  go_enter Tryz.func307, Tryz.ntmps307
  go_wp2
  exact bodyPost_ret (v := .agg #[.string ⟨#[76]⟩, .string k, .int .u64 a, .int .u8 o, .int .i64 0, .string ⟨#[]⟩, .string ⟨#[]⟩]) (results_cell_row Tryz.results307 _ _ (w.heap.size + 1) _ _ (0, 0) _ rfl (heap_alloc2_new _ _ _) Tryz.underlying281 rfl (by kernel_rfl)) rfl ⟨rfl, Tch.allocs _ _ _ _⟩
set_option maxRecDepth 100000 in
set_option maxHeartbeats 400000 in
theorem branchNode_any (k : Int) (x y : ByteArray) (w : World) : Calls Tryz.prog 309 #[.agg #[.int .i64 k, .string x, .string y]] w fun e w' => e = .returned (.agg #[.string ⟨#[78]⟩, .string ⟨#[]⟩, .int .u64 0, .int .u8 0, .int .i64 k, .string x, .string y]) ∧ Tch (fun _ => False) w w' := by
  go_enter Tryz.func309, Tryz.ntmps309
  go_wp2
  exact bodyPost_ret (v := .agg #[.string ⟨#[78]⟩, .string ⟨#[]⟩, .int .u64 0, .int .u8 0, .int .i64 k, .string x, .string y]) (results_cell_row Tryz.results309 _ _ (w.heap.size + 1) _ _ (0, 0) _ rfl (heap_alloc2_new _ _ _) Tryz.underlying281 rfl (by kernel_rfl)) rfl ⟨rfl, Tch.allocs _ _ _ _⟩
theorem Run.next {E : Nat → Addr} {w0 wA w w' : World} {b : Nat} {g g' : Option Nat} {width : Int} {st : Option PS} (h : Run E w0 wA w b g g' width st) (k : Tch (fun _ => False) w w') : Run E w0 wA w' b g g' width st :=
  ⟨h.port.next k, h.moved, h.tch.trans k (fun _ h => h.elim), h.env.tch k (fun _ h => h.elim), h.k12, h.low, h.own, h.new⟩
set_option maxRecDepth 100000 in
set_option maxHeartbeats 1000000 in
theorem node_st (E : Nat → Addr) (b : Nat) (hb12 : 18 ≤ b) (g : Option Nat) (width : Nat) (hw : width ≤ 1000) (n : NodeL) (ho : n.2.2.1.2 < 256) (st : Option PS) (w : World) (hE : Env E w) (hp : PortSt E w b g width st) (hd : stLen st ≤ 70000000) :
    Calls Tryz.prog 240 #[.pointer (some ⟨b, 0, none⟩), .agg (nodeC n)] w fun e w' => e = .returned (.agg (nodeC (stNode width n st).1)) ∧ StTo E w w' b g width (stNode width n st).2 := by
  have hlt := hp.lt
  obtain ⟨l, k, ⟨a, o⟩, bt, x, y⟩ := n
  dsimp only at ho
  have HC : Hid (nodeC (l, k, (a, o), bt, x, y) = #[.string l, .string k, .int .u64 (a : Int), .int .u8 (o : Int), .int .i64 bt, .string x, .string y]) := rfl
  rw [HC.out]
  have HR0 := Run.start hb12 hE hp (Tch.allocs (fun _ => False) w (.cells #[.string l, .string k, .int .u64 (a : Int), .int .u8 (o : Int), .int .i64 bt, .string x, .string y] 281) (.cells #[.string ⟨#[]⟩, .string ⟨#[]⟩, .int .u64 0, .int .u8 0, .int .i64 0, .string ⟨#[]⟩, .string ⟨#[]⟩] 281))
  have hl0 := stTxt_len l.data.toList 1 st
  have RUN : Hid (Run _ _ _ _ _ _ _ _ _) := HR0
  clear hE hp HR0
  go_enter Tryz.func240, Tryz.ntmps240
  go_wp2_with fail
  refine (text_st E b g width l 1 st _ RUN.out.env RUN.out.port (by omega)).mono ?_
  rintro _ w1 ⟨rfl, h⟩
  obtain ⟨g1, R1⟩ := RUN.out.step h
  have bx1 := (R1.box (k := w.heap.size) (Nat.le_refl _) (heap_alloc2_old _ _ _)).1
  have rR := (R1.box (k := w.heap.size + 1) (by omega) (heap_alloc2_new _ _ _)).1
  have hsz1 : w.heap.size + 1 < w1.heap.size := (Array.getElem?_eq_some_iff.1 rR).1
  have c1 : w1.cell? ⟨w.heap.size, 1, none⟩ = some (.string k) := cell_of_row _ _ _ _ _ _ bx1
  have c2 : w1.cell? ⟨w.heap.size, 2, none⟩ = some (.int .u64 (a : Int)) := cell_of_row _ _ _ _ _ _ bx1
  have c3 : w1.cell? ⟨w.heap.size, 3, none⟩ = some (.int .u8 (o : Int)) := cell_of_row _ _ _ _ _ _ bx1
  have c4 : w1.cell? ⟨w.heap.size, 4, none⟩ = some (.int .i64 bt) := cell_of_row _ _ _ _ _ _ bx1
  have c5 : w1.cell? ⟨w.heap.size, 5, none⟩ = some (.string x) := cell_of_row _ _ _ _ _ _ bx1
  have c6 : w1.cell? ⟨w.heap.size, 6, none⟩ = some (.string y) := cell_of_row _ _ _ _ _ _ bx1
  have RUN1 : Hid (Run _ _ _ _ _ _ _ _ _) := R1
  have RR1 : Hid (_ = _) := rR
  clear R1 bx1 h rR
  have hn0 : ∀ c : UInt8, (stTxt l.data.toList 1 st).1 ≠ [c] → ((⟨(stTxt l.data.toList 1 st).1.toArray⟩ : ByteArray).toList == [c]) = false := fun c h => by
    rw [ByteArray.toList_eq]
    simpa using h
  have HN0 : Hid (∀ c : UInt8, _) := hn0
  clear hn0
  by_cases h0 : (stTxt l.data.toList 1 st).1 = [69]
  · have hb : (⟨(stTxt l.data.toList 1 st).1.toArray⟩ : ByteArray) = ⟨#[69]⟩ := by rw [h0]
    have HS : Hid (stNode width (l, k, (a, o), bt, x, y) st = ((⟨#[69]⟩, ⟨#[]⟩, (0, 0), 0, ⟨#[]⟩, ⟨#[]⟩), (stTxt l.data.toList 1 st).2)) := if_pos h0
    rw [hb]
    clear hb h0
    have e0 : w1.cell? ⟨w.heap.size + 1, 0, none⟩ = some (.string ⟨#[]⟩) := cell_of_row _ _ _ _ _ _ RR1.out
    have e1 : w1.cell? ⟨w.heap.size + 1, 1, none⟩ = some (.string ⟨#[]⟩) := cell_of_row _ _ _ _ _ _ RR1.out
    have e2 : w1.cell? ⟨w.heap.size + 1, 2, none⟩ = some (.int .u64 0) := cell_of_row _ _ _ _ _ _ RR1.out
    have e3 : w1.cell? ⟨w.heap.size + 1, 3, none⟩ = some (.int .u8 0) := cell_of_row _ _ _ _ _ _ RR1.out
    have e4 : w1.cell? ⟨w.heap.size + 1, 4, none⟩ = some (.int .i64 0) := cell_of_row _ _ _ _ _ _ RR1.out
    have e5 : w1.cell? ⟨w.heap.size + 1, 5, none⟩ = some (.string ⟨#[]⟩) := cell_of_row _ _ _ _ _ _ RR1.out
    have e6 : w1.cell? ⟨w.heap.size + 1, 6, none⟩ = some (.string ⟨#[]⟩) := cell_of_row _ _ _ _ _ _ RR1.out
    have fR : ∀ j, w1.frozen? ⟨w.heap.size + 1, j, none⟩ = false := fun j => frozen_of_row _ _ _ _ _ RR1.out
    go_wp2
    rw [set7 _ _ _ _ _ _ _ _ _ _ _ _ _ _ _ _ _ RR1.out]
    refine bodyPost_ret (v := .agg (nodeC (⟨#[69]⟩, ⟨#[]⟩, (0, 0), 0, ⟨#[]⟩, ⟨#[]⟩))) (results_cell_row Tryz.results240 _ _ (w.heap.size + 1) _ _ (0, 0) _ rfl (setRow_heap _ _ _ _ _ _ RR1.out) Tryz.underlying281 rfl (by kernel_rfl)) rfl ⟨by rw [HS.out], ?_⟩
    rw [HS.out]
    exact RUN1.out.done (k := w.heap.size + 1) (by omega) (heap_alloc2_new _ _ _) (by decide)
  · by_cases h1 : (stTxt l.data.toList 1 st).1 = [76]
    · have hb : (⟨(stTxt l.data.toList 1 st).1.toArray⟩ : ByteArray) = ⟨#[76]⟩ := by rw [h1]
      have HS : Hid (stNode width (l, k, (a, o), bt, x, y) st = ((⟨#[76]⟩, ⟨(stLeaf width k (a, o) (stTxt l.data.toList 1 st).2).1.1.toArray⟩, (stLeaf width k (a, o) (stTxt l.data.toList 1 st).2).1.2, 0, ⟨#[]⟩, ⟨#[]⟩), (stLeaf width k (a, o) (stTxt l.data.toList 1 st).2).2)) := (if_neg h0).trans (if_pos h1)
      rw [hb]
      clear hb h0 h1
      go_wp2_with fail
      refine (leaf_st E b hb12 g1 width hw k a o ho _ _ RUN1.out.env RUN1.out.port (by omega)).mono ?_
      rintro _ w2 ⟨rfl, h⟩
      obtain ⟨g2, R2⟩ := RUN1.out.step h
      have RUN2 : Hid (Run _ _ _ _ _ _ _ _ _) := R2
      clear R2 h
      go_wp2_with fail
      refine (leafNode_any _ _ _ _).mono ?_
      rintro _ w3 ⟨rfl, h⟩
      have R3 := RUN2.out.next h
      have rR := (R3.box (k := w.heap.size + 1) (by omega) (heap_alloc2_new _ _ _)).1
      have e0 : w3.cell? ⟨w.heap.size + 1, 0, none⟩ = some (.string ⟨#[]⟩) := cell_of_row _ _ _ _ _ _ rR
      have e1 : w3.cell? ⟨w.heap.size + 1, 1, none⟩ = some (.string ⟨#[]⟩) := cell_of_row _ _ _ _ _ _ rR
      have e2 : w3.cell? ⟨w.heap.size + 1, 2, none⟩ = some (.int .u64 0) := cell_of_row _ _ _ _ _ _ rR
      have e3 : w3.cell? ⟨w.heap.size + 1, 3, none⟩ = some (.int .u8 0) := cell_of_row _ _ _ _ _ _ rR
      have e4 : w3.cell? ⟨w.heap.size + 1, 4, none⟩ = some (.int .i64 0) := cell_of_row _ _ _ _ _ _ rR
      have e5 : w3.cell? ⟨w.heap.size + 1, 5, none⟩ = some (.string ⟨#[]⟩) := cell_of_row _ _ _ _ _ _ rR
      have e6 : w3.cell? ⟨w.heap.size + 1, 6, none⟩ = some (.string ⟨#[]⟩) := cell_of_row _ _ _ _ _ _ rR
      have fR : ∀ j, w3.frozen? ⟨w.heap.size + 1, j, none⟩ = false := fun j => frozen_of_row _ _ _ _ _ rR
      have RUN3 : Hid (Run _ _ _ _ _ _ _ _ _) := R3
      have RR3 : Hid (_ = _) := rR
      clear R3 rR h
      go_wp2
      rw [set7 _ _ _ _ _ _ _ _ _ _ _ _ _ _ _ _ _ RR3.out]
      refine bodyPost_ret (v := .agg #[.string ⟨#[76]⟩, .string _, .int .u64 _, .int .u8 _, .int .i64 0, .string ⟨#[]⟩, .string ⟨#[]⟩]) (results_cell_row Tryz.results240 _ _ (w.heap.size + 1) _ _ (0, 0) _ rfl (setRow_heap _ _ _ _ _ _ RR3.out) Tryz.underlying281 rfl (by kernel_rfl)) rfl ⟨by rw [HS.out]; rfl, ?_⟩
      rw [HS.out]
      exact RUN3.out.done (k := w.heap.size + 1) (by omega) (heap_alloc2_new _ _ _) (by decide)
    · by_cases h2 : (stTxt l.data.toList 1 st).1 = [78]
      · have hb : (⟨(stTxt l.data.toList 1 st).1.toArray⟩ : ByteArray) = ⟨#[78]⟩ := by rw [h2]
        have HS : Hid (stNode width (l, k, (a, o), bt, x, y) st = ((⟨#[78]⟩, ⟨#[]⟩, (0, 0), ((stBr width bt x y (stTxt l.data.toList 1 st).2).1.1 : Int), ⟨(stBr width bt x y (stTxt l.data.toList 1 st).2).1.2.1.toArray⟩, ⟨(stBr width bt x y (stTxt l.data.toList 1 st).2).1.2.2.toArray⟩), (stBr width bt x y (stTxt l.data.toList 1 st).2).2)) := (if_neg h0).trans ((if_neg h1).trans (if_pos h2))
        rw [hb]
        clear hb h0 h1 h2
        go_wp2_with fail
        refine (branch_st E b hb12 g1 width hw bt x y _ _ RUN1.out.env RUN1.out.port (by omega)).mono ?_
        rintro _ w2 ⟨rfl, h⟩
        obtain ⟨g2, R2⟩ := RUN1.out.step h
        have RUN2 : Hid (Run _ _ _ _ _ _ _ _ _) := R2
        clear R2 h
        go_wp2_with fail
        refine (branchNode_any _ _ _ _).mono ?_
        rintro _ w3 ⟨rfl, h⟩
        have R3 := RUN2.out.next h
        have rR := (R3.box (k := w.heap.size + 1) (by omega) (heap_alloc2_new _ _ _)).1
        have e0 : w3.cell? ⟨w.heap.size + 1, 0, none⟩ = some (.string ⟨#[]⟩) := cell_of_row _ _ _ _ _ _ rR
        have e1 : w3.cell? ⟨w.heap.size + 1, 1, none⟩ = some (.string ⟨#[]⟩) := cell_of_row _ _ _ _ _ _ rR
        have e2 : w3.cell? ⟨w.heap.size + 1, 2, none⟩ = some (.int .u64 0) := cell_of_row _ _ _ _ _ _ rR
        have e3 : w3.cell? ⟨w.heap.size + 1, 3, none⟩ = some (.int .u8 0) := cell_of_row _ _ _ _ _ _ rR
        have e4 : w3.cell? ⟨w.heap.size + 1, 4, none⟩ = some (.int .i64 0) := cell_of_row _ _ _ _ _ _ rR
        have e5 : w3.cell? ⟨w.heap.size + 1, 5, none⟩ = some (.string ⟨#[]⟩) := cell_of_row _ _ _ _ _ _ rR
        have e6 : w3.cell? ⟨w.heap.size + 1, 6, none⟩ = some (.string ⟨#[]⟩) := cell_of_row _ _ _ _ _ _ rR
        have fR : ∀ j, w3.frozen? ⟨w.heap.size + 1, j, none⟩ = false := fun j => frozen_of_row _ _ _ _ _ rR
        have RUN3 : Hid (Run _ _ _ _ _ _ _ _ _) := R3
        have RR3 : Hid (_ = _) := rR
        clear R3 rR h
        go_wp2
        rw [set7 _ _ _ _ _ _ _ _ _ _ _ _ _ _ _ _ _ RR3.out]
        refine bodyPost_ret (v := .agg #[.string ⟨#[78]⟩, .string ⟨#[]⟩, .int .u64 0, .int .u8 0, .int .i64 _, .string _, .string _]) (results_cell_row Tryz.results240 _ _ (w.heap.size + 1) _ _ (0, 0) _ rfl (setRow_heap _ _ _ _ _ _ RR3.out) Tryz.underlying281 rfl (by kernel_rfl)) rfl ⟨by rw [HS.out]; rfl, ?_⟩
        rw [HS.out]
        exact RUN3.out.done (k := w.heap.size + 1) (by omega) (heap_alloc2_new _ _ _) (by decide)
      · have HS : Hid (stNode width (l, k, (a, o), bt, x, y) st = (zNode, none)) := (if_neg h0).trans ((if_neg h1).trans (if_neg h2))
        have b0 := HN0.out 69 h0
        have b1 := HN0.out 76 h1
        have b2 := HN0.out 78 h2
        clear h0 h1 h2 HN0
        generalize (⟨(stTxt l.data.toList 1 st).1.toArray⟩ : ByteArray) = tb at *
        go_wp2_with fail
        refine (refuse_st E b g1 width _ _ _ RUN1.out.env RUN1.out.port).mono ?_
        rintro _ w2 ⟨rfl, h⟩
        obtain ⟨g2, R2⟩ := RUN1.out.step h
        have rR := (R2.box (k := w.heap.size + 1) (by omega) (heap_alloc2_new _ _ _)).1
        have e0 : w2.cell? ⟨w.heap.size + 1, 0, none⟩ = some (.string ⟨#[]⟩) := cell_of_row _ _ _ _ _ _ rR
        have e1 : w2.cell? ⟨w.heap.size + 1, 1, none⟩ = some (.string ⟨#[]⟩) := cell_of_row _ _ _ _ _ _ rR
        have e2 : w2.cell? ⟨w.heap.size + 1, 2, none⟩ = some (.int .u64 0) := cell_of_row _ _ _ _ _ _ rR
        have e3 : w2.cell? ⟨w.heap.size + 1, 3, none⟩ = some (.int .u8 0) := cell_of_row _ _ _ _ _ _ rR
        have e4 : w2.cell? ⟨w.heap.size + 1, 4, none⟩ = some (.int .i64 0) := cell_of_row _ _ _ _ _ _ rR
        have e5 : w2.cell? ⟨w.heap.size + 1, 5, none⟩ = some (.string ⟨#[]⟩) := cell_of_row _ _ _ _ _ _ rR
        have e6 : w2.cell? ⟨w.heap.size + 1, 6, none⟩ = some (.string ⟨#[]⟩) := cell_of_row _ _ _ _ _ _ rR
        have fR : ∀ j, w2.frozen? ⟨w.heap.size + 1, j, none⟩ = false := fun j => frozen_of_row _ _ _ _ _ rR
        have RUN2 : Hid (Run _ _ _ _ _ _ _ _ _) := R2
        have RR2 : Hid (_ = _) := rR
        clear R2 rR h
        go_wp2
        rw [set7 _ _ _ _ _ _ _ _ _ _ _ _ _ _ _ _ _ RR2.out]
        refine bodyPost_ret (v := .agg #[.string ⟨#[]⟩, .string ⟨#[]⟩, .int .u64 0, .int .u8 0, .int .i64 0, .string ⟨#[]⟩, .string ⟨#[]⟩]) (results_cell_row Tryz.results240 _ _ (w.heap.size + 1) _ _ (0, 0) _ rfl (setRow_heap _ _ _ _ _ _ RR2.out) Tryz.underlying281 rfl (by kernel_rfl)) rfl ⟨by rw [HS.out]; rfl, ?_⟩
        rw [HS.out]
        exact RUN2.out.done (k := w.heap.size + 1) (by omega) (heap_alloc2_new _ _ _) (by decide)

set_option maxRecDepth 100000 in
set_option maxHeartbeats 400000 in
theorem nodeText_any (E : Nat → Addr) (width : Nat) (hw : width ≤ 1000) (n : NodeL) (ho : n.2.2.1.2 < 256) (w : World) (hE : Env E w) :
    Calls Tryz.prog 154 #[.agg (nodeC n), .int .i64 (width : Int)] w fun e w' => Tch (fun _ => False) w w' ∧ RetS E (stOut (stNode width n (some (.wr []))).2) e w' := by
  have hs := hE.size
  have HE : Hid (Env E w) := hE
  clear hE
  have HC : Hid (∀ W b, 18 ≤ b → Env E W → PortSt E W b none width (some (.wr [])) → _) := fun W b h12 hE hp => node_st E b h12 none width hw n ho (some (.wr [])) W hE hp (by show 0 ≤ _; omega)
  obtain ⟨l, k, ⟨a, o⟩, bt, x, y⟩ := n
  dsimp only at ho
  have HV : Hid (nodeC (l, k, (a, o), bt, x, y) = #[.string l, .string k, .int .u64 (a : Int), .int .u8 (o : Int), .int .i64 bt, .string x, .string y]) := rfl
  rw [HV.out] at HC ⊢
  go_enter Tryz.func154, Tryz.ntmps154
  go_wp2_with fail
  refine (newWriter_any _ _).mono ?_
  rintro _ w1 ⟨rfl, hp1, ht1⟩
  have tA : Tch (fun _ => False) w (w.alloc (.cells #[.string l, .string k, .int .u64 (a : Int), .int .u8 (o : Int), .int .i64 bt, .string x, .string y] 281)) := Tch.alloc _ _ _
  have hb : (w.alloc (.cells #[.string l, .string k, .int .u64 (a : Int), .int .u8 (o : Int), .int .i64 bt, .string x, .string y] 281)).heap.size = w.heap.size + 1 := by simp
  rw [hb] at hp1
  rw [hb]
  have r0 : w1.heap[w.heap.size]? = some (.cells #[.string l, .string k, .int .u64 (a : Int), .int .u8 (o : Int), .int .i64 bt, .string x, .string y] 281) := (ht1.block _ (by omega) (fun h => h)).trans (heap_alloc_new _ _)
  have d0 : w1.cell? ⟨w.heap.size, 0, none⟩ = some (.string l) := cell_of_row _ _ _ _ _ _ r0
  have d1 : w1.cell? ⟨w.heap.size, 1, none⟩ = some (.string k) := cell_of_row _ _ _ _ _ _ r0
  have d2 : w1.cell? ⟨w.heap.size, 2, none⟩ = some (.int .u64 (a : Int)) := cell_of_row _ _ _ _ _ _ r0
  have d3 : w1.cell? ⟨w.heap.size, 3, none⟩ = some (.int .u8 (o : Int)) := cell_of_row _ _ _ _ _ _ r0
  have d4 : w1.cell? ⟨w.heap.size, 4, none⟩ = some (.int .i64 bt) := cell_of_row _ _ _ _ _ _ r0
  have d5 : w1.cell? ⟨w.heap.size, 5, none⟩ = some (.string x) := cell_of_row _ _ _ _ _ _ r0
  have d6 : w1.cell? ⟨w.heap.size, 6, none⟩ = some (.string y) := cell_of_row _ _ _ _ _ _ r0
  have HT1 : Hid (Tch (fun _ => False) w w1.drew) := (tA.trans ht1 (fun _ h => h.elim)).trans (Tch.drewN (fun _ => False) w1 1) (fun _ h => h.elim)
  have HC1 : Hid (Calls Tryz.prog 240 _ w1.drew _) := HC.out w1.drew (w.heap.size + 1) (by omega) (HE.out.tch HT1.out (fun _ h => h.elim)) (PortSt.next (E := E) (st := some (.wr [])) hp1 (Tch.drewN _ w1 1))
  clear hp1 ht1 tA r0 hb HC
  go_wp2_with fail
  go_region_with (go_at_call 240; refine HC1.out.mono ?_; rintro _ w2 ⟨rfl, g2, hp2, hm2, ht2⟩; have HP2 : Hid (PortSt _ _ _ _ _ _) := hp2; have HT2 : Hid (Tch _ _ w2) := ht2; clear hp2 hm2 ht2)
  all_goals
    have HR : Hid (Calls Tryz.prog 79 _ w2 _) := wdone_ret E (w.heap.size + 1) g2 width _ (stNode_wr stWr_new) w2 HP2.out
    have HT3 : Hid (Tch (fun _ => False) w w2) := fresh_wr2 (b := w.heap.size + 1) (by omega) HT1.out HT2.out
    clear HP2 HT1 HT2 d0 d1 d2 d3 d4 d5 d6 HC1
    go_wp2_with fail
    refine HR.out.mono ?_
    rintro _ w3 ⟨ht3, hr⟩
    have HR3 : Hid (RetS _ _ _ _) := hr
    have HT4 : Hid (Tch _ _ _) := ht3
    clear ht3 HR
    rcases hr.cases with ⟨d, hd, rfl⟩ | ⟨hn, t, u, rfl, he⟩
    all_goals
      clear hr
      go_wp2
      go_ret2
      exact ⟨HT3.out.trans HT4.out (fun _ h => h.elim), HR3.out⟩
end Go.Proofs.YtighkdnooglfjaaGreatDoor
