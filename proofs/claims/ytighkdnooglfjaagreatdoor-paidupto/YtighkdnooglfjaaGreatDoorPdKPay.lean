/-
  The contract of (*trovekeep.Shop).tx: whatever a payment's raw numbers are, it is a transaction.
-/
import Derived.Test.YtighkdnooglfjaaGreatDoorPdKRow
import Derived.Test.YtighkdnooglfjaaGreatDoorPdKApp
import Derived.Test.YtighkdnooglfjaaGreatDoorPdKLast
namespace Go.Proofs.YtighkdnooglfjaaGreatDoor
open Go.RowKit

/-- A list of numbers in memory. -/
def NumsAt (w : World) (v : Value) (l : List Nat) : Prop :=
  ((∃ a c, v = .slice a 0 c) ∧ l = []) ∨ ∃ g o c, v = .slice (some ⟨g, o, none⟩) l.length c ∧ g < w.heap.size ∧ ∀ i (h : i < l.length), w.cell? ⟨g, o + i, none⟩ = some (.int .u64 ((l[i] : Nat) : Int))
theorem NumsAt.tch {w w' : World} {v : Value} {l : List Nat} (h : NumsAt w v l) (k : Tch (fun _ => False) w w') : NumsAt w' v l := by
  rcases h with h | ⟨gi, oi, c, hv, h2, h3⟩
  · exact .inl h
  · refine .inr ⟨gi, oi, c, hv, Nat.lt_of_lt_of_le h2 k.size, fun i hi => ?_⟩
    rw [k.cell (p := ⟨gi, oi + i, none⟩) h2 (fun e => e)]; exact h3 i hi
theorem NumsAt.shape {w : World} {v : Value} {l : List Nat} (h : NumsAt w v l) : ∃ a c, v = .slice a l.length c := by
  rcases h with ⟨⟨a, c, rfl⟩, rfl⟩ | ⟨gi, oi, c, rfl, _⟩
  · exact ⟨a, c, rfl⟩
  · exact ⟨_, _, rfl⟩
/-- A payment's raw numbers. -/
structure PayL where
  from_ : Int
  many : Int
  amounts : List Nat
  owner : Nat
  wild : Bool
  other : Bool
structure PayL.Ok (p : PayL) : Prop where
  f1 : -9223372036854775808 ≤ p.from_
  f2 : p.from_ < 9223372036854775808
  m1 : -9223372036854775808 ≤ p.many
  m2 : p.many < 9223372036854775808
  amounts : ∀ x ∈ p.amounts, x < 18446744073709551616
  owner : p.owner < 256
  len : p.amounts.length < 1000000000
/-- What 'tx' answers. -/
def ToTx (width : Nat) (w : World) (e : Ending) (w' : World) : Prop :=
  Tch (fun _ => False) w w' ∧ ∃ t v1 v2, e = .returned (.agg #[v1, v2]) ∧ TxOk width t ∧ COwn w.heap.size w' v1 t.1 ∧ OOwn w.heap.size w' v2 t.2
/-- The payment, the answer's place and the transaction's, in memory. -/
structure Fr (w : World) (pay : Array Value) (vI vO : Value) (wr : World) : Prop where
  pay : wr.heap[w.heap.size]? = some (.cells pay 102)
  res : wr.heap[w.heap.size + 1]? = some (.cells #[.slice none 0 0, .slice none 0 0] 98)
  tx : wr.heap[w.heap.size + 1 + 1]? = some (.cells #[vI, vO] 98)
  tch : Tch (fun _ => False) w wr
theorem Fr.start (w : World) (pay : Array Value) : Fr w pay (.slice none 0 0) (.slice none 0 0) (((w.alloc (.cells pay 102)).alloc (.cells #[.slice none 0 0, .slice none 0 0] 98)).alloc (.cells #[.slice none 0 0, .slice none 0 0] 98)) := by
  have t3 := Tch.alloc (fun _ => False) ((w.alloc (.cells pay 102)).alloc (.cells #[.slice none 0 0, .slice none 0 0] 98)) (.cells #[.slice none 0 0, .slice none 0 0] 98)
  refine ⟨(t3.block _ (by simp; omega) (fun h => h)).trans (heap_alloc2_old _ _ _), (t3.block _ (by simp) (fun h => h)).trans (heap_alloc2_new _ _ _), ?_, ((Tch.alloc (fun _ => False) w _).trans (Tch.alloc (fun _ => False) _ _) (fun _ h => .inl h)).trans t3 (fun _ h => .inl h)⟩
  have := heap_alloc_new ((w.alloc (.cells pay 102)).alloc (.cells #[.slice none 0 0, .slice none 0 0] 98)) (.cells #[.slice none 0 0, .slice none 0 0] 98)
  simpa using this
theorem Fr.size {w wr : World} {pay : Array Value} {vI vO : Value} (h : Fr w pay vI vO wr) : w.heap.size + 3 ≤ wr.heap.size := by
  have := (Array.getElem?_eq_some_iff.1 h.tx).1; omega
theorem Fr.next {w wr w' : World} {pay : Array Value} {vI vO : Value} (h : Fr w pay vI vO wr) {S : Nat → Prop} (k : Tch S wr w') (hs : ∀ j, S j → w.heap.size + 3 ≤ j) : Fr w pay vI vO w' := by
  have hz := h.size
  exact ⟨(k.block _ (by omega) (fun e => by have := hs _ e; omega)).trans h.pay, (k.block _ (by omega) (fun e => by have := hs _ e; omega)).trans h.res, (k.block _ (by omega) (fun e => by have := hs _ e; omega)).trans h.tx, h.tch.trans k (fun j hj => .inr (by have := hs j hj; omega))⟩
theorem Fr.set {w wr : World} {pay : Array Value} {vI vO : Value} (h : Fr w pay vI vO wr) (vI' vO' : Value) : Fr w pay vI' vO' (wr.setRow (w.heap.size + 1 + 1) #[vI', vO']) :=
  ⟨(setRow_other _ _ _ _ (by omega)).trans h.pay, (setRow_other _ _ _ _ (by omega)).trans h.res, setRow_heap _ _ _ _ _ _ h.tx, h.tch.trans (Tch.setRow wr (w.heap.size + 1 + 1) _) (fun j hj => by subst hj; exact .inr (by omega))⟩
theorem Fr.all {w W : World} {f m a o b1 b2 vI vO : Value} {xb : Nat} {x : Value} (hx : w.cell? ⟨xb, 1, none⟩ = some x) (h : Fr w #[f, m, a, o, b1, b2] vI vO W) : W.cell? ⟨xb, 1, none⟩ = some x ∧ W.cell? ⟨w.heap.size, 0, none⟩ = some f ∧ W.cell? ⟨w.heap.size + 1 + 1, 0, none⟩ = some vI ∧ Fr w #[f, m, a, o, b1, b2] vI vO W :=
  ⟨(h.tch.cell (p := ⟨xb, 1, none⟩) (World.block_lt_of_cell? _ _ hx) (fun e => e)).trans hx, cell_of_row _ _ _ _ _ _ h.pay, cell_of_row _ _ _ _ _ _ h.tx, h⟩
structure TS (w : World) (pay : Array Value) (vI : Value) (cs : List (ByteArray × Int)) (W : World) : Prop where
  fr : Fr w pay vI (.slice none 0 0) W
  own : COwn (w.heap.size + 3) W vI cs
theorem TS.next {w W W' : World} {pay : Array Value} {vI : Value} {cs : List (ByteArray × Int)} (h : TS w pay vI cs W) (k : Tch (fun _ => False) W W') : TS w pay vI cs W' := ⟨h.fr.next k (fun _ h => h.elim), h.own.tch k (fun _ _ h => h)⟩
theorem TS.grownS {W W' : World} {n c : Nat} (h : World.grownBy W W' (Value.slice none n c).ownBlock) : Tch (fun _ => False) W W' := (Tch.grown h).mono (fun j hj => by cases hj)
theorem TS.stored {w w1 : World} {pay : Array Value} {vI v1 : Value} {cs cs1 : List (ByteArray × Int)} (h : TS w pay vI cs w1) (ho : COwn (w.heap.size + 3) w1 v1 cs1) : TS w pay v1 cs1 (w1.setCell ⟨w.heap.size + 1 + 1, 0, none⟩ v1) := by
  rw [setCell_eq_setRow w1 (w.heap.size + 1 + 1) 0 _ _ _ v1 h.fr.tx]
  exact ⟨h.fr.set v1 (.slice none 0 0), ho.tch (Tch.setRow w1 _ _) (fun j hj e => by have := (ho.own j hj).1; omega)⟩
/-- What an append to a first part of the coins leaves: the frame (the coins themselves may have been written over). -/
theorem TS.grownF {w W w1 : World} {pay : Array Value} {a : Option Addr} {n c m : Nat} {cs : List (ByteArray × Int)} {o : Obj} (h : TS w pay (.slice a n c) cs W) (hg : World.grownBy (W.alloc o) w1 (Value.slice a m c).ownBlock) : Fr w pay (.slice a n c) (.slice none 0 0) w1 :=
  (h.fr.next (Tch.alloc (fun _ => False) W o) (fun _ h => h.elim)).next (Tch.grown hg) (fun j hj => (h.own.own j (by rw [← hj.symm]; cases a <;> rfl)).1)
theorem TSE.storedF {w w1 : World} {pay : Array Value} {vI v1 : Value} {cs1 : List (ByteArray × Int)} (h : Fr w pay vI (.slice none 0 0) w1) (ho : COwn (w.heap.size + 3) w1 v1 cs1) : TS w pay v1 cs1 (w1.setCell ⟨w.heap.size + 1 + 1, 0, none⟩ v1) := by
  rw [setCell_eq_setRow w1 (w.heap.size + 1 + 1) 0 _ _ _ v1 h.tx]
  exact ⟨h.set v1 (.slice none 0 0), ho.tch (Tch.setRow w1 _ _) (fun j hj e => by have := (ho.own j hj).1; omega)⟩
theorem setTwo (w : World) (g : Nat) (t : TypeId) (a b v0 v1 : Value) (h : w.heap[g]? = some (.cells #[a, b] t)) : (w.setCell ⟨g, 0, none⟩ v0).setCell ⟨g, 1, none⟩ v1 = w.setRow g #[v0, v1] := by
  rw [setCell_eq_setRow w g 0 _ t (0, 0) v0 h, setCell_eq_setRow _ g 1 _ t (0, 0) v1 (setRow_heap _ _ _ _ _ _ h), setRow_setRow]
  rfl
theorem COwn.low {b b' : Nat} {w : World} {v : Value} {l : List (ByteArray × Int)} (h : COwn b w v l) (hb : b' ≤ b) : COwn b' w v l := by
  obtain ⟨h1, ⟨rfl, h0⟩ | ⟨g, cap, cur, rfl, hg, h2⟩⟩ := h
  · exact ⟨h1, .inl ⟨rfl, h0⟩⟩
  · exact ⟨h1, .inr ⟨g, cap, cur, rfl, Nat.le_trans hb hg, h2⟩⟩
theorem OOwn.low {b b' : Nat} {w : World} {v : Value} {l : List (Nat × Nat)} (h : OOwn b w v l) (hb : b' ≤ b) : OOwn b' w v l := by
  obtain ⟨h1, ⟨rfl, h0⟩ | ⟨g, cap, cur, rfl, hg, h2⟩⟩ := h
  · exact ⟨h1, .inl ⟨rfl, h0⟩⟩
  · exact ⟨h1, .inr ⟨g, cap, cur, rfl, Nat.le_trans hb hg, h2⟩⟩
theorem coin_out_apart {b b' : Nat} {w : World} {v v2 : Value} {cs : List (ByteArray × Int)} {os : List (Nat × Nat)} (h : COwn b w v cs) (h2 : OOwn b' w v2 os) : ∀ j, v.ownBlock = some j → ¬ v2.ownBlock = some j := by
  intro j hj hj2
  obtain ⟨_, ⟨rfl, _⟩ | ⟨g, cap, cur, rfl, _, hrow, _⟩⟩ := h
  · cases hj
  obtain ⟨_, ⟨rfl, _⟩ | ⟨g', cap', cur', rfl, _, hrow', _⟩⟩ := h2
  · cases hj2
  cases hj
  cases hj2
  rw [hrow] at hrow'
  simp at hrow'
set_option maxRecDepth 100000 in
set_option maxHeartbeats 40000000 in
theorem k_tx (E : Nat → Addr) (width : Nat) (hw1 : 1 ≤ width) (hw : width ≤ 32) (xb : Nat) (v : Value) (l : List Held) (p : PayL) (va : Value) (w : World) (hE : Env E w) (hx : w.cell? ⟨xb, 1, none⟩ = some (.int .i64 (width : Int))) (h : HeldAt w v l) (hl : l.length ≤ 900000000) (hlo : ∀ x ∈ l, CoinOk width x.1 ∧ OutOk x.2) (hp : p.Ok) (ha : NumsAt w va p.amounts) :
    Calls Tryz.prog 43 #[.pointer (some ⟨xb, 0, none⟩), v, .agg #[.int .i64 p.from_, .int .i64 p.many, va, .int .u8 (p.owner : Int), .bool p.wild, .bool p.other]] w (ToTx width w) := by
  obtain ⟨a0, c0, rfl⟩ := h.shape
  obtain ⟨a1, c1, rfl⟩ := ha.shape
  obtain ⟨fr, mn, am, ow, wi, ot⟩ := p
  simp only at ha
  have H : Hid (HeldAt _ _ _) := h
  have HA : Hid (NumsAt _ _ _) := ha
  have HE : Hid (Env E w) := hE
  have HLO : Hid (∀ x ∈ l, CoinOk width x.1 ∧ OutOk x.2) := hlo
  have HX : Hid (w.cell? ⟨xb, 1, none⟩ = some (.int .i64 (width : Int))) := hx
  have HP : Hid (PayL.Ok _) := hp
  clear h ha hE hlo hx hp
  have hPM : Hid (∀ W, Calls Tryz.prog 22 #[.int .i64 mn, .int .i64 ((3 : Nat) : Int)] W _) := fun W => k_pick mn 3 W HP.out.m1 HP.out.m2 (by omega) (by omega)
  have hPF : Hid (∀ W, Calls Tryz.prog 22 #[.int .i64 fr, .int .i64 1073741824] W fun e w' => (∃ r : Nat, Hid (r < 1073741824) ∧ e = .returned (.int .i64 (r : Int))) ∧ w' = W) := fun W => by
    have := k_pick fr 1073741824 W HP.out.f1 HP.out.f2 (by omega) (by omega)
    have e : ((1073741824 : Nat) : Int) = 1073741824 := by decide
    rw [e] at this
    exact this
  have hPG : Hid (∀ W, Calls Tryz.prog 22 #[.int .i64 fr, .int .i64 ((3 : Nat) : Int)] W _) := fun W => k_pick fr 3 W HP.out.f1 HP.out.f2 (by omega) (by omega)
  go_enter Tryz.func43, Tryz.ntmps43
  go_wp2
  go_loopw [8, 9] (fun vl i wr => ∃ (k s : Nat) (cs : List (ByteArray × Int)) (vI : Value), k ≤ 3 ∧ i = .int .i64 k ∧ vl = .int .u64 (s : Int) ∧ Hid (s < 18446744073709551616) ∧ Hid (COwn (w.heap.size + 3) wr vI cs) ∧ Hid (cs.length = k) ∧ Hid (∀ c ∈ cs, CoinOk width c) ∧ Hid (Fr w #[.int .i64 fr, .int .i64 mn, .slice a1 am.length c1, .int .u8 (ow : Int), .bool wi, .bool ot] vI (.slice none 0 0) wr)) (fun _ i _ => 3 - (intOf i).toNat)
  case atStart =>
    exact ⟨0, 0, [], .slice none 0 0, by omega, rfl, rfl, (by decide : (0 : Nat) < 18446744073709551616), COwn.nil _ _, rfl, (fun c hc => (List.not_mem_nil hc).elim : ∀ c ∈ ([] : List (ByteArray × Int)), CoinOk width c), Fr.start w _⟩
  case round =>
    obtain ⟨k, sm, cs, vI, hk, rfl, rfl, HSM, HCO, HCL, HCC, HF⟩ := hrel
    obtain ⟨va, vc, rfl⟩ := HCO.out.shape
    have d1 : wr.cell? ⟨w.heap.size, 1, none⟩ = some (.int .i64 mn) := cell_of_row _ _ _ _ _ _ HF.out.pay
    have d0 : wr.cell? ⟨w.heap.size, 0, none⟩ = some (.int .i64 fr) := cell_of_row _ _ _ _ _ _ HF.out.pay
    go_upto_region 4 with fail
    go_cut [24] (fun vb wx => ∃ b : Bool, vb = .bool b ∧ wx = wr ∧ (b = true → k < 3 ∧ k < l.length))
    case first =>
      go_wp2_with (go_at_call 22; refine (hPM.out _).mono ?_; rintro _ _ ⟨⟨r, hr, rfl⟩, rfl⟩)
      all_goals go_meet
      all_goals first | exact ⟨false, rfl, rfl, fun h => by cases h⟩ | exact ⟨_, rfl, rfl, fun h => ⟨by omega, by simpa using h⟩⟩
    case rest =>
    obtain ⟨b, rfl, rfl, hb⟩ := hcut
    obtain ⟨wA, hwA⟩ : ∃ wA, wA = wc := ⟨wc, rfl⟩
    subst hwA
    cases b with
    | true =>
      obtain ⟨hk3, hkl⟩ := hb rfl
      clear hb
      have hPL : Hid (∀ (r : Nat), Hid (r < 1073741824) → ∀ W, Calls Tryz.prog 22 #[.int .i64 ((r : Int) + (k : Int)), .int .i64 (l.length : Int)] W _) := fun r hr W => k_pick ((r : Int) + (k : Int)) l.length W (by omega) (by have := hr.out; omega) (by omega) (by omega)
      have hWR : Hid (∀ (r : Nat), Hid (r < 1073741824) → wrap64 ((r : Int) + (k : Int)) = (r : Int) + (k : Int)) := fun r hr => by have := hr.out; unfold wrap64; omega
      rcases H.out with ⟨_, e2⟩ | ⟨g0, o0, cc, e, hg0, hcell⟩
      · rw [e2] at hkl; simp at hkl
      simp only [Value.slice.injEq, true_and] at e
      obtain ⟨rfl, rfl⟩ := e
      have HHC : Hid (∀ r (hr : r < l.length), wA.cell? ⟨g0, o0 + r * 4, none⟩ = some (.string l[r].1.1) ∧ wA.cell? ⟨g0, o0 + r * 4 + 1, none⟩ = some (.int .i64 l[r].1.2) ∧ wA.cell? ⟨g0, o0 + r * 4 + 2, none⟩ = some (.int .u64 ((l[r].2.1 : Nat) : Int)) ∧ wA.cell? ⟨g0, o0 + r * 4 + 3, none⟩ = some (.int .u8 ((l[r].2.2 : Nat) : Int))) := by
        intro r hr
        have hc : ∀ o, wA.cell? ⟨g0, o, none⟩ = w.cell? ⟨g0, o, none⟩ := fun o => HF.out.tch.cell (p := ⟨g0, o, none⟩) hg0 (fun e => e)
        rw [hc, hc, hc, hc]; exact hcell r hr
      clear hcell hg0
      go_wp2_with fail
      refine (hPF.out _).mono ?_
      rintro _ w' ⟨⟨r1, hr1, rfl⟩, hw'⟩
      obtain rfl : wA = w' := hw'.symm
      have hw64 := hWR.out r1 hr1
      go_wp2_with fail
      refine (hPL.out r1 hr1 _).mono ?_
      rintro _ w' ⟨⟨r2, hr2, rfl⟩, hw'⟩
      obtain rfl : wA = w' := hw'.symm
      obtain ⟨q0, q1, q2, q3⟩ := HHC.out r2 hr2
      have hr2i : (r2 : Int) < (l.length : Int) := by omega
      have HC2 : Hid (CoinOk width l[r2].1 ∧ OutOk l[r2].2) := HLO.out _ (List.getElem_mem hr2)
      clear HHC hPL hWR hw64 d0 d1
      generalize l[r2] = x at *
      obtain ⟨⟨xs, xn⟩, ⟨xa, xo⟩⟩ := x
      simp only at q0 q1 q2 q3
      go_upto_region 7 with fail
      have HFH : Hid (Fr w #[.int .i64 fr, .int .i64 mn, .slice a1 am.length c1, .int .u8 (ow : Int), .bool wi, .bool ot] (.slice va cs.length vc) (.slice none 0 0) (wA.alloc (.cells #[.string xs, .int .i64 xn, .int .u64 (xa : Int), .int .u8 (xo : Int)] 87))) := HF.out.next (Tch.alloc (fun _ => False) wA _) (fun _ h => h.elim)
      have HCH : Hid (COwn (w.heap.size + 3) (wA.alloc (.cells #[.string xs, .int .i64 xn, .int .u64 (xa : Int), .int .u8 (xo : Int)] 87)) (.slice va cs.length vc) cs) := HCO.out.tch (Tch.alloc (fun _ => False) wA _) (fun _ _ h => h)
      have t0 : (wA.alloc (.cells #[.string xs, .int .i64 xn, .int .u64 (xa : Int), .int .u8 (xo : Int)] 87)).cell? ⟨w.heap.size + 1 + 1, 0, none⟩ = some (.slice va cs.length vc) := cell_of_row _ _ _ _ _ _ HFH.out.tx
      have RH : Hid ((wA.alloc (.cells #[.string xs, .int .i64 xn, .int .u64 (xa : Int), .int .u8 (xo : Int)] 87)).heap[wA.heap.size]? = some (.cells #[.string xs, .int .i64 xn, .int .u64 (xa : Int), .int .u8 (xo : Int)] 87)) := heap_alloc_new _ _
      have HSZ : Hid (w.heap.size + 3 ≤ wA.heap.size) := HF.out.size
      have HNC : Hid (CoinsAt (wA.heap.size + 1 + 1) ((wA.alloc (.cells #[.string xs, .int .i64 xn, .int .u64 (xa : Int), .int .u8 (xo : Int)] 87)).alloc (.cells #[.string xs, .int .i64 xn] 49)) (.slice (some ⟨wA.heap.size + 1, 0, none⟩) 1 1) [(xs, xn)]) := by
        have := new_coin (wA.alloc (.cells #[.string xs, .int .i64 xn, .int .u64 (xa : Int), .int .u8 (xo : Int)] 87)) (xs, xn)
        have e : (wA.alloc (.cells #[.string xs, .int .i64 xn, .int .u64 (xa : Int), .int .u8 (xo : Int)] 87)).heap.size = wA.heap.size + 1 := by simp
        rw [e] at this
        exact this
      have HFN : Hid (∀ w1 v1, COwn (w.heap.size + 3) w1 v1 (cs ++ [(xs, xn)]) → World.grownBy ((wA.alloc (.cells #[.string xs, .int .i64 xn, .int .u64 (xa : Int), .int .u8 (xo : Int)] 87)).alloc (.cells #[.string xs, .int .i64 xn] 49)) w1 (Value.slice va cs.length vc).ownBlock →
          Fr w #[.int .i64 fr, .int .i64 mn, .slice a1 am.length c1, .int .u8 (ow : Int), .bool wi, .bool ot] (.slice va cs.length vc) (.slice none 0 0) w1 ∧ w1.heap[wA.heap.size]? = some (.cells #[.string xs, .int .i64 xn, .int .u64 (xa : Int), .int .u8 (xo : Int)] 87)) := by
        intro w1 v1 _ hg
        have tA := Tch.alloc (fun _ => False) (wA.alloc (.cells #[.string xs, .int .i64 xn, .int .u64 (xa : Int), .int .u8 (xo : Int)] 87)) (.cells #[.string xs, .int .i64 xn] 49)
        refine ⟨(HFH.out.next tA (fun _ h => h.elim)).next (Tch.grown hg) (fun j hj => (HCO.out.own j hj.symm).1), (hg.block _ (by simp; omega) (fun e => ?_)).trans ((tA.block _ (by simp) (fun h => h)).trans RH.out)⟩
        have := (HCO.out.own _ e.symm).2; omega
      clear HF HCO q0 q1 q2 q3
      go_cut [] (fun wx => ∃ v1, Hid (COwn (w.heap.size + 3) wx v1 (cs ++ [(xs, xn)])) ∧ Hid (Fr w #[.int .i64 fr, .int .i64 mn, .slice a1 am.length c1, .int .u8 (ow : Int), .bool wi, .bool ot] v1 (.slice none 0 0) wx) ∧ Hid (wx.heap[wA.heap.size]? = some (.cells #[.string xs, .int .i64 xn, .int .u64 (xa : Int), .int .u8 (xo : Int)] 87)))
      case first =>
        go_wp2_with (at_builtin; (refine wpList_append_coin rfl _ _ rfl rfl (HCH.out.tch (Tch.alloc (fun _ => False) _ _) (fun _ _ h => h)) _ _ [(xs, xn)] rfl HNC.out (by have := HCL.out; simp; omega) (by have := HSZ.out; simp; omega) ?_); intro v1 w1 hown1 hg1; obtain ⟨hf1, hh1⟩ := HFN.out w1 v1 hown1 hg1; have HO1 : Hid (COwn _ w1 v1 _) := hown1; have t1 : w1.cell? ⟨w.heap.size + 1 + 1, 0, none⟩ = some (.slice va cs.length vc) := cell_of_row _ _ _ _ _ _ hf1.tx; have t2 : w1.frozen? ⟨w.heap.size + 1 + 1, 0, none⟩ = false := frozen_of_row _ _ _ _ _ hf1.tx; have HF1 : Hid (Fr _ _ _ _ w1) := hf1; have HH1 : Hid (_ = _) := hh1; clear hown1 hg1 hf1 hh1; obtain ⟨b1, m1, e1, hv1⟩ := HO1.out.shape3; subst hv1)
        go_meet
        have hset := setCell_eq_setRow w1 (w.heap.size + 1 + 1) 0 _ _ _ (.slice b1 m1 e1) HF1.out.tx
        refine ⟨.slice b1 m1 e1, ?_, ?_, ?_⟩
        · rw [hset]
          exact HO1.out.tch (Tch.setRow w1 _ _) (fun j hj e => by have := (HO1.out.own j hj).1; omega)
        · rw [hset]; exact HF1.out.set (.slice b1 m1 e1) (.slice none 0 0)
        · rw [hset]; have := HSZ.out; exact (setRow_other _ _ _ _ (by omega)).trans HH1.out
      case rest =>
      obtain ⟨v1, HO1, HF1, HH1⟩ := hcut
      obtain ⟨wB, hwB⟩ : ∃ wB, wB = wc := ⟨wc, rfl⟩
      subst hwB
      have h2 : wB.cell? ⟨wA.heap.size, 2, none⟩ = some (.int .u64 (xa : Int)) := cell_of_row _ _ _ _ _ _ HH1.out
      obtain ⟨s2, hs2⟩ : ∃ s2 : Nat, (sm + xa) % M64 = s2 := ⟨_, rfl⟩
      have hwr : IntKind.u64.wrap ((sm : Int) + (xa : Int)) = (s2 : Int) := by rw [← hs2]; simp [IntKind.wrap, IntKind.bits, IntKind.signed, M64]
      have HS2 : Hid (s2 < 18446744073709551616) := (by rw [← hs2]; exact Nat.mod_lt _ (by decide) : s2 < 18446744073709551616)
      clear hs2 t0
      go_wp2
      go_roundw
      case rel => exact ⟨k + 1, s2, cs ++ [(xs, xn)], v1, by omega, by go_num, rfl, HS2.out, HO1.out, (by have := HCL.out; simp; omega : (cs ++ [(xs, xn)]).length = k + 1), (by intro c hc; rw [List.mem_append, List.mem_singleton] at hc; rcases hc with hc | rfl; exact HCC.out c hc; exact HC2.out.1 : ∀ c ∈ cs ++ [(xs, xn)], CoinOk width c), HF1.out⟩
      case measure => simp [intOf]; omega
    | false =>
      clear hb d0 d1
      have e5 : wA.cell? ⟨w.heap.size, 5, none⟩ = some (.bool ot) := cell_of_row _ _ _ _ _ _ HF.out.pay
      have t0 : wA.cell? ⟨w.heap.size + 1 + 1, 0, none⟩ = some (.slice va cs.length vc) := cell_of_row _ _ _ _ _ _ HF.out.tx
      have HL3 : Hid (cs.length ≤ 3) := (by have := HCL.out; omega : cs.length ≤ 3)
      go_upto_region 9 with fail
      go_cut [57] (fun vb wx => ∃ b : Bool, vb = .bool b ∧ wx = wA ∧ (b = false → ¬ cs.length = 0))
      case first =>
        by_cases h0 : cs.length = 0
        · have h0i : (cs.length : Int) = 0 := by omega
          go_wp2
          go_meet
          exact ⟨true, rfl, rfl, fun h => by cases h⟩
        · have h0i : ¬ (cs.length : Int) = 0 := by omega
          go_wp2
          go_meet
          exact ⟨_, rfl, rfl, fun _ => h0⟩
      case rest =>
      obtain ⟨b, rfl, rfl, hb⟩ := hcut
      obtain ⟨wB, hwB⟩ : ∃ wB, wB = wc := ⟨wc, rfl⟩
      subst hwB
      have HB : Hid (b = false → ¬ cs.length = 0) := hb
      clear hb
      go_upto_if 57 with fail
      go_cut [] (fun wx => ∃ cs' v', Hid (COwn (w.heap.size + 3) wx v' cs') ∧ Hid (1 ≤ cs'.length ∧ cs'.length ≤ 3 ∧ ∀ c ∈ cs', CoinOk width c) ∧ Hid (Fr w #[.int .i64 fr, .int .i64 mn, .slice a1 am.length c1, .int .u8 (ow : Int), .bool wi, .bool ot] v' (.slice none 0 0) wx))
      case first =>
        cases b with
        | false =>
          go_wp2
          go_meet
          exact ⟨cs, _, HCO, ⟨by have := HB.out (by first | rfl | trivial); omega, HL3.out, HCC.out⟩, HF⟩
        | true =>
          have hxb := World.block_lt_of_cell? _ _ HX.out
          have HDG : Hid (∀ W, Tch (fun _ => False) w W → Calls Tryz.prog 39 #[.int .i64 (width : Int), .string ⟨#[110, 111, 32, 99, 111, 105, 110]⟩] W fun e w' => (∃ id : ByteArray, id.size = width ∧ e = .returned (.string id)) ∧ Tch (fun _ => False) W w') := fun W hW => by
            have hEW := HE.out.tch hW (fun _ h => h.elim)
            refine (k_digest width _ W hw1 hw (by decide) (Nat.lt_of_lt_of_le (by decide) hEW.size) hEW.table).mono ?_
            rintro _ w' ⟨rfl, ht⟩
            exact ⟨⟨_, dgW_size width hw _, rfl⟩, ht⟩
          have HTS : Hid (TS w #[.int .i64 fr, .int .i64 mn, .slice a1 am.length c1, .int .u8 (ow : Int), .bool wi, .bool ot] (.slice va cs.length vc) cs wB) := ⟨HF.out, HCO.out⟩
          have HVA : Hid ((va = none ∧ vc = 0 ∧ cs.length = 0) ∨ ∃ g, va = some ⟨g, 0, none⟩ ∧ cs.length ≤ vc) := by
            obtain ⟨_, ⟨hv, h0⟩ | ⟨g, cap, cur, hv, _, _, hc, _⟩⟩ := HCO.out
            · simp only [Value.slice.injEq] at hv; exact .inl ⟨hv.1, hv.2.2, h0⟩
            · simp only [Value.slice.injEq, true_and] at hv; exact .inr ⟨g, hv.1, by rw [hv.2]; exact hc⟩
          clear HF HCO t0 e5 HB HCL
          obtain ⟨n, hn⟩ : ∃ n, cs.length = n := ⟨_, rfl⟩
          rw [hn] at HTS HVA HL3
          have HN : Hid (cs.length = n) := hn
          clear hn
          have h3 := HL3.out
          go_wp2_with fail
          rcases HVA.out with ⟨rfl, rfl, rfl⟩ | ⟨g, rfl, hvc⟩
          · have HTS0 : Hid (TS w #[.int .i64 fr, .int .i64 mn, .slice a1 am.length c1, .int .u8 (ow : Int), .bool wi, .bool ot] (.slice none 0 0) cs wB.drew) := HTS.out.next (Tch.drewN _ wB 1)
            have c0 : wB.drew.cell? ⟨w.heap.size + 1 + 1, 0, none⟩ = some (.slice none 0 0) := cell_of_row _ _ _ _ _ _ HTS0.out.fr.tx
            have c0' : wB.cell? ⟨w.heap.size + 1 + 1, 0, none⟩ = some (.slice none 0 0) := c0
            as_aux_lemma =>
              have hz : IntKind.i64.wrap 0 = 0 := by decide
              refine wp_region_last_held (S := fun W => W.cell? ⟨xb, 1, none⟩ = some (.int .i64 (width : Int)) ∧ W.cell? ⟨w.heap.size, 0, none⟩ = some (.int .i64 fr) ∧ W.cell? ⟨w.heap.size + 1 + 1, 0, none⟩ = some (.slice none 0 0) ∧ Fr w #[.int .i64 fr, .int .i64 mn, .slice a1 am.length c1, .int .u8 (ow : Int), .bool wi, .bool ot] (.slice none 0 0) (.slice none 0 0) W) 0 (by simp) (by kernel_rfl) (by kernel_rfl) (Fr.all HX.out HTS0.out.fr) ?_
              intro hHeld l o hl ho
              simp only [List.dropLast_cons_cons, List.dropLast_singleton] at hl
              simp only [List.getLast_cons_cons, List.getLast_singleton] at ho
              subst hl
              subst ho
              simp only [List.length_cons, List.length_nil, Nat.reduceAdd]
              refine takeL (i := 0) (v := ?va0) rfl (by kernel_rfl) (by kernel_rfl) (by kernel_rfl) (fun _ _ _ h => h) rfl ?ha0 (by assumption) ?ra0
              case ha0 => (intro W hSW; (try dsimp only at hSW); go_simp; (try with_reducible rfl))
              simp only [Act.put, List.setIfInBounds_toArray, List.set_cons_zero, List.set_cons_succ]
              refine takeL (i := 1) (v := ?va1) rfl (by kernel_rfl) (by kernel_rfl) (by kernel_rfl) (fun _ _ _ h => h) rfl ?ha1 (by assumption) ?ra1
              case ha1 => (intro W hSW; (try dsimp only at hSW); go_simp; (try with_reducible rfl))
              simp only [Act.put, List.setIfInBounds_toArray, List.set_cons_zero, List.set_cons_succ]
              refine takeL (i := 2) (v := ?va2) rfl (by kernel_rfl) (by kernel_rfl) (by kernel_rfl) (fun _ _ _ h => h) rfl ?ha2 (by assumption) ?ra2
              case ha2 => (intro W hSW; (try dsimp only at hSW); go_simp; (try with_reducible rfl))
              simp only [Act.put, List.setIfInBounds_toArray, List.set_cons_zero, List.set_cons_succ]
              refine takeL (i := 3) (v := ?va3) rfl (by kernel_rfl) (by kernel_rfl) (by kernel_rfl) (fun _ _ _ h => h) rfl ?ha3 (by assumption) ?ra3
              case ha3 => (intro W hSW; (try dsimp only at hSW); go_simp; (try with_reducible rfl))
              simp only [Act.put, List.setIfInBounds_toArray, List.set_cons_zero, List.set_cons_succ]
              refine takeL (i := 4) (v := ?va4) rfl (by kernel_rfl) (by kernel_rfl) (by kernel_rfl) (fun _ _ _ h => h) rfl ?ha4 (by assumption) ?ra4
              case ha4 => (intro W hSW; (try dsimp only at hSW); go_simp; (try with_reducible rfl))
              simp only [Act.put, List.setIfInBounds_toArray, List.set_cons_zero, List.set_cons_succ]
              refine takeL (i := 5) (v := ?va5) rfl (by kernel_rfl) (by kernel_rfl) (by kernel_rfl) (fun _ _ _ h => h) rfl ?ha5 (by assumption) ?ra5
              case ha5 => (intro W hSW; (try dsimp only at hSW); go_simp; (try with_reducible rfl))
              simp only [Act.put, List.setIfInBounds_toArray, List.set_cons_zero, List.set_cons_succ]
              refine takeL (i := 6) (v := ?va6) rfl (by kernel_rfl) (by kernel_rfl) (by kernel_rfl) (fun _ _ _ h => h) rfl ?ha6 (by assumption) ?ra6
              case ha6 => (intro W hSW; (try dsimp only at hSW); go_simp; (try with_reducible rfl))
              simp only [Act.put, List.setIfInBounds_toArray, List.set_cons_zero, List.set_cons_succ]
              refine takeL (i := 7) (v := ?va7) rfl (by kernel_rfl) (by kernel_rfl) (by kernel_rfl) (fun _ _ _ h => h) rfl ?ha7 (by assumption) ?ra7
              case ha7 => (intro W hSW; (try dsimp only at hSW); go_simp; (try with_reducible rfl))
              simp only [Act.put, List.setIfInBounds_toArray, List.set_cons_zero, List.set_cons_succ]
              refine takeL (i := 8) (v := ?va8) rfl (by kernel_rfl) (by kernel_rfl) (by kernel_rfl) (fun _ _ _ h => h) rfl ?ha8 (by assumption) ?ra8
              case ha8 => (intro W hSW; (try dsimp only at hSW); go_simp; (try with_reducible rfl))
              simp only [Act.put, List.setIfInBounds_toArray, List.set_cons_zero, List.set_cons_succ]
              refine takeL (i := 9) (v := ?va9) rfl (by kernel_rfl) (by kernel_rfl) (by kernel_rfl) (fun _ _ _ h => h) rfl ?ha9 (by assumption) ?ra9
              case ha9 => (intro W hSW; (try dsimp only at hSW); go_simp; (try with_reducible rfl))
              simp only [Act.put, List.setIfInBounds_toArray, List.set_cons_zero, List.set_cons_succ]
              refine takeL (i := 10) (v := ?va10) rfl (by kernel_rfl) (by kernel_rfl) (by kernel_rfl) (fun _ _ _ h => h) rfl ?ha10 (by assumption) ?ra10
              case ha10 => (intro W hSW; (try dsimp only at hSW); go_simp; (try with_reducible rfl))
              simp only [Act.put, List.setIfInBounds_toArray, List.set_cons_zero, List.set_cons_succ]
              refine takeL (i := 12) (v := ?va11) rfl (by kernel_rfl) (by kernel_rfl) (by kernel_rfl) (fun _ _ _ h => h) rfl ?ha11 (by assumption) ?ra11
              case ha11 => (intro W hSW; (try dsimp only at hSW); go_simp; (try with_reducible rfl))
              simp only [Act.put, List.setIfInBounds_toArray, List.set_cons_zero, List.set_cons_succ]
              refine takeL (i := 13) (v := ?va12) rfl (by kernel_rfl) (by kernel_rfl) (by kernel_rfl) (fun _ _ _ h => h) rfl ?ha12 (by assumption) ?ra12
              case ha12 => (intro W hSW; (try dsimp only at hSW); go_simp; (try with_reducible rfl))
              simp only [Act.put, List.setIfInBounds_toArray, List.set_cons_zero, List.set_cons_succ]
              refine moveL (i := 11) rfl (by kernel_rfl) (fun K hK => ?_)
              go_simp
              go_at_call 39
              refine (HDG.out _ hHeld.2.2.2.tch).mono ?_
              rintro _ w' ⟨⟨id, hid, rfl⟩, ht⟩
              have hts := TS.next HTS0.out ht
              go_wp2_with fail
              refine hK.out _ _ (Fr.all HX.out hts.fr) (fun hHeld13 => ?_)
              clear hK K hHeld
              try simp only [Act.put, List.setIfInBounds_toArray, List.set_cons_zero, List.set_cons_succ]
              refine moveL (i := 14) rfl (by kernel_rfl) (fun K hK => ?_)
              go_simp
              go_at_call 22
              refine (hPG.out _).mono ?_
              rintro _ w'' ⟨⟨r, hr, rfl⟩, hw''⟩
              have hw3 := hw''.symm
              subst hw3
              go_wp2_with fail
              refine hK.out _ _ (Fr.all HX.out hts.fr) (fun hHeld14 => ?_)
              clear hK K hHeld13
              try simp only [Act.put, List.setIfInBounds_toArray, List.set_cons_zero, List.set_cons_succ]
              refine takeL (i := 15) (v := ?va15) rfl (by kernel_rfl) (by kernel_rfl) (by kernel_rfl) (fun _ _ _ h => h) rfl ?ha15 (by assumption) ?ra15
              case ha15 => (intro W hSW; (try dsimp only at hSW); go_simp; (try with_reducible rfl))
              simp only [Act.put, List.setIfInBounds_toArray, List.set_cons_zero, List.set_cons_succ]
              refine moveL (i := 16) rfl (by kernel_rfl) (fun K hK => ?_)
              go_simp
              refine hK.out _ _ (Fr.all HX.out (hts.next (Tch.alloc _ _ _)).fr) (fun hHeld16 => ?_)
              clear hK K hHeld14
              try simp only [Act.put, List.setIfInBounds_toArray, List.set_cons_zero, List.set_cons_succ]
              refine moveL (i := 17) rfl (by kernel_rfl) (fun K hK => ?_)
              refine step_append_coin rfl _ _ rfl rfl (COwn.nil (w.heap.size + 3) _) _ _ [(id, (r : Int))] rfl (new_coin _ (id, (r : Int))) (by simp) (hts.next (Tch.alloc _ _ _)).fr.size ?_
              intro v1 w1 hown1 hg1
              have ht1 := TS.grownS hg1
              have hts1 := TS.next (TS.next hts (Tch.alloc _ _ _)) ht1
              obtain ⟨b1, m1, e1, hv1⟩ := hown1.shape3
              subst hv1
              have hf1 := hts1.fr
              refine hK.out _ _ (Fr.all HX.out hf1) (fun hHeld17 => ?_)
              clear hK K hHeld16
              try simp only [Act.put, List.setIfInBounds_toArray, List.set_cons_zero, List.set_cons_succ]
              refine takeL (i := 18) (v := ?va18) rfl (by kernel_rfl) (by kernel_rfl) (by kernel_rfl) (fun _ _ _ h => h) rfl ?ha18 (by assumption) ?ra18
              case ha18 => (intro W hSW; (try dsimp only at hSW); go_simp; (try with_reducible rfl))
              simp only [Act.put, List.setIfInBounds_toArray, List.set_cons_zero, List.set_cons_succ]
              refine wpAnyH_done (by kernel_rfl) ?_ _
              show wpList _ _ _ [_] _ _
              have c9 : w1.frozen? ⟨w.heap.size + 1 + 1, 0, none⟩ = false := frozen_of_row _ _ _ _ _ hf1.tx
              have c8 : w1.cell? ⟨w.heap.size + 1 + 1, 0, none⟩ = some (.slice none 0 0) := cell_of_row _ _ _ _ _ _ hf1.tx
              go_wp2
              go_meet
              have hff := TS.stored hts1 hown1
              exact ⟨_, _, hff.own, ⟨by simp, by simp, fun c hc => by
                rw [List.nil_append, List.mem_singleton] at hc
                subst hc
                exact ⟨hid, by show (0 : Int) ≤ (r : Int); omega, by show (r : Int) < 3; omega⟩⟩, hff.fr⟩
          · have HTS0 : Hid (TS w #[.int .i64 fr, .int .i64 mn, .slice a1 am.length c1, .int .u8 (ow : Int), .bool wi, .bool ot] (.slice (some ⟨g, 0, none⟩) n vc) cs wB.drew) := HTS.out.next (Tch.drewN _ wB 1)
            have c0 : wB.drew.cell? ⟨w.heap.size + 1 + 1, 0, none⟩ = some (.slice (some ⟨g, 0, none⟩) n vc) := cell_of_row _ _ _ _ _ _ HTS0.out.fr.tx
            have c0' : wB.cell? ⟨w.heap.size + 1 + 1, 0, none⟩ = some (.slice (some ⟨g, 0, none⟩) n vc) := c0
            obtain ⟨hf, hhf⟩ : ∃ hf, n / 2 = hf := ⟨_, rfl⟩
            have hq1 : (n : Int).tdiv 2 = (hf : Int) := by rw [← hhf]; rfl
            have hq2 : (n : Int) / 2 = (hf : Int) := by omega
            have hq3 : IntKind.i64.wrap (hf : Int) = (hf : Int) := by simp [IntKind.wrap, IntKind.bits, IntKind.signed]; omega
            have hq4 : (hf : Int) ≤ (vc : Int) := by omega
            have hq5 : (0 : Int) ≤ (hf : Int) := by omega
            have HHF : Hid (hf ≤ n ∧ hf ≤ 1) := (by omega : hf ≤ n ∧ hf ≤ 1)
            clear hhf
            as_aux_lemma =>
              refine wp_region_last_held (S := fun W => W.cell? ⟨xb, 1, none⟩ = some (.int .i64 (width : Int)) ∧ W.cell? ⟨w.heap.size, 0, none⟩ = some (.int .i64 fr) ∧ W.cell? ⟨w.heap.size + 1 + 1, 0, none⟩ = some (.slice (some ⟨g, 0, none⟩) n vc) ∧ Fr w #[.int .i64 fr, .int .i64 mn, .slice a1 am.length c1, .int .u8 (ow : Int), .bool wi, .bool ot] (.slice (some ⟨g, 0, none⟩) n vc) (.slice none 0 0) W) 0 (by simp) (by kernel_rfl) (by kernel_rfl) (Fr.all HX.out HTS0.out.fr) ?_
              intro hHeld l o hl ho
              simp only [List.dropLast_cons_cons, List.dropLast_singleton] at hl
              simp only [List.getLast_cons_cons, List.getLast_singleton] at ho
              subst hl
              subst ho
              simp only [List.length_cons, List.length_nil, Nat.reduceAdd]
              refine takeL (i := 0) (v := ?vb0) rfl (by kernel_rfl) (by kernel_rfl) (by kernel_rfl) (fun _ _ _ h => h) rfl ?hb0 (by assumption) ?rb0
              case hb0 => (intro W hSW; (try dsimp only at hSW); go_simp; (try with_reducible rfl))
              simp only [Act.put, List.setIfInBounds_toArray, List.set_cons_zero, List.set_cons_succ]
              refine takeL (i := 1) (v := ?vb1) rfl (by kernel_rfl) (by kernel_rfl) (by kernel_rfl) (fun _ _ _ h => h) rfl ?hb1 (by assumption) ?rb1
              case hb1 => (intro W hSW; (try dsimp only at hSW); go_simp; (try with_reducible rfl))
              simp only [Act.put, List.setIfInBounds_toArray, List.set_cons_zero, List.set_cons_succ]
              refine takeL (i := 2) (v := ?vb2) rfl (by kernel_rfl) (by kernel_rfl) (by kernel_rfl) (fun _ _ _ h => h) rfl ?hb2 (by assumption) ?rb2
              case hb2 => (intro W hSW; (try dsimp only at hSW); go_simp; (try with_reducible rfl))
              simp only [Act.put, List.setIfInBounds_toArray, List.set_cons_zero, List.set_cons_succ]
              refine takeL (i := 3) (v := ?vb3) rfl (by kernel_rfl) (by kernel_rfl) (by kernel_rfl) (fun _ _ _ h => h) rfl ?hb3 (by assumption) ?rb3
              case hb3 => (intro W hSW; (try dsimp only at hSW); go_simp; (try with_reducible rfl))
              simp only [Act.put, List.setIfInBounds_toArray, List.set_cons_zero, List.set_cons_succ]
              refine takeL (i := 4) (v := ?vb4) rfl (by kernel_rfl) (by kernel_rfl) (by kernel_rfl) (fun _ _ _ h => h) rfl ?hb4 (by assumption) ?rb4
              case hb4 => (intro W hSW; (try dsimp only at hSW); go_simp; (try with_reducible rfl))
              simp only [Act.put, List.setIfInBounds_toArray, List.set_cons_zero, List.set_cons_succ]
              refine takeL (i := 5) (v := ?vb5) rfl (by kernel_rfl) (by kernel_rfl) (by kernel_rfl) (fun _ _ _ h => h) rfl ?hb5 (by assumption) ?rb5
              case hb5 => (intro W hSW; (try dsimp only at hSW); go_simp; (try with_reducible rfl))
              simp only [Act.put, List.setIfInBounds_toArray, List.set_cons_zero, List.set_cons_succ]
              refine takeL (i := 6) (v := ?vb6) rfl (by kernel_rfl) (by kernel_rfl) (by kernel_rfl) (fun _ _ _ h => h) rfl ?hb6 (by assumption) ?rb6
              case hb6 => (intro W hSW; (try dsimp only at hSW); go_simp; (try with_reducible rfl))
              simp only [Act.put, List.setIfInBounds_toArray, List.set_cons_zero, List.set_cons_succ]
              refine takeL (i := 7) (v := ?vb7) rfl (by kernel_rfl) (by kernel_rfl) (by kernel_rfl) (fun _ _ _ h => h) rfl ?hb7 (by assumption) ?rb7
              case hb7 => (intro W hSW; (try dsimp only at hSW); go_simp; (try with_reducible rfl))
              simp only [Act.put, List.setIfInBounds_toArray, List.set_cons_zero, List.set_cons_succ]
              refine takeL (i := 8) (v := ?vb8) rfl (by kernel_rfl) (by kernel_rfl) (by kernel_rfl) (fun _ _ _ h => h) rfl ?hb8 (by assumption) ?rb8
              case hb8 => (intro W hSW; (try dsimp only at hSW); go_simp; (try with_reducible rfl))
              simp only [Act.put, List.setIfInBounds_toArray, List.set_cons_zero, List.set_cons_succ]
              refine takeL (i := 9) (v := ?vb9) rfl (by kernel_rfl) (by kernel_rfl) (by kernel_rfl) (fun _ _ _ h => h) rfl ?hb9 (by assumption) ?rb9
              case hb9 => (intro W hSW; (try dsimp only at hSW); go_simp; (try with_reducible rfl))
              simp only [Act.put, List.setIfInBounds_toArray, List.set_cons_zero, List.set_cons_succ]
              refine takeL (i := 10) (v := ?vb10) rfl (by kernel_rfl) (by kernel_rfl) (by kernel_rfl) (fun _ _ _ h => h) rfl ?hb10 (by assumption) ?rb10
              case hb10 => (intro W hSW; (try dsimp only at hSW); go_simp; (try with_reducible rfl))
              simp only [Act.put, List.setIfInBounds_toArray, List.set_cons_zero, List.set_cons_succ]
              refine takeL (i := 12) (v := ?vb11) rfl (by kernel_rfl) (by kernel_rfl) (by kernel_rfl) (fun _ _ _ h => h) rfl ?hb11 (by assumption) ?rb11
              case hb11 => (intro W hSW; (try dsimp only at hSW); go_simp; (try with_reducible rfl))
              simp only [Act.put, List.setIfInBounds_toArray, List.set_cons_zero, List.set_cons_succ]
              refine takeL (i := 13) (v := ?vb12) rfl (by kernel_rfl) (by kernel_rfl) (by kernel_rfl) (fun _ _ _ h => h) rfl ?hb12 (by assumption) ?rb12
              case hb12 => (intro W hSW; (try dsimp only at hSW); go_simp; (try with_reducible rfl))
              simp only [Act.put, List.setIfInBounds_toArray, List.set_cons_zero, List.set_cons_succ]
              refine moveL (i := 11) rfl (by kernel_rfl) (fun K hK => ?_)
              go_simp
              go_at_call 39
              refine (HDG.out _ hHeld.2.2.2.tch).mono ?_
              rintro _ w' ⟨⟨id, hid, rfl⟩, ht⟩
              have hts := TS.next HTS0.out ht
              go_wp2_with fail
              refine hK.out _ _ (Fr.all HX.out hts.fr) (fun hHeld13 => ?_)
              clear hK K hHeld
              try simp only [Act.put, List.setIfInBounds_toArray, List.set_cons_zero, List.set_cons_succ]
              refine moveL (i := 14) rfl (by kernel_rfl) (fun K hK => ?_)
              go_simp
              go_at_call 22
              refine (hPG.out _).mono ?_
              rintro _ w'' ⟨⟨r, hr, rfl⟩, hw''⟩
              have hw3 := hw''.symm
              subst hw3
              go_wp2_with fail
              refine hK.out _ _ (Fr.all HX.out hts.fr) (fun hHeld14 => ?_)
              clear hK K hHeld13
              try simp only [Act.put, List.setIfInBounds_toArray, List.set_cons_zero, List.set_cons_succ]
              refine takeL (i := 15) (v := ?vb15) rfl (by kernel_rfl) (by kernel_rfl) (by kernel_rfl) (fun _ _ _ h => h) rfl ?hb15 (by assumption) ?rb15
              case hb15 => (intro W hSW; (try dsimp only at hSW); go_simp; (try with_reducible rfl))
              simp only [Act.put, List.setIfInBounds_toArray, List.set_cons_zero, List.set_cons_succ]
              refine moveL (i := 16) rfl (by kernel_rfl) (fun K hK => ?_)
              go_simp
              refine hK.out _ _ (Fr.all HX.out (hts.next (Tch.alloc _ _ _)).fr) (fun hHeld16 => ?_)
              clear hK K hHeld14
              try simp only [Act.put, List.setIfInBounds_toArray, List.set_cons_zero, List.set_cons_succ]
              refine moveL (i := 17) rfl (by kernel_rfl) (fun K hK => ?_)
              refine step_append_coin rfl _ _ rfl rfl ((TS.next hts (Tch.alloc _ _ _)).own.take hf HHF.out.1) _ _ [(id, (r : Int))] rfl (new_coin _ (id, (r : Int))) (by have := HN.out; simp; omega) (hts.next (Tch.alloc _ _ _)).fr.size ?_
              intro v1 w1 hown1 hg1
              have hf1 := TS.grownF hts hg1
              obtain ⟨b1, m1, e1, hv1⟩ := hown1.shape3
              subst hv1
              refine hK.out _ _ (Fr.all HX.out hf1) (fun hHeld17 => ?_)
              clear hK K hHeld16
              try simp only [Act.put, List.setIfInBounds_toArray, List.set_cons_zero, List.set_cons_succ]
              refine takeL (i := 18) (v := ?vb18) rfl (by kernel_rfl) (by kernel_rfl) (by kernel_rfl) (fun _ _ _ h => h) rfl ?hb18 (by assumption) ?rb18
              case hb18 => (intro W hSW; (try dsimp only at hSW); go_simp; (try with_reducible rfl))
              simp only [Act.put, List.setIfInBounds_toArray, List.set_cons_zero, List.set_cons_succ]
              refine wpAnyH_done (by kernel_rfl) ?_ _
              show wpList _ _ _ [_] _ _
              have c9 : w1.frozen? ⟨w.heap.size + 1 + 1, 0, none⟩ = false := frozen_of_row _ _ _ _ _ hf1.tx
              have c8 : w1.cell? ⟨w.heap.size + 1 + 1, 0, none⟩ = some (.slice (some ⟨g, 0, none⟩) n vc) := cell_of_row _ _ _ _ _ _ hf1.tx
              go_wp2
              go_meet
              have hst := TSE.storedF hf1 hown1
              exact ⟨_, _, hst.own, ⟨by simp, by have := HHF.out; simp [List.length_take]; omega, fun c hc => by
                rw [List.mem_append, List.mem_singleton] at hc
                rcases hc with hc | rfl
                · exact HCC.out c (List.mem_of_mem_take hc)
                · exact ⟨hid, by show (0 : Int) ≤ (r : Int); omega, by show (r : Int) < 3; omega⟩⟩, hst.fr⟩
      case rest =>
      obtain ⟨cs', v', HCO', HCK, HFR⟩ := hcut
      obtain ⟨wC, hwC⟩ : ∃ wC, wC = wc := ⟨wc, rfl⟩
      subst hwC
      clear HF HCO t0 e5 HB HCL HCC HL3
      go_wp2
      go_loopw [8, 11] (fun vl i wr => ∃ (k s : Nat) (os : List (Nat × Nat)) (vO : Value), k ≤ 3 ∧ i = .int .i64 k ∧ vl = .int .u64 (s : Int) ∧ Hid (s < 18446744073709551616) ∧ Hid (OOwn (w.heap.size + 3) wr vO os) ∧ Hid (os.length = k) ∧ Hid (∀ o ∈ os, OutOk o) ∧ Hid (COwn (w.heap.size + 3) wr v' cs') ∧ Hid (Fr w #[.int .i64 fr, .int .i64 mn, .slice a1 am.length c1, .int .u8 (ow : Int), .bool wi, .bool ot] v' vO wr)) (fun _ i _ => 3 - (intOf i).toNat)
      case atStart =>
        exact ⟨0, sm, [], .slice none 0 0, by omega, rfl, rfl, HSM.out, OOwn.nil _ _, rfl, (fun c hc => (List.not_mem_nil hc).elim : ∀ c ∈ ([] : List (Nat × Nat)), OutOk c), HCO'.out, HFR.out⟩
      case round =>
        clear HCO' HFR HSM
        obtain ⟨k, sm, os, vO, hk, rfl, rfl, HSM, HOO, HOL, HOK, HCO', HF⟩ := hrel
        obtain ⟨va2, vc2, rfl⟩ := HOO.out.shape
        have d2 : wr.cell? ⟨w.heap.size, 2, none⟩ = some (.slice a1 am.length c1) := cell_of_row _ _ _ _ _ _ HF.out.pay
        have d3 : wr.cell? ⟨w.heap.size, 3, none⟩ = some (.int .u8 (ow : Int)) := cell_of_row _ _ _ _ _ _ HF.out.pay
        have d4 : wr.cell? ⟨w.heap.size, 4, none⟩ = some (.bool wi) := cell_of_row _ _ _ _ _ _ HF.out.pay
        by_cases hgo : k < am.length ∧ k < 3
        · obtain ⟨hka, hk3⟩ := hgo
          rcases HA.out with ⟨_, e2⟩ | ⟨g0, o0, cc, e, hg0, hcell⟩
          · rw [e2] at hka; simp at hka
          simp only [Value.slice.injEq, true_and] at e
          obtain ⟨rfl, rfl⟩ := e
          have q0 := (HF.out.tch.cell (p := ⟨g0, o0 + k, none⟩) hg0 (fun e => e)).trans (hcell k hka)
          have HAM : Hid (am[k] < 18446744073709551616) := HP.out.amounts _ (List.getElem_mem hka)
          have hki : (k : Int) < (am.length : Int) := by omega
          have hk3i : (k : Int) < 3 := by omega
          clear hcell
          generalize am[k] = a at *
          go_upto_region 15 with fail
          go_cut [99] (fun vb wx => ∃ b : Bool, vb = .bool b ∧ wx = wr ∧ (b = true → sm < 9223372036854775808))
          case first =>
            cases wi with
            | true =>
              go_wp2
              go_meet
              exact ⟨false, rfl, rfl, fun h => by cases h⟩
            | false =>
              rcases Nat.lt_or_ge sm 9223372036854775808 with hs | hs
              · have hsi : (sm : Int) < 9223372036854775808 := by omega
                have HS : Hid (sm < 9223372036854775808) := hs
                clear hs
                go_wp2
                go_meet
                exact ⟨_, rfl, rfl, fun _ => HS.out⟩
              · have hsi : ¬ (sm : Int) < 9223372036854775808 := by omega
                clear hs
                go_wp2
                go_meet
                exact ⟨false, by first | rfl | simp [hsi], rfl, fun h => by cases h⟩
          case rest =>
          obtain ⟨b, rfl, rfl, hb⟩ := hcut
          obtain ⟨wD, hwD⟩ : ∃ wD, wD = wc := ⟨wc, rfl⟩
          subst hwD
          have HB2 : Hid (b = true → sm < 9223372036854775808) := hb
          clear hb
          go_upto_if 99 with fail
          go_cut [8, 12] (fun vl va wx => ∃ s2 a2 : Nat, vl = .int .u64 (s2 : Int) ∧ va = .int .u64 (a2 : Int) ∧ wx = wD ∧ Hid (s2 < 18446744073709551616) ∧ Hid (a2 < 18446744073709551616))
          case first =>
            cases b with
            | false =>
              go_wp2
              go_meet
              exact ⟨sm, a, rfl, rfl, rfl, HSM, HAM⟩
            | true =>
              have hs := HB2.out rfl
              obtain ⟨m1, hm1⟩ : ∃ m1, sm + 1 = m1 := ⟨_, rfl⟩
              obtain ⟨r, hr⟩ : ∃ r, a % m1 = r := ⟨_, rfl⟩
              have hrm : r < m1 := by rw [← hr]; exact Nat.mod_lt _ (by omega)
              have hw1 : IntKind.u64.wrap ((sm : Int) + 1) = (m1 : Int) := by simp [IntKind.wrap, IntKind.bits, IntKind.signed]; omega
              have hne : ¬ (m1 : Int) = 0 := by omega
              have htm : (a : Int).tmod (m1 : Int) = (r : Int) := by rw [← hr]; rfl
              have hem : (a : Int) % (m1 : Int) = (r : Int) := by rw [← hr]; simp
              obtain ⟨s2, hs2⟩ : ∃ s2, sm - r = s2 := ⟨_, rfl⟩
              have hsub : IntKind.u64.wrap ((sm : Int) - (r : Int)) = (s2 : Int) := by simp [IntKind.wrap, IntKind.bits, IntKind.signed]; omega
              have HR : Hid (s2 < 18446744073709551616) := (by omega : s2 < 18446744073709551616)
              have HR2 : Hid (r < 18446744073709551616) := (by omega : r < 18446744073709551616)
              clear hs hm1 hr hrm hs2
              go_wp2
              go_meet
              exact ⟨s2, r, rfl, rfl, rfl, HR, HR2⟩
          case rest =>
          obtain ⟨s2, a2, rfl, rfl, rfl, HS2, HA2⟩ := hcut
          obtain ⟨wE, hwE⟩ : ∃ wE, wE = wc := ⟨wc, rfl⟩
          subst hwE
          obtain ⟨o2, ho2⟩ : ∃ o2 : Nat, (ow + k) % 256 = o2 := ⟨_, rfl⟩
          have HO2 : Hid (o2 < 256) := (by rw [← ho2]; exact Nat.mod_lt _ (by decide) : o2 < 256)
          have hk8 : IntKind.u8.wrap (k : Int) = (k : Int) := by simp [IntKind.wrap, IntKind.bits, IntKind.signed]; omega
          have hw8 : IntKind.u8.wrap ((ow : Int) + (k : Int)) = (o2 : Int) := by simp [IntKind.wrap, IntKind.bits, IntKind.signed]; omega
          have t1 : wE.cell? ⟨w.heap.size + 1 + 1, 1, none⟩ = some (.slice va2 os.length vc2) := cell_of_row _ _ _ _ _ _ HF.out.tx
          have HNO : Hid (OutsAt (wE.heap.size + 1) (wE.alloc (.cells #[.int .u64 ((a2 : Nat) : Int), .int .u8 ((o2 : Nat) : Int)] 80)) (.slice (some ⟨wE.heap.size, 0, none⟩) 1 1) [(a2, o2)]) := new_out wE (a2, o2)
          have HOW : Hid (OOwn (w.heap.size + 3) (wE.alloc (.cells #[.int .u64 ((a2 : Nat) : Int), .int .u8 ((o2 : Nat) : Int)] 80)) (.slice va2 os.length vc2) os) := HOO.out.tch (Tch.alloc (fun _ => False) wE _) (fun _ _ h => h)
          have HSZ : Hid (w.heap.size + 3 ≤ wE.heap.size) := HF.out.size
          obtain ⟨va1, vm1, vc1, hv1'⟩ := HCO'.out.shape3
          have HFN : Hid (∀ w1, World.grownBy (wE.alloc (.cells #[.int .u64 ((a2 : Nat) : Int), .int .u8 ((o2 : Nat) : Int)] 80)) w1 (Value.slice va2 os.length vc2).ownBlock → Fr w #[.int .i64 fr, .int .i64 mn, .slice (some ⟨g0, o0, none⟩) am.length c1, .int .u8 (ow : Int), .bool wi, .bool ot] v' (.slice va2 os.length vc2) w1 ∧ COwn (w.heap.size + 3) w1 v' cs') := by
            intro w1 hg
            refine ⟨(HF.out.next (Tch.alloc (fun _ => False) wE _) (fun _ h => h.elim)).next (Tch.grown hg) (fun j hj => (HOO.out.own j hj.symm).1), (HCO'.out.tch (Tch.alloc (fun _ => False) wE _) (fun _ _ h => h)).tch (Tch.grown hg) (fun j hj e => coin_out_apart HCO'.out HOO.out j hj e.symm)⟩
          clear ho2 q0
          go_wp2_with (at_builtin; refine wpList_append_out rfl _ _ rfl rfl HOW.out _ _ [(a2, o2)] rfl HNO.out (by have := HOL.out; simp; omega) (by have := HSZ.out; simp; omega) ?_; intro v1 w1 hown1 hg1; obtain ⟨hf1, hco1⟩ := HFN.out w1 hg1; have HO1 : Hid (OOwn _ w1 v1 _) := hown1; have HC1 : Hid (COwn _ w1 _ _) := hco1; have t2 : w1.cell? ⟨w.heap.size + 1 + 1, 1, none⟩ = some (.slice va2 os.length vc2) := cell_of_row _ _ _ _ _ _ hf1.tx; have t3 : w1.frozen? ⟨w.heap.size + 1 + 1, 1, none⟩ = false := frozen_of_row _ _ _ _ _ hf1.tx; have HF1 : Hid (Fr _ _ _ _ w1) := hf1; clear hown1 hg1 hf1 hco1; obtain ⟨b1, m1, e1, hv1⟩ := HO1.out.shape3; subst hv1)
          have hset := setCell_eq_setRow w1 (w.heap.size + 1 + 1) 1 _ _ _ (.slice b1 m1 e1) HF1.out.tx
          have HO3 : Hid (OOwn (w.heap.size + 3) (w1.setCell ⟨w.heap.size + 1 + 1, 1, none⟩ (.slice b1 m1 e1)) (.slice b1 m1 e1) (os ++ [(a2, o2)])) := by rw [hset]; exact HO1.out.tch (Tch.setRow w1 _ _) (fun j hj e => by have := (HO1.out.own j hj).1; omega)
          have HC3 : Hid (COwn (w.heap.size + 3) (w1.setCell ⟨w.heap.size + 1 + 1, 1, none⟩ (.slice b1 m1 e1)) v' cs') := by rw [hset]; exact HC1.out.tch (Tch.setRow w1 _ _) (fun j hj e => by have := (HC1.out.own j hj).1; omega)
          have HF3 : Hid (Fr w #[.int .i64 fr, .int .i64 mn, .slice (some ⟨g0, o0, none⟩) am.length c1, .int .u8 (ow : Int), .bool wi, .bool ot] v' (.slice b1 m1 e1) (w1.setCell ⟨w.heap.size + 1 + 1, 1, none⟩ (.slice b1 m1 e1))) := by rw [hset]; exact HF1.out.set v' (.slice b1 m1 e1)
          clear hset
          go_roundw
          case rel => exact ⟨k + 1, s2, os ++ [(a2, o2)], .slice b1 m1 e1, by omega, by go_num, rfl, HS2.out, HO3.out, (by have := HOL.out; simp; omega : (os ++ [(a2, o2)]).length = k + 1), (by intro c hc; rw [List.mem_append, List.mem_singleton] at hc; rcases hc with hc | rfl; exact HOK.out c hc; exact ⟨HA2.out, HO2.out⟩ : ∀ c ∈ os ++ [(a2, o2)], OutOk c), HC3.out, HF3.out⟩
          case measure => simp [intOf]; omega
        · have HTK : Hid (TxOk width (cs', os)) := ⟨HCK.out.2.2, HOK.out, HCK.out.1, HCK.out.2.1, by show os.length ≤ 3; have := HOL.out; omega⟩
          obtain ⟨va1, vm1, vc1, hv1'⟩ := HCO'.out.shape3
          subst hv1'
          have t0 : wr.cell? ⟨w.heap.size + 1 + 1, 0, none⟩ = some (.slice va1 vm1 vc1) := cell_of_row _ _ _ _ _ _ HF.out.tx
          have t1 : wr.cell? ⟨w.heap.size + 1 + 1, 1, none⟩ = some (.slice va2 os.length vc2) := cell_of_row _ _ _ _ _ _ HF.out.tx
          have r0 : wr.cell? ⟨w.heap.size + 1, 0, none⟩ = some (.slice none 0 0) := cell_of_row _ _ _ _ _ _ HF.out.res
          have r1 : wr.cell? ⟨w.heap.size + 1, 1, none⟩ = some (.slice none 0 0) := cell_of_row _ _ _ _ _ _ HF.out.res
          have fR : ∀ j, wr.frozen? ⟨w.heap.size + 1, j, none⟩ = false := fun j => frozen_of_row _ _ _ _ _ HF.out.res
          have HEND : Hid (∀ cs1, wr.setRow (w.heap.size + 1) #[.slice va1 vm1 vc1, .slice va2 os.length vc2] = cs1 → ToTx width w (.returned (.agg #[.slice va1 vm1 vc1, .slice va2 os.length vc2])) cs1) := by
            rintro _ rfl
            have tS := Tch.setRow wr (w.heap.size + 1) #[.slice va1 vm1 vc1, .slice va2 os.length vc2]
            refine ⟨HF.out.tch.trans tS (fun j hj => .inr (by omega)), (cs', os), _, _, rfl, HTK.out, ?_, ?_⟩
            · exact (HCO'.out.tch tS (fun j hj e => by have := (HCO'.out.own j hj).1; omega)).low (by omega)
            · exact (HOO.out.tch tS (fun j hj e => by have := (HOO.out.own j hj).1; omega)).low (by omega)
          have RR : Hid (_ = _) := HF.out.res
          by_cases hka : k < am.length
          · have hki : (k : Int) < (am.length : Int) := by omega
            have hk3i : ¬ (k : Int) < 3 := by omega
            go_wp2
            rw [setTwo _ _ _ _ _ _ _ RR.out]
            refine bodyPost_ret (v := .agg #[.slice va1 vm1 vc1, .slice va2 os.length vc2]) (results_cell_row Tryz.results43 _ _ (w.heap.size + 1) _ _ (0, 0) _ rfl (setRow_heap wr _ _ _ _ _ RR.out) Tryz.underlying98 rfl (by kernel_rfl)) rfl ?_
            exact HEND.out _ rfl
          · have hki : ¬ (k : Int) < (am.length : Int) := by omega
            go_wp2
            rw [setTwo _ _ _ _ _ _ _ RR.out]
            refine bodyPost_ret (v := .agg #[.slice va1 vm1 vc1, .slice va2 os.length vc2]) (results_cell_row Tryz.results43 _ _ (w.heap.size + 1) _ _ (0, 0) _ rfl (setRow_heap wr _ _ _ _ _ RR.out) Tryz.underlying98 rfl (by kernel_rfl)) rfl ?_
            exact HEND.out _ rfl
end Go.Proofs.YtighkdnooglfjaaGreatDoor
