/-
  The contracts of (tree.Tree).Digest, With and Without.
-/
import Derived.Test.YtighkdnooglfjaaGreatDoorPdTree7
import Derived.Test.YtighkdnooglfjaaGreatDoorPdPBook
import Derived.Test.YtighkdnooglfjaaGreatDoorPdIs
namespace Go.Proofs.YtighkdnooglfjaaGreatDoor
open Go.RowKit

/-- A tree's value. -/
abbrev treeV (width : Nat) (q : Option Nat) : Value := .agg #[.int .i64 (width : Int), rootV q]
theorem keysOf_ok (E : Nat → Addr) (width : Nat) (hw : width ≤ 32) (c : ByteArray × Int) (hc : CoinOk width c) (w : World) (hE : Env E w) :
    Calls Tryz.prog 145 #[.int .i64 (width : Int), .agg #[.string c.1, .int .i64 c.2]] w fun e w' => e = .returned (.tuple #[.string ⟨(coinB c).toArray⟩, .nilIface]) ∧ Tch (fun _ => False) w w' := by
  refine (keysOf_any E width (by omega) c w hE).mono ?_
  rintro e w' ⟨h1, h2⟩
  have := (stCoin_some width c c (.wr []) _ ((rt_coin width c c hc).wr [])).1
  rw [this] at h2
  exact ⟨h2, h1⟩
/-- The key of a coin, and a leaf of it. -/
theorem coin_leaf {width : Nat} {c : ByteArray × Int} (hc : CoinOk width c) {o : Nat × Nat} (ho : OutOk o) : TrOk width (.leaf (coinB c) o) := by
  obtain ⟨h1, h2, h3⟩ := hc
  have hl : c.1.data.toList.length = width := by simpa using h1
  refine ⟨by simp [coinB, beL_length]; exact h1, ?_, ho⟩
  have hx := coinX_small c.2 h2 (by omega)
  have e : (coinB c).getD width 0 = UInt8.ofNat (coinX c.2) := by
    unfold coinB
    rw [List.getD_eq_getElem?_getD, List.getElem?_append_right (by omega), hl, Nat.sub_self]
    simp [beL]
  rw [e, UInt8.toNat_ofNat']
  omega
set_option maxRecDepth 100000 in
set_option maxHeartbeats 1000000 in
theorem treeDigest_any (E : Nat → Addr) (width : Nat) (hw1 : 1 ≤ width) (hw : width ≤ 32) (F : Nat → Prop) (q : Option Nat) (st : Option Tr) (w : World) (hE : Env E w) (h : StAt (dgW width) F w q st) :
    Calls Tryz.prog 83 #[treeV width q] w fun e w' => e = .returned (.string (stDig (dgW width) st)) ∧ Tch (fun _ => False) w w' := by
  cases st with
  | none =>
    obtain rfl := h.of_none
    have HO : Hid (∀ W, Tch (fun _ => False) w W → Calls Tryz.prog 130 _ W _) := fun W hT => of_env E width ⟨#[69]⟩ W (hE.tch hT (fun _ h => h.elim)) hw1 hw (by decide)
    clear hE h
    show Calls _ _ #[.agg #[_, .pointer none]] _ _
    go_enter Tryz.func83, Tryz.ntmps83
    go_wp2_with fail
    refine (HO.out _ (Tch.alloc _ _ _)).mono ?_
    rintro _ w1 ⟨rfl, ht⟩
    have HT : Hid (Tch (fun _ => False) w w1) := (Tch.alloc (fun _ => False) w _).trans ht (fun _ h => h.elim)
    clear ht HO
    go_wp2
    go_ret
    exact ⟨rfl, HT.out⟩
  | some t =>
    obtain ⟨n, rfl, hn⟩ := h.of_some
    have c0 := hn.digCell
    have hlt := hn.own.2
    clear hE h hn
    show Calls _ _ #[.agg #[_, .pointer (some ⟨n, 0, none⟩)]] _ _
    go_enter Tryz.func83, Tryz.ntmps83
    go_wp2
    go_ret
    exact ⟨rfl, Tch.alloc _ _ _⟩
theorem results_cell_tmp {P : Program} {fn : Func} {p t : Tmp} {ty : TypeId} (h : fn.results = #[.cell p ty, .tmp t]) (tmps : Array Value) (w : World) (g : Nat) (T : TypeId) (cs : Array Value) (fr : Nat × Nat) (d : TypeDesc)
    (hp : tmps.getD p undef = .pointer (some ⟨g, 0, none⟩)) (hg : w.heap[g]? = some (.cells cs T fr))
    (hu : P.underlying ty = some d) (hd : (match d with | .struct _ | .array _ _ => true | _ => false) = true) (hi : (P.info? ty).map (·.size) = some cs.size) :
    (results fn tmps).run P w = .ok (.tuple #[.agg cs, tmps.getD t undef]) w := by
  have hp' : tmps[p]?.getD undef = .pointer (some ⟨g, 0, none⟩) := by simpa using hp
  simp [results, h, hp', asAddr, run_loadVar_row w g T ty cs fr d hg hu hd hi]
/-- The four rows of With: the tree, the coin, the output, the result. -/
structure WithBox (w W : World) (width : Nat) (q : Option Nat) (c : ByteArray × Int) (o : Nat × Nat) : Prop where
  t : W.heap[w.heap.size]? = some (.cells #[.int .i64 (width : Int), rootV q] 146)
  c : W.heap[w.heap.size + 1]? = some (.cells #[.string c.1, .int .i64 c.2] 49)
  o : W.heap[w.heap.size + 2]? = some (.cells #[.int .u64 (o.1 : Int), .int .u8 (o.2 : Int)] 80)
  r : W.heap[w.heap.size + 3]? = some (.cells #[.int .i64 0, .pointer none] 146)
theorem WithBox.next {w W W' : World} {width : Nat} {q : Option Nat} {c : ByteArray × Int} {o : Nat × Nat} (h : WithBox w W width q c o) (k : Tch (fun _ => False) W W') : WithBox w W' width q c o :=
  ⟨(k.block _ (Array.getElem?_eq_some_iff.1 h.t).1 (fun h => h)).trans h.t, (k.block _ (Array.getElem?_eq_some_iff.1 h.c).1 (fun h => h)).trans h.c, (k.block _ (Array.getElem?_eq_some_iff.1 h.o).1 (fun h => h)).trans h.o, (k.block _ (Array.getElem?_eq_some_iff.1 h.r).1 (fun h => h)).trans h.r⟩
theorem heap_alloc4_3 (w : World) (o0 o1 o2 o3 : Obj) : ((((w.alloc o0).alloc o1).alloc o2).alloc o3).heap[w.heap.size + 3]? = some o3 := by
  have := heap_alloc_new (((w.alloc o0).alloc o1).alloc o2) o3
  simpa using this
theorem heap_alloc4_low (w : World) (o0 o1 o2 o3 : Obj) (k : Nat) (h : k < w.heap.size + 3) : ((((w.alloc o0).alloc o1).alloc o2).alloc o3).heap[k]? = (((w.alloc o0).alloc o1).alloc o2).heap[k]? := Below.heap_alloc _ _ _ (by simp; omega)
theorem withBox_new (w : World) (width : Nat) (q : Option Nat) (c : ByteArray × Int) (o : Nat × Nat) : WithBox w ((((w.alloc (.cells #[.int .i64 (width : Int), rootV q] 146)).alloc (.cells #[.string c.1, .int .i64 c.2] 49)).alloc (.cells #[.int .u64 (o.1 : Int), .int .u8 (o.2 : Int)] 80)).alloc (.cells #[.int .i64 0, .pointer none] 146)) width q c o :=
  ⟨(heap_alloc4_low _ _ _ _ _ _ (by omega)).trans (heap_alloc3_0 _ _ _ _), (heap_alloc4_low _ _ _ _ _ _ (by omega)).trans (heap_alloc3_1 _ _ _ _), (heap_alloc4_low _ _ _ _ _ _ (by omega)).trans (heap_alloc3_2 _ _ _ _), heap_alloc4_3 _ _ _ _ _⟩
/-- What turns no node leaves a tree. -/
theorem NodeAt.tchT {d : List UInt8 → ByteArray} {F : Nat → Prop} {w w' : World} {n : Nat} {t : Tr} {S : Nat → Prop} (h : NodeAt d F w n t) (k : Tch S w w') (hs : ∀ j cs, S j → w.heap[j]? ≠ some (.cells cs 243)) : NodeAt d F w' n t := by
  induction h with
  | leaf n key o hF hr => exact .leaf n key o hF ((k.block n (Array.getElem?_eq_some_iff.1 hr).1 (fun e => hs n _ e hr)).trans hr)
  | br n b nl nr l r hF hr _ _ ihl ihr => exact .br n b nl nr l r hF ((k.block n (Array.getElem?_eq_some_iff.1 hr).1 (fun e => hs n _ e hr)).trans hr) ihl ihr
theorem StAt.row {d : List UInt8 → ByteArray} {F : Nat → Prop} {w : World} {q : Option Nat} {st : Option Tr} {g : Nat} {cur cs : Array Value} {T : TypeId} (h : StAt d F w q st) (hr : w.heap[g]? = some (.cells cur T)) (hT : T ≠ 243) : StAt d F (w.setRow g cs) q st := by
  have hs : ∀ j c, j = g → w.heap[j]? ≠ some (.cells c 243) := fun j c e e' => by
    subst e
    rw [hr] at e'
    simp at e'
    exact hT e'.2
  cases q <;> cases st <;> first | exact h | exact NodeAt.tchT h (Tch.setRow w g cs) hs
/-- What With comes to. -/
def WithTo (E : Nat → Addr) (width : Nat) (F : Nat → Prop) (r : Except Er (Option Tr)) (e : Ending) (w' : World) : Prop := match r with
  | .ok st' => ∃ q', e = .returned (.tuple #[treeV width q', .nilIface]) ∧ StAt (dgW width) F w' q' st'
  | .error _ => e = .returned (.tuple #[.agg #[.int .i64 0, .pointer none], eV E 2])
theorem TrOk.near {width : Nat} {t : Tr} {k : Key} (h : TrOk width t) : (t.near k).1.length = width + 1 := by
  induction t with
  | leaf k' o => exact h.1
  | br b l r ihl ihr =>
    simp only [Tr.near]
    split
    · exact ihl h.2.1
    · exact ihr h.2.2
set_option maxRecDepth 100000 in
set_option maxHeartbeats 1000000 in
theorem with_any (E : Nat → Addr) (width : Nat) (hw1 : 1 ≤ width) (hw : width ≤ 32) (F : Nat → Prop) (q : Option Nat) (st : Option Tr) (c : ByteArray × Int) (hc : CoinOk width c) (o : Nat × Nat) (ho : OutOk o) (w : World) (hE : Env E w) (hF : ∀ j, w.heap.size ≤ j → F j) (hs : StAt (dgW width) F w q st) (hok : StOk width st) :
    Calls Tryz.prog 191 #[treeV width q, .agg #[.string c.1, .int .i64 c.2], .agg #[.int .u64 (o.1 : Int), .int .u8 (o.2 : Int)]] w fun e w' => Tch (fun _ => False) w w' ∧ WithTo E width F (withT st (coinB c) o) e w' := by
  have hkl : (coinB c).length = width + 1 := coinB_len hc
  have HL : Hid (TrOk width (.leaf (coinB c) o)) := coin_leaf hc ho
  have HKO : Hid (∀ W, Tch (fun _ => False) w W → Calls Tryz.prog 145 #[.int .i64 (width : Int), .agg #[.string c.1, .int .i64 c.2]] W fun e w' => e = .returned (.tuple #[.string ⟨(coinB c).toArray⟩, .nilIface]) ∧ Tch (fun _ => False) W w') := fun W hT => keysOf_ok E width hw c hc W (hE.tch hT (fun _ h => h.elim))
  have HNL : Hid (∀ W, Tch (fun _ => False) w W → Calls Tryz.prog 268 #[.int .i64 (width : Int), .string ⟨(coinB c).toArray⟩, .agg #[.int .u64 (o.1 : Int), .int .u8 (o.2 : Int)]] W fun e w' => ∃ n, e = .returned (.tuple #[.pointer (some ⟨n, 0, none⟩), .nilIface]) ∧ NodeAt (dgW width) F w' n (.leaf (coinB c) o) ∧ Tch (fun _ => False) W w') := fun W hT => (newLeaf_any E width hw1 hw (coinB c) o HL.out W (hE.tch hT (fun _ h => h.elim))).mono fun e w' ⟨n, h1, h2, h3, h4⟩ => ⟨n, h1, .leaf n _ _ (hF n (Nat.le_trans hT.size h2)) h3, h4⟩
  have HS : Hid (StAt (dgW width) F w q st) := hs
  have HE : Hid (Env E w) := hE
  have HF : Hid (∀ j, w.heap.size ≤ j → F j) := hF
  have HOK : Hid (StOk width st) := hok
  have HBX := withBox_new w width q c o
  obtain ⟨rv, hrv⟩ : ∃ rv, rv = (q.map fun n => (⟨n, 0, none⟩ : Addr)) := ⟨_, rfl⟩
  have hrq : rootV q = .pointer rv := by rw [hrv]
  clear hs hE hF hok ho hc
  obtain ⟨cs, cn⟩ := c
  obtain ⟨oa, oo⟩ := o
  dsimp only at HKO HNL HBX ⊢
  show Calls _ _ #[.agg #[_, rootV q], _, _] _ _
  rw [hrq]
  have HRQ : Hid (rootV q = .pointer rv) := hrq
  clear hrq hrv
  have hA0 : Tch (fun _ => False) w ((((w.alloc (.cells #[.int .i64 (width : Int), .pointer rv] 146)).alloc (.cells #[.string cs, .int .i64 cn] 49)).alloc (.cells #[.int .u64 (oa : Int), .int .u8 (oo : Int)] 80)).alloc (.cells #[.int .i64 0, .pointer none] 146)) := (Tch.allocs3 (fun _ => False) w _ _ _).trans (Tch.alloc _ _ _) (fun _ h => .inl h)
  have HA0 : Hid (Tch _ _ _) := hA0
  have HB0 : Hid (WithBox w ((((w.alloc (.cells #[.int .i64 (width : Int), .pointer rv] 146)).alloc (.cells #[.string cs, .int .i64 cn] 49)).alloc (.cells #[.int .u64 (oa : Int), .int .u8 (oo : Int)] 80)).alloc (.cells #[.int .i64 0, .pointer none] 146)) width q (cs, cn) (oa, oo)) := by rw [← HRQ.out]; exact HBX
  clear HBX hA0
  go_enter Tryz.func191, Tryz.ntmps191
  go_wp2_with fail
  refine (HKO.out _ HA0.out).mono ?_
  rintro _ w1 ⟨rfl, ht1⟩
  have HT1 : Hid (Tch (fun _ => False) w w1) := HA0.out.trans ht1 (fun _ h => h.elim)
  have b1 := HB0.out.next ht1
  have HB1 : Hid (WithBox w w1 width q (cs, cn) (oa, oo)) := b1
  have a0 : w1.cell? ⟨w.heap.size, 0, none⟩ = some (.int .i64 (width : Int)) := cell_of_row _ _ _ _ _ _ b1.t
  have a1 : w1.cell? ⟨w.heap.size + 1 + 1, 0, none⟩ = some (.int .u64 (oa : Int)) := cell_of_row _ _ _ _ _ _ b1.o
  have a2 : w1.cell? ⟨w.heap.size + 1 + 1, 1, none⟩ = some (.int .u8 (oo : Int)) := cell_of_row _ _ _ _ _ _ b1.o
  generalize hKB : (⟨(coinB (cs, cn)).toArray⟩ : ByteArray) = kb at *
  have HKB : Hid (_ = kb) := hKB
  clear hKB ht1 b1 HKO HB0 HA0
  go_wp2_with fail
  refine (HNL.out _ HT1.out).mono ?_
  rintro _ w2 ⟨ln, rfl, hln, ht2⟩
  have HT2 : Hid (Tch (fun _ => False) w w2) := HT1.out.trans ht2 (fun _ h => h.elim)
  have b2 := HB1.out.next ht2
  have HB2 : Hid (WithBox w w2 width q (cs, cn) (oa, oo)) := b2
  have d0 : w2.cell? ⟨w.heap.size, 0, none⟩ = some (.int .i64 (width : Int)) := cell_of_row _ _ _ _ _ _ b2.t
  have d1 : w2.cell? ⟨w.heap.size, 1, none⟩ = some (.pointer rv) := by rw [← HRQ.out]; exact cell_of_row _ _ _ _ _ _ b2.t
  have HLN : Hid (NodeAt _ _ _ _ _) := hln
  clear ht2 b2 HNL HB1 HT1 hln a0 a1 a2
  cases st with
  | none =>
    obtain rfl := HS.out.of_none
    obtain rfl : rv = none := by have := HRQ.out; simpa [rootV] using this.symm
    have HN : Hid (Calls Tryz.prog 269 #[.agg #[.int .i64 (width : Int), .pointer none], .string kb] w2 fun e w' => e = .returned (.pointer none) ∧ Tch (fun _ => False) w2 w') := by
      have := nearest_none (width : Int) (coinB (cs, cn)) (by omega) (by omega) w2
      rw [HKB.out] at this
      exact this
    go_wp2_with fail
    refine HN.out.mono ?_
    rintro _ w3 ⟨rfl, ht3⟩
    have b3 := HB2.out.next ht3
    have e0 : w3.cell? ⟨w.heap.size, 0, none⟩ = some (.int .i64 (width : Int)) := cell_of_row _ _ _ _ _ _ b3.t
    have r0 : w3.cell? ⟨w.heap.size + 1 + 1 + 1, 0, none⟩ = some (.int .i64 0) := cell_of_row _ _ _ _ _ _ b3.r
    have r1 : w3.cell? ⟨w.heap.size + 1 + 1 + 1, 1, none⟩ = some (.pointer none) := cell_of_row _ _ _ _ _ _ b3.r
    have fR : ∀ j, w3.frozen? ⟨w.heap.size + 1 + 1 + 1, j, none⟩ = false := fun j => frozen_of_row _ _ _ _ _ b3.r
    have RR : Hid (_ = _) := b3.r
    have HT3 : Hid (Tch (fun _ => False) w w3) := HT2.out.trans ht3 (fun _ h => h.elim)
    have HLN3 : Hid (NodeAt (dgW width) F w3 ln _) := HLN.out.next ht3
    clear ht3 b3 HN d0 d1
    go_wp2
    rw [set2 _ _ _ _ _ _ _ RR.out]
    refine bodyPost_ret (v := .tuple #[.agg #[.int .i64 (width : Int), .pointer (some ⟨ln, 0, none⟩)], .nilIface]) (results_cell_tmp Tryz.results191 _ _ (w.heap.size + 1 + 1 + 1) _ _ (0, 0) _ rfl (setRow_heap _ _ _ _ _ _ RR.out) Tryz.underlying146 rfl (by kernel_rfl)) rfl ⟨?_, some ln, rfl, ?_⟩
    · exact HT3.out.trans (Tch.setRow _ _ _) (fun j hj => .inr (by omega))
    · exact StAt.row (q := some ln) (st := some _) HLN3.out RR.out (by decide)
  | some t =>
    obtain ⟨n, rfl, hn⟩ := HS.out.of_some
    obtain rfl : rv = some ⟨n, 0, none⟩ := by have := HRQ.out; simpa [rootV] using this.symm
    have HTO : Hid (TrOk width t) := HOK.out
    have HNT : Hid (NodeAt (dgW width) F w2 n t) := hn.next HT2.out
    have HN : Hid (Calls Tryz.prog 269 #[.agg #[.int .i64 (width : Int), .pointer (some ⟨n, 0, none⟩)], .string kb] w2 fun e w' => ∃ m, e = .returned (.pointer (some ⟨m, 0, none⟩)) ∧ NodeAt (dgW width) F w' m (.leaf (t.near (coinB (cs, cn))).1 (t.near (coinB (cs, cn))).2) ∧ Tch (fun _ => False) w2 w') := by
      have := nearest_some width (by omega) (dgW width) F n t (coinB (cs, cn)) hkl w2 HNT.out HTO.out
      rw [HKB.out] at this
      exact this
    clear hn
    go_wp2_with fail
    refine HN.out.mono ?_
    rintro _ w3 ⟨m, rfl, hm, ht3⟩
    have b3 := HB2.out.next ht3
    have e0 : w3.cell? ⟨w.heap.size, 0, none⟩ = some (.int .i64 (width : Int)) := cell_of_row _ _ _ _ _ _ b3.t
    have e1 : w3.cell? ⟨w.heap.size, 1, none⟩ = some (.pointer (some ⟨n, 0, none⟩)) := cell_of_row _ _ _ _ _ _ b3.t
    have r0 : w3.cell? ⟨w.heap.size + 1 + 1 + 1, 0, none⟩ = some (.int .i64 0) := cell_of_row _ _ _ _ _ _ b3.r
    have r1 : w3.cell? ⟨w.heap.size + 1 + 1 + 1, 1, none⟩ = some (.pointer none) := cell_of_row _ _ _ _ _ _ b3.r
    have fR : ∀ j, w3.frozen? ⟨w.heap.size + 1 + 1 + 1, j, none⟩ = false := fun j => frozen_of_row _ _ _ _ _ b3.r
    have hmk : w3.cell? ⟨m, 1, none⟩ = some (.string ⟨(t.near (coinB (cs, cn))).1.toArray⟩) := by cases hm with | leaf _ _ _ _ hr => exact cell_of_row _ _ _ _ _ _ hr
    have hmlt := hm.own.2
    have hnk := HTO.out.near (k := coinB (cs, cn))
    have HT3 : Hid (Tch (fun _ => False) w w3) := HT2.out.trans ht3 (fun _ h => h.elim)
    have HLN3 : Hid (NodeAt (dgW width) F w3 ln _) := HLN.out.next ht3
    have HNT3 : Hid (NodeAt (dgW width) F w3 n t) := HNT.out.next ht3
    have HB3 : Hid (WithBox w w3 width (some n) (cs, cn) (oa, oo)) := b3
    have hex := (HE.out.tch HT3.out (fun _ h => h.elim)).exist
    clear ht3 b3 HN d0 d1 hm HNT HLN HB2
    generalize hNB : (⟨(t.near (coinB (cs, cn))).1.toArray⟩ : ByteArray) = nb at *
    have HNB : Hid (_ = nb) := hNB
    clear hNB
    by_cases heq : (t.near (coinB (cs, cn))).1 = coinB (cs, cn)
    · have hkk : nb = kb := by rw [← HNB.out, heq]; exact HKB.out
      have HWE : Hid (withT (some t) (coinB (cs, cn)) (oa, oo) = .error .exist) := if_pos heq
      subst hkk
      clear heq hnk
      go_wp2
      go_region
      all_goals
        go_wp2
        rw [set2 _ _ _ _ _ _ _ HB3.out.r]
        refine bodyPost_ret (v := .tuple #[.agg #[.int .i64 0, .pointer none], eV E 2]) (results_cell_tmp Tryz.results191 _ _ (w.heap.size + 1 + 1 + 1) _ _ (0, 0) _ rfl (setRow_heap _ _ _ _ _ _ HB3.out.r) Tryz.underlying146 rfl (by kernel_rfl)) rfl ⟨?_, ?_⟩
        · exact (HT3.out.trans (Tch.drewN (fun _ => False) w3 1) (fun _ h => h.elim)).trans (Tch.setRow _ _ _) (fun j hj => .inr (by omega))
        · rw [HWE.out]; rfl
    · have hnl : nb.data.toList = (t.near (coinB (cs, cn))).1 := by rw [← HNB.out]
      have hkl2 : kb.data.toList = coinB (cs, cn) := by rw [← HKB.out]
      have hne : (nb.toList == kb.toList) = false := by
        rw [ByteArray.toList_eq, ByteArray.toList_eq, hnl, hkl2]
        simpa using heq
      have HWO : Hid (withT (some t) (coinB (cs, cn)) (oa, oo) = .ok (some (t.graft (coinB (cs, cn)) (oa, oo) (fd (t.near (coinB (cs, cn))).1 (coinB (cs, cn)))))) := if_neg heq
      have hfd := fd_ok (t.near (coinB (cs, cn))).1 (coinB (cs, cn)) (by omega) heq
      have HFD : Hid (∀ W, Calls Tryz.prog 271 #[.string nb, .string kb] W fun e w' => e = .returned (.int .i64 (fd (t.near (coinB (cs, cn))).1 (coinB (cs, cn)) : Int)) ∧ ∃ n, w' = W.drewN n) := fun W => by
        have := fdiff_any (t.near (coinB (cs, cn))).1 (coinB (cs, cn)) (by omega) heq (by omega) W
        rw [HNB.out, HKB.out] at this
        exact this
      have HGR : Hid (∀ W, Tch (fun _ => False) w3 W → Calls Tryz.prog 270 #[.agg #[.int .i64 (width : Int), .pointer (some ⟨n, 0, none⟩)], .pointer (some ⟨n, 0, none⟩), .pointer (some ⟨ln, 0, none⟩), .int .i64 (fd (t.near (coinB (cs, cn))).1 (coinB (cs, cn)) : Int)] W fun e w' => ∃ m, e = .returned (.tuple #[.pointer (some ⟨m, 0, none⟩), .nilIface]) ∧ NodeAt (dgW width) F w' m (t.graft (coinB (cs, cn)) (oa, oo) (fd (t.near (coinB (cs, cn))).1 (coinB (cs, cn)))) ∧ Tch (fun _ => False) W w') := fun W hT =>
        graft_any E width hw1 hw F _ _ _ HL.out _ (by have := hfd.1; omega) ln t n W HTO.out (HE.out.tch (HT3.out.trans hT (fun _ h => h.elim)) (fun _ h => h.elim)) (fun j hj => HF.out j (Nat.le_trans (HT3.out.trans hT (fun _ h => h.elim)).size hj)) (HNT3.out.next hT) (HLN3.out.next hT)
      clear hnl hkl2 heq hnk hfd HL
      generalize fd (t.near (coinB (cs, cn))).1 (coinB (cs, cn)) = dd at *
      have hz3 := (Array.getElem?_eq_some_iff.1 HB3.out.r).1
      go_wp2_with fail
      go_region_held3 (fun W => W.cell? ⟨w.heap.size, 0, none⟩ = some (.int .i64 (width : Int)) ∧ W.cell? ⟨w.heap.size, 1, none⟩ = some (.pointer (some ⟨n, 0, none⟩)) ∧ W.cell? ⟨m, 1, none⟩ = some (.string nb)) (go_keep) ((first | (go_at_call 271; refine (HFD.out _).mono ?_; rintro _ _ ⟨rfl, m5, rfl⟩) | (go_at_call 270; refine (HGR.out _ (Tch.drewN (fun _ => False) w3 _)).mono ?_; rintro _ w4 ⟨g4, rfl, hg4, ht4⟩; have hT4 : Tch (fun _ => False) w3 w4 := (Tch.drewN (fun _ => False) w3 _).trans ht4 (fun _ h => h.elim); have f0 := (hT4.cell (p := ⟨w.heap.size, 0, none⟩) (by show w.heap.size < _; omega) (fun h => h)).trans e0; have f1 := (hT4.cell (p := ⟨w.heap.size, 1, none⟩) (by show w.heap.size < _; omega) (fun h => h)).trans e1; have f2 := (hT4.cell (p := ⟨m, 1, none⟩) hmlt (fun h => h)).trans hmk; have HG4 : Hid (NodeAt _ _ _ _ _) := hg4; have HT4 : Hid (Tch (fun _ => False) w3 w4) := hT4; clear hg4 ht4 hT4)))
      all_goals
        have b4 := HB3.out.next HT4.out
        have s0 : w4.cell? ⟨w.heap.size + 1 + 1 + 1, 0, none⟩ = some (.int .i64 0) := cell_of_row _ _ _ _ _ _ b4.r
        have s1 : w4.cell? ⟨w.heap.size + 1 + 1 + 1, 1, none⟩ = some (.pointer none) := cell_of_row _ _ _ _ _ _ b4.r
        have fS : ∀ j, w4.frozen? ⟨w.heap.size + 1 + 1 + 1, j, none⟩ = false := fun j => frozen_of_row _ _ _ _ _ b4.r
        have RR : Hid (_ = _) := b4.r
        clear b4 HFD HGR
        go_wp2
        rw [set2 _ _ _ _ _ _ _ RR.out]
        refine bodyPost_ret (v := .tuple #[.agg #[.int .i64 (width : Int), .pointer (some ⟨g4, 0, none⟩)], .nilIface]) (results_cell_tmp Tryz.results191 _ _ (w.heap.size + 1 + 1 + 1) _ _ (0, 0) _ rfl (setRow_heap _ _ _ _ _ _ RR.out) Tryz.underlying146 rfl (by kernel_rfl)) rfl ⟨?_, ?_⟩
        · exact (HT3.out.trans HT4.out (fun _ h => h.elim)).trans (Tch.setRow _ _ _) (fun j hj => .inr (by omega))
        · rw [HWO.out]
          exact ⟨some g4, rfl, StAt.row (q := some g4) (st := some _) HG4.out RR.out (by decide)⟩
end Go.Proofs.YtighkdnooglfjaaGreatDoor
