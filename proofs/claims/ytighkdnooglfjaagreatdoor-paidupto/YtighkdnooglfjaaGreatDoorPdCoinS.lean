/-
  The contract of (*wire.Coder).Coin, whatever the port's state is; outputs and coins as parts of lists ('partO', 'partC'), and (*wire.Coder).FirstOuts.
-/
import Derived.Test.YtighkdnooglfjaaGreatDoorPdLst
import Derived.Test.YtighkdnooglfjaaGreatDoorPdLsO
import Derived.Test.YtighkdnooglfjaaGreatDoorPdLsC
import Derived.Test.YtighkdnooglfjaaGreatDoorPdPRt
namespace Go.Proofs.YtighkdnooglfjaaGreatDoor
open Go.RowKit

theorem coinX_wrap (n : Int) : IntKind.u64.wrap n = (coinX n : Int) := by
  simp [IntKind.wrap, IntKind.bits, IntKind.signed, coinX]; omega
/-- What a port makes of a coin, whatever its state is. -/
def stCoin (width : Nat) (c : ByteArray × Int) (st : Option PS) : (List UInt8 × Nat) × Option PS :=
  (((stTxt c.1.data.toList width st).1, (stNum (coinX c.2) 1 (stTxt c.1.data.toList width st).2).1), if 3 ≤ (stNum (coinX c.2) 1 (stTxt c.1.data.toList width st).2).1 then none else (stNum (coinX c.2) 1 (stTxt c.1.data.toList width st).2).2)
theorem stCoin_none (width : Nat) (c : ByteArray × Int) (p : PS) (h : p.coin width c = none) : (stCoin width c (some p)).2 = none := by
  unfold stCoin
  unfold PS.coin at h
  cases h1 : p.txt c.1.data.toList width with
  | none => rw [stTxt_none h1, stNum_bad]; rfl
  | some r =>
    obtain ⟨t, p1⟩ := r
    rw [stTxt_some h1]
    simp only [h1] at h
    cases h2 : p1.num (coinX c.2) 1 with
    | none => rw [stNum_none h2]; rfl
    | some r =>
      obtain ⟨m, p2⟩ := r
      rw [stNum_some h2]
      simp only [h2] at h
      split at h
      · cases h
      · exact if_pos (by simp only; omega)
theorem stCoin_some (width : Nat) (c y : ByteArray × Int) (p p2 : PS) (h : p.coin width c = some (y, p2)) : (stCoin width c (some p)).2 = some p2 ∧ y = (⟨(stCoin width c (some p)).1.1.toArray⟩, ((stCoin width c (some p)).1.2 : Int)) := by
  unfold stCoin
  unfold PS.coin at h
  cases h1 : p.txt c.1.data.toList width with
  | none => rw [h1] at h; cases h
  | some r =>
    obtain ⟨t, p1⟩ := r
    rw [stTxt_some h1]
    simp only [h1] at h
    cases h2 : p1.num (coinX c.2) 1 with
    | none => rw [h2] at h; cases h
    | some r =>
      obtain ⟨m, p2'⟩ := r
      rw [stNum_some h2]
      simp only [h2] at h
      split at h
      · rename_i h3
        simp only [Option.some.injEq, Prod.mk.injEq] at h
        obtain ⟨rfl, rfl⟩ := h
        exact ⟨if_neg (by simp only; omega), rfl⟩
      · cases h
theorem i64wrap_id (m : Nat) (h : m < 256) : IntKind.i64.wrap (m : Int) = (m : Int) := i64wrap_small _ (by omega) (by omega)

set_option maxRecDepth 100000 in
set_option maxHeartbeats 1000000 in
theorem coin_st (E : Nat → Addr) (b : Nat) (hb12 : 18 ≤ b) (g : Option Nat) (width : Nat) (c : ByteArray × Int) (st : Option PS) (w : World) (hE : Env E w) (hp : PortSt E w b g width st) (hd : stLen st + width ≤ 90000000) :
    Calls Tryz.prog 203 #[.pointer (some ⟨b, 0, none⟩), .agg #[.string c.1, .int .i64 c.2]] w fun e w' => e = .returned (.agg #[.string ⟨(stCoin width c st).1.1.toArray⟩, .int .i64 ((stCoin width c st).1.2 : Int)]) ∧ StTo E w w' b g width (stCoin width c st).2 := by
  have hlt := hp.lt
  have hx := coinX_wrap c.2
  obtain ⟨s, N⟩ := c
  simp only at hx
  have HC : Hid (stCoin width (s, N) st = (((stTxt s.data.toList width st).1, (stNum (coinX N) 1 (stTxt s.data.toList width st).2).1), if 3 ≤ (stNum (coinX N) 1 (stTxt s.data.toList width st).2).1 then none else (stNum (coinX N) 1 (stTxt s.data.toList width st).2).2)) := rfl
  simp only
  go_enter Tryz.func203, Tryz.ntmps203
  go_wp2_with fail
  refine (digest_st E b g width s st _ (hE.allocs _ _) (hp.next (Tch.allocs _ _ _ _)) (by omega)).mono ?_
  rintro _ w1 ⟨rfl, g1, hp1, hm1, ht1⟩
  have hl1 := stTxt_len s.data.toList width st
  generalize hS1 : (stTxt s.data.toList width st).2 = st1 at *
  generalize hTB : (⟨(stTxt s.data.toList width st).1.toArray⟩ : ByteArray) = tb at *
  have HS1 : Hid (_ = st1) := hS1
  have HTB : Hid (_ = tb) := hTB
  clear hS1 hTB
  have cB : w1.cell? ⟨w.heap.size, 1, none⟩ = some (.int .i64 N) := (ht1.cell (p := ⟨w.heap.size, 1, none⟩) (by simp; omega) (st_new hp _ (Nat.le_refl _))).trans (cell_of_row _ _ _ _ _ _ (heap_alloc2_old _ _ _))
  have rR : w1.heap[w.heap.size + 1]? = some (.cells #[.string ⟨#[]⟩, .int .i64 0] 49) := (ht1.block _ (by simp) (st_new hp _ (by omega))).trans (heap_alloc2_new _ _ _)
  have hsz1 := ht1.size
  simp at hsz1
  have HE1 : Hid (Env E w1) := (hE.allocs _ _).tch ht1 (st_high hb12 hp)
  have HN : Hid (∀ g', Moved w1 g1 g' → ¬ (w.heap.size + 1 = b ∨ some (w.heap.size + 1) = g')) := fun g' hm => st_new_moved hp (hm1.trans hm ht1.size) _ (by omega) (by simp)
  have RR : Hid (_ = _) := rR
  have HM1 : Hid (Moved _ _ _) := hm1
  have HT1 : Hid (Tch _ _ _) := ht1
  have HP1 : Hid (PortSt _ _ _ _ _ _) := hp1
  clear rR hm1 ht1 hp hE hp1
  go_wp2_with fail
  refine (number_st E b g1 width (coinX N) 1 st1 _ HE1.out HP1.out (by omega) (by omega)).mono ?_
  rintro _ w2 ⟨rfl, g2, hp2, hm2, ht2⟩
  have hm := stNum_lt (coinX N) 1 st1
  generalize hS2 : (stNum (coinX N) 1 st1).2 = st2 at *
  generalize hM : (stNum (coinX N) 1 st1).1 = m at *
  have HS2 : Hid (_ = st2) := hS2
  have HMM : Hid (_ = m) := hM
  clear hS2 hM
  have hw2 := i64wrap_id m (by omega)
  have rR2 : w2.heap[w.heap.size + 1]? = some (.cells #[.string ⟨#[]⟩, .int .i64 0] 49) := (ht2.block _ (by omega) (HN.out g1 (.inl rfl))).trans RR.out
  have RR2 : Hid (_ = _) := rR2
  have HE2 : Hid (Env E w2) := HE1.out.tch ht2 (st_high hb12 HP1.out)
  have HP2 : Hid (PortSt _ _ _ _ _ _) := hp2
  have HM2 : Hid (Moved _ _ _) := hm2
  have HT2 : Hid (Tch _ _ _) := ht2
  have TA : Hid (Tch (fun k => k = b ∨ some k = g) _ w2) := port_trans HT1.out ht2 HM1.out
  have MA : Hid (Moved _ g g2) := HM1.out.trans hm2 HT1.out.size
  by_cases h3 : 3 ≤ m
  · have h3i : (3 : Int) ≤ (m : Int) := by omega
    clear rR2 hp2 hm2 ht2
    go_wp2_with fail
    refine (refuse_st E b g2 width _ st2 w2 HE2.out HP2.out).mono ?_
    rintro _ w3 ⟨rfl, g3, hp3, hm3, ht3⟩
    have rR3 : w3.heap[w.heap.size + 1]? = some (.cells #[.string ⟨#[]⟩, .int .i64 0] 49) := (ht3.block _ (Array.getElem?_eq_some_iff.1 RR2.out).1 (HN.out g2 HM2.out)).trans RR2.out
    have e0 : w3.cell? ⟨w.heap.size + 1, 0, none⟩ = some (.string ⟨#[]⟩) := cell_of_row _ _ _ _ _ _ rR3
    have e1 : w3.cell? ⟨w.heap.size + 1, 1, none⟩ = some (.int .i64 0) := cell_of_row _ _ _ _ _ _ rR3
    have fR : ∀ j, w3.frozen? ⟨w.heap.size + 1, j, none⟩ = false := fun j => frozen_of_row _ _ _ _ _ rR3
    have RR3 : Hid (_ = _) := rR3
    have HP3 : Hid (PortSt _ _ _ _ _ _) := hp3
    have HM3 : Hid (Moved _ _ _) := hm3
    have HT3 : Hid (Tch _ _ _) := ht3
    clear rR3 hp3 hm3 ht3
    go_wp2
    rw [set2 _ _ _ _ _ _ _ RR3.out]
    obtain rfl := HTB.out
    obtain rfl := HS2.out
    obtain rfl := HMM.out
    obtain rfl := HS1.out
    refine bodyPost_ret (v := .agg #[.string _, .int .i64 _]) (results_cell_row Tryz.results203 _ _ (w.heap.size + 1) _ _ (0, 0) _ rfl (setRow_heap _ _ _ _ _ _ RR3.out) Tryz.underlying49 rfl (by kernel_rfl)) rfl ⟨by rw [HC.out], ?_⟩
    rw [HC.out, if_pos h3]
    refine StTo.row (StTo.fresh (Tch.allocs _ _ _ _) (StTo.trans MA.out TA.out ⟨g3, HP3.out, HM3.out, HT3.out⟩)) (by omega) RR3.out (by decide) (by omega) (fun g' _ hg e => ?_)
    exact HN.out g3 (HM2.out.trans HM3.out HT2.out.size) (.inr (by rw [e]; exact hg.same HP3.out))
  · have h3i : ¬ (3 : Int) ≤ (m : Int) := by omega
    have e0 : w2.cell? ⟨w.heap.size + 1, 0, none⟩ = some (.string ⟨#[]⟩) := cell_of_row _ _ _ _ _ _ rR2
    have e1 : w2.cell? ⟨w.heap.size + 1, 1, none⟩ = some (.int .i64 0) := cell_of_row _ _ _ _ _ _ rR2
    have fR : ∀ j, w2.frozen? ⟨w.heap.size + 1, j, none⟩ = false := fun j => frozen_of_row _ _ _ _ _ rR2
    clear rR2 hp2 hm2 ht2
    go_wp2
    rw [set2 _ _ _ _ _ _ _ RR2.out]
    obtain rfl := HTB.out
    obtain rfl := HS2.out
    obtain rfl := HMM.out
    obtain rfl := HS1.out
    refine bodyPost_ret (v := .agg #[.string _, .int .i64 _]) (results_cell_row Tryz.results203 _ _ (w.heap.size + 1) _ _ (0, 0) _ rfl (setRow_heap _ _ _ _ _ _ RR2.out) Tryz.underlying49 rfl (by kernel_rfl)) rfl ⟨by rw [HC.out], ?_⟩
    rw [HC.out, if_neg h3]
    refine StTo.row (StTo.fresh (Tch.allocs _ _ _ _) ⟨g2, HP2.out, MA.out, TA.out⟩) (by omega) RR2.out (by decide) (by omega) (fun g' _ hg e => ?_)
    exact HN.out g2 HM2.out (.inr (by rw [e]; exact hg.same HP2.out))

theorem num1_lt (x m : Nat) (p p1 : PS) (h : p.num x 1 = some (m, p1)) : m < 256 := by
  have := stNum_lt x 1 (some p)
  rw [stNum_some h] at this
  simpa using this
theorem out_inv (a o : Nat) (y : Nat × Nat) (p p2 : PS) (h : p.out a o = some (y, p2)) : ∃ p1, p.num a 8 = some (y.1, p1) ∧ p1.num o 1 = some (y.2, p2) ∧ p1.len ≤ p.len + 8 ∧ p2.len ≤ p.len + 9 ∧ y.2 < 256 := by
  unfold PS.out at h
  cases q : p.num a 8 with
  | none => simp [q] at h
  | some r =>
    obtain ⟨a', p1⟩ := r
    simp only [q] at h
    cases q2 : p1.num o 1 with
    | none => simp [q2] at h
    | some s =>
      obtain ⟨o', p2'⟩ := s
      simp only [q2, Option.some.injEq, Prod.mk.injEq] at h
      obtain ⟨rfl, rfl⟩ := h
      have l1 := num_len _ _ _ _ _ q
      have l2 := num_len _ _ _ _ _ q2
      exact ⟨p1, rfl, q2, l1, by omega, num1_lt _ _ _ _ q2⟩
/-- An output in memory; outputs as parts. -/
def encO (o : Nat × Nat) : VV := (.int .u64 (o.1 : Int), .int .u8 (o.2 : Int))
def partO : PartOf (Nat × Nat) where
  f := fun o p => p.out o.1 o.2
  grow := 9
  zero := (0, 0)
  zeroV := zO
  Init := fun _ _ _ x o => x = encO o ∧ o.2 < 256
  Done := fun _ _ _ x o => x = encO o
theorem lawO (E : Nat → Addr) (b : Nat) (hb12 : 18 ≤ b) (width lim : Nat) (hl : lim ≤ 80000000) : PartLaw E b width lim lkO.fP partO ShO where
  init_tch := fun h _ _ _ => h
  init_zero := fun _ _ => ⟨rfl, by decide⟩
  init_shape := fun h => ⟨_, _, h.1⟩
  done_tch := fun h _ _ _ => h
  done_mono := fun h _ => h
  like := fun {a a' p p'} h => by
    obtain ⟨p1, h1, h2, _⟩ := out_inv _ _ _ _ _ h
    exact (num_like h1).trans (num_like h2)
  len := fun {w x a a' p p'} _ h => by
    obtain ⟨p1, _, _, _, h2, _⟩ := out_inv _ _ _ _ _ h
    exact h2
  call := fun {w g p x a} hE hp hI hd => by
    obtain ⟨rfl, ha⟩ := hI
    show Calls _ _ #[_, .agg #[.int .u64 (a.1 : Int), .int .u8 (a.2 : Int)]] _ _
    show Calls _ _ _ _ fun e w' => ∃ y, ShO y ∧ e = _ ∧ ToP E w b g width partO (p.out a.1 a.2) y w'
    cases h : p.out a.1 a.2 with
    | none =>
      have hno : Calls Tryz.prog 205 #[.pointer (some ⟨b, 0, none⟩), .agg #[.int .u64 (a.1 : Int), .int .u8 (a.2 : Int)]] w fun e w' => ∃ x y : Int, e = .returned (.agg #[.int .u64 x, .int .u8 y]) ∧ PortNo E w w' b g width := by
        unfold PS.out at h
        cases h1 : p.num a.1 8 with
        | none => exact out_none1 E b g width a.1 a.2 p w hE hp (by omega) h1
        | some r =>
          obtain ⟨a', p1⟩ := r
          simp only [h1] at h
          cases h2 : p1.num a.2 1 with
          | none => exact out_none2 E b hb12 g width a.1 a.2 a' p p1 w hE hp (by omega) ha h1 h2
          | some r => simp [h2] at h
      refine hno.mono ?_
      rintro e w' ⟨x, y, rfl, g', p', h1, h2, h3⟩
      exact ⟨(.int .u64 x, .int .u8 y), ⟨_, _, rfl⟩, rfl, g', _, p', h1, h2, h3, .base⟩
    | some r =>
      obtain ⟨y, p2⟩ := r
      obtain ⟨p1, h1, h2, l1, l2, hy⟩ := out_inv _ _ _ _ _ h
      refine (out_some b g width a.1 a.2 y.1 y.2 p p1 p2 w hp (by omega) (by omega) ha h1 h2 hy).mono ?_
      rintro e w' ⟨rfl, g', k1, k2, k3⟩
      exact ⟨encO y, ⟨_, _, rfl⟩, rfl, g', _, p2, k1, k2, k3, rfl, rfl, rfl⟩
/-- A coin in memory; coins as parts. -/
def encC (c : ByteArray × Int) : VV := (.string c.1, .int .i64 c.2)
def partC (width : Nat) : PartOf (ByteArray × Int) where
  f := fun c p => p.coin width c
  grow := width + 1
  zero := (⟨#[]⟩, 0)
  zeroV := zC
  Init := fun _ _ _ x c => x = encC c
  Done := fun _ _ _ x c => x = encC c
theorem coin_parts {width : Nat} {c y : ByteArray × Int} {p p2 : PS} (h : p.coin width c = some (y, p2)) : p.like p2 ∧ p2.len ≤ p.len + (width + 1) := by
  unfold PS.coin at h
  cases q : p.txt c.1.data.toList width with
  | none => simp [q] at h
  | some r =>
    obtain ⟨t, p1⟩ := r
    simp only [q] at h
    cases q2 : p1.num (coinX c.2) 1 with
    | none => simp [q2] at h
    | some s =>
      obtain ⟨m, p2'⟩ := s
      simp only [q2] at h
      split at h
      · simp only [Option.some.injEq, Prod.mk.injEq] at h
        obtain ⟨_, rfl⟩ := h
        have l1 := txt_len _ _ _ _ _ q
        have l2 := num_len _ _ _ _ _ q2
        exact ⟨(txt_like q).trans (num_like q2), by omega⟩
      · cases h
theorem lawC (E : Nat → Addr) (b : Nat) (hb12 : 18 ≤ b) (width lim : Nat) (hl : lim + width ≤ 80000000) : PartLaw E b width lim lkC.fP (partC width) ShC where
  init_tch := fun h _ _ _ => h
  init_zero := fun _ _ => rfl
  init_shape := fun h => ⟨_, _, h⟩
  done_tch := fun h _ _ _ => h
  done_mono := fun h _ => h
  like := fun h => (coin_parts h).1
  len := fun _ h => (coin_parts h).2
  call := fun {w g p x a} hE hp hI hd => by
    obtain rfl := hI
    show Calls _ _ #[_, .agg #[.string a.1, .int .i64 a.2]] _ _
    refine (coin_st E b hb12 g width a (some p) w hE hp (by simp only [stLen]; omega)).mono ?_
    rintro e w' ⟨rfl, g', k1, k2, k3⟩
    refine ⟨(.string _, .int .i64 _), ⟨_, _, rfl⟩, rfl, ?_⟩
    show ToP E w b g width (partC width) (p.coin width a) _ w'
    cases h : p.coin width a with
    | none =>
      rw [stCoin_none width a p h] at k1
      obtain ⟨p', t, u, h1, h2⟩ := k1
      exact ⟨g', _, p', h1, k2, k3, h2⟩
    | some r =>
      obtain ⟨y, p2⟩ := r
      obtain ⟨e1, e2⟩ := stCoin_some width a y p p2 h
      rw [e1] at k1
      exact ⟨g', _, p2, k1, k2, k3, rfl, rfl, by rw [e2]; rfl⟩
theorem many_outs : ∀ (l : List (Nat × Nat)) (p : PS), PS.many partO.f l p = PS.outs l p
  | [], _ => rfl
  | x :: r, p => by
    simp only [PS.many, PS.outs]
    have e : partO.f x p = p.out x.1 x.2 := rfl
    rw [e]
    cases p.out x.1 x.2 with
    | none => rfl
    | some q => simp only [many_outs r]; cases PS.outs r q.2 <;> rfl
theorem many_coins (width : Nat) : ∀ (l : List (ByteArray × Int)) (p : PS), PS.many (partC width).f l p = PS.coins width l p
  | [], _ => rfl
  | x :: r, p => by
    simp only [PS.many, PS.coins]
    have e : (partC width).f x p = p.coin width x := rfl
    rw [e]
    cases p.coin width x with
    | none => rfl
    | some q => simp only [many_coins width r]; cases PS.coins width r q.2 <;> rfl
theorem startV_O (l : List (Nat × Nat)) (cnt : Nat) : startV (0, 0) l cnt = startO l cnt := by
  unfold startV startO
  cases l <;> simp
theorem startV_C (l : List (ByteArray × Int)) (cnt : Nat) : startV (⟨#[]⟩, 0) l cnt = startC l cnt := by
  unfold startV startC
  cases l <;> simp
theorem lst_O (least most : Nat) (l : List (Nat × Nat)) (p : PS) : p.lst partO.f partO.zero 1 least most l = p.listO least most l := by
  unfold PS.lst PS.listO
  cases p.num l.length 1 with
  | none => rfl
  | some r => simp only [many_outs, ← startV_O]; rfl
theorem lst_C (width least most : Nat) (l : List (ByteArray × Int)) (p : PS) : p.lst (partC width).f (partC width).zero 1 least most l = p.listC width least most l := by
  unfold PS.lst PS.listC
  cases p.num l.length 1 with
  | none => rfl
  | some r => simp only [many_coins, ← startV_C]; rfl
theorem OutsAt.vat {B : Nat} {w : World} {v : Value} {l : List (Nat × Nat)} (h : OutsAt B w v l) : VAt B w v (l.map encO) := by
  rcases h with ⟨h1, h2⟩ | ⟨gi, oi, c, h1, h2, h3, h4⟩
  · exact .inl ⟨h1, by rw [h2]; rfl⟩
  · exact .inr ⟨gi, oi, c, by rw [List.length_map]; exact h1, h2, h3, fun i hi => by
      rw [List.getElem_map]; exact h4 i (by simpa using hi)⟩
theorem CoinsAt.vat {B : Nat} {w : World} {v : Value} {l : List (ByteArray × Int)} (h : CoinsAt B w v l) : VAt B w v (l.map encC) := by
  rcases h with ⟨h1, h2⟩ | ⟨gi, oi, c, h1, h2, h3, h4⟩
  · exact .inl ⟨h1, by rw [h2]; rfl⟩
  · exact .inr ⟨gi, oi, c, by rw [List.length_map]; exact h1, h2, h3, fun i hi => by
      rw [List.getElem_map]; exact h4 i (by simpa using hi)⟩
theorem map_of_done {α : Type} (enc : α → VV) : ∀ (xs : List VV) (ys : List α), xs.length = ys.length → (∀ (j : Nat) x a, xs[j]? = some x → ys[j]? = some a → x = enc a) → xs = ys.map enc := by
  intro xs ys hl h
  apply List.ext_getElem (by simpa using hl)
  intro j h1 h2
  rw [List.getElem_map]
  exact h j _ _ (List.getElem?_eq_getElem h1) (List.getElem?_eq_getElem (by omega))
/-- What a port's list of outputs comes to: a new list, or an error that is fault.Form. -/
def ToO (E : Nat → Addr) (w : World) (b : Nat) (g : Option Nat) (width : Nat) (r : Option (List (Nat × Nat) × PS)) (e : Ending) (w' : World) : Prop :=
  match r with
  | some (ys, p2) => ∃ gp, e = .returned (.slice (some ⟨gp, 0, none⟩) ys.length ys.length) ∧ w.heap.size ≤ gp ∧ w'.heap[gp]? = some (.cells (vvA (ys.map encO)) 80) ∧ ∃ g', PortAt w' b g' width .nilIface p2 ∧ some gp ≠ g' ∧ Moved w g g' ∧ Tch (fun k => k = b ∨ some k = g) w w'
  | none => (∃ a n c, e = .returned (.slice a n c)) ∧ PortBad E w w' b g width
def ToC (E : Nat → Addr) (w : World) (b : Nat) (g : Option Nat) (width : Nat) (r : Option (List (ByteArray × Int) × PS)) (e : Ending) (w' : World) : Prop :=
  match r with
  | some (ys, p2) => ∃ gp, e = .returned (.slice (some ⟨gp, 0, none⟩) ys.length ys.length) ∧ w.heap.size ≤ gp ∧ w'.heap[gp]? = some (.cells (vvA (ys.map encC)) 49) ∧ ∃ g', PortAt w' b g' width .nilIface p2 ∧ some gp ≠ g' ∧ Moved w g g' ∧ Tch (fun k => k = b ∨ some k = g) w w'
  | none => (∃ a n c, e = .returned (.slice a n c)) ∧ PortBad E w w' b g width
theorem ToO.of {E : Nat → Addr} {w w' : World} {b : Nat} {g : Option Nat} {width : Nat} {r : Option (List (Nat × Nat) × PS)} {e : Ending} (h : ToL lkO E w b g width partO r e w') : ToO E w b g width r e w' := by
  cases r with
  | none => exact h
  | some r =>
    obtain ⟨ys, p2⟩ := r
    obtain ⟨gp, xs, h1, h2, h3, h4, g', h5, h6, h7, h8, h9⟩ := h
    exact ⟨gp, h1, h2, by rw [map_of_done encO xs ys h4 h7] at h3; exact h3, g', h5, h6, h8, h9⟩
theorem ToC.of {E : Nat → Addr} {w w' : World} {b : Nat} {g : Option Nat} {width : Nat} {r : Option (List (ByteArray × Int) × PS)} {e : Ending} (h : ToL lkC E w b g width (partC width) r e w') : ToC E w b g width r e w' := by
  cases r with
  | none => exact h
  | some r =>
    obtain ⟨ys, p2⟩ := r
    obtain ⟨gp, xs, h1, h2, h3, h4, g', h5, h6, h7, h8, h9⟩ := h
    exact ⟨gp, h1, h2, by rw [map_of_done encC xs ys h4 h7] at h3; exact h3, g', h5, h6, h8, h9⟩
theorem ToO.shape {E : Nat → Addr} {w w' : World} {b : Nat} {g : Option Nat} {width : Nat} {r : Option (List (Nat × Nat) × PS)} {e : Ending} (h : ToO E w b g width r e w') : ∃ a n c, e = .returned (.slice a n c) := by
  cases r with
  | none => exact h.1
  | some r => obtain ⟨gp, he, _⟩ := h; exact ⟨_, _, _, he⟩
theorem ToC.shape {E : Nat → Addr} {w w' : World} {b : Nat} {g : Option Nat} {width : Nat} {r : Option (List (ByteArray × Int) × PS)} {e : Ending} (h : ToC E w b g width r e w') : ∃ a n c, e = .returned (.slice a n c) := by
  cases r with
  | none => exact h.1
  | some r => obtain ⟨gp, he, _⟩ := h; exact ⟨_, _, _, he⟩
theorem listO_all (E : Nat → Addr) (b : Nat) (hb12 : 18 ≤ b) (g : Option Nat) (width : Nat) (what : ByteArray) (v : Value) (l : List (Nat × Nat)) (least most : Nat) (p0 : PS) (w : World)
    (hE : Env E w) (hp : PortAt w b g width .nilIface p0) (hv : OutsAt b w v l) (hwh : what.size ≤ 1000) (hl3 : l.length < 1000000) (hm3 : most ≤ 3) (hvc : p0.takes v) (ho : ∀ x ∈ l, x.2 < 256) (hd : p0.len ≤ 70000000) :
    Calls Tryz.prog 204 #[.pointer (some ⟨b, 0, none⟩), .agg #[.string what, .int .i64 ((1 : Nat) : Int), .int .u64 (least : Int), .int .u64 (most : Int)], v, .func (.func 205) #[.pointer (some ⟨b, 0, none⟩)] #[]] w fun e w' => ToO E w b g width (p0.listO least most l) e w' := by
  rw [← lst_O]
  exact (lsO_all (lawO E b hb12 width 80000000 (by omega)) rfl hb12 g what hwh 1 least most v (l.map encO) l p0 w hE hp hv.vat (by simp) hl3 (by simp only [partO]; omega) (by omega) (by omega) hm3 hvc (fun j x a h1 h2 => by
    rw [List.getElem?_map, h2] at h1
    simp only [Option.map_some, Option.some.injEq] at h1
    exact ⟨h1.symm, ho a (List.mem_of_getElem? h2)⟩)).mono fun e w' h => ToO.of h
theorem listC_all (E : Nat → Addr) (b : Nat) (hb12 : 18 ≤ b) (g : Option Nat) (width : Nat) (hw : width ≤ 1000) (what : ByteArray) (v : Value) (l : List (ByteArray × Int)) (least most : Nat) (p0 : PS) (w : World)
    (hE : Env E w) (hp : PortAt w b g width .nilIface p0) (hv : CoinsAt b w v l) (hwh : what.size ≤ 1000) (hl3 : l.length < 1000000) (hm3 : most ≤ 3) (hvc : p0.takes v) (hd : p0.len ≤ 70000000) :
    Calls Tryz.prog 202 #[.pointer (some ⟨b, 0, none⟩), .agg #[.string what, .int .i64 ((1 : Nat) : Int), .int .u64 (least : Int), .int .u64 (most : Int)], v, .func (.func 203) #[.pointer (some ⟨b, 0, none⟩)] #[]] w fun e w' => ToC E w b g width (p0.listC width least most l) e w' := by
  rw [← lst_C]
  exact (lsC_all (lawC E b hb12 width 79000000 (by omega)) rfl hb12 g what hwh 1 least most v (l.map encC) l p0 w hE hp hv.vat (by simp) hl3 (by simp only [partC]; omega) (by omega) (by omega) hm3 hvc (fun j x a h1 h2 => by
    rw [List.getElem?_map, h2] at h1
    simp only [Option.map_some, Option.some.injEq] at h1
    exact h1.symm)).mono fun e w' h => ToC.of h
set_option maxRecDepth 100000 in
set_option maxHeartbeats 400000 in
theorem firstOuts_all (E : Nat → Addr) (b : Nat) (hb12 : 18 ≤ b) (g : Option Nat) (width : Nat) (v : Value) (l : List (Nat × Nat)) (p0 : PS) (w : World)
    (hE : Env E w) (hp : PortAt w b g width .nilIface p0) (hv : OutsAt b w v l) (hl3 : l.length < 1000000) (hvc : p0.takes v) (ho : ∀ x ∈ l, x.2 < 256) (hd : p0.len ≤ 70000000) :
    Calls Tryz.prog 188 #[.pointer (some ⟨b, 0, none⟩), v] w fun e w' =>
      ToO E w b g width (p0.listO 1 3 l) e w' := by
  obtain ⟨ia, ic, hvs⟩ := hv.shape
  have hmf : ∀ (fn : Fn) (first cap : Array Value) (w : World), (Instr.makeFunc fn first cap).run Tryz.prog w = .ok (.func fn first cap) w := fun _ _ _ _ => rfl
  have HL' : Hid (∀ what : ByteArray, what.size ≤ 1000 → _) := fun what hwh => listO_all E b hb12 g width what v l 1 3 p0 w hE hp hv hwh hl3 (by omega) hvc ho hd
  clear hE hp hv hvc ho
  subst hvs
  go_enter Tryz.func188, Tryz.ntmps188
  go_wp2_with fail
  refine (HL'.out _ (by decide)).mono ?_
  clear HL'
  intro e w1 h
  obtain ⟨a, n, c, rfl⟩ := h.shape
  have HH : Hid (ToO _ _ _ _ _ _ _ _) := h
  clear h
  go_wp2
  go_ret
  exact HH.out
end Go.Proofs.YtighkdnooglfjaaGreatDoor
