/-
  The keeper's statement Paid, over what makes ledgers ('Maker').
-/
import Derived.Test.YtighkdnooglfjaaGreatDoorPdKPays
import Derived.Test.YtighkdnooglfjaaGreatDoorPdKSpec
import Derived.Test.YtighkdnooglfjaaGreatDoorPdKLast
namespace Go.Proofs.YtighkdnooglfjaaGreatDoor
open Go.RowKit

/-- What a ledger has written into its own blocks leaves the shop as it was. -/
theorem ShopAt.apart {E : Nat → Addr} {width base : Nat} {L : Led E width base} {w : World} {xb lb : Nat} {F : Nat → Prop} {fl : Nat} {ch : Ch} {vst : Value} {sl : List Sl} {states : List (List Held)} (h : ShopAt L w xb lb F fl ch vst sl states) :
    ∀ j cur T m, w.heap[j]? = some (.cells cur T m) → T = 35 ∨ T = 43 ∨ T = 87 → ¬ F j := fun j cur T m hr hT hF => by
  obtain ⟨h1, h2, h3⟩ := L.kinds h.led j hF cur T m hr
  rcases hT with hT | hT | hT
  · exact h1 hT
  · exact h2 hT
  · exact h3 hT
theorem ShopAt.row' {E : Nat → Addr} {width base : Nat} {L : Led E width base} {w w' : World} {xb lb : Nat} {F : Nat → Prop} {fl : Nat} {ch : Ch} {vst : Value} {sl : List Sl} {states : List (List Held)} (h : ShopAt L w xb lb F fl ch vst sl states) (k : Tch F w w') :
    w'.heap[xb]? = some (.cells #[.pointer (some ⟨lb, 0, none⟩), .int .i64 (width : Int), vst, .int .i64 (fl : Int)] 35) ∧ SOwn base w' vst sl ∧ ∀ (v : Value) l, HeldT w v l → HeldT w' v l :=
  ⟨(k.block _ (Array.getElem?_eq_some_iff.1 h.row).1 (h.apart xb _ _ _ h.row (.inl rfl))).trans h.row, h.st.tch k (fun j hj => by obtain ⟨c, m, hr⟩ := SOwn.kind h.st j hj; exact h.apart j c _ m hr (.inr (.inl rfl))),
    fun v l hv => hv.tch k (fun j hj => by obtain ⟨c, m, hr⟩ := hv.2 j hj; exact h.apart j c _ m hr (.inr (.inr rfl)))⟩
theorem ShopAt.refused {E : Nat → Addr} {width base : Nat} {L : Led E width base} {w w' : World} {xb lb : Nat} {F F' : Nat → Prop} {fl : Nat} {ch : Ch} {vst : Value} {sl : List Sl} {states : List (List Held)} (h : ShopAt L w xb lb F fl ch vst sl states) (k : Tch F w w') (hl : L.At w' lb F' fl ch) : ShopAt L w' xb lb F' fl ch vst sl states :=
  ⟨(h.row' k).1, hl, (h.row' k).2.1, h.low, fun i x l h1 h2 => (h.row' k).2.2 _ _ (h.held i x l h1 h2), h.len, h.floor, h.book⟩
theorem Found.led {E : Nat → Addr} {width base : Nat} {L : Led E width base} {w w' : World} {xb lb : Nat} {F : Nat → Prop} {fl : Nat} {ch : Ch} {vst : Value} {sl : List Sl} {states : List (List Held)} (h : Found E base w) (hS : ShopAt L w xb lb F fl ch vst sl states) (k : Tch F w w') : Found E base w' := h.tch k (fun j hj => (L.own hS.led j hj).1)
/-- A block that is refused. -/
theorem shop_no {E : Nat → Addr} {width base : Nat} {L : Led E width base} {w : World} {xb lb : Nat} {F : Nat → Prop} {fl : Nat} {ch : Ch} {vst : Value} {sl : List Sl} {states : List (List Held)} (hS : ShopAt L w xb lb F fl ch vst sl states) (hF : Found E base w) (s : ByteArray) (hs : s.size ≤ 1000000) (hc : ch.length < 2 ^ 27) (er : Er) (he : submitT (dgW width) width ch s.data.toList = .error er) :
    Calls Tryz.prog 19 #[.pointer (some ⟨lb, 0, none⟩), .string s] w fun e w' => e = .returned (.int .i64 (erCode er)) ∧ ∃ F', ShopAt L w' xb lb F' fl ch vst sl states ∧ Tch (fun j => base ≤ j) w w' := by
  refine (L.submits s hS.led hF hs hc).mono fun e w' k => ?_
  obtain ⟨k1, F', _, k3⟩ := k
  rw [he] at k3
  exact ⟨k3.1, F', hS.refused k1 k3.2, k1.mono (fun j hj => .inl (L.own hS.led j hj).1)⟩
theorem block0_len (width : Nat) (hw : width ≤ 32) (ch : Ch) (st : Option Tr) : 1 ≤ (blockB (dgW width) ch [] st).length ∧ (blockB (dgW width) ch [] st).length ≤ 200 := by
  have sz : ∀ x : ByteArray, x.data.toList.length = x.size := fun x => by simp only [Array.length_toList]; rfl
  unfold blockB hdrB nextH bodyB
  simp only [List.length_append, beL_length, sz, dgW_size width hw, stDig_size (dgW width) width (dgW_size width hw), List.flatMap_nil, List.length_nil]
  omega
theorem step_append_sl {base : Nat} {ops : Array Oper} {o : Oper} {a : Act} {w : World} {K : Act → World → Prop} {Q : Exit → Act → World → Prop} {E : Prop} (hgd : o.guard = none) (s x : Operand)
    (ho : o.op = .call { callee := .builtin .append, args := #[s, x], argTypes := #[33, 33] })
    {v : Value} {l : List Sl} (hv : a.eval s = v) (h : SOwn base w v l) (k : Nat) (y : Sl) (hx : a.eval x = .slice (some ⟨k, 0, none⟩) 1 1) (hc : w.cell? ⟨k, 0, none⟩ = some (.slice y.1 y.2.1 y.2.2)) (hb : l.length ≤ 10000000000) (hbase : base ≤ w.heap.size)
    (hK : ∀ v' w', SOwn base w' v' (l ++ [y]) → w.grownBy w' v.ownBlock → K (a.put o.dst v') w') :
    if Region.wanted o (yielded ops a.tmps) = true then Oper.wp Tryz.prog o a w K Q else E := by
  have hw : Region.wanted o (yielded ops a.tmps) = true := by simp [Region.wanted, hgd]
  rw [if_pos hw]
  obtain ⟨v', w', hrun, r, r2⟩ := run_append_sl h k y hc o.type hb hbase
  unfold Oper.wp
  simp [execOp, ho, resolve, invoke, builtin, hv, hx, hrun, Result.andThen]
  exact hK v' w' r r2
theorem applyT_nil (d : List UInt8 → ByteArray) (st : Option Tr) : applyT d st [] = .ok st := rfl
set_option maxRecDepth 100000 in
set_option maxHeartbeats 4000000 in
theorem k_paid {E : Nat → Addr} {base : Nat} (M : Maker E base) (c : Int) (v1 v2 : Value) (first : List (Nat × Nat)) (script : List StepL) (w : World) (hF : Found E base w) (hb : base ≤ w.heap.size) (h1 : OutsAt base w v1 first) (ho : ∀ o ∈ first, OutOk o) (hc1 : -9223372036854775808 ≤ c) (hc2 : c < 9223372036854775808)
    (h2 : StepsLow base w v2 script) (hpo : ∀ s ∈ script, ∀ p ∈ s.pays, p.Ok) (hn : script.length ≤ 2097152) :
    Calls Tryz.prog 4 #[.int .i64 c, v1, v2] w fun e w' => e = .returned (.bool true) ∧ Tch (fun j => base ≤ j) w w' := by
  have HSH : Hid (Calls Tryz.prog 14 #[.int .i64 c, v1] w (ToShop M w)) := k_shop M c base v1 first w hF hb h1 ho hc1 hc2
  obtain ⟨a1, n1, rfl⟩ := h1.shape
  obtain ⟨a2, n2, rfl⟩ := h2.shape
  have HF : Hid (Found E base w ∧ base ≤ w.heap.size) := ⟨hF, hb⟩
  have HST : Hid (StepsLow base w (.slice a2 script.length n2) script) := h2
  have HPO : Hid (∀ s ∈ script, ∀ p ∈ s.pays, p.Ok) := hpo
  have HN : Hid (script.length ≤ 2097152) := hn
  clear hF hb h1 ho h2 hpo hn
  go_enter Tryz.func4, Tryz.ntmps4
  go_wp2_with fail
  refine HSH.out.mono ?_
  rintro e w1 ⟨ht1, width, xb, lb, F1, ch1, vst1, sl1, states1, hw1, hw, rfl, hS, hl1, hl3⟩
  have HT1 : Hid (Tch (fun j => base ≤ j) w w1) := ht1.mono (fun _ h => h.elim)
  have HS1 : Hid (ShopAt (M.led width) w1 xb lb F1 0 ch1 vst1 sl1 states1) := hS
  have HL1 : Hid (states1.length = 1 ∧ ∀ l ∈ states1, l.length ≤ 3) := ⟨hl1, hl3⟩
  clear ht1 hS hl1 hl3 HSH
  generalize M.led width = L at *
  go_wp2
  go_loopw [8] (fun i wr => ∃ (k : Nat) (F : Nat → Prop) (ch : Ch) (vst : Value) (sl : List Sl) (states : List (List Held)), k ≤ script.length ∧ i = .int .i64 (k : Int) ∧ Hid (ShopAt L wr xb lb F 0 ch vst sl states) ∧ Hid (Tch (fun j => base ≤ j) w wr) ∧ Hid (states.length ≤ 1 + 2 * k ∧ ∀ l ∈ states, l.length ≤ 3 + 9 * k)) (fun i _ => script.length - (intOf i).toNat)
  case atStart => exact ⟨0, F1, ch1, vst1, sl1, states1, by omega, rfl, HS1, HT1, ⟨by have := HL1.out.1; omega, fun l hl => by have := HL1.out.2 l hl; omega⟩⟩
  case round =>
    obtain ⟨k, F, ch, vst, sl, states, hk, rfl, HS, HT, HL⟩ := hrel
    by_cases hlt : k < script.length
    · rcases HST.out with ⟨_, e2⟩ | ⟨g, o, cc, e, hg, hcell⟩
      · rw [e2] at hlt; simp at hlt
      simp only [Value.slice.injEq, true_and] at e
      obtain ⟨rfl, rfl⟩ := e
      obtain ⟨va, hpl, d0, _, _, d3⟩ := hcell k hlt
      have hgz : g < w.heap.size := Nat.lt_of_lt_of_le hg HF.out.2
      have HCE : Hid (∀ W, Tch (fun j => base ≤ j) w W → ∀ x, W.cell? ⟨g, x, none⟩ = w.cell? ⟨g, x, none⟩) := fun W hT x => hT.cell (p := ⟨g, x, none⟩) hgz (fun e => by simp only at e; omega)
      have q0 := (HCE.out wr HT.out (o + k * 4)).trans d0
      have hlti : (k : Int) < (script.length : Int) := by omega
      have HPL : Hid (PaysLow base w va script[k].pays) := hpl
      have HPK : Hid (∀ p ∈ script[k].pays, p.Ok) := HPO.out _ (List.getElem_mem hlt)
      obtain ⟨vp0, vp1, hvp⟩ : ∃ x y, va = .slice x script[k].pays.length y := (hpl.at HF.out.2).shape
      subst hvp
      clear hcell d0 hpl
      obtain ⟨kd, hkd⟩ : ∃ kd, kd = script[k].kind := ⟨_, rfl⟩
      rw [← hkd] at q0
      have HLT : Hid (k < script.length) := hlt
      have hkb : k < 2097152 := by have := HN.out; omega
      clear hkd
      by_cases hk1 : kd = 1
      case neg =>
        clear d3
        go_wp2
        go_roundw
        case rel => exact ⟨k + 1, F, ch, vst, sl, states, HLT.out, by go_num, HS, HT, ⟨by have := HL.out.1; omega, fun l hl => by have := HL.out.2 l hl; omega⟩⟩
        case measure => have := HLT.out; simp [intOf]; omega
      case pos =>
        subst hk1
        obtain ⟨m, hm⟩ : ∃ m, ch.length = m + 1 := ⟨ch.length - 1, by have := HS.out.len; omega⟩
        have hFr : Found E base wr := HF.out.1.tch HT.out (fun _ h => h)
        have HTIP : Hid (Calls Tryz.prog 15 #[.pointer (some ⟨lb, 0, none⟩)] wr fun e w' => e = .returned (.int .i64 (m : Int)) ∧ Tch (fun _ => False) wr w') := (L.tip HS.out.led hFr).mono fun e w' k => ⟨by rw [k.1, hm]; congr 2; omega, k.2⟩
        have c0 : wr.cell? ⟨xb, 0, none⟩ = some (.pointer (some ⟨lb, 0, none⟩)) := cell_of_row _ _ _ _ _ _ HS.out.row
        have hml : m < 4194305 := by have := HS.out.len; have := HL.out.1; have := HN.out; omega
        have HM : Hid (ch.length = m + 1 ∧ m < 4194305) := ⟨hm, hml⟩
        clear hm hFr hml
        go_wp2_with fail
        refine HTIP.out.mono ?_
        rintro _ w2 ⟨rfl, ht2⟩
        have HS2 : Hid (ShopAt L w2 xb lb F 0 ch vst sl states) := HS.out.next ht2
        have HT2 : Hid (Tch (fun j => base ≤ j) w w2) := HT.out.trans ht2 (fun _ h => h.elim)
        have HHD : Hid (Calls Tryz.prog 16 #[.pointer (some ⟨lb, 0, none⟩), .int .i64 (m : Int)] w2 fun e w' => e = .returned (.tuple #[.string (hdrAt ch (m : Int)), .int .i64 0]) ∧ Tch (fun _ => False) w2 w') := by
          have := L.header (m : Int) HS2.out.led (HF.out.1.tch HT2.out (fun _ h => h)) (by omega) (by have := HM.out; omega)
          rw [if_pos ⟨by omega, by have := HM.out; omega⟩] at this
          exact this
        have c2 : w2.cell? ⟨xb, 0, none⟩ = some (.pointer (some ⟨lb, 0, none⟩)) := cell_of_row _ _ _ _ _ _ HS2.out.row
        generalize hhx : hdrAt ch (m : Int) = hx at *
        have HHX : Hid (hdrAt ch (m : Int) = hx) := hhx
        clear hhx ht2 HTIP c0 q0
        go_wp2_with fail
        refine HHD.out.mono ?_
        rintro _ w3 ⟨rfl, ht3⟩
        have HS3 : Hid (ShopAt L w3 xb lb F 0 ch vst sl states) := HS2.out.next ht3
        have HT3 : Hid (Tch (fun j => base ≤ j) w w3) := HT2.out.trans ht3 (fun _ h => h.elim)
        have q3 := (HCE.out w3 HT3.out (o + k * 4 + 3)).trans d3
        have hb3 : base ≤ w3.heap.size := Nat.le_trans HF.out.2 HT3.out.size
        have HPY : Hid (Calls Tryz.prog 17 #[.pointer (some ⟨xb, 0, none⟩), .slice vp0 script[k].pays.length vp1] w3 (ToPays L w3 xb lb F 0 ch vst states)) :=
          k_pays L hw1 hw xb lb F 0 ch vst sl states _ script[k].pays w3 (HF.out.1.tch HT3.out (fun _ h => h)) HS3.out ((HPL.out.tch HF.out.2 HT3.out (fun _ h => h)).at hb3) HPK.out (fun l hl => by have := HL.out.2 l hl; have := HN.out; omega) (by have := HM.out; omega)
        clear ht3 HHD c2 d3 hb3
        go_wp2_with fail
        refine HPY.out.mono ?_
        rintro _ w4 ⟨rfl, F4, ch4, vst4, sl4, states4, hS4, hT4, _, ⟨rr, hr4⟩, hl4, hh4⟩
        have HS4 : Hid (ShopAt L w4 xb lb F4 0 ch4 vst4 sl4 states4) := hS4
        have HT4 : Hid (Tch (fun j => base ≤ j) w w4) := HT3.out.trans hT4 (fun j hj => .inl (by
          rcases hj with h | rfl | h
          · exact (L.own HS3.out.led j h).1
          · exact HS3.out.low
          · exact (HS3.out.st.own j h.symm).1))
        have HL4 : Hid (states4.length ≤ 2 + 2 * k ∧ ∀ l ∈ states4, l.length ≤ 3 + 9 * (k + 1)) := ⟨by have := HL.out.1; omega, fun l hl => by obtain ⟨l0, h0, h1⟩ := hh4 l hl; have := HL.out.2 l0 h0; omega⟩
        have HR4 : Hid (ch4 = ch ++ rr) := hr4
        clear hS4 hT4 hr4 hl4 hh4 HPY q3 HS3 HS2 HT3 HT2 HS HT
        obtain ⟨m4, hm4⟩ : ∃ m4, ch4.length = m4 + 1 := ⟨ch4.length - 1, by have := HS4.out.len; omega⟩
        have HM4 : Hid (ch4.length = m4 + 1 ∧ sl4.length = m4 + 1 ∧ states4.length = m4 + 1 ∧ m4 < 5000000 ∧ m ≤ m4) := by
          have h1 := HS4.out.len
          have h2 := HL4.out.1
          have h3 := HN.out
          have h4 := HLT.out
          have h5 := congrArg List.length HR4.out
          rw [List.length_append] at h5
          have h6 := HM.out
          exact ⟨hm4, by omega, by omega, by omega, by omega⟩
        clear hm4
        have hF4 : Found E base w4 := HF.out.1.tch HT4.out (fun _ h => h)
        have hsq := seal_ok (dgW width) width (dgW_size width hw) ch4 (by have := HM4.out; omega) [] (fun t ht => (List.not_mem_nil ht).elim) (by simp)
        rw [applyT_nil] at hsq
        dsimp only at hsq
        obtain ⟨st, hst⟩ : ∃ st, st = ch4.last.2 := ⟨_, rfl⟩
        rw [← hst] at hsq
        obtain ⟨bl, hbl⟩ : ∃ bl, bl = blockB (dgW width) ch4 [] st := ⟨_, rfl⟩
        rw [← hbl] at hsq
        obtain ⟨b, hbb⟩ : ∃ b : ByteArray, b = ⟨bl.toArray⟩ := ⟨_, rfl⟩
        have hb0 := block0_len width hw ch4 st
        rw [← hbl] at hb0
        have hbz : b.size = bl.length := by rw [hbb, str_size]
        have hbd : b.data.toList = bl := by rw [hbb]
        have HSE : Hid (Calls Tryz.prog 18 #[.pointer (some ⟨lb, 0, none⟩), .slice none 0 0] w4 fun e w' => Tch (fun _ => False) w4 w' ∧ e = .returned (.tuple #[.string b, .int .i64 0])) := by
          have := L.seals (.slice none 0 0) [] HS4.out.led hF4 ⟨[], .inl ⟨rfl, rfl⟩, rfl, fun j x t h => by simp at h⟩ (fun t ht => (List.not_mem_nil ht).elim) (by simp) (by have := HM4.out; omega)
          rw [hsq] at this
          rw [hbb]
          exact this
        have HB : Hid (b.data.toList = bl ∧ bl = blockB (dgW width) ch4 [] st ∧ st = ch4.last.2 ∧ b.size = bl.length ∧ 1 ≤ bl.length ∧ bl.length ≤ 200) := ⟨hbd, hbl, hst, hbz, hb0.1, hb0.2⟩
        have hbn : ¬ (b.size : Int) = 0 := by omega
        have c4 : w4.cell? ⟨xb, 0, none⟩ = some (.pointer (some ⟨lb, 0, none⟩)) := cell_of_row _ _ _ _ _ _ HS4.out.row
        clear hF4 hsq hst hbl hbb hb0 hbz hbd
        go_wp2_with fail
        refine HSE.out.mono ?_
        rintro _ w5 ⟨ht5, rfl⟩
        have HS5 : Hid (ShopAt L w5 xb lb F4 0 ch4 vst4 sl4 states4) := HS4.out.next ht5
        have HT5 : Hid (Tch (fun j => base ≤ j) w w5) := HT4.out.trans ht5 (fun _ h => h.elim)
        clear ht5 HSE c4 HS4 HT4
        go_upto_region 14 with fail
        obtain ⟨bc1, hbc1⟩ : ∃ bc1 : ByteArray, bc1 = ⟨(bl.take (bl.length - 1)).toArray⟩ := ⟨_, rfl⟩
        have hcut1 : b.extract 0 (b.size - 1) = bc1 := by
          have e : b = ⟨bl.toArray⟩ := by rw [← HB.out.1]
          rw [hbc1, HB.out.2.2.2.1, e, str_take]
        obtain ⟨bn, hbn1⟩ : ∃ bn, bn = b.size - 1 := ⟨_, rfl⟩
        rw [← hbn1] at hcut1
        have hbz := HB.out.2.2.2
        have hw86 : IntKind.i64.wrap ((b.size : Int) - 1) = (bn : Int) := by simp [IntKind.wrap, IntKind.bits, IntKind.signed]; omega
        have hw86b : wrap64 ((b.size : Int) - 1) = (bn : Int) := by unfold wrap64; omega
        have hbnle : bn ≤ b.size := by omega
        have HNO1 : Hid (∀ W, Tch (fun _ => False) w5 W → Calls Tryz.prog 19 #[.pointer (some ⟨lb, 0, none⟩), .string bc1] W fun e w' => e = .returned (.int .i64 1) ∧ ∃ F', ShopAt L w' xb lb F' 0 ch4 vst4 sl4 states4 ∧ Tch (fun j => base ≤ j) W w') := fun W hT => by
          have hs : bc1.size ≤ 1000000 := by rw [hbc1, str_size, List.length_take]; omega
          have he : submitT (dgW width) width ch4 bc1.data.toList = .error .form := by
            have := block_cut (dgW width) width (dgW_size width hw) ch4 ch4 (by have := HM4.out; omega) [] (fun t ht => (List.not_mem_nil ht).elim) (by simp) st
            rw [← HB.out.2.1] at this
            rw [hbc1]
            exact this
          exact shop_no (HS5.out.next hT) (HF.out.1.tch (HT5.out.trans hT (fun _ h => h.elim)) (fun _ h => h)) bc1 hs (by have := HM4.out; omega) .form he
        have c5 : w5.cell? ⟨xb, 0, none⟩ = some (.pointer (some ⟨lb, 0, none⟩)) := cell_of_row _ _ _ _ _ _ HS5.out.row
        clear hbz hbn1 hbc1
        go_cut [15] (fun v15 wx => v15 = .int .i64 1 ∧ ∃ F6, Hid (ShopAt L wx xb lb F6 0 ch4 vst4 sl4 states4) ∧ Hid (Tch (fun j => base ≤ j) w wx))
        case first =>
          go_region_held3 (fun W => W.cell? ⟨xb, 0, none⟩ = some (.pointer (some ⟨lb, 0, none⟩))) (go_keep) ((go_at_call 19; refine (HNO1.out w5.drew (Tch.drewN _ w5 1)).mono ?_; rintro _ w6 ⟨rfl, F6, hS6, hT6⟩; have c6 : w6.cell? ⟨xb, 0, none⟩ = some (.pointer (some ⟨lb, 0, none⟩)) := cell_of_row _ _ _ _ _ _ hS6.row; have HS6 : Hid (ShopAt L w6 xb lb F6 0 ch4 vst4 sl4 states4) := hS6; have HT6 : Hid (Tch (fun j => base ≤ j) w w6) := (HT5.out.trans (Tch.drewN (fun _ => False) w5 1) (fun _ h => h.elim)).trans hT6 (fun j hj => .inl hj); clear hS6 hT6))
          all_goals
            go_wp2
            go_meet
            exact ⟨rfl, F6, HS6, HT6⟩
        case rest =>
        obtain ⟨rfl, F6, HS6, HT6⟩ := hcut
        obtain ⟨w6, hw6⟩ : ∃ w6, w6 = wc := ⟨wc, rfl⟩
        subst hw6
        clear HNO1 hw86 hw86b hbnle hcut1 HS5 HT5 c5
        obtain ⟨bm, hbm1, hbm2, hadd⟩ : ∃ bm : ByteArray, bm.size ≤ 1000 ∧ bm.data.toList = bl ++ [0] ∧ ∀ W, (Op.stringOp .add b (⟨#[0]⟩ : ByteArray)).run Tryz.prog W = .ok (.string bm) W := by
          have hbz := HB.out.2.2.2
          refine ⟨b ++ ⟨#[0]⟩, by rw [ByteArray.size_append]; show b.size + 1 ≤ 1000; omega, ?_, fun W => run_string_add_sum (P := Tryz.prog) W _ _ (by show b.size + 1 ≤ _; omega)⟩
          rw [← HB.out.1]; simp
        have HNO2 : Hid (Calls Tryz.prog 19 #[.pointer (some ⟨lb, 0, none⟩), .string bm] w6 fun e w' => e = .returned (.int .i64 1) ∧ ∃ F', ShopAt L w' xb lb F' 0 ch4 vst4 sl4 states4 ∧ Tch (fun j => base ≤ j) w6 w') := by
          have he : submitT (dgW width) width ch4 bm.data.toList = .error .form := by
            have := block_more (dgW width) width (dgW_size width hw) ch4 ch4 (by have := HM4.out; omega) [] (fun t ht => (List.not_mem_nil ht).elim) (by simp) st 0
            rw [← HB.out.2.1] at this
            rw [hbm2]
            exact this
          exact shop_no HS6.out (HF.out.1.tch HT6.out (fun _ h => h)) bm (by omega) (by have := HM4.out; omega) .form he
        have c6 : w6.cell? ⟨xb, 0, none⟩ = some (.pointer (some ⟨lb, 0, none⟩)) := cell_of_row _ _ _ _ _ _ HS6.out.row
        clear hbm1 hbm2
        go_wp2_with fail
        refine HNO2.out.mono ?_
        rintro _ w7 ⟨rfl, F7, hS7, hT7⟩
        have HS7 : Hid (ShopAt L w7 xb lb F7 0 ch4 vst4 sl4 states4) := hS7
        have HT7 : Hid (Tch (fun j => base ≤ j) w w7) := HT6.out.trans hT7 (fun j hj => .inl hj)
        have c7 : w7.cell? ⟨xb, 0, none⟩ = some (.pointer (some ⟨lb, 0, none⟩)) := cell_of_row _ _ _ _ _ _ hS7.row
        have HHD : Hid (Calls Tryz.prog 16 #[.pointer (some ⟨lb, 0, none⟩), .int .i64 (m : Int)] w7 fun e w' => e = .returned (.tuple #[.string hx, .int .i64 0]) ∧ Tch (fun _ => False) w7 w') := by
          have := L.header (m : Int) hS7.led (HF.out.1.tch HT7.out (fun _ h => h)) (by omega) (by have := HM4.out; omega)
          rw [if_pos ⟨by omega, by have := HM4.out; omega⟩] at this
          have eh : hdrAt ch4 (m : Int) = hx := by
            rw [← HHX.out, HR4.out]
            unfold hdrAt
            rw [if_pos (by omega), if_pos (by omega), Int.toNat_natCast, List.getD_eq_getElem?_getD, List.getD_eq_getElem?_getD, List.getElem?_append_left (by have := HM.out; omega)]
          rw [eh] at this
          exact this
        clear hS7 hT7 HNO2 hadd c6 HS6 HT6
        go_wp2_with fail
        refine HHD.out.mono ?_
        rintro _ w8 ⟨rfl, ht8⟩
        have HS8 : Hid (ShopAt L w8 xb lb F7 0 ch4 vst4 sl4 states4) := HS7.out.next ht8
        have HT8 : Hid (Tch (fun j => base ≤ j) w w8) := HT7.out.trans ht8 (fun _ h => h.elim)
        have c8 : w8.cell? ⟨xb, 0, none⟩ = some (.pointer (some ⟨lb, 0, none⟩)) := cell_of_row _ _ _ _ _ _ HS8.out.row
        have HTIP : Hid (Calls Tryz.prog 15 #[.pointer (some ⟨lb, 0, none⟩)] w8 fun e w' => e = .returned (.int .i64 (m4 : Int)) ∧ Tch (fun _ => False) w8 w') := (L.tip HS8.out.led (HF.out.1.tch HT8.out (fun _ h => h))).mono fun e w' k => ⟨by rw [k.1, HM4.out.1]; congr 2; omega, k.2⟩
        clear ht8 HHD c7 HS7 HT7
        go_wp2_with fail
        refine HTIP.out.mono ?_
        rintro _ w9 ⟨rfl, ht9⟩
        have HS9 : Hid (ShopAt L w9 xb lb F7 0 ch4 vst4 sl4 states4) := HS8.out.next ht9
        have HT9 : Hid (Tch (fun j => base ≤ j) w w9) := HT8.out.trans ht9 (fun _ h => h.elim)
        have c9 : w9.cell? ⟨xb, 0, none⟩ = some (.pointer (some ⟨lb, 0, none⟩)) := cell_of_row _ _ _ _ _ _ HS9.out.row
        obtain ⟨gs, cap, hvs, hcl⟩ := HS9.out.st.at (by intro h; have := HM4.out.2.1; rw [h] at this; simp at this)
        subst hvs
        have hs9 : w9.cell? ⟨xb, 2, none⟩ = some (.slice (some ⟨gs, 0, none⟩) (m4 + 1) cap) := by have := cell_of_row _ xb 2 _ _ _ HS9.out.row; rw [← HM4.out.2.1]; exact this
        have hwm : IntKind.i64.wrap (((m4 + 1 : Nat) : Int) - 1) = (m4 : Int) := by have := HM4.out; simp [IntKind.wrap, IntKind.bits, IntKind.signed]; omega
        have hwm2 : wrap64 (((m4 + 1 : Nat) : Int) - 1) = (m4 : Int) := by have := HM4.out; unfold wrap64; omega
        have hwm3 : ((m4 + 1 : Nat) : Int) - 1 = (m4 : Int) := by omega
        have hm4b : m4 < 5000000 := HM4.out.2.2.2.1
        clear ht9 HTIP c8 HS8 HT8 hcl
        go_upto_region 20 with fail
        obtain ⟨c5, hc5⟩ : ∃ c5 : ByteArray × Option Tr, c5 = (⟨(hdrB (nextH (dgW width) ch4 (bodyB []) (stDig (dgW width) st))).toArray⟩, st) := ⟨_, rfl⟩
        have HSU : Hid (Calls Tryz.prog 19 #[.pointer (some ⟨lb, 0, none⟩), .string b] w9 fun e w' => e = .returned (.int .i64 0) ∧ Tch F7 w9 w' ∧ ∃ F', L.At w' lb F' 0 (ch4 ++ [c5])) := by
          have he : submitT (dgW width) width ch4 b.data.toList = .ok (ch4 ++ [c5]) := by
            have := block_taken (dgW width) width (dgW_size width hw) ch4 (by have := HM4.out; omega) [] (fun t ht => (List.not_mem_nil ht).elim) (by simp) st (by rw [HB.out.2.2.1]; rfl)
            rw [← HB.out.2.1] at this
            rw [HB.out.1, hc5]
            exact this
          have hbz := HB.out.2.2.2
          refine (L.submits b HS9.out.led (HF.out.1.tch HT9.out (fun _ h => h)) (by omega) (by have := HM4.out; omega)).mono fun e w' k => ?_
          obtain ⟨k1, F', _, k3⟩ := k
          rw [he] at k3
          exact ⟨k3.1, k1, F', k3.2⟩
        have HAG : Hid (∀ s : ByteArray, s.data.toList = bl → submitT (dgW width) width (ch4 ++ [c5]) s.data.toList = .error .tip) := fun s hs => by
          have := block_again (dgW width) width (dgW_size width hw) ch4 (ch4 ++ [c5]) (by have := HM4.out; omega) [] (fun t ht => (List.not_mem_nil ht).elim) (by simp) st (by rw [List.length_append]; simp)
          rw [← HB.out.2.1] at this
          rw [hs]
          exact this
        have HC5 : Hid (c5.2 = st) := (show c5.2 = st by rw [hc5])
        clear hc5
        go_wp2_with fail
        refine HSU.out.mono ?_
        rintro _ w10 ⟨rfl, ht10, F10, hAt⟩
        obtain ⟨hR10, hO10, hB10⟩ := HS9.out.row' ht10
        have hmsl : m4 < sl4.length := by have := HM4.out; omega
        have hmst : m4 < states4.length := by have := HM4.out; omega
        have hmch : m4 < ch4.length := by have := HM4.out; omega
        have HH : Hid (HeldT w9 (.slice sl4[m4].1 sl4[m4].2.1 sl4[m4].2.2) states4[m4]) := HS9.out.held m4 _ _ (List.getElem?_eq_getElem hmsl) (List.getElem?_eq_getElem hmst)
        have HBK : Hid (Book width c5.2 states4[m4]) := by
          have := HS9.out.book m4 _ _ (by omega) (List.getElem?_eq_getElem hmch) (List.getElem?_eq_getElem hmst)
          rw [HC5.out, HB.out.2.2.1, Ch.last_get ch4 m4 HM4.out.1]
          exact this
        have hML : states4[m4] ∈ states4 := List.getElem_mem hmst
        obtain ⟨gs2, cap2, hvs2, hcl⟩ := hO10.at (by intro h; have := HM4.out.2.1; rw [h] at this; simp at this)
        simp only [Value.slice.injEq, Option.some.injEq, Addr.mk.injEq, true_and, and_true] at hvs2
        obtain ⟨rfl, rfl⟩ := hvs2
        have hqm := hcl m4 hmsl
        generalize hl0 : states4[m4] = l0 at *
        generalize hx0 : sl4[m4] = x0 at *
        obtain ⟨xa, xn, xc⟩ := x0
        dsimp only at hqm HH
        have HML : Hid (l0 ∈ states4) := hML
        have HT10 : Hid (Tch F7 w9 w10) := ht10
        have tD : Tch (fun _ => False) w10 w10.drew := Tch.drewN _ w10 1
        have HEND : Hid (∀ w11 v11, SOwn base w11 v11 (sl4 ++ [(xa, xn, xc)]) → World.grownBy (w10.drew.alloc (.cells #[.slice xa xn xc] 43)) w11 (Value.slice (some ⟨gs, 0, none⟩) sl4.length cap).ownBlock → w11.heap[xb]? = some (.cells #[.pointer (some ⟨lb, 0, none⟩), .int .i64 (width : Int), .slice (some ⟨gs, 0, none⟩) sl4.length cap, .int .i64 ((0 : Nat) : Int)] 35) ∧ ShopAt L (w11.setCell ⟨xb, 2, none⟩ v11) xb lb F10 0 (ch4 ++ [c5]) v11 (sl4 ++ [(xa, xn, xc)]) (states4 ++ [l0]) ∧ Tch (fun j => base ≤ j) w (w11.setCell ⟨xb, 2, none⟩ v11)) := fun w11 v11 h1 h2 => by
          have t3 : Tch F7 w9 w10.drew := ht10.trans tD (fun _ h => h.elim)
          obtain ⟨k1, k2, k3⟩ := shop_more (w := w9) (w3 := w10.drew) HS9.out HH.out HBK.out (Tch.refl _ _) t3 (L.keep hAt tD (fun _ h => h.elim)) ((tD.block _ (Array.getElem?_eq_some_iff.1 hR10).1 (fun h => h)).trans hR10) (hO10.tch tD (fun _ _ h => h)) (fun v l hv => (hB10 v l hv).tch tD (fun _ _ h => h)) h1 h2
          exact ⟨k1, k2, HT9.out.trans k3 (fun j hj => .inl (by
            rcases hj with h | rfl | h
            · exact (L.own HS9.out.led j h).1
            · exact HS9.out.low
            · exact (HS9.out.st.own j h.symm).1))⟩
        have HSL : Hid (SOwn base (w10.drew.alloc (.cells #[.slice xa xn xc] 43)) (.slice (some ⟨gs, 0, none⟩) sl4.length cap) sl4) := (hO10.tch tD (fun _ _ h => h)).tch (Tch.alloc (fun _ => False) w10.drew _) (fun _ _ h => h)
        have HCN : Hid ((w10.drew.alloc (.cells #[.slice xa xn xc] 43)).cell? ⟨w10.drew.heap.size, 0, none⟩ = some (.slice xa xn xc)) := cell_of_row _ _ _ _ _ _ (heap_alloc_new _ _)
        have HBW : Hid (base ≤ w10.drew.heap.size ∧ sl4.length ≤ 10000000000) := ⟨Nat.le_trans (Nat.le_trans HF.out.2 HT9.out.size) ht10.size, by have := HM4.out; omega⟩
        have s10 : w10.cell? ⟨xb, 2, none⟩ = some (.slice (some ⟨gs, 0, none⟩) sl4.length cap) := cell_of_row _ _ _ _ _ _ hR10
        have s10a : (w10.drew.alloc (.cells #[.slice xa xn xc] 43)).cell? ⟨xb, 2, none⟩ = some (.slice (some ⟨gs, 0, none⟩) sl4.length cap) := ((Tch.alloc (fun _ => False) w10.drew _).cell (p := ⟨xb, 2, none⟩) (Array.getElem?_eq_some_iff.1 hR10).1 (fun h => h)).trans s10
        have hqm' : w10.drew.cell? ⟨gs, m4, none⟩ = some (.slice xa xn xc) := hqm
        have hxz : xb < w10.heap.size := (Array.getElem?_eq_some_iff.1 hR10).1
        have hgz10 : gs < w10.heap.size := World.block_lt_of_cell? _ _ hqm
        have hmi : (m4 : Int) < (sl4.length : Int) := by omega
        clear hl0 hx0 hML hAt hR10 hO10 hB10 ht10 tD hcl HSU c9 hs9 HH HBK
        go_upto_region 21 with fail
        go_cut [] (fun wx => ∃ v11, Hid (ShopAt L wx xb lb F10 0 (ch4 ++ [c5]) v11 (sl4 ++ [(xa, xn, xc)]) (states4 ++ [l0])) ∧ Hid (Tch (fun j => base ≤ j) w wx))
        case first =>
          go_wp2_with fail
          as_aux_lemma =>
            refine wp_region_last_held (S := fun W => W.cell? ⟨xb, 2, none⟩ = some (.slice (some ⟨gs, 0, none⟩) sl4.length cap)) 17 (by simp) (by kernel_rfl) (by kernel_rfl) s10 ?_
            intro hHeld l o hl ho
            simp only [List.dropLast_cons_cons, List.dropLast_singleton] at hl
            simp only [List.getLast_cons_cons, List.getLast_singleton] at ho
            subst hl
            subst ho
            simp only [List.length_cons, List.length_nil, Nat.reduceAdd]
            refine takeL (i := 0) (v := ?vp0) rfl (by kernel_rfl) (by kernel_rfl) (by kernel_rfl) (fun _ _ _ h => h) rfl ?hp0 (by assumption) ?rp0
            case hp0 => (intro W hSW; (try dsimp only at hSW); go_simp; (try with_reducible rfl))
            simp only [Act.put, List.setIfInBounds_toArray, List.set_cons_zero, List.set_cons_succ]
            refine takeL (i := 1) (v := ?vp1) rfl (by kernel_rfl) (by kernel_rfl) (by kernel_rfl) (fun _ _ _ h => h) rfl ?hp1 (by assumption) ?rp1
            case hp1 => (intro W hSW; (try dsimp only at hSW); go_simp; (try with_reducible rfl))
            simp only [Act.put, List.setIfInBounds_toArray, List.set_cons_zero, List.set_cons_succ]
            refine takeL (i := 2) (v := ?vp2) rfl (by kernel_rfl) (by kernel_rfl) (by kernel_rfl) (fun _ _ _ h => h) rfl ?hp2 (by assumption) ?rp2
            case hp2 => (intro W hSW; (try dsimp only at hSW); go_simp; (try with_reducible rfl))
            simp only [Act.put, List.setIfInBounds_toArray, List.set_cons_zero, List.set_cons_succ]
            refine takeL (i := 3) (v := ?vp3) rfl (by kernel_rfl) (by kernel_rfl) (by kernel_rfl) (fun _ _ _ h => h) rfl ?hp3 (by assumption) ?rp3
            case hp3 => (intro W hSW; (try dsimp only at hSW); go_simp; (try with_reducible rfl))
            simp only [Act.put, List.setIfInBounds_toArray, List.set_cons_zero, List.set_cons_succ]
            refine takeL (i := 4) (v := ?vp4) rfl (by kernel_rfl) (by kernel_rfl) (by kernel_rfl) (fun _ _ _ h => h) rfl ?hp4 (by assumption) ?rp4
            case hp4 => (intro W hSW; (try dsimp only at hSW); go_simp; (try with_reducible rfl))
            simp only [Act.put, List.setIfInBounds_toArray, List.set_cons_zero, List.set_cons_succ]
            refine takeL (i := 5) (v := ?vp5) rfl (by kernel_rfl) (by kernel_rfl) (by kernel_rfl) (fun _ _ _ h => h) rfl ?hp5 (by assumption) ?rp5
            case hp5 => (intro W hSW; (try dsimp only at hSW); go_simp; (try with_reducible rfl))
            simp only [Act.put, List.setIfInBounds_toArray, List.set_cons_zero, List.set_cons_succ]
            refine takeL (i := 6) (v := ?vp6) rfl (by kernel_rfl) (by kernel_rfl) (by kernel_rfl) (fun _ _ _ h => h) rfl ?hp6 (by assumption) ?rp6
            case hp6 => (intro W hSW; (try dsimp only at hSW); go_simp; (try with_reducible rfl))
            simp only [Act.put, List.setIfInBounds_toArray, List.set_cons_zero, List.set_cons_succ]
            refine takeL (i := 7) (v := ?vp7) rfl (by kernel_rfl) (by kernel_rfl) (by kernel_rfl) (fun _ _ _ h => h) rfl ?hp7 (by assumption) ?rp7
            case hp7 => (intro W hSW; (try dsimp only at hSW); go_simp; (try with_reducible rfl))
            simp only [Act.put, List.setIfInBounds_toArray, List.set_cons_zero, List.set_cons_succ]
            refine takeL (i := 8) (v := ?vp8) rfl (by kernel_rfl) (by kernel_rfl) (by kernel_rfl) (fun _ _ _ h => h) rfl ?hp8 (by assumption) ?rp8
            case hp8 => (intro W hSW; (try dsimp only at hSW); go_simp; (try with_reducible rfl))
            simp only [Act.put, List.setIfInBounds_toArray, List.set_cons_zero, List.set_cons_succ]
            refine takeL (i := 9) (v := ?vp9) rfl (by kernel_rfl) (by kernel_rfl) (by kernel_rfl) (fun _ _ _ h => h) rfl ?hp9 (by assumption) ?rp9
            case hp9 => (intro W hSW; (try dsimp only at hSW); go_simp; (try with_reducible rfl))
            simp only [Act.put, List.setIfInBounds_toArray, List.set_cons_zero, List.set_cons_succ]
            refine takeL (i := 10) (v := ?vp10) rfl (by kernel_rfl) (by kernel_rfl) (by kernel_rfl) (fun _ _ _ h => h) rfl ?hp10 (by assumption) ?rp10
            case hp10 => (intro W hSW; (try dsimp only at hSW); go_simp; (try with_reducible rfl))
            simp only [Act.put, List.setIfInBounds_toArray, List.set_cons_zero, List.set_cons_succ]
            refine moveL (i := 11) rfl (by kernel_rfl) (fun K hK => ?_)
            go_simp
            refine hK.out _ _ s10 (fun hHeld11 => ?_)
            clear hK K hHeld
            try simp only [Act.put, List.setIfInBounds_toArray, List.set_cons_zero, List.set_cons_succ]
            refine moveL (i := 12) rfl (by kernel_rfl) (fun K hK => ?_)
            go_simp
            refine hK.out _ _ s10a (fun hHeld12 => ?_)
            clear hK K hHeld11
            try simp only [Act.put, List.setIfInBounds_toArray, List.set_cons_zero, List.set_cons_succ]
            refine moveL (i := 13) rfl (by kernel_rfl) (fun K hK => ?_)
            refine step_append_sl rfl _ _ rfl rfl HSL.out w10.drew.heap.size (xa, xn, xc) rfl HCN.out HBW.out.2 (Nat.le_trans HBW.out.1 (Tch.alloc (fun _ => False) w10.drew _).size) ?_
            intro v11 w11 hown11 hg11
            obtain ⟨g11, cap11, hv11, _⟩ := hown11.at (by simp)
            have hl11 : (sl4 ++ [(xa, xn, xc)]).length = sl4.length + 1 := by simp
            rw [hl11] at hv11
            clear hl11
            subst hv11
            obtain ⟨hr11, hs11, ht11⟩ := HEND.out w11 _ hown11 hg11
            have x2 : w11.cell? ⟨xb, 2, none⟩ = some (.slice (some ⟨gs, 0, none⟩) sl4.length cap) := cell_of_row _ _ _ _ _ _ hr11
            have x3 : w11.frozen? ⟨xb, 2, none⟩ = false := frozen_of_row _ _ _ _ _ hr11
            refine hK.out _ _ x2 (fun hHeld13 => ?_)
            clear hK K hHeld12
            try simp only [Act.put, List.setIfInBounds_toArray, List.set_cons_zero, List.set_cons_succ]
            refine takeL (i := 14) (v := ?vp14) rfl (by kernel_rfl) (by kernel_rfl) (by kernel_rfl) (fun _ _ _ h => h) rfl ?hp14 (by assumption) ?rp14
            case hp14 => (intro W hSW; (try dsimp only at hSW); go_simp; (try with_reducible rfl))
            simp only [Act.put, List.setIfInBounds_toArray, List.set_cons_zero, List.set_cons_succ]
            refine takeL (i := 15) (v := ?vp15) rfl (by kernel_rfl) (by kernel_rfl) (by kernel_rfl) (fun _ _ _ h => h) rfl ?hp15 (by assumption) ?rp15
            case hp15 => (intro W hSW; (try dsimp only at hSW); go_simp; (try with_reducible rfl))
            simp only [Act.put, List.setIfInBounds_toArray, List.set_cons_zero, List.set_cons_succ]
            refine wpAnyH_done (by kernel_rfl) ?_ _
            show wpList _ _ _ [_] _ _
            go_wp2
            go_meet
            exact ⟨_, hs11, ht11⟩
        case rest =>
        obtain ⟨v11, HS11, HT11⟩ := hcut
        obtain ⟨w11, hw11⟩ : ∃ w11, w11 = wc := ⟨wc, rfl⟩
        subst hw11
        clear HEND HSL HCN HBW s10 s10a hqm hqm' hxz hgz10 hmi hwm hwm2 hwm3 hmsl hmst hmch HT10 HS9 HT9 hm4b
        obtain ⟨g11, cap11, hv11, _⟩ := HS11.out.st.at (by simp)
        have hl11 : (sl4 ++ [(xa, xn, xc)]).length = m4 + 2 := by rw [List.length_append, HM4.out.2.1]; rfl
        rw [hl11] at hv11
        have HL11 : Hid ((ch4 ++ [c5]).length = m4 + 2) := (show (ch4 ++ [c5]).length = m4 + 2 by rw [List.length_append, HM4.out.1]; rfl)
        subst hv11
        clear hl11
        have HNO3 : Hid (Calls Tryz.prog 19 #[.pointer (some ⟨lb, 0, none⟩), .string b] w11 fun e w' => e = .returned (.int .i64 2) ∧ ∃ F', ShopAt L w' xb lb F' 0 (ch4 ++ [c5]) (.slice (some ⟨g11, 0, none⟩) (m4 + 2) cap11) (sl4 ++ [(xa, xn, xc)]) (states4 ++ [l0]) ∧ Tch (fun j => base ≤ j) w11 w') := by
          have hbz := HB.out.2.2.2
          exact shop_no HS11.out (HF.out.1.tch HT11.out (fun _ h => h)) b (by omega) (by rw [HL11.out]; have := HM4.out; omega) .tip (HAG.out b HB.out.1)
        have c11 : w11.cell? ⟨xb, 0, none⟩ = some (.pointer (some ⟨lb, 0, none⟩)) := cell_of_row _ _ _ _ _ _ HS11.out.row
        go_wp2_with fail
        refine HNO3.out.mono ?_
        rintro _ w12 ⟨rfl, F12, hS12, hT12⟩
        have HS12 : Hid (ShopAt L w12 xb lb F12 0 (ch4 ++ [c5]) (.slice (some ⟨g11, 0, none⟩) (m4 + 2) cap11) (sl4 ++ [(xa, xn, xc)]) (states4 ++ [l0])) := hS12
        have HT12 : Hid (Tch (fun j => base ≤ j) w w12) := HT11.out.trans hT12 (fun j hj => .inl hj)
        have c12 : w12.cell? ⟨xb, 0, none⟩ = some (.pointer (some ⟨lb, 0, none⟩)) := cell_of_row _ _ _ _ _ _ hS12.row
        have HTIP : Hid (Calls Tryz.prog 15 #[.pointer (some ⟨lb, 0, none⟩)] w12 fun e w' => e = .returned (.int .i64 ((m4 + 1 : Nat) : Int)) ∧ Tch (fun _ => False) w12 w') := (L.tip hS12.led (HF.out.1.tch HT12.out (fun _ h => h))).mono fun e w' k => ⟨by rw [k.1, HL11.out]; congr 2; omega, k.2⟩
        clear hS12 hT12 HNO3 c11 HS11 HT11
        go_wp2_with fail
        refine HTIP.out.mono ?_
        rintro _ w13 ⟨rfl, ht13⟩
        have HS13 : Hid (ShopAt L w13 xb lb F12 0 (ch4 ++ [c5]) (.slice (some ⟨g11, 0, none⟩) (m4 + 2) cap11) (sl4 ++ [(xa, xn, xc)]) (states4 ++ [l0])) := HS12.out.next ht13
        have HT13 : Hid (Tch (fun j => base ≤ j) w w13) := HT12.out.trans ht13 (fun _ h => h.elim)
        have c13 : w13.cell? ⟨xb, 2, none⟩ = some (.slice (some ⟨g11, 0, none⟩) (m4 + 2) cap11) := cell_of_row _ _ _ _ _ _ HS13.out.row
        have hwm : IntKind.i64.wrap (((m4 + 2 : Nat) : Int) - 1) = ((m4 + 1 : Nat) : Int) := by have := HM4.out; simp [IntKind.wrap, IntKind.bits, IntKind.signed]; omega
        have hwm2 : wrap64 (((m4 + 2 : Nat) : Int) - 1) = ((m4 + 1 : Nat) : Int) := by have := HM4.out; unfold wrap64; omega
        have hwm3 : ((m4 + 2 : Nat) : Int) - 1 = ((m4 + 1 : Nat) : Int) := by omega
        have hm4b : m4 < 5000000 := HM4.out.2.2.2.1
        clear ht13 HTIP c12 HS12 HT12
        go_wp2
        go_roundw
        case rel => exact ⟨k + 1, F12, ch4 ++ [c5], _, _, states4 ++ [l0], HLT.out, by go_num, HS13, HT13, ⟨by have := HL4.out.1; rw [List.length_append]; simp only [List.length_cons, List.length_nil]; omega, fun l hl => by
          rw [List.mem_append, List.mem_singleton] at hl
          rcases hl with hl | rfl
          · exact HL4.out.2 l hl
          · exact HL4.out.2 l HML.out⟩⟩
        case measure => have := HLT.out; simp [intOf]; omega
    · have hge : ¬ (k : Int) < (script.length : Int) := by omega
      go_wp2
      go_ret
      exact ⟨rfl, HT.out⟩
end Go.Proofs.YtighkdnooglfjaaGreatDoor
