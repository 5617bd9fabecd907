/-
  The contract of trove/digest.compress: of a state of eight words and 64 bytes it hands back the state behind them, as 'comp' writes it; it turns no old memory. Its one condition: the table of the round's numbers lies in its variable.
-/
import Derived.Test.YtighkdnooglfjaaDoorSched
namespace Go.Proofs.YtighkdnooglfjaaDoor
open Go.RowKit

def Ks : List Int := [1116352408, 1899447441, 3049323471, 3921009573, 961987163, 1508970993, 2453635748, 2870763221, 3624381080, 310598401, 607225278, 1426881987, 1925078388, 2162078206, 2614888103, 3248222580, 3835390401, 4022224774, 264347078, 604807628, 770255983, 1249150122, 1555081692, 1996064986, 2554220882, 2821834349, 2952996808, 3210313671, 3336571891, 3584528711, 113926993, 338241895, 666307205, 773529912, 1294757372, 1396182291, 1695183700, 1986661051, 2177026350, 2456956037, 2730485921, 2820302411, 3259730800, 3345764771, 3516065817, 3600352804, 4094571909, 275423344, 430227734, 506948616, 659060556, 883997877, 958139571, 1322822218, 1537002063, 1747873779, 1955562222, 2024104815, 2227730452, 2361852424, 2428436474, 2756734187, 3204031479, 3329325298]
structure S8 where
  a : Int
  b : Int
  c : Int
  d : Int
  e : Int
  f : Int
  g : Int
  h : Int
def S8.val (s : S8) : Value := .agg #[.int .u32 s.a, .int .u32 s.b, .int .u32 s.c, .int .u32 s.d, .int .u32 s.e, .int .u32 s.f, .int .u32 s.g, .int .u32 s.h]
def t1 (k w : Int) (s : S8) : Int :=
  s.h + bits .xor .u32 (bits .xor .u32 (rr 6 s.e) (rr 11 s.e)) (rr 25 s.e) + bits .xor .u32 (bits .and .u32 s.e s.f) (bits .and .u32 (bits .xor .u32 IntKind.u32.max s.e) s.g) + k + w
def maj (s : S8) : Int := bits .xor .u32 (bits .xor .u32 (bits .and .u32 s.a s.b) (bits .and .u32 s.a s.c)) (bits .and .u32 s.b s.c)
def rnd (k w : Int) (s : S8) : S8 :=
  ⟨((t1 k w s + bits .xor .u32 (bits .xor .u32 (rr 2 s.a) (rr 13 s.a)) (rr 22 s.a)) % 4294967296 + maj s) % 4294967296, s.a, s.b, s.c, (s.d + t1 k w s % 4294967296) % 4294967296, s.e, s.f, s.g⟩
def addS (s t : S8) : S8 := ⟨(s.a + t.a) % 4294967296, (s.b + t.b) % 4294967296, (s.c + t.c) % 4294967296, (s.d + t.d) % 4294967296, (s.e + t.e) % 4294967296, (s.f + t.f) % 4294967296, (s.g + t.g) % 4294967296, (s.h + t.h) % 4294967296⟩
def to (ws : List Int) (s : S8) : Nat → S8
  | 0 => s
  | k + 1 => rnd (Ks.getD k 0) (ws.getD k 0) (to ws s k)
def comp (s : S8) (b : List UInt8) : S8 := addS s (to (Wl b 64) s 64)
theorem all8 (x0 x1 x2 x3 x4 x5 x6 x7 : Int) : (#[Value.int .u32 x0, .int .u32 x1, .int .u32 x2, .int .u32 x3, .int .u32 x4, .int .u32 x5, .int .u32 x6, .int .u32 x7]).all (·.oneCell') = true := by
  simp [Value.oneCell']
theorem bcell {W w1 : World} (hb : Below W.heap.size W w1) : (∀ b o, b < W.heap.size → w1.cell? ⟨b, o, none⟩ = W.cell? ⟨b, o, none⟩) ∧ (∀ b o, b < W.heap.size → w1.frozen? ⟨b, o, none⟩ = W.frozen? ⟨b, o, none⟩) :=
  ⟨fun b o h => hb.cell (p := ⟨b, o, none⟩) h, fun b o h => hb.frozen (p := ⟨b, o, none⟩) h⟩

set_option maxRecDepth 100000 in
set_option maxHeartbeats 400000 in
theorem comp_any (s : S8) (b : ByteArray) (w : World) (hb : b.size = 64) (h7 : 8 < w.heap.size) (hT : ∀ i, i < 64 → w.cell? ⟨8, i, none⟩ = some (.int .u32 (Ks.getD i 0))) :
    Calls Tryd.prog 14 #[s.val, .string b] w fun e w' => e = .returned (comp s b.data.toList).val ∧ Below w.heap.size w w' := by
  obtain ⟨x0, x1, x2, x3, x4, x5, x6, x7⟩ := s
  have HT : Hid (∀ i, i < 64 → w.cell? ⟨8, i, none⟩ = some (.int .u32 (Ks.getD i 0))) := hT
  clear hT
  unfold S8.val
  go_enter Tryd.func14, Tryd.ntmps14
  go_wp2_with fail
  refine (sched_any _ _ hb).mono ?_
  rintro _ w1 ⟨rfl, hB⟩
  obtain ⟨hc, hf⟩ := bcell hB
  have hA : (arr (Wl b.data.toList 64)).size = 64 := arr_size _ (by rw [Wl_length]; omega)
  have hA1 : (arr (Wl b.data.toList 64)).all (·.oneCell') = true := arr_one _
  have hAc : Hid (∀ i, i < 64 → (arr (Wl b.data.toList 64))[i]? = some (.int .u32 ((Wl b.data.toList 64).getD i 0))) := fun i hi => arr_old _ _ (by rw [Wl_length]; exact hi)
  generalize arr (Wl b.data.toList 64) = A at *
  have hi : (Tryd.prog.info? 60).map (·.size) = some A.size := by rw [hA]; kernel_rfl
  go_wp2_with (refine wpList_store_row rfl 60 _ _ rfl w1.heap.size A rfl rfl 60 _ (heap_alloc_new _ _) hi (by rw [hA]; rfl) hA1 ?_)
  generalize hWc : (World.alloc w1 _).setRow w1.heap.size A = Wc
  have hz : w.heap.size + 1 < w1.heap.size := by have := hB.size; simp at this; omega
  have hB0 : Below w.heap.size w w1 := (((Below.refl _ _).alloc (Nat.le_refl _) _).alloc (by simp) _).trans (hB.mono (by simp; omega))
  have hBc : Below w.heap.size w Wc := by rw [← hWc]; exact below_setRow (hB0.alloc hB0.size _) hB0.size _
  have hbk : ∀ k, k < w1.heap.size → Wc.heap[k]? = w1.heap[k]? := fun k hk => by rw [← hWc, setRow_other _ _ _ _ (by omega), Below.heap_alloc _ _ _ hk]
  have hw : Wc.heap[w1.heap.size]? = some (.cells A 60) := by rw [← hWc]; exact setRow_heap _ _ _ _ _ _ (heap_alloc_new _ _)
  have HAc : Hid (∀ i, i < 64 → Wc.cell? ⟨w1.heap.size, i, none⟩ = some (.int .u32 ((Wl b.data.toList 64).getD i 0))) := fun i hi => by rw [cell_of_row _ _ _ _ _ _ hw]; exact hAc.out i hi
  have hTc : Hid (∀ i, i < 64 → Wc.cell? ⟨8, i, none⟩ = some (.int .u32 (Ks.getD i 0))) := fun i hi => by rw [hBc.cell (p := ⟨8, i, none⟩) h7]; exact HT.out i hi
  have hh : Wc.heap[w.heap.size]? = some (.cells #[.int .u32 x0, .int .u32 x1, .int .u32 x2, .int .u32 x3, .int .u32 x4, .int .u32 x5, .int .u32 x6, .int .u32 x7] 45) := by
    rw [hbk _ (by omega), hB.block _ (by simp; omega), heap_alloc2_old]
  have hr : Wc.heap[w.heap.size + 1]? = some (.cells #[.int .u32 0, .int .u32 0, .int .u32 0, .int .u32 0, .int .u32 0, .int .u32 0, .int .u32 0, .int .u32 0] 45) := by
    rw [hbk _ (by omega), hB.block _ (by simp), heap_alloc2_new]
  clear hc hf hA hA1 hAc hi hWc hB hB0 hbk hw HT
  have g0 : Wc.cell? ⟨w.heap.size, 0, none⟩ = some (.int .u32 x0) := cell_of_row _ _ _ _ _ _ hh
  have g1 : Wc.cell? ⟨w.heap.size, 1, none⟩ = some (.int .u32 x1) := cell_of_row _ _ _ _ _ _ hh
  have g2 : Wc.cell? ⟨w.heap.size, 2, none⟩ = some (.int .u32 x2) := cell_of_row _ _ _ _ _ _ hh
  have g3 : Wc.cell? ⟨w.heap.size, 3, none⟩ = some (.int .u32 x3) := cell_of_row _ _ _ _ _ _ hh
  have g4 : Wc.cell? ⟨w.heap.size, 4, none⟩ = some (.int .u32 x4) := cell_of_row _ _ _ _ _ _ hh
  have g5 : Wc.cell? ⟨w.heap.size, 5, none⟩ = some (.int .u32 x5) := cell_of_row _ _ _ _ _ _ hh
  have g6 : Wc.cell? ⟨w.heap.size, 6, none⟩ = some (.int .u32 x6) := cell_of_row _ _ _ _ _ _ hh
  have g7 : Wc.cell? ⟨w.heap.size, 7, none⟩ = some (.int .u32 x7) := cell_of_row _ _ _ _ _ _ hh
  have Hr : Hid (_ = _) := hr
  have Hh : Hid (_ = _) := hh
  clear hh hr
  go_quiet (fail)
  go_wp2
  clear g0 g1 g2 g3 g4 g5 g6 g7
  generalize hS : (⟨x0, x1, x2, x3, x4, x5, x6, x7⟩ : S8) = S
  go_loopw [6, 7, 8, 9, 10, 11, 12, 13, 38] (fun va vb vc vd ve vf vg vh i wr => ∃ k n : Nat, k ≤ 64 ∧ i = .int .i64 k ∧ va = .int .u32 (to (Wl b.data.toList 64) S k).a ∧ vb = .int .u32 (to (Wl b.data.toList 64) S k).b ∧ vc = .int .u32 (to (Wl b.data.toList 64) S k).c ∧ vd = .int .u32 (to (Wl b.data.toList 64) S k).d ∧ ve = .int .u32 (to (Wl b.data.toList 64) S k).e ∧ vf = .int .u32 (to (Wl b.data.toList 64) S k).f ∧ vg = .int .u32 (to (Wl b.data.toList 64) S k).g ∧ vh = .int .u32 (to (Wl b.data.toList 64) S k).h ∧ wr = Wc.drewN n) (fun _ _ _ _ _ _ _ _ i _ => 64 - (intOf i).toNat)
  case atStart => subst hS; exact ⟨0, _, by omega, rfl, rfl, rfl, rfl, rfl, rfl, rfl, rfl, rfl, rfl⟩
  case round =>
    obtain ⟨k, n, hk, rfl, rfl, rfl, rfl, rfl, rfl, rfl, rfl, rfl, rfl⟩ := hrel
    by_cases hlt : k < 64
    · have c1 := HAc.out k hlt
      have c2 := hTc.out k hlt
      have hst : to (Wl b.data.toList 64) S (k + 1) = rnd (Ks.getD k 0) ((Wl b.data.toList 64).getD k 0) (to (Wl b.data.toList 64) S k) := rfl
      have Hst : Hid (_ = _) := hst
      clear hst
      generalize to (Wl b.data.toList 64) S k = T0 at *
      generalize (Wl b.data.toList 64).getD k 0 = ww at *
      generalize Ks.getD k 0 = kk at *
      obtain ⟨ta, tb, tc, td, te, tf, tg, th⟩ := T0
      dsimp only
      go_wp2_with fail
      refine (rot6 _ _).mono ?_
      rintro _ _ ⟨rfl, rfl⟩
      go_wp2_with fail
      refine (rot11 _ _).mono ?_
      rintro _ _ ⟨rfl, rfl⟩
      go_wp2_with fail
      refine (rot25 _ _).mono ?_
      rintro _ _ ⟨rfl, rfl⟩
      go_wp2_with fail
      go_quiet (fail)
      go_wp2_with fail
      refine (rot2 _ _).mono ?_
      rintro _ _ ⟨rfl, rfl⟩
      go_wp2_with fail
      refine (rot13 _ _).mono ?_
      rintro _ _ ⟨rfl, rfl⟩
      go_wp2_with fail
      refine (rot22 _ _).mono ?_
      rintro _ _ ⟨rfl, rfl⟩
      go_wp2
      go_roundw
      case rel => exact ⟨k + 1, _, by omega, by go_num, by rw [Hst.out]; rfl, by rw [Hst.out]; rfl, by rw [Hst.out]; rfl, by rw [Hst.out]; rfl, by rw [Hst.out]; rfl, by rw [Hst.out]; rfl, by rw [Hst.out]; rfl, by rw [Hst.out]; rfl, rfl⟩
      case measure => simp [intOf]; omega
    · have hk64 : Hid (k = 64) := (by omega : k = 64)
      have g0 : Wc.cell? ⟨w.heap.size, 0, none⟩ = some (.int .u32 x0) := cell_of_row _ _ _ _ _ _ Hh.out
      have g1 : Wc.cell? ⟨w.heap.size, 1, none⟩ = some (.int .u32 x1) := cell_of_row _ _ _ _ _ _ Hh.out
      have g2 : Wc.cell? ⟨w.heap.size, 2, none⟩ = some (.int .u32 x2) := cell_of_row _ _ _ _ _ _ Hh.out
      have g3 : Wc.cell? ⟨w.heap.size, 3, none⟩ = some (.int .u32 x3) := cell_of_row _ _ _ _ _ _ Hh.out
      have g4 : Wc.cell? ⟨w.heap.size, 4, none⟩ = some (.int .u32 x4) := cell_of_row _ _ _ _ _ _ Hh.out
      have g5 : Wc.cell? ⟨w.heap.size, 5, none⟩ = some (.int .u32 x5) := cell_of_row _ _ _ _ _ _ Hh.out
      have g6 : Wc.cell? ⟨w.heap.size, 6, none⟩ = some (.int .u32 x6) := cell_of_row _ _ _ _ _ _ Hh.out
      have g7 : Wc.cell? ⟨w.heap.size, 7, none⟩ = some (.int .u32 x7) := cell_of_row _ _ _ _ _ _ Hh.out
      have HE : Hid (to (Wl b.data.toList 64) S k = to (Wl b.data.toList 64) S 64) := (by rw [hk64.out] : to (Wl b.data.toList 64) S k = to (Wl b.data.toList 64) S 64)
      generalize to (Wl b.data.toList 64) S k = T0 at *
      obtain ⟨ta, tb, tc, td, te, tf, tg, th⟩ := T0
      dsimp only
      have hi8 : (Tryd.prog.info? 45).map (·.size) = some 8 := by kernel_rfl
      go_wp2_with (refine wpList_store_row rfl 45 _ _ rfl (w.heap.size + 1) #[.int .u32 ((x0 + ta) % 4294967296), .int .u32 ((x1 + tb) % 4294967296), .int .u32 ((x2 + tc) % 4294967296), .int .u32 ((x3 + td) % 4294967296), .int .u32 ((x4 + te) % 4294967296), .int .u32 ((x5 + tf) % 4294967296), .int .u32 ((x6 + tg) % 4294967296), .int .u32 ((x7 + th) % 4294967296)] rfl rfl 45 _ Hr.out hi8 rfl (all8 _ _ _ _ _ _ _ _) ?_)
      refine bodyPost_ret (v := .agg #[.int .u32 ((x0 + ta) % 4294967296), .int .u32 ((x1 + tb) % 4294967296), .int .u32 ((x2 + tc) % 4294967296), .int .u32 ((x3 + td) % 4294967296), .int .u32 ((x4 + te) % 4294967296), .int .u32 ((x5 + tf) % 4294967296), .int .u32 ((x6 + tg) % 4294967296), .int .u32 ((x7 + th) % 4294967296)]) (results_cell_row Tryd.results14 _ _ (w.heap.size + 1) 45 _ (0, 0) (.array 8 44) rfl (setRow_heap (Wc.drewN n) _ _ _ _ _ Hr.out) Tryd.underlying45 rfl hi8) rfl ⟨?_, ?_⟩
      · subst hS
        unfold comp
        rw [← HE.out]
        rfl
      · exact below_setRow (w := Wc.drewN n) (g := w.heap.size + 1) ⟨hBc.os, hBc.tape, hBc.output, hBc.size, hBc.block⟩ (by omega) _
end Go.Proofs.YtighkdnooglfjaaDoor
