/-
  The contract of (*chain.Chain).Seal.
-/
import Derived.Test.YtighkdnooglfjaaGreatDoorSwChG
namespace Go.Proofs.YtighkdnooglfjaaGreatDoor
open Go.RowKit

def ApRes (E:Nat->Addr) (width:Nat) (F:Nat->Prop) (r:Except Er (Option Tr)) (u:Nat) (rv:Option Addr) (ev:Value) (w':World):Prop:=match r with
 | .ok st'=>∃q',u=width/\rootV q'=.pointer rv/\ev=.nilIface/\StAt (dgW width) F w' q' st'/\StOk width st'
 | .error er=>∃t v,ev=.iface t v/\ErrIs E (erG er) w' (.iface t v)
theorem ApTo.res {E:Nat->Addr} {width:Nat} {F:Nat->Prop} {r:Except Er (Option Tr)} {e:Ending} {w':World} (h:ApTo E width F r e w'):∃(u:Nat) (rv:Option Addr) (ev:Value),e=.returned (.tuple #[.agg #[.int .i64 (u:Int),.pointer rv],ev])/\ApRes E width F r u rv ev w':=by
 cases r with
 | ok st'=>
  obtain ⟨q',rfl,h1,h2⟩:=h
  exact ⟨width,_,.nilIface,rfl,q',rfl,rfl,rfl,h1,h2⟩
 | error er=>
  obtain ⟨u,q',t,v,rfl,h1⟩:=h
  exact ⟨u,_,.iface t v,rfl,t,v,rfl,h1⟩
theorem ApRes.kept {E:Nat->Addr} {width:Nat} {F:Nat->Prop} {r:Except Er (Option Tr)} {u:Nat} {rv:Option Addr} {ev:Value} {w w':World} (h:ApRes E width F r u rv ev w) (h1:∀q st,StAt (dgW width) F w q st->StAt (dgW width) F w' q st) (h2:∀k v,ErrIs E k w v->ErrIs E k w' v):ApRes E width F r u rv ev w':=by
 cases r with
 | ok st'=>obtain ⟨q',a,b,c,d,e⟩:=h;exact ⟨q',a,b,c,h1 _ _ d,e⟩
 | error er=>obtain ⟨t,v,a,b⟩:=h;exact ⟨t,v,a,h2 _ _ b⟩
theorem ErrIs.next {E:Nat->Addr} {k:Nat} {w w':World} {v:Value} (h:ErrIs E k w v) (ht:Tch (λ_=>False) w w'):ErrIs E k w' v:=h.tch ht (λ_ _ _ _ h=>h)
theorem hdr_wr {width:Nat} {h:HdL} (hh:HdOk width h):stOut (stHdr width h (some (.wr []))).2=some (hdrB h):=by
 have h1:=(rt_hdr width h h hh).wr []
 rw [(stHdr_some width h _ _ _ h1).1]
 rfl
theorem TxsAt.up {B B':Nat} {w:World} {v:Value} {l:List (Sl×Sl)} (h:TxsAt B w v l) (hb:B<=B'):TxsAt B' w v l:=by
 rcases h with h | ⟨gi,oi,c,h1,h2,h3⟩
 ·exact .inl h
 ·exact .inr ⟨gi,oi,c,h1,by omega,h3⟩
theorem txB_le (width:Nat) (hw:width<=32) (t:TxL) (h:TxOk width t):(txB t).length<=200:=by
 have hc:∀(l:List (ByteArray×Int)),(∀c∈l,CoinOk width c)->(l.flatMap coinB).length=l.length * (width+1):=by
  intro l
  induction l with
  | nil=>intro _;simp
  | cons x r ih=>
   intro hl
   rw [List.flatMap_cons,List.length_append,List.length_cons,Nat.succ_mul,coinB_len (hl x List.mem_cons_self),ih (λy hy=>hl y (List.mem_cons_of_mem _ hy))]
   omega
 have ho:∀(l:List (Nat×Nat)),(l.flatMap outB).length=l.length * 9:=by
  intro l
  induction l with
  | nil=>simp
  | cons x r ih=>
   rw [List.flatMap_cons,List.length_append,List.length_cons,Nat.succ_mul,ih]
   have:(outB x).length=9:=by unfold outB;rw [List.length_append,beL_length,beL_length]
   omega
 unfold txB listCB listOB
 simp only [List.length_append,beL_length,hc t.1 h.coins,ho t.2]
 have h1:=h.ins
 have h2:=h.made
 have:t.1.length * (width+1)<=3 * 33:=Nat.mul_le_mul h1 (by omega)
 omega
theorem bodyB_le (width:Nat) (hw:width<=32) (ts:List TxL) (h:∀t∈ts,TxOk width t) (h3:ts.length<=3):(bodyB ts).length<=1000:=by
 have:∀(l:List TxL),(∀t∈l,TxOk width t)->(l.flatMap txB).length<=l.length * 200:=by
  intro l
  induction l with
  | nil=>intro _;simp
  | cons x r ih=>
   intro hl
   have a:=txB_le width hw x (hl x List.mem_cons_self)
   have b:=ih (λy hy=>hl y (List.mem_cons_of_mem _ hy))
   rw [List.flatMap_cons,List.length_append,List.length_cons,Nat.succ_mul]
   omega
 have:=this ts h
 unfold bodyB
 rw [List.length_append,beL_length]
 omega
def SealTo (E:Nat->Addr) (r:Except Er (List UInt8)) (e:Ending) (w':World):Prop:=match r with
 | .ok b=>e=.returned (.tuple #[.string ⟨b.toArray⟩,.nilIface])
 | .error er=>∃t u,e=.returned (.tuple #[.string ⟨#[]⟩,.iface t u])/\ErrIs E (erG er) w' (.iface t u)
set_option maxRecDepth 100000 in
set_option maxHeartbeats 2000000 in
theorem chSeal_any (E : Nat -> Addr) {w : World} (hE : Env E w) {cb width fl r : Nat} (hw1 : 1 <= width) (hw : width <= 32) {bs : List BV} {lv : Value} (h : ChRow w cb width fl r bs lv) (m : Nat) (hm : bs.length = m + 1) (hm2 : m < 2 ^ 31) (bh : ByteArray) (q : Option Nat) (st : Option Tr) (hb : bs[m]? = some (bh, width, q)) (hbs : bh.size <= 1000) (F : Nat -> Prop) (hF : ∀ j, w.heap.size <= j -> F j) (hs : StAt (dgW width) F w q st) (hok : StOk width st) (v : Value) (l : List (Sl × Sl)) (ts : List TxL) (hts : ∀ t ∈ ts, TxOk width t) (h3 : ts.length <= 3) (hv : TxsAt w.heap.size w v l) (hin : TxIn w.heap.size w l ts) :
    Calls Tryz.prog 45 #[.pointer (some ⟨cb, 0, none⟩), v] w λe w' => Tch (λ_ => False) w w' /\ SealTo E (match applyT (dgW width) st ts with | .error e => .error e | .ok st' => .ok (hdrB (m + 1, dgW width (72 :: bh.data.toList), dgW width (66 :: bodyB ts), stDig (dgW width) st') ++ bodyB ts)) e w' := by
  have hsz := hE.size
  obtain ⟨rv, hrv⟩ : ∃ rv, rootV q = .pointer rv := ⟨_, rfl⟩
  have HE : Hid (Env E w) := hE
  have HTIP : Hid (∀ W, Tch (λ_ => False) w W -> Calls Tryz.prog 40 #[.pointer (some ⟨cb, 0, none⟩)] W λe w' => e = .returned (.int .i64 (m : Int)) /\ W = w') := λW hT => (tip_any (h.next hT) (by omega)).mono λe w' k => ⟨by rw [k.1, hm]; congr 2; omega, k.2⟩
  have HRD : Hid (∀ W', Tch (λ_ => False) w W' -> ChS cb width r (m : Int) (.agg #[.string bh, .int .i64 (width : Int), .pointer rv]) W') := λW' hT => by
    have := (h.next hT).reads m _ hb
    simp only [bV, hrv] at this
    exact this
  have HBO : Hid (∀ W, Tch (λ_ => False) w W -> PortAt W w.heap.size none (width : Int) .nilIface (.wr []) -> Calls Tryz.prog 78 #[.pointer (some ⟨w.heap.size, 0, none⟩), v] W λe w' => ToB E W w.heap.size none width (some (ts, .wr (bodyB ts))) e w') := λW hT hp => by
    have hr := (rt_body width ts hts h3).wr []
    rw [List.nil_append] at hr
    have := body_all E w.heap.size hsz none width hw v l ts (.wr []) W (hE.tch hT noE) hp (hv.tch hT noE) hin.1 (by omega) (wr_takes _ _) (λj x t h1 h2 => by
      obtain ⟨k1, k2⟩ := hin.2 j x t h1 h2
      have ht := hts t (List.mem_of_getElem? h2)
      have e1 := ht.ins
      have e2 := ht.made
      exact ⟨k1.tch hT noE, k2.tch hT noE, by omega, by omega, wr_takes _ _, wr_takes _ _, λo ho => (ht.outs o ho).2⟩) (by show 0 <= _; omega)
    rw [hr] at this
    exact this
  have HAP : Hid (∀ W, Tch (λ_ => False) w W -> Calls Tryz.prog 81 #[.int .i64 (width : Int), .agg #[.int .i64 (width : Int), .pointer rv], v] W λe w' => ∃ (u : Nat) (rv : Option Addr) (ev : Value), e = .returned (.tuple #[.agg #[.int .i64 (u : Int), .pointer rv], ev]) /\ ApRes E width F (applyT (dgW width) st ts) u rv ev w' /\ Tch (λ_ => False) W w') := λW hT => by
    have := apply_any E width hw1 hw F q st v l ts hts h3 W (hE.tch hT noE) (λj hj => hF j (Nat.le_trans hT.size hj)) ((hv.tch hT noE).up hT.size) ⟨hin.1, λj x t h1 h2 => ⟨((hin.2 j x t h1 h2).1.tch hT noE).up hT.size, ((hin.2 j x t h1 h2).2.tch hT noE).up hT.size⟩⟩ (hs.next hT) hok
    unfold treeV at this
    rw [hrv] at this
    refine this.mono λe w' h => ?_
    obtain ⟨u, rv', ev, h1, h2⟩ := h.2.res
    exact ⟨u, rv', ev, h1, h2, h.1⟩
  have HNX : Hid (∀ W, Tch (λ_ => False) w W -> Calls Tryz.prog 82 #[.pointer (some ⟨cb, 0, none⟩), .string ⟨(bodyB ts).toArray⟩] W λe w' => e = .returned (.agg #[.int .u64 ((m + 1 : Nat) : Int), .string (dgW width (72 :: bh.data.toList)), .string (dgW width (66 :: bodyB ts)), .string ⟨#[]⟩]) /\ Tch (λ_ => False) W w') := λW hT => next_any E (hE.tch hT noE) hw1 hw (h.next hT) m hm hm2 _ hb hbs ⟨(bodyB ts).toArray⟩ (by have := bodyB_le width hw ts hts h3; show (bodyB ts).toArray.size <= _; simp; omega)
  have HDG : Hid (∀ W q1 st1, Tch (λ_ => False) w W -> StAt (dgW width) F W q1 st1 -> Calls Tryz.prog 83 #[treeV width q1] W λe w' => e = .returned (.string (stDig (dgW width) st1)) /\ Tch (λ_ => False) W w') := λW q1 st1 hT k => treeDigest_any E width hw1 hw F q1 st1 W (hE.tch hT noE) k
  have HHB : Hid (∀ W st1, Tch (λ_ => False) w W -> Calls Tryz.prog 84 #[.int .i64 (width : Int), .agg #[.int .u64 ((m + 1 : Nat) : Int), .string (dgW width (72 :: bh.data.toList)), .string (dgW width (66 :: bodyB ts)), .string (stDig (dgW width) st1)]] W λe w' => e = .returned (.tuple #[.string ⟨(hdrB (m + 1, dgW width (72 :: bh.data.toList), dgW width (66 :: bodyB ts), stDig (dgW width) st1)).toArray⟩, .nilIface]) /\ Tch (λ_ => False) W w') := λW st1 hT => by
    have := headerBytes_any E width (by omega) (m + 1) (dgW width (72 :: bh.data.toList)) (dgW width (66 :: bodyB ts)) (stDig (dgW width) st1) W (hE.tch hT noE)
    refine this.mono λe w' k => ?_
    obtain ⟨k1, k2⟩ := k
    rw [hdr_wr ⟨by show m + 1 < 2 ^ 32; omega, dgW_size width hw _, dgW_size width hw _, stDig_size _ width (dgW_size width hw) st1⟩] at k2
    exact ⟨k2, k1⟩
  have HLN : Hid ((bodyB ts).length <= 1000) := bodyB_le width hw ts hts h3
  have HHL : Hid (∀ st1, (hdrB (m + 1, dgW width (72 :: bh.data.toList), dgW width (66 :: bodyB ts), stDig (dgW width) st1)).length <= 100) := λst1 => by
    have sz : ∀ x : ByteArray, x.data.toList.length = x.size := λx => by simp only [Array.length_toList]; rfl
    unfold hdrB
    simp only [List.length_append, beL_length, sz, dgW_size width hw, stDig_size (dgW width) width (dgW_size width hw)]
    omega
  obtain ⟨c0, c2, hlk⟩ := HRD.out w (Tch.refl _ _)
  obtain ⟨ia, ic, hvs⟩ := hv.shape
  generalize hAT : applyT (dgW width) st ts = AT at *
  generalize dgW width (72 :: bh.data.toList) = sa at *
  generalize dgW width (66 :: bodyB ts) = sb at *
  have hfl : ∀ W, (Instr.field 148 (.agg #[.string bh, .int .i64 (width : Int), .pointer rv]) 1).run Tryz.prog W = .ok (.agg #[.int .i64 (width : Int), .pointer rv]) W := λW => by kernel_rfl
  clear hE h hb hbs hF hs hok hts h3 hv hin hrv hAT
  subst hvs
  go_enter Tryz.func45, Tryz.ntmps45
  go_wp2_with fail
  refine (newWriter_any _ _).mono ?_
  rintro _ w1 ⟨rfl, hp1, ht1⟩
  have HT1 : Hid (Tch (λ_ => False) w w1) := ht1
  have HP1 : Hid (PortAt w1 w.heap.size none (width : Int) .nilIface (.wr [])) := hp1
  clear ht1 hp1 c0 c2 hlk
  obtain ⟨c0, c2, hlk⟩ := HRD.out w1 HT1.out
  go_wp2_with fail
  refine (HBO.out w1 HT1.out HP1.out).mono ?_
  rintro _ w2 ⟨x2, g2, rfl, hp2, hm2', ht2, _⟩
  have HP2 : Hid (PortSt E w2 w.heap.size g2 width (some (.wr (bodyB ts)))) := hp2
  have HT2 : Hid (Tch (λ_ => False) w w2) := fresh_wr2 (b := w.heap.size) (Nat.le_refl _) HT1.out ht2
  clear hp2 ht2 c0 c2 hlk HP1 HT1 hm2' HBO
  obtain ⟨c0, c2, hlk⟩ := HRD.out w2 HT2.out
  go_wp2_with fail
  refine (wdone_st E w.heap.size g2 width (some (.wr (bodyB ts))) (λp hp => ⟨_, (Option.some.inj hp).symm⟩) w2 HP2.out).mono ?_
  rintro _ w3 ⟨ht3, rfl⟩
  have HT3 : Hid (Tch (λ_ => False) w w3) := HT2.out.go ht3
  have HT3d : Hid (Tch (λ_ => False) w w3.drew) := HT3.out.dr 1
  clear ht3 HP2 HT2 c0 c2 hlk
  have HT3a : Hid (Tch (λ_ => False) w (w3.alloc (.cells #[.int .i64 0, .pointer none] 146)).drew) := (HT3.out.go (Tch.alloc _ _ _)).dr 1
  have HZR : Hid ((w3.alloc (.cells #[.int .i64 0, .pointer none] 146)).drew.heap[w3.heap.size]? = some (.cells #[.int .i64 0, .pointer none] 146)) := heap_alloc_new _ _
  have HZ : Hid (w3.heap.size < (w3.alloc (.cells #[.int .i64 0, .pointer none] 146)).drew.heap.size) := (row_lt HZR.out)
  obtain ⟨c0, c2, hlk⟩ := HRD.out w3.drew HT3d.out
  obtain ⟨a0, a2, hlka⟩ := HRD.out (w3.alloc (.cells #[.int .i64 0, .pointer none] 146)).drew HT3a.out
  go_wp2_with fail
  go_region_held3 (λW => W.cell? ⟨cb, 0, none⟩ = some (.int .i64 (width : Int)) /\ W.cell? ⟨cb, 2, none⟩ = some (.map (some r)) /\ (Instr.lookup 141 (.map (some r)) (.int .i64 (m : Int)) false).run Tryz.prog W = .ok (.agg #[.string bh, .int .i64 (width : Int), .pointer rv]) W) (go_keep) ((first | (go_at_call 40; refine (HTIP.out _ (by first | exact HT3d.out | exact HT3a.out)).mono ?_; rintro _ _ ⟨rfl, rfl⟩) | (go_at_call 81; refine (HAP.out w3.drew HT3d.out).mono ?_; rintro _ w4 ⟨u4, rv4, ev4, rfl, hr4, ht4⟩; have hTw4 : Tch (λ_ => False) w w4 := HT3d.out.go ht4; obtain ⟨d0, d2, hlk4⟩ := HRD.out w4 hTw4; obtain ⟨f0, f2, hlk5⟩ := HRD.out (w4.alloc (.cells #[.int .i64 (u4 : Int), .pointer rv4] 146)) (hTw4.go (Tch.alloc _ _ _)); obtain ⟨_, _, hlk6⟩ := HRD.out (w4.alloc (.cells #[.int .i64 0, .pointer none] 146)) (hTw4.go (Tch.alloc _ _ _)); have HT4 : Hid (Tch (λ_ => False) w w4) := hTw4; have HR4 : Hid (ApRes _ _ _ _ _ _ _ _) := hr4; have HK4 : Hid (w4.heap.size = w4.heap.size) := rfl; clear hTw4 ht4 hr4) | (go_at_call 81; refine (HAP.out (w3.alloc (.cells #[.int .i64 0, .pointer none] 146)).drew HT3a.out).mono ?_; rintro _ w4 ⟨u4, rv4, ev4, rfl, hr4, ht4⟩; have hTw4 : Tch (λ_ => False) w w4 := HT3a.out.go ht4; obtain ⟨d0, d2, hlk4⟩ := HRD.out w4 hTw4; have hr9 : w4.heap[w3.heap.size]? = some (.cells #[.int .i64 0, .pointer none] 146) := (ht4.block _ HZ.out (λh => h)).trans HZR.out; have s0 : w4.cell? ⟨w3.heap.size, 0, none⟩ = some (.int .i64 0) := cell_row hr9; have s1 : w4.cell? ⟨w3.heap.size, 1, none⟩ = some (.pointer none) := cell_row hr9; have sf : ∀ j, w4.frozen? ⟨w3.heap.size, j, none⟩ = false := λj => frozen_of_row _ _ _ _ _ hr9; obtain ⟨f0, f2, hlk5⟩ := HRD.out ((w4.setCell ⟨w3.heap.size, 0, none⟩ (.int .i64 (u4 : Int))).setCell ⟨w3.heap.size, 1, none⟩ (.pointer rv4)) (by rw [set2 _ _ _ _ _ _ _ hr9]; exact hTw4.trans (Tch.setRow _ _ _) (λj hj => .inr (by have := HT3.out.size; omega))); have HT4 : Hid (Tch (λ_ => False) w w4) := hTw4; have HR4 : Hid (ApRes _ _ _ _ _ _ _ _) := hr4; have HR9 : Hid (w4.heap[w3.heap.size]? = some _) := hr9; clear hTw4 ht4 hr4 hr9)))
  all_goals
    clear c0 c2 hlk a0 a2 hlka d0 d2 hlk4
    first
    | (have tk := HK4
       have hr5 : (w4.alloc (.cells #[.int .i64 (u4 : Int), .pointer rv4] 146)).heap[w4.heap.size]? = some (.cells #[.int .i64 (u4 : Int), .pointer rv4] 146) := heap_alloc_new _ _
       have HT5 : Hid (Tch (λ_ => False) w (w4.alloc (.cells #[.int .i64 (u4 : Int), .pointer rv4] 146))) := HT4.out.go (Tch.alloc _ _ _)
       have HR5 : Hid (ApRes E width F AT u4 rv4 ev4 (w4.alloc (.cells #[.int .i64 (u4 : Int), .pointer rv4] 146))) := HR4.out.kept (λq st h => h.next (Tch.alloc _ _ _)) (λk v h => h.next (Tch.alloc _ _ _))
       clear HR4 HT4 tk HK4 hlk6
       obtain ⟨w5, hw5⟩ : ∃ w5, w5 = w4.alloc (.cells #[.int .i64 (u4 : Int), .pointer rv4] 146) := ⟨_, rfl⟩
       rw [<- hw5] at hr5 HT5 HR5 f0 f2 hlk5 ⊢
       clear hw5
       obtain ⟨k9, hk9⟩ : ∃ k9, k9 = w4.heap.size := ⟨_, rfl⟩
       rw [<- hk9] at hr5 ⊢
       clear hk9)
    | (obtain ⟨hr5, hT5, p3, p4⟩ := tree_put HR9.out HT4.out HT3.out.size (.int .i64 (u4 : Int)) (.pointer rv4)
       have HT5 : Hid (Tch (λ_ => False) w ((w4.setCell ⟨w3.heap.size, 0, none⟩ (.int .i64 (u4 : Int))).setCell ⟨w3.heap.size, 1, none⟩ (.pointer rv4))) := hT5
       have HR5 : Hid (ApRes E width F AT u4 rv4 ev4 ((w4.setCell ⟨w3.heap.size, 0, none⟩ (.int .i64 (u4 : Int))).setCell ⟨w3.heap.size, 1, none⟩ (.pointer rv4))) := HR4.out.kept (λq st h => p3 _ _ _ _ h) (λk v h => p4 _ _ _ h)
       clear HR4 HT4 HR9 p3 p4 hT5 s0 s1 sf
       obtain ⟨w5, hw5⟩ : ∃ w5, w5 = ((w4.setCell ⟨w3.heap.size, 0, none⟩ (.int .i64 (u4 : Int))).setCell ⟨w3.heap.size, 1, none⟩ (.pointer rv4)) := ⟨_, rfl⟩
       rw [<- hw5] at hr5 HT5 HR5 f0 f2 hlk5 ⊢
       clear hw5
       obtain ⟨k9, hk9⟩ : ∃ k9, k9 = w3.heap.size := ⟨_, rfl⟩
       rw [<- hk9] at hr5 ⊢
       clear hk9)
    clear HT3 HT3d HT3a HZ HZR
    have s0 : w5.cell? ⟨k9, 0, none⟩ = some (.int .i64 (u4 : Int)) := cell_row hr5
    have s1 : w5.cell? ⟨k9, 1, none⟩ = some (.pointer rv4) := cell_row hr5
    have hk5 : k9 < w5.heap.size := (row_lt hr5)
    have HRK : Hid (w5.heap[k9]? = some (.cells #[.int .i64 (u4 : Int), .pointer rv4] 146)) := hr5
    clear hr5
    cases AT with
    | error er =>
      obtain ⟨tv, uv, rfl, hv⟩ := HR5.out
      have HV : Hid (ErrIs E (erG er) w5 (.iface tv uv)) := hv
      clear hv HR5 HNX HHB HDG HAP HRD HTIP
      go_wp2_with fail
      refine (at_err _ _ _ _).mono ?_
      rintro _ _ ⟨rfl, rfl⟩
      go_wp2
      go_ret2
      exact ⟨HT5.out.go (Tch.alloc _ _ _), _, _, rfl, .wrap _ _ _ (heap_alloc_new _ _) (HV.out.next (Tch.alloc _ _ _))⟩
    | ok st' =>
      obtain ⟨q', rfl, hq, rfl, hs5, hk5'⟩ := HR5.out
      have HQ : Hid (rootV q' = .pointer rv4) := hq
      have HS5 : Hid (StAt (dgW u4) F w5 q' st') := hs5
      clear hq hs5 hk5' HR5 HAP
      obtain ⟨y0, y2, hly⟩ := HRD.out w5 HT5.out
      clear f0 f2 hlk5
      go_wp2_with fail
      refine (HNX.out w5 HT5.out).mono ?_
      rintro _ w6 ⟨rfl, ht6⟩
      have HT6 : Hid (Tch (λ_ => False) w w6) := HT5.out.go ht6
      have HT6a : Hid (Tch (λ_ => False) w (w6.alloc (.cells #[.int .u64 ((m + 1 : Nat) : Int), .string sa, .string sb, .string ⟨#[]⟩] 167))) := HT6.out.go (Tch.alloc _ _ _)
      have HS6 : Hid (StAt (dgW u4) F (w6.alloc (.cells #[.int .u64 ((m + 1 : Nat) : Int), .string sa, .string sb, .string ⟨#[]⟩] 167)) q' st') := (HS5.out.next ht6).next (Tch.alloc _ _ _)
      have t0 : w6.cell? ⟨k9, 0, none⟩ = some (.int .i64 (u4 : Int)) := (ht6.cell (p := ⟨k9, 0, none⟩) hk5 (λh => h)).trans s0
      have t1 : w6.cell? ⟨k9, 1, none⟩ = some (.pointer rv4) := (ht6.cell (p := ⟨k9, 1, none⟩) hk5 (λh => h)).trans s1
      have hk6 : k9 < w6.heap.size := Nat.lt_of_lt_of_le hk5 ht6.size
      have HDI := HDG.out _ q' st' HT6a.out HS6.out
      unfold treeV at HDI
      rw [HQ.out] at HDI
      have HDI' : Hid (Calls _ _ _ _ _) := HDI
      clear ht6 s0 s1 y0 y2 hly HNX HDI HS6 HS5
      go_wp2_with fail
      refine HDI'.out.mono ?_
      rintro _ w7 ⟨rfl, ht7⟩
      have HT7 : Hid (Tch (λ_ => False) w w7) := HT6a.out.go ht7
      have hr7 : w7.heap[w6.heap.size]? = some (.cells #[.int .u64 ((m + 1 : Nat) : Int), .string sa, .string sb, .string ⟨#[]⟩] 167) := (ht7.block _ (by simp) (λh => h)).trans (heap_alloc_new _ _)
      have r0 : w7.cell? ⟨w6.heap.size, 0, none⟩ = some (.int .u64 ((m + 1 : Nat) : Int)) := cell_row hr7
      have r1 : w7.cell? ⟨w6.heap.size, 1, none⟩ = some (.string sa) := cell_row hr7
      have r2 : w7.cell? ⟨w6.heap.size, 2, none⟩ = some (.string sb) := cell_row hr7
      have r3 : w7.cell? ⟨w6.heap.size, 3, none⟩ = some (.string ⟨#[]⟩) := cell_row hr7
      have fr : ∀ j, w7.frozen? ⟨w6.heap.size, j, none⟩ = false := λj => frozen_of_row _ _ _ _ _ hr7
      have HR7 : Hid (w7.heap[w6.heap.size]? = some _) := hr7
      obtain ⟨y0, y2, hly⟩ := HRD.out w7 HT7.out
      generalize hsd : stDig (dgW u4) st' = sd at *
      have HSD : Hid (stDig (dgW u4) st' = sd) := hsd
      have HHC := λW hT => HHB.out W st' hT
      rw [hsd] at HHC
      have HHC' : Hid (∀ W, Tch (λ_ => False) w W -> Calls _ _ _ W _) := HHC
      clear ht7 hr7 HDI' HDG HHC HHB hsd t0 t1
      go_wp2_with fail
      have hset : w7.setCell ⟨w6.heap.size, 3, none⟩ (.string sd) = w7.setRow w6.heap.size #[.int .u64 ((m + 1 : Nat) : Int), .string sa, .string sb, .string sd] := by
        rw [setCell_eq_setRow w7 w6.heap.size 3 _ _ (0, 0) _ HR7.out]
        rfl
      have hr8 : (w7.setRow w6.heap.size #[.int .u64 ((m + 1 : Nat) : Int), .string sa, .string sb, .string sd]).heap[w6.heap.size]? = some (.cells #[.int .u64 ((m + 1 : Nat) : Int), .string sa, .string sb, .string sd] 167) := setRow_heap _ _ _ _ _ _ HR7.out
      have HT8 : Hid (Tch (λ_ => False) w (w7.setRow w6.heap.size #[.int .u64 ((m + 1 : Nat) : Int), .string sa, .string sb, .string sd])) := HT7.out.trans (Tch.setRow _ _ _) (λj hj => .inr (by have := HT6.out.size; omega))
      rw [hset]
      clear hset r0 r1 r2 r3 fr y0 y2 hly HR7
      generalize w7.setRow w6.heap.size #[.int .u64 ((m + 1 : Nat) : Int), .string sa, .string sb, .string sd] = w8 at *
      have r0 : w8.cell? ⟨w6.heap.size, 0, none⟩ = some (.int .u64 ((m + 1 : Nat) : Int)) := cell_row hr8
      have r1 : w8.cell? ⟨w6.heap.size, 1, none⟩ = some (.string sa) := cell_row hr8
      have r2 : w8.cell? ⟨w6.heap.size, 2, none⟩ = some (.string sb) := cell_row hr8
      have r3 : w8.cell? ⟨w6.heap.size, 3, none⟩ = some (.string sd) := cell_row hr8
      obtain ⟨y0, _, _⟩ := HRD.out w8 HT8.out
      have HT8d : Hid (Tch (λ_ => False) w w8.drew) := HT8.out.dr 1
      have hz8 : w6.heap.size < w8.heap.size := (row_lt hr8)
      have HR8 : Hid (w8.heap[w6.heap.size]? = some _) := hr8
      clear hr8
      go_region_held3 (λW => W.cell? ⟨cb, 0, none⟩ = some (.int .i64 (u4 : Int)) /\ W.cell? ⟨w6.heap.size, 0, none⟩ = some (.int .u64 ((m + 1 : Nat) : Int)) /\ W.cell? ⟨w6.heap.size, 1, none⟩ = some (.string sa) /\ W.cell? ⟨w6.heap.size, 2, none⟩ = some (.string sb) /\ W.cell? ⟨w6.heap.size, 3, none⟩ = some (.string sd)) (go_keep) ((go_at_call 84; refine (HHC'.out _ HT8d.out).mono ?_; rintro _ w9 ⟨rfl, ht9⟩; have hTw9 : Tch (λ_ => False) w w9 := HT8d.out.go ht9; have hT89 : Tch (λ_ => False) w8 w9 := (Tch.drewN (λ_ => False) w8 1).go ht9; have hr9 : w9.heap[w6.heap.size]? = some (.cells #[.int .u64 ((m + 1 : Nat) : Int), .string sa, .string sb, .string sd] 167) := (hT89.block _ hz8 (λh => h)).trans HR8.out; have q0 : w9.cell? ⟨w6.heap.size, 0, none⟩ = some (.int .u64 ((m + 1 : Nat) : Int)) := cell_row hr9; have q1 : w9.cell? ⟨w6.heap.size, 1, none⟩ = some (.string sa) := cell_row hr9; have q2 : w9.cell? ⟨w6.heap.size, 2, none⟩ = some (.string sb) := cell_row hr9; have q3 : w9.cell? ⟨w6.heap.size, 3, none⟩ = some (.string sd) := cell_row hr9; obtain ⟨x0, _, _⟩ := HRD.out w9 hTw9; have HT9 : Hid (Tch (λ_ => False) w w9) := hTw9; clear ht9 hTw9 hT89 hr9))
      all_goals
        have hl := HHL.out st'
        rw [HSD.out] at hl
        obtain ⟨ss, _, hss, hadd⟩ := add_str (hdrB (m + 1, sa, sb, sd)) (bodyB ts) (by have := HLN.out; omega) hl
        have HSS : Hid (ss.data.toList = hdrB (m + 1, sa, sb, sd) ++ bodyB ts) := hss
        clear hl hss HHL HLN HRD HHC' q0 q1 q2 q3 x0 r0 r1 r2 r3 y0
        generalize (⟨(hdrB (m + 1, sa, sb, sd)).toArray⟩ : ByteArray) = hbz at *
        generalize (⟨(bodyB ts).toArray⟩ : ByteArray) = bbz at *
        go_wp2
        go_ret2
        refine ⟨HT9.out, ?_⟩
        show _ = Ending.returned (.tuple #[.string ⟨(hdrB (m + 1, sa, sb, stDig (dgW u4) st') ++ bodyB ts).toArray⟩, .nilIface])
        rw [HSD.out, <- HSS.out]
        rfl
end Go.Proofs.YtighkdnooglfjaaGreatDoor
