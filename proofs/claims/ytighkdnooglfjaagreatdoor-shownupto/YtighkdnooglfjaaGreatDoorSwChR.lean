/-
  chain.stateAt; chain.Query.
  The face's Query; what the keeper wants of a ledger beside 'Led'.
-/
import Derived.Test.YtighkdnooglfjaaGreatDoorSwChG
import Derived.Test.YtighkdnooglfjaaGreatDoorSwWyT
import Derived.Test.YtighkdnooglfjaaGreatDoorSwFaA
namespace Go.Proofs.YtighkdnooglfjaaGreatDoor
open Go.RowKit

set_option maxRecDepth 100000 in
set_option maxHeartbeats 1000000 in
theorem stateAt_in {w:World} {cb width fl r:Nat} {bs:List BV} {v:Value} (h:ChRow w cb width fl r bs v) (k:Nat) (b:BV) (hk:bs[k]? =some b) (hf:fl<=k):
  Calls Tryz.prog 92 #[.pointer (some ⟨cb,0,none⟩),.int .i64 (k:Int)] w λe w'=>e=.returned (.tuple #[treeV b.2.1 b.2.2,.nilIface])/\Tch (λ_=>False) w w':=by
 obtain ⟨W,hW⟩:∃W,W=w.alloc (.cells #[.int .i64 0,.pointer none] 146):=⟨_,rfl⟩
 have hA:Tch (λ_=>False) w W:=by rw [hW];exact Tch.alloc _ _ _
 have c1:W.cell? ⟨cb,1,none⟩=some (.int .i64 (fl:Int)):=cell_row (h.next hA).row
 have HAT:Hid (Calls _ _ _ _ _):=at_in (h.next hA) k b hk
 have hrow:W.heap[w.heap.size]? =some (.cells #[.int .i64 0,.pointer none] 146):=by rw [hW];exact heap_alloc_new _ _
 have HW:Hid (W=w.alloc (.cells #[.int .i64 0,.pointer none] 146)):=hW
 have HR:Hid (W.heap[w.heap.size]? =_):=hrow
 have HA:Hid (Tch _ w W):=hA
 obtain ⟨bh,bu,bq⟩:=b
 obtain ⟨rv,hrv⟩:∃rv,rootV bq=.pointer rv:=⟨_,rfl⟩
 simp only [bV] at HAT
 show Calls _ _ _ _ λe w'=>e=.returned (.tuple #[.agg #[_,rootV bq],.nilIface])/\_
 rw [hrv] at HAT ⊢
 have hlt:¬(k:Int)<(fl:Int):=by omega
 clear h hk hW hrow hA hrv hf
 go_enter Tryz.func92,Tryz.ntmps92
 go_upto_region 1 with fail
 rw [<-HW.out]
 go_wp2_with fail
 refine HAT.out.mono ?_
 rintro _ w2 ⟨rfl,ht2⟩
 have hr2:w2.heap[w.heap.size]? =some (.cells #[.int .i64 0,.pointer none] 146):=(ht2.block _ (row_lt HR.out) (λh=>h)).trans HR.out
 have hz2:=(row_lt hr2)
 obtain ⟨W3,hW3⟩:∃W3,W3=w2.alloc (.cells #[.string bh,.int .i64 (bu:Int),.pointer rv] 148):=⟨_,rfl⟩
 have t3:Tch (λ_=>False) w2 W3:=by rw [hW3];exact Tch.alloc _ _ _
 have hr3:W3.heap[w.heap.size]? =some (.cells #[.int .i64 0,.pointer none] 146):=(t3.block _ hz2 (λh=>h)).trans hr2
 have hq3:W3.heap[w2.heap.size]? =some (.cells #[.string bh,.int .i64 (bu:Int),.pointer rv] 148):=by rw [hW3];exact heap_alloc_new _ _
 have r0:W3.cell? ⟨w.heap.size,0,none⟩=some (.int .i64 0):=cell_row hr3
 have r1:W3.cell? ⟨w.heap.size,1,none⟩=some (.pointer none):=cell_row hr3
 have fR:∀j,W3.frozen? ⟨w.heap.size,j,none⟩=false:=λj=>frozen_of_row _ _ _ _ _ hr3
 have q1:W3.cell? ⟨w2.heap.size,1,none⟩=some (.int .i64 (bu:Int)):=cell_row hq3
 have q2:W3.cell? ⟨w2.heap.size,2,none⟩=some (.pointer rv):=cell_row hq3
 have HR3:Hid (W3.heap[w.heap.size]? =_):=hr3
 have HW3:Hid (W3=_):=hW3
 have HT3:Hid (Tch (λ_=>False) w W3):=(HA.out.go ht2).go t3
 clear ht2 hr2 t3 hr3 hq3 hW3 HAT HR HA HW c1
 go_upto_region 4 with fail
 rw [<-HW3.out]
 go_wp2
 rw [set2 _ _ _ _ _ _ _ HR3.out]
 refine bodyPost_ret (v:=.tuple #[.agg #[.int .i64 (bu:Int),.pointer rv],.nilIface]) (results_cell_tmp Tryz.results92 _ _ w.heap.size _ _ (0,0) _ rfl (setRow_heap _ _ _ _ _ _ HR3.out) Tryz.underlying146 rfl (by kernel_rfl)) rfl ⟨rfl,?_⟩
 exact HT3.out.trans (Tch.setRow _ _ _) (λj hj=>.inr (by omega))
set_option maxRecDepth 100000 in
set_option maxHeartbeats 1000000 in
theorem stateAt_low (E:Nat->Addr) {w:World} (hE:Env E w) {cb width fl r:Nat} {bs:List BV} {v:Value} (h:ChRow w cb width fl r bs v) (k:Int) (hk:k<(fl:Int)):
  Calls Tryz.prog 92 #[.pointer (some ⟨cb,0,none⟩),.int .i64 k] w λe w'=>∃t u,e=.returned (.tuple #[treeV 0 none,.iface t u])/\ErrIs E 5 w' (.iface t u)/\Tch (λ_=>False) w w':=by
 obtain ⟨W,hW⟩:∃W,W=w.alloc (.cells #[.int .i64 0,.pointer none] 146):=⟨_,rfl⟩
 have hA:Tch (λ_=>False) w W:=by rw [hW];exact Tch.alloc _ _ _
 have c1:W.cell? ⟨cb,1,none⟩=some (.int .i64 (fl:Int)):=cell_row (h.next hA).row
 have hrg:=(hE.tch hA noE).range
 have hsz:=(hE.tch hA noE).size
 have hGs:5<W.heap.size:=Nat.lt_of_lt_of_le (by decide) hsz
 have hrow:W.heap[w.heap.size]? =some (.cells #[.int .i64 0,.pointer none] 146):=by rw [hW];exact heap_alloc_new _ _
 have r0:W.cell? ⟨w.heap.size,0,none⟩=some (.int .i64 0):=cell_row hrow
 have r1:W.cell? ⟨w.heap.size,1,none⟩=some (.pointer none):=cell_row hrow
 have fR:∀j,W.frozen? ⟨w.heap.size,j,none⟩=false:=λj=>frozen_of_row _ _ _ _ _ hrow
 have HW:Hid (W=w.alloc (.cells #[.int .i64 0,.pointer none] 146)):=hW
 have HR:Hid (W.heap[w.heap.size]? =_):=hrow
 have HA:Hid (Tch _ w W):=hA
 have hz:w.heap.size<W.heap.size:=(row_lt hrow)
 show Calls _ _ _ _ λe w'=>∃t u,e=.returned (.tuple #[.agg #[.int .i64 0,.pointer none],.iface t u])/\_
 clear h hW hrow hA hE hsz
 go_enter Tryz.func92,Tryz.ntmps92
 go_upto_region 1 with fail
 rw [<-HW.out]
 go_wp2_with fail
 refine (at_err _ _ _ _).mono ?_
 rintro _ _ ⟨rfl,rfl⟩
 have hrow2:(W.alloc (.cells #[.string ⟨#[104,101,105,103,104,116]⟩,eV E 5] 237)).heap[w.heap.size]? =some (.cells #[.int .i64 0,.pointer none] 146):=(Below.heap_alloc W _ _ hz).trans HR.out
 have hpl:=heap_alloc_new W (.cells #[.string ⟨#[104,101,105,103,104,116]⟩,eV E 5] 237)
 have t2:=Tch.alloc (λ_=>False) W (.cells #[.string ⟨#[104,101,105,103,104,116]⟩,eV E 5] 237)
 have HR2:Hid (_=_):=hrow2
 have HPL:Hid (_=_):=hpl
 have HT2:Hid (Tch _ W _):=t2
 have r0:(W.alloc (.cells #[.string ⟨#[104,101,105,103,104,116]⟩,eV E 5] 237)).cell? ⟨w.heap.size,0,none⟩=some (.int .i64 0):=cell_row hrow2
 have r1:(W.alloc (.cells #[.string ⟨#[104,101,105,103,104,116]⟩,eV E 5] 237)).cell? ⟨w.heap.size,1,none⟩=some (.pointer none):=cell_row hrow2
 have fR:∀j,(W.alloc (.cells #[.string ⟨#[104,101,105,103,104,116]⟩,eV E 5] 237)).frozen? ⟨w.heap.size,j,none⟩=false:=λj=>frozen_of_row _ _ _ _ _ hrow2
 clear hrow2 hpl t2
 generalize W.alloc (.cells #[.string ⟨#[104,101,105,103,104,116]⟩,eV E 5] 237)=W2 at *
 go_wp2
 rw [set2 _ _ _ _ _ _ _ HR2.out]
 refine bodyPost_ret (v:=.tuple #[.agg #[.int .i64 0,.pointer none],.iface 235 (.pointer (some ⟨W.heap.size,0,none⟩))]) (results_cell_tmp Tryz.results92 _ _ w.heap.size _ _ (0,0) _ rfl (setRow_heap _ _ _ _ _ _ HR2.out) Tryz.underlying146 rfl (by kernel_rfl)) rfl ⟨_,_,rfl,?_,?_⟩
 ·exact .wrap W.heap.size ⟨#[104,101,105,103,104,116]⟩ (eV E 5) ((setRow_other _ _ _ _ (by omega)).trans HPL.out) .base
 ·exact (HA.out.go HT2.out).trans (Tch.setRow _ _ _) (λj hj=>.inr (by omega))
set_option maxRecDepth 100000 in
set_option maxHeartbeats 1000000 in
theorem stateAt_high (E:Nat->Addr) {w:World} (hE:Env E w) {cb width fl r:Nat} {bs:List BV} {v:Value} (h:ChRow w cb width fl r bs v) (k:Int) (hf:(fl:Int)<=k) (hk:¬(0<=k/\k<bs.length)):
  Calls Tryz.prog 92 #[.pointer (some ⟨cb,0,none⟩),.int .i64 k] w λe w'=>∃t u,e=.returned (.tuple #[treeV 0 none,.iface t u])/\ErrIs E 5 w' (.iface t u)/\Tch (λ_=>False) w w':=by
 obtain ⟨W,hW⟩:∃W,W=w.alloc (.cells #[.int .i64 0,.pointer none] 146):=⟨_,rfl⟩
 have hA:Tch (λ_=>False) w W:=by rw [hW];exact Tch.alloc _ _ _
 have c1:W.cell? ⟨cb,1,none⟩=some (.int .i64 (fl:Int)):=cell_row (h.next hA).row
 have HAT:Hid (Calls _ _ _ _ _):=at_out E (hE.tch hA noE) (h.next hA) k hk
 have hrow:W.heap[w.heap.size]? =some (.cells #[.int .i64 0,.pointer none] 146):=by rw [hW];exact heap_alloc_new _ _
 have HW:Hid (W=w.alloc (.cells #[.int .i64 0,.pointer none] 146)):=hW
 have HR:Hid (W.heap[w.heap.size]? =_):=hrow
 have HA:Hid (Tch _ w W):=hA
 simp only [bV,rootV,Option.map_none] at HAT
 show Calls _ _ _ _ λe w'=>∃t u,e=.returned (.tuple #[.agg #[.int .i64 0,.pointer none],.iface t u])/\_
 have hlt:¬k<(fl:Int):=by omega
 clear h hk hW hrow hA hf hE
 go_enter Tryz.func92,Tryz.ntmps92
 go_upto_region 1 with fail
 rw [<-HW.out]
 go_wp2_with fail
 refine HAT.out.mono ?_
 rintro _ w2 ⟨t,u,rfl,he2,ht2⟩
 have hr2:w2.heap[w.heap.size]? =some (.cells #[.int .i64 0,.pointer none] 146):=(ht2.block _ (row_lt HR.out) (λh=>h)).trans HR.out
 have hz2:=(row_lt hr2)
 obtain ⟨W3,hW3⟩:∃W3,W3=w2.alloc (.cells #[.string ⟨#[]⟩,.int .i64 0,.pointer none] 148):=⟨_,rfl⟩
 have t3:Tch (λ_=>False) w2 W3:=by rw [hW3];exact Tch.alloc _ _ _
 have hr3:W3.heap[w.heap.size]? =some (.cells #[.int .i64 0,.pointer none] 146):=(t3.block _ hz2 (λh=>h)).trans hr2
 have hq3:W3.heap[w2.heap.size]? =some (.cells #[.string ⟨#[]⟩,.int .i64 0,.pointer none] 148):=by rw [hW3];exact heap_alloc_new _ _
 have r0:W3.cell? ⟨w.heap.size,0,none⟩=some (.int .i64 0):=cell_row hr3
 have r1:W3.cell? ⟨w.heap.size,1,none⟩=some (.pointer none):=cell_row hr3
 have fR:∀j,W3.frozen? ⟨w.heap.size,j,none⟩=false:=λj=>frozen_of_row _ _ _ _ _ hr3
 have q1:W3.cell? ⟨w2.heap.size,1,none⟩=some (.int .i64 0):=cell_row hq3
 have q2:W3.cell? ⟨w2.heap.size,2,none⟩=some (.pointer none):=cell_row hq3
 have HR3:Hid (W3.heap[w.heap.size]? =_):=hr3
 have HW3:Hid (W3=_):=hW3
 have HT3:Hid (Tch (λ_=>False) w W3):=(HA.out.go ht2).go t3
 have HE3:Hid (ErrIs E 5 W3 (.iface t u)):=he2.tch t3 (λ_ _ _ _ h=>h)
 clear ht2 hr2 t3 hr3 hq3 hW3 HAT HR HA HW c1 he2
 go_upto_region 4 with fail
 rw [<-HW3.out]
 go_wp2
 rw [set2 _ _ _ _ _ _ _ HR3.out]
 refine bodyPost_ret (v:=.tuple #[.agg #[.int .i64 0,.pointer none],.iface t u]) (results_cell_tmp Tryz.results92 _ _ w.heap.size _ _ (0,0) _ rfl (setRow_heap _ _ _ _ _ _ HR3.out) Tryz.underlying146 rfl (by kernel_rfl)) rfl ⟨_,_,rfl,?_,?_⟩
 ·exact HE3.out.tch (Tch.setRow _ _ _) (λj c x hj e=>by rw [e,HR3.out] at hj;simp at hj)
 ·exact HT3.out.trans (Tch.setRow _ _ _) (λj hj=>.inr (by omega))
theorem stateAt_out (E:Nat->Addr) {w:World} (hE:Env E w) {cb width fl r:Nat} {bs:List BV} {v:Value} (h:ChRow w cb width fl r bs v) (k:Int) (hk:¬((fl:Int)<=k/\k<bs.length)):
  Calls Tryz.prog 92 #[.pointer (some ⟨cb,0,none⟩),.int .i64 k] w λe w'=>∃t u,e=.returned (.tuple #[treeV 0 none,.iface t u])/\ErrIs E 5 w' (.iface t u)/\Tch (λ_=>False) w w':=by
 by_cases hf:k<(fl:Int)
 ·exact stateAt_low E hE h k hf
 ·exact stateAt_high E hE h k (by omega) (by omega)
set_option maxRecDepth 100000 in
set_option maxHeartbeats 1000000 in
theorem query_out (E:Nat->Addr) {w:World} (hE:Env E w) {cb width fl r:Nat} {bs:List BV} {v:Value} (h:ChRow w cb width fl r bs v) (k:Int) (hk:¬((fl:Int)<=k/\k<bs.length)) (c:ByteArray×Int):
  Calls Tryz.prog 50 #[.pointer (some ⟨cb,0,none⟩),.int .i64 k,.agg #[.string c.1,.int .i64 c.2]] w λe w'=>Tch (λ_=>False) w w'/\∃t u,e=.returned (.tuple #[.string ⟨#[]⟩,.iface t u])/\ErrIs E 5 w' (.iface t u):=by
 obtain ⟨s,N⟩:=c
 have HS:Hid (∀W,Tch (λ_=>False) w W->Calls Tryz.prog 92 #[.pointer (some ⟨cb,0,none⟩),.int .i64 k] W λe w'=>∃t u,e=.returned (.tuple #[.agg #[.int .i64 0,.pointer none],.iface t u])/\ErrIs E 5 w' (.iface t u)/\Tch (λ_=>False) W w'):=λW hT=>stateAt_out E (hE.tch hT noE) (h.next hT) k hk
 clear hE h hk
 dsimp only
 go_enter Tryz.func50,Tryz.ntmps50
 go_wp2_with fail
 refine (HS.out _ (Tch.alloc (λ_=>False) w _)).mono ?_
 rintro _ w1 ⟨t,u,rfl,he,ht⟩
 have HT:Hid (Tch (λ_=>False) w w1):=(Tch.alloc (λ_=>False) w _).go ht
 have HE:Hid (ErrIs _ _ w1 _):=he
 clear he ht HS
 go_wp2
 go_ret2
 exact ⟨HT.out.go (Tch.alloc _ _ _),_,_,rfl,HE.out.tch (Tch.alloc (λ_=>False) w1 _) (λ_ _ _ _ h=>h)⟩
set_option maxRecDepth 100000 in
set_option maxHeartbeats 1000000 in
theorem query_in (E:Nat->Addr) {w:World} (hE:Env E w) {cb width fl r:Nat} {bs:List BV} {v:Value} (h:ChRow w cb width fl r bs v) (k:Nat) (b:BV) (hk:bs[k]? =some b) (hf:fl<=k) (hw:width<=32) (F:Nat->Prop) (st:Option Tr) (hb:b.2.1=width) (hs:StAt (dgW width) F w b.2.2 st) (hok:∀t,st=some t->t.Wf/\TrOk width t) (c:ByteArray×Int) (hc:CoinOk width c):
  Calls Tryz.prog 50 #[.pointer (some ⟨cb,0,none⟩),.int .i64 (k:Int),.agg #[.string c.1,.int .i64 c.2]] w λe w'=>Tch (λ_=>False) w w'/\e=.returned (.tuple #[.string ⟨(wayB (stWay (dgW width) (coinB c) st)).toArray⟩,.nilIface]):=by
 have HS:Hid (∀W,Tch (λ_=>False) w W->Calls Tryz.prog 92 _ W _):=λW hT=>stateAt_in (h.next hT) k b hk hf
 have HP:Hid (∀W,Tch (λ_=>False) w W->Calls Tryz.prog 93 _ W _):=λW hT=>prove_ok E width hw F b.2.2 st c hc W (hE.tch hT noE) (hs.next hT) hok
 rw [hb] at HS
 obtain ⟨rv,hrv⟩:∃rv,treeV width b.2.2=.agg #[.int .i64 (width:Int),.pointer rv]:=⟨_,rfl⟩
 rw [hrv] at HS HP
 generalize (⟨(wayB (stWay (dgW width) (coinB c) st)).toArray⟩:ByteArray)=pf at *
 obtain ⟨s,N⟩:=c
 clear hE h hk hs hok hc hrv hb
 dsimp only at HP ⊢
 go_enter Tryz.func50,Tryz.ntmps50
 go_wp2_with fail
 refine (HS.out _ (Tch.alloc (λ_=>False) w _)).mono ?_
 rintro _ w1 ⟨rfl,ht⟩
 have HT:Hid (Tch (λ_=>False) w w1):=(Tch.alloc (λ_=>False) w _).go ht
 have r1:w1.heap[w.heap.size]? =some (.cells #[.string s,.int .i64 N] 49):=(ht.block _ (by simp) (λh=>h)).trans (heap_alloc_new _ _)
 have c0:w1.cell? ⟨w.heap.size,0,none⟩=some (.string s):=cell_row r1
 have c1:w1.cell? ⟨w.heap.size,1,none⟩=some (.int .i64 N):=cell_row r1
 have hz1:=(row_lt r1)
 clear ht HS r1
 go_wp2_with fail
 refine (HP.out _ (HT.out.go (Tch.alloc _ _ _))).mono ?_
 rintro _ w2 ⟨rfl,ht2⟩
 have HT2:Hid (Tch (λ_=>False) w w2):=(HT.out.go (Tch.alloc _ _ _)).go ht2
 clear ht2 HP
 go_wp2
 go_ret2
 exact ⟨HT2.out,rfl⟩
end Go.Proofs.YtighkdnooglfjaaGreatDoor
namespace Go.Proofs.YtighkdnooglfjaaGreatDoor
open Go.RowKit

set_option maxRecDepth 100000 in
set_option maxHeartbeats 1000000 in
theorem fQuery_ok {w:World} {lb cb:Nat} (hl:w.cell? ⟨lb,0,none⟩=some (.pointer (some ⟨cb,0,none⟩))) (k:Int) (c:ByteArray×Int) (s:ByteArray) (h:∀W,Tch (λ_=>False) w W->Calls Tryz.prog 50 #[.pointer (some ⟨cb,0,none⟩),.int .i64 k,.agg #[.string c.1,.int .i64 c.2]] W λe w'=>Tch (λ_=>False) W w'/\e=.returned (.tuple #[.string s,.nilIface])):
  Calls Tryz.prog 24 #[.pointer (some ⟨lb,0,none⟩),.int .i64 k,.agg #[.string c.1,.int .i64 c.2]] w λe w'=>e=.returned (.tuple #[.string s,.int .i64 0])/\Tch (λ_=>False) w w':=by
 obtain ⟨cs,cN⟩:=c
 have H:Hid (∀W,Tch (λ_=>False) w W->Calls _ _ _ W _):=h
 clear h
 dsimp only at H ⊢
 have hlb:lb<w.heap.size:=by
  by_cases h:lb<w.heap.size
  ·exact h
  ·exfalso
   have:w.heap[lb]? =none:=Array.getElem?_eq_none (by omega)
   simp [World.cell?,this] at hl
 obtain ⟨W,hW⟩:∃W,W=w.alloc (.cells #[.string cs,.int .i64 cN] 49):=⟨_,rfl⟩
 have hA:Tch (λ_=>False) w W:=by rw [hW];exact Tch.alloc _ _ _
 have hr:W.heap[w.heap.size]? =some (.cells #[.string cs,.int .i64 cN] 49):=by rw [hW];exact heap_alloc_new _ _
 have c0:W.cell? ⟨w.heap.size,0,none⟩=some (.string cs):=cell_row hr
 have c1:W.cell? ⟨w.heap.size,1,none⟩=some (.int .i64 cN):=cell_row hr
 have c2:W.cell? ⟨lb,0,none⟩=some (.pointer (some ⟨cb,0,none⟩)):=(hA.cell (p:=⟨lb,0,none⟩) hlb (λh=>h)).trans hl
 have HW:Hid (W=_):=hW
 have HA:Hid (Tch _ w W):=hA
 clear hW hA hr hl hlb
 go_enter Tryz.func24,Tryz.ntmps24
 go_upto_region 1 with fail
 rw [<-HW.out]
 go_region_with (go_at_call 50;refine (H.out _ (HA.out.go (Tch.drewN _ W 1))).mono ?_;rintro _ w1 ⟨ht,rfl⟩;have HT:Hid (Tch (λ_=>False) w w1):=(HA.out.go (Tch.drewN _ W 1)).go ht;clear ht)
 all_goals
  clear H
  go_wp2_with fail
  refine (errno_nil _).mono ?_
  rintro _ _ ⟨rfl,rfl⟩
  go_wp2
  go_ret2
  exact ⟨rfl,HT.out⟩
set_option maxRecDepth 100000 in
set_option maxHeartbeats 1000000 in
theorem fQuery_err {E:Nat->Addr} {w:World} {lb cb:Nat} (hS:∀w',Tch (λ_=>False) w w'->Env E w'/\Sent E w') (er:Er) (hl:w.cell? ⟨lb,0,none⟩=some (.pointer (some ⟨cb,0,none⟩))) (k:Int) (c:ByteArray×Int) (h:∀W,Tch (λ_=>False) w W->Calls Tryz.prog 50 #[.pointer (some ⟨cb,0,none⟩),.int .i64 k,.agg #[.string c.1,.int .i64 c.2]] W λe w'=>Tch (λ_=>False) W w'/\∃t u,e=.returned (.tuple #[.string ⟨#[]⟩,.iface t u])/\ErrIs E (erG er) w' (.iface t u)):
  Calls Tryz.prog 24 #[.pointer (some ⟨lb,0,none⟩),.int .i64 k,.agg #[.string c.1,.int .i64 c.2]] w λe w'=>e=.returned (.tuple #[.string ⟨#[]⟩,.int .i64 (erCode er)])/\Tch (λ_=>False) w w':=by
 obtain ⟨cs,cN⟩:=c
 have H:Hid (∀W,Tch (λ_=>False) w W->Calls _ _ _ W _):=h
 have HS:Hid (∀w',Tch (λ_=>False) w w'->Env E w'/\Sent E w'):=hS
 clear h hS
 dsimp only at H ⊢
 have hlb:lb<w.heap.size:=by
  by_cases h:lb<w.heap.size
  ·exact h
  ·exfalso
   have:w.heap[lb]? =none:=Array.getElem?_eq_none (by omega)
   simp [World.cell?,this] at hl
 obtain ⟨W,hW⟩:∃W,W=w.alloc (.cells #[.string cs,.int .i64 cN] 49):=⟨_,rfl⟩
 have hA:Tch (λ_=>False) w W:=by rw [hW];exact Tch.alloc _ _ _
 have hr:W.heap[w.heap.size]? =some (.cells #[.string cs,.int .i64 cN] 49):=by rw [hW];exact heap_alloc_new _ _
 have c0:W.cell? ⟨w.heap.size,0,none⟩=some (.string cs):=cell_row hr
 have c1:W.cell? ⟨w.heap.size,1,none⟩=some (.int .i64 cN):=cell_row hr
 have c2:W.cell? ⟨lb,0,none⟩=some (.pointer (some ⟨cb,0,none⟩)):=(hA.cell (p:=⟨lb,0,none⟩) hlb (λh=>h)).trans hl
 have HW:Hid (W=_):=hW
 have HA:Hid (Tch _ w W):=hA
 clear hW hA hr hl hlb
 go_enter Tryz.func24,Tryz.ntmps24
 go_upto_region 1 with fail
 rw [<-HW.out]
 go_region_with (go_at_call 50;refine (H.out _ (HA.out.go (Tch.drewN _ W 1))).mono ?_;rintro _ w1 ⟨ht,t,u,rfl,he⟩;have HT:Hid (Tch (λ_=>False) w w1):=(HA.out.go (Tch.drewN _ W 1)).go ht;have HR:Hid (Calls _ _ _ _ _):=errno_er er (HS.out w1 HT.out).1 (HS.out w1 HT.out).2 t u he;clear ht he)
 all_goals
  clear H
  go_wp2_with fail
  refine HR.out.mono ?_
  rintro _ w2 ⟨rfl,ht2⟩
  have HT2:Hid (Tch (λ_=>False) w1 w2):=ht2
  clear ht2 HR
  go_wp2
  go_ret2
  exact ⟨rfl,HT.out.go HT2.out⟩
end Go.Proofs.YtighkdnooglfjaaGreatDoor
