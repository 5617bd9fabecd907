/-
  The contracts of (*wire.Coder).Out, key, bit, Leaf and Branch, whatever the port's state is.
  The contracts of (*wire.Coder).Node, whatever the port's state is, and of (wire.Node).Text.
-/
import Derived.Test.YtighkdnooglfjaaGreatDoorSwIds2
namespace Go.Proofs.YtighkdnooglfjaaGreatDoor
open Go.RowKit

def stO (o:Nat×Nat) (st:Option PS):(Nat×Nat)×Option PS:=(((stNum o.1 8 st).1,(stNum o.2 1 (stNum o.1 8 st).2).1),(stNum o.2 1 (stNum o.1 8 st).2).2)
def stKey (width:Nat) (k:List UInt8) (st:Option PS):List UInt8×Option PS:=
 ((stTxt k (width+1) st).1,match (stTxt k (width+1) st).2 with
  | none=>none
  | some p=>if 3<=((stTxt k (width+1) st).1.getD width 0).toNat then none else some p)
def stBit (width:Nat) (b:Int) (st:Option PS):Nat×Option PS:=((stNum (coinX b) 2 st).1,if 8 * (width+1)<=(stNum (coinX b) 2 st).1 then none else (stNum (coinX b) 2 st).2)
def stLeaf (width:Nat) (k:ByteArray) (o:Nat×Nat) (st:Option PS):(List UInt8×(Nat×Nat))×Option PS:=(((stKey width k.data.toList st).1,(stO o (stKey width k.data.toList st).2).1),(stO o (stKey width k.data.toList st).2).2)
def stBr (width:Nat) (b:Int) (x y:ByteArray) (st:Option PS):(Nat×List UInt8×List UInt8)×Option PS:=
 (((stBit width b st).1,(stTxt x.data.toList width (stBit width b st).2).1,(stTxt y.data.toList width (stTxt x.data.toList width (stBit width b st).2).2).1),(stTxt y.data.toList width (stTxt x.data.toList width (stBit width b st).2).2).2)
theorem stTxt_length (s:List UInt8) (k:Nat) (st:Option PS) (p:PS) (h:(stTxt s k st).2=some p):(stTxt s k st).1.length=k:=by
 cases st with
 | none=>cases h
 | some q=>
  cases hq:q.txt s k with
  | none=>rw [stTxt_none hq] at h;cases h
  | some r=>
   obtain ⟨t,p1⟩:=r
   rw [stTxt_some hq]
   cases q with
   | rd a c=>
    simp only [PS.txt] at hq
    split at hq
    ·cases hq;simp;omega
    ·cases hq
   | wr d=>
    simp only [PS.txt] at hq
    split at hq
    ·cases hq;assumption
    ·cases hq
theorem stKey_len (width:Nat) (k:List UInt8) (st:Option PS):stLen (stKey width k st).2<=stLen st+(width+1):=by
 have:=stTxt_len k (width+1) st
 unfold stKey
 dsimp only
 cases h:(stTxt k (width+1) st).2 with
 | none=>simp [stLen]
 | some p=>
  rw [h] at this
  dsimp only
  split
  ·simp [stLen]
  ·exact this
theorem stBit_len (width:Nat) (b:Int) (st:Option PS):stLen (stBit width b st).2<=stLen st+2:=by
 have:=stNum_len (coinX b) 2 st
 unfold stBit
 dsimp only
 split
 ·simp [stLen]
 ·exact this
theorem stKey_wr {width:Nat} {k:List UInt8} {st:Option PS} (h:stWr st):stWr (stKey width k st).2:=by
 have h1:=stTxt_wr (s:=k) (k:=width+1) h
 unfold stKey
 dsimp only
 cases h2:(stTxt k (width+1) st).2 with
 | none=>exact stWr_none
 | some p=>
  rw [h2] at h1
  dsimp only
  split
  ·exact stWr_none
  ·exact h1
theorem stBit_wr {width:Nat} {b:Int} {st:Option PS} (h:stWr st):stWr (stBit width b st).2:=by
 unfold stBit
 dsimp only
 split
 ·exact stWr_none
 ·exact stNum_wr h
theorem stO_wr {o:Nat×Nat} {st:Option PS} (h:stWr st):stWr (stO o st).2:=stNum_wr (stNum_wr h)
theorem stLeaf_wr {width:Nat} {k:ByteArray} {o:Nat×Nat} {st:Option PS} (h:stWr st):stWr (stLeaf width k o st).2:=stO_wr (stKey_wr h)
theorem stBr_wr {width:Nat} {b:Int} {x y:ByteArray} {st:Option PS} (h:stWr st):stWr (stBr width b x y st).2:=stTxt_wr (stTxt_wr (stBit_wr h))
theorem StTo.alloc {E:Nat->Addr} {w w2:World} {b:Nat} {g:Option Nat} {width:Int} {st:Option PS} (h:StTo E w w2 b g width st) (o:Obj):StTo E w (w2.alloc o) b g width st:=by
 obtain ⟨g',h1,h2,h3⟩:=h
 exact ⟨g',h1.next (Tch.alloc _ _ _),h2,h3.trans (Tch.alloc (λ_=>False) _ _) noE⟩
theorem set3 (w:World) (g:Nat) (t:TypeId) (a b c v0 v1 v2:Value) (h:w.heap[g]? =some (.cells #[a,b,c] t (0,0))):
  ((w.setCell ⟨g,0,none⟩ v0).setCell ⟨g,1,none⟩ v1).setCell ⟨g,2,none⟩ v2=w.setRow g #[v0,v1,v2]:=by
 rw [setCell_eq_setRow w g 0 _ t (0,0) v0 h,setCell_eq_setRow _ g 1 _ t (0,0) v1 (setRow_heap _ _ _ _ _ _ h),setRow_setRow,
  setCell_eq_setRow _ g 2 _ t (0,0) v2 (setRow_heap _ _ _ _ _ _ h),setRow_setRow]
 refine congrArg (w.setRow g) ?_
 simp

set_option maxRecDepth 100000 in
set_option maxHeartbeats 1000000 in
theorem out_st (E:Nat->Addr) (b:Nat) (hb12:18<=b) (g:Option Nat) (width:Int) (a o:Nat) (ho:o<256) (st:Option PS) (w:World) (hE:Env E w) (hp:PortSt E w b g width st) (hd:stLen st<=90000000):
  Calls Tryz.prog 205 #[.pointer (some ⟨b,0,none⟩),.agg #[.int .u64 (a:Int),.int .u8 (o:Int)]] w λe w'=>e=.returned (.agg #[.int .u64 ((stO (a,o) st).1.1:Int),.int .u8 ((stO (a,o) st).1.2:Int)])/\StTo E w w' b g width (stO (a,o) st).2:=by
 have hlt:=hp.lt
 have HR0:=Run.start hb12 hE hp (Tch.allocs (λ_=>False) w (.cells #[.int .u64 (a:Int),.int .u8 (o:Int)] 80) (.cells #[.int .u64 0,.int .u8 0] 80))
 have hl0:=stNum_len a 8 st
 have hm:=stNum_lt o 1 (stNum a 8 st).2
 have hwo:IntKind.u64.wrap (o:Int)=(o:Int):=u64wrap_small _ (by omega) (by omega)
 have RUN:Hid (Run _ _ _ _ _ _ _ _ _):=HR0
 clear hE hp HR0
 go_enter Tryz.func205,Tryz.ntmps205
 go_wp2_with fail
 refine (number_st E b g width a 8 st _ RUN.out.env RUN.out.port (by omega) (by omega)).mono ?_
 rintro _ w1 ⟨rfl,h⟩
 obtain ⟨g1,R1⟩:=RUN.out.step h
 have bx1:=(R1.box (k:=w.heap.size) (Nat.le_refl _) (heap_alloc2_old _ _ _)).1
 have c1:w1.cell? ⟨w.heap.size,1,none⟩=some (.int .u8 (o:Int)):=cell_row bx1
 have RUN1:Hid (Run _ _ _ _ _ _ _ _ _):=R1
 clear R1 bx1 h
 go_wp2_with fail
 refine (number_st E b g1 width o 1 _ _ RUN1.out.env RUN1.out.port (by omega) (by omega)).mono ?_
 rintro _ w2 ⟨rfl,h⟩
 obtain ⟨g2,R2⟩:=RUN1.out.step h
 have rR:=(R2.box (k:=w.heap.size+1) (by omega) (heap_alloc2_new _ _ _)).1
 have e0:w2.cell? ⟨w.heap.size+1,0,none⟩=some (.int .u64 0):=cell_row rR
 have e1:w2.cell? ⟨w.heap.size+1,1,none⟩=some (.int .u8 0):=cell_row rR
 have fR:∀j,w2.frozen? ⟨w.heap.size+1,j,none⟩=false:=λj=>frozen_of_row _ _ _ _ _ rR
 have hw8:IntKind.u8.wrap ((stNum o 1 (stNum a 8 st).2).1:Int)=((stNum o 1 (stNum a 8 st).2).1:Int):=u8wrap_small _ (by omega) (by omega)
 have RUN2:Hid (Run _ _ _ _ _ _ _ _ _):=R2
 have RR:Hid (_=_):=rR
 clear R2 rR h
 go_wp2
 rw [set2 _ _ _ _ _ _ _ RR.out]
 exact bodyPost_ret (v:=.agg #[.int .u64 ((stO (a,o) st).1.1:Int),.int .u8 ((stO (a,o) st).1.2:Int)]) (results_cell_row Tryz.results205 _ _ (w.heap.size+1) _ _ (0,0) _ rfl (setRow_heap _ _ _ _ _ _ RR.out) Tryz.underlying80 rfl (by kernel_rfl)) rfl ⟨rfl,RUN2.out.done (k:=w.heap.size+1) (by omega) (heap_alloc2_new _ _ _) (by decide)⟩

theorem PortSt.err {E:Nat->Addr} {w:World} {b:Nat} {g:Option Nat} {width:Int} {st:Option PS} (h:PortSt E w b g width st):(st=none/\∃t u,w.cell? ⟨b,2,none⟩=some (.iface t u))\/((∃p,st=some p)/\w.cell? ⟨b,2,none⟩=some .nilIface):=by
 cases st with
 | some p=>exact .inr ⟨⟨p,rfl⟩,PortAt.errCell h⟩
 | none=>obtain ⟨p,t,u,h1,_⟩:=h;exact .inl ⟨rfl,t,u,h1.errCell⟩
set_option maxRecDepth 100000 in
set_option maxHeartbeats 1000000 in
theorem key_st (E:Nat->Addr) (b:Nat) (hb12:18<=b) (g:Option Nat) (width:Nat) (hw:width<=1000) (k:ByteArray) (st:Option PS) (w:World) (hE:Env E w) (hp:PortSt E w b g width st) (hd:stLen st<=90000000):
  Calls Tryz.prog 294 #[.pointer (some ⟨b,0,none⟩),.string k] w λe w'=>e=.returned (.string ⟨(stKey width k.data.toList st).1.toArray⟩)/\StTo E w w' b g width (stKey width k.data.toList st).2:=by
 have cw:=hp.width
 have hlt:=hp.lt
 have HC:Hid (Calls Tryz.prog 209 _ w _):=text_st E b g width k (width+1) st w hE hp (by omega)
 have HE:Hid (Env E w):=hE
 have HP:Hid (PortSt _ _ _ _ _ _):=hp
 have HK:Hid (stKey width k.data.toList st=((stTxt k.data.toList (width+1) st).1,match (stTxt k.data.toList (width+1) st).2 with
  | none=>none
  | some p=>if 3<=((stTxt k.data.toList (width+1) st).1.getD width 0).toNat then none else some p)):=rfl
 have HL:Hid (∀p,(stTxt k.data.toList (width+1) st).2=some p->(stTxt k.data.toList (width+1) st).1.length=width+1):=λp h=>stTxt_length _ _ _ p h
 have hww:IntKind.i64.wrap ((width:Int)+1)=(width:Int)+1:=i64wrap_small _ (by omega) (by omega)
 clear hE hp
 go_enter Tryz.func294,Tryz.ntmps294
 go_wp2_with fail
 refine HC.out.mono ?_
 rintro _ w1 ⟨rfl,g1,hp1,hm1,ht1⟩
 have hev:=hp1.err
 have cw1:=hp1.width
 have HE1:Hid (Env E w1):=HE.out.tch ht1 (st_high hb12 HP.out)
 have HP1:Hid (PortSt _ _ _ _ _ _):=hp1
 have HM1:Hid (Moved _ _ _):=hm1
 have HT1:Hid (Tch _ _ _):=ht1
 clear hp1 hm1 ht1 HC
 rcases hev with ⟨hn,t,u,ce⟩ | ⟨⟨p,hs⟩,ce⟩
 ·have HN:Hid (_=none):=hn
  clear hn
  go_wp2
  go_ret
  refine ⟨by rw [HK.out];rfl,g1,?_,HM1.out,HT1.out⟩
  rw [HK.out,HN.out]
  have:=HP1.out
  rw [HN.out] at this
  exact this
 ·have hln:=HL.out p hs
  have HS:Hid (_=some p):=hs
  clear hs
  have hsz:(⟨(stTxt k.data.toList (width+1) st).1.toArray⟩:ByteArray).size=width+1:=by rw [str_size];exact hln
  have hix:width<(⟨(stTxt k.data.toList (width+1) st).1.toArray⟩:ByteArray).size:=by omega
  have HB:Hid ((⟨(stTxt k.data.toList (width+1) st).1.toArray⟩:ByteArray)[width].toNat=((stTxt k.data.toList (width+1) st).1.getD width 0).toNat):=by
   show UInt8.toNat _=_
   congr 1
   simp [List.getD_eq_getElem?_getD,show width<(stTxt k.data.toList (width+1) st).1.length by omega]
   rfl
  generalize hTB:(⟨(stTxt k.data.toList (width+1) st).1.toArray⟩:ByteArray)=tb at *
  have HTB:Hid (_=tb):=hTB
  clear hTB hln
  by_cases h3:3<=tb[width].toNat
  ·have h3i:(3:Int)<=(tb[width].toNat:Int):=by omega
   go_wp2_with fail
   refine (refuse_st E b g1 width _ _ w1 HE1.out HP1.out).mono ?_
   rintro _ w2 ⟨rfl,hs2⟩
   have HS2:Hid (StTo _ _ _ _ _ _ _):=hs2
   clear hs2
   go_wp2
   go_ret
   refine ⟨by rw [HK.out,HTB.out];rfl,?_⟩
   rw [HK.out]
   dsimp only
   rw [HS.out]
   dsimp only
   rw [if_pos (by rw [<-HB.out];exact h3)]
   exact StTo.trans HM1.out HT1.out HS2.out
  ·have h3i:¬(3:Int)<=(tb[width].toNat:Int):=by omega
   go_wp2
   go_ret
   refine ⟨by rw [HK.out,HTB.out];rfl,g1,?_,HM1.out,HT1.out⟩
   rw [HK.out]
   dsimp only
   have:=HP1.out
   rw [HS.out] at this ⊢
   dsimp only
   rw [if_neg (by rw [<-HB.out];exact h3)]
   exact this
set_option maxRecDepth 100000 in
set_option maxHeartbeats 1000000 in
theorem bit_st (E:Nat->Addr) (b:Nat) (hb12:18<=b) (g:Option Nat) (width:Nat) (hw:width<=1000) (k:Int) (st:Option PS) (w:World) (hE:Env E w) (hp:PortSt E w b g width st) (hd:stLen st<=90000000):
  Calls Tryz.prog 292 #[.pointer (some ⟨b,0,none⟩),.int .i64 k] w λe w'=>e=.returned (.int .i64 ((stBit width k st).1:Int))/\StTo E w w' b g width (stBit width k st).2:=by
 have hx:=coinX_wrap k
 have HE:Hid (Env E w):=hE
 have HP:Hid (PortSt _ _ _ _ _ _):=hp
 have HK:Hid (stBit width k st=((stNum (coinX k) 2 st).1,if 8 * (width+1)<=(stNum (coinX k) 2 st).1 then none else (stNum (coinX k) 2 st).2)):=rfl
 clear hE hp
 go_enter Tryz.func292,Tryz.ntmps292
 go_wp2_with fail
 refine (number_st E b g width (coinX k) 2 st w HE.out HP.out (by omega) (by omega)).mono ?_
 rintro _ w1 ⟨rfl,g1,hp1,hm1,ht1⟩
 have cw1:=hp1.width
 have hm:=stNum_lt (coinX k) 2 st
 have HE1:Hid (Env E w1):=HE.out.tch ht1 (st_high hb12 HP.out)
 have HP1:Hid (PortSt _ _ _ _ _ _):=hp1
 have HM1:Hid (Moved _ _ _):=hm1
 have HT1:Hid (Tch _ _ _):=ht1
 clear hp1 hm1 ht1
 generalize (stNum (coinX k) 2 st).1=m at *
 have hwm:IntKind.i64.wrap (m:Int)=(m:Int):=i64wrap_small _ (by omega) (by omega)
 have hww:IntKind.i64.wrap ((width:Int)+1)=(width:Int)+1:=i64wrap_small _ (by omega) (by omega)
 have hw8:IntKind.i64.wrap (8 * ((width:Int)+1))=8 * ((width:Int)+1):=i64wrap_small _ (by omega) (by omega)
 have hwu:IntKind.u64.wrap (8 * ((width:Int)+1))=8 * ((width:Int)+1):=u64wrap_small _ (by omega) (by omega)
 by_cases h3:8 * (width+1)<=m
 ·have h3i:8 * ((width:Int)+1)<=(m:Int):=by omega
  go_wp2_with (first | (go_at_call 200;refine (refuse_st E b g1 width _ _ w1 HE1.out HP1.out).mono ?_;rintro _ w2 ⟨rfl,hs2⟩;have HS2:Hid (StTo _ _ _ _ _ _ _):=hs2;clear hs2) | go_in)
  go_ret
  refine ⟨by rw [HK.out];rfl,?_⟩
  rw [HK.out,if_pos h3]
  exact StTo.trans HM1.out HT1.out HS2.out
 ·have h3i:¬8 * ((width:Int)+1)<=(m:Int):=by omega
  go_wp2
  go_ret
  refine ⟨by rw [HK.out];rfl,g1,?_,HM1.out,HT1.out⟩
  rw [HK.out,if_neg h3]
  exact HP1.out
set_option maxRecDepth 100000 in
set_option maxHeartbeats 1000000 in
theorem leaf_st (E:Nat->Addr) (b:Nat) (hb12:18<=b) (g:Option Nat) (width:Nat) (hw:width<=1000) (k:ByteArray) (a o:Nat) (ho:o<256) (st:Option PS) (w:World) (hE:Env E w) (hp:PortSt E w b g width st) (hd:stLen st<=80000000):
  Calls Tryz.prog 222 #[.pointer (some ⟨b,0,none⟩),.agg #[.string k,.int .u64 (a:Int),.int .u8 (o:Int)]] w λe w'=>e=.returned (.agg #[.string ⟨(stLeaf width k (a,o) st).1.1.toArray⟩,.int .u64 ((stLeaf width k (a,o) st).1.2.1:Int),.int .u8 ((stLeaf width k (a,o) st).1.2.2:Int)])/\StTo E w w' b g width (stLeaf width k (a,o) st).2:=by
 have hlt:=hp.lt
 have HR0:=Run.start hb12 hE hp (Tch.allocs (λ_=>False) w (.cells #[.string k,.int .u64 (a:Int),.int .u8 (o:Int)] 256) (.cells #[.string ⟨#[]⟩,.int .u64 0,.int .u8 0] 256))
 have hl0:=stKey_len width k.data.toList st
 have RUN:Hid (Run _ _ _ _ _ _ _ _ _):=HR0
 clear hE hp HR0
 go_enter Tryz.func222,Tryz.ntmps222
 go_wp2_with fail
 refine (key_st E b hb12 g width hw k st _ RUN.out.env RUN.out.port (by omega)).mono ?_
 rintro _ w1 ⟨rfl,h⟩
 obtain ⟨g1,R1⟩:=RUN.out.step h
 have bx1:=(R1.box (k:=w.heap.size) (Nat.le_refl _) (heap_alloc2_old _ _ _)).1
 have c1:w1.cell? ⟨w.heap.size,1,none⟩=some (.int .u64 (a:Int)):=cell_row bx1
 have c2:w1.cell? ⟨w.heap.size,2,none⟩=some (.int .u8 (o:Int)):=cell_row bx1
 have RUN1:Hid (Run _ _ _ _ _ _ _ _ _):=R1
 clear R1 bx1 h
 go_wp2_with fail
 refine (out_st E b hb12 g1 width a o ho _ _ RUN1.out.env RUN1.out.port (by omega)).mono ?_
 rintro _ w2 ⟨rfl,h⟩
 obtain ⟨g2,R2⟩:=RUN1.out.step h
 have rR:=(R2.box (k:=w.heap.size+1) (by omega) (heap_alloc2_new _ _ _)).1
 have e0:w2.cell? ⟨w.heap.size+1,0,none⟩=some (.string ⟨#[]⟩):=cell_row rR
 have e1:w2.cell? ⟨w.heap.size+1,1,none⟩=some (.int .u64 0):=cell_row rR
 have e2:w2.cell? ⟨w.heap.size+1,2,none⟩=some (.int .u8 0):=cell_row rR
 have fR:∀j,w2.frozen? ⟨w.heap.size+1,j,none⟩=false:=λj=>frozen_of_row _ _ _ _ _ rR
 have RUN2:Hid (Run _ _ _ _ _ _ _ _ _):=R2
 have hsz2:w.heap.size+1<w2.heap.size:=(row_lt rR)
 have RR:Hid (_=_):=rR
 clear R2 rR h
 go_wp2
 rw [set3 _ _ _ _ _ _ _ _ _ RR.out]
 exact bodyPost_ret (v:=.agg #[.string ⟨(stLeaf width k (a,o) st).1.1.toArray⟩,.int .u64 ((stLeaf width k (a,o) st).1.2.1:Int),.int .u8 ((stLeaf width k (a,o) st).1.2.2:Int)]) (results_cell_row Tryz.results222 _ _ (w.heap.size+1) _ _ (0,0) _ rfl ((Below.heap_alloc _ _ _ (by simpa using hsz2)).trans (setRow_heap _ _ _ _ _ _ RR.out)) Tryz.underlying256 rfl (by kernel_rfl)) rfl ⟨rfl,(RUN2.out.done (k:=w.heap.size+1) (by omega) (heap_alloc2_new _ _ _) (by decide)).alloc _⟩
set_option maxRecDepth 100000 in
set_option maxHeartbeats 1000000 in
theorem branch_st (E:Nat->Addr) (b:Nat) (hb12:18<=b) (g:Option Nat) (width:Nat) (hw:width<=1000) (k:Int) (x y:ByteArray) (st:Option PS) (w:World) (hE:Env E w) (hp:PortSt E w b g width st) (hd:stLen st<=80000000):
  Calls Tryz.prog 308 #[.pointer (some ⟨b,0,none⟩),.agg #[.int .i64 k,.string x,.string y]] w λe w'=>e=.returned (.agg #[.int .i64 ((stBr width k x y st).1.1:Int),.string ⟨(stBr width k x y st).1.2.1.toArray⟩,.string ⟨(stBr width k x y st).1.2.2.toArray⟩])/\StTo E w w' b g width (stBr width k x y st).2:=by
 have hlt:=hp.lt
 have HR0:=Run.start hb12 hE hp (Tch.allocs (λ_=>False) w (.cells #[.int .i64 k,.string x,.string y] 279) (.cells #[.int .i64 0,.string ⟨#[]⟩,.string ⟨#[]⟩] 279))
 have hl0:=stBit_len width k st
 have hl1:=stTxt_len x.data.toList width (stBit width k st).2
 have RUN:Hid (Run _ _ _ _ _ _ _ _ _):=HR0
 clear hE hp HR0
 go_enter Tryz.func308,Tryz.ntmps308
 go_wp2_with fail
 refine (bit_st E b hb12 g width hw k st _ RUN.out.env RUN.out.port (by omega)).mono ?_
 rintro _ w1 ⟨rfl,h⟩
 obtain ⟨g1,R1⟩:=RUN.out.step h
 have bx1:=(R1.box (k:=w.heap.size) (Nat.le_refl _) (heap_alloc2_old _ _ _)).1
 have c1:w1.cell? ⟨w.heap.size,1,none⟩=some (.string x):=cell_row bx1
 have RUN1:Hid (Run _ _ _ _ _ _ _ _ _):=R1
 clear R1 bx1 h
 go_wp2_with fail
 refine (digest_st E b g1 width x _ _ RUN1.out.env RUN1.out.port (by omega)).mono ?_
 rintro _ w2 ⟨rfl,h⟩
 obtain ⟨g2,R2⟩:=RUN1.out.step h
 have bx2:=(R2.box (k:=w.heap.size) (Nat.le_refl _) (heap_alloc2_old _ _ _)).1
 have c2:w2.cell? ⟨w.heap.size,2,none⟩=some (.string y):=cell_row bx2
 have RUN2:Hid (Run _ _ _ _ _ _ _ _ _):=R2
 clear R2 bx2 h
 go_wp2_with fail
 refine (digest_st E b g2 width y _ _ RUN2.out.env RUN2.out.port (by omega)).mono ?_
 rintro _ w3 ⟨rfl,h⟩
 obtain ⟨g3,R3⟩:=RUN2.out.step h
 have rR:=(R3.box (k:=w.heap.size+1) (by omega) (heap_alloc2_new _ _ _)).1
 have e0:w3.cell? ⟨w.heap.size+1,0,none⟩=some (.int .i64 0):=cell_row rR
 have e1:w3.cell? ⟨w.heap.size+1,1,none⟩=some (.string ⟨#[]⟩):=cell_row rR
 have e2:w3.cell? ⟨w.heap.size+1,2,none⟩=some (.string ⟨#[]⟩):=cell_row rR
 have fR:∀j,w3.frozen? ⟨w.heap.size+1,j,none⟩=false:=λj=>frozen_of_row _ _ _ _ _ rR
 have RUN3:Hid (Run _ _ _ _ _ _ _ _ _):=R3
 have RR:Hid (_=_):=rR
 clear R3 rR h
 go_wp2
 rw [set3 _ _ _ _ _ _ _ _ _ RR.out]
 exact bodyPost_ret (v:=.agg #[.int .i64 ((stBr width k x y st).1.1:Int),.string ⟨(stBr width k x y st).1.2.1.toArray⟩,.string ⟨(stBr width k x y st).1.2.2.toArray⟩]) (results_cell_row Tryz.results308 _ _ (w.heap.size+1) _ _ (0,0) _ rfl (setRow_heap _ _ _ _ _ _ RR.out) Tryz.underlying279 rfl (by kernel_rfl)) rfl ⟨rfl,RUN3.out.done (k:=w.heap.size+1) (by omega) (heap_alloc2_new _ _ _) (by decide)⟩
end Go.Proofs.YtighkdnooglfjaaGreatDoor
namespace Go.Proofs.YtighkdnooglfjaaGreatDoor
open Go.RowKit

abbrev NodeL:=ByteArray×ByteArray×(Nat×Nat)×Int×ByteArray×ByteArray
def zNode:NodeL:=(⟨#[]⟩,⟨#[]⟩,(0,0),0,⟨#[]⟩,⟨#[]⟩)
def nodeC (n:NodeL):Array Value:= #[.string n.1,.string n.2.1,.int .u64 (n.2.2.1.1:Int),.int .u8 (n.2.2.1.2:Int),.int .i64 n.2.2.2.1,.string n.2.2.2.2.1,.string n.2.2.2.2.2]
def stNode (width:Nat) (n:NodeL) (st:Option PS):NodeL×Option PS:=
 if (stTxt n.1.data.toList 1 st).1=[69] then ((⟨#[69]⟩,⟨#[]⟩,(0,0),0,⟨#[]⟩,⟨#[]⟩),(stTxt n.1.data.toList 1 st).2)
 else if (stTxt n.1.data.toList 1 st).1=[76] then ((⟨#[76]⟩,⟨(stLeaf width n.2.1 n.2.2.1 (stTxt n.1.data.toList 1 st).2).1.1.toArray⟩,(stLeaf width n.2.1 n.2.2.1 (stTxt n.1.data.toList 1 st).2).1.2,0,⟨#[]⟩,⟨#[]⟩),(stLeaf width n.2.1 n.2.2.1 (stTxt n.1.data.toList 1 st).2).2)
 else if (stTxt n.1.data.toList 1 st).1=[78] then ((⟨#[78]⟩,⟨#[]⟩,(0,0),((stBr width n.2.2.2.1 n.2.2.2.2.1 n.2.2.2.2.2 (stTxt n.1.data.toList 1 st).2).1.1:Int),⟨(stBr width n.2.2.2.1 n.2.2.2.2.1 n.2.2.2.2.2 (stTxt n.1.data.toList 1 st).2).1.2.1.toArray⟩,⟨(stBr width n.2.2.2.1 n.2.2.2.2.1 n.2.2.2.2.2 (stTxt n.1.data.toList 1 st).2).1.2.2.toArray⟩),(stBr width n.2.2.2.1 n.2.2.2.2.1 n.2.2.2.2.2 (stTxt n.1.data.toList 1 st).2).2)
 else (zNode,none)
theorem stNode_wr {width:Nat} {n:NodeL} {st:Option PS} (h:stWr st):stWr (stNode width n st).2:=by
 unfold stNode
 split
 ·exact stTxt_wr h
 ·split
  ·exact stLeaf_wr (stTxt_wr h)
  ·split
   ·exact stBr_wr (stTxt_wr h)
   ·exact stWr_none
theorem set7 (w:World) (g:Nat) (t:TypeId) (a b c d e f h v0 v1 v2 v3 v4 v5 v6:Value) (hr:w.heap[g]? =some (.cells #[a,b,c,d,e,f,h] t (0,0))):
  ((((((w.setCell ⟨g,0,none⟩ v0).setCell ⟨g,1,none⟩ v1).setCell ⟨g,2,none⟩ v2).setCell ⟨g,3,none⟩ v3).setCell ⟨g,4,none⟩ v4).setCell ⟨g,5,none⟩ v5).setCell ⟨g,6,none⟩ v6=w.setRow g #[v0,v1,v2,v3,v4,v5,v6]:=by
 rw [setCell_eq_setRow w g 0 _ t (0,0) v0 hr,setCell_eq_setRow _ g 1 _ t (0,0) v1 (setRow_heap _ _ _ _ _ _ hr),setRow_setRow,
  setCell_eq_setRow _ g 2 _ t (0,0) v2 (setRow_heap _ _ _ _ _ _ hr),setRow_setRow,setCell_eq_setRow _ g 3 _ t (0,0) v3 (setRow_heap _ _ _ _ _ _ hr),setRow_setRow,
  setCell_eq_setRow _ g 4 _ t (0,0) v4 (setRow_heap _ _ _ _ _ _ hr),setRow_setRow,setCell_eq_setRow _ g 5 _ t (0,0) v5 (setRow_heap _ _ _ _ _ _ hr),setRow_setRow,
  setCell_eq_setRow _ g 6 _ t (0,0) v6 (setRow_heap _ _ _ _ _ _ hr),setRow_setRow]
 refine congrArg (w.setRow g) ?_
 simp
set_option maxRecDepth 100000 in
set_option maxHeartbeats 400000 in
theorem leafNode_any (k:ByteArray) (a o:Int) (w:World):Calls Tryz.prog 307 #[.agg #[.string k,.int .u64 a,.int .u8 o]] w λe w'=>e=.returned (.agg #[.string ⟨#[76]⟩,.string k,.int .u64 a,.int .u8 o,.int .i64 0,.string ⟨#[]⟩,.string ⟨#[]⟩])/\Tch (λ_=>False) w w':=by
 go_enter Tryz.func307,Tryz.ntmps307
 go_wp2
 exact bodyPost_ret (v:=.agg #[.string ⟨#[76]⟩,.string k,.int .u64 a,.int .u8 o,.int .i64 0,.string ⟨#[]⟩,.string ⟨#[]⟩]) (results_cell_row Tryz.results307 _ _ (w.heap.size+1) _ _ (0,0) _ rfl (heap_alloc2_new _ _ _) Tryz.underlying281 rfl (by kernel_rfl)) rfl ⟨rfl,Tch.allocs _ _ _ _⟩
set_option maxRecDepth 100000 in
set_option maxHeartbeats 400000 in
theorem branchNode_any (k:Int) (x y:ByteArray) (w:World):Calls Tryz.prog 309 #[.agg #[.int .i64 k,.string x,.string y]] w λe w'=>e=.returned (.agg #[.string ⟨#[78]⟩,.string ⟨#[]⟩,.int .u64 0,.int .u8 0,.int .i64 k,.string x,.string y])/\Tch (λ_=>False) w w':=by
 go_enter Tryz.func309,Tryz.ntmps309
 go_wp2
 exact bodyPost_ret (v:=.agg #[.string ⟨#[78]⟩,.string ⟨#[]⟩,.int .u64 0,.int .u8 0,.int .i64 k,.string x,.string y]) (results_cell_row Tryz.results309 _ _ (w.heap.size+1) _ _ (0,0) _ rfl (heap_alloc2_new _ _ _) Tryz.underlying281 rfl (by kernel_rfl)) rfl ⟨rfl,Tch.allocs _ _ _ _⟩
theorem Run.next {E:Nat->Addr} {w0 wA w w':World} {b:Nat} {g g':Option Nat} {width:Int} {st:Option PS} (h:Run E w0 wA w b g g' width st) (k:Tch (λ_=>False) w w'):Run E w0 wA w' b g g' width st:=
 ⟨h.port.next k,h.moved,h.tch.trans k noE,h.env.tch k noE,h.k12,h.low,h.own,h.new⟩
set_option maxRecDepth 100000 in
set_option maxHeartbeats 1000000 in
theorem node_st (E:Nat->Addr) (b:Nat) (hb12:18<=b) (g:Option Nat) (width:Nat) (hw:width<=1000) (n:NodeL) (ho:n.2.2.1.2<256) (st:Option PS) (w:World) (hE:Env E w) (hp:PortSt E w b g width st) (hd:stLen st<=70000000):
  Calls Tryz.prog 240 #[.pointer (some ⟨b,0,none⟩),.agg (nodeC n)] w λe w'=>e=.returned (.agg (nodeC (stNode width n st).1))/\StTo E w w' b g width (stNode width n st).2:=by
 have hlt:=hp.lt
 obtain ⟨l,k,⟨a,o⟩,bt,x,y⟩:=n
 dsimp only at ho
 have HC:Hid (nodeC (l,k,(a,o),bt,x,y)= #[.string l,.string k,.int .u64 (a:Int),.int .u8 (o:Int),.int .i64 bt,.string x,.string y]):=rfl
 rw [HC.out]
 have HR0:=Run.start hb12 hE hp (Tch.allocs (λ_=>False) w (.cells #[.string l,.string k,.int .u64 (a:Int),.int .u8 (o:Int),.int .i64 bt,.string x,.string y] 281) (.cells #[.string ⟨#[]⟩,.string ⟨#[]⟩,.int .u64 0,.int .u8 0,.int .i64 0,.string ⟨#[]⟩,.string ⟨#[]⟩] 281))
 have hl0:=stTxt_len l.data.toList 1 st
 have RUN:Hid (Run _ _ _ _ _ _ _ _ _):=HR0
 clear hE hp HR0
 go_enter Tryz.func240,Tryz.ntmps240
 go_wp2_with fail
 refine (text_st E b g width l 1 st _ RUN.out.env RUN.out.port (by omega)).mono ?_
 rintro _ w1 ⟨rfl,h⟩
 obtain ⟨g1,R1⟩:=RUN.out.step h
 have bx1:=(R1.box (k:=w.heap.size) (Nat.le_refl _) (heap_alloc2_old _ _ _)).1
 have rR:=(R1.box (k:=w.heap.size+1) (by omega) (heap_alloc2_new _ _ _)).1
 have hsz1:w.heap.size+1<w1.heap.size:=(row_lt rR)
 have c1:w1.cell? ⟨w.heap.size,1,none⟩=some (.string k):=cell_row bx1
 have c2:w1.cell? ⟨w.heap.size,2,none⟩=some (.int .u64 (a:Int)):=cell_row bx1
 have c3:w1.cell? ⟨w.heap.size,3,none⟩=some (.int .u8 (o:Int)):=cell_row bx1
 have c4:w1.cell? ⟨w.heap.size,4,none⟩=some (.int .i64 bt):=cell_row bx1
 have c5:w1.cell? ⟨w.heap.size,5,none⟩=some (.string x):=cell_row bx1
 have c6:w1.cell? ⟨w.heap.size,6,none⟩=some (.string y):=cell_row bx1
 have RUN1:Hid (Run _ _ _ _ _ _ _ _ _):=R1
 have RR1:Hid (_=_):=rR
 clear R1 bx1 h rR
 have hn0:∀c:UInt8,(stTxt l.data.toList 1 st).1 ≠ [c]->((⟨(stTxt l.data.toList 1 st).1.toArray⟩:ByteArray).toList == [c])=false:=λc h=>by
  rw [ByteArray.toList_eq]
  simpa using h
 have HN0:Hid (∀c:UInt8,_):=hn0
 clear hn0
 by_cases h0:(stTxt l.data.toList 1 st).1=[69]
 ·have hb:(⟨(stTxt l.data.toList 1 st).1.toArray⟩:ByteArray)=⟨#[69]⟩:=by rw [h0]
  have HS:Hid (stNode width (l,k,(a,o),bt,x,y) st=((⟨#[69]⟩,⟨#[]⟩,(0,0),0,⟨#[]⟩,⟨#[]⟩),(stTxt l.data.toList 1 st).2)):=if_pos h0
  rw [hb]
  clear hb h0
  have e0:w1.cell? ⟨w.heap.size+1,0,none⟩=some (.string ⟨#[]⟩):=cell_row RR1.out
  have e1:w1.cell? ⟨w.heap.size+1,1,none⟩=some (.string ⟨#[]⟩):=cell_row RR1.out
  have e2:w1.cell? ⟨w.heap.size+1,2,none⟩=some (.int .u64 0):=cell_row RR1.out
  have e3:w1.cell? ⟨w.heap.size+1,3,none⟩=some (.int .u8 0):=cell_row RR1.out
  have e4:w1.cell? ⟨w.heap.size+1,4,none⟩=some (.int .i64 0):=cell_row RR1.out
  have e5:w1.cell? ⟨w.heap.size+1,5,none⟩=some (.string ⟨#[]⟩):=cell_row RR1.out
  have e6:w1.cell? ⟨w.heap.size+1,6,none⟩=some (.string ⟨#[]⟩):=cell_row RR1.out
  have fR:∀j,w1.frozen? ⟨w.heap.size+1,j,none⟩=false:=λj=>frozen_of_row _ _ _ _ _ RR1.out
  go_wp2
  rw [set7 _ _ _ _ _ _ _ _ _ _ _ _ _ _ _ _ _ RR1.out]
  refine bodyPost_ret (v:=.agg (nodeC (⟨#[69]⟩,⟨#[]⟩,(0,0),0,⟨#[]⟩,⟨#[]⟩))) (results_cell_row Tryz.results240 _ _ (w.heap.size+1) _ _ (0,0) _ rfl (setRow_heap _ _ _ _ _ _ RR1.out) Tryz.underlying281 rfl (by kernel_rfl)) rfl ⟨by rw [HS.out],?_⟩
  rw [HS.out]
  exact RUN1.out.done (k:=w.heap.size+1) (by omega) (heap_alloc2_new _ _ _) (by decide)
 ·by_cases h1:(stTxt l.data.toList 1 st).1=[76]
  ·have hb:(⟨(stTxt l.data.toList 1 st).1.toArray⟩:ByteArray)=⟨#[76]⟩:=by rw [h1]
   have HS:Hid (stNode width (l,k,(a,o),bt,x,y) st=((⟨#[76]⟩,⟨(stLeaf width k (a,o) (stTxt l.data.toList 1 st).2).1.1.toArray⟩,(stLeaf width k (a,o) (stTxt l.data.toList 1 st).2).1.2,0,⟨#[]⟩,⟨#[]⟩),(stLeaf width k (a,o) (stTxt l.data.toList 1 st).2).2)):=(if_neg h0).trans (if_pos h1)
   rw [hb]
   clear hb h0 h1
   go_wp2_with fail
   refine (leaf_st E b hb12 g1 width hw k a o ho _ _ RUN1.out.env RUN1.out.port (by omega)).mono ?_
   rintro _ w2 ⟨rfl,h⟩
   obtain ⟨g2,R2⟩:=RUN1.out.step h
   have RUN2:Hid (Run _ _ _ _ _ _ _ _ _):=R2
   clear R2 h
   go_wp2_with fail
   refine (leafNode_any _ _ _ _).mono ?_
   rintro _ w3 ⟨rfl,h⟩
   have R3:=RUN2.out.next h
   have rR:=(R3.box (k:=w.heap.size+1) (by omega) (heap_alloc2_new _ _ _)).1
   have e0:w3.cell? ⟨w.heap.size+1,0,none⟩=some (.string ⟨#[]⟩):=cell_row rR
   have e1:w3.cell? ⟨w.heap.size+1,1,none⟩=some (.string ⟨#[]⟩):=cell_row rR
   have e2:w3.cell? ⟨w.heap.size+1,2,none⟩=some (.int .u64 0):=cell_row rR
   have e3:w3.cell? ⟨w.heap.size+1,3,none⟩=some (.int .u8 0):=cell_row rR
   have e4:w3.cell? ⟨w.heap.size+1,4,none⟩=some (.int .i64 0):=cell_row rR
   have e5:w3.cell? ⟨w.heap.size+1,5,none⟩=some (.string ⟨#[]⟩):=cell_row rR
   have e6:w3.cell? ⟨w.heap.size+1,6,none⟩=some (.string ⟨#[]⟩):=cell_row rR
   have fR:∀j,w3.frozen? ⟨w.heap.size+1,j,none⟩=false:=λj=>frozen_of_row _ _ _ _ _ rR
   have RUN3:Hid (Run _ _ _ _ _ _ _ _ _):=R3
   have RR3:Hid (_=_):=rR
   clear R3 rR h
   go_wp2
   rw [set7 _ _ _ _ _ _ _ _ _ _ _ _ _ _ _ _ _ RR3.out]
   refine bodyPost_ret (v:=.agg #[.string ⟨#[76]⟩,.string _,.int .u64 _,.int .u8 _,.int .i64 0,.string ⟨#[]⟩,.string ⟨#[]⟩]) (results_cell_row Tryz.results240 _ _ (w.heap.size+1) _ _ (0,0) _ rfl (setRow_heap _ _ _ _ _ _ RR3.out) Tryz.underlying281 rfl (by kernel_rfl)) rfl ⟨by rw [HS.out];rfl,?_⟩
   rw [HS.out]
   exact RUN3.out.done (k:=w.heap.size+1) (by omega) (heap_alloc2_new _ _ _) (by decide)
  ·by_cases h2:(stTxt l.data.toList 1 st).1=[78]
   ·have hb:(⟨(stTxt l.data.toList 1 st).1.toArray⟩:ByteArray)=⟨#[78]⟩:=by rw [h2]
    have HS:Hid (stNode width (l,k,(a,o),bt,x,y) st=((⟨#[78]⟩,⟨#[]⟩,(0,0),((stBr width bt x y (stTxt l.data.toList 1 st).2).1.1:Int),⟨(stBr width bt x y (stTxt l.data.toList 1 st).2).1.2.1.toArray⟩,⟨(stBr width bt x y (stTxt l.data.toList 1 st).2).1.2.2.toArray⟩),(stBr width bt x y (stTxt l.data.toList 1 st).2).2)):=(if_neg h0).trans ((if_neg h1).trans (if_pos h2))
    rw [hb]
    clear hb h0 h1 h2
    go_wp2_with fail
    refine (branch_st E b hb12 g1 width hw bt x y _ _ RUN1.out.env RUN1.out.port (by omega)).mono ?_
    rintro _ w2 ⟨rfl,h⟩
    obtain ⟨g2,R2⟩:=RUN1.out.step h
    have RUN2:Hid (Run _ _ _ _ _ _ _ _ _):=R2
    clear R2 h
    go_wp2_with fail
    refine (branchNode_any _ _ _ _).mono ?_
    rintro _ w3 ⟨rfl,h⟩
    have R3:=RUN2.out.next h
    have rR:=(R3.box (k:=w.heap.size+1) (by omega) (heap_alloc2_new _ _ _)).1
    have e0:w3.cell? ⟨w.heap.size+1,0,none⟩=some (.string ⟨#[]⟩):=cell_row rR
    have e1:w3.cell? ⟨w.heap.size+1,1,none⟩=some (.string ⟨#[]⟩):=cell_row rR
    have e2:w3.cell? ⟨w.heap.size+1,2,none⟩=some (.int .u64 0):=cell_row rR
    have e3:w3.cell? ⟨w.heap.size+1,3,none⟩=some (.int .u8 0):=cell_row rR
    have e4:w3.cell? ⟨w.heap.size+1,4,none⟩=some (.int .i64 0):=cell_row rR
    have e5:w3.cell? ⟨w.heap.size+1,5,none⟩=some (.string ⟨#[]⟩):=cell_row rR
    have e6:w3.cell? ⟨w.heap.size+1,6,none⟩=some (.string ⟨#[]⟩):=cell_row rR
    have fR:∀j,w3.frozen? ⟨w.heap.size+1,j,none⟩=false:=λj=>frozen_of_row _ _ _ _ _ rR
    have RUN3:Hid (Run _ _ _ _ _ _ _ _ _):=R3
    have RR3:Hid (_=_):=rR
    clear R3 rR h
    go_wp2
    rw [set7 _ _ _ _ _ _ _ _ _ _ _ _ _ _ _ _ _ RR3.out]
    refine bodyPost_ret (v:=.agg #[.string ⟨#[78]⟩,.string ⟨#[]⟩,.int .u64 0,.int .u8 0,.int .i64 _,.string _,.string _]) (results_cell_row Tryz.results240 _ _ (w.heap.size+1) _ _ (0,0) _ rfl (setRow_heap _ _ _ _ _ _ RR3.out) Tryz.underlying281 rfl (by kernel_rfl)) rfl ⟨by rw [HS.out];rfl,?_⟩
    rw [HS.out]
    exact RUN3.out.done (k:=w.heap.size+1) (by omega) (heap_alloc2_new _ _ _) (by decide)
   ·have HS:Hid (stNode width (l,k,(a,o),bt,x,y) st=(zNode,none)):=(if_neg h0).trans ((if_neg h1).trans (if_neg h2))
    have b0:=HN0.out 69 h0
    have b1:=HN0.out 76 h1
    have b2:=HN0.out 78 h2
    clear h0 h1 h2 HN0
    generalize (⟨(stTxt l.data.toList 1 st).1.toArray⟩:ByteArray)=tb at *
    go_wp2_with fail
    refine (refuse_st E b g1 width _ _ _ RUN1.out.env RUN1.out.port).mono ?_
    rintro _ w2 ⟨rfl,h⟩
    obtain ⟨g2,R2⟩:=RUN1.out.step h
    have rR:=(R2.box (k:=w.heap.size+1) (by omega) (heap_alloc2_new _ _ _)).1
    have e0:w2.cell? ⟨w.heap.size+1,0,none⟩=some (.string ⟨#[]⟩):=cell_row rR
    have e1:w2.cell? ⟨w.heap.size+1,1,none⟩=some (.string ⟨#[]⟩):=cell_row rR
    have e2:w2.cell? ⟨w.heap.size+1,2,none⟩=some (.int .u64 0):=cell_row rR
    have e3:w2.cell? ⟨w.heap.size+1,3,none⟩=some (.int .u8 0):=cell_row rR
    have e4:w2.cell? ⟨w.heap.size+1,4,none⟩=some (.int .i64 0):=cell_row rR
    have e5:w2.cell? ⟨w.heap.size+1,5,none⟩=some (.string ⟨#[]⟩):=cell_row rR
    have e6:w2.cell? ⟨w.heap.size+1,6,none⟩=some (.string ⟨#[]⟩):=cell_row rR
    have fR:∀j,w2.frozen? ⟨w.heap.size+1,j,none⟩=false:=λj=>frozen_of_row _ _ _ _ _ rR
    have RUN2:Hid (Run _ _ _ _ _ _ _ _ _):=R2
    have RR2:Hid (_=_):=rR
    clear R2 rR h
    go_wp2
    rw [set7 _ _ _ _ _ _ _ _ _ _ _ _ _ _ _ _ _ RR2.out]
    refine bodyPost_ret (v:=.agg #[.string ⟨#[]⟩,.string ⟨#[]⟩,.int .u64 0,.int .u8 0,.int .i64 0,.string ⟨#[]⟩,.string ⟨#[]⟩]) (results_cell_row Tryz.results240 _ _ (w.heap.size+1) _ _ (0,0) _ rfl (setRow_heap _ _ _ _ _ _ RR2.out) Tryz.underlying281 rfl (by kernel_rfl)) rfl ⟨by rw [HS.out];rfl,?_⟩
    rw [HS.out]
    exact RUN2.out.done (k:=w.heap.size+1) (by omega) (heap_alloc2_new _ _ _) (by decide)

set_option maxRecDepth 100000 in
set_option maxHeartbeats 400000 in
theorem nodeText_any (E:Nat->Addr) (width:Nat) (hw:width<=1000) (n:NodeL) (ho:n.2.2.1.2<256) (w:World) (hE:Env E w):
  Calls Tryz.prog 154 #[.agg (nodeC n),.int .i64 (width:Int)] w λe w'=>Tch (λ_=>False) w w'/\RetS E (stOut (stNode width n (some (.wr []))).2) e w':=by
 have hs:=hE.size
 have HE:Hid (Env E w):=hE
 clear hE
 have HC:Hid (∀W b,18<=b->Env E W->PortSt E W b none width (some (.wr []))->_):=λW b h12 hE hp=>node_st E b h12 none width hw n ho (some (.wr [])) W hE hp (by show 0<=_;omega)
 obtain ⟨l,k,⟨a,o⟩,bt,x,y⟩:=n
 dsimp only at ho
 have HV:Hid (nodeC (l,k,(a,o),bt,x,y)= #[.string l,.string k,.int .u64 (a:Int),.int .u8 (o:Int),.int .i64 bt,.string x,.string y]):=rfl
 rw [HV.out] at HC ⊢
 go_enter Tryz.func154,Tryz.ntmps154
 go_wp2_with fail
 refine (newWriter_any _ _).mono ?_
 rintro _ w1 ⟨rfl,hp1,ht1⟩
 have tA:Tch (λ_=>False) w (w.alloc (.cells #[.string l,.string k,.int .u64 (a:Int),.int .u8 (o:Int),.int .i64 bt,.string x,.string y] 281)):=Tch.alloc _ _ _
 have hb:(w.alloc (.cells #[.string l,.string k,.int .u64 (a:Int),.int .u8 (o:Int),.int .i64 bt,.string x,.string y] 281)).heap.size=w.heap.size+1:=by simp
 rw [hb] at hp1
 rw [hb]
 have r0:w1.heap[w.heap.size]? =some (.cells #[.string l,.string k,.int .u64 (a:Int),.int .u8 (o:Int),.int .i64 bt,.string x,.string y] 281):=(ht1.block _ (by omega) (λh=>h)).trans (heap_alloc_new _ _)
 have d0:w1.cell? ⟨w.heap.size,0,none⟩=some (.string l):=cell_row r0
 have d1:w1.cell? ⟨w.heap.size,1,none⟩=some (.string k):=cell_row r0
 have d2:w1.cell? ⟨w.heap.size,2,none⟩=some (.int .u64 (a:Int)):=cell_row r0
 have d3:w1.cell? ⟨w.heap.size,3,none⟩=some (.int .u8 (o:Int)):=cell_row r0
 have d4:w1.cell? ⟨w.heap.size,4,none⟩=some (.int .i64 bt):=cell_row r0
 have d5:w1.cell? ⟨w.heap.size,5,none⟩=some (.string x):=cell_row r0
 have d6:w1.cell? ⟨w.heap.size,6,none⟩=some (.string y):=cell_row r0
 have HT1:Hid (Tch (λ_=>False) w w1.drew):=(tA.trans ht1 noE).trans (Tch.drewN (λ_=>False) w1 1) noE
 have HC1:Hid (Calls Tryz.prog 240 _ w1.drew _):=HC.out w1.drew (w.heap.size+1) (by omega) (HE.out.tch HT1.out noE) (PortSt.next (E:=E) (st:=some (.wr [])) hp1 (Tch.drewN _ w1 1))
 clear hp1 ht1 tA r0 hb HC
 go_wp2_with fail
 go_region_with (go_at_call 240;refine HC1.out.mono ?_;rintro _ w2 ⟨rfl,g2,hp2,hm2,ht2⟩;have HP2:Hid (PortSt _ _ _ _ _ _):=hp2;have HT2:Hid (Tch _ _ w2):=ht2;clear hp2 hm2 ht2)
 all_goals
  have HR:Hid (Calls Tryz.prog 79 _ w2 _):=wdone_ret E (w.heap.size+1) g2 width _ (stNode_wr stWr_new) w2 HP2.out
  have HT3:Hid (Tch (λ_=>False) w w2):=fresh_wr2 (b:=w.heap.size+1) (by omega) HT1.out HT2.out
  clear HP2 HT1 HT2 d0 d1 d2 d3 d4 d5 d6 HC1
  go_wp2_with fail
  refine HR.out.mono ?_
  rintro _ w3 ⟨ht3,hr⟩
  have HR3:Hid (RetS _ _ _ _):=hr
  have HT4:Hid (Tch _ _ _):=ht3
  clear ht3 HR
  rcases hr.cases with ⟨d,hd,rfl⟩ | ⟨hn,t,u,rfl,he⟩
  all_goals
   clear hr
   go_wp2
   go_ret2
   exact ⟨HT3.out.trans HT4.out noE,HR3.out⟩
end Go.Proofs.YtighkdnooglfjaaGreatDoor
