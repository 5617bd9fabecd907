/-
  proofs: stateOf, ask, saidBy, end, above.
  proofs: saidBy, end, above.
-/
import Derived.Test.YtighkdnooglfjaaGreatDoorSwChK
import Derived.Test.YtighkdnooglfjaaGreatDoorSwWyT
namespace Go.Proofs.YtighkdnooglfjaaGreatDoor
open Go.RowKit

theorem toList_str (l:List UInt8):(⟨l.toArray⟩:ByteArray).data.toList=l:=rfl
set_option maxRecDepth 100000 in
set_option maxHeartbeats 1000000 in
theorem stateOf_ok (E:Nat->Addr) (width:Nat) (hw:width<=32) (h:HdL) (hh:HdOk width h) (w:World) (hE:Env E w):
  Calls Tryz.prog 212 #[.int .i64 (width:Int),.string ⟨(hdrB h).toArray⟩] w λe w'=>e=.returned (.tuple #[.string h.2.2.2,.nilIface])/\Tch (λ_=>False) w w':=by
 have hlen:(hdrB h).length<=1000:=by
  obtain ⟨h1,h2,h3,h4⟩:=hh
  unfold hdrB
  simp only [List.length_append,beL_length,Array.length_toList]
  have e2:h.2.1.data.size=width:=h2
  have e3:h.2.2.1.data.size=width:=h3
  have e4:h.2.2.2.data.size=width:=h4
  omega
 have hrd:(PS.rd [] (hdrB h)).hdr width (0,⟨#[]⟩,⟨#[]⟩,⟨#[]⟩)=some (h,.rd (hdrB h) []):=by
  have:=(rt_hdr width h (0,⟨#[]⟩,⟨#[]⟩,⟨#[]⟩) hh).rd [] []
  rw [List.append_nil] at this
  exact this
 have HHD:Hid (∀W,Tch (λ_=>False) w W->PortAt W w.heap.size none (width:Int) .nilIface (.rd [] (hdrB h))->Calls Tryz.prog 86 #[.pointer (some ⟨w.heap.size,0,none⟩),.agg #[.int .u64 0,.string ⟨#[]⟩,.string ⟨#[]⟩,.string ⟨#[]⟩]] W λe w'=>e=.returned (.agg #[.int .u64 (h.1:Int),.string h.2.1,.string h.2.2.1,.string h.2.2.2])/\RdTo E W w' w.heap.size (width:Int) (some (.rd (hdrB h) []))):=λW hT hp=>subHdr E hE width hw ⟨(hdrB h).toArray⟩ (by rw [str_size];omega) h _ hrd hT hp
 obtain ⟨n,s1,s2,s3⟩:=h
 dsimp only at HHD ⊢
 clear hE hh hlen hrd
 have HL:Hid (∀hb,hb=hdrB (n,s1,s2,s3)->_):=λhb (_:hb=hdrB (n,s1,s2,s3))=>trivial
 clear HL
 generalize hhb:hdrB (n,s1,s2,s3)=hb at *
 clear hhb
 go_enter Tryz.func212,Tryz.ntmps212
 go_wp2_with fail
 refine (newReader_any _ _ _).mono ?_
 rintro _ w1 ⟨rfl,hp1,ht1⟩
 have HT1:Hid (Tch (λ_=>False) w w1):=ht1
 have HP1:Hid (PortAt w1 w.heap.size none (width:Int) .nilIface (.rd [] hb)):=hp1
 clear ht1 hp1
 go_wp2_with fail
 refine (HHD.out w1 HT1.out HP1.out).mono ?_
 rintro _ w2 ⟨rfl,⟨hp2,_⟩,ht2⟩
 obtain ⟨W3,hW3⟩:∃W3,W3=w2.alloc (.cells #[.int .u64 (n:Int),.string s1,.string s2,.string s3] 167):=⟨_,rfl⟩
 have hA:Tch (λ_=>False) w2 W3:=by rw [hW3];exact Tch.alloc _ _ _
 have HT2:Hid (Tch (λ_=>False) w W3):=(HT1.out.trans ht2 (λj hj=>.inr (Nat.le_of_eq hj.symm))).go hA
 have HP2:Hid (PortAt W3 w.heap.size none (width:Int) .nilIface (.rd hb [])):=hp2.tch hA (λh=>h) (λ_ _ h=>h)
 have hr3:W3.heap[w2.heap.size]? =some (.cells #[.int .u64 (n:Int),.string s1,.string s2,.string s3] 167):=by rw [hW3];exact heap_alloc_new _ _
 have c3:W3.cell? ⟨w2.heap.size,3,none⟩=some (.string s3):=cell_row hr3
 have C3:Hid (W3.heap[w2.heap.size]? =_):=hr3
 have HW3:Hid (W3=_):=hW3
 have HDN:Hid (∀W,Tch (λ_=>False) W3 W->Calls Tryz.prog 88 #[.pointer (some ⟨w.heap.size,0,none⟩)] W λe w'=>e=.returned .nilIface/\Tch (λ_=>False) W w'):=λW hT=>rdone_ok w.heap.size (width:Int) hb W (HP2.out.tch hT (λh=>h) (λ_ _ h=>h))
 clear hp2 ht2 HHD HP1 HT1 hA hr3 hW3 HP2
 go_upto_region 3 with fail
 rw [<-HW3.out]
 have HC:Hid (∀W,Tch (λ_=>False) W3 W->W.cell? ⟨w2.heap.size,3,none⟩=some (.string s3)):=λW hT=>cell_row ((hT.block _ (row_lt C3.out) (λh=>h)).trans C3.out)
 go_region_with (go_at_call 88;refine (HDN.out _ (Tch.drewN _ _ 1)).mono ?_;rintro _ w4 ⟨rfl,ht4⟩;have HT4:Hid (Tch (λ_=>False) W3 w4):=(Tch.drewN (λ_=>False) W3 1).go ht4;have c4:=HC.out _ HT4.out;clear ht4)
 all_goals
  go_wp2
  go_ret2
  exact ⟨rfl,HT2.out.go HT4.out⟩
abbrev qV (width:Nat) (state kb:ByteArray):Value:=.agg #[.int .i64 (width:Int),.string state,.string kb]
set_option maxRecDepth 100000 in
set_option maxHeartbeats 1000000 in
theorem ask_ok (E:Nat->Addr) (width:Nat) (h1:1<=width) (hw:width<=32) (h:HdL) (hh:HdOk width h) (c:ByteArray×Int) (hc:CoinOk width c) (w:World) (hE:Env E w):
  Calls Tryz.prog 143 #[.int .i64 (width:Int),.string ⟨(hdrB h).toArray⟩,.agg #[.string c.1,.int .i64 c.2]] w λe w'=>e=.returned (.tuple #[qV width h.2.2.2 ⟨(coinB c).toArray⟩,.nilIface])/\Tch (λ_=>False) w w':=by
 have HST:Hid (∀W,Tch (λ_=>False) w W->Calls Tryz.prog 212 _ W _):=λW hT=>stateOf_ok E width hw h hh W (hE.tch hT noE)
 have HK:Hid (∀W,Tch (λ_=>False) w W->Calls Tryz.prog 145 _ W _):=λW hT=>keysOf_ok E width hw c hc W (hE.tch hT noE)
 have HCW:Hid (∀W,Calls Tryz.prog 124 _ W _):=λW=>checkWidth_ok width W h1 hw
 generalize h.2.2.2=st at *
 generalize (⟨(hdrB h).toArray⟩:ByteArray)=hb at *
 obtain ⟨s,N⟩:=c
 dsimp only at HK ⊢
 generalize (⟨(coinB (s,N)).toArray⟩:ByteArray)=kb at *
 clear hE hh hc
 obtain ⟨W,hW⟩:∃W,W=(w.alloc (.cells #[.string s,.int .i64 N] 49)).alloc (.cells #[.int .i64 0,.string ⟨#[]⟩,.string ⟨#[]⟩] 248):=⟨_,rfl⟩
 have hA:Tch (λ_=>False) w W:=by rw [hW];exact Tch.allocs _ _ _ _
 have hr0:W.heap[w.heap.size]? =some (.cells #[.string s,.int .i64 N] 49):=by rw [hW];exact heap_alloc2_old _ _ _
 have hr1:W.heap[w.heap.size+1]? =some (.cells #[.int .i64 0,.string ⟨#[]⟩,.string ⟨#[]⟩] 248):=by rw [hW];exact heap_alloc2_new _ _ _
 have HB:Hid (∀V,Tch (λ_=>False) W V->V.heap[w.heap.size]? =some (.cells #[.string s,.int .i64 N] 49)/\V.heap[w.heap.size+1]? =some (.cells #[.int .i64 0,.string ⟨#[]⟩,.string ⟨#[]⟩] 248)):=λV hT=>⟨(hT.block _ (row_lt hr0) (λh=>h)).trans hr0,(hT.block _ (row_lt hr1) (λh=>h)).trans hr1⟩
 have HA:Hid (Tch _ w W):=hA
 have HW:Hid (W=_):=hW
 clear hA hr0 hr1 hW
 go_enter Tryz.func143,Tryz.ntmps143
 go_upto_region 1 with fail
 rw [<-HW.out]
 go_wp2_with fail
 refine (HCW.out W).mono ?_
 rintro _ w1 ⟨rfl,rfl⟩
 have HT1:Hid (Tch (λ_=>False) W W):=Tch.refl _ _
 clear HCW
 go_wp2_with fail
 refine (HST.out W (HA.out.go HT1.out)).mono ?_
 rintro _ w2 ⟨rfl,ht2⟩
 have HT2:Hid (Tch (λ_=>False) W w2):=HT1.out.go ht2
 obtain ⟨b0,b1⟩:=HB.out w2 HT2.out
 have c0:w2.cell? ⟨w.heap.size,0,none⟩=some (.string s):=cell_row b0
 have c1:w2.cell? ⟨w.heap.size,1,none⟩=some (.int .i64 N):=cell_row b0
 clear ht2 HST HT1 b0 b1
 go_wp2_with fail
 refine (HK.out w2 (HA.out.go HT2.out)).mono ?_
 rintro _ w3 ⟨rfl,ht3⟩
 have HT3:Hid (Tch (λ_=>False) W w3):=HT2.out.go ht3
 obtain ⟨_,b1⟩:=HB.out w3 HT3.out
 have r0:w3.cell? ⟨w.heap.size+1,0,none⟩=some (.int .i64 0):=cell_row b1
 have r1:w3.cell? ⟨w.heap.size+1,1,none⟩=some (.string ⟨#[]⟩):=cell_row b1
 have r2:w3.cell? ⟨w.heap.size+1,2,none⟩=some (.string ⟨#[]⟩):=cell_row b1
 have fR:∀j,w3.frozen? ⟨w.heap.size+1,j,none⟩=false:=λj=>frozen_of_row _ _ _ _ _ b1
 have R3:Hid (w3.heap[w.heap.size+1]? =_):=b1
 clear ht3 HK HT2 b1 c0 c1
 go_wp2
 rw [set3 _ _ _ _ _ _ _ _ _ R3.out]
 refine bodyPost_ret (v:=.tuple #[qV width st kb,.nilIface]) (results_cell_tmp Tryz.results143 _ _ (w.heap.size+1) _ _ (0,0) _ rfl (setRow_heap _ _ _ _ _ _ R3.out) Tryz.underlying248 rfl (by kernel_rfl)) rfl ⟨rfl,?_⟩
 exact (HA.out.go HT3.out).trans (Tch.setRow _ _ _) (λj hj=>.inr (by omega))
def saidV (o:Option (Nat×Nat)):Value:=match o with
 | some o=>.agg #[.int .i64 1,.int .u64 (o.1:Int),.int .u8 (o.2:Int)]
 | none=>.agg #[.int .i64 2,.int .u64 0,.int .u8 0]
end Go.Proofs.YtighkdnooglfjaaGreatDoor
namespace Go.Proofs.YtighkdnooglfjaaGreatDoor
open Go.RowKit

abbrev wV (v1:Option Addr) (v2 v3:Nat) (m:Bool) (k:ByteArray) (a o:Nat):Value:=.agg #[.slice v1 v2 v3,.bool m,.string k,.int .u64 (a:Int),.int .u8 (o:Int)]
theorem ba_toListV {a b:ByteArray} (h:a.toList=b.toList):a=b:=by
 rw [ByteArray.toList_eq,ByteArray.toList_eq] at h
 exact ba_ext (by simpa using h)
set_option maxRecDepth 100000 in
set_option maxHeartbeats 1000000 in
theorem saidBy_any (width:Nat) (state kb:ByteArray) (v1:Option Addr) (v2 v3:Nat) (m:Bool) (k:ByteArray) (a o:Nat) (w:World):
  Calls Tryz.prog 215 #[qV width state kb,wV v1 v2 v3 m k a o] w λe w'=>e=.returned (saidV (if m=true/\k=kb then some (a,o) else none))/\Tch (λ_=>False) w w':=by
 cases m with
 | false=>
  rw [if_neg (by simp)]
  go_enter Tryz.func215,Tryz.ntmps215
  go_wp2
  exact bodyPost_ret (v:=saidV none) (results_cell_row Tryz.results215 _ _ (w.heap.size+1+1) _ _ (0,0) _ rfl (heap_alloc3_2 _ _ _ _) Tryz.underlying179 rfl (by kernel_rfl)) rfl ⟨rfl,Tch.allocs3 _ _ _ _ _⟩
 | true=>
  by_cases hk:k=kb
  ·rw [if_pos ⟨rfl,hk⟩]
   have hd:(k.toList == kb.toList)=true:=by rw [hk];simp
   have hd2:decide (k=kb)=true:=by simp [hk]
   go_enter Tryz.func215,Tryz.ntmps215
   go_wp2
   exact bodyPost_ret (v:=saidV (some (a,o))) (results_cell_row Tryz.results215 _ _ (w.heap.size+1+1) _ _ (0,0) _ rfl (heap_alloc3_2 _ _ _ _) Tryz.underlying179 rfl (by kernel_rfl)) rfl ⟨rfl,Tch.allocs3 _ _ _ _ _⟩
  ·rw [if_neg (λh=>hk h.2)]
   have hd:¬k.toList=kb.toList:=λh=>hk (ba_toListV h)
   have hd3:(k.toList == kb.toList)=false:=by simp [hd]
   have hd2:decide (k.toList=kb.toList)=false:=by simp [hd]
   go_enter Tryz.func215,Tryz.ntmps215
   go_wp2
   exact bodyPost_ret (v:=saidV none) (results_cell_row Tryz.results215 _ _ (w.heap.size+1+1) _ _ (0,0) _ rfl (heap_alloc3_2 _ _ _ _) Tryz.underlying179 rfl (by kernel_rfl)) rfl ⟨rfl,Tch.allocs3 _ _ _ _ _⟩
set_option maxRecDepth 100000 in
set_option maxHeartbeats 1000000 in
theorem end_ok (E:Nat->Addr) (width:Nat) (hw:width<=32) (state kb:ByteArray) (v1:Option Addr) (v2 v3:Nat) (wy:Wy) (hok:WyOk width wy) (w:World) (hE:Env E w):
  Calls Tryz.prog 342 #[qV width state kb,wV v1 v2 v3 wy.2.isSome (wyK wy) (wyO wy).1 (wyO wy).2] w λe w'=>e=.returned (.tuple #[.string ⟨(endText wy.2).toArray⟩,.nilIface])/\Tch (λ_=>False) w w':=by
 obtain ⟨st,en⟩:=wy
 cases en with
 | none=>
  show Calls _ _ #[_,wV v1 v2 v3 false ⟨#[]⟩ 0 0] _ _
  clear hE hok
  go_enter Tryz.func342,Tryz.ntmps342
  go_wp2
  go_ret2
  exact ⟨rfl,Tch.allocs _ _ _ _⟩
 | some x=>
  obtain ⟨k,a,o⟩:=x
  show Calls _ _ #[_,wV v1 v2 v3 true ⟨k.toArray⟩ a o] _ _
  have hkey:=hok.key (k,a,o) rfl
  have htx:=leaf_text width k (a,o) hkey
  have HTX:Hid (∀W,Tch (λ_=>False) w W->Calls Tryz.prog 154 #[.agg #[.string ⟨#[76]⟩,.string ⟨k.toArray⟩,.int .u64 (a:Int),.int .u8 (o:Int),.int .i64 0,.string ⟨#[]⟩,.string ⟨#[]⟩],.int .i64 (width:Int)] W λe w'=>Tch (λ_=>False) W w'/\e=.returned (.tuple #[.string ⟨(76 :: (k++outB (a,o))).toArray⟩,.nilIface])):=λW hT=>by
   have:=nodeText_any E width (by omega) (⟨#[76]⟩,⟨k.toArray⟩,(a,o),0,⟨#[]⟩,⟨#[]⟩) hkey.2.2.2 W (hE.tch hT noE)
   rw [htx] at this
   exact this
  show Calls _ _ _ _ λe w'=>e=.returned (.tuple #[.string ⟨(76 :: (k++outB (a,o))).toArray⟩,.nilIface])/\_
  clear hE hok hkey htx
  generalize (⟨(76 :: (k++outB (a,o))).toArray⟩:ByteArray)=txt at *
  generalize (⟨k.toArray⟩:ByteArray)=kk at *
  obtain ⟨W,hW⟩:∃W,W=(w.alloc (.cells #[.int .i64 (width:Int),.string state,.string kb] 248)).alloc (.cells #[.slice v1 v2 v3,.bool true,.string kk,.int .u64 (a:Int),.int .u8 (o:Int)] 258):=⟨_,rfl⟩
  have hA:Tch (λ_=>False) w W:=by rw [hW];exact Tch.allocs _ _ _ _
  have hr0:W.heap[w.heap.size]? =some (.cells #[.int .i64 (width:Int),.string state,.string kb] 248):=by rw [hW];exact heap_alloc2_old _ _ _
  have hr1:W.heap[w.heap.size+1]? =some (.cells #[.slice v1 v2 v3,.bool true,.string kk,.int .u64 (a:Int),.int .u8 (o:Int)] 258):=by rw [hW];exact heap_alloc2_new _ _ _
  have HC:Hid (∀V,Tch (λ_=>False) W V->V.cell? ⟨w.heap.size,0,none⟩=some (.int .i64 (width:Int))):=λV hT=>cell_row ((hT.block _ (row_lt hr0) (λh=>h)).trans hr0)
  have c0:=HC.out W (Tch.refl _ _)
  have d1:W.cell? ⟨w.heap.size+1,1,none⟩=some (.bool true):=cell_row hr1
  have d2:W.cell? ⟨w.heap.size+1,2,none⟩=some (.string kk):=cell_row hr1
  have d3:W.cell? ⟨w.heap.size+1,3,none⟩=some (.int .u64 (a:Int)):=cell_row hr1
  have d4:W.cell? ⟨w.heap.size+1,4,none⟩=some (.int .u8 (o:Int)):=cell_row hr1
  have HA:Hid (Tch _ w W):=hA
  have HW:Hid (W=_):=hW
  clear hA hr0 hr1 hW
  go_enter Tryz.func342,Tryz.ntmps342
  go_upto_region 1 with fail
  rw [<-HW.out]
  go_wp2_with fail
  go_region_with (first
   | (go_at_call 307;refine (leafNode_any _ _ _ _).mono ?_;rintro _ w1 ⟨rfl,ht1⟩;have HT1:Hid (Tch (λ_=>False) W w1):=(Tch.drewN (λ_=>False) W 1).go ht1;have c1:=HC.out _ HT1.out;clear ht1)
   | (go_at_call 154;refine (HTX.out _ (HA.out.go HT1.out)).mono ?_;rintro _ w2 ⟨ht2,rfl⟩;have HT2:Hid (Tch (λ_=>False) w w2):=(HA.out.go HT1.out).go ht2;clear ht2))
  all_goals
   go_wp2
   go_ret2
   exact ⟨rfl,HT2.out⟩
set_option maxRecDepth 100000 in
set_option maxHeartbeats 1000000 in
theorem above_ok (E:Nat->Addr) (width:Nat) (hw1:1<=width) (hw:width<=32) (state kb txt:ByteArray) (htx:txt.size<=1000) (s:Stp) (hs:StpOk width s) (key:Key) (hk:key.length=width+1) (w:World) (hE:Env E w):
  Calls Tryz.prog 343 #[qV width state kb,.string txt,.agg #[.int .i64 (s.1:Int),.string s.2],.string ⟨key.toArray⟩] w λe w'=>e=.returned (.tuple #[.string ⟨(78 :: (beL s.1 2 2++(if bt key s.1=0 then (dgW width txt.data.toList).data.toList++s.2.data.toList else s.2.data.toList++(dgW width txt.data.toList).data.toList))).toArray⟩,.nilIface])/\Tch (λ_=>False) w w':=by
 obtain ⟨b,oth⟩:=s
 obtain ⟨hb,ho⟩:=hs
 dsimp only at hb ho ⊢
 have HB:Hid (∀W,Calls Tryz.prog 288 #[.string ⟨key.toArray⟩,.int .i64 (b:Int)] W λe w'=>e=.returned (.int .i64 (bt key b:Int))/\w'=W):=λW=>keyBit_any key b (by omega) (by omega) W
 have HOF:Hid (∀W,Tch (λ_=>False) w W->Calls Tryz.prog 130 #[.int .i64 (width:Int),.string txt] W λe w'=>e=.returned (.string (dgW width txt.data.toList))/\Tch (λ_=>False) W w'):=λW hT=>of_env E width txt W (hE.tch hT noE) hw1 hw (by omega)
 have hds:(dgW width txt.data.toList).size=width:=dgW_size width hw _
 generalize dgW width txt.data.toList=dg at *
 have HTX:Hid (∀(x y:ByteArray),x.size=width->y.size=width->∀W,Tch (λ_=>False) w W->Calls Tryz.prog 154 #[.agg #[.string ⟨#[78]⟩,.string ⟨#[]⟩,.int .u64 0,.int .u8 0,.int .i64 (b:Int),.string x,.string y],.int .i64 (width:Int)] W λe w'=>Tch (λ_=>False) W w'/\e=.returned (.tuple #[.string ⟨(78 :: (beL b 2 2++(x.data.toList++y.data.toList))).toArray⟩,.nilIface])):=λx y hx hy W hT=>by
  have:=nodeText_any E width (by omega) (⟨#[78]⟩,⟨#[]⟩,(0,0),(b:Int),x,y) (show (0:Nat)<256 by decide) W (hE.tch hT noE)
  rw [br_text width b x y (by omega) hb hx hy] at this
  exact this
 have hb2:=bt_two key b
 have hif:(if bt key b=0 then dg.data.toList++oth.data.toList else oth.data.toList++dg.data.toList)=(if bt key b=0 then dg else oth).data.toList++(if bt key b=0 then oth else dg).data.toList:=by split <;> rfl
 rw [hif]
 obtain ⟨x,hx⟩:∃x,x=(if bt key b=0 then dg else oth):=⟨_,rfl⟩
 obtain ⟨y,hy⟩:∃y,y=(if bt key b=0 then oth else dg):=⟨_,rfl⟩
 rw [<-hx,<-hy]
 have hxs:x.size=width:=by rw [hx];split <;> assumption
 have hys:y.size=width:=by rw [hy];split <;> assumption
 have HT:=HTX.out x y hxs hys
 have HTT:Hid (∀W,Tch (λ_=>False) w W->Calls _ _ _ W _):=HT
 generalize (⟨(78 :: (beL b 2 2++(x.data.toList++y.data.toList))).toArray⟩:ByteArray)=res at *
 generalize (⟨key.toArray⟩:ByteArray)=kk at *
 generalize bt key b=bb at *
 clear hE hds ho hb hif hxs hys HT HTX htx
 obtain ⟨W,hW⟩:∃W,W=((w.alloc (.cells #[.int .i64 (width:Int),.string state,.string kb] 248)).alloc (.cells #[.int .i64 (b:Int),.string oth] 366)).alloc (.cells #[.string oth,.string oth] 277):=⟨_,rfl⟩
 have hA:Tch (λ_=>False) w W:=by rw [hW];exact Tch.allocs3 _ _ _ _ _
 have hr0:W.heap[w.heap.size]? =some (.cells #[.int .i64 (width:Int),.string state,.string kb] 248):=by rw [hW];exact heap_alloc3_0 _ _ _ _
 have hr1:W.heap[w.heap.size+1]? =some (.cells #[.int .i64 (b:Int),.string oth] 366):=by rw [hW];exact heap_alloc3_1 _ _ _ _
 have hr2:W.heap[w.heap.size+1+1]? =some (.cells #[.string oth,.string oth] 277):=by rw [hW];exact heap_alloc3_2 _ _ _ _
 have HRR:Hid (∀V,Tch (λ_=>False) W V->V.heap[w.heap.size]? =some (.cells #[.int .i64 (width:Int),.string state,.string kb] 248)/\V.heap[w.heap.size+1]? =some (.cells #[.int .i64 (b:Int),.string oth] 366)/\V.heap[w.heap.size+1+1]? =some (.cells #[.string oth,.string oth] 277)):=λV hT=>⟨(hT.block _ (row_lt hr0) (λh=>h)).trans hr0,(hT.block _ (row_lt hr1) (λh=>h)).trans hr1,(hT.block _ (row_lt hr2) (λh=>h)).trans hr2⟩
 have HC:Hid (∀V,Tch (λ_=>False) W V->V.cell? ⟨w.heap.size,0,none⟩=some (.int .i64 (width:Int))/\V.cell? ⟨w.heap.size+1,0,none⟩=some (.int .i64 (b:Int))/\V.cell? ⟨w.heap.size+1+1,0,none⟩=some (.string oth)/\V.cell? ⟨w.heap.size+1+1,1,none⟩=some (.string oth)/\(∀j,V.frozen? ⟨w.heap.size+1+1,j,none⟩=false)):=λV hT=>by
  obtain ⟨q0,q1,q2⟩:=HRR.out V hT
  exact ⟨cell_row q0,cell_row q1,cell_row q2,cell_row q2,λj=>frozen_of_row _ _ _ _ _ q2⟩
 have hwz:W.heap.size=w.heap.size+3:=by rw [hW];simp
 have HWZ:Hid (W.heap.size=w.heap.size+3):=hwz
 have HA:Hid (Tch _ w W):=hA
 have HW:Hid (W=_):=hW
 have HX:Hid (x=(if bb=0 then dg else oth)):=hx
 have HY:Hid (y=(if bb=0 then oth else dg)):=hy
 clear hA hr0 hr1 hr2 hW hwz hx hy
 obtain ⟨a0,a1,a2,a3,a4⟩:=HC.out W (Tch.refl _ _)
 go_enter Tryz.func343,Tryz.ntmps343
 go_upto_region 2 with fail
 rw [<-HW.out]
 go_cut [] (λwx=>∃V,wx=V.setRow (w.heap.size+1+1) #[.string x,.string y]/\Hid (Tch (λ_=>False) W V))
 case first=>
  obtain rfl | rfl:bb=0\/bb=1:=by omega
  ·go_region_with (first
    | (go_at_call 288;refine (HB.out _).mono ?_;rintro _ _ ⟨rfl,rfl⟩)
    | (go_at_call 130;refine (HOF.out _ (HA.out.go (Tch.drewN _ _ 1))).mono ?_;rintro _ w2 ⟨rfl,ht2⟩;have HT2:Hid (Tch (λ_=>False) W w2):=(Tch.drewN (λ_=>False) W 1).go ht2;obtain ⟨b0,b1,b2,b3,b4⟩:=HC.out _ HT2.out;clear ht2))
   all_goals go_wp2
   all_goals go_meet
   all_goals exact ⟨w2,(setCell_eq_setRow w2 _ 0 _ _ (0,0) _ (HRR.out w2 HT2.out).2.2).trans (by rw [HX.out,HY.out];rfl),HT2⟩
  ·go_region_with (first
    | (go_at_call 288;refine (HB.out _).mono ?_;rintro _ _ ⟨rfl,rfl⟩)
    | (go_at_call 130;refine (HOF.out _ (HA.out.go (Tch.drewN _ _ 1))).mono ?_;rintro _ w2 ⟨rfl,ht2⟩;have HT2:Hid (Tch (λ_=>False) W w2):=(Tch.drewN (λ_=>False) W 1).go ht2;obtain ⟨b0,b1,b2,b3,b4⟩:=HC.out _ HT2.out;clear ht2))
   all_goals go_wp2
   all_goals go_meet
   all_goals exact ⟨w2,(setCell_eq_setRow w2 _ 1 _ _ (0,0) _ (HRR.out w2 HT2.out).2.2).trans (by rw [HX.out,HY.out];rfl),HT2⟩
 case rest=>
 obtain ⟨V,hV,HTV⟩:=hcut
 obtain ⟨wA,hwA⟩:∃wA,wA=wc:=⟨wc,rfl⟩
 subst hwA
 have tA:Tch (λ_=>False) w wA:=by rw [hV];exact (HA.out.go HTV.out).trans (Tch.setRow _ _ _) (λj hj=>.inr (by omega))
 obtain ⟨q0,q1,q2⟩:=HRR.out V HTV.out
 have p0:wA.heap[w.heap.size]? =some (.cells #[.int .i64 (width:Int),.string state,.string kb] 248):=by rw [hV];exact (setRow_other _ _ _ _ (by omega)).trans q0
 have p1:wA.heap[w.heap.size+1]? =some (.cells #[.int .i64 (b:Int),.string oth] 366):=by rw [hV];exact (setRow_other _ _ _ _ (by omega)).trans q1
 have p2:wA.heap[w.heap.size+1+1]? =some (.cells #[.string x,.string y] 277):=by rw [hV];exact setRow_heap _ _ _ _ _ _ q2
 have HCA:Hid (∀U,Tch (λ_=>False) wA U->U.cell? ⟨w.heap.size,0,none⟩=some (.int .i64 (width:Int))/\U.cell? ⟨w.heap.size+1,0,none⟩=some (.int .i64 (b:Int))/\U.cell? ⟨w.heap.size+1+1,0,none⟩=some (.string x)/\U.cell? ⟨w.heap.size+1+1,1,none⟩=some (.string y)):=λU hT=>⟨cell_row ((hT.block _ (row_lt p0) (λh=>h)).trans p0),cell_row ((hT.block _ (row_lt p1) (λh=>h)).trans p1),cell_row ((hT.block _ (row_lt p2) (λh=>h)).trans p2),cell_row ((hT.block _ (row_lt p2) (λh=>h)).trans p2)⟩
 obtain ⟨c0,c1,c2,c3⟩:=HCA.out wA (Tch.refl _ _)
 have HTA:Hid (Tch (λ_=>False) w wA):=tA
 clear tA q0 q1 q2 p0 p1 p2 hV HTV HC HRR HB HOF HX HY a0 a1 a2 a3 a4 HA HW hb2
 go_upto_region 3 with fail
 go_region_held3 (λU=>U.cell? ⟨w.heap.size,0,none⟩=some (.int .i64 (width:Int))/\U.cell? ⟨w.heap.size+1,0,none⟩=some (.int .i64 (b:Int))/\U.cell? ⟨w.heap.size+1+1,0,none⟩=some (.string x)/\U.cell? ⟨w.heap.size+1+1,1,none⟩=some (.string y)) (go_keep) ((first
  | (go_at_call 309;refine (branchNode_any _ _ _ _).mono ?_;rintro _ w3 ⟨rfl,ht3⟩;have HT3:Hid (Tch (λ_=>False) wA w3):=(Tch.drewN (λ_=>False) wA 1).go ht3;obtain ⟨e0,e1,e2,e3⟩:=HCA.out _ HT3.out;clear ht3)
  | (go_at_call 154;refine (HTT.out _ (HTA.out.go HT3.out)).mono ?_;rintro _ w4 ⟨ht4,rfl⟩;have HT4:Hid (Tch (λ_=>False) w w4):=(HTA.out.go HT3.out).go ht4;obtain ⟨g0,g1,g2,g3⟩:=HCA.out _ (HT3.out.go ht4);clear ht4)))
 all_goals
  go_wp2
  go_ret2
  exact ⟨rfl,HT4.out⟩
end Go.Proofs.YtighkdnooglfjaaGreatDoor
