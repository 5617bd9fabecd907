/-
  trovekeep.shown.
  trovekeep.does but for Prune; the keeper's statement Shown, over what makes ledgers.
-/
import Derived.Test.YtighkdnooglfjaaGreatDoorSwLdQ
import Derived.Test.YtighkdnooglfjaaGreatDoorSwKPay
import Derived.Deep.RegionHeld3
namespace Go.Proofs.YtighkdnooglfjaaGreatDoor
open Go.RowKit

theorem str_inj {a b:List UInt8} (h:(⟨a.toArray⟩:ByteArray)=⟨b.toArray⟩):a=b:=by
 have:=congrArg (λx:ByteArray=>x.data.toList) h
 simpa using this
theorem said_if (wy:Wy) (k:Key):(if wy.2.isSome=true/\wyK wy=⟨k.toArray⟩ then some (wyO wy) else none)=wy.said k:=by
 obtain ⟨l,e⟩:=wy
 cases e with
 | none=>simp [Wy.said]
 | some x=>
  obtain ⟨k',o⟩:=x
  unfold Wy.said wyK wyO
  dsimp only
  by_cases h:k'=k
  ·rw [if_pos ⟨rfl,by rw [h]⟩,if_pos h]
  ·rw [if_neg (λe=>h (str_inj e.2)),if_neg h]
theorem stWay_bits (d:List UInt8->ByteArray) (k:Key) (st:Option Tr) (hw:∀t,st=some t->t.Wf):∀s∈(stWay d k st).1,bt k s.1=bt (wyKey (stWay d k st)) s.1:=by
 cases st with
 | none=>intro s hs;cases hs
 | some t=>
  intro s hs
  have:=Tr.way_bits d k t (hw t rfl) s hs
  show bt k s.1=bt (t.way d k).2.1 s.1
  rw [Tr.way_near,this]
theorem stWay_root (d:List UInt8->ByteArray) (k:Key) (st:Option Tr) (hw:∀t,st=some t->t.Wf):d (((stWay d k st).nodes d).headD [])=stDig d st:=by
 cases st with
 | none=>rfl
 | some t=>
  have h1:=Tr.way_root d k t (hw t rfl) (wyKey (stWay d k (some t))) (λs hs=>(stWay_bits d k (some t) hw s hs).symm)
  have h2:((stWay d k (some t)).nodes d).headD []=t.text d:=h1
  rw [h2,stDig_text]
  rfl
set_option maxRecDepth 100000 in
set_option maxHeartbeats 4000000 in
theorem k_shown {E:Nat->Addr} {width base:Nat} (L:Led E width base) (Q:LedQ L) (hw1:1<=width) (hw:width<=32) (xb lb:Nat) (F:Nat->Prop) (fl:Nat) (ch:Ch) (vst:Value) (sl:List Sl) (states:List (List Held)) (n:Nat) (hn:n<states.length) (hf:fl<=n) (co:ByteArray×Int) (hco:CoinOk width co) (w:World) (hF:Found E base w) (hS:ShopAt L w xb lb F fl ch vst sl states) (hlen:states.length<=1000000000) (hll:∀l∈states,l.length<1000000000):
  Calls Tryz.prog 21 #[.pointer (some ⟨xb,0,none⟩),.int .i64 (n:Int),.agg #[.string co.1,.int .i64 co.2]] w λe w'=>e=.returned (.bool true)/\Tch (λ_=>False) w w':=by
 have hsl:sl.length=states.length:=hS.len.1
 have hcl:ch.length=states.length:=hS.len.2.1
 obtain ⟨g,cap,hv,hcells⟩:=hS.st.at (λe=>by rw [e] at hsl;simp at hsl;omega)
 subst hv
 have hcn:ch[n]? =some ch[n]:=List.getElem?_eq_getElem (by omega)
 obtain ⟨c',hc'⟩:∃c',c'=ch[n]:=⟨_,rfl⟩
 rw [<-hc'] at hcn
 obtain ⟨l,hl⟩:∃l,l=states[n]:=⟨_,rfl⟩
 have hsn:states[n]? =some l:=by rw [hl];exact List.getElem?_eq_getElem hn
 have B:=hS.book n c' l hf hcn hsn
 have hst:=Q.oks hS.led n c' hcn hf
 have hwo:∀t,c'.2=some t->t.Wf/\TrOk width t:=λt ht=>⟨B.wf t ht,by rw [ht] at hst;exact hst⟩
 obtain ⟨hd,hd1,hd2,hd3⟩:=Q.hdrs hS.led c' (List.mem_of_getElem? hcn)
 obtain ⟨wy,hwy⟩:∃wy,wy=stWay (dgW width) (coinB co) c'.2:=⟨_,rfl⟩
 have hok:WyOk width wy:=by rw [hwy];exact stWay_ok (dgW width) width (dgW_size width hw) (coinB co) c'.2 hwo
 have hbits:∀s∈wy.1,bt (coinB co) s.1=bt (wyKey wy) s.1:=by rw [hwy];exact stWay_bits (dgW width) (coinB co) c'.2 B.wf
 have hroot:dgW width ((wy.nodes (dgW width)).headD [])=hd.2.2.2:=by rw [hd3,hwy];exact stWay_root (dgW width) (coinB co) c'.2 B.wf
 have hsaid:(if wy.2.isSome=true/\wyK wy=⟨(coinB co).toArray⟩ then some (wyO wy) else none)=(findL l co).map λk=>(l.getD k ((⟨#[]⟩,0),(0,0))).2:=by rw [said_if,hwy];exact stWay_said (dgW width) width c'.2 l B co hco
 have hwl:=wayB_len hok
 have hhdr:hdrAt ch (n:Int)=⟨(hdrB hd).toArray⟩:=by
  unfold hdrAt
  rw [if_pos (by omega),Int.toNat_natCast,List.getD_eq_getElem?_getD,hcn]
  exact hd1
 have HQ:Hid (∀V,Tch (λ_=>False) w V->Calls Tryz.prog 24 #[.pointer (some ⟨lb,0,none⟩),.int .i64 (n:Int),.agg #[.string co.1,.int .i64 co.2]] V λe w'=>e=.returned (.tuple #[.string ⟨(wayB wy).toArray⟩,.int .i64 0])/\Tch (λ_=>False) V w'):=λV hT=>by rw [hwy];exact Q.qin n c' co (L.keep hS.led hT (λ_ e=>e.elim)) (hF.tch hT (λ_ e=>e.elim)) hcn hf hwo hco
 have HH:Hid (∀V,Tch (λ_=>False) w V->Calls Tryz.prog 16 #[.pointer (some ⟨lb,0,none⟩),.int .i64 (n:Int)] V λe w'=>e=.returned (.tuple #[.string ⟨(hdrB hd).toArray⟩,.int .i64 0])/\Tch (λ_=>False) V w'):=λV hT=>by
  have:=L.header (n:Int) (L.keep hS.led hT (λ_ e=>e.elim)) (hF.tch hT (λ_ e=>e.elim)) (by omega) (by omega)
  rw [hhdr,if_pos (by omega)] at this
  exact this
 have HVF:Hid (∀V,Tch (λ_=>False) w V->Calls Tryz.prog 47 #[.int .i64 (width:Int),.string ⟨(hdrB hd).toArray⟩,.agg #[.string co.1,.int .i64 co.2],.string ⟨(wayB wy).toArray⟩] V λe w'=>Tch (λ_=>False) V w'/\∃(x:Int) (y z:Nat),saidV ((findL l co).map λk=>(l.getD k ((⟨#[]⟩,0),(0,0))).2)=.agg #[.int .i64 x,.int .u64 (y:Int),.int .u8 (z:Int)]/\e=.returned (.tuple #[.int .i64 x,.agg #[.int .u64 (y:Int),.int .u8 (z:Int)]])):=λV hT=>by
  rw [<-hsaid]
  exact fVerify_ok width _ _ co _ (λW hT2=>verify_ok E width hw1 hw hd hd2 co hco wy hok hbits hroot W (hF.tch (hT.go hT2) (λ_ e=>e.elim)).env)
 have hsli:n<sl.length:=by omega
 have hheld:=hS.held n sl[n] l (List.getElem?_eq_getElem hsli) hsn
 have hcn':=hcells n hsli
 generalize sl[n]=x at *
 obtain ⟨xa,xn,xc⟩:=x
 dsimp only at hheld hcn'
 have hxn:xn=l.length:=by
  rcases hheld.1 with ⟨e,rfl⟩ | ⟨_,_,_,e,_⟩
  ·cases e;rfl
  ·cases e;rfl
 have HFD:Hid (∀V,Tch (λ_=>False) w V->Calls Tryz.prog 48 #[.slice xa xn xc,.agg #[.string co.1,.int .i64 co.2]] V λe w'=>e=.returned (.int .i64 (foundZ l co))/\Tch (λ_=>False) V w'):=λV hT=>k_find (.slice xa xn xc) l co V (hheld.1.tch hT) (hll l (by rw [hl];exact List.getElem_mem hn))
 have HLIM:Hid ((wayB wy).length<=2+8 * (width+1) * (2+width)+width+10):=hwl
 have hsz:(⟨(wayB wy).toArray⟩:ByteArray).size=(wayB wy).length:=by rw [str_size]
 have HSZ:Hid ((⟨(wayB wy).toArray⟩:ByteArray).size=(wayB wy).length):=hsz
 clear hok hbits hroot hsaid hwl hhdr hd1 hd2 hd3 hwo hst B hwy hc' hcn hF Q hsz hco
 generalize (⟨(hdrB hd).toArray⟩:ByteArray)=hdr at *
 generalize (⟨(wayB wy).toArray⟩:ByteArray)=pf at *
 generalize (wayB wy).length=pl at *
 obtain ⟨cs,cN⟩:=co
 dsimp only at HQ HVF HFD ⊢
 obtain ⟨W,hW⟩:∃W,W=w.alloc (.cells #[.string cs,.int .i64 cN] 49):=⟨_,rfl⟩
 have tA:Tch (λ_=>False) w W:=by rw [hW];exact Tch.alloc _ _ _
 have hrow:W.heap[w.heap.size]? =some (.cells #[.string cs,.int .i64 cN] 49):=by rw [hW];exact heap_alloc_new _ _
 have HC:Hid (∀V,Tch (λ_=>False) W V->(V.cell? ⟨xb,0,none⟩=some (.pointer (some ⟨lb,0,none⟩))/\V.cell? ⟨xb,1,none⟩=some (.int .i64 (width:Int))/\V.cell? ⟨xb,2,none⟩=some (.slice (some ⟨g,0,none⟩) sl.length cap))/\(V.cell? ⟨w.heap.size,0,none⟩=some (.string cs)/\V.cell? ⟨w.heap.size,1,none⟩=some (.int .i64 cN))/\V.cell? ⟨g,n,none⟩=some (.slice xa xn xc)):=λV hT=>by
  have h1:=(hS.next (tA.go hT)).row
  have h2:=(hT.block _ (row_lt hrow) (λh=>h)).trans hrow
  exact ⟨⟨cell_row h1,cell_row h1,cell_row h1⟩,⟨cell_row h2,cell_row h2⟩,((tA.go hT).cell (World.block_lt_of_cell? _ _ hcn') (λh=>h)).trans hcn'⟩
 have HHD:Hid (∀V,Tch (λ_=>False) W V->HeldAt V (.slice xa xn xc) l):=λV hT=>hheld.1.tch (tA.go hT)
 have HTA:Hid (Tch (λ_=>False) w W):=tA
 have HW:Hid (W=_):=hW
 have HXN:Hid (xn=l.length):=hxn
 have hn0:(n:Int)<(sl.length:Int):=by omega
 have hnn:(0:Int)<=(n:Int):=by omega
 have hslb:sl.length<=1000000000:=by omega
 have hxnb:xn<=1000000000:=by rw [hxn];exact Nat.le_of_lt (hll l (by rw [hl];exact List.getElem_mem hn))
 clear hS hrow hcells hheld hcn' hW tA hl hsn hsl hcl hf hn hll hlen hsli hxn
 generalize sl.length=sn at *
 obtain ⟨⟨a0,a1,a2⟩,⟨a3,a4⟩,a5⟩:=HC.out W (Tch.refl _ _)
 go_enter Tryz.func21,Tryz.ntmps21
 go_upto_region 1 with fail
 rw [<-HW.out]
 go_cut [7,8] (λv7 v8 wx=>v7=.string pf/\v8=.int .i64 0/\Hid (Tch (λ_=>False) W wx))
 case first=>
  go_region_with (go_at_call 24;refine (HQ.out _ (HTA.out.go (Tch.drewN _ W 1))).mono ?_;rintro _ w1 ⟨rfl,ht1⟩;have HT1:Hid (Tch (λ_=>False) W w1):=(Tch.drewN (λ_=>False) W 1).go ht1;clear ht1)
  all_goals
   go_wp2
   go_meet
   exact ⟨rfl,rfl,HT1⟩
 case rest=>
 obtain ⟨rfl,rfl,HT1⟩:=hcut
 obtain ⟨w1,hw1'⟩:∃w1,w1=wc:=⟨wc,rfl⟩
 subst hw1'
 clear a0 a1 a2 a3 a4 a5 HQ HW
 obtain ⟨⟨a0,a1,a2⟩,⟨a3,a4⟩,a5⟩:=HC.out w1 HT1.out
 go_wp2_with fail
 refine (HH.out w1 (HTA.out.go HT1.out)).mono ?_
 rintro _ w2 ⟨rfl,ht2⟩
 have HT2:Hid (Tch (λ_=>False) W w2):=HT1.out.go ht2
 clear a0 a1 a2 a3 a4 a5 HH ht2 HT1
 obtain ⟨⟨a0,a1,a2⟩,⟨a3,a4⟩,a5⟩:=HC.out w2 HT2.out
 have hlt2:w.heap.size<w2.heap.size:=World.block_lt_of_cell? _ _ a3
 have hne1:¬w.heap.size=w2.heap.size:=by omega
 have hne2:¬w2.heap.size=w.heap.size:=by omega
 have hlt3:xb<w2.heap.size:=World.block_lt_of_cell? _ _ a1
 have hne3:¬xb=w2.heap.size:=by omega
 have hne4:¬w2.heap.size=xb:=by omega
 go_upto_region 3 with fail
 go_cut [11,12] (λv11 v12 wx=>∃(x:Int) (y z:Nat) (ob:Nat),v11=.int .i64 x/\v12=.pointer (some ⟨ob,0,none⟩)/\Hid (saidV ((findL l (cs,cN)).map λk=>(l.getD k ((⟨#[]⟩,0),(0,0))).2)=.agg #[.int .i64 x,.int .u64 (y:Int),.int .u8 (z:Int)])/\Hid (wx.heap[ob]? =some (.cells #[.int .u64 (y:Int),.int .u8 (z:Int)] 80))/\Hid (Tch (λ_=>False) W wx))
 case first=>
  go_region_with (go_at_call 47;first
   | (refine (HVF.out _ (HTA.out.go (HT2.out.go (Tch.drewN _ w2 1)))).mono ?_;rintro _ w3 ⟨ht3,x,y,z,hsv,rfl⟩;have HT3:Hid (Tch (λ_=>False) W w3):=(HT2.out.go (Tch.drewN (λ_=>False) w2 1)).go ht3;have HSV:Hid (saidV _=_):=hsv;clear ht3 hsv)
   | (refine (HVF.out _ (HTA.out.go (HT2.out.go (Tch.box w2 _)))).mono ?_;rintro _ w3 ⟨ht3,x,y,z,hsv,rfl⟩;have HT3:Hid (Tch (λ_=>False) W w3):=(HT2.out.go (Tch.box w2 _)).go ht3;have HSV:Hid (saidV _=_):=hsv;have hB:w3.heap[w2.heap.size]? =some (.cells #[.int .u64 0,.int .u8 0] 80):=(ht3.block w2.heap.size (by simp [World.drew]) (λh=>h)).trans (heap_alloc_new w2 _);have g0:w3.cell? ⟨w2.heap.size,0,none⟩=some (.int .u64 0):=cell_row hB;have g1:w3.cell? ⟨w2.heap.size,1,none⟩=some (.int .u8 0):=cell_row hB;have gF:∀j,w3.frozen? ⟨w2.heap.size,j,none⟩=false:=λj=>frozen_of_row _ _ _ _ _ hB;have HB:Hid (w3.heap[w2.heap.size]? =_):=hB;clear ht3 hsv hB))
  all_goals
   go_wp2
   go_meet
  all_goals first
   | exact ⟨x,y,z,w3.heap.size,rfl,rfl,HSV.out,heap_alloc_new _ _,HT3.out.go (Tch.alloc _ _ _)⟩
   | exact ⟨x,y,z,w2.heap.size,rfl,rfl,HSV.out,(by rw [set2 _ _ _ _ _ _ _ HB.out];exact setRow_heap _ _ _ _ _ _ HB.out),(by rw [set2 _ _ _ _ _ _ _ HB.out];exact HT3.out.trans (Tch.setRow _ _ _) (λj hj=>.inr (by rw [hj];exact HT2.out.size)))⟩
 case rest=>
 obtain ⟨x,y,z,ob,rfl,rfl,HSV,HOB,HT3⟩:=hcut
 obtain ⟨w3,hw3'⟩:∃w3,w3=wc:=⟨wc,rfl⟩
 subst hw3'
 have HOC:Hid (∀V,Tch (λ_=>False) w3 V->V.cell? ⟨ob,0,none⟩=some (.int .u64 (y:Int))/\V.cell? ⟨ob,1,none⟩=some (.int .u8 (z:Int))):=λV hT=>by
  have:=(hT.block _ (row_lt HOB.out) (λh=>h)).trans HOB.out
  exact ⟨cell_row this,cell_row this⟩
 clear a0 a1 a2 a3 a4 a5 HVF HOB HT2 hlt2 hne1 hne2 hlt3 hne3 hne4
 obtain ⟨⟨a0,a1,a2⟩,⟨a3,a4⟩,a5⟩:=HC.out w3 HT3.out
 go_upto_region 4 with fail
 go_cut [13] (λvk wx=>vk=.int .i64 (foundZ l (cs,cN))/\Hid (Tch (λ_=>False) w3 wx))
 case first=>
  go_region_with (go_at_call 48;refine (HFD.out _ (HTA.out.go (HT3.out.go (Tch.drewN _ w3 1)))).mono ?_;rintro _ w4 ⟨rfl,ht4⟩;have HT4:Hid (Tch (λ_=>False) w3 w4):=(Tch.drewN (λ_=>False) w3 1).go ht4;clear ht4)
  all_goals
   go_wp2
   go_meet
   exact ⟨rfl,HT4⟩
 case rest=>
 obtain ⟨rfl,HT4⟩:=hcut
 obtain ⟨w4,hw4'⟩:∃w4,w4=wc:=⟨wc,rfl⟩
 subst hw4'
 have HTB:Hid (Tch (λ_=>False) w w4):=HTA.out.go (HT3.out.go HT4.out)
 obtain ⟨o0,o1⟩:=HOC.out w4 HT4.out
 clear a0 a1 a2 a3 a4 a5 HFD
 obtain ⟨⟨a0,a1,a2⟩,⟨a3,a4⟩,a5⟩:=HC.out w4 (HT3.out.go HT4.out)
 have hh4:=HHD.out w4 (HT3.out.go HT4.out)
 have HH4:Hid (HeldAt w4 (.slice xa xn xc) l):=hh4
 have hpl:(pf.size:Int)<=2+8 * ((width:Int)+1) * (2+(width:Int))+(width:Int)+10:=by
  have:=HLIM.out
  rw [HSZ.out]
  exact_mod_cast this
 obtain ⟨M,hM⟩:∃M:Int,8 * ((width:Int)+1) * (2+(width:Int))=M:=⟨_,rfl⟩
 have hM0:0<=M:=by rw [<-hM];exact Int.mul_nonneg (by omega) (by omega)
 have hM1:M<=8976:=by
  have:8 * (width+1) * (2+width)<=264 * 34:=Nat.mul_le_mul (by omega) (by omega)
  rw [<-hM]
  exact_mod_cast this
 rw [hM] at hpl
 have hlt:¬(2+M+(width:Int)+10<(pf.size:Int)):=by omega
 have q1:wrap64 M=M:=by simp only [wrap64];omega
 have q2:wrap64 (2+M)=2+M:=by simp only [wrap64];omega
 have q3:wrap64 (2+M+(width:Int))=2+M+(width:Int):=by simp only [wrap64];omega
 have q4:wrap64 (2+M+(width:Int)+10)=2+M+(width:Int)+10:=by simp only [wrap64];omega
 have hdf:decide (2+M+(width:Int)+10<(pf.size:Int))=false:=by simp only [decide_eq_false_iff_not];exact hlt
 have hsv:=HSV.out
 clear HC HHD HOC HT3 HT4 HTA hh4 hpl HSV
 cases hfd:findL l (cs,cN) with
 | none=>
  have hfz:foundZ l (cs,cN)= -1:=by unfold foundZ;rw [hfd]
  rw [hfd] at hsv
  simp only [Option.map_none,saidV,Value.agg.injEq,Array.mk.injEq,List.cons.injEq,Value.int.injEq,true_and,and_true] at hsv
  obtain ⟨rfl,hy,hz⟩:=hsv
  obtain rfl:y=0:=by omega
  obtain rfl:z=0:=by omega
  rw [hfz]
  clear hfz hfd hy hz HH4
  go_upto_region 5 with fail
  go_quiet (fail)
  go_wp2
  go_ret
  exact ⟨rfl,HTB.out.go (Tch.drewN _ _ _)⟩
 | some k=>
  have hfz:foundZ l (cs,cN)=(k:Int):=by unfold foundZ;rw [hfd]
  obtain ⟨hkl,hke⟩:=findL_some hfd
  clear hke
  rw [hfd] at hsv
  simp only [Option.map_some,saidV,Value.agg.injEq,Array.mk.injEq,List.cons.injEq,Value.int.injEq,true_and,and_true] at hsv
  obtain ⟨rfl,hy,hz⟩:=hsv
  have hgd:l.getD k ((⟨#[]⟩,0),(0,0))=l[k]:=by rw [List.getD_eq_getElem?_getD,List.getElem?_eq_getElem hkl];rfl
  rw [hgd] at hy hz
  obtain rfl:l[k].2.1=y:=by omega
  obtain rfl:l[k].2.2=z:=by omega
  rcases HH4.out with ⟨e,e2⟩ | ⟨gi,oi,cc,e,hgl,hcell⟩
  ·rw [e2] at hkl;simp at hkl
  ·simp only [Value.slice.injEq] at e
   obtain ⟨rfl,hq,rfl⟩:=e
   obtain ⟨d0,d1,d2,d3⟩:=hcell k hkl
   clear d0 d1
   generalize l[k].2.1=y at *
   generalize l[k].2.2=z at *
   have hk1:(k:Int)<(xn:Int):=by omega
   have hk0:(0:Int)<=(k:Int):=by omega
   have hkn:¬(k:Int)<0:=by omega
   rw [hfz]
   clear hfz hfd hy hz HH4 hcell hq hgl hgd hkl
   go_upto_region 5 with fail
   go_quiet (fail)
   go_upto_region 9 with fail
   go_quiet (fail)
   go_wp2
   go_ret
   exact ⟨rfl,HTB.out.go (Tch.drewN _ _ _)⟩
end Go.Proofs.YtighkdnooglfjaaGreatDoor
namespace Go.Proofs.YtighkdnooglfjaaGreatDoor
open Go.RowKit

set_option maxRecDepth 100000 in
set_option maxHeartbeats 1000000 in
theorem k_does1 {w:World} (xb:Nat) (a b:Int) (p0:Option Addr) (pn p1:Nat) (R:World->World->Prop) (hP:∀W,Tch (λ_=>False) w W->Calls Tryz.prog 17 #[.pointer (some ⟨xb,0,none⟩),.slice p0 pn p1] W λe w'=>e=.returned (.bool true)/\R W w'):
  Calls Tryz.prog 20 #[.pointer (some ⟨xb,0,none⟩),.agg #[.int .i64 1,.int .i64 a,.int .i64 b,.slice p0 pn p1]] w λe w'=>e=.returned (.bool true)/\∃W,Tch (λ_=>False) w W/\R W w':=by
 have HP:Hid (∀W,Tch (λ_=>False) w W->_):=hP
 clear hP
 go_enter Tryz.func20,Tryz.ntmps20
 go_wp2_with fail
 refine (HP.out _ (Tch.alloc _ _ _)).mono ?_
 rintro _ w1 ⟨rfl,hR⟩
 have HR:Hid (R _ w1):=hR
 clear hR HP
 go_wp2
 go_ret
 exact ⟨rfl,_,Tch.alloc _ _ _,HR.out⟩
set_option maxRecDepth 100000 in
set_option maxHeartbeats 1000000 in
theorem k_does0 {w:World} (xb:Nat) (kd a b:Int) (p0:Option Addr) (pn p1:Nat) (h1:¬kd=1) (h2:¬kd=2):
  Calls Tryz.prog 20 #[.pointer (some ⟨xb,0,none⟩),.agg #[.int .i64 kd,.int .i64 a,.int .i64 b,.slice p0 pn p1]] w λe w'=>e=.returned (.bool true)/\Tch (λ_=>False) w w':=by
 go_enter Tryz.func20,Tryz.ntmps20
 go_wp2
 go_ret
 exact ⟨rfl,Tch.alloc _ _ _⟩
theorem ShopAt.coins {E:Nat->Addr} {width base:Nat} {L:Led E width base} {w:World} {xb lb:Nat} {F:Nat->Prop} {ch:Ch} {vst:Value} {sl:List Sl} {states:List (List Held)} (h:ShopAt L w xb lb F 0 ch vst sl states):∀l∈states,∀x∈l,CoinOk width x.1:=λl hl x hx=>by
 obtain ⟨i,hi,rfl⟩:=List.getElem_of_mem hl
 have hc:i<ch.length:=by have:=h.len;omega
 exact ((h.book i ch[i] states[i] (Nat.zero_le _) (List.getElem?_eq_getElem hc) (List.getElem?_eq_getElem hi)).ok x hx).1
theorem ShopAt.len2 {E:Nat->Addr} {width base:Nat} {L:Led E width base} {w:World} {xb lb:Nat} {F:Nat->Prop} {ch:Ch} {vst:Value} {sl:List Sl} {states:List (List Held)} (h:ShopAt L w xb lb F 0 ch vst sl states):∃va vc,vst=.slice va states.length vc/\w.cell? ⟨xb,2,none⟩=some (.slice va states.length vc)/\w.cell? ⟨xb,0,none⟩=some (.pointer (some ⟨lb,0,none⟩)):=by
 have hsl:=h.len.1
 obtain ⟨g,cap,hv,_⟩:=h.st.at (λe=>by have:=h.len;rw [e] at this;simp at this;omega)
 have hr:=h.row
 rw [hv,hsl] at hr
 exact ⟨_,_,by rw [hv,hsl],cell_row hr,cell_row hr⟩
theorem shown_any {E:Nat->Addr} {width base:Nat} (L:Led E width base) (Q:LedQ L) (hw1:1<=width) (hw:width<=32) {w:World} {xb lb:Nat} {F:Nat->Prop} {ch:Ch} {vst:Value} {sl:List Sl} {states:List (List Held)} (hF:Found E base w) (hS:ShopAt L w xb lb F 0 ch vst sl states) (hl:states.length<=1000000000/\∀l∈states,l.length<1000000000):
  (∀V (c:Int),Tch (λ_=>False) w V-> -9223372036854775808<=c->c<9223372036854775808->Calls Tryz.prog 23 #[.pointer (some ⟨xb,0,none⟩),.int .i64 c] V λe w'=>Tch (λ_=>False) V w'/\∃(s:ByteArray) (N:Int),CoinOk width (s,N)/\e=.returned (.agg #[.string s,.int .i64 N]))/\
  (∀V (n:Nat) (s:ByteArray) (N:Int),Tch (λ_=>False) w V->n<states.length->CoinOk width (s,N)->Calls Tryz.prog 21 #[.pointer (some ⟨xb,0,none⟩),.int .i64 (n:Int),.agg #[.string s,.int .i64 N]] V λe w'=>e=.returned (.bool true)/\Tch (λ_=>False) V w')/\
  (∀V (h:Int) (s:ByteArray) (N:Int),Tch (λ_=>False) w V->¬(0<=h/\h<(states.length:Int))->Calls Tryz.prog 24 #[.pointer (some ⟨lb,0,none⟩),.int .i64 h,.agg #[.string s,.int .i64 N]] V λe w'=>e=.returned (.tuple #[.string ⟨#[]⟩,.int .i64 7])/\Tch (λ_=>False) V w'):=by
 refine ⟨λV c hT h1 h2=>?_,λV n s N hT hn hco=>?_,λV h s N hT hh=>?_⟩
 ·refine (k_coinOf L hw1 hw xb lb F 0 ch vst sl states c h1 h2 V (hF.tch hT (λ_ e=>e.elim)).env (hS.next hT) hS.coins hl.1 (λl h=>Nat.le_of_lt (hl.2 l h))).mono ?_
  rintro e w' ⟨ht,⟨s,N⟩,hc,he⟩
  exact ⟨ht,s,N,hc,he⟩
 ·exact k_shown L Q hw1 hw xb lb F 0 ch vst sl states n hn (Nat.zero_le _) (s,N) hco V (hF.tch hT (λ_ e=>e.elim)) (hS.next hT) hl.1 hl.2
 ·refine Q.qout h (s,N) (L.keep hS.led hT (λ_ e=>e.elim)) (hF.tch hT (λ_ e=>e.elim)) ?_
  have hc:=hS.len
  rw [hc.2.1]
  exact hh
set_option maxRecDepth 100000 in
set_option maxHeartbeats 4000000 in
theorem k_showns {E:Nat->Addr} {base:Nat} (M:Maker E base) (hQ:∀width,LedQ (M.led width)) (c:Int) (v1 v2:Value) (first:List (Nat×Nat)) (script:List StepL) (w:World) (hF:Found E base w) (hb:base<=w.heap.size) (h1:OutsAt base w v1 first) (ho:∀o∈first,OutOk o) (hc1: -9223372036854775808<=c) (hc2:c<9223372036854775808)
  (h2:StepsLow base w v2 script) (hpo:∀s∈script,∀p∈s.pays,p.Ok) (hab:∀s∈script,(-9223372036854775808<=s.a/\s.a<9223372036854775808)/\(-9223372036854775808<=s.b/\s.b<9223372036854775808)) (hn:script.length<=2097152):
  Calls Tryz.prog 6 #[.int .i64 c,v1,v2] w λe w'=>e=.returned (.bool true)/\Tch (λj=>base<=j) w w':=by
 have HSH:Hid (Calls Tryz.prog 14 #[.int .i64 c,v1] w (ToShop M w)):=k_shop M c base v1 first w hF hb h1 ho hc1 hc2
 obtain ⟨a1,n1,rfl⟩:=h1.shape
 obtain ⟨a2,n2,rfl⟩:=h2.shape
 have HF:Hid (Found E base w/\base<=w.heap.size):=⟨hF,hb⟩
 have HST:Hid (StepsLow base w (.slice a2 script.length n2) script):=h2
 have HPO:Hid (∀s∈script,∀p∈s.pays,p.Ok):=hpo
 have HAB:Hid (∀s∈script,(-9223372036854775808<=s.a/\s.a<9223372036854775808)/\(-9223372036854775808<=s.b/\s.b<9223372036854775808)):=hab
 have HN:Hid (script.length<=2097152):=hn
 clear hF hb h1 ho h2 hpo hn hab
 go_enter Tryz.func6,Tryz.ntmps6
 go_wp2_with fail
 refine HSH.out.mono ?_
 rintro e w1 ⟨ht1,width,xb,lb,F1,ch1,vst1,sl1,states1,hw1,hw,rfl,hS,hl1,hl3⟩
 have HT1:Hid (Tch (λj=>base<=j) w w1):=ht1.mono noE
 have HS1:Hid (ShopAt (M.led width) w1 xb lb F1 0 ch1 vst1 sl1 states1):=hS
 have HL1:Hid (states1.length=1/\∀l∈states1,l.length<=3):=⟨hl1,hl3⟩
 have HQ:Hid (LedQ (M.led width)):=hQ width
 clear ht1 hS hl1 hl3 HSH hQ
 generalize M.led width=L at *
 go_wp2
 go_loopw [8] (λi wr=>∃(k:Nat) (F:Nat->Prop) (ch:Ch) (vst:Value) (sl:List Sl) (states:List (List Held)),k<=script.length/\i=.int .i64 (k:Int)/\Hid (ShopAt L wr xb lb F 0 ch vst sl states)/\Hid (Tch (λj=>base<=j) w wr)/\Hid (states.length<=1+2 * k/\∀l∈states,l.length<=3+9 * k)) (λi _=>script.length - (intOf i).toNat)
 case atStart=>exact ⟨0,F1,ch1,vst1,sl1,states1,by omega,rfl,HS1,HT1,⟨by have:=HL1.out.1;omega,λl hl=>by have:=HL1.out.2 l hl;omega⟩⟩
 case round=>
  obtain ⟨k,F,ch,vst,sl,states,hk,rfl,HS,HT,HL⟩:=hrel
  have HFr:Hid (Found E base wr):=HF.out.1.tch HT.out (λ_ h=>h)
  have HLL:Hid (states.length<=1000000000/\∀l∈states,l.length<1000000000):=⟨by have:=HL.out.1;have:=HN.out;omega,λl hl=>by have:=HL.out.2 l hl;have:=HN.out;omega⟩
  by_cases hlt:k<script.length
  ·rcases HST.out with ⟨_,e2⟩ | ⟨g,o,cc,e,hg,hcell⟩
   ·rw [e2] at hlt;simp at hlt
   simp only [Value.slice.injEq,true_and] at e
   obtain ⟨rfl,rfl⟩:=e
   obtain ⟨va,hpl,d0,d1,d2,d3⟩:=hcell k hlt
   have hgz:g<w.heap.size:=Nat.lt_of_lt_of_le hg HF.out.2
   have HCE:Hid (∀W,Tch (λj=>base<=j) w W->∀x,W.cell? ⟨g,x,none⟩=w.cell? ⟨g,x,none⟩):=λW hT x=>hT.cell (p:=⟨g,x,none⟩) hgz (λe=>by simp only at e;omega)
   have q0:=(HCE.out wr HT.out (o+k * 4)).trans d0
   have q1:=(HCE.out wr HT.out (o+k * 4+1)).trans d1
   have q2:=(HCE.out wr HT.out (o+k * 4+2)).trans d2
   have q3:=(HCE.out wr HT.out (o+k * 4+3)).trans d3
   have hlti:(k:Int)<(script.length:Int):=by omega
   have HPL:Hid (PaysLow base w va script[k].pays):=hpl
   have HPK:Hid (∀p∈script[k].pays,p.Ok):=HPO.out _ (List.getElem_mem hlt)
   have HABk:Hid ((-9223372036854775808<=script[k].a/\script[k].a<9223372036854775808)/\(-9223372036854775808<=script[k].b/\script[k].b<9223372036854775808)):=HAB.out _ (List.getElem_mem hlt)
   obtain ⟨vp0,vp1,hvp⟩:∃x y,va=.slice x script[k].pays.length y:=(hpl.at HF.out.2).shape
   subst hvp
   clear hcell d0 d1 d2 d3 hpl
   have HLT:Hid (k<script.length):=hlt
   have hkb:k<2097152:=by have:=HN.out;omega
   generalize script[k].kind=kd at *
   generalize script[k].a=sa at *
   generalize script[k].b=sb at *
   generalize script[k].pays=ps at *
   obtain ⟨W,hW⟩:∃W,W=wr.alloc (.cells #[.int .i64 kd,.int .i64 sa,.int .i64 sb,.slice vp0 ps.length vp1] 31):=⟨_,rfl⟩
   have tA:Tch (λ_=>False) wr W:=by rw [hW];exact Tch.alloc _ _ _
   have hrow:W.heap[wr.heap.size]? =some (.cells #[.int .i64 kd,.int .i64 sa,.int .i64 sb,.slice vp0 ps.length vp1] 31):=by rw [hW];exact heap_alloc_new _ _
   have HBX:Hid (∀(S:Nat->Prop) V,Tch S W V->¬S wr.heap.size->V.cell? ⟨wr.heap.size,0,none⟩=some (.int .i64 kd)/\V.cell? ⟨wr.heap.size,1,none⟩=some (.int .i64 sa)/\V.cell? ⟨wr.heap.size,2,none⟩=some (.int .i64 sb)/\V.cell? ⟨wr.heap.size,3,none⟩=some (.slice vp0 ps.length vp1)):=λS V hT hs=>by
    have:=(hT.block _ (row_lt hrow) hs).trans hrow
    exact ⟨cell_row this,cell_row this,cell_row this,cell_row this⟩
   have HTA:Hid (Tch (λ_=>False) wr W):=tA
   have HW:Hid (W=_):=hW
   obtain ⟨b0,b1,b2,b3⟩:=HBX.out (λ_=>False) W (Tch.refl _ _) (λh=>h)
   clear tA hrow hW hlt
   by_cases hk2:kd=2
   ·subst hk2
    clear b1 b2 b3
    go_upto_region 8 with fail
    rw [<-HW.out]
    go_wp2
    go_roundw
    case rel=>exact ⟨k+1,F,ch,vst,sl,states,HLT.out,by go_num,HS.out.next HTA.out,HT.out.trans HTA.out noE,⟨by have:=HL.out.1;omega,λl hl=>by have:=HL.out.2 l hl;omega⟩⟩
    case measure=>have:=HLT.out;simp [intOf];omega
   ·by_cases hk1:kd=1
    ·subst hk1
     have HDO:Hid (Calls Tryz.prog 20 #[.pointer (some ⟨xb,0,none⟩),.agg #[.int .i64 1,.int .i64 sa,.int .i64 sb,.slice vp0 ps.length vp1]] W λe w'=>e=.returned (.bool true)/\∃V,Tch (λ_=>False) W V/\∃F' ch' vst' sl' states',ShopAt L w' xb lb F' 0 ch' vst' sl' states'/\Tch (λj=>F j\/j=xb\/some j=vst.ownBlock) V w'/\states'.length<=states.length+1/\∀l∈states',∃l0∈states,l.length<=l0.length+9):=by
      refine k_does1 xb sa sb vp0 ps.length vp1 (λV w'=>∃F' ch' vst' sl' states',ShopAt L w' xb lb F' 0 ch' vst' sl' states'/\Tch (λj=>F j\/j=xb\/some j=vst.ownBlock) V w'/\states'.length<=states.length+1/\∀l∈states',∃l0∈states,l.length<=l0.length+9) (λV hT=>?_)
      have hTV:Tch (λj=>base<=j) w V:=(HT.out.trans HTA.out noE).trans hT noE
      have hbV:base<=V.heap.size:=Nat.le_trans HF.out.2 hTV.size
      refine (k_pays L hw1 hw xb lb F 0 ch vst sl states _ ps V (HF.out.1.tch hTV (λ_ h=>h)) ((HS.out.next HTA.out).next hT) ((HPL.out.tch HF.out.2 hTV (λ_ h=>h)).at hbV) HPK.out (λl hl=>by have:=HL.out.2 l hl;have:=HN.out;omega) (by have:=HS.out.len;have:=HL.out.1;have:=HN.out;omega)).mono ?_
      rintro e w' ⟨he,F',ch',vst',sl',states',g1,g2,_,_,g5,g6⟩
      exact ⟨he,F',ch',vst',sl',states',g1,g2,g5,g6⟩
     go_upto_region 8 with fail
     rw [<-HW.out]
     go_wp2_with fail
     refine HDO.out.mono ?_
     rintro _ w2 ⟨rfl,V,hTV,F2,ch2,vst2,sl2,states2,hS2,hT2,hl2,hh2⟩
     have hT2W:Tch (λj=>F j\/j=xb\/some j=vst.ownBlock) W w2:=(hTV.mono noE).trans hT2 (λ_ h=>.inl h)
     have hns:¬(F wr.heap.size\/wr.heap.size=xb\/some wr.heap.size=vst.ownBlock):=λh=>by
      rcases h with h | h | h
      ·have:=(L.own HS.out.led _ h).2;omega
      ·have:=(row_lt HS.out.row);omega
      ·have:=(HS.out.st.own _ h.symm).2;omega
     obtain ⟨e0,e1,e2,e3⟩:=HBX.out _ w2 hT2W hns
     have HS2:Hid (ShopAt L w2 xb lb F2 0 ch2 vst2 sl2 states2):=hS2
     have HT2:Hid (Tch (λj=>base<=j) w w2):=(HT.out.trans HTA.out noE).trans hT2W (λj hj=>.inl (by
      rcases hj with h | rfl | h
      ·exact (L.own HS.out.led j h).1
      ·exact HS.out.low
      ·exact (HS.out.st.own j h.symm).1))
     have HL2:Hid (states2.length<=1+2 * (k+1)/\∀l∈states2,l.length<=3+9 * (k+1)):=⟨by have:=HL.out.1;omega,λl hl=>by obtain ⟨l0,h0,h1⟩:=hh2 l hl;have:=HL.out.2 l0 h0;omega⟩
     clear b0 b1 b2 b3 e1 e2 e3 hS2 hT2 hl2 hh2 hT2W hns hTV HDO
     go_wp2
     go_roundw
     case rel=>exact ⟨k+1,F2,ch2,vst2,sl2,states2,HLT.out,by go_num,HS2,HT2,HL2⟩
     case measure=>have:=HLT.out;simp [intOf];omega
    ·have HDO:Hid (Calls Tryz.prog 20 #[.pointer (some ⟨xb,0,none⟩),.agg #[.int .i64 kd,.int .i64 sa,.int .i64 sb,.slice vp0 ps.length vp1]] W λe w'=>e=.returned (.bool true)/\Tch (λ_=>False) W w'):=k_does0 xb kd sa sb vp0 ps.length vp1 hk1 hk2
     go_upto_region 8 with fail
     rw [<-HW.out]
     go_wp2_with fail
     refine HDO.out.mono ?_
     rintro _ w2 ⟨rfl,ht2⟩
     have HT2:Hid (Tch (λ_=>False) wr w2):=HTA.out.go ht2
     obtain ⟨e0,e1,e2,e3⟩:=HBX.out _ w2 ht2 (λh=>h)
     clear b0 b1 b2 b3 ht2 HDO
     by_cases hk3:kd=3
     ·subst hk3
      have hF2:Found E base w2:=HFr.out.tch HT2.out noE
      have hS2:=HS.out.next HT2.out
      obtain ⟨A1,A2,_⟩:=shown_any L HQ.out hw1 hw hF2 hS2 HLL.out
      obtain ⟨va,vc,_,x2,_⟩:=hS2.len2
      have hsp:0<states.length:=by have:=HS.out.len;omega
      have hsb:states.length<9223372036854775808:=by have:=HLL.out.1;omega
      have HCO:Hid (∀V,Tch (λ_=>False) w2 V->Calls Tryz.prog 23 #[.pointer (some ⟨xb,0,none⟩),.int .i64 sb] V λe w'=>Tch (λ_=>False) V w'/\∃(s:ByteArray) (N:Int),CoinOk width (s,N)/\e=.returned (.agg #[.string s,.int .i64 N])):=λV hT=>A1 V sb hT HABk.out.2.1 HABk.out.2.2
      have HSW:Hid (∀V (n:Nat) (s:ByteArray) (N:Int),Tch (λ_=>False) w2 V->n<states.length->CoinOk width (s,N)->Calls Tryz.prog 21 #[.pointer (some ⟨xb,0,none⟩),.int .i64 (n:Int),.agg #[.string s,.int .i64 N]] V λe w'=>e=.returned (.bool true)/\Tch (λ_=>False) V w'):=A2
      have HPI:Hid (∀V,Calls Tryz.prog 22 #[.int .i64 sa,.int .i64 (states.length:Int)] V λe w'=>(∃r:Nat,r<states.length/\e=.returned (.int .i64 (r:Int)))/\w'=V):=λV=>k_pick sa states.length V HABk.out.1.1 HABk.out.1.2 hsp hsb
      have hb2:=World.block_lt_of_cell? _ _ e1
      have hx2:=World.block_lt_of_cell? _ _ x2
      have HCC:Hid (∀V,Tch (λ_=>False) w2 V->V.cell? ⟨xb,2,none⟩=some (.slice va states.length vc)/\V.cell? ⟨wr.heap.size,1,none⟩=some (.int .i64 sa)/\V.cell? ⟨wr.heap.size,2,none⟩=some (.int .i64 sb)):=λV hT=>⟨(hT.cell hx2 (λh=>h)).trans x2,(hT.cell hb2 (λh=>h)).trans e1,(hT.cell (World.block_lt_of_cell? _ _ e2) (λh=>h)).trans e2⟩
      clear hF2 hS2 A1 A2 hb2 hx2 e3
      obtain ⟨sn,hsn⟩:∃sn,states.length=sn:=⟨_,rfl⟩
      rw [hsn] at HSW HPI HCC x2 hsp hsb
      clear hsn
      go_upto_region 11 with fail
      go_cut [10] (λv wx=>v=.bool true/\Hid (Tch (λ_=>False) w2 wx))
      case first=>
       go_region_held3 (λV=>V.cell? ⟨xb,2,none⟩=some (.slice va sn vc)/\V.cell? ⟨wr.heap.size,1,none⟩=some (.int .i64 sa)/\V.cell? ⟨wr.heap.size,2,none⟩=some (.int .i64 sb)) (go_keep) ((first
        | (go_at_call 22;refine (HPI.out _).mono ?_;rintro _ X ⟨⟨r,hr,rfl⟩,hX⟩;rw [hX];clear hX X;have HR:Hid (r<sn):=hr;clear hr)
        | (go_at_call 23;refine (HCO.out _ (Tch.drewN _ w2 1)).mono ?_;rintro _ w3 ⟨ht3,s3,N3,hc3,rfl⟩;have HT3:Hid (Tch (λ_=>False) w2 w3):=(Tch.drewN (λ_=>False) w2 1).go ht3;have HOK3:Hid (CoinOk width (s3,N3)):=hc3;obtain ⟨f0,f1,f2⟩:=HCC.out _ HT3.out;clear ht3 hc3)
        | (go_at_call 21;refine (HSW.out _ _ _ _ HT3.out HR.out HOK3.out).mono ?_;rintro _ w4 ⟨rfl,ht4⟩;have HT4:Hid (Tch (λ_=>False) w2 w4):=HT3.out.go ht4;obtain ⟨h0,h1,h2⟩:=HCC.out _ HT4.out;clear ht4)))
       all_goals
        go_wp2
        go_meet
        exact ⟨rfl,HT4⟩
      case rest=>
      obtain ⟨rfl,HTC⟩:=hcut
      obtain ⟨w5,hw5⟩:∃w5,w5=wc:=⟨wc,rfl⟩
      subst hw5
      have HT5:Hid (Tch (λ_=>False) wr w5):=HT2.out.go HTC.out
      clear HCO HSW HPI HCC x2 e0 e1 e2
      go_wp2
      go_roundw
      case rel=>exact ⟨k+1,F,ch,vst,sl,states,HLT.out,by go_num,HS.out.next HT5.out,HT.out.trans HT5.out noE,⟨by have:=HL.out.1;omega,λl hl=>by have:=HL.out.2 l hl;omega⟩⟩
      case measure=>have:=HLT.out;simp [intOf];omega
     ·go_wp2
      go_roundw
      case rel=>exact ⟨k+1,F,ch,vst,sl,states,HLT.out,by go_num,HS.out.next HT2.out,HT.out.trans HT2.out noE,⟨by have:=HL.out.1;omega,λl hl=>by have:=HL.out.2 l hl;omega⟩⟩
      case measure=>have:=HLT.out;simp [intOf];omega
  ·have hge:¬(k:Int)<(script.length:Int):=by omega
   obtain ⟨A1,A2,A3⟩:=shown_any L HQ.out hw1 hw HFr.out HS.out HLL.out
   obtain ⟨va,vc,_,x2,x0⟩:=HS.out.len2
   have hsp:0<states.length:=by have:=HS.out.len;omega
   have hsb:states.length<=1000000000:=HLL.out.1
   have HCO:Hid (∀V,Tch (λ_=>False) wr V->Calls Tryz.prog 23 #[.pointer (some ⟨xb,0,none⟩),.int .i64 0] V λe w'=>Tch (λ_=>False) V w'/\∃(s:ByteArray) (N:Int),CoinOk width (s,N)/\e=.returned (.agg #[.string s,.int .i64 N])):=λV hT=>A1 V 0 hT (by omega) (by omega)
   have HSW:Hid (∀V (s:ByteArray) (N:Int),Tch (λ_=>False) wr V->CoinOk width (s,N)->Calls Tryz.prog 21 #[.pointer (some ⟨xb,0,none⟩),.int .i64 0,.agg #[.string s,.int .i64 N]] V λe w'=>e=.returned (.bool true)/\Tch (λ_=>False) V w'):=λV s N hT hc=>A2 V 0 s N hT hsp hc
   have HQ1:Hid (∀V (s:ByteArray) (N:Int),Tch (λ_=>False) wr V->Calls Tryz.prog 24 #[.pointer (some ⟨lb,0,none⟩),.int .i64 (states.length:Int),.agg #[.string s,.int .i64 N]] V λe w'=>e=.returned (.tuple #[.string ⟨#[]⟩,.int .i64 7])/\Tch (λ_=>False) V w'):=λV s N hT=>A3 V _ s N hT (by omega)
   have HQ2:Hid (∀V (s:ByteArray) (N:Int),Tch (λ_=>False) wr V->Calls Tryz.prog 24 #[.pointer (some ⟨lb,0,none⟩),.int .i64 (-1),.agg #[.string s,.int .i64 N]] V λe w'=>e=.returned (.tuple #[.string ⟨#[]⟩,.int .i64 7])/\Tch (λ_=>False) V w'):=λV s N hT=>A3 V (-1) s N hT (by omega)
   have hx2:=World.block_lt_of_cell? _ _ x2
   have HCC:Hid (∀V,Tch (λ_=>False) wr V->V.cell? ⟨xb,2,none⟩=some (.slice va states.length vc)/\V.cell? ⟨xb,0,none⟩=some (.pointer (some ⟨lb,0,none⟩))):=λV hT=>⟨(hT.cell hx2 (λh=>h)).trans x2,(hT.cell (World.block_lt_of_cell? _ _ x0) (λh=>h)).trans x0⟩
   obtain ⟨sn,hsn⟩:∃sn,states.length=sn:=⟨_,rfl⟩
   rw [hsn] at HQ1 HCC x2 hsp hsb
   clear hsn A1 A2 A3 hx2 hlt
   go_upto_region 14 with fail
   go_cut [12] (λv12 wx=>v12=.int .i64 7/\Hid (Tch (λ_=>False) wr wx))
   case first=>
    go_region_held3 (λV=>V.cell? ⟨xb,2,none⟩=some (.slice va sn vc)/\V.cell? ⟨xb,0,none⟩=some (.pointer (some ⟨lb,0,none⟩))) (go_keep) ((first
     | (go_at_call 23;refine (HCO.out _ (Tch.drewN _ wr 1)).mono ?_;rintro _ w3 ⟨ht3,s3,N3,hc3,rfl⟩;have HT3:Hid (Tch (λ_=>False) wr w3):=(Tch.drewN (λ_=>False) wr 1).go ht3;obtain ⟨f0,f1⟩:=HCC.out _ HT3.out;clear ht3 hc3)
     | (go_at_call 24;refine (HQ1.out _ _ _ HT3.out).mono ?_;rintro _ w4 ⟨rfl,ht4⟩;have HT4:Hid (Tch (λ_=>False) wr w4):=HT3.out.go ht4;obtain ⟨h0,h1⟩:=HCC.out _ HT4.out;clear ht4)))
    all_goals
     go_wp2
     go_meet
     exact ⟨rfl,HT4⟩
   case rest=>
   obtain ⟨rfl,HT5⟩:=hcut
   obtain ⟨w5,hw5⟩:∃w5,w5=wc:=⟨wc,rfl⟩
   subst hw5
   clear x2 x0 HQ1
   obtain ⟨x2,x0⟩:=HCC.out w5 HT5.out
   go_upto_region 15 with fail
   go_cut [14] (λv14 wx=>v14=.int .i64 7/\Hid (Tch (λ_=>False) wr wx))
   case first=>
    go_region_held3 (λV=>V.cell? ⟨xb,0,none⟩=some (.pointer (some ⟨lb,0,none⟩))) (go_keep) ((first
     | (go_at_call 23;refine (HCO.out _ (HT5.out.go (Tch.drewN _ w5 1))).mono ?_;rintro _ w6 ⟨ht6,s6,N6,hc6,rfl⟩;have HT6:Hid (Tch (λ_=>False) wr w6):=(HT5.out.go (Tch.drewN (λ_=>False) w5 1)).go ht6;obtain ⟨f0,f1⟩:=HCC.out _ HT6.out;clear ht6 hc6)
     | (go_at_call 24;refine (HQ2.out _ _ _ HT6.out).mono ?_;rintro _ w7 ⟨rfl,ht7⟩;have HT7:Hid (Tch (λ_=>False) wr w7):=HT6.out.go ht7;obtain ⟨h0,h1⟩:=HCC.out _ HT7.out;clear ht7)))
    all_goals
     go_wp2
     go_meet
     exact ⟨rfl,HT7⟩
   case rest=>
   obtain ⟨rfl,HT8⟩:=hcut
   obtain ⟨w8,hw8⟩:∃w8,w8=wc:=⟨wc,rfl⟩
   subst hw8
   clear x2 x0 HQ2 HCC HT5
   go_wp2_with fail
   refine (HCO.out w8 HT8.out).mono ?_
   rintro _ w9 ⟨ht9,s9,N9,hc9,rfl⟩
   have HT9:Hid (Tch (λ_=>False) wr w9):=HT8.out.go ht9
   have HOK9:Hid (CoinOk width (s9,N9)):=hc9
   clear ht9 hc9 HCO
   go_wp2_with fail
   refine (HSW.out w9 s9 N9 HT9.out HOK9.out).mono ?_
   rintro _ wA ⟨rfl,htA⟩
   have HTA:Hid (Tch (λj=>base<=j) w wA):=(HT.out.trans HT9.out noE).trans htA noE
   clear htA HSW
   go_wp2
   go_ret
   exact ⟨rfl,HTA.out⟩
end Go.Proofs.YtighkdnooglfjaaGreatDoor
