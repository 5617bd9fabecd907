/-
  A ledger that answers Query, and whose headers tell its states.
  trovekeep.coinOf.
-/
import Derived.Test.YtighkdnooglfjaaGreatDoorSwChR
import Derived.Test.YtighkdnooglfjaaGreatDoorSwVfF
import Derived.Deep.QuietTactic
import Derived.BigQuiet
namespace Go.Proofs.YtighkdnooglfjaaGreatDoor
open Go.RowKit

theorem numL_inj:∀(n:Nat) (a b:List UInt8),a.length=n->b.length=n->numL a=numL b->a=b
 | 0,a,b,ha,hb,_=>by rw [List.eq_nil_of_length_eq_zero ha,List.eq_nil_of_length_eq_zero hb]
 | n+1,a,b,ha,hb,h=>by
  have hna:a ≠ []:=λe=>by rw [e] at ha;simp at ha
  have hnb:b ≠ []:=λe=>by rw [e] at hb;simp at hb
  have ea:=List.dropLast_concat_getLast hna
  have eb:=List.dropLast_concat_getLast hnb
  rw [<-ea,<-eb,numL_snoc,numL_snoc] at h
  have h1:=UInt8.toNat_lt (a.getLast hna)
  have h2:=UInt8.toNat_lt (b.getLast hnb)
  have e1:numL a.dropLast=numL b.dropLast:=by omega
  have e2:(a.getLast hna).toNat=(b.getLast hnb).toNat:=by omega
  have i1:=numL_inj n a.dropLast b.dropLast (by simp [ha]) (by simp [hb]) e1
  rw [<-ea,<-eb,i1,UInt8.toNat_inj.1 e2]
theorem beL_numL (l:List UInt8) (k:Nat) (h:l.length=k):beL (numL l) k k=l:=by
 refine numL_inj k _ _ (beL_length _ _ _) h ?_
 have hlt:=numL_lt l
 rw [h] at hlt
 have h2:numL l<2 ^ (8 * k):=by rw [Nat.pow_mul];exact hlt
 rw [beL_num (numL l) k h2 k (Nat.le_refl _),Nat.sub_self]
 simp
theorem hdr_bytes {width:Nat} {z y:HdL} {q r q' r':List UInt8} (h:(PS.rd q r).hdr width z=some (y,.rd q' r')):r=hdrB y++r':=by
 unfold PS.hdr at h
 simp only [PS.num] at h
 split at h
 ·cases h
 ·rename_i n p1 h1
  split at h1
  ·rename_i k1
   simp only [Option.some.injEq,Prod.mk.injEq] at h1
   obtain ⟨rfl,rfl⟩:=h1
   simp only [PS.txt] at h
   split at h
   ·cases h
   ·rename_i t1 p2 h2
    split at h2
    ·rename_i k2
     simp only [Option.some.injEq,Prod.mk.injEq] at h2
     obtain ⟨rfl,rfl⟩:=h2
     dsimp only at h
     split at h
     ·cases h
     ·rename_i t2 p3 h3
      split at h3
      ·rename_i k3
       simp only [Option.some.injEq,Prod.mk.injEq] at h3
       obtain ⟨rfl,rfl⟩:=h3
       dsimp only at h
       split at h
       ·cases h
       ·rename_i t3 p4 h4
        split at h4
        ·rename_i k4
         simp only [Option.some.injEq,Prod.mk.injEq] at h4
         obtain ⟨rfl,rfl⟩:=h4
         simp only [Option.some.injEq,Prod.mk.injEq,PS.rd.injEq] at h
         obtain ⟨rfl,_,rfl⟩:=h
         unfold hdrB
         dsimp only
         rw [beL_numL (r.take 4) 4 (by rw [List.length_take];omega)]
         simp only [List.append_assoc,List.take_append_drop]
        ·cases h4
      ·cases h3
    ·cases h2
  ·cases h1
theorem submit_hdrs {width:Nat} (hw:width<=32) {ch ch':Ch} {s:List UInt8} (hc:∀c∈ch,HdIs width c) (h:submitT (dgW width) width ch s=.ok ch'):∀c∈ch',HdIs width c:=by
 unfold submitT at h
 split at h
 ·rename_i y pre body hh
  split at h
  ·rename_i ts q hb
   split at h
   ·cases h
   ·split at h
    ·cases h
    ·rename_i st ha
     split at h
     ·cases h
     ·rename_i hroot
      simp only [Except.ok.injEq] at h
      subst h
      intro c hcm
      rcases List.mem_append.1 hcm with hcm | hcm
      ·exact hc c hcm
      ·simp only [List.mem_singleton] at hcm
       subst hcm
       have hbytes:=hdr_bytes hh
       obtain ⟨b,r',_,_,_,hok⟩:=rdOk_hdr width hw _ _ _ _ _ hh
       refine ⟨y,?_,hok,?_⟩
       ·dsimp only
        rw [hbytes,List.length_append,Nat.add_sub_cancel,List.take_left]
       ·simpa using hroot
  ·cases h
 ·cases h
structure LedQ {E:Nat->Addr} {width base:Nat} (L:Led E width base):Prop where
 oks:∀{w:World} {lb:Nat} {F:Nat->Prop} {fl:Nat} {ch:Ch},L.At w lb F fl ch->∀(n:Nat) c',ch[n]? =some c'->fl<=n->StOk width c'.2
 hdrs:∀{w:World} {lb:Nat} {F:Nat->Prop} {fl:Nat} {ch:Ch},L.At w lb F fl ch->∀c∈ch,HdIs width c
 qin:∀{w:World} {lb:Nat} {F:Nat->Prop} {fl:Nat} {ch:Ch} (n:Nat) (c':ByteArray×Option Tr) (c:ByteArray×Int),L.At w lb F fl ch->Found E base w->ch[n]? =some c'->fl<=n->(∀t,c'.2=some t->t.Wf/\TrOk width t)->CoinOk width c->
  Calls Tryz.prog 24 #[.pointer (some ⟨lb,0,none⟩),.int .i64 (n:Int),.agg #[.string c.1,.int .i64 c.2]] w λe w'=>e=.returned (.tuple #[.string ⟨(wayB (stWay (dgW width) (coinB c) c'.2)).toArray⟩,.int .i64 0])/\Tch (λ_=>False) w w'
 qout:∀{w:World} {lb:Nat} {F:Nat->Prop} {fl:Nat} {ch:Ch} (h:Int) (c:ByteArray×Int),L.At w lb F fl ch->Found E base w->¬((fl:Int)<=h/\h<(ch.length:Int))->
  Calls Tryz.prog 24 #[.pointer (some ⟨lb,0,none⟩),.int .i64 h,.agg #[.string c.1,.int .i64 c.2]] w λe w'=>e=.returned (.tuple #[.string ⟨#[]⟩,.int .i64 7])/\Tch (λ_=>False) w w'
def QAt (width base:Nat) (w:World) (lb:Nat) (F:Nat->Prop) (fl:Nat) (ch:Ch):Prop:=LAt width base w lb F fl ch/\∀c∈ch,HdIs width c
def theLedQ (E:Nat->Addr) (base width:Nat):Led E width base where
 At:=QAt width base
 keep:=λh k hs=>⟨h.1.keep k hs,h.2⟩
 own:=λh j hj=>by obtain ⟨⟨_,lg,cb,r,bs,lv,C⟩,_⟩:=h;exact C.low j hj
 kinds:=λh j hj cur T m hr=>by
  obtain ⟨⟨_,lg,cb,r,bs,lv,C⟩,_⟩:=h
  rcases C.kind j hj cur T m hr with rfl | rfl | rfl | rfl <;> decide
 tip:=λh _=>led_tip width base h.1
 header:=λh hA hF _ _=>led_header E width base h hA.1 hF
 seals:=λv ts hA hF hv hts h3 hc=>led_seals E width base v ts hA.1 hF hv hts h3 hc
 submits:=λ{_ _ _ _ ch} s hA hF hs hc=>(led_submits E width base s hA.1 hF hs hc).mono λe w' k=>by
  obtain ⟨k0,F',k1,k2⟩:=k
  refine ⟨k0,F',k1,?_⟩
  cases hr:submitT (dgW width) width ch s.data.toList with
  | ok ch'=>rw [hr] at k2;exact ⟨k2.1,k2.2,submit_hdrs hA.1.1.2 hA.2 hr⟩
  | error er=>rw [hr] at k2;exact ⟨k2.1,k2.2,hA.2⟩
theorem led_qin (E:Nat->Addr) (width base:Nat) {w:World} {lb:Nat} {F:Nat->Prop} {fl:Nat} {ch:Ch} (n:Nat) (c':ByteArray×Option Tr) (c:ByteArray×Int) (hA:LAt width base w lb F fl ch) (hF:Found E base w) (hn:ch[n]? =some c') (hf:fl<=n) (hok:∀t,c'.2=some t->t.Wf/\TrOk width t) (hc:CoinOk width c):
  Calls Tryz.prog 24 #[.pointer (some ⟨lb,0,none⟩),.int .i64 (n:Int),.agg #[.string c.1,.int .i64 c.2]] w λe w'=>e=.returned (.tuple #[.string ⟨(wayB (stWay (dgW width) (coinB c) c'.2)).toArray⟩,.int .i64 0])/\Tch (λ_=>False) w w':=by
 obtain ⟨⟨_,hw⟩,lg,cb,r,bs,lv,C⟩:=hA
 have hl:w.cell? ⟨lb,0,none⟩=some (.pointer (some ⟨cb,0,none⟩)):=cell_row C.led
 have hnl:=(List.getElem?_eq_some_iff.1 hn).1
 have hb:bs[n]? =some (bs[n]'(by rw [C.len];exact hnl)):=List.getElem?_eq_getElem _
 obtain ⟨h1,h2,h3⟩:=C.st n _ c' hb hn hf
 exact fQuery_ok hl (n:Int) c _ (λW hT=>query_in E (hF.tch hT (λ_ e=>e.elim)).env (C.row.next hT) n _ hb hf hw F c'.2 h1 (h2.next hT) hok c hc)
theorem led_qout (E:Nat->Addr) (width base:Nat) {w:World} {lb:Nat} {F:Nat->Prop} {fl:Nat} {ch:Ch} (h:Int) (c:ByteArray×Int) (hA:LAt width base w lb F fl ch) (hF:Found E base w) (hh:¬((fl:Int)<=h/\h<(ch.length:Int))):
  Calls Tryz.prog 24 #[.pointer (some ⟨lb,0,none⟩),.int .i64 h,.agg #[.string c.1,.int .i64 c.2]] w λe w'=>e=.returned (.tuple #[.string ⟨#[]⟩,.int .i64 7])/\Tch (λ_=>False) w w':=by
 obtain ⟨_,lg,cb,r,bs,lv,C⟩:=hA
 have hl:w.cell? ⟨lb,0,none⟩=some (.pointer (some ⟨cb,0,none⟩)):=cell_row C.led
 exact fQuery_err (λw' k=>hF.next k) .range hl h c (λW hT=>query_out E (hF.tch hT (λ_ e=>e.elim)).env (C.row.next hT) h (by rw [C.len];exact hh) c)
theorem theLedQ_q (E:Nat->Addr) (base width:Nat):LedQ (theLedQ E base width) where
 oks:=λh n c' hn hf=>by
  obtain ⟨⟨_,lg,cb,r,bs,lv,C⟩,_⟩:=h
  have hnl:=(List.getElem?_eq_some_iff.1 hn).1
  exact (C.st n _ c' (List.getElem?_eq_getElem (by rw [C.len];exact hnl)) hn hf).2.2
 hdrs:=λh=>h.2
 qin:=λn c' c hA hF hn hf hok hc=>led_qin E width base n c' c hA.1 hF hn hf hok hc
 qout:=λh c hA hF hh=>led_qout E width base h c hA.1 hF hh
def theMakerQ (E:Nat->Addr) (base:Nat):Maker E base where
 led:=theLedQ E base
 make:=λwidth {_} v outs hw1 hw hF hbw hv h1 h3 ho=>(led_make E base width v outs hw1 hw hF hbw hv h1 h3 ho).mono λe w' k=>by
  obtain ⟨k0,lb,F,h,st,k1,k2,k3,k4⟩:=k
  refine ⟨k0,lb,F,h,st,k1,⟨k2,λc hc=>?_⟩,k3⟩
  simp only [List.mem_singleton] at hc
  rw [hc]
  exact k4
end Go.Proofs.YtighkdnooglfjaaGreatDoor
namespace Go.Proofs.YtighkdnooglfjaaGreatDoor
open Go.RowKit

set_option maxRecDepth 100000 in
set_option maxHeartbeats 4000000 in
theorem k_coinOf {E:Nat->Addr} {width base:Nat} (L:Led E width base) (hw1:1<=width) (hw:width<=32) (xb lb:Nat) (F:Nat->Prop) (fl:Nat) (ch:Ch) (vst:Value) (sl:List Sl) (states:List (List Held)) (c:Int) (hc1: -9223372036854775808<=c) (hc2:c<9223372036854775808) (w:World) (hE:Env E w) (hS:ShopAt L w xb lb F fl ch vst sl states) (hco:∀l∈states,∀h∈l,CoinOk width h.1) (hlen:states.length<=1000000000) (hll:∀l∈states,l.length<=1000000000):
  Calls Tryz.prog 23 #[.pointer (some ⟨xb,0,none⟩),.int .i64 c] w λe w'=>Tch (λ_=>False) w w'/\∃co:ByteArray×Int,CoinOk width co/\e=.returned (.agg #[.string co.1,.int .i64 co.2]):=by
 have hsl:sl.length=states.length:=hS.len.1
 have hpos:1<=states.length:=hS.len.2.2
 obtain ⟨g,cap,hv,hcells⟩:=hS.st.at (λe=>by rw [e] at hsl;simp at hsl;omega)
 subst hv
 have HP:Hid (∀W,Calls Tryz.prog 22 #[.int .i64 c,.int .i64 ((1099511627776:Nat):Int)] W _):=λW=>k_pick c 1099511627776 W hc1 hc2 (by omega) (by omega)
 obtain ⟨W,hW⟩:∃W,W=w.alloc (.cells #[.string ⟨#[]⟩,.int .i64 0] 49):=⟨_,rfl⟩
 have tA:Tch (λ_=>False) w W:=by rw [hW];exact Tch.alloc _ _ _
 have hSW:=hS.next tA
 have hrow:W.heap[w.heap.size]? =some (.cells #[.string ⟨#[]⟩,.int .i64 0] 49):=by rw [hW];exact heap_alloc_new _ _
 have hxw:=(row_lt hS.row)
 have hne:xb ≠ w.heap.size:=by omega
 have x1:W.cell? ⟨xb,1,none⟩=some (.int .i64 (width:Int)):=cell_row hSW.row
 have x2:W.cell? ⟨xb,2,none⟩=some (.slice (some ⟨g,0,none⟩) sl.length cap):=cell_row hSW.row
 have HHE:Hid (∀i,i<sl.length->∃xa xn xc l,W.cell? ⟨g,i,none⟩=some (.slice xa xn xc)/\states[i]? =some l/\HeldAt W (.slice xa xn xc) l):=λi hi=>by
  have hi':i<states.length:=by omega
  have h0:=hcells i hi
  exact ⟨_,_,_,states[i],(tA.cell (World.block_lt_of_cell? _ _ h0) (λh=>h)).trans h0,List.getElem?_eq_getElem hi',(hSW.held i _ _ (List.getElem?_eq_getElem hi) (List.getElem?_eq_getElem hi')).1⟩
 have HCO:Hid (∀l∈states,∀h∈l,CoinOk width h.1):=hco
 have HLL:Hid (∀l∈states,l.length<=1000000000):=hll
 have HE:Hid (Env E W):=hE.tch tA noE
 have HROW:Hid (W.heap[w.heap.size]? =_):=hrow
 have HW:Hid (W=_):=hW
 have HTA:Hid (Tch _ w W):=tA
 have r0:W.cell? ⟨w.heap.size,0,none⟩=some (.string ⟨#[]⟩):=cell_row hrow
 have r1:W.cell? ⟨w.heap.size,1,none⟩=some (.int .i64 0):=cell_row hrow
 have fR:∀j,W.frozen? ⟨w.heap.size,j,none⟩=false:=λj=>frozen_of_row _ _ _ _ _ hrow
 have hnp:0<sl.length:=by omega
 have hnb:sl.length<=1000000000:=by omega
 clear hE hS hSW hco hll hW tA hrow hcells hsl hpos hlen hxw
 generalize sl.length=n at *
 have hnz:¬(n:Int)=0:=by omega
 go_enter Tryz.func23,Tryz.ntmps23
 go_upto_region 1 with fail
 rw [<-HW.out]
 go_wp2_with fail
 refine (HP.out W).mono ?_
 rintro _ X ⟨⟨r,hr,rfl⟩,hX⟩
 rw [hX]
 clear hX X
 obtain ⟨i,hi⟩:∃i,i=r % n:=⟨_,rfl⟩
 have hil:i<n:=by rw [hi];exact Nat.mod_lt _ hnp
 have hrem:(r:Int).tmod (n:Int)=(i:Int):=by rw [hi];rfl
 obtain ⟨xa,xn,xc,l,hci,hl,hheld⟩:=HHE.out i hil
 have hlm:l∈states:=List.mem_of_getElem? hl
 have hxn:xn=l.length:=by
  rcases hheld with ⟨e,rfl⟩ | ⟨_,_,_,e,_⟩
  ·cases e;rfl
  ·cases e;rfl
 have hi1:(i:Int)<(n:Int):=by omega
 have HHL:Hid (HeldAt W (.slice xa xn xc) l):=hheld
 have HXN:Hid (xn=l.length):=hxn
 have HLM:Hid (l∈states):=hlm
 have hxb:xn<=1000000000:=by rw [hxn];exact HLL.out l hlm
 clear hheld hl hlm hxn hi HHE HP
 go_upto_region 2 with fail
 go_quiet (fail)
 obtain ⟨W2,hW2⟩:∃W2,W2=W.drewN nq:=⟨_,rfl⟩
 rw [<-hW2]
 have t2:Tch (λ_=>False) W W2:=by rw [hW2];exact Tch.drewN _ _ _
 have HRW:Hid (∀V,Tch (λ_=>False) W2 V->V.heap[w.heap.size]? =some (.cells #[.string ⟨#[]⟩,.int .i64 0] 49)):=λV hT=>((t2.go hT).block _ (row_lt HROW.out) (λh=>h)).trans HROW.out
 have HCC:Hid (∀V,Tch (λ_=>False) W2 V->V.cell? ⟨xb,1,none⟩=some (.int .i64 (width:Int))/\V.cell? ⟨w.heap.size,0,none⟩=some (.string ⟨#[]⟩)/\V.cell? ⟨w.heap.size,1,none⟩=some (.int .i64 0)/\(∀j,V.frozen? ⟨w.heap.size,j,none⟩=false)):=λV hT=>⟨((t2.go hT).cell (World.block_lt_of_cell? _ _ x1) (λh=>h)).trans x1,cell_row (HRW.out V hT),cell_row (HRW.out V hT),λj=>frozen_of_row _ _ _ _ _ (HRW.out V hT)⟩
 have HTW:Hid (Tch (λ_=>False) w W2):=HTA.out.go t2
 have HE2:Hid (Env E W2):=HE.out.tch t2 noE
 have HHL2:Hid (HeldAt W2 (.slice xa xn xc) l):=HHL.out.tch t2
 obtain ⟨r9,hr9⟩:∃r9,r9=r % 9:=⟨_,rfl⟩
 have h9:(r:Int).tmod 9=(r9:Int):=by rw [hr9];rfl
 obtain ⟨r3,hr3⟩:∃r3,r3=r % 3:=⟨_,rfl⟩
 have h3:(r:Int).tmod 3=(r3:Int):=by rw [hr3];rfl
 obtain ⟨r7,hr7⟩:∃r7,r7=r % 7:=⟨_,rfl⟩
 have h7:(r:Int).tmod 7=(r7:Int):=by rw [hr7];rfl
 obtain ⟨r8,hr8⟩:∃r8,r8=r / 8:=⟨_,rfl⟩
 have h8:(r:Int).tdiv 8=(r8:Int):=by rw [hr8];rfl
 have hw8:wrap64 (r8:Int)=(r8:Int):=by simp only [wrap64];omega
 have hu9:IntKind.u64.wrap (r9:Int)=(r9:Int):=u64wrap_small _ (by omega) (by omega)
 have HIB:Hid (∀W,Calls Tryz.prog 49 #[.int .u64 (r9:Int),.int .i64 1] W λe w'=>e=.returned (.string ⟨(beL r9 1 1).toArray⟩)/\Tch (λ_=>False) W w'):=λW=>k_inBytes r9 1 W (by omega)
 obtain ⟨S,hSz,hadd⟩:∃S:ByteArray,S.size<=300/\∀W,(Op.stringOp .add (⟨#[115,111,109,101,32,99,111,105,110]⟩:ByteArray) ⟨(beL r9 1 1).toArray⟩).run Tryz.prog W=.ok (.string S) W:=
  ⟨_,by rw [ByteArray.size_append];show 9+(beL r9 1 1).toArray.size<=300;simp [beL_length],λW=>run_string_add_sum (P:=Tryz.prog) W _ _ (by show 9+(beL r9 1 1).toArray.size<=_;simp [beL_length])⟩
 obtain ⟨dg,hdg⟩:∃dg,dg=dgW width S.data.toList:=⟨_,rfl⟩
 have HDG:Hid (∀V,Tch (λ_=>False) W2 V->Calls Tryz.prog 39 #[.int .i64 (width:Int),.string S] V λe w'=>e=.returned (.string dg)/\Tch (λ_=>False) V w'):=λV hT=>by
  have hEW:=HE2.out.tch hT noE
  refine (k_digest width S V hw1 hw (by omega) (Nat.lt_of_lt_of_le (by decide) hEW.size) hEW.table).mono ?_
  rintro _ w' ⟨rfl,ht⟩
  exact ⟨by rw [hdg];rfl,ht⟩
 have HOKF:Hid (CoinOk width (dg,(r3:Int))):=⟨by show dg.size=width;rw [hdg];exact dgW_size width hw _,by show (0:Int)<=(r3:Int);omega,by show (r3:Int)<3;rw [hr3];have:=Nat.mod_lt r (show 0<3 by decide);omega⟩
 obtain ⟨y1,y2,y3,y4⟩:=HCC.out W2 (Tch.refl _ _)
 have HR8:Hid (r8=r / 8):=hr8
 have HSP:Hid (True):=trivial
 generalize (⟨(beL r9 1 1).toArray⟩:ByteArray)=tb at *
 clear hr9 hr3 hr7 hr8 hSz hdg t2 hW2 x1 x2 r0 r1 fR hci hrem HE HHL HROW HTA
 by_cases hz:xn=0
 ·have hz1:(xn:Int)=0:=by omega
  clear hz
  go_upto_region 4 with fail
  go_region_with (first
   | (go_at_call 49;refine (HIB.out _).mono ?_;rintro _ w3 ⟨rfl,ht3⟩;have HT3:Hid (Tch (λ_=>False) W2 w3):=(Tch.drewN (λ_=>False) W2 1).go ht3;obtain ⟨y1,y2,y3,y4⟩:=HCC.out _ HT3.out;clear ht3)
   | (go_at_call 39;refine (HDG.out _ HT3.out).mono ?_;rintro _ w4 ⟨rfl,ht4⟩;have HT4:Hid (Tch (λ_=>False) W2 w4):=HT3.out.go ht4;obtain ⟨z1,z2,z3,z4⟩:=HCC.out _ HT4.out;clear ht4))
  all_goals
   go_wp2
   rw [set2 _ _ _ _ _ _ _ (HRW.out _ HT4.out)]
   refine bodyPost_ret (v:=.agg #[.string dg,.int .i64 (r3:Int)]) (results_cell_row Tryz.results23 _ _ w.heap.size _ _ (0,0) _ rfl (setRow_heap _ _ _ _ _ _ (HRW.out _ HT4.out)) Tryz.underlying49 rfl (by kernel_rfl)) rfl ?_
   exact ⟨(HTW.out.go HT4.out).trans (Tch.setRow _ _ _) (λj hj=>.inr (by omega)),(dg,(r3:Int)),HOKF.out,rfl⟩
 ·have hz1:¬(xn:Int)=0:=by omega
  by_cases h76:(r7:Int)=6
  ·go_upto_region 4 with fail
   go_region_with (first
    | (go_at_call 49;refine (HIB.out _).mono ?_;rintro _ w3 ⟨rfl,ht3⟩;have HT3:Hid (Tch (λ_=>False) W2 w3):=(Tch.drewN (λ_=>False) W2 1).go ht3;obtain ⟨y1,y2,y3,y4⟩:=HCC.out _ HT3.out;clear ht3)
    | (go_at_call 39;refine (HDG.out _ HT3.out).mono ?_;rintro _ w4 ⟨rfl,ht4⟩;have HT4:Hid (Tch (λ_=>False) W2 w4):=HT3.out.go ht4;obtain ⟨z1,z2,z3,z4⟩:=HCC.out _ HT4.out;clear ht4))
   all_goals
    go_wp2
    rw [set2 _ _ _ _ _ _ _ (HRW.out _ HT4.out)]
    refine bodyPost_ret (v:=.agg #[.string dg,.int .i64 (r3:Int)]) (results_cell_row Tryz.results23 _ _ w.heap.size _ _ (0,0) _ rfl (setRow_heap _ _ _ _ _ _ (HRW.out _ HT4.out)) Tryz.underlying49 rfl (by kernel_rfl)) rfl ?_
    exact ⟨(HTW.out.go HT4.out).trans (Tch.setRow _ _ _) (λj hj=>.inr (by omega)),(dg,(r3:Int)),HOKF.out,rfl⟩
  ·rcases HHL2.out with ⟨e,e2⟩ | ⟨gi,oi,cc,e,hgl,hcell⟩
   ·exfalso
    simp only [Value.slice.injEq] at e
    exact hz (by omega)
   ·simp only [Value.slice.injEq] at e
    obtain ⟨rfl,hq,rfl⟩:=e
    clear hq
    obtain ⟨j,hj⟩:∃j,j=r8 % xn:=⟨_,rfl⟩
    have hjl:j<xn:=by rw [hj];exact Nat.mod_lt _ (by omega)
    have hrem2:(r8:Int).tmod (xn:Int)=(j:Int):=by rw [hj];rfl
    have hjl':j<l.length:=by rw [<-HXN.out];exact hjl
    obtain ⟨d0,d1,d2,d3⟩:=hcell j hjl'
    clear d2 d3
    have HOKJ:Hid (CoinOk width l[j].1):=HCO.out l HLM.out _ (List.getElem_mem hjl')
    obtain ⟨cs,cN,hcc⟩:∃cs cN,l[j].1=(cs,cN):=⟨_,_,rfl⟩
    rw [hcc] at d0 d1 HOKJ
    dsimp only at d0 d1
    have hj1:(j:Int)<(xn:Int):=by omega
    have hj0:(0:Int)<=(j:Int):=by omega
    have hz2:((xn:Int) == 0)=false:=by simpa using hz1
    have h762:((r7:Int) == 6)=false:=by simpa using h76
    clear hz hcell hgl hj hcc hjl hjl'
    go_wp2
    rw [set2 _ _ _ _ _ _ _ (HRW.out _ (Tch.refl _ _))]
    refine bodyPost_ret (v:=.agg #[.string cs,.int .i64 cN]) (results_cell_row Tryz.results23 _ _ w.heap.size _ _ (0,0) _ rfl (setRow_heap _ _ _ _ _ _ (HRW.out _ (Tch.refl _ _))) Tryz.underlying49 rfl (by kernel_rfl)) rfl ?_
    exact ⟨HTW.out.trans (Tch.setRow _ _ _) (λj hj=>.inr (by omega)),cs,cN,HOKJ.out,rfl⟩
end Go.Proofs.YtighkdnooglfjaaGreatDoor
