import Derived.Test.YtighkdnooglfjaaGreatDoorBxRfN
import Derived.Test.YtighkdnooglfjaaGreatDoorBxKSpec
import Derived.Test.YtighkdnooglfjaaGreatDoorBxChJ
import Derived.Test.YtighkdnooglfjaaGreatDoorBxKLast
namespace Go.Proofs.YtighkdnooglfjaaGreatDoor
open Tryz
set_option maxRecDepth 100000
set_option maxHeartbeats 4000000
open Go.RowKit

theorem Je4 {wj:Nat} {h:HdL} (k:HdOk wj h):(hdrB h).length=4+3 * wj:=by
 unfold hdrB
 simp only [Qe,Je,QA]
 have h1:h.2.1.data.size=wj:=k.a
 have h2:h.2.2.1.data.size=wj:=k.b
 have h3:h.2.2.2.data.size=wj:=k.c
 omega
theorem JgY {wj base:Nat} {w:World} {rb:Nat} {G:Nat->Prop} {ch:Ch} {vL:Value} {lv:List Lv} {b:BA} (h:RfAt wj base w rb G ch vL lv b) (hl:ch.length<=1000000000):
  Calls prog 118 #[.pointer (some ⟨rb,0,none⟩)] w λe w'=>e=.returned (.int .i64 ((ch.length:Int) - 1))/\Tch NoB w w':=by
 have hne:lv ≠ []:=λe=>by have:=h.len;rw [e] at this;simp at this;omega
 obtain ⟨g,cap,hv,hg,hc⟩:=h.lvs.at hne
 rw [h.len.1] at hv
 subst hv
 have q1:w.cell? ⟨rb,1,none⟩=some (.slice (some ⟨g,0,none⟩) ch.length cap):=Ja h.row
 have h1:=h.len.2
 have hw1:IntKind.i64.wrap ((ch.length:Int) - 1)=(ch.length:Int) - 1:=w63 _ (by omega) (by omega)
 clear hc h
 go_enter func118,ntmps118
 go_wp2
 go_ret
 exact ⟨rfl,Te _ _⟩
theorem Ja3 {wj base:Nat} (hw:wj<=32) {w:World} {rb:Nat} {G:Nat->Prop} {ch:Ch} {vL:Value} {lv:List Lv} {b:BA} (h:RfAt wj base w rb G ch vL lv b) (hl:ch.length<=1000000000) (i:Nat) (c:BA×Option Tr) (hi:ch[i]? =some c):
  Calls prog 183 #[.pointer (some ⟨rb,0,none⟩),.int .i64 (i:Int)] w λe w'=>e=.returned (.string c.1)/\Tch NoB w w':=by
 have hil:i<ch.length:=(Qo.1 hi).1
 have hne:lv ≠ []:=λe=>by have:=h.len;rw [e] at this;simp at this;omega
 obtain ⟨g,cap,hv,hg,hc⟩:=h.lvs.at hne
 obtain ⟨q0,q1,q2,q3⟩:=hc i (by rw [h.len.1];exact hil)
 obtain ⟨hok,hh⟩:=h.hdr i _ c (Qd (by rw [h.len.1];exact hil)) hi
 rw [h.len.1] at hv
 subst hv
 have p1:w.cell? ⟨rb,1,none⟩=some (.slice (some ⟨g,0,none⟩) ch.length cap):=Ja h.row
 have HH:Hid (c.1=_):=hh
 generalize lv[i]'(by rw [h.len.1];exact hil)=x at *
 obtain ⟨⟨xa,xb,xc⟩,xs⟩:=x
 have hlen:=Je4 hok
 have s1:xa.data.toList.length=wj:=by rw [QA];exact hok.a
 have s2:xb.data.toList.length=wj:=by rw [QA];exact hok.b
 have s3:xc.data.toList.length=wj:=by rw [QA];exact hok.c
 have HIN:Hid (∀V,Calls prog 171 #[.int .u64 (i:Int),.int .i64 4] V λe w'=>e=.returned (.string ⟨(beL i 4 4).toArray⟩)/\Tch NoB V w'):=λV=>Ya i 4 V (by omega)
 have hwr:IntKind.u64.wrap (i:Int)=(i:Int):=by simp [IntKind.wrap,IntKind.bits,IntKind.signed];omega
 have a1:=JZ (beL i 4 4) xa.data.toList (by rw [Je];omega)
 have a2:=JZ (beL i 4 4++xa.data.toList) xb.data.toList (by simp only [Qe,Je];omega)
 have a3:=JZ (beL i 4 4++xa.data.toList++xb.data.toList) xc.data.toList (by simp only [Qe,Je];omega)
 have HX:Hid ((⟨(beL i 4 4++xa.data.toList++xb.data.toList++xc.data.toList).toArray⟩:BA)=c.1):=by
  show _=c.1
  rw [HH.o]
  simp [hdrB,lvH]
 simp only [Array.toArray_toList] at a1 a2 a3
 have e1:∀y:BA,(⟨y.data⟩:BA)=y:=λy=>rfl
 rw [e1] at a1 a2 a3
 generalize (⟨(beL i 4 4++xa.data.toList++xb.data.toList++xc.data.toList).toArray⟩:BA)=X3 at *
 generalize (⟨(beL i 4 4++xa.data.toList++xb.data.toList).toArray⟩:BA)=X2 at *
 generalize (⟨(beL i 4 4++xa.data.toList).toArray⟩:BA)=X1 at *
 generalize (⟨(beL i 4 4).toArray⟩:BA)=X0 at *
 have hii:(i:Int)<(ch.length:Int):=by omega
 clear hc h hok hh hlen HH s1 s2 s3
 simp only at q0 q1 q2 q3
 go_enter func183,ntmps183
 go_wp2_with fail
 have HBX:Hid (∀V,Tch NoB (w.alloc (.cells #[.string xa,.string xb,.string xc,.slice xs.1 xs.2.1 xs.2.2] 205)) V->V.cell? ⟨w.heap.size,0,none⟩=some (.string xa)/\V.cell? ⟨w.heap.size,1,none⟩=some (.string xb)/\V.cell? ⟨w.heap.size,2,none⟩=some (.string xc)):=λV hV=>by
  have hr:=(hV.block _ (by simp) (λh=>h)).trans (Qf w (.cells #[.string xa,.string xb,.string xc,.slice xs.1 xs.2.1 xs.2.2] 205))
  exact ⟨Ja hr,Ja hr,Ja hr⟩
 have HAL:Hid (Tch NoB w (w.alloc (.cells #[.string xa,.string xb,.string xc,.slice xs.1 xs.2.1 xs.2.2] 205))):=Ta _ _ _
 obtain ⟨wA,hwA⟩:∃wA,wA=w.alloc (.cells #[.string xa,.string xb,.string xc,.slice xs.1 xs.2.1 xs.2.2] 205):=⟨_,rfl⟩
 rw [<-hwA] at HBX HAL
 rw [<-hwA]
 clear hwA q0 q1 q2 q3 p1
 obtain ⟨z0,z1,z2⟩:=HBX.o wA (Te _ _)
 go_region_held3 (λV=>V.cell? ⟨w.heap.size,0,none⟩=some (.string xa)/\V.cell? ⟨w.heap.size,1,none⟩=some (.string xb)/\V.cell? ⟨w.heap.size,2,none⟩=some (.string xc)) (go_keep) ((go_at_call 171;refine (HIN.o _).mono ?_;rintro _ w1 ⟨rfl,ht1⟩;have HT1:Hid (Tch NoB wA w1):=(Td NoB wA 1).trans ht1 (λ_ h=>.inl h);obtain ⟨y0,y1,y2⟩:=HBX.o w1 HT1.o;clear ht1))
 all_goals
  go_wp2
  go_ret
  exact ⟨by rw [<-HX.o];rfl,HAL.o.trans HT1.o noE⟩
theorem r_id (hD:DgC) {wj base:Nat} (hw1:1<=wj) (hw:wj<=32) {w:World} {rb:Nat} {G:Nat->Prop} {ch:Ch} {vL:Value} {lv:List Lv} {b:BA} (h:RfAt wj base w rb G ch vL lv b) (hl:ch.length<=1000000000) (i:Nat) (c:BA×Option Tr) (hi:ch[i]? =some c):
  Calls prog 172 #[.pointer (some ⟨rb,0,none⟩),.int .i64 (i:Int)] w λe w'=>e=.returned (.string (dgW wj (72 :: c.1.data.toList)))/\Tch NoB w w':=by
 have hil:i<lv.length:=by rw [h.len.1];exact (Qo.1 hi).1
 obtain ⟨hok,hh⟩:=h.hdr i _ c (Qd hil) hi
 have hlen:=Je4 hok
 have hcs:c.1.data.toList.length=4+3 * wj:=by rw [hh];simpa using hlen
 have HHT:Hid (∀V,Tch NoB w V->Calls prog 183 #[.pointer (some ⟨rb,0,none⟩),.int .i64 (i:Int)] V λe w'=>e=.returned (.string c.1)/\Tch NoB V w'):=λV hV=>Ja3 hw (h.tch hV (λ_ e=>e.elim)) hl i c hi
 have HP:Hid (∀V,Tch NoB w V->V.cell? ⟨rb,0,none⟩=some (.int .i64 (wj:Int))):=λV hV=>Ja (h.tch hV (λ_ e=>e.elim)).row
 have a1:=JZ [72] c.1.data.toList (by rw [hcs];simp;omega)
 simp only [Array.toArray_toList] at a1
 have e1:∀y:BA,(⟨y.data⟩:BA)=y:=λy=>rfl
 rw [e1] at a1
 have a1':∀W,(Op.stringOp .add (⟨#[72]⟩:BA) c.1).run prog W=.ok (.string ⟨(72 :: c.1.data.toList).toArray⟩) W:=a1
 have HDG:Hid (∀V,Calls prog 103 #[.int .i64 (wj:Int),.string ⟨(72 :: c.1.data.toList).toArray⟩] V λe w'=>e=.returned (.string (dgW wj (72 :: c.1.data.toList)))/\Tch NoB V w'):=λV=>hD wj ⟨(72 :: c.1.data.toList).toArray⟩ V hw1 hw (by rw [Jk,Qp,hcs];omega)
 obtain ⟨D,hDD⟩:∃D,D=dgW wj (72 :: c.1.data.toList):=⟨_,rfl⟩
 rw [<-hDD] at HDG
 rw [<-hDD]
 clear hDD
 generalize (⟨(72 :: c.1.data.toList).toArray⟩:BA)=X at *
 have z0:=HP.o w (Te _ _)
 clear h hok hh hlen hcs a1 e1
 generalize c.1=c1 at *
 go_enter func172,ntmps172
 go_wp2_with fail
 go_region_held3 (λV=>V.cell? ⟨rb,0,none⟩=some (.int .i64 (wj:Int))) (go_keep) ((first | (go_at_call 183;refine (HHT.o _ (Td _ _ 1)).mono ?_;rintro _ w1 ⟨rfl,ht1⟩;have HT1:Hid (Tch NoB w w1):=(Td NoB w 1).trans ht1 (λ_ h=>.inl h);have y0:=HP.o w1 HT1.o;clear ht1) | (go_at_call 103;refine (HDG.o _).mono ?_;rintro _ w2 ⟨rfl,ht2⟩;have HT2:Hid (Tch NoB w w2):=HT1.o.trans ht2 (λ_ h=>.inl h);have x0:=HP.o w2 HT2.o;clear ht2)))
 all_goals
  go_wp2
  go_ret
  exact ⟨rfl,HT2.o⟩
theorem Jjr {wj base:Nat} (hw:wj<=32) {w:World} {rb:Nat} {G:Nat->Prop} {ch:Ch} {vL:Value} {lv:List Lv} {b:BA} (h:RfAt wj base w rb G ch vL lv b) (hl:ch.length<=1000000000) (n:Int) (hn1: -9223372036854775808<=n) (hn2:n<9223372036854775808):
  Calls prog 119 #[.pointer (some ⟨rb,0,none⟩),.int .i64 n] w λe w'=>e=.returned (.tuple #[.string (ZE ch n),.int .i64 (if 0<=n/\n<(ch.length:Int) then 0 else 7)])/\Tch NoB w w':=by
 have HTP:Hid (∀V,Tch NoB w V->Calls prog 118 #[.pointer (some ⟨rb,0,none⟩)] V λe w'=>e=.returned (.int .i64 ((ch.length:Int) - 1))/\Tch NoB V w'):=λV hV=>JgY (h.tch hV (λ_ e=>e.elim)) hl
 have h1:=h.len.2
 by_cases hneg:n<0
 ·have HX:Hid (ZE ch n=⟨#[]⟩/\(if 0<=n/\n<(ch.length:Int) then (0:Int) else 7)=7):=⟨by unfold ZE;rw [if_neg (by omega)],if_neg (by omega)⟩
  clear h
  go_enter func119,ntmps119
  go_wp2
  go_ret2
  refine ⟨?_,Te _ _⟩
  first | rw [HX.o.1,HX.o.2] | rw [HX.o.1]
  rfl
 ·by_cases hgt:(ch.length:Int) - 1<n
  ·have HX:Hid (ZE ch n=⟨#[]⟩/\(if 0<=n/\n<(ch.length:Int) then (0:Int) else 7)=7):=by
    refine ⟨?_,if_neg (by omega)⟩
    unfold ZE
    rw [if_pos (by omega),Qn,List.getElem?_eq_none (by omega)]
    rfl
   clear h
   go_enter func119,ntmps119
   go_wp2_with (go_at_call 118;refine (HTP.o _ (Te _ _)).mono ?_;rintro _ w1 ⟨rfl,ht1⟩;have HT1:Hid (Tch NoB w w1):=ht1;clear ht1)
   go_ret2
   refine ⟨?_,HT1.o⟩
   first | rw [HX.o.1,HX.o.2] | rw [HX.o.1]
   rfl
  ·obtain ⟨i,rfl⟩:∃i:Nat,n=(i:Int):=⟨n.toNat,by omega⟩
   have hic:i<ch.length:=by omega
   have hi:=Qd hic
   have HHT:Hid (∀V,Tch NoB w V->Calls prog 183 #[.pointer (some ⟨rb,0,none⟩),.int .i64 (i:Int)] V λe w'=>e=.returned (.string ch[i].1)/\Tch NoB V w'):=λV hV=>Ja3 hw (h.tch hV (λ_ e=>e.elim)) hl i ch[i] hi
   have HX:Hid (ZE ch (i:Int)=ch[i].1/\(if 0<=(i:Int)/\(i:Int)<(ch.length:Int) then (0:Int) else 7)=0):=by
    refine ⟨?_,if_pos (by omega)⟩
    unfold ZE
    rw [if_pos (by omega),Int.toNat_natCast,Qn,hi]
    rfl
   generalize ch[i].1=c1 at *
   clear h hn1 hn2 hi
   go_enter func119,ntmps119
   go_wp2_with (first | (go_at_call 118;refine (HTP.o _ (Te _ _)).mono ?_;rintro _ w1 ⟨rfl,ht1⟩;have HT1:Hid (Tch NoB w w1):=ht1;clear ht1) | (go_at_call 183;refine (HHT.o _ HT1.o).mono ?_;rintro _ w2 ⟨rfl,ht2⟩;have HT2:Hid (Tch NoB w w2):=HT1.o.trans ht2 (λ_ h=>.inl h);clear ht2))
   go_ret2
   refine ⟨?_,HT2.o⟩
   first | rw [HX.o.1,HX.o.2] | rw [HX.o.1]
   rfl

theorem JiK {n:Nat} (h:n<=32) (l:List UInt8):(dgW n l).data.toList.length=n:=by rw [QA];exact Jq n h l

theorem Jjy (hD:DgC) (k c:List UInt8) (hk:k.length=1) (hc:c.length<=100000) (w:World):
  Calls prog 169 #[.string ⟨k.toArray⟩,.string ⟨c.toArray⟩] w λe w'=>e=.returned (.string ⟨(recB k c).toArray⟩)/\Tch NoB w w':=by
 have HIN:Hid (∀V,Calls prog 171 #[.int .u64 (c.length:Int),.int .i64 2] V λe w'=>e=.returned (.string ⟨(beL c.length 2 2).toArray⟩)/\Tch NoB V w'):=λV=>Ya c.length 2 V (by omega)
 have hwr:IntKind.u64.wrap (c.length:Int)=(c.length:Int):=by simp [IntKind.wrap,IntKind.bits,IntKind.signed];omega
 have hsz:(⟨c.toArray⟩:BA).size=c.length:=Jk c
 have a1:=JZ k (beL c.length 2 2) (by rw [Je];omega)
 have a2:=JZ (k++beL c.length 2 2) c (by rw [Qe,Je];omega)
 have e1:k++beL c.length 2 2++c=recA k c:=by unfold recA;simp
 rw [e1] at a2
 have hra:(recA k c).length=3+c.length:=by rw [<-e1];simp [Je];omega
 obtain ⟨D,hD4,hDs⟩:∃D:BA,dgW 4 (recA k c)=D/\D.data.toList.length=4:=⟨_,rfl,JiK (by omega) _⟩
 have a3:=JZ (recA k c) D.data.toList (by omega)
 simp only [Array.toArray_toList] at a3
 have e2:∀y:BA,(⟨y.data⟩:BA)=y:=λy=>rfl
 rw [e2] at a3
 have HDG:Hid (∀V,Calls prog 103 #[.int .i64 4,.string ⟨(recA k c).toArray⟩] V λe w'=>e=.returned (.string D)/\Tch NoB V w'):=λV=>by
  have:=hD 4 ⟨(recA k c).toArray⟩ V (by omega) (by omega) (by rw [Jk];omega)
  rw [show (⟨(recA k c).toArray⟩:BA).data.toList=recA k c from rfl,hD4] at this
  exact this
 have HX:Hid ((⟨(recA k c++D.data.toList).toArray⟩:BA)=⟨(recB k c).toArray⟩):=by
  show _=_
  unfold recB
  rw [hD4]
 clear hD4 hDs
 generalize (⟨(recA k c++D.data.toList).toArray⟩:BA)=X3 at *
 generalize (⟨(recA k c).toArray⟩:BA)=X2 at *
 generalize (⟨(k++beL c.length 2 2).toArray⟩:BA)=X1 at *
 generalize (⟨(beL c.length 2 2).toArray⟩:BA)=X0 at *
 clear e1 e2 hra
 generalize (⟨c.toArray⟩:BA)=cb at *
 generalize (⟨k.toArray⟩:BA)=kb at *
 go_enter func169,ntmps169
 go_wp2_with (first | (go_at_call 171;refine (HIN.o _).mono ?_;rintro _ w1 ⟨rfl,ht1⟩;have HT1:Hid (Tch NoB w w1):=ht1;clear ht1) | (go_at_call 103;refine (HDG.o _).mono ?_;rintro _ w2 ⟨rfl,ht2⟩;have HT2:Hid (Tch NoB w w2):=HT1.o.trans ht2 (λ_ h=>.inl h);clear ht2))
 go_ret
 exact ⟨by rw [<-HX.o];rfl,HT2.o⟩
theorem JcM (k c:List UInt8) (hk:k.length=1):(recB k c).length=7+c.length:=by
 unfold recB
 obtain ⟨D,hD4,hDs⟩:∃D:BA,dgW 4 (recA k c)=D/\D.data.toList.length=4:=⟨_,rfl,JiK (by omega) _⟩
 rw [hD4,Qe,hDs]
 unfold recA
 rw [Qe,Qe,Je]
 omega
theorem JgW (hD:DgC) (k c:List UInt8) (hk:k.length=1) (hc:c.length<=100000) (w:World) (rb:Nat) (x y z:Value) (b:BA) (hb:b.size<=1100000000) (hrow:w.heap[rb]? =some (.cells #[x,y,z,.string b] 208)):
  Calls prog 107 #[.pointer (some ⟨rb,0,none⟩),.string ⟨k.toArray⟩,.string ⟨c.toArray⟩] w λe w'=>e=.returned (.tuple #[])/\Tch (λj=>j=rb) w w'/\w'.heap[rb]? =some (.cells #[x,y,z,.string (b++⟨(recB k c).toArray⟩)] 208):=by
 have HRC:Hid (∀V,Calls prog 169 #[.string ⟨k.toArray⟩,.string ⟨c.toArray⟩] V λe w'=>e=.returned (.string ⟨(recB k c).toArray⟩)/\Tch NoB V w'):=λV=>Jjy hD k c hk hc V
 have hl:=JcM k c hk
 have hadd:∀W,(Op.stringOp .add b (⟨(recB k c).toArray⟩:BA)).run prog W=.ok (.string (b++⟨(recB k c).toArray⟩)) W:=λW=>run_string_add_sum (P:=prog) W b _ (by
  have h2:(⟨(recB k c).toArray⟩:BA).size=7+c.length:=by rw [Jk,hl]
  rw [h2]
  omega)
 have HRW:Hid (w.heap[rb]? =some (.cells #[x,y,z,.string b] 208)):=hrow
 have HV:Hid (∀V,Tch NoB w V->V.heap[rb]? =some (.cells #[x,y,z,.string b] 208)):=λV hV=>(hV.block _ (Jb HRW.o) (λh=>h)).trans HRW.o
 have q3:w.cell? ⟨rb,3,none⟩=some (.string b):=Ja hrow
 clear hrow
 generalize (⟨(recB k c).toArray⟩:BA)=R at *
 generalize (⟨c.toArray⟩:BA)=cb at *
 generalize (⟨k.toArray⟩:BA)=kb at *
 generalize hBR:b++R=BR at *
 clear hBR
 go_enter func107,ntmps107
 go_wp2_with fail
 refine Xd (S:=λV=>V.cell? ⟨rb,3,none⟩=some (.string b)/\Hid (Tch NoB w V)) 20 (by simp) (by kernel_rfl) (by kernel_rfl) ⟨q3,Td _ _ 1⟩ ?_
 intro hHeld l o hl ho
 simp only [List.dropLast_cons_cons,List.dropLast_singleton] at hl
 simp only [List.getLast_cons_cons,List.getLast_singleton] at ho
 subst hl
 subst ho
 simp only [Qp,Qv,Nat.reduceAdd]
 refine Ji (i:=0) (v:=?vc0) rfl (by kernel_rfl) (by kernel_rfl) (by kernel_rfl) (λ_ _ _ h=>h) rfl ?hc0 (by assumption) ?rc0
 case hc0=>(intro W hSW;(try dsimp only at hSW);go_simp;(try with_reducible rfl))
 simp only [Act.put,Qa,Qb,Qc]
 refine Ji (i:=1) (v:=?vc1) rfl (by kernel_rfl) (by kernel_rfl) (by kernel_rfl) (λ_ _ _ h=>h) rfl ?hc1 (by assumption) ?rc1
 case hc1=>(intro W hSW;(try dsimp only at hSW);go_simp;(try with_reducible rfl))
 simp only [Act.put,Qa,Qb,Qc]
 refine Ji (i:=2) (v:=?vc2) rfl (by kernel_rfl) (by kernel_rfl) (by kernel_rfl) (λ_ _ _ h=>h) rfl ?hc2 (by assumption) ?rc2
 case hc2=>(intro W hSW;(try dsimp only at hSW);go_simp;(try with_reducible rfl))
 simp only [Act.put,Qa,Qb,Qc]
 refine Ji (i:=3) (v:=?vc3) rfl (by kernel_rfl) (by kernel_rfl) (by kernel_rfl) (λ_ _ _ h=>h) rfl ?hc3 (by assumption) ?rc3
 case hc3=>(intro W hSW;(try dsimp only at hSW);go_simp;(try with_reducible rfl))
 simp only [Act.put,Qa,Qb,Qc]
 refine Ji (i:=4) (v:=?vc4) rfl (by kernel_rfl) (by kernel_rfl) (by kernel_rfl) (λ_ _ _ h=>h) rfl ?hc4 (by assumption) ?rc4
 case hc4=>(intro W hSW;(try dsimp only at hSW);go_simp;(try with_reducible rfl))
 simp only [Act.put,Qa,Qb,Qc]
 refine Ji (i:=5) (v:=?vc5) rfl (by kernel_rfl) (by kernel_rfl) (by kernel_rfl) (λ_ _ _ h=>h) rfl ?hc5 (by assumption) ?rc5
 case hc5=>(intro W hSW;(try dsimp only at hSW);go_simp;(try with_reducible rfl))
 simp only [Act.put,Qa,Qb,Qc]
 refine Ji (i:=6) (v:=?vc6) rfl (by kernel_rfl) (by kernel_rfl) (by kernel_rfl) (λ_ _ _ h=>h) rfl ?hc6 (by assumption) ?rc6
 case hc6=>(intro W hSW;(try dsimp only at hSW);go_simp;(try with_reducible rfl))
 simp only [Act.put,Qa,Qb,Qc]
 refine JbQ (i:=7) rfl (by kernel_rfl) (λK hK=>?_)
 go_simp
 go_at_call 169;refine (HRC.o _).mono ?_;rintro _ w1 ⟨rfl,ht1⟩;have HT1:Hid (Tch NoB w w1):=(hHeld.2.out.trans ht1 (λ_ h=>.inl h));have hr1:=HV.o w1 HT1.o;have q1:w1.cell? ⟨rb,3,none⟩=some (.string b):=Ja hr1;have z1:w1.frozen? ⟨rb,3,none⟩=false:=(by simp [World.frozen?,hr1]);have HS1:Hid (w1.setCell ⟨rb,3,none⟩ (.string BR)=w1.setRow rb #[x,y,z,.string BR]):=Qj w1 rb 3 _ _ _ _ hr1;have HR1:Hid (w1.heap[rb]? =_):=hr1;clear ht1 hr1
 refine hK.out _ _ ⟨q1,HT1⟩ (λ_=>?_)
 clear hK K
 try simp only [Act.put,Qa,Qb,Qc]
 refine Ji (i:=8) (v:=?vc8) rfl (by kernel_rfl) (by kernel_rfl) (by kernel_rfl) (λ_ _ _ h=>h) rfl ?hc8 (by assumption) ?rc8
 case hc8=>(intro W hSW;(try dsimp only at hSW);go_simp;(try with_reducible rfl))
 simp only [Act.put,Qa,Qb,Qc]
 refine Ji (i:=9) (v:=?vc9) rfl (by kernel_rfl) (by kernel_rfl) (by kernel_rfl) (λ_ _ _ h=>h) rfl ?hc9 (by assumption) ?rc9
 case hc9=>(intro W hSW;(try dsimp only at hSW);go_simp;(try with_reducible rfl))
 simp only [Act.put,Qa,Qb,Qc]
 refine Ji (i:=10) (v:=?vc10) rfl (by kernel_rfl) (by kernel_rfl) (by kernel_rfl) (λ_ _ _ h=>h) rfl ?hc10 (by assumption) ?rc10
 case hc10=>(intro W hSW;(try dsimp only at hSW);go_simp;(try with_reducible rfl))
 simp only [Act.put,Qa,Qb,Qc]
 refine wpAnyH_done (by kernel_rfl) ?_ _
 show wpList _ _ _ [_] _ _
 go_wp2
 refine bodyPost_end (v:=.tuple #[]) (results_none results107 _ _ _) rfl ?_
 refine ⟨rfl,?_,?_⟩
 ·rw [HS1.o]
  exact (HT1.o.mono noE).trans (Ts _ _ _) (λ_ h=>.inl h)
 ·rw [HS1.o]
  exact Qi _ _ _ _ _ _ HR1.o

def RLv (wj:Nat) (ch:Ch) (ts:List TxL) (G:Nat->Prop) (w:World) (e:Ending) (w':World):Prop:=
 Tch NoB w w'/\match JA (dgW wj) ch.last.2 ts with
 | .error er=>e=.returned (.tuple #[.agg #[.string ⟨#[]⟩,.string ⟨#[]⟩,.string ⟨#[]⟩,.slice none 0 0],.int .i64 (Xj er)])
 | .ok st=>∃(s:Sl) (l:List Held),e=.returned (.tuple #[.agg #[.string (dgW wj (72 :: ch.last.1.data.toList)),.string (dgW wj (66 :: JB ts)),.string (JV (dgW wj) st),.slice s.1 s.2.1 s.2.2],.int .i64 0])/\RhAt w' (.slice s.1 s.2.1 s.2.2) l/\Book wj st l/\l.length<=9 * (ch.length+1)/\∀j,(Value.slice s.1 s.2.1 s.2.2).ownBlock=some j->G j\/w.heap.size<=j
theorem Jja {w:World} {g:Nat} {a b c d:Value} {T:TypeId} (h:w.heap[g]? =some (.cells #[a,b,c,d] T)) (x0 x1 x2 x3:Value):
  ((((w.setCell ⟨g,0,none⟩ x0).setCell ⟨g,1,none⟩ x1).setCell ⟨g,2,none⟩ x2).setCell ⟨g,3,none⟩ x3).heap[g]? =some (.cells #[x0,x1,x2,x3] T)/\Tch (λx=>x=g) w ((((w.setCell ⟨g,0,none⟩ x0).setCell ⟨g,1,none⟩ x1).setCell ⟨g,2,none⟩ x2).setCell ⟨g,3,none⟩ x3):=by
 have h0:=Qi w g _ #[x0,b,c,d] T _ h
 have e0:w.setCell ⟨g,0,none⟩ x0=w.setRow g #[x0,b,c,d]:=Qj w g 0 _ _ _ _ h
 rw [<-e0] at h0
 have t0:Tch (λx=>x=g) w (w.setCell ⟨g,0,none⟩ x0):=by rw [e0];exact Ts _ _ _
 generalize w.setCell ⟨g,0,none⟩ x0=w0 at *
 have h1:=Qi w0 g _ #[x0,x1,c,d] T _ h0
 have e1:w0.setCell ⟨g,1,none⟩ x1=w0.setRow g #[x0,x1,c,d]:=Qj w0 g 1 _ _ _ _ h0
 rw [<-e1] at h1
 have t1:Tch (λx=>x=g) w (w0.setCell ⟨g,1,none⟩ x1):=by rw [e1];exact t0.trans (Ts _ _ _) (λ_ h=>.inl h)
 generalize w0.setCell ⟨g,1,none⟩ x1=w1 at *
 have h2:=Qi w1 g _ #[x0,x1,x2,d] T _ h1
 have e2:w1.setCell ⟨g,2,none⟩ x2=w1.setRow g #[x0,x1,x2,d]:=Qj w1 g 2 _ _ _ _ h1
 rw [<-e2] at h2
 have t2:Tch (λx=>x=g) w (w1.setCell ⟨g,2,none⟩ x2):=by rw [e2];exact t1.trans (Ts _ _ _) (λ_ h=>.inl h)
 generalize w1.setCell ⟨g,2,none⟩ x2=w2 at *
 have h3:=Qi w2 g _ #[x0,x1,x2,x3] T _ h2
 have e3:w2.setCell ⟨g,3,none⟩ x3=w2.setRow g #[x0,x1,x2,x3]:=Qj w2 g 3 _ _ _ _ h2
 rw [<-e3] at h3
 exact ⟨h3,by rw [e3];exact t2.trans (Ts _ _ _) (λ_ h=>.inl h)⟩
theorem Jfa (ch:Ch) (h:1<=ch.length):ch[ch.length - 1]? =some ch.last:=by
 unfold Ch.last
 rw [List.getLastD_eq_getLast?,List.getLast?_eq_getElem?,Qd (by omega)]
 rfl
theorem Jdq (wj:Nat) (hw:wj<=32) (ts:List TxL) (h:∀t∈ts,TxOk wj t) (h3:ts.length<=3):(JB ts).length<=601:=by
 have:=Jbq wj hw ts h ts.length
 rw [Jbp] at this
 omega
theorem JgV (hD:DgC) {wj base:Nat} (hw1:1<=wj) (hw:wj<=32) {w:World} {rb:Nat} {G:Nat->Prop} {ch:Ch} {vL:Value} {lv:List Lv} {b:BA} (h:RfAt wj base w rb G ch vL lv b) (hl:ch.length<=10000000) (B:Nat) (v:Value) (ts:List TxL) (sl:List (Sl×Sl)) (h3:ts.length<=3) (ho:∀t∈ts,TxOk wj t) (hv:TxsR B w v sl) (hs:TxIs B w ts sl):
  Calls prog 173 #[.pointer (some ⟨rb,0,none⟩),v] w (RLv wj ch ts G w):=by
 have h1:=h.len.2
 have hlg:=Jfa ch h1
 have hil:ch.length - 1<lv.length:=by rw [h.len.1];omega
 obtain ⟨l0,hR0,hB0,hL0⟩:=h.coins (ch.length - 1) _ _ (Qd hil) hlg
 have hcG:=h.cG _ (Qx hil)
 have hne:lv ≠ []:=λe=>by have:=h.len;rw [e] at this;simp at this;omega
 obtain ⟨g,cap,hvL,hg,hc⟩:=h.lvs.at hne
 rw [h.len.1] at hvL
 subst hvL
 have q3:=(hc (ch.length - 1) hil).2.2.2
 obtain ⟨m,hm⟩:∃m:Nat,ch.length=m+1:=⟨ch.length - 1,by omega⟩
 have hm1:ch.length - 1=m:=by omega
 obtain ⟨s0,hs0⟩:∃s0:Sl,(lv[ch.length - 1]'hil).2=s0:=⟨_,rfl⟩
 rw [hs0] at hR0 hcG q3
 rw [hm1] at hlg q3
 obtain ⟨a0,c0,hsh⟩:=hR0.shape
 simp only [Qy] at hsh
 obtain ⟨sa,sb,sc⟩:=s0
 simp only at hR0 hcG q3 hsh
 obtain ⟨rfl,rfl,rfl⟩:=hsh
 have HRF:Hid (∀V,Tch NoB w V->RfAt wj base V rb G ch (.slice (some ⟨g,0,none⟩) ch.length cap) lv b):=λV hV=>h.tch hV (λ_ e=>e.elim)
 have HTP:Hid (∀V,Tch NoB w V->Calls prog 118 #[.pointer (some ⟨rb,0,none⟩)] V λe w'=>e=.returned (.int .i64 (m:Int))/\Tch NoB V w'):=λV hV=>by
  have:=JgY (HRF.o V hV) (by omega)
  rw [show (ch.length:Int) - 1=(m:Int) by omega] at this
  exact this
 have HID:Hid (∀V,Tch NoB w V->Calls prog 172 #[.pointer (some ⟨rb,0,none⟩),.int .i64 (m:Int)] V λe w'=>e=.returned (.string (dgW wj (72 :: ch.last.1.data.toList)))/\Tch NoB V w'):=λV hV=>r_id hD hw1 hw (HRF.o V hV) (by omega) m ch.last hlg
 have HP:Hid (∀V,Tch NoB w V->V.cell? ⟨rb,0,none⟩=some (.int .i64 (wj:Int))/\V.cell? ⟨rb,1,none⟩=some (.slice (some ⟨g,0,none⟩) ch.length cap)/\V.cell? ⟨g,m * 4+3,none⟩=some (.slice sa l0.length sc)):=λV hV=>by
  have hr:=(HRF.o V hV).row
  exact ⟨Ja hr,Ja hr,(hV.cell (p:=⟨g,m * 4+3,none⟩) hg (λe=>e)).trans q3⟩
 have HBT:Hid (∀V,Tch NoB w V->Calls prog 256 #[v] V λe w'=>e=.returned (.string ⟨(JB ts).toArray⟩)/\Tch NoB V w'):=λV hV=>JcE wj hw B v ts sl h3 ho V (hv.tch hV (λ_ e=>e.elim)) ⟨hs.1,λi h1 h2=>⟨(hs.2 i h1 h2).1.tch hV (λ_ e=>e.elim),(hs.2 i h1 h2).2.tch hV (λ_ e=>e.elim)⟩⟩
 have HV:Hid (TxsR B w v sl):=hv
 have HSL:Hid (TxIs B w ts sl):=hs
 have hsl:=hs.1
 have HO:Hid (∀t∈ts,TxOk wj t):=ho
 have HR0:Hid (RhAt w (.slice sa l0.length sc) l0):=hR0
 have HB0:Hid (Book wj ch.last.2 l0):=hB0
 have HCG:Hid (∀j,(Value.slice sa l0.length sc).ownBlock=some j->G j):=hcG
 have hL0':l0.length<=9 * ch.length:=by omega
 obtain ⟨va,vc,hva⟩:=hv.shape
 subst hva
 have hmi:(m:Int)<(ch.length:Int):=by omega
 have hbl:=Jdq wj hw ts ho h3
 have HM:Hid (ch.length=m+1/\ts.length=sl.length):=⟨hm,hsl⟩
 clear hm hm1 hsl
 clear h hc hR0 hB0 hL0 hcG hv hs ho q3 hs0 hil hne
 obtain ⟨z0,z1,z2⟩:=HP.o w (Te _ _)
 go_enter func173,ntmps173
 go_wp2_with fail
 obtain ⟨wA,hwA⟩:∃wA,wA=w.alloc (.cells #[.string ⟨#[]⟩,.string ⟨#[]⟩,.string ⟨#[]⟩,.slice none 0 0] 205):=⟨_,rfl⟩
 have HTA:Hid (Tch NoB w wA):=by rw [hwA];exact Ta _ _ _
 have HBA:Hid (wA.heap[w.heap.size]? =some (.cells #[.string ⟨#[]⟩,.string ⟨#[]⟩,.string ⟨#[]⟩,.slice none 0 0] 205)):=by rw [hwA];exact Qf _ _
 rw [<-hwA]
 clear hwA z0 z1 z2
 obtain ⟨z0,z1,z2⟩:=HP.o wA HTA.o
 go_cut [6] (λv wx=>v=.slice sa l0.length sc/\Hid (Tch NoB wA wx))
 case first=>
  go_region_held3 (λV=>V.cell? ⟨rb,1,none⟩=some (.slice (some ⟨g,0,none⟩) ch.length cap)/\V.cell? ⟨g,m * 4+3,none⟩=some (.slice sa l0.length sc)) (go_keep) ((go_at_call 118;refine (HTP.o _ (HTA.o.trans (Td _ _ 1) (λ_ h=>.inl h))).mono ?_;rintro _ w1 ⟨rfl,ht1⟩;have HT1:Hid (Tch NoB wA w1):=(Td NoB wA 1).trans ht1 (λ_ h=>.inl h);have y:=HP.o w1 (HTA.o.trans HT1.o (λ_ h=>.inl h));obtain ⟨y0,y1,y2⟩:=y;clear ht1))
  all_goals
   go_wp2
   go_meet
   exact ⟨rfl,HT1⟩
 case rest=>
 obtain ⟨rfl,HTB⟩:=hcut
 obtain ⟨wB,hwB⟩:∃wB,wB=wc:=⟨wc,rfl⟩
 subst hwB
 clear z0 z1 z2
 have HR1:Hid (RhAt wB (.slice sa l0.length sc) l0):=HR0.o.tch0 (HTA.o.trans HTB.o (λ_ h=>.inl h))
 go_wp2
 go_loopw [6,7] (λvn i wr=>∃(k:Nat) (lk:List Held) (sk:Option Tr) (na:Option Addr) (nc:Nat),k<=ts.length/\i=.int .i64 k/\vn=.slice na lk.length nc/\Hid (RhAt wr (.slice na lk.length nc) lk)/\Hid (Book wj sk lk)/\Hid (JA (dgW wj) ch.last.2 ts=JA (dgW wj) sk (ts.drop k))/\lk.length<=l0.length+3 * k/\Hid (∀j,(Value.slice na lk.length nc).ownBlock=some j->G j\/w.heap.size<j)/\Hid (Tch NoB wA wr)) (λ_ i _=>ts.length - (intOf i).toNat)
 case atStart=>exact ⟨0,l0,ch.last.2,sa,sc,by omega,rfl,rfl,HR1,HB0,rfl,by omega,λj hj=>.inl (HCG.o j hj),HTB⟩
 case round=>
  clear HR1 HTB HR0 HB0 HCG
  obtain ⟨k,lk,sk,na,nc,hk,rfl,rfl,HRK,HBK,HAK,hlk,HGK,HTK⟩:=hrel
  by_cases hlt:k<ts.length
  ·have hlt2:k<sl.length:=by have:=HM.o.2;omega
   rcases HV.o with ⟨e,e2⟩ | ⟨gi,oi,cc,e,_,hgi,hcell⟩
   ·rw [e2] at hlt2;simp at hlt2
   simp only [Qy,true_and] at e
   obtain ⟨rfl,rfl⟩:=e
   obtain ⟨f0,f1⟩:=hcell k hlt2
   have HTW:Hid (Tch NoB w wr):=HTA.o.trans HTK.o (λ_ h=>.inl h)
   have q0:=(HTW.o.cell (p:=⟨gi,oi+k * 2,none⟩) hgi (λh=>h)).trans f0
   have q1:=(HTW.o.cell (p:=⟨gi,oi+k * 2+1,none⟩) hgi (λh=>h)).trans f1
   have hlti:(k:Int)<(sl.length:Int):=by omega
   obtain ⟨p1,p2⟩:=HSL.o.2 k hlt hlt2
   have hok:=HO.o _ (Qx hlt)
   have HAP:Hid (∀V,Tch NoB wr V->Calls prog 255 #[.int .i64 (wj:Int),.slice na lk.length nc,.agg #[.slice sl[k].1.1 sl[k].1.2.1 sl[k].1.2.2,.slice sl[k].2.1 sl[k].2.2.1 sl[k].2.2.2]] V (RAp wj sk lk ts[k] V)):=λV hV=>JhT hD wj hw1 hw _ lk sk B _ _ ts[k] V (HRK.o.tch0 hV) HBK.o hok (p1.tch (HTW.o.trans hV (λ_ h=>.inl h)) (λ_ e=>e.elim)) (p2.tch (HTW.o.trans hV (λ_ h=>.inl h)) (λ_ e=>e.elim)) (by omega)
   have HDP:Hid (ts.drop k=ts[k] :: ts.drop (k+1)):=List.drop_eq_getElem_cons hlt
   clear hcell f0 f1 p1 p2 hok
   generalize sl[k].1.1=y1 at *
   generalize sl[k].1.2.1=y2 at *
   generalize sl[k].1.2.2=y3 at *
   generalize sl[k].2.1=y4 at *
   generalize sl[k].2.2.1=y5 at *
   generalize sl[k].2.2.2=y6 at *
   generalize ts[k]=t at *
   obtain ⟨z0,z1,z2⟩:=HP.o wr HTW.o
   cases hap:JD (dgW wj) sk t with
   | error er=>
    have HAP2:Hid (∀V,Tch NoB wr V->Calls prog 255 #[.int .i64 (wj:Int),.slice na lk.length nc,.agg #[.slice y1 y2 y3,.slice y4 y5 y6]] V λe w'=>e=.returned (.tuple #[.slice none 0 0,.int .i64 (Xj er)])/\Tch NoB V w'):=λV hV=>(HAP.o V hV).mono (by
     rintro e w' ⟨h1,h2⟩
     rw [hap] at h2
     exact ⟨h2,h1⟩)
    have HEND:Hid (JA (dgW wj) ch.last.2 ts=.error er):=by
     show JA _ _ _=_
     rw [HAK.o,HDP.o]
     simp only [JA,hap]
    have hne:¬Xj er=0:=by cases er <;> decide
    clear HAP hap HDP HAK
    go_upto_region 5 with fail
    go_cut [8,9] (λv8 v9 wx=>v8=.slice none 0 0/\v9=.int .i64 (Xj er)/\Hid (Tch NoB wA wx))
    case first=>
     go_region_held3 (λV=>V.cell? ⟨rb,0,none⟩=some (.int .i64 (wj:Int))/\V.cell? ⟨gi,oi+k * 2,none⟩=some (.slice y1 y2 y3)/\V.cell? ⟨gi,oi+k * 2+1,none⟩=some (.slice y4 y5 y6)) (go_keep) ((go_at_call 255;refine (HAP2.o _ (Td _ _ 1)).mono ?_;rintro _ w1 ⟨rfl,ht1⟩;have HT1:Hid (Tch NoB wr w1):=(Td NoB wr 1).trans ht1 (λ_ h=>.inl h);have x0:=(HT1.o.cell (p:=⟨gi,oi+k * 2,none⟩) (Qr _ _ q0) (λh=>h)).trans q0;have x1:=(HT1.o.cell (p:=⟨gi,oi+k * 2+1,none⟩) (Qr _ _ q1) (λh=>h)).trans q1;have x2:=(HP.o w1 (HTW.o.trans HT1.o (λ_ h=>.inl h))).1;clear ht1))
     all_goals
      go_wp2
      go_meet
      exact ⟨rfl,rfl,HTK.o.trans HT1.o (λ_ h=>.inl h)⟩
    case rest=>
    obtain ⟨rfl,rfl,HTC⟩:=hcut
    obtain ⟨wC,hwC⟩:∃wC,wC=wc:=⟨wc,rfl⟩
    subst hwC
    clear z0 z1 z2 q0 q1
    have hbx:=(HTC.o.block _ (Jb HBA.o) (λh=>h)).trans HBA.o
    have HBC:Hid (_=_):=hbx
    have b0:wC.cell? ⟨w.heap.size,0,none⟩=some (.string ⟨#[]⟩):=Ja hbx
    have b1:wC.cell? ⟨w.heap.size,1,none⟩=some (.string ⟨#[]⟩):=Ja hbx
    have b2:wC.cell? ⟨w.heap.size,2,none⟩=some (.string ⟨#[]⟩):=Ja hbx
    have b3:wC.cell? ⟨w.heap.size,3,none⟩=some (.slice none 0 0):=Ja hbx
    have fR:∀j,wC.frozen? ⟨w.heap.size,j,none⟩=false:=λj=>Qg _ _ _ _ _ hbx
    clear hbx
    go_wp2
    obtain ⟨p1,p2⟩:=Jja HBC.o (.string ⟨#[]⟩) (.string ⟨#[]⟩) (.string ⟨#[]⟩) (.slice none 0 0)
    refine QK (v:=.tuple #[.agg #[.string ⟨#[]⟩,.string ⟨#[]⟩,.string ⟨#[]⟩,.slice none 0 0],.int .i64 (Xj er)]) (Jg results173 _ _ w.heap.size _ _ (0,0) _ rfl p1 underlying205 rfl (by kernel_rfl)) rfl ⟨?_,?_⟩
    ·exact (HTA.o.trans HTC.o (λ_ h=>.inl h)).trans p2 (λx hx=>.inr (by rw [hx];exact Ql _))
    ·rw [HEND.o]
   | ok st1=>
    have HAP2:Hid (∀V,Tch NoB wr V->Calls prog 255 #[.int .i64 (wj:Int),.slice na lk.length nc,.agg #[.slice y1 y2 y3,.slice y4 y5 y6]] V λe w'=>∃v',e=.returned (.tuple #[v',.int .i64 0])/\Tch NoB V w'/\∃na' nc' l',v'=.slice na' l'.length nc'/\RhAt w' v' l'/\Book wj st1 l'/\l'.length<=lk.length+3/\∀j,v'.ownBlock=some j->w.heap.size<j):=λV hV=>(HAP.o V hV).mono (by
     rintro e w' ⟨h1,h2⟩
     rw [hap] at h2
     obtain ⟨v',l',he,ho,hb,hll⟩:=h2
     obtain ⟨na',nc',hsh⟩:=ho.shape
     exact ⟨v',he,h1,na',nc',l',hsh,ho.at,hb,hll,λj hj=>Qk (Qk (Jb HBA.o) (Qm HTK.o.size hV.size)) (ho.own j hj).1⟩)
    have HNX:Hid (JA (dgW wj) ch.last.2 ts=JA (dgW wj) st1 (ts.drop (k+1))):=by
     show JA _ _ _=_
     rw [HAK.o,HDP.o]
     simp only [JA,hap]
    clear HAP hap HDP HAK
    go_upto_region 5 with fail
    go_cut [8,9] (λv8 v9 wx=>v9=.int .i64 0/\Hid (Tch NoB wA wx)/\∃na' nc' l',v8=.slice na' l'.length nc'/\Hid (RhAt wx (.slice na' l'.length nc') l')/\Hid (Book wj st1 l')/\l'.length<=lk.length+3/\Hid (∀j,(Value.slice na' l'.length nc').ownBlock=some j->w.heap.size<j))
    case first=>
     go_region_held3 (λV=>V.cell? ⟨rb,0,none⟩=some (.int .i64 (wj:Int))/\V.cell? ⟨gi,oi+k * 2,none⟩=some (.slice y1 y2 y3)/\V.cell? ⟨gi,oi+k * 2+1,none⟩=some (.slice y4 y5 y6)) (go_keep) ((go_at_call 255;refine (HAP2.o _ (Td _ _ 1)).mono ?_;rintro _ w1 ⟨v',rfl,ht1,hres⟩;have HRES:Hid (_:Prop):=hres;have HT1:Hid (Tch NoB wr w1):=(Td NoB wr 1).trans ht1 (λ_ h=>.inl h);have x0:=(HT1.o.cell (p:=⟨gi,oi+k * 2,none⟩) (Qr _ _ q0) (λh=>h)).trans q0;have x1:=(HT1.o.cell (p:=⟨gi,oi+k * 2+1,none⟩) (Qr _ _ q1) (λh=>h)).trans q1;have x2:=(HP.o w1 (HTW.o.trans HT1.o (λ_ h=>.inl h))).1;clear ht1 hres))
     all_goals
      go_wp2
      go_meet
      obtain ⟨na',nc',l',e1,r1,r2,r3,r4⟩:=HRES.o
      refine ⟨rfl,HTK.o.trans HT1.o (λ_ h=>.inl h),na',nc',l',e1,?_,r2,r3,?_⟩
      ·rw [<-e1];exact r1
      ·rw [<-e1];exact r4
    case rest=>
    obtain ⟨rfl,HTC,na',nc',l',rfl,HR2,HB2,hll,HG2⟩:=hcut
    obtain ⟨wC,hwC⟩:∃wC,wC=wc:=⟨wc,rfl⟩
    subst hwC
    clear z0 z1 z2 q0 q1
    go_wp2
    go_roundw
    case rel=>exact ⟨k+1,l',st1,na',nc',by omega,by go_num,rfl,HR2,HB2,HNX,by omega,λj hj=>.inr (HG2.o j hj),HTC⟩
    case measure=>simp [intOf];omega
  ·have HKK:Hid (k=ts.length):=(by omega:k=ts.length)
   have hge:¬(k:Int)<(sl.length:Int):=by have:=HM.o.2;omega
   have HST:Hid (JA (dgW wj) ch.last.2 ts=.ok sk):=by
    show JA _ _ _=_
    rw [HAK.o,HKK.o,List.drop_length]
    rfl
   have HTW:Hid (Tch NoB w wr):=HTA.o.trans HTK.o (λ_ h=>.inl h)
   have HRT:Hid (∀V,Tch NoB wr V->Calls prog 106 #[.int .i64 (wj:Int),.slice na lk.length nc] V λe w'=>∃S,e=.returned (.string S)/\(dgW wj S.data.toList=JV (dgW wj) sk/\S.size<=1000)/\Tch NoB V w'):=λV hV=>(Jjz hD wj hw1 hw lk.length lk V _ (Ql _) HBK.o.ok HBK.o.nodup (HRK.o.tch0 hV) (by omega)).mono (by
    rintro e w' ⟨s,he,hr,ht⟩
    refine ⟨⟨s.toArray⟩,he,⟨?_,by rw [Jk];exact hr.rlen hw (λx hx=>(HBK.o.ok x hx).1)⟩,ht⟩
    rw [JcV,<-JdR HBK.o hr])
   have HDR:Hid (∀(S:BA) (V:World),S.size<=1000->Calls prog 103 #[.int .i64 (wj:Int),.string S] V λe w'=>∃D,e=.returned (.string D)/\D=dgW wj S.data.toList/\Tch NoB V w'):=λS V hs=>(hD wj S V hw1 hw (by omega)).mono (by rintro _ _ ⟨rfl,h⟩;exact ⟨_,rfl,rfl,h⟩)
   have a1:=JZ [66] (JB ts) (by simp;omega)
   have a1':∀W,(Op.stringOp .add (⟨#[66]⟩:BA) ⟨(JB ts).toArray⟩).run prog W=.ok (.string ⟨(66 :: JB ts).toArray⟩) W:=a1
   have HXB:Hid ((⟨(66 :: JB ts).toArray⟩:BA).data.toList=66 :: JB ts/\(⟨(66 :: JB ts).toArray⟩:BA).size<=1000):=⟨rfl,by rw [Jk,Qp];omega⟩
   generalize (⟨(66 :: JB ts).toArray⟩:BA)=XB at *
   generalize (⟨(JB ts).toArray⟩:BA)=X0 at *
   obtain ⟨D1,hD1⟩:∃D1,D1=dgW wj (72 :: ch.last.1.data.toList):=⟨_,rfl⟩
   rw [<-hD1] at HID
   have HD1:Hid (D1=_):=hD1
   clear a1 hD1
   have hrb:rb<w.heap.size:=(QJ.1 (HRF.o w (Te _ _)).row).1
   have hn1:¬rb=w.heap.size:=by omega
   have hn2:¬w.heap.size=rb:=by omega
   have HBX:Hid (∀V,Tch NoB wr V->V.heap[w.heap.size]? =some (.cells #[.string ⟨#[]⟩,.string ⟨#[]⟩,.string ⟨#[]⟩,.slice none 0 0] 205)):=λV hV=>by
    have ht:=HTK.o.trans hV (λ_ h=>.inl h)
    exact (ht.block _ (Jb HBA.o) (λh=>h)).trans HBA.o
   obtain ⟨z0,z1,z2⟩:=HP.o wr HTW.o
   go_upto_region 9 with fail
   go_region_held3 (λV=>V.cell? ⟨rb,0,none⟩=some (.int .i64 (wj:Int))) (go_keep) ((first
    | (go_at_call 118;refine (HTP.o _ (HTW.o.trans (Td _ _ 1) (λ_ h=>.inl h))).mono ?_;rintro _ w1 ⟨rfl,ht1⟩;have HT1:Hid (Tch NoB wr w1):=(Td NoB wr 1).trans ht1 (λ_ h=>.inl h);have x1:=(HP.o w1 (HTW.o.trans HT1.o (λ_ h=>.inl h))).1;clear ht1)
    | (go_at_call 172;refine (HID.o _ (HTW.o.trans HT1.o (λ_ h=>.inl h))).mono ?_;rintro _ w2 ⟨rfl,ht2⟩;have HT2:Hid (Tch NoB wr w2):=HT1.o.trans ht2 (λ_ h=>.inl h);have x2:=(HP.o w2 (HTW.o.trans HT2.o (λ_ h=>.inl h))).1;clear ht2)
    | (go_at_call 256;refine (HBT.o _ (HTW.o.trans HT2.o (λ_ h=>.inl h))).mono ?_;rintro _ w3 ⟨rfl,ht3⟩;have HT3:Hid (Tch NoB wr w3):=HT2.o.trans ht3 (λ_ h=>.inl h);have x3:=(HP.o w3 (HTW.o.trans HT3.o (λ_ h=>.inl h))).1;clear ht3)
    | (go_at_call_of 103 (Value.string XB);refine (HDR.o XB _ HXB.o.2).mono ?_;rintro _ w4 ⟨D2,rfl,hd2,ht4⟩;have HD2:Hid (D2=_):=hd2;have HT4:Hid (Tch NoB wr w4):=HT3.o.trans ht4 (λ_ h=>.inl h);have x4:=(HP.o w4 (HTW.o.trans HT4.o (λ_ h=>.inl h))).1;clear ht4 hd2)
    | (go_at_call 106;refine (HRT.o _ HT4.o).mono ?_;rintro _ w5 ⟨S,rfl,hs5,ht5⟩;have HS5:Hid (_/\_):=hs5;have HT5:Hid (Tch NoB wr w5):=HT4.o.trans ht5 (λ_ h=>.inl h);have x5:=(HP.o w5 (HTW.o.trans HT5.o (λ_ h=>.inl h))).1;clear ht5 hs5)
    | (go_at_call_of 103 (Value.string S);refine (HDR.o S _ HS5.o.2).mono ?_;rintro _ w6 ⟨D3,rfl,hd3,ht6⟩;have HD3:Hid (D3=_):=hd3;have HT6:Hid (Tch NoB wr w6):=HT5.o.trans ht6 (λ_ h=>.inl h);have x6:=(HP.o w6 (HTW.o.trans HT6.o (λ_ h=>.inl h))).1;have hbx:=HBX.o w6 HT6.o;have b0:w6.cell? ⟨w.heap.size,0,none⟩=some (.string ⟨#[]⟩):=Ja hbx;have b1:w6.cell? ⟨w.heap.size,1,none⟩=some (.string ⟨#[]⟩):=Ja hbx;have b2:w6.cell? ⟨w.heap.size,2,none⟩=some (.string ⟨#[]⟩):=Ja hbx;have b3:w6.cell? ⟨w.heap.size,3,none⟩=some (.slice none 0 0):=Ja hbx;have fR:∀j,w6.frozen? ⟨w.heap.size,j,none⟩=false:=(λj=>Qg _ _ _ _ _ hbx);have HB6:Hid (_=_):=hbx;clear ht6 hd3 hbx)))
   all_goals
    go_wp2
    obtain ⟨p1,p2⟩:=Jja HB6.o (.string D1) (.string D2) (.string D3) (.slice na lk.length nc)
    refine QK (v:=.tuple #[.agg #[.string D1,.string D2,.string D3,.slice na lk.length nc],.int .i64 0]) (Jg results173 _ _ w.heap.size _ _ (0,0) _ rfl p1 underlying205 rfl (by kernel_rfl)) rfl ⟨?_,?_⟩
    ·exact (HTW.o.trans HT6.o (λ_ h=>.inl h)).trans p2 (λx hx=>.inr (by rw [hx];exact Ql _))
    ·rw [HST.o]
     refine ⟨(na,lk.length,nc),lk,?_,?_,HBK.o,by have:=HM.o.1;omega,λj hj=>(HGK.o j hj).imp id (λh=>Nat.le_of_lt h)⟩
     ·rw [HD1.o,HD2.o,HD3.o,HXB.o.1,HS5.o.1]
     ·have hrk:=HRK.o.tch0 HT6.o
      refine hrk.tch p2 (λj hj e=>?_)
      rcases HGK.o j hj with h | h
      ·have:=((HRF.o w (Te _ _)).own j h).2
       omega
      ·omega

def Yx (wj:Nat) (c:BA×Int):Bool:=decide (c.1.size=wj) && (decide (0<=c.2) && decide (c.2<3))
theorem Jdr (wj:Nat) (c:BA×Int):Yx wj c=true↔Jo wj c:=by
 unfold Yx Jo
 simp
theorem Jju (wj:Nat) (c:BA×Int) (hc:c.1.size<=9223372036854775807) (w:World):
  Calls prog 257 #[.int .i64 (wj:Int),.agg #[.string c.1,.int .i64 c.2]] w λe w'=>e=.returned (.bool (Yx wj c))/\Tch NoB w w':=by
 obtain ⟨s,n⟩:=c
 simp only at hc
 have HX:Hid (Yx wj (s,n)=(decide (s.size=wj) && (decide (0<=n) && decide (n<3)))):=rfl
 generalize Yx wj (s,n)=X at *
 by_cases h1:s.size=wj
 ·have h1i:(s.size:Int)=(wj:Int):=by omega
  by_cases h2:0<=n
  ·by_cases h3:n<3
   ·have HY:Hid (X=true):=by show X=true;rw [HX.o];simp [h1,h2,h3]
    clear h1
    go_enter func257,ntmps257
    go_wp2
    go_ret
    exact ⟨by rw [HY.o];rfl,Ta _ _ _⟩
   ·have HY:Hid (X=false):=by show X=false;rw [HX.o];simp [h3]
    clear h1
    go_enter func257,ntmps257
    go_wp2
    go_ret
    exact ⟨by rw [HY.o];rfl,Ta _ _ _⟩
  ·have HY:Hid (X=false):=by show X=false;rw [HX.o];simp [h2]
   clear h1
   go_enter func257,ntmps257
   go_wp2
   go_ret
   exact ⟨by rw [HY.o];rfl,Ta _ _ _⟩
 ·have h1i:¬(s.size:Int)=(wj:Int):=by omega
  have HY:Hid (X=false):=by show X=false;rw [HX.o];simp [h1]
  clear h1
  go_enter func257,ntmps257
  go_wp2
  go_ret
  exact ⟨by rw [HY.o];rfl,Ta _ _ _⟩
def XK (t:TxL):Bool:=decide (1<=t.1.length) && (decide (t.1.length<=3) && decide (t.2.length<=3))
def Je3 (wj:Nat) (t:TxL):Bool:=XK t && t.1.all (Yx wj)
def mayB (wj:Nat) (ts:List TxL):Bool:=decide (ts.length<=3) && ts.all (Je3 wj)
def mayA (wj:Nat) (ts:List TxL) (i:Nat):Bool:=decide (ts.length<=3) && (ts.take i).all (Je3 wj)
theorem JhJ (wj:Nat) (ts:List TxL) (i:Nat) (h:i<ts.length):mayA wj ts (i+1)=(mayA wj ts i && (XK ts[i] && ts[i].1.all (Yx wj))):=by
 unfold mayA
 rw [QR h,List.all_append,Bool.and_assoc]
 simp [Je3]
theorem JaV (wj:Nat) (ts:List TxL) (ho:∀t∈ts,∀o∈t.2,JC o):mayB wj ts=true↔ts.length<=3/\∀t∈ts,TxOk wj t:=by
 unfold mayB
 rw [Bool.and_eq_true,decide_eq_true_eq,List.all_eq_true]
 refine and_congr Iff.rfl ⟨λh t ht=>?_,λh t ht=>?_⟩
 ·have:=h t ht
  unfold Je3 XK at this
  simp only [Bool.and_eq_true,decide_eq_true_eq,List.all_eq_true,Jdr] at this
  exact ⟨this.2,ho t ht,this.1.1,this.1.2.1,this.1.2.2⟩
 ·have:=h t ht
  unfold Je3 XK
  simp only [Bool.and_eq_true,decide_eq_true_eq,List.all_eq_true,Jdr]
  exact ⟨⟨this.one,this.ins,this.made⟩,this.coins⟩
theorem JmI (wj:Nat) (B:Nat) (v:Value) (ts:List TxL) (sl:List (Sl×Sl)) (w:World) (hv:TxsR B w v sl) (hs:TxIs B w ts sl) (hl:ts.length<=1000000000) (hc:∀t∈ts,t.1.length<=1000000000/\t.2.length<=1000000000/\∀c∈t.1,c.1.size<=9223372036854775807):
  Calls prog 266 #[.int .i64 (wj:Int),v] w λe w'=>e=.returned (.bool (mayB wj ts))/\Tch NoB w w':=by
 have HV:Hid (TxsR B w v sl):=hv
 have HSL:Hid (TxIs B w ts sl):=hs
 have HL:Hid (ts.length=sl.length):=hs.1
 have HC:Hid (∀t∈ts,t.1.length<=1000000000/\t.2.length<=1000000000/\∀c∈t.1,c.1.size<=9223372036854775807):=hc
 obtain ⟨va,vc,hva⟩:=hv.shape
 subst hva
 have hls:sl.length<=1000000000:=by rw [<-hs.1];exact hl
 have HM0:Hid (decide ((sl.length:Int)<=3)=mayA wj ts 0):=by
  show _=mayA wj ts 0
  unfold mayA
  rw [HL.o]
  simp
  omega
 clear hv hs hc hl
 go_enter func266,ntmps266
 go_wp2
 go_loopw [5,6] (λok i wr=>∃k:Nat,k<=sl.length/\i=.int .i64 k/\ok=.bool (mayA wj ts k)/\Hid (Tch NoB w wr)) (λ_ i _=>sl.length - (intOf i).toNat)
 case atStart=>exact ⟨0,by omega,rfl,by rw [<-HM0.o],Te _ _⟩
 case round=>
  clear HM0
  obtain ⟨k,hk,rfl,rfl,HT⟩:=hrel
  by_cases hlt:k<sl.length
  ·have hlt2:k<ts.length:=by rw [HL.o];exact hlt
   rcases HV.o with ⟨e,e2⟩ | ⟨gi,oi,cc,e,_,hgi,hcell⟩
   ·rw [e2] at hlt;simp at hlt
   simp only [Qy,true_and] at e
   obtain ⟨rfl,rfl⟩:=e
   obtain ⟨f0,f1⟩:=hcell k hlt
   have q0:=(HT.o.cell (p:=⟨gi,oi+k * 2,none⟩) hgi (λh=>h)).trans f0
   have q1:=(HT.o.cell (p:=⟨gi,oi+k * 2+1,none⟩) hgi (λh=>h)).trans f1
   have hlti:(k:Int)<(sl.length:Int):=by omega
   obtain ⟨p1,p2⟩:=HSL.o.2 k hlt2 hlt
   obtain ⟨l1,l2,l3⟩:=HC.o _ (Qx hlt2)
   have HSU:=JhJ wj ts k hlt2
   have HS:Hid (mayA wj ts (k+1)=_):=HSU
   clear hcell f0 f1 HSU
   generalize ts[k]=t at *
   obtain ⟨y1,y3,hy1⟩:=p1.shape
   simp only [Qy] at hy1
   obtain ⟨z1,z3,hz1⟩:=p2.shape
   simp only [Qy] at hz1
   obtain ⟨hy1,hy2,hy3⟩:=hy1
   obtain ⟨hz1,hz2,hz3⟩:=hz1
   rw [hy1,hy2,hy3] at p1 q0
   rw [hz1,hz2,hz3] at p2 q1
   clear hy1 hy2 hy3 hz1 hz2 hz3
   have HP1:Hid (XL _ _ _ _):=p1
   have HL3:Hid (∀c∈t.1,c.1.size<=9223372036854775807):=l3
   clear p1 p2 l3
   obtain ⟨M,hM⟩:∃M,mayA wj ts k=M:=⟨_,rfl⟩
   rw [hM] at HS
   rw [hM]
   clear hM
   have HLB:Hid (XK t=(decide (1<=t.1.length) && (decide (t.1.length<=3) && decide (t.2.length<=3)))):=rfl
   go_upto_region 6 with fail
   obtain ⟨wA,hwA⟩:∃wA,wA=wr.alloc (.cells #[.slice y1 t.1.length y3,.slice z1 t.2.length z3] 98):=⟨_,rfl⟩
   have HTA:Hid (Tch NoB w wA):=by rw [hwA];exact HT.o.trans (Ta NoB _ _) (λ_ h=>.inl h)
   have hbx:wA.heap[wr.heap.size]? =some (.cells #[.slice y1 t.1.length y3,.slice z1 t.2.length z3] 98):=by rw [hwA];exact Qf _ _
   have HBX:Hid (_=_):=hbx
   rw [<-hwA]
   clear hwA q0 q1
   have b0:wA.cell? ⟨wr.heap.size,0,none⟩=some (.slice y1 t.1.length y3):=Ja hbx
   have b1:wA.cell? ⟨wr.heap.size,1,none⟩=some (.slice z1 t.2.length z3):=Ja hbx
   clear hbx
   generalize wr.heap.size=xb at *
   go_cut [5] (λvo wx=>vo=.bool (M && XK t)/\Hid (Tch NoB wA wx))
   case first=>
    cases M
    ·go_wp2
     go_meet
     exact ⟨by simp,Te _ _⟩
    ·by_cases c1:1<=t.1.length
     ·have c1i:(1:Int)<=(t.1.length:Int):=by omega
      by_cases c2:t.1.length<=3
      ·have c2i:(t.1.length:Int)<=3:=by omega
       by_cases c3:t.2.length<=3
       ·have c3i:(t.2.length:Int)<=3:=by omega
        have HR:Hid (XK t=true):=by show XK t=true;rw [HLB.o];simp [c1,c2,c3]
        go_wp2
        go_meet
        exact ⟨by rw [HR.o];rfl,Te _ _⟩
       ·have c3i:¬(t.2.length:Int)<=3:=by omega
        have HR:Hid (XK t=false):=by show XK t=false;rw [HLB.o];simp [c3]
        go_wp2
        go_meet
        exact ⟨by rw [HR.o];rfl,Te _ _⟩
      ·have c2i:¬(t.1.length:Int)<=3:=by omega
       have HR:Hid (XK t=false):=by show XK t=false;rw [HLB.o];simp [c2]
       go_wp2
       go_meet
       exact ⟨by rw [HR.o];rfl,Te _ _⟩
     ·have c1i:¬(1:Int)<=(t.1.length:Int):=by omega
      have HR:Hid (XK t=false):=by show XK t=false;rw [HLB.o];simp [c1]
      go_wp2
      go_meet
      exact ⟨by rw [HR.o];rfl,Te _ _⟩
   case rest=>
   obtain ⟨rfl,HTB⟩:=hcut
   obtain ⟨wB,hwB⟩:∃wB,wB=wc:=⟨wc,rfl⟩
   subst hwB
   clear b0 b1
   have HBB:Hid (wB.heap[xb]? =some (.cells #[.slice y1 t.1.length y3,.slice z1 t.2.length z3] 98)):=(HTB.o.block _ (Jb HBX.o) (λh=>h)).trans HBX.o
   have HE0:Hid ((M && XK t)=(M && XK t && (t.1.take 0).all (Yx wj))):=by show _=_;simp
   go_wp2
   go_loopw [5,8] (λvo j wx=>∃m:Nat,m<=t.1.length/\j=.int .i64 m/\vo=.bool (M && XK t && (t.1.take m).all (Yx wj))/\Hid (Tch NoB wB wx)) (λ_ j _=>t.1.length - (intOf j).toNat)
   case atStart=>exact ⟨0,by omega,rfl,by rw [<-HE0.o],Te _ _⟩
   case round=>
    clear HE0
    obtain ⟨m,hm,rfl,rfl,HTX⟩:=hrel
    rename_i wq _
    have hbx:=(HTX.o.block _ (Jb HBB.o) (λh=>h)).trans HBB.o
    have b0:wr.cell? ⟨xb,0,none⟩=some (.slice y1 t.1.length y3):=Ja hbx
    clear hbx
    have HTW:Hid (Tch NoB w wr):=(HTA.o.trans HTB.o (λ_ h=>.inl h)).trans HTX.o (λ_ h=>.inl h)
    by_cases hmlt:m<t.1.length
    ·have hmi:(m:Int)<(t.1.length:Int):=by omega
     rcases HP1.o with ⟨e,e2⟩ | ⟨gj,oj,cj,e,_,hgj,hcj⟩
     ·rw [e2] at hmlt;simp at hmlt
     simp only [Qy,true_and] at e
     obtain ⟨rfl,rfl⟩:=e
     obtain ⟨f0,f1⟩:=hcj m hmlt
     have r0:=(HTW.o.cell (p:=⟨gj,oj+m * 2,none⟩) hgj (λh=>h)).trans f0
     have r1:=(HTW.o.cell (p:=⟨gj,oj+m * 2+1,none⟩) hgj (λh=>h)).trans f1
     have HIC:Hid (∀V,Calls prog 257 #[.int .i64 (wj:Int),.agg #[.string t.1[m].1,.int .i64 t.1[m].2]] V λe w'=>e=.returned (.bool (Yx wj t.1[m]))/\Tch NoB V w'):=λV=>Jju wj t.1[m] (HL3.o _ (Qx hmlt)) V
     have HNX:Hid ((M && XK t && (t.1.take (m+1)).all (Yx wj))=(M && XK t && (t.1.take m).all (Yx wj) && Yx wj t.1[m])):=by
      show _=_
      rw [QR hmlt,List.all_append]
      simp [Bool.and_assoc]
     clear hcj f0 f1
     generalize Yx wj t.1[m]=cd at *
     generalize t.1[m]=c at *
     generalize (M && XK t && (t.1.take m).all (Yx wj))=ok at *
     cases ok
     all_goals
      go_wp2_with (go_at_call 257;refine (HIC.o _).mono ?_;rintro _ w5 ⟨rfl,ht5⟩;have HT5:Hid (Tch NoB wr w5):=ht5;clear ht5)
      go_roundw
      case rel=>exact ⟨m+1,by omega,by go_num,by rw [HNX.o];simp,HTX.o.trans HT5.o (λ_ h=>.inl h)⟩
      case measure=>simp [intOf];omega
    ·have hmi:¬(m:Int)<(t.1.length:Int):=by omega
     have HEX:Hid ((M && XK t && (t.1.take m).all (Yx wj))=mayA wj ts (k+1)):=by
      show _=mayA wj ts (k+1)
      rw [HS.o,QS (by omega),Bool.and_assoc]
     generalize (M && XK t && (t.1.take m).all (Yx wj))=ok at *
     go_wp2
     go_roundw
     case rel=>exact ⟨k+1,by omega,by go_num,by rw [HEX.o],HTW⟩
     case measure=>simp [intOf];omega
  ·have hge:¬(k:Int)<(sl.length:Int):=by omega
   have HE:Hid (mayA wj ts k=mayB wj ts):=by
    show mayA wj ts k=_
    unfold mayA mayB
    rw [QS (by rw [HL.o];omega)]
   generalize mayA wj ts k=X at *
   go_wp2
   go_ret
   exact ⟨by rw [<-HE.o];rfl,HT.o⟩
