import Derived.Test.YtighkdnooglfjaaGreatDoorBxPRx
import Derived.Test.YtighkdnooglfjaaGreatDoorBxRfB
namespace Go.Proofs.YtighkdnooglfjaaGreatDoor
open Tryz
set_option maxRecDepth 100000
set_option maxHeartbeats 4000000
open Go.RowKit

def RTx (wj:Nat) (s:List UInt8) (i:Nat) (w:World) (e:Ending) (w':World):Prop:=
 Tch NoB w w'/\match Xe wj s i with
 | none=>∃x:Sl×Sl,e=.returned (.tuple #[.agg #[.slice x.1.1 x.1.2.1 x.1.2.2,.slice x.2.1 x.2.2.1 x.2.2.2],.int .i64 (-1)])
 | some (t,n)=>∃x:Sl×Sl,e=.returned (.tuple #[.agg #[.slice x.1.1 x.1.2.1 x.1.2.2,.slice x.2.1 x.2.2.1 x.2.2.2],.int .i64 (n:Int)])/\COwn w.heap.size w' (.slice x.1.1 x.1.2.1 x.1.2.2) t.1/\OOwn w.heap.size w' (.slice x.2.1 x.2.2.1 x.2.2.2) t.2
theorem r_tx (wj:Nat) (hw1:1<=wj) (hw:wj<=32) (s:BA) (i:Nat) (hi:i<=s.size) (hs:s.size<=10000000) (w:World):
  Calls prog 254 #[.int .i64 (wj:Int),.string s,.int .i64 (i:Int)] w (RTx wj s.data.toList i w):=by
 have hsz:s.data.toList.length=s.size:=by rw [QA];rfl
 by_cases h1:i<s.size
 ·have h1i:(i:Int)<(s.size:Int):=by omega
  have h1n:¬(s.size:Int)<=(i:Int):=by omega
  have hbg:=ZK s i h1
  obtain ⟨c,hc⟩:∃c:Nat,s[i].toNat=c:=⟨_,rfl⟩
  have hcb:=UInt8.toNat_lt s[i]
  rw [hc] at hbg hcb
  have wc:IntKind.i64.wrap (c:Int)=(c:Int):=w63 _ (by omega) (by omega)
  by_cases h2:1<=c/\c<=3
  ·have h2i:¬3<(c:Int):=by omega
   have h2j:¬(c:Int)<1:=by omega
   have ww1:IntKind.i64.wrap ((wj:Int)+1)=(wj:Int)+1:=w63 _ (by omega) (by omega)
   have hwc:(wj+1) * c<=99:=Qm (Nat.mul_le_mul (show wj+1<=33 by omega) h2.2) (by omega)
   obtain ⟨wc',hwc'⟩:∃wc':Nat,(wj+1) * c=wc':=⟨_,rfl⟩
   have hwci:((wj:Int)+1) * (c:Int)=(wc':Int):=by rw [<-hwc'];simp
   have ww9:IntKind.i64.wrap (((wj:Int)+1) * (c:Int))=(wc':Int):=by rw [hwci];exact w63 _ (by omega) (by omega)
   have wi:IntKind.i64.wrap ((i:Int)+1)=(i:Int)+1:=w63 _ (by omega) (by omega)
   have wt:IntKind.i64.wrap ((i:Int)+1+(wc':Int))=(i:Int)+1+(wc':Int):=w63 _ (by omega) (by omega)
   by_cases h3:i+1+wc'<=s.size
   ·have h3i:¬(s.size:Int)<(i:Int)+1+(wc':Int):=by omega
    have HE:Hid (Yf wj s.data.toList (i+1) c->Xe wj s.data.toList i=(JT s.data.toList (i+1+wc')).map λx=>((XD wj s.data.toList (i+1) c,x.1),x.2)):=λhok=>by
     unfold Xe
     rw [hbg,hsz,hwc',if_pos ⟨h1,h2.1,h2.2,h3,hok⟩]
    have HEN:Hid (¬Yf wj s.data.toList (i+1) c->Xe wj s.data.toList i=none):=λhok=>by
     unfold Xe
     rw [hbg,hsz,hwc',if_neg (λh=>hok h.2.2.2.2)]
    have HWC:Hid ((wj+1) * c=wc'):=hwc'
    clear hbg hsz hwc' hwci
    go_enter func254,ntmps254
    go_wp2
    obtain ⟨wA,hwA⟩:∃wA,wA=(w.alloc (.cells #[.slice none 0 0,.slice none 0 0] 98)).alloc (.cells #[.slice none 0 0,.slice none 0 0] 98):=⟨_,rfl⟩
    have HTA:Hid (Tch NoB w wA):=by rw [hwA];exact (Ta NoB w _).trans (Ta NoB _ _) (λ_ h=>.inl h)
    have HB0:Hid (wA.heap[w.heap.size]? =some (.cells #[.slice none 0 0,.slice none 0 0] 98)):=by rw [hwA];exact heap_alloc2_old _ _ _
    have HB1:Hid (wA.heap[w.heap.size+1]? =some (.cells #[.slice none 0 0,.slice none 0 0] 98)):=by rw [hwA];exact heap_alloc2_new _ _ _
    rw [<-hwA]
    clear hwA
    obtain ⟨xb,hxb⟩:∃xb,xb=w.heap.size+1:=⟨_,rfl⟩
    have HXB:Hid (xb=w.heap.size+1):=hxb
    rw [<-hxb] at HB1
    rw [<-hxb]
    clear hxb
    have HSA:Hid (w.heap.size+2<=wA.heap.size):=by
     have:=(Jb HB1.o)
     have:=HXB.o
     show w.heap.size+2<=wA.heap.size
     omega
    go_loopw [9] (λvi wr=>∃(m:Nat) (v1:Value),m<=c/\vi=.int .i64 (m:Int)/\Hid (COwn (w.heap.size+2) wr v1 (XD wj s.data.toList (i+1) m))/\Hid (Yf wj s.data.toList (i+1) m)/\Hid (wr.heap[xb]? =some (.cells #[v1,.slice none 0 0] 98))/\Hid (wr.heap[w.heap.size]? =some (.cells #[.slice none 0 0,.slice none 0 0] 98))/\Hid (Tch NoB w wr)/\Hid (w.heap.size+2<=wr.heap.size)) (λvi _=>c - (intOf vi).toNat)
    case atStart=>exact ⟨0,.slice none 0 0,by omega,rfl,COwn.nil _ _,λj hj=>absurd hj (by omega),HB1,HB0,HTA,HSA⟩
    case round=>
     clear HB0 HB1 HTA HSA
     obtain ⟨m,v1,hm,rfl,HOW,HOK,HRX,HR0,HT,HSZ⟩:=hrel
     obtain ⟨na,nm,nc,hna⟩:=HOW.o.shape3
     subst hna
     have HCX:Hid (∀V,Tch NoB wr V->V.cell? ⟨xb,0,none⟩=some (.slice na nm nc)):=λV hV=>Ja ((hV.block _ (Jb HRX.o) (λh=>h)).trans HRX.o)
     by_cases hlt:m<c
     ·have hli:(m:Int)<(c:Int):=by omega
      have hmul:(wj+1) * m+(wj+1)<=(wj+1) * c:=by rw [<-Nat.mul_succ];exact Nat.mul_le_mul_left _ hlt
      rw [HWC.o] at hmul
      obtain ⟨wm,hwm⟩:∃wm:Nat,(wj+1) * m=wm:=⟨_,rfl⟩
      rw [hwm] at hmul
      have w5:IntKind.i64.wrap (((wj:Int)+1) * (m:Int))=(wm:Int):=by
       have e:((wj:Int)+1) * (m:Int)=(wm:Int):=by rw [<-hwm];simp
       rw [e];exact w63 _ (by omega) (by omega)
      have w6:IntKind.i64.wrap ((i:Int)+1+(wm:Int))=(i:Int)+1+(wm:Int):=w63 _ (by omega) (by omega)
      have p1:(0:Int)<=(i:Int)+1+(wm:Int):=by omega
      have p2:(i:Int)+1+(wm:Int)<=(s.size:Int):=by omega
      have p3:((i:Int)+1+(wm:Int)).toNat=i+1+wm:=by omega
      obtain ⟨P,hP⟩:∃P:BA,s.extract (i+1+wm) s.size=P:=⟨_,rfl⟩
      have hPl:P.data.toList=s.data.toList.drop (i+1+wm):=by
       rw [<-hP,ByteArray.data_extract,Array.toList_extract,List.extract_eq_take_drop,QS]
       rw [List.length_drop,QA]
       show s.size - _<=_
       omega
      have hPs:P.size=s.size - (i+1+wm):=by rw [<-hP,ByteArray.size_extract];omega
      have hPw:wj<P.size:=by omega
      have hPwi:(wj:Int)<(P.size:Int):=by omega
      have hPwl:(wj:Int)<=(P.size:Int):=by omega
      obtain ⟨o8,ho8⟩:∃o8:Nat,P[wj].toNat=o8:=⟨_,rfl⟩
      have HO8:Hid (Jt s.data.toList (i+1+wm+wj)=o8):=by
       show Jt _ _=_
       rw [<-ho8,<-ZK P wj hPw,hPl]
       unfold Jt
       rw [Qn,Qn,List.getElem?_drop]
      have h8:=UInt8.toNat_lt P[wj]
      rw [ho8] at h8
      have w8:IntKind.i64.wrap (o8:Int)=(o8:Int):=w63 _ (by omega) (by omega)
      have HWM:Hid ((wj+1) * m=wm):=hwm
      clear hwm
      by_cases hco:o8<3
      ·have hcoi:¬3<=(o8:Int):=by omega
       obtain ⟨T0,hT0⟩:∃T0:BA,P.extract 0 wj=T0:=⟨_,rfl⟩
       have HCP:Hid (Jao wj s.data.toList (i+1+(wj+1) * m)=(T0,(o8:Int))):=by
        show Jao _ _ _=_
        unfold Jao
        rw [HWM.o,HO8.o]
        congr 1
        refine Ja2 ?_
        rw [<-hT0,ByteArray.data_extract,Array.toList_extract,hPl]
        simp [List.extract_eq_take_drop]
       have HSN:Hid (XD wj s.data.toList (i+1) (m+1)=XD wj s.data.toList (i+1) m++[(T0,(o8:Int))]):=by
        show XD _ _ _ _=_
        rw [JeS,HCP.o]
       have HOK2:Hid (Yf wj s.data.toList (i+1) (m+1)):=λj hj=>by
        rcases Nat.lt_succ_iff_lt_or_eq.1 hj with h | h
        ·exact HOK.o j h
        ·subst h
         rw [HWM.o,HO8.o]
         exact hco
       obtain ⟨v3,w3,hrun,hown3,hg3⟩:=Jb2 (w:=(wr.alloc (.cells #[.string T0,.int .i64 (o8:Int)] 49)).drew) (HOW.o.tch (Tch.box wr _) (λ_ _ h=>h)) (.slice (some ⟨wr.heap.size,0,none⟩) 1 1) (wr.heap.size+1) [(T0,(o8:Int))] ((Jje wr (T0,(o8:Int))).tch (Td NoB _ 1) noE) 96 (by simp [XD];omega) (Qm HSZ.o (Tch.box wr _).size)
       have HT3:Hid (Tch (λj=>some j=(Value.slice na nm nc).ownBlock) wr w3):=((Tch.box wr _).mono noE).trans (Tg hg3) (λ_ h=>.inl h)
       have HXN:Hid (some xb ≠ (Value.slice na nm nc).ownBlock):=λe=>by have:=(HOW.o.own _ e.symm).1;have:=HXB.o;omega
       have HR3:Hid (w3.heap[xb]? =some (.cells #[.slice na nm nc,.slice none 0 0] 98)):=(HT3.o.block _ (Jb HRX.o) HXN.o).trans HRX.o
       have HR30:Hid (w3.heap[w.heap.size]? =some (.cells #[.slice none 0 0,.slice none 0 0] 98)):=(HT3.o.block _ (Jb HR0.o) (λe=>by have:=(HOW.o.own _ e.symm).1;omega)).trans HR0.o
       have HC3:Hid (w3.cell? ⟨xb,0,none⟩=some (.slice na nm nc)):=Ja HR3.o
       have z3:w3.frozen? ⟨xb,0,none⟩=false:=Qg _ _ _ _ _ HR3.o
       have c3:=HC3.o
       have HW3:Hid (Tch NoB w w3):=HT.o.trans HT3.o (λj hj=>.inr (by have:=(HOW.o.own j hj.symm).1;omega))
       have HS3:Hid (w3.setCell ⟨xb,0,none⟩ v3=w3.setRow xb #[v3,.slice none 0 0]):=Qj w3 xb 0 _ _ _ _ HR3.o
       have HOW3:Hid (COwn _ w3 v3 _):=hown3
       obtain ⟨va,vm,vc,hva⟩:=hown3.shape3
       subst hva
       clear hPl hPs HO8 hg3 hown3
       go_upto_region 10 with fail
       clear hP
       refine Xd (S:=λV=>V.cell? ⟨xb,0,none⟩=some (.slice na nm nc)) 20 (by simp) (by kernel_rfl) (by kernel_rfl) (HCX.o _ (Td _ _ 1)) ?_
       intro hHeld l o hl ho
       simp only [List.dropLast_cons_cons,List.dropLast_singleton] at hl
       simp only [List.getLast_cons_cons,List.getLast_singleton] at ho
       subst hl
       subst ho
       simp only [Qp,Qv,Nat.reduceAdd]
       refine Ji (i:=0) (v:=?vd0) rfl (by kernel_rfl) (by kernel_rfl) (by kernel_rfl) (λ_ _ _ h=>h) rfl ?hd0 (by assumption) ?rd0
       case hd0=>(intro W hSW;(try dsimp only at hSW);go_simp;(try with_reducible rfl))
       simp only [Act.put,Qa,Qb,Qc]
       refine Ji (i:=1) (v:=?vd1) rfl (by kernel_rfl) (by kernel_rfl) (by kernel_rfl) (λ_ _ _ h=>h) rfl ?hd1 (by assumption) ?rd1
       case hd1=>(intro W hSW;(try dsimp only at hSW);go_simp;(try with_reducible rfl))
       simp only [Act.put,Qa,Qb,Qc]
       refine Ji (i:=2) (v:=?vd2) rfl (by kernel_rfl) (by kernel_rfl) (by kernel_rfl) (λ_ _ _ h=>h) rfl ?hd2 (by assumption) ?rd2
       case hd2=>(intro W hSW;(try dsimp only at hSW);go_simp;(try with_reducible rfl))
       simp only [Act.put,Qa,Qb,Qc]
       refine Ji (i:=3) (v:=?vd3) rfl (by kernel_rfl) (by kernel_rfl) (by kernel_rfl) (λ_ _ _ h=>h) rfl ?hd3 (by assumption) ?rd3
       case hd3=>(intro W hSW;(try dsimp only at hSW);go_simp;(try with_reducible rfl))
       simp only [Act.put,Qa,Qb,Qc]
       refine Ji (i:=4) (v:=?vd4) rfl (by kernel_rfl) (by kernel_rfl) (by kernel_rfl) (λ_ _ _ h=>h) rfl ?hd4 (by assumption) ?rd4
       case hd4=>(intro W hSW;(try dsimp only at hSW);go_simp;(try with_reducible rfl))
       simp only [Act.put,Qa,Qb,Qc]
       refine Ji (i:=5) (v:=?vd5) rfl (by kernel_rfl) (by kernel_rfl) (by kernel_rfl) (λ_ _ _ h=>h) rfl ?hd5 (by assumption) ?rd5
       case hd5=>(intro W hSW;(try dsimp only at hSW);go_simp;(try with_reducible rfl))
       simp only [Act.put,Qa,Qb,Qc]
       refine Ji (i:=6) (v:=?vd6) rfl (by kernel_rfl) (by kernel_rfl) (by kernel_rfl) (λ_ _ _ h=>h) rfl ?hd6 (by assumption) ?rd6
       case hd6=>(intro W hSW;(try dsimp only at hSW);go_simp;(try with_reducible rfl))
       simp only [Act.put,Qa,Qb,Qc]
       refine Ji (i:=7) (v:=?vd7) rfl (by kernel_rfl) (by kernel_rfl) (by kernel_rfl) (λ_ _ _ h=>h) rfl ?hd7 (by assumption) ?rd7
       case hd7=>(intro W hSW;(try dsimp only at hSW);go_simp;(try with_reducible rfl))
       simp only [Act.put,Qa,Qb,Qc]
       refine Ji (i:=8) (v:=?vd8) rfl (by kernel_rfl) (by kernel_rfl) (by kernel_rfl) (λ_ _ _ h=>h) rfl ?hd8 (by assumption) ?rd8
       case hd8=>(intro W hSW;(try dsimp only at hSW);go_simp;(try with_reducible rfl))
       simp only [Act.put,Qa,Qb,Qc]
       refine Ji (i:=9) (v:=?vd9) rfl (by kernel_rfl) (by kernel_rfl) (by kernel_rfl) (λ_ _ _ h=>h) rfl ?hd9 (by assumption) ?rd9
       case hd9=>(intro W hSW;(try dsimp only at hSW);go_simp;(try with_reducible rfl))
       simp only [Act.put,Qa,Qb,Qc]
       refine JbQ (i:=10) rfl (by kernel_rfl) (λK hK=>?_)
       go_simp
       refine hK.out _ _ (by first | exact HCX.o _ (Tch.box wr _) | exact HCX.o _ (Tch.drewAlloc wr _)) (λ_=>?_)
       clear hK K
       try simp only [Act.put,Qa,Qb,Qc]
       refine JbQ (i:=11) rfl (by kernel_rfl) (λK hK=>?_)
       refine ZB hrun (by rfl) _ _ (by rfl) (by rfl) (by rfl) ?_
       refine hK.out _ _ HC3.o (λ_=>?_)
       clear hK K
       try simp only [Act.put,Qa,Qb,Qc]
       refine Ji (i:=12) (v:=?vd12) rfl (by kernel_rfl) (by kernel_rfl) (by kernel_rfl) (λ_ _ _ h=>h) rfl ?hd12 (by assumption) ?rd12
       case hd12=>(intro W hSW;(try dsimp only at hSW);go_simp;(try with_reducible rfl))
       simp only [Act.put,Qa,Qb,Qc]
       refine wpAnyH_done (by kernel_rfl) ?_ _
       show wpList _ _ _ [_] _ _
       go_wp2
       go_roundw
       case rel=>
        have hx:=HXB.o
        refine ⟨m+1,.slice va vm vc,by omega,by go_num,?_,HOK2,?_,?_,?_,?_⟩
        ·rw [HSN.o,HS3.o]
         exact HOW3.o.tch (Ts _ _ _) (λj hj e=>by have:=(HOW3.o.own j hj).1;omega)
        ·rw [HS3.o];exact Qi _ _ _ _ _ _ HR3.o
        ·rw [HS3.o];exact ((Ts w3 xb _).block _ (Jb HR30.o) (λe=>by omega)).trans HR30.o
        ·rw [HS3.o];exact HW3.o.trans (Ts _ _ _) (λx e=>.inr (by omega))
        ·rw [HS3.o];exact Qm HSZ.o (Qm HT3.o.size (Ts w3 xb _).size)
       case measure=>simp [intOf];omega
      ·have hcoi:3<=(o8:Int):=by omega
       have HE2:Hid (Xe wj s.data.toList i=none):=HEN.o (λh=>hco (by have:=h m hlt;rw [HWM.o,HO8.o] at this;exact this))
       have b0:wr.cell? ⟨xb,0,none⟩=some (.slice na nm nc):=Ja HRX.o
       have b1:wr.cell? ⟨xb,1,none⟩=some (.slice none 0 0):=Ja HRX.o
       have r0:wr.cell? ⟨w.heap.size,0,none⟩=some (.slice none 0 0):=Ja HR0.o
       have r1:wr.cell? ⟨w.heap.size,1,none⟩=some (.slice none 0 0):=Ja HR0.o
       have fR:∀j,wr.frozen? ⟨w.heap.size,j,none⟩=false:=λj=>Qg _ _ _ _ _ HR0.o
       clear hPl hPs HO8
       go_wp2
       obtain ⟨p1,p2⟩:=JcC HR0.o (.slice na nm nc) (.slice none 0 0)
       refine QK (v:=.tuple #[.agg #[.slice na nm nc,.slice none 0 0],.int .i64 (-1)]) (Jg results254 _ _ w.heap.size _ _ (0,0) _ rfl p1 underlying98 rfl (by kernel_rfl)) rfl ⟨?_,?_⟩
       ·exact HT.o.trans p2 (λx hx=>.inr (by rw [hx];exact Ql _))
       ·rw [HE2.o]
        exact ⟨((na,nm,nc),(none,0,0)),rfl⟩
     ·obtain rfl:m=c:=by omega
      have hge:¬(m:Int)<(m:Int):=by omega
      have HE2:=HE.o HOK.o
      have HTX:Hid (Xe wj s.data.toList i=_):=HE2
      have HOU:Hid (∀V,Calls prog 109 #[.string s,.int .i64 ((i:Int)+1+(wc':Int))] V (Jln s.data.toList (i+1+wc') V)):=λV=>by
       have:=Jmc s (i+1+wc') h3 hs V
       rw [show ((i+1+wc':Nat):Int)=(i:Int)+1+(wc':Int) by omega] at this
       exact this
      have HRXV:Hid (∀V,Tch NoB wr V->V.heap[xb]? =some (.cells #[.slice na nm nc,.slice none 0 0] 98)/\V.heap[w.heap.size]? =some (.cells #[.slice none 0 0,.slice none 0 0] 98)):=λV hV=>⟨(hV.block _ (Jb HRX.o) (λh=>h)).trans HRX.o,(hV.block _ (Jb HR0.o) (λh=>h)).trans HR0.o⟩
      clear HE HEN HE2
      have HAF:Hid (∀(w1:World) (v2:Value),Tch NoB wr w1->∃w2,w1.setCell ⟨xb,1,none⟩ v2=w2/\Tch (λx=>x=xb) w1 w2/\w2.heap[xb]? =some (.cells #[.slice na nm nc,v2] 98)/\w2.heap[w.heap.size]? =some (.cells #[.slice none 0 0,.slice none 0 0] 98)):=λw1 v2 hV=>by
       obtain ⟨g1,g2⟩:=HRXV.o w1 hV
       refine ⟨_,Qj w1 xb 1 _ _ _ _ g1,Ts _ _ _,Qi _ _ _ _ _ _ g1,((Ts w1 xb _).block _ (Jb g2) (λe=>by have:=HXB.o;omega)).trans g2⟩
      cases hou:JT s.data.toList (i+1+wc') with
      | none=>
       have HOU2:Hid (∀V,Calls prog 109 #[.string s,.int .i64 ((i:Int)+1+(wc':Int))] V λe w'=>e=.returned (.tuple #[.slice none 0 0,.int .i64 (-1)])/\Tch NoB V w'):=λV=>(HOU.o V).mono (by
        rintro e w' ⟨g1,g2⟩
        rw [hou] at g2
        exact ⟨g2,g1⟩)
       rw [hou] at HTX
       clear HOU hou
       go_upto_region 13 with (go_at_call 109;refine (HOU2.o _).mono ?_;rintro _ w1 ⟨rfl,ht1⟩;have HT1:Hid (Tch NoB wr w1):=ht1;have g:=HRXV.o w1 ht1;have q1:w1.cell? ⟨xb,1,none⟩=some (.slice none 0 0):=(Ja g.1);have z1:w1.frozen? ⟨xb,1,none⟩=false:=(Qg _ _ _ _ _ g.1);clear ht1 g)
       obtain ⟨w2,e2,t2,g1,g2⟩:=HAF.o w1 (.slice none 0 0) HT1.o
       rw [e2]
       have b0:w2.cell? ⟨xb,0,none⟩=some (.slice na nm nc):=Ja g1
       have b1:w2.cell? ⟨xb,1,none⟩=some (.slice none 0 0):=Ja g1
       have r0:w2.cell? ⟨w.heap.size,0,none⟩=some (.slice none 0 0):=Ja g2
       have r1:w2.cell? ⟨w.heap.size,1,none⟩=some (.slice none 0 0):=Ja g2
       have fR:∀j,w2.frozen? ⟨w.heap.size,j,none⟩=false:=λj=>Qg _ _ _ _ _ g2
       have HG2:Hid (w2.heap[w.heap.size]? =_):=g2
       have HW2:Hid (Tch NoB w w2):=(HT.o.trans HT1.o (λ_ h=>.inl h)).trans t2 (λx hx=>.inr (by have:=HXB.o;omega))
       clear e2 t2 g1 g2
       go_wp2
       obtain ⟨p1,p2⟩:=JcC HG2.o (.slice na nm nc) (.slice none 0 0)
       refine QK (v:=.tuple #[.agg #[.slice na nm nc,.slice none 0 0],.int .i64 (-1)]) (Jg results254 _ _ w.heap.size _ _ (0,0) _ rfl p1 underlying98 rfl (by kernel_rfl)) rfl ⟨?_,?_⟩
       ·exact HW2.o.trans p2 (λx hx=>.inr (by rw [hx];exact Ql _))
       ·rw [HTX.o]
        exact ⟨((na,nm,nc),(none,0,0)),rfl⟩
      | some x=>
       obtain ⟨l,n⟩:=x
       have HOU2:Hid (∀V,Calls prog 109 #[.string s,.int .i64 ((i:Int)+1+(wc':Int))] V λe w'=>∃va vm vc,e=.returned (.tuple #[.slice va vm vc,.int .i64 (n:Int)])/\OOwn V.heap.size w' (.slice va vm vc) l/\Tch NoB V w'):=λV=>(HOU.o V).mono (by
        rintro e w' ⟨g1,g2⟩
        rw [hou] at g2
        obtain ⟨v,he,ho⟩:=g2
        obtain ⟨va,vm,vc,hsh⟩:=ho.shape3
        subst hsh
        exact ⟨va,vm,vc,he,ho,g1⟩)
       rw [hou] at HTX
       clear HOU hou
       go_upto_region 13 with (go_at_call 109;refine (HOU2.o _).mono ?_;rintro _ w1 ⟨va,vm,vc,rfl,ho1,ht1⟩;have HO1:Hid (OOwn _ w1 _ l):=ho1;have HT1:Hid (Tch NoB wr w1):=ht1;have g:=HRXV.o w1 ht1;have q1:w1.cell? ⟨xb,1,none⟩=some (.slice none 0 0):=(Ja g.1);have z1:w1.frozen? ⟨xb,1,none⟩=false:=(Qg _ _ _ _ _ g.1);clear ht1 g ho1)
       obtain ⟨w2,e2,t2,g1,g2⟩:=HAF.o w1 (.slice va vm vc) HT1.o
       rw [e2]
       have b0:w2.cell? ⟨xb,0,none⟩=some (.slice na nm nc):=Ja g1
       have b1:w2.cell? ⟨xb,1,none⟩=some (.slice va vm vc):=Ja g1
       have r0:w2.cell? ⟨w.heap.size,0,none⟩=some (.slice none 0 0):=Ja g2
       have r1:w2.cell? ⟨w.heap.size,1,none⟩=some (.slice none 0 0):=Ja g2
       have fR:∀j,w2.frozen? ⟨w.heap.size,j,none⟩=false:=λj=>Qg _ _ _ _ _ g2
       have HG2:Hid (w2.heap[w.heap.size]? =_):=g2
       have HT2:Hid (Tch (λx=>x=xb) w1 w2):=t2
       have HW2:Hid (Tch NoB w w2):=(HT.o.trans HT1.o (λ_ h=>.inl h)).trans t2 (λx hx=>.inr (by have:=HXB.o;omega))
       clear e2 t2 g1 g2
       go_wp2
       obtain ⟨p1,p2⟩:=JcC HG2.o (.slice na nm nc) (.slice va vm vc)
       refine QK (v:=.tuple #[.agg #[.slice na nm nc,.slice va vm vc],.int .i64 (n:Int)]) (Jg results254 _ _ w.heap.size _ _ (0,0) _ rfl p1 underlying98 rfl (by kernel_rfl)) rfl ⟨?_,?_⟩
       ·exact HW2.o.trans p2 (λx hx=>.inr (by rw [hx];exact Ql _))
       ·rw [HTX.o]
        have hsz:=HSZ.o
        have hx:=HXB.o
        refine ⟨((na,nm,nc),(va,vm,vc)),rfl,?_,?_⟩
        ·have h5:=((HOW.o.tch HT1.o (λ_ _ h=>h)).tch HT2.o (λj hj e=>by have:=(HOW.o.own j hj).1;omega)).tch p2 (λj hj e=>by have:=(HOW.o.own j hj).1;omega)
         obtain ⟨k1,k2 | ⟨g,cap,cur,k2,k3,k4⟩⟩:=h5
         ·exact ⟨k1,.inl k2⟩
         ·exact ⟨k1,.inr ⟨g,cap,cur,k2,by omega,k4⟩⟩
        ·have h5:=(HO1.o.tch HT2.o (λj hj e=>by have:=(HO1.o.own j hj).1;omega)).tch p2 (λj hj e=>by have:=(HO1.o.own j hj).1;omega)
         obtain ⟨k1,k2 | ⟨g,cap,cur,k2,k3,k4⟩⟩:=h5
         ·exact ⟨k1,.inl k2⟩
         ·exact ⟨k1,.inr ⟨g,cap,cur,k2,by omega,k4⟩⟩
   ·have h3i:(s.size:Int)<(i:Int)+1+(wc':Int):=by omega
    have HE:Hid (Xe wj s.data.toList i=none):=by
     show Xe _ _ _=_
     unfold Xe
     rw [hbg,hsz,hwc',if_neg (λh=>h3 h.2.2.2.1)]
    clear hsz
    go_enter func254,ntmps254
    go_wp2
    refine QK (v:=.tuple #[.agg #[.slice none 0 0,.slice none 0 0],.int .i64 (-1)]) (Jg results254 _ _ w.heap.size _ _ (0,0) _ rfl (heap_alloc2_old _ _ _) underlying98 rfl (by kernel_rfl)) rfl ⟨?_,?_⟩
    ·exact (Ta NoB w _).trans (Ta NoB _ _) (λ_ h=>.inl h)
    ·rw [HE.o]
     exact ⟨((none,0,0),(none,0,0)),rfl⟩
  ·rcases Nat.lt_or_ge c 1 with h2l | h2l
   ·have h2j:(c:Int)<1:=by omega
    have HE:Hid (Xe wj s.data.toList i=none):=by
     show Xe _ _ _=_
     unfold Xe
     rw [hbg,if_neg (λh=>h2 ⟨h.2.1,h.2.2.1⟩)]
    clear hsz
    go_enter func254,ntmps254
    go_wp2
    refine QK (v:=.tuple #[.agg #[.slice none 0 0,.slice none 0 0],.int .i64 (-1)]) (Jg results254 _ _ w.heap.size _ _ (0,0) _ rfl (heap_alloc2_old _ _ _) underlying98 rfl (by kernel_rfl)) rfl ⟨?_,?_⟩
    ·exact (Ta NoB w _).trans (Ta NoB _ _) (λ_ h=>.inl h)
    ·rw [HE.o]
     exact ⟨((none,0,0),(none,0,0)),rfl⟩
   ·have h2j:¬(c:Int)<1:=by omega
    have h2k:3<(c:Int):=by omega
    have HE:Hid (Xe wj s.data.toList i=none):=by
     show Xe _ _ _=_
     unfold Xe
     rw [hbg,if_neg (λh=>h2 ⟨h.2.1,h.2.2.1⟩)]
    clear hsz
    go_enter func254,ntmps254
    go_wp2
    refine QK (v:=.tuple #[.agg #[.slice none 0 0,.slice none 0 0],.int .i64 (-1)]) (Jg results254 _ _ w.heap.size _ _ (0,0) _ rfl (heap_alloc2_old _ _ _) underlying98 rfl (by kernel_rfl)) rfl ⟨?_,?_⟩
    ·exact (Ta NoB w _).trans (Ta NoB _ _) (λ_ h=>.inl h)
    ·rw [HE.o]
     exact ⟨((none,0,0),(none,0,0)),rfl⟩
 ·have h1n:(s.size:Int)<=(i:Int):=by omega
  have HE:Hid (Xe wj s.data.toList i=none):=by
   show Xe _ _ _=_
   unfold Xe
   rw [hsz,if_neg (λh=>h1 h.1)]
  clear hsz
  go_enter func254,ntmps254
  go_wp2
  refine QK (v:=.tuple #[.agg #[.slice none 0 0,.slice none 0 0],.int .i64 (-1)]) (Jg results254 _ _ w.heap.size _ _ (0,0) _ rfl (heap_alloc2_old _ _ _) underlying98 rfl (by kernel_rfl)) rfl ⟨?_,?_⟩
  ·exact (Ta NoB w _).trans (Ta NoB _ _) (λ_ h=>.inl h)
  ·rw [HE.o]
   exact ⟨((none,0,0),(none,0,0)),rfl⟩
