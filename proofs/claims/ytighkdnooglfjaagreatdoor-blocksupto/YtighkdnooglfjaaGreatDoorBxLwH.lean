import Derived.Test.YtighkdnooglfjaaGreatDoorBxLwG
namespace Go.Proofs.YtighkdnooglfjaaGreatDoor
open Tryz
set_option maxRecDepth 100000
set_option maxHeartbeats 4000000
open Go.RowKit

section
variable {base:Nat} {w w':World} {nb gt n:Nat} {vi vo:Value} {c o:Nat->List VV} {ga gb hb:Nat->Nat} {k:Nat}
theorem JQ.tch0 {f:Nat} (h:JQ base w nb gt n vi vo c o ga gb hb f) (t:Tch NoB w w'):JQ base w' nb gt n vi vo c o ga gb hb f:=
 ⟨(t.block _ (Jb h.row) (λe=>e)).trans h.row,(t.block _ (Jb h.txs) (λe=>e)).trans h.txs,h.ins.tch t (λ_ _ e=>e),h.outs.tch t (λ_ _ e=>e),h.lc.tch t (λ_ _ _ _ e=>e),λi hi=>⟨(h.rm i hi).1,(t.block _ (QJ.1 (h.rm i hi).2.1).1 (λe=>e)).trans (h.rm i hi).2.1,(h.rm i hi).2.2⟩,h.low⟩
theorem JQ.step (h:JQ base w nb gt n vi vo c o ga gb hb k) (hk:k<n) (t:Tch (λj=>j=ga k\/j=gb k) w w'):JQ base w' nb gt n vi vo c o ga gb hb (k+1):=by
 have r1:=(h.lc.rowC k (Ql _) hk).2
 have r2:=(h.lc.rowO k (Ql _) hk).2
 have ne:∀{j:Nat} {cs:Array Value} {T:TypeId} {m:Nat×Nat},w.heap[j]? =some (.cells cs T m)->T ≠ 49->T ≠ 80->¬(j=ga k\/j=gb k):=λhr h1 h2 e=>by
  rcases e with rfl | rfl
  ·rw [r1] at hr;simp at hr;exact h1 hr.2.1.symm
  ·rw [r2] at hr;simp at hr;exact h2 hr.2.1.symm
 have keep:∀{j:Nat} {cs:Array Value} {T:TypeId} {m:Nat×Nat},w.heap[j]? =some (.cells cs T m)->¬(j=ga k\/j=gb k)->w'.heap[j]? =some (.cells cs T m):=λhr hn=>(t.block _ (Jb hr) hn).trans hr
 refine ⟨keep h.row (ne h.row (by decide) (by decide)),keep h.txs (ne h.txs (by decide) (by decide)),h.ins.tch t (λj hj=>?_),h.outs.tch t (λj hj=>?_),⟨λi h1 h2=>?_,λi h1 h2=>?_,h.lc.incC,h.lc.incO⟩,λi hi=>⟨(h.rm i hi).1,keep (h.rm i hi).2.1 (λe=>?_),(h.rm i hi).2.2⟩,h.low⟩
 ·obtain ⟨_,_,cs,m,hr⟩:=h.ins.own j hj
  exact ne hr (by decide) (by decide)
 ·obtain ⟨_,_,cs,m,hr⟩:=h.outs.own j hj
  exact ne hr (by decide) (by decide)
 ·obtain ⟨g1,g2⟩:=h.lc.rowC i (by omega) h2
  refine ⟨g1,keep g2 (λe=>?_)⟩
  rcases e with e | e
  ·have:=h.lc.incC k i (by omega) h2;omega
  ·rw [e,r2] at g2;simp at g2
 ·obtain ⟨g1,g2⟩:=h.lc.rowO i (by omega) h2
  refine ⟨g1,keep g2 (λe=>?_)⟩
  rcases e with e | e
  ·rw [e,r1] at g2;simp at g2
  ·have:=h.lc.incO k i (by omega) h2;omega
 ·rcases e with e | e
  ·have:=(h.rm i hi).2.2 k hk;omega
  ·have h3:=(h.rm i hi).2.1
   rw [e,r2] at h3;simp at h3
end
theorem JlS {B base:Nat} {w:World} {v:Value} {nb gt n:Nat} {vi vo:Value} {sl:Nat->Sl×Sl} {c o:Nat->List VV} {ga gb hb:Nat->Nat} (hA:JQ base w nb gt n vi vo c o ga gb hb 0) (hv:TxV B w v n sl c o) (hB:B<=base) (hn:n<=1000000):
  Calls prog 181 #[.pointer (some ⟨nb,0,none⟩),v] w λe w'=>e=.returned (.bool true)/\Tch (λj=>base<=j) w w':=by
 obtain ⟨ia,ic,hvs⟩:=hv.shape
 subst hvs
 have HV:Hid (TxV B w (.slice ia n ic) n sl c o):=hv
 have HA:Hid (JQ base w nb gt n vi vo c o ga gb hb 0):=hA
 have HBB:Hid (B<=base):=hB
 obtain ⟨va,vc,hvi⟩:=hA.ins.shape
 obtain ⟨oa,oc,hvo⟩:=hA.outs.shape
 rw [QM,List.length_range] at hvi hvo
 subst hvi
 subst hvo
 clear hv hA hB
 obtain ⟨m,hm⟩:∃m:Nat,n+8=m:=⟨_,rfl⟩
 have HM:Hid (n+8=m):=hm
 have HROW:Hid (∀V f,JQ base V nb gt n (.slice va n vc) (.slice oa n oc) c o ga gb hb f->V.cell? ⟨nb,0,none⟩=some (.slice (some ⟨gt,0,none⟩) m m)/\V.cell? ⟨nb,1,none⟩=some (.slice va n vc)/\V.cell? ⟨nb,2,none⟩=some (.slice oa n oc)):=λV f h=>by
  rw [<-hm]
  exact ⟨Ja h.row,Ja h.row,Ja h.row⟩
 have hnm:(n:Int)+8=(m:Int):=by omega
 clear hm
 go_enter func181,ntmps181
 go_wp2
 go_loopw [5,6,7,8,9,10,11] (λok i _ _ _ _ _ wr=>∃k:Nat,k<=n/\ok=.bool true/\i=.int .i64 (k:Int)/\Hid (JQ base wr nb gt n (.slice va n vc) (.slice oa n oc) c o ga gb hb k)/\Hid (Tch (λj=>base<=j) w wr)) (λ_ i _ _ _ _ _ _=>n - (intOf i).toNat)
 case atStart=>exact ⟨0,by omega,rfl,rfl,HA.o,Te _ _⟩
 case round=>
  obtain ⟨k,hk,rfl,rfl,HL,HT⟩:=hrel
  by_cases hlt:k<n
  ·have hlti:(k:Int)<(n:Int):=by omega
   have hkm:(k:Int)<(m:Int):=by omega
   obtain ⟨gi,oi,rfl,hgB,hgi,f0,f1⟩:=HV.o.cell k hlt
   obtain ⟨l1,l2⟩:=HV.o.lens k hlt
   obtain ⟨v1,s1,b1⟩:=HV.o.ins k hlt
   obtain ⟨v2,s2,b2⟩:=HV.o.outs k hlt
   unfold sV1 at f0 f1 v1 v2
   rw [l1] at f0 v1
   rw [l2] at f1 v2
   generalize (sl k).1.1=a1 at *
   generalize (sl k).1.2.2=c1 at *
   generalize (sl k).2.1=a2 at *
   generalize (sl k).2.2.2=c2 at *
   have HCE:Hid (∀V,Tch (λj=>base<=j) w V->V.cell? ⟨gi,oi+k * 2,none⟩=some (.slice a1 (c k).length c1)/\V.cell? ⟨gi,oi+k * 2+1,none⟩=some (.slice a2 (o k).length c2)):=λV hV=>by
    have hn':¬base<=gi:=by have:=HBB.o;omega
    exact ⟨(hV.cell (p:=⟨gi,oi+k * 2,none⟩) hgi hn').trans f0,(hV.cell (p:=⟨gi,oi+k * 2+1,none⟩) hgi hn').trans f1⟩
   have HLK:Hid (∀V,JQ base V nb gt n (.slice va n vc) (.slice oa n oc) c o ga gb hb k->V.cell? ⟨gt,k * 2,none⟩=some (.slice (some ⟨ga k,0,none⟩) (c k).length ((c k).length+8))/\V.cell? ⟨gt,k * 2+1,none⟩=some (.slice (some ⟨gb k,0,none⟩) (o k).length ((o k).length+8))):=λV h=>Xf h.txs (txE c o ga gb k) (by
    rw [QF (by simp;exact hlt),List.getElem?_map,List.getElem?_range hlt]
    rfl)
   have HIK:Hid (∀V f,JQ base V nb gt n (.slice va n vc) (.slice oa n oc) c o ga gb hb f->(∃gv,va=some ⟨gv,0,none⟩/\V.cell? ⟨gv,k,none⟩=some (inV c ga k))/\(∃hu,oa=some ⟨hu,0,none⟩/\V.cell? ⟨hu,k,none⟩=some (inV o gb k))):=λV f h=>by
    obtain ⟨gv,gc,ev,_,hcv⟩:=h.ins.at k _ (by rw [List.getElem?_map,List.getElem?_range hlt];rfl)
    obtain ⟨hu,huc,eu,_,hcu⟩:=h.outs.at k _ (by rw [List.getElem?_map,List.getElem?_range hlt];rfl)
    simp only [Qy,QM,List.length_range] at ev eu
    exact ⟨⟨gv,ev.1,hcv⟩,hu,eu.1,hcu⟩
   obtain ⟨⟨gv,rfl,_⟩,hu,rfl,_⟩:=HIK.o wr _ HL.o
   have HIC:Hid (∀V f,JQ base V nb gt n (.slice (some ⟨gv,0,none⟩) n vc) (.slice (some ⟨hu,0,none⟩) n oc) c o ga gb hb f->V.cell? ⟨gv,k,none⟩=some (inV c ga k)/\V.cell? ⟨hu,k,none⟩=some (inV o gb k)):=λV f h=>by
    obtain ⟨⟨g1,e1,h1⟩,g2,e2,h2⟩:=HIK.o V f h
    cases e1
    cases e2
    exact ⟨h1,h2⟩
   have HBC:Hid (∀V,Tch (λj=>base<=j) w V->JQ base V nb gt n (.slice (some ⟨gv,0,none⟩) n vc) (.slice (some ⟨hu,0,none⟩) n oc) c o ga gb hb k->Calls prog 267 #[.slice (some ⟨ga k,0,none⟩) ((c k).length+8) ((c k).length+8),.slice a1 (c k).length c1] V λe w'=>e=.returned (.bool true)/\w'.heap[ga k]? =some (.cells (vvA (List.replicate ((c k).length+8) qC)) 49)/\Tch (λj=>j=ga k) V w'):=λV hV h=>Je7 V (ga k) _ (c k) b1 (v1.tch hV (λj hj=>Qm HBB.o hj)) (Qm HBB.o (h.lc.rowC k (Ql _) hlt).1) s1 (h.lc.rowC k (Ql _) hlt).2
   have HBO:Hid (∀V,Tch (λj=>base<=j) w V->V.heap[gb k]? =some (.cells (vvA (o k++Xw)) 80)->Calls prog 64 #[.slice (some ⟨gb k,0,none⟩) ((o k).length+8) ((o k).length+8),.slice a2 (o k).length c2] V λe w'=>e=.returned (.bool true)/\w'.heap[gb k]? =some (.cells (vvA (List.replicate ((o k).length+8) qO)) 80)/\Tch (λj=>j=gb k) V w'):=λV hV h=>Jcr V (gb k) _ (o k) b2 (v2.tch hV (λj hj=>Qm HBB.o hj)) (Qm HBB.o (HL.o.lc.rowO k (Ql _) hlt).1) s2 h
   have HRO:Hid (∀V,JQ base V nb gt n (.slice (some ⟨gv,0,none⟩) n vc) (.slice (some ⟨hu,0,none⟩) n oc) c o ga gb hb k->(∃cs,V.heap[ga k]? =some (.cells cs 49))/\V.heap[gb k]? =some (.cells (vvA (o k++Xw)) 80)):=λV h=>⟨⟨_,(h.lc.rowC k (Ql _) hlt).2⟩,(h.lc.rowO k (Ql _) hlt).2⟩
   have HLO:Hid (base<=ga k/\base<=gb k):=⟨(HL.o.lc.rowC k (Ql _) hlt).1,(HL.o.lc.rowO k (Ql _) hlt).1⟩
   have HST:Hid (∀V V',JQ base V nb gt n (.slice (some ⟨gv,0,none⟩) n vc) (.slice (some ⟨hu,0,none⟩) n oc) c o ga gb hb k->Tch (λj=>j=ga k\/j=gb k) V V'->JQ base V' nb gt n (.slice (some ⟨gv,0,none⟩) n vc) (.slice (some ⟨hu,0,none⟩) n oc) c o ga gb hb (k+1)):=λV V' h t=>h.step hlt t
   unfold inV at HIC
   clear l1 l2 v1 s1 v2 s2 f0 f1 HIK hgi hgB
   generalize (c k).length=lc at *
   generalize (o k).length=lo at *
   generalize hl1:lc+8=lc8 at *
   generalize hl2:lo+8=lo8 at *
   have hlc8:(lc:Int)<=(lc8:Int):=by omega
   have hlo8:(lo:Int)<=(lo8:Int):=by omega
   have hlc9:lc<=lc8:=by omega
   have hlo9:lo<=lo8:=by omega
   clear hl1 hl2
   obtain ⟨gA,hgA⟩:∃g,ga k=g:=⟨_,rfl⟩
   obtain ⟨gB,hgB⟩:∃g,gb k=g:=⟨_,rfl⟩
   rw [hgA] at HLK HIC HBC HRO HLO HST
   rw [hgB] at HLK HIC HBO HRO HLO HST
   clear hgA hgB
   obtain ⟨r0,r1,r2⟩:=HROW.o wr _ HL.o
   obtain ⟨t0,t1⟩:=HLK.o wr HL.o
   go_upto_region 6 with fail
   obtain ⟨W1,hW1⟩:∃W1,W1=wr.alloc (.cells #[.slice (some ⟨gA,0,none⟩) lc lc8,.slice (some ⟨gB,0,none⟩) lo lo8] 98):=⟨_,rfl⟩
   rw [<-hW1]
   have tw:Tch NoB wr W1:=by rw [hW1];exact Ta _ _ _
   have HX1:Hid (W1.heap[wr.heap.size]? =some (.cells #[.slice (some ⟨gA,0,none⟩) lc lc8,.slice (some ⟨gB,0,none⟩) lo lo8] 98)):=by show _=_;rw [hW1];exact Qf _ _
   have HL1:Hid (JQ _ W1 _ _ _ _ _ _ _ _ _ _ _):=HL.o.tch0 tw
   have HT1:Hid (Tch (λj=>base<=j) w W1):=HT.o.go tw
   have HXB:Hid (base<=wr.heap.size):=Nat.le_of_lt (Nat.lt_of_le_of_lt HL.o.low.1 (Jb HL.o.row))
   clear hW1 tw r0 r1 r2 t0 t1
   generalize wr.heap.size=xb at *
   obtain ⟨p0,p1⟩:=HCE.o W1 HT1.o
   have x0:=cell_of_row W1 xb 0 _ _ _ HX1.o
   have x1:=cell_of_row W1 xb 1 _ _ _ HX1.o
   simp only [List.getElem?_toArray,List.getElem?_cons_zero,List.getElem?_cons_succ] at x0 x1
   go_cut [5] (λv5 wy=>v5=.bool true/\Hid (Tch NoB W1 wy))
   case first=>
    go_region_held3 (λV=>V.cell? ⟨xb,0,none⟩=some (.slice (some ⟨gA,0,none⟩) lc lc8)/\V.cell? ⟨xb,1,none⟩=some (.slice (some ⟨gB,0,none⟩) lo lo8)/\V.cell? ⟨gi,oi+k * 2,none⟩=some (.slice a1 lc c1)/\V.cell? ⟨gi,oi+k * 2+1,none⟩=some (.slice a2 lo c2)) (go_keep) (fail)
    all_goals
     go_wp2
     go_meet
     exact ⟨rfl,Td _ _ 1⟩
   case rest=>
   obtain ⟨rfl,HTY⟩:=hcut
   obtain ⟨w2,hw2⟩:∃w2,w2=wc:=⟨wc,rfl⟩
   subst hw2
   have HL2:Hid (JQ _ w2 _ _ _ _ _ _ _ _ _ _ _):=HL1.o.tch0 HTY.o
   have HT2:Hid (Tch (λj=>base<=j) w w2):=HT1.o.go HTY.o
   have HX2:Hid (w2.heap[xb]? =some (.cells #[.slice (some ⟨gA,0,none⟩) lc lc8,.slice (some ⟨gB,0,none⟩) lo lo8] 98)):=(HTY.o.block _ (Jb HX1.o) (λe=>e)).trans HX1.o
   clear p0 p1 x0 x1 HTY HL1 HT1 HX1
   obtain ⟨p0,p1⟩:=HCE.o w2 HT2.o
   obtain ⟨r0,r1,r2⟩:=HROW.o w2 _ HL2.o
   obtain ⟨i1,i2⟩:=HIC.o w2 _ HL2.o
   have HS2:Hid (∀V,Tch (λj=>j=gA) w2 V->(V.cell? ⟨nb,1,none⟩=some (.slice (some ⟨gv,0,none⟩) n vc)/\V.cell? ⟨gv,k,none⟩=some (.slice (some ⟨gA,0,none⟩) lc8 lc8)/\V.cell? ⟨gi,oi+k * 2,none⟩=some (.slice a1 lc c1))/\V.heap[xb]? =some (.cells #[.slice (some ⟨gA,0,none⟩) lc lc8,.slice (some ⟨gB,0,none⟩) lo lo8] 98)/\V.heap[gB]? =some (.cells (vvA (o k++Xw)) 80)):=λV hV=>by
    have h1:=HST.o w2 V HL2.o (hV.mono (λj hj=>.inl (.inl hj)))
    obtain ⟨⟨cs,ra⟩,rb⟩:=HRO.o w2 HL2.o
    have ne:∀{j:Nat} {cs:Array Value} {T:TypeId} {m:Nat×Nat},w2.heap[j]? =some (.cells cs T m)->T ≠ 49->¬j=gA:=λhr h1 e=>by
     rw [e,ra] at hr;simp at hr;exact h1 hr.2.1.symm
    exact ⟨⟨(HROW.o V _ h1).2.1,(HIC.o V _ h1).1,(HCE.o V (HT2.o.trans hV (λj hj=>.inl (by rw [hj];exact HLO.o.1)))).1⟩,(hV.block _ (Jb HX2.o) (ne HX2.o (by decide))).trans HX2.o,(hV.block _ (Jb rb) (ne rb (by decide))).trans rb⟩
   go_upto_region 7 with fail
   go_cut [8] (λv8 wy=>v8=.bool true/\Hid (Tch (λj=>j=gA) w2 wy)/\Hid (wy.heap[gA]? =some (.cells (vvA (List.replicate lc8 qC)) 49)))
   case first=>
    go_region_held3 (λV=>V.cell? ⟨nb,1,none⟩=some (.slice (some ⟨gv,0,none⟩) n vc)/\V.cell? ⟨gv,k,none⟩=some (.slice (some ⟨gA,0,none⟩) lc8 lc8)/\V.cell? ⟨gi,oi+k * 2,none⟩=some (.slice a1 lc c1)) (go_keep) ((go_at_call 267;refine (HBC.o _ (HT2.o.go (Td _ w2 1)) (HL2.o.tch0 (Td _ w2 1))).mono ?_;rintro _ w3 ⟨rfl,hr3,ht3⟩;have HT3:Hid (Tch (λj=>j=gA) w2 w3):=((Td NoB w2 1).mono noE).trans ht3 (λ_ h=>.inl h);have HR3:Hid (w3.heap[gA]? =_):=hr3;obtain ⟨⟨y0,y1,y2⟩,_⟩:=HS2.o w3 HT3.o;clear hr3 ht3))
    all_goals
     go_wp2
     go_meet
     exact ⟨rfl,HT3,HR3⟩
   case rest=>
   obtain ⟨rfl,HT3,HR3⟩:=hcut
   obtain ⟨w3,hw3⟩:∃w3,w3=wc:=⟨wc,rfl⟩
   subst hw3
   clear p0 p1 r0 r1 r2 i1 i2
   obtain ⟨_,HX3,HB3⟩:_/\Hid _/\Hid _:=HS2.o w3 HT3.o
   have HL3:Hid (JQ _ w3 _ _ _ _ _ _ _ _ _ _ (k+1)):=HST.o w2 w3 HL2.o (HT3.o.mono (λj hj=>.inl (.inl hj)))
   have HTW3:Hid (Tch (λj=>base<=j) w w3):=HT2.o.trans HT3.o (λj hj=>.inl (by rw [hj];exact HLO.o.1))
   obtain ⟨p0,p1⟩:=HCE.o w3 HTW3.o
   obtain ⟨r0,r1,r2⟩:=HROW.o w3 _ HL3.o
   obtain ⟨i1,i2⟩:=HIC.o w3 _ HL3.o
   have HS3:Hid (∀V,Tch (λj=>j=gB) w3 V->(V.cell? ⟨nb,2,none⟩=some (.slice (some ⟨hu,0,none⟩) n oc)/\V.cell? ⟨hu,k,none⟩=some (.slice (some ⟨gB,0,none⟩) lo8 lo8)/\V.cell? ⟨gi,oi+k * 2+1,none⟩=some (.slice a2 lo c2))/\V.heap[xb]? =some (.cells #[.slice (some ⟨gA,0,none⟩) lc lc8,.slice (some ⟨gB,0,none⟩) lo lo8] 98)/\V.heap[gA]? =some (.cells (vvA (List.replicate lc8 qC)) 49)/\JQ base V nb gt n (.slice (some ⟨gv,0,none⟩) n vc) (.slice (some ⟨hu,0,none⟩) n oc) c o ga gb hb (k+1)):=λV hV=>by
    have h1:=HST.o w2 V HL2.o ((HT3.o.mono (λj hj=>.inl (.inl hj))).trans hV (λj hj=>.inl (.inr hj)))
    have ne:∀{j:Nat} {cs:Array Value} {T:TypeId} {m:Nat×Nat},w3.heap[j]? =some (.cells cs T m)->T ≠ 80->¬j=gB:=λhr h1 e=>by
     rw [e,HB3.o] at hr;simp at hr;exact h1 hr.2.1.symm
    exact ⟨⟨(HROW.o V _ h1).2.2,(HIC.o V _ h1).2,(HCE.o V (HTW3.o.trans hV (λj hj=>.inl (by rw [hj];exact HLO.o.2)))).2⟩,(hV.block _ (Jb HX3.o) (ne HX3.o (by decide))).trans HX3.o,(hV.block _ (Jb HR3.o) (ne HR3.o (by decide))).trans HR3.o,h1⟩
   go_upto_region 8 with fail
   go_cut [9] (λv9 wy=>v9=.bool true/\Hid (Tch (λj=>j=gB) w3 wy)/\Hid (wy.heap[gB]? =some (.cells (vvA (List.replicate lo8 qO)) 80)))
   case first=>
    go_region_held3 (λV=>V.cell? ⟨nb,2,none⟩=some (.slice (some ⟨hu,0,none⟩) n oc)/\V.cell? ⟨hu,k,none⟩=some (.slice (some ⟨gB,0,none⟩) lo8 lo8)/\V.cell? ⟨gi,oi+k * 2+1,none⟩=some (.slice a2 lo c2)) (go_keep) ((go_at_call 64;refine (HBO.o _ (HTW3.o.go (Td _ w3 1)) HB3.o).mono ?_;rintro _ w4 ⟨rfl,hr4,ht4⟩;have HT4:Hid (Tch (λj=>j=gB) w3 w4):=((Td NoB w3 1).mono noE).trans ht4 (λ_ h=>.inl h);have HR4:Hid (w4.heap[gB]? =_):=hr4;obtain ⟨⟨y0,y1,y2⟩,_⟩:=HS3.o w4 HT4.o;clear hr4 ht4))
    all_goals
     go_wp2
     go_meet
     exact ⟨rfl,HT4,HR4⟩
   case rest=>
   obtain ⟨rfl,HT4,HO4⟩:=hcut
   obtain ⟨w4,hw4⟩:∃w4,w4=wc:=⟨wc,rfl⟩
   subst hw4
   clear p0 p1 r0 r1 r2 i1 i2
   obtain ⟨_,HX4,HC4,HL4⟩:_/\Hid _/\Hid _/\Hid _:=HS3.o w4 HT4.o
   have HTW4:Hid (Tch (λj=>base<=j) w w4):=HTW3.o.trans HT4.o (λj hj=>.inl (by rw [hj];exact HLO.o.2))
   have x0:=cell_of_row w4 xb 0 _ _ _ HX4.o
   have x1:=cell_of_row w4 xb 1 _ _ _ HX4.o
   simp only [List.getElem?_toArray,List.getElem?_cons_zero,List.getElem?_cons_succ] at x0 x1
   go_wp2
   go_loopw [5,10] (λok i wx=>∃q:Nat,q<=lc/\ok=.bool true/\i=.int .i64 (q:Int)/\Hid (wx=w4)) (λ_ i _=>lc - (intOf i).toNat)
   case atStart=>exact ⟨0,by omega,rfl,rfl,by show _=_;rfl⟩
   case round=>
    obtain ⟨q,hq,rfl,rfl,HW⟩:=hrel
    have hw:=HW.o
    subst hw
    by_cases hq1:q<lc
    ·have hq2:(q:Int)<(lc:Int):=by omega
     obtain ⟨_,g1⟩:=Xf HC4.o qC (i:=q) (by rw [List.getElem?_replicate,if_pos (by omega)])
     go_wp2
     go_roundw
     case rel=>exact ⟨q+1,by omega,rfl,by go_num,trivial⟩
     case measure=>simp [intOf];omega
    ·obtain rfl:q=lc:=by omega
     have hge:¬(q:Int)<(q:Int):=by omega
     go_wp2
     go_loopw [5,11] (λok i wx=>∃p:Nat,p<=lo/\ok=.bool true/\i=.int .i64 (p:Int)/\Hid (wx=wr)) (λ_ i _=>lo - (intOf i).toNat)
     case atStart=>exact ⟨0,by omega,rfl,rfl,by show _=_;rfl⟩
     case round=>
      obtain ⟨p,hp,rfl,rfl,HW2⟩:=hrel
      have hw:=HW2.o
      subst hw
      by_cases hp1:p<lo
      ·have hp2:(p:Int)<(lo:Int):=by omega
       obtain ⟨_,g1⟩:=Xf HO4.o qO (i:=p) (by rw [List.getElem?_replicate,if_pos (by omega)])
       go_wp2
       go_roundw
       case rel=>exact ⟨p+1,by omega,rfl,by go_num,trivial⟩
       case measure=>simp [intOf];omega
      ·obtain rfl:p=lo:=by omega
       have hgf:¬(p:Int)<(p:Int):=by omega
       go_wp2
       go_roundw
       case rel=>exact ⟨k+1,by omega,rfl,by go_num,HL4,HTW4⟩
       case measure=>simp [intOf];omega
  ·obtain rfl:k=n:=by omega
   have hge:¬(k:Int)<(k:Int):=by omega
   go_wp2
   have HB:Hid (∀(i:Nat) V,i<8->Calls prog 265 #[.int .i64 (i:Int)] V λe w'=>e=.returned (.agg #[.string behB,.int .i64 (-(i:Int) - 1)])/\Tch NoB V w'):=λi V hk=>by
    have:=Yg (i:Int) V
    rw [show wrap64 (wrap64 (-(i:Int)) - 1)= -(i:Int) - 1 by unfold wrap64;omega] at this
    exact this
   go_loopw [5,12,13] (λok i _ wx=>∃q:Nat,q<=8/\ok=.bool true/\i=.int .i64 (q:Int)/\Hid (JQ base wx nb gt k (.slice va k vc) (.slice oa k oc) c o ga gb hb k)/\Hid (Tch (λj=>base<=j) w wx)) (λ_ i _ _=>8 - (intOf i).toNat)
   case atStart=>exact ⟨0,by omega,rfl,rfl,HL.o,HT.o⟩
   case round=>
    clear HL HT
    obtain ⟨q,hq,rfl,rfl,HL,HT⟩:=hrel
    by_cases hq8:q<8
    ·have hqi:(q:Int)<8:=by omega
     obtain ⟨p,hp⟩:∃p:Nat,k+q=p:=⟨_,rfl⟩
     have wq:IntKind.i64.wrap ((k:Int)+(q:Int))=(p:Int):=by rw [w63 _ (by omega) (by omega)];omega
     have hpm:(p:Int)<(m:Int):=by omega
     have HBk:Hid (∀V,Calls prog 265 #[.int .i64 (q:Int)] V λe w'=>e=.returned (.agg #[.string behB,.int .i64 (-(q:Int) - 1)])/\Tch NoB V w'):=λV=>HB.o q V hq8
     obtain ⟨z,hz⟩:∃z:Int, -(q:Int) - 1=z:=⟨_,rfl⟩
     rw [hz] at HBk
     obtain ⟨r0,_⟩:=HROW.o wr _ HL.o
     obtain ⟨t0,t1⟩:=Xf HL.o.txs (ZU hb q) (i:=p) (by
      rw [Qz (by simp;omega),QM,List.length_range,show p - k=q by omega,List.getElem?_map,List.getElem?_range hq8]
      rfl)
     unfold ZU at t0 t1
     have HHB:Hid (∀V,Tch NoB wr V->V.cell? ⟨hb q,0,none⟩=some (.string behB)/\V.cell? ⟨hb q,1,none⟩=some (.int .i64 z)):=λV hV=>by
      have:=Xf ((HL.o.tch0 hV).rm q hq8).2.1 (i:=0) (behC q) rfl
      unfold behC at this
      rw [hz] at this
      exact this
     generalize hb q=hq0 at *
     clear hz hp
     go_upto_region 22 with fail
     obtain ⟨W1,hW1⟩:∃W1,W1=wr.alloc (.cells #[.slice (some ⟨hq0,0,none⟩) 1 1,.slice none 0 0] 98):=⟨_,rfl⟩
     rw [<-hW1]
     have HT1:Hid (Tch NoB wr W1):=by show Tch _ _ _;rw [hW1];exact Ta _ _ _
     have HX:Hid (∀V,Tch NoB W1 V->V.cell? ⟨wr.heap.size,0,none⟩=some (.slice (some ⟨hq0,0,none⟩) 1 1)/\V.cell? ⟨wr.heap.size,1,none⟩=some (.slice none 0 0)):=λV hV=>by
      have h1:W1.heap[wr.heap.size]? =some (.cells #[.slice (some ⟨hq0,0,none⟩) 1 1,.slice none 0 0] 98):=by rw [hW1];exact Qf _ _
      have h2:=(hV.block _ (Jb h1) (λe=>e)).trans h1
      exact ⟨Ja h2,Ja h2⟩
     clear hW1 r0 t0 t1
     obtain ⟨x0,x1⟩:=HX.o W1 (Te _ _)
     obtain ⟨x2,x3⟩:=HHB.o W1 HT1.o
     generalize wr.heap.size=xb at *
     go_region_held3 (λV=>V.cell? ⟨xb,0,none⟩=some (.slice (some ⟨hq0,0,none⟩) 1 1)/\V.cell? ⟨xb,1,none⟩=some (.slice none 0 0)/\V.cell? ⟨hq0,0,none⟩=some (.string behB)/\V.cell? ⟨hq0,1,none⟩=some (.int .i64 z)) (go_keep) ((go_at_call 265;refine (HBk.o _).mono ?_;rintro _ w2 ⟨rfl,ht2⟩;have HT2:Hid (Tch NoB W1 w2):=(Td NoB W1 1).go ht2;obtain ⟨y0,y1⟩:=HX.o w2 HT2.o;obtain ⟨y2,y3⟩:=HHB.o w2 (HT1.o.go HT2.o);clear ht2))
     all_goals
      go_wp2
      go_roundw
      case rel=>exact ⟨q+1,by omega,rfl,by go_num,HL.o.tch0 (HT1.o.go HT2.o),HT.o.go (HT1.o.go HT2.o)⟩
      case measure=>simp [intOf];omega
    ·obtain rfl:q=8:=by omega
     have hgf:¬((8:Nat):Int)<8:=by omega
     go_wp2
     go_loopw [14] (λi wx=>∃(q:Nat) (T:List VV),q<=m/\i=.int .i64 (q:Int)/\Hid (T.length=m)/\Hid (wx.heap[gt]? =some (.cells (vvA T) 98))/\Hid (wx.heap[nb]? =some (.cells #[.slice (some ⟨gt,0,none⟩) m m,.slice va k vc,.slice oa k oc] 311))/\Hid (Tch (λj=>base<=j) w wx)) (λi _=>m - (intOf i).toNat)
     case atStart=>
      have h1:=HL.o.row
      rw [HM.o] at h1
      exact ⟨0,_,by omega,rfl,by show List.length _=_;rw [Qe,QM,QM,List.length_range,List.length_range];exact HM.o,HL.o.txs,h1,HT.o⟩
     case round=>
      have HGT:Hid (base<=gt):=HL.o.low.2
      clear HL HT
      obtain ⟨q,T,hq,rfl,HN,HG,HR,HT⟩:=hrel
      have r0:wr.cell? ⟨nb,0,none⟩=some (.slice (some ⟨gt,0,none⟩) m m):=Ja HR.o
      by_cases hqm:q<m
      ·have hqi:(q:Int)<(m:Int):=by omega
       have HQ:Hid (q<T.length):=by show q<T.length;rw [HN.o];exact hqm
       obtain ⟨f0,f1⟩:=Xf HG.o _ (Qd HQ.o)
       have fz:=Yr HG.o
       obtain ⟨p1,p2⟩:=JbE HG.o HQ.o (.slice none 0 0) (.slice none 0 0)
       have HP1:Hid (_=some (Obj.cells _ _)):=p1
       have HP2:Hid (Tch _ wr _):=p2
       clear p1 p2
       go_wp2
       go_roundw
       case rel=>
        refine ⟨q+1,_,by omega,by go_num,?_,HP1,(HP2.o.block _ (Jb HR.o) (λe=>?_)).trans HR.o,HT.o.trans HP2.o (λj hj=>.inl (by rw [hj];exact HGT.o))⟩
        ·show List.length _=_;rw [List.length_set];exact HN.o
        ·have:=HR.o
         rw [e,HG.o] at this
         simp at this
       case measure=>simp [intOf];omega
      ·obtain rfl:q=m:=by omega
       have hgg:¬(q:Int)<(q:Int):=by omega
       go_wp2
       go_ret
       exact ⟨rfl,HT.o⟩
