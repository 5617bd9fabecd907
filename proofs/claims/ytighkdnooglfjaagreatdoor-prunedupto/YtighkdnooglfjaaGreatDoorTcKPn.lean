import Derived.Test.YtighkdnooglfjaaGreatDoorTcKRq
namespace Go.Proofs.YtighkdnooglfjaaGreatDoor
open Go.Proofs.Tryz
set_option maxRecDepth 100000
set_option maxHeartbeats 4000000
open Go.RowKit

theorem JjR {E:Nat->Addr} {base:Nat} (M:Jg7 E base) (Lf:Nat->∀wd,Led E wd base) (hM:∀wd,M.led wd=Lf 0 wd) (hQ:∀pn wd,LedQ (Lf pn wd)) (hSt:∀pn wd,JeN (Lf pn wd)) (hPr:∀pn wd,pn<134217728->JbN (Lf pn wd) (Lf (pn+1) wd)) (c:Int) (v1 v2:Value) (first:List (Nat×Nat)) (script:List Jcp) (w:World) (hF:JV E base w) (hb:base<=w.heap.size) (h1:Jo base w v1 first) (ho:∀o∈first,Jq o) (hc1: -9223372036854775808<=c) (hc2:c<9223372036854775808)
  (h2:Ja5 base w v2 script) (hpo:∀s∈script,∀p∈s.pays,p.Ok) (hab:∀s∈script,(-9223372036854775808<=s.a/\s.a<9223372036854775808)/\(-9223372036854775808<=s.b/\s.b<9223372036854775808)) (hn:script.length<=2097152):
  Calls prog 10 #[.int .i64 c,v1,v2] w λe w'=>e=.returned (.bool true)/\Tch (λj=>base<=j) w w':=by
 have HSH:Hid (Calls prog 14 #[.int .i64 c,v1] w (Jjb M w)):=Jmt M c base v1 first w hF hb h1 ho hc1 hc2
 obtain ⟨a1,n1,rfl⟩:=h1.shape
 obtain ⟨a2,n2,rfl⟩:=h2.shape
 have HF:Hid (JV E base w/\base<=w.heap.size):=⟨hF,hb⟩
 have HST:Hid _:=h2
 have HPO:Hid _:=hpo
 have HAB:Hid _:=hab
 have HN:Hid (script.length<=2097152):=hn
 clear hF hb h1 ho h2 hpo hn hab
 go_enter func10,ntmps10
 go_wp2_with fail
 refine HSH.o.mono ?_
 rintro e w1 ⟨ht1,wd,xb,lb,F1,ch1,vst1,sl1,states1,hw1,hw,rfl,hS,hl1,hl3⟩
 have HT1:Hid (Tch (λj=>base<=j) w w1):=ht1.mono noE
 have HS1:Hid _:=hS
 have HL1:Hid (states1.length=1/\∀l∈states1,l.length<=3):=⟨hl1,hl3⟩
 rw [hM wd] at HS1
 have HQ:Hid (∀pn,LedQ (Lf pn wd)):=λpn=>hQ pn wd
 have HSTO:Hid (∀pn,JeN (Lf pn wd)):=λpn=>hSt pn wd
 have HPR:Hid (∀pn,pn<134217728->JbN (Lf pn wd) (Lf (pn+1) wd)):=λpn=>hPr pn wd
 clear ht1 hS hl1 hl3 HSH hQ hSt hPr hM
 generalize hLL:(λpn=>Lf pn wd)=L at *
 have hL2:∀pn,Lf pn wd=L pn:=λpn=>by rw [<-hLL]
 simp only [hL2] at HS1 HQ HSTO HPR
 clear hLL hL2
 go_wp2
 go_loopw [8] (λi wr=>∃(k pn:Nat) (F:Nat->Prop) (fl:Nat) (ch:Ch) (vst:Value) (sl:List Sl) (states:List (List Held)),k<=script.length/\pn<=k/\i=.int .i64 (k:Int)/\Hid (JP (L pn) wr xb lb F fl ch vst sl states)/\Hid (Tch (λj=>base<=j) w wr)/\Hid (states.length<=1+2 * k/\∀l∈states,l.length<=3+9 * k)) (λi _=>script.length - (intOf i).toNat)
 case atStart=>exact ⟨0,0,F1,0,ch1,vst1,sl1,states1,by omega,by omega,rfl,HS1,HT1,⟨by have:=HL1.o.1;omega,λl hl=>by have:=HL1.o.2 l hl;omega⟩⟩
 case round=>
  obtain ⟨k,pn,F,fl,ch,vst,sl,states,hk,hpn,rfl,HS,HT,HL⟩:=hrel
  have HFr:Hid (JV E base wr):=HF.o.1.tch HT.o (λ_ h=>h)
  have HLL:Hid (states.length<=1000000000/\∀l∈states,l.length<1000000000):=⟨by have:=HL.o.1;have:=HN.o;omega,λl hl=>by have:=HL.o.2 l hl;have:=HN.o;omega⟩
  by_cases hlt:k<script.length
  ·rcases HST.o with ⟨_,e2⟩ | ⟨g,o,cc,e,hg,hcell⟩
   ·rw [e2] at hlt;simp at hlt
   simp only [Qy,true_and] at e
   obtain ⟨rfl,rfl⟩:=e
   obtain ⟨va,hpl,d0,d1,d2,d3⟩:=hcell k hlt
   have hgz:g<w.heap.size:=Qk hg HF.o.2
   have HCE:Hid (∀W,Tch (λj=>base<=j) w W->∀x,W.cell? ⟨g,x,none⟩=w.cell? ⟨g,x,none⟩):=λW hT x=>hT.cell (p:=⟨g,x,none⟩) hgz (λe=>by simp only at e;omega)
   have q0:=(HCE.o wr HT.o (o+k * 4)).trans d0
   have q1:=(HCE.o wr HT.o (o+k * 4+1)).trans d1
   have q2:=(HCE.o wr HT.o (o+k * 4+2)).trans d2
   have q3:=(HCE.o wr HT.o (o+k * 4+3)).trans d3
   have hlti:(k:Int)<(script.length:Int):=by omega
   have HPL:Hid (YF base w va script[k].pays):=hpl
   have HPK:Hid (∀p∈script[k].pays,p.Ok):=HPO.o _ (Qx hlt)
   have HABk:Hid ((-9223372036854775808<=script[k].a/\script[k].a<9223372036854775808)/\(-9223372036854775808<=script[k].b/\script[k].b<9223372036854775808)):=HAB.o _ (Qx hlt)
   obtain ⟨vp0,vp1,hvp⟩:∃x y,va=.slice x script[k].pays.length y:=(hpl.at HF.o.2).shape
   subst hvp
   clear hcell d0 d1 d2 d3 hpl
   have HLT:Hid _:=hlt
   have hkb:k<2097152:=by have:=HN.o;omega
   generalize script[k].kind=kd at *
   generalize script[k].a=sa at *
   generalize script[k].b=sb at *
   generalize script[k].pays=ps at *
   obtain ⟨W,hW⟩:∃W,W=wr.alloc (.cells #[.int .i64 kd,.int .i64 sa,.int .i64 sb,.slice vp0 ps.length vp1] 31):=⟨_,rfl⟩
   have tA:Tch NoB wr W:=by rw [hW];exact Ta _ _ _
   have hrow:W.heap[wr.heap.size]? =some (.cells #[.int .i64 kd,.int .i64 sa,.int .i64 sb,.slice vp0 ps.length vp1] 31):=by rw [hW];exact Qf _ _
   have HBX:Hid (∀(S:Nat->Prop) V,Tch S W V->¬S wr.heap.size->V.cell? ⟨wr.heap.size,0,none⟩=some (.int .i64 kd)/\V.cell? ⟨wr.heap.size,1,none⟩=some (.int .i64 sa)/\V.cell? ⟨wr.heap.size,2,none⟩=some (.int .i64 sb)/\V.cell? ⟨wr.heap.size,3,none⟩=some (.slice vp0 ps.length vp1)):=λS V hT hs=>by
    have:=(hT.block _ (Jb hrow) hs).trans hrow
    exact ⟨Ja this,Ja this,Ja this,Ja this⟩
   have HTA:Hid (Tch NoB wr W):=tA
   have HW:Hid (W=_):=hW
   obtain ⟨b0,b1,b2,b3⟩:=HBX.o NoB W (Te _ _) (λh=>h)
   clear tA hrow hW hlt
   have HPN:Hid (pn<=k):=hpn
   have HPR1:Hid (JbN (L pn) (L (pn+1))):=HPR.o pn (by omega)
   clear hpn
   by_cases hk2:kd=2
   ·subst hk2
    have HDO:Hid (Calls prog 20 #[.pointer (some ⟨xb,0,none⟩),.agg #[.int .i64 2,.int .i64 sa,.int .i64 sb,.slice vp0 ps.length vp1]] W λe w'=>e=.returned (.bool true)/\∃F' fl',JP (L (pn+1)) w' xb lb F' fl' ch vst sl states/\Tch (λj=>F j\/j=xb) W w'/\(∀j,F' j->F j\/W.heap.size<=j)):=Jlb (L pn) (L (pn+1)) HPR1.o (HFr.o.tch HTA.o noE) (HS.o.next HTA.o) HLL.o.1 sa sb HABk.o.1.1 HABk.o.1.2 vp0 ps.length vp1
    go_upto_region 8 with fail
    rw [<-HW.o]
    go_wp2_with fail
    refine HDO.o.mono ?_
    rintro _ w2 ⟨rfl,F2,fl2,hS2,hT2W,_⟩
    have hns:¬(F wr.heap.size\/wr.heap.size=xb):=λh=>by
     rcases h with h | h
     ·have:=((L pn).own HS.o.led _ h).2;omega
     ·have:=(Jb HS.o.row);omega
    obtain ⟨e0,e1,e2,e3⟩:=HBX.o _ w2 hT2W hns
    have HS2:Hid _:=hS2
    have HT2:Hid (Tch (λj=>base<=j) w w2):=(HT.o.trans HTA.o noE).trans hT2W (λj hj=>.inl (by
     rcases hj with h | rfl
     ·exact ((L pn).own HS.o.led j h).1
     ·exact HS.o.low))
    clear b0 b1 b2 b3 e1 e2 e3 hS2 hns HDO hT2W
    go_wp2
    go_roundw
    case rel=>exact ⟨k+1,pn+1,F2,fl2,ch,vst,sl,states,HLT.o,by have:=HPN.o;omega,by go_num,HS2,HT2,⟨by have:=HL.o.1;omega,λl hl=>by have:=HL.o.2 l hl;omega⟩⟩
    case measure=>have:=HLT.o;simp [intOf];omega
   ·by_cases hk1:kd=1
    ·subst hk1
     have HDO:Hid (Calls prog 20 #[.pointer (some ⟨xb,0,none⟩),.agg #[.int .i64 1,.int .i64 sa,.int .i64 sb,.slice vp0 ps.length vp1]] W λe w'=>e=.returned (.bool true)/\∃V,Tch NoB W V/\∃F' ch' vst' sl' states',JP (L pn) w' xb lb F' fl ch' vst' sl' states'/\Tch (λj=>F j\/j=xb\/some j=vst.ownBlock) V w'/\states'.length<=states.length+1/\∀l∈states',∃l0∈states,l.length<=l0.length+9):=by
      refine Jla xb sa sb vp0 ps.length vp1 (λV w'=>∃F' ch' vst' sl' states',JP (L pn) w' xb lb F' fl ch' vst' sl' states'/\Tch (λj=>F j\/j=xb\/some j=vst.ownBlock) V w'/\states'.length<=states.length+1/\∀l∈states',∃l0∈states,l.length<=l0.length+9) (λV hT=>?_)
      have hTV:Tch (λj=>base<=j) w V:=(HT.o.trans HTA.o noE).trans hT noE
      have hbV:base<=V.heap.size:=Qm HF.o.2 hTV.size
      refine (Jms (L pn) hw1 hw xb lb F fl ch vst sl states _ ps V (HF.o.1.tch hTV (λ_ h=>h)) ((HS.o.next HTA.o).next hT) ((HPL.o.tch HF.o.2 hTV (λ_ h=>h)).at hbV) HPK.o (λl hl=>by have:=HL.o.2 l hl;have:=HN.o;omega) (by have:=HS.o.len;have:=HL.o.1;have:=HN.o;omega)).mono ?_
      rintro e w' ⟨he,F',ch',vst',sl',states',g1,g2,_,_,g5,g6⟩
      exact ⟨he,F',ch',vst',sl',states',g1,g2,g5,g6⟩
     go_upto_region 8 with fail
     rw [<-HW.o]
     go_wp2_with fail
     refine HDO.o.mono ?_
     rintro _ w2 ⟨rfl,V,hTV,F2,ch2,vst2,sl2,states2,hS2,hT2,hl2,hh2⟩
     have hT2W:Tch (λj=>F j\/j=xb\/some j=vst.ownBlock) W w2:=(hTV.mono noE).trans hT2 (λ_ h=>.inl h)
     have hns:¬(F wr.heap.size\/wr.heap.size=xb\/some wr.heap.size=vst.ownBlock):=λh=>by
      rcases h with h | h | h
      ·have:=((L pn).own HS.o.led _ h).2;omega
      ·have:=(Jb HS.o.row);omega
      ·have:=(HS.o.st.own _ h.symm).2;omega
     obtain ⟨e0,e1,e2,e3⟩:=HBX.o _ w2 hT2W hns
     have HS2:Hid _:=hS2
     have HT2:Hid (Tch (λj=>base<=j) w w2):=(HT.o.trans HTA.o noE).trans hT2W (λj hj=>.inl (by
      rcases hj with h | rfl | h
      ·exact ((L pn).own HS.o.led j h).1
      ·exact HS.o.low
      ·exact (HS.o.st.own j h.symm).1))
     have HL2:Hid (states2.length<=1+2 * (k+1)/\∀l∈states2,l.length<=3+9 * (k+1)):=⟨by have:=HL.o.1;omega,λl hl=>by obtain ⟨l0,h0,h1⟩:=hh2 l hl;have:=HL.o.2 l0 h0;omega⟩
     clear b0 b1 b2 b3 e1 e2 e3 hS2 hT2 hl2 hh2 hT2W hns hTV HDO
     go_wp2
     go_roundw
     case rel=>exact ⟨k+1,pn,F2,fl,ch2,vst2,sl2,states2,HLT.o,by have:=HPN.o;omega,by go_num,HS2,HT2,HL2⟩
     case measure=>have:=HLT.o;simp [intOf];omega
    ·have HDO:Hid (Calls prog 20 #[.pointer (some ⟨xb,0,none⟩),.agg #[.int .i64 kd,.int .i64 sa,.int .i64 sb,.slice vp0 ps.length vp1]] W λe w'=>e=.returned (.bool true)/\Tch NoB W w'):=Jk9 xb kd sa sb vp0 ps.length vp1 hk1 hk2
     go_upto_region 8 with fail
     rw [<-HW.o]
     go_wp2_with fail
     refine HDO.o.mono ?_
     rintro _ w2 ⟨rfl,ht2⟩
     have HT2:Hid (Tch NoB wr w2):=HTA.o.go ht2
     obtain ⟨e0,e1,e2,e3⟩:=HBX.o _ w2 ht2 (λh=>h)
     clear b0 b1 b2 b3 ht2 HDO
     by_cases hk3:kd=3
     ·subst hk3
      have hF2:JV E base w2:=HFr.o.tch HT2.o noE
      have hS2:=HS.o.next HT2.o
      obtain ⟨A1,A2,A3,A4,A5,A6⟩:=Jgt (L pn) (L (pn+1)) (HQ.o pn) (HSTO.o pn) HPR1.o hw1 hw hF2 hS2 HLL.o
      obtain ⟨va,vc,_,x2,x0⟩:=hS2.len2
      have x3:w2.cell? ⟨xb,3,none⟩=some (.int .i64 (fl:Int)):=Ja hS2.row
      have hfl:fl<states.length:=hS2.floor
      have hsb:states.length<=1000000000:=HLL.o.1
      have HCO:Hid (∀V,Tch NoB w2 V->Calls prog 23 #[.pointer (some ⟨xb,0,none⟩),.int .i64 sb] V λe w'=>Tch NoB V w'/\∃(s:BA) (N:Int),Ji wd (s,N)/\e=.returned (.agg #[.string s,.int .i64 N])):=λV hT=>A1 V sb hT HABk.o.2.1 HABk.o.2.2
      have HSW:Hid (∀V (z:Int) (n:Nat) (s:BA) (N:Int),z=(n:Int)->Tch NoB w2 V->fl<=n->n<states.length->Ji wd (s,N)->Calls prog 21 #[.pointer (some ⟨xb,0,none⟩),.int .i64 z,.agg #[.string s,.int .i64 N]] V λe w'=>e=.returned (.bool true)/\Tch NoB V w'):=λV z n s N hz=>by rw [hz];exact A2 V n s N
      have HQU:Hid _:=A3
      have HDE:Hid _:=A4
      have HHE:Hid _:=A5
      have HPU:Hid _:=A6
      have HPI:Hid (∀V,Calls prog 22 #[.int .i64 sa,.int .i64 (states.length:Int)] V λe w'=>(∃r:Nat,r<states.length/\e=.returned (.int .i64 (r:Int)))/\w'=V):=λV=>ZQ sa states.length V HABk.o.1.1 HABk.o.1.2 (by omega) (by omega)
      have HPK:Hid (∀V z,z=((states.length - fl:Nat):Int)->Calls prog 22 #[.int .i64 sa,.int .i64 z] V λe w'=>(∃r:Nat,r<states.length - fl/\e=.returned (.int .i64 (r:Int)))/\w'=V):=λV z hz=>by rw [hz];exact ZQ sa (states.length - fl) V HABk.o.1.1 HABk.o.1.2 (by omega) (by omega)
      have hx0:=Qr _ _ x0
      have hb2:=Qr _ _ e1
      have HCC:Hid (∀V,Tch NoB w2 V->V.cell? ⟨xb,0,none⟩=some (.pointer (some ⟨lb,0,none⟩))/\V.cell? ⟨xb,2,none⟩=some (.slice va states.length vc)/\V.cell? ⟨xb,3,none⟩=some (.int .i64 (fl:Int))/\V.cell? ⟨wr.heap.size,1,none⟩=some (.int .i64 sa)/\V.cell? ⟨wr.heap.size,2,none⟩=some (.int .i64 sb)):=λV hT=>⟨(hT.cell hx0 (λh=>h)).trans x0,(hT.cell (Qr _ _ x2) (λh=>h)).trans x2,(hT.cell (Qr _ _ x3) (λh=>h)).trans x3,(hT.cell hb2 (λh=>h)).trans e1,(hT.cell (Qr _ _ e2) (λh=>h)).trans e2⟩
      clear hF2 hS2 A1 A2 A3 A4 A5 A6 hx0 hb2 e3 x0 x2 x3
      obtain ⟨sn,hsn⟩:∃sn,states.length=sn:=⟨_,rfl⟩
      rw [hsn] at HSW HHE HPI HPK HCC hsb hfl
      clear hsn
      have HFN:Hid (fl<sn/\sn<=1000000000):=⟨hfl,hsb⟩
      clear hfl hsb
      go_wp2_with fail
      refine (HCO.o w2 (Te _ _)).mono ?_
      rintro _ w3 ⟨ht3,s3,N3,hc3,rfl⟩
      have HOK:Hid _:=hc3
      obtain ⟨wC,hwC⟩:∃(wC:World),wC=w3.alloc (.cells #[.string s3,.int .i64 N3] 49):=⟨_,rfl⟩
      have hrC:wC.heap[w3.heap.size]? =some (.cells #[.string s3,.int .i64 N3] 49):=by rw [hwC];exact Qf _ _
      have tC:Tch NoB w2 wC:=ht3.go (by rw [hwC];exact Ta _ _ _)
      have HWC:Hid (wC=_):=hwC
      have HTC0:Hid _:=tC
      have HCL:Hid (∀V,Tch NoB wC V->(V.cell? ⟨xb,0,none⟩=some (.pointer (some ⟨lb,0,none⟩))/\V.cell? ⟨xb,2,none⟩=some (.slice va sn vc)/\V.cell? ⟨xb,3,none⟩=some (.int .i64 (fl:Int)))/\V.cell? ⟨wr.heap.size,1,none⟩=some (.int .i64 sa)/\V.cell? ⟨w3.heap.size,0,none⟩=some (.string s3)/\V.cell? ⟨w3.heap.size,1,none⟩=some (.int .i64 N3)):=λV hT=>by
       have h2:=(hT.block _ (Jb hrC) (λh=>h)).trans hrC
       obtain ⟨u0,u1,u2,u3,u4⟩:=HCC.o V (tC.go hT)
       exact ⟨⟨u0,u1,u2⟩,u3,Ja h2,Ja h2⟩
      clear hc3 ht3 hwC hrC tC HCC HCO e0 e1 e2
      go_upto_region 11 with fail
      rw [<-HWC.o]
      obtain ⟨⟨a0,a1,a2⟩,a3,a4,a5⟩:=HCL.o wC (Te _ _)
      go_cut [10] (λv wx=>v=.bool true/\Hid (Tch NoB wC wx))
      case first=>
       go_region_held3 (λV=>V.cell? ⟨xb,2,none⟩=some (.slice va sn vc)/\V.cell? ⟨xb,3,none⟩=some (.int .i64 (fl:Int))/\V.cell? ⟨wr.heap.size,1,none⟩=some (.int .i64 sa)/\V.cell? ⟨w3.heap.size,0,none⟩=some (.string s3)/\V.cell? ⟨w3.heap.size,1,none⟩=some (.int .i64 N3)) (go_keep) ((first
        | (go_at_call 22;refine (HPK.o _ _ (by have:=HFN.o;simp [IntKind.wrap,IntKind.bits,IntKind.signed];omega)).mono ?_;rintro _ X ⟨⟨r,hr,rfl⟩,hX⟩;rw [hX];clear hX X;have HR:Hid _:=hr;clear hr)
        | (go_at_call 21;refine (HSW.o _ _ (fl+r) _ _ (by have:=HFN.o;have:=HR.o;simp [IntKind.wrap,IntKind.bits,IntKind.signed];omega) (HTC0.o.go (Td _ wC 1)) (Nat.le_add_right _ _) (by have:=HFN.o;have:=HR.o;omega) HOK.o).mono ?_;rintro _ w4 ⟨rfl,ht4⟩;have HT4:Hid (Tch NoB wC w4):=(Td NoB wC 1).go ht4;obtain ⟨⟨g0,g1,g2⟩,g3,g4,g5⟩:=HCL.o _ HT4.o;clear ht4)))
       all_goals
        go_wp2
        go_meet
        exact ⟨rfl,HT4⟩
      case rest=>
      obtain ⟨rfl,HT4⟩:=hcut
      obtain ⟨w4,hw4⟩:∃w4,w4=wc:=⟨wc,rfl⟩
      subst hw4
      clear a0 a1 a2 a3 a4 a5 HSW HPK
      obtain ⟨⟨a0,a1,a2⟩,a3,a4,a5⟩:=HCL.o w4 HT4.o
      go_upto_region 12 with fail
      go_cut [13] (λv wx=>v=.int .i64 7/\Hid (Tch NoB wC wx))
      case first=>
       go_region_held3 (λV=>V.cell? ⟨xb,0,none⟩=some (.pointer (some ⟨lb,0,none⟩))/\V.cell? ⟨xb,3,none⟩=some (.int .i64 (fl:Int))/\V.cell? ⟨w3.heap.size,0,none⟩=some (.string s3)/\V.cell? ⟨w3.heap.size,1,none⟩=some (.int .i64 N3)) (go_keep) ((first
        | (go_at_call 24;refine (HQU.o _ _ _ _ (HTC0.o.go (HT4.o.go (Td _ w4 1))) (by have:=HFN.o;simp [IntKind.wrap,IntKind.bits,IntKind.signed];omega)).mono ?_;rintro _ w5 ⟨rfl,ht5⟩;have HT5:Hid (Tch NoB wC w5):=(HT4.o.go (Td NoB w4 1)).go ht5;obtain ⟨⟨g0,g1,g2⟩,g3,g4,g5⟩:=HCL.o _ HT5.o;clear ht5)))
       all_goals
        go_wp2
        go_meet
        exact ⟨rfl,HT5⟩
      case rest=>
      obtain ⟨rfl,HT5⟩:=hcut
      obtain ⟨w5,hw5⟩:∃w5,w5=wc:=⟨wc,rfl⟩
      subst hw5
      clear a0 a1 a2 a3 a4 a5 HQU HT4
      obtain ⟨⟨a0,a1,a2⟩,a3,a4,a5⟩:=HCL.o w5 HT5.o
      go_upto_region 13 with fail
      go_cut [15] (λv wx=>v=.int .i64 7/\Hid (Tch NoB wC wx))
      case first=>
       go_region_held3 (λV=>V.cell? ⟨xb,0,none⟩=some (.pointer (some ⟨lb,0,none⟩))/\V.cell? ⟨xb,3,none⟩=some (.int .i64 (fl:Int))) (go_keep) ((first
        | (go_at_call 27;refine (HDE.o _ _ _ (HTC0.o.go (HT5.o.go (Td _ w5 1))) (by have:=HFN.o;simp [IntKind.wrap,IntKind.bits,IntKind.signed];omega)).mono ?_;rintro _ w6 ⟨rfl,ht6⟩;have HT6:Hid (Tch NoB wC w6):=(HT5.o.go (Td NoB w5 1)).go ht6;obtain ⟨⟨g0,g1,g2⟩,g3,g4,g5⟩:=HCL.o _ HT6.o;clear ht6)))
       all_goals
        go_wp2
        go_meet
        exact ⟨rfl,HT6⟩
      case rest=>
      obtain ⟨rfl,HT6⟩:=hcut
      obtain ⟨w6,hw6⟩:∃w6,w6=wc:=⟨wc,rfl⟩
      subst hw6
      clear a0 a1 a2 a3 a4 a5 HDE HT5
      obtain ⟨⟨a0,a1,a2⟩,a3,a4,a5⟩:=HCL.o w6 HT6.o
      go_upto_region 14 with fail
      go_cut [17] (λv wx=>v=.int .i64 0/\Hid (Tch NoB wC wx))
      case first=>
       go_region_held3 (λV=>V.cell? ⟨xb,0,none⟩=some (.pointer (some ⟨lb,0,none⟩))/\V.cell? ⟨xb,2,none⟩=some (.slice va sn vc)/\V.cell? ⟨wr.heap.size,1,none⟩=some (.int .i64 sa)) (go_keep) ((first
        | (go_at_call 22;refine (HPI.o _).mono ?_;rintro _ X ⟨⟨r,hr,rfl⟩,hX⟩;rw [hX];clear hX X;have HR:Hid (r<sn):=hr;clear hr)
        | (go_at_call 16;refine (HHE.o _ _ (HTC0.o.go (HT6.o.go (Td _ w6 1))) HR.o).mono ?_;rintro _ w7 ⟨⟨s7,rfl⟩,ht7⟩;have HT7:Hid (Tch NoB wC w7):=(HT6.o.go (Td NoB w6 1)).go ht7;obtain ⟨⟨g0,g1,g2⟩,g3,g4,g5⟩:=HCL.o _ HT7.o;clear ht7)))
       all_goals
        go_wp2
        go_meet
        exact ⟨rfl,HT7⟩
      case rest=>
      obtain ⟨rfl,HT7⟩:=hcut
      obtain ⟨w7,hw7⟩:∃w7,w7=wc:=⟨wc,rfl⟩
      subst hw7
      clear a0 a1 a2 a3 a4 a5 HHE HPI HT6
      obtain ⟨⟨a0,a1,a2⟩,a3,a4,a5⟩:=HCL.o w7 HT7.o
      go_upto_region 15 with fail
      go_cut [18] (λv wx=>v=.int .i64 7/\Hid (Tch NoB wC wx))
      case first=>
       go_region_held3 (λV=>V.cell? ⟨xb,0,none⟩=some (.pointer (some ⟨lb,0,none⟩))/\V.cell? ⟨xb,3,none⟩=some (.int .i64 (fl:Int))) (go_keep) ((first
        | (go_at_call 28;refine (HPU.o _ _ (HTC0.o.go (HT7.o.go (Td _ w7 1))) (by have:=HFN.o;simp [IntKind.wrap,IntKind.bits,IntKind.signed];omega)).mono ?_;rintro _ w8 ⟨rfl,ht8⟩;have HT8:Hid (Tch NoB wC w8):=(HT7.o.go (Td NoB w7 1)).go ht8;obtain ⟨⟨g0,g1,g2⟩,g3,g4,g5⟩:=HCL.o _ HT8.o;clear ht8)))
       all_goals
        go_wp2
        go_meet
        exact ⟨rfl,HT8⟩
      case rest=>
      obtain ⟨rfl,HT8⟩:=hcut
      obtain ⟨w8,hw8⟩:∃w8,w8=wc:=⟨wc,rfl⟩
      subst hw8
      have HT9:Hid (Tch NoB wr w8):=HT2.o.go (HTC0.o.go HT8.o)
      clear a0 a1 a2 a3 a4 a5 HPU HT7 HCL HT8
      go_wp2
      go_roundw
      case rel=>exact ⟨k+1,pn,F,fl,ch,vst,sl,states,HLT.o,by have:=HPN.o;omega,by go_num,HS.o.next HT9.o,HT.o.trans HT9.o noE,⟨by have:=HL.o.1;omega,λl hl=>by have:=HL.o.2 l hl;omega⟩⟩
      case measure=>have:=HLT.o;simp [intOf];omega
     ·go_wp2
      go_roundw
      case rel=>exact ⟨k+1,pn,F,fl,ch,vst,sl,states,HLT.o,by have:=HPN.o;omega,by go_num,HS.o.next HT2.o,HT.o.trans HT2.o noE,⟨by have:=HL.o.1;omega,λl hl=>by have:=HL.o.2 l hl;omega⟩⟩
      case measure=>have:=HLT.o;simp [intOf];omega
  ·have hge:¬(k:Int)<(script.length:Int):=by omega
   have hlen:=HS.o.len
   obtain ⟨n,hn⟩:∃n,states.length=n+1:=⟨states.length - 1,by omega⟩
   have HPR1:Hid (JbN (L pn) (L (pn+1))):=HPR.o pn (by have:=HN.o;omega)
   obtain ⟨l,⟨xa,xn,xc⟩,TT,cnt,hl,hxn,⟨g,cap,hv,hgc⟩,hcount,HP1,HR1⟩:=Jgu (L pn) (L (pn+1)) (HQ.o pn) (HSTO.o (pn+1)) HPR1.o hw1 hw HFr.o (Qm HF.o.2 HT.o.size) HS.o ⟨HLL.o.1,λl hl=>by have:=HL.o.2 l hl;have:=HN.o;omega⟩ n hn
   subst hv
   have hHC:∀V V2,Tch F wr V->Tch (SRow base V) V V2->_:=hgc
   have HGC:Hid _:=hgc
   have HPU:Hid (∀z:Int,z=(n:Int)->Calls prog 28 #[.pointer (some ⟨lb,0,none⟩),.int .i64 z] wr λe w'=>e=.returned (.int .i64 0)/\Tch F wr w'/\(∀V',Tch NoB w' V'->Calls prog 29 #[.pointer (some ⟨lb,0,none⟩)] V' λe w'=>e=.returned (.int .i64 (cnt:Int))/\Tch NoB V' w')):=λz hz=>by rw [hz];exact HP1 wr (Te _ _)
   have HRT:Hid _:=HR1
   have HCT:Hid (∀t,TT t->cnt=(Xf [] t).length/\(xn=0\/cnt<2 * xn)/\t.length<=2 * xn+1/\t ≠ []):=λt ht=>by
    obtain ⟨h1,h2,h3,h4⟩:=hcount t ht
    dsimp only at hxn
    refine ⟨h1,?_,by omega,h4⟩
    rcases h2 with h2 | h2
    ·left;rw [hxn,h2];rfl
    ·right;omega
   have hxb:xn<=100000000:=by
    have:=HL.o.2 l (QS hl)
    have:=HN.o
    dsimp only at hxn
    omega
   have HFL:Hid (∀j,F j->base<=j):=λj hj=>((L pn).own HS.o.led j hj).1
   have hnb:n<=100000000:=by have:=HL.o.1;have:=HN.o;omega
   obtain ⟨m,hm⟩:∃m,n+1=m:=⟨_,rfl⟩
   rw [hm] at HGC
   have hnm:(n:Int)<(m:Int):=by omega
   have hm1:wrap64 ((m:Int) - 1)=(n:Int):=by simp only [wrap64];omega
   have hm2:IntKind.i64.wrap ((m:Int) - 1)=(n:Int):=by simp [IntKind.wrap,IntKind.bits,IntKind.signed];omega
   have hmb:m<=100000001:=by omega
   obtain ⟨x0,x2,x4⟩:=HGC.o wr wr (Te _ _) (Te _ _)
   clear hHC hgc HP1 HR1 hcount hlen hn hl hxn HPR1 hm
   go_wp2_with fail
   refine (HPU.o _ (by first | omega | (simp only [wrap64];omega) | (simp [IntKind.wrap,IntKind.bits,IntKind.signed];omega))).mono ?_
   rintro _ w1' ⟨rfl,ht1,hsto⟩
   have HTF1:Hid _:=ht1
   have HSD:Hid _:=hsto
   clear ht1 hsto HPU x0 x2 x4
   obtain ⟨x0,x2,x4⟩:=HGC.o w1' w1' HTF1.o (Te _ _)
   go_wp2_with fail
   refine (HSD.o w1' (Te _ _)).mono ?_
   rintro _ w2' ⟨rfl,ht2⟩
   have HTF2:Hid (Tch F wr w2'):=HTF1.o.trans ht2 noE
   clear ht2 HSD x0 x2 x4 HTF1
   obtain ⟨x0,x2,x4⟩:=HGC.o w2' w2' HTF2.o (Te _ _)
   go_wp2_with fail
   refine (HRT.o w2' HTF2.o).mono ?_
   rintro _ w3' ⟨rs,t,va',rfl,hTT,hown,ht3⟩
   obtain ⟨hc1,hc2,hc3,hc4⟩:=HCT.o t hTT
   obtain ⟨g1,c1,hva,_,hg1,_,hcells⟩:=hown.at (λe=>hc4 (by simpa [strB] using e))
   subst hva
   have hsl:(strB t).length=t.length:=by simp [strB]
   rw [hsl]
   have HSC:Hid (∀V,Tch NoB w3' V->(∀(i:Nat) (hi:i<t.length),V.cell? ⟨g1,i,none⟩=some (.string ⟨t[i].toArray⟩))/\V.cell? ⟨xb,2,none⟩=some (.slice (some ⟨g,0,none⟩) m cap)/\V.cell? ⟨g,n,none⟩=some (.slice xa xn xc)):=λV hT=>by
    obtain ⟨y0,y2,y4⟩:=HGC.o w2' w3' HTF2.o ht3
    refine ⟨λi hi=>?_,(hT.cell (Qr _ _ y2) (λh=>h)).trans y2,(hT.cell (Qr _ _ y4) (λh=>h)).trans y4⟩
    have h:=(hcells i (by rw [hsl];exact hi)).1
    rw [hT.cell (p:=⟨g1,i,none⟩) hg1 (λh=>h),h]
    simp [strB]
   have HTW:Hid (Tch (λj=>base<=j) w w3'):=(HT.o.trans HTF2.o (λj hj=>.inl (HFL.o j hj))).trans ht3 (λj hj=>.inl hj.1)
   have htb:t.length<=300000000:=by omega
   have HD:Hid (∀i (hi:i<t.length),(Xf [] (t.take (i+1))).length=(Xf [] (t.take i)).length+(if t[i]∈t.take i then 0 else 1)):=JbW t
   have HDB:Hid (∀i,i<=t.length->(Xf [] (t.take i)).length<=i):=Jbz t
   have HDE:Hid ((Xf [] (t.take t.length)).length=cnt):=by rw [List.take_length];exact hc1.symm
   have HC2:Hid _:=hc2
   obtain ⟨D,hD⟩:∃D:Nat->Nat,∀i,(Xf [] (t.take i)).length=D i:=⟨_,λ_=>rfl⟩
   have hD0:D 0=0:=by rw [<-hD];rfl
   have HD0:Hid (D 0=0):=hD0
   simp only [hD] at HD HDB HDE
   clear hc1 hc2 hc3 hc4 hTT hown hcells ht3 HGC HRT HCT x0 x2 x4 hg1 hD hD0 hsl HTF2
   go_wp2
   go_loopw [24,25] (λv24 v25 wy=>∃i:Nat,i<=t.length/\v24=.int .i64 (D i:Int)/\v25=.int .i64 (i:Int)/\Hid (Tch NoB w3' wy)) (λ_ v25 _=>t.length - (intOf v25).toNat)
   case atStart=>exact ⟨0,by omega,by rw [HD0.o];rfl,rfl,Te _ _⟩
   case round=>
    obtain ⟨i,hi,rfl,rfl,HTI⟩:=hrel
    by_cases hlt2:i<t.length
    ·have hli:(i:Int)<(t.length:Int):=by omega
     have hDb:D i<=300000000:=Qm (HDB.o i hi) (Qm hi htb)
     obtain ⟨O,hO⟩:∃O:Nat->Bool,∀k,O k=decide (t[i]∈t.take k):=⟨_,λ_=>rfl⟩
     have HO0:Hid (O 0=false):=by show O 0=false;rw [hO];simp
     have HOS:Hid (∀k (hk:k<t.length),O (k+1)=(O k || decide ((⟨t[k].toArray⟩:BA)=⟨t[i].toArray⟩))):=λk hk=>by
      have hx:(⟨t[k].toArray⟩:BA)=⟨t[i].toArray⟩↔t[i]=t[k]:=by
       constructor
       ·intro e
        have:=congrArg (λb:BA=>b.data.toList) e
        simpa using this.symm
       ·intro e;rw [e]
      rw [hO,hO,QQ hk,Bool.eq_iff_iff]
      simp only [decide_eq_true_eq,Bool.or_eq_true,QE,Qt,hx]
     have HOD:Hid (D (i+1)=D i+(if O i=true then 0 else 1)):=by
      have:=HD.o i hlt2
      show D (i+1)=_
      rw [this,hO]
      simp only [decide_eq_true_eq]
     clear hO
     go_wp2
     go_loopw [26,27] (λv26 v27 wz=>∃k:Nat,k<=i/\v26=.bool (O k)/\v27=.int .i64 (k:Int)/\Hid (Tch NoB w3' wz)) (λ_ v27 _=>i - (intOf v27).toNat)
     case atStart=>exact ⟨0,by omega,by rw [HO0.o],rfl,HTI⟩
     case round=>
      obtain ⟨k,hk,rfl,rfl,HTK⟩:=hrel
      by_cases hkl:k<i
      ·have hki:(k:Int)<(i:Int):=by omega
       have hkt:k<t.length:=by omega
       have hkti:(k:Int)<(t.length:Int):=by omega
       obtain ⟨y1,_,_⟩:=HSC.o wr HTK.o
       have z1:=y1 k hkt
       have z2:=y1 i hlt2
       have HOK1:Hid (O (k+1)=_):=HOS.o k hkt
       clear y1
       generalize (⟨t[k].toArray⟩:BA)=s1 at z1 HOK1
       generalize (⟨t[i].toArray⟩:BA)=s2 at z2 HOK1
       cases hok:O k with
       | true=>
        rw [hok] at HOK1
        clear hok
        go_upto_region 31 with fail
        go_quiet (fail)
        go_wp2
        go_roundw
        case rel=>exact ⟨k+1,by omega,by rw [HOK1.o];rfl,by go_num,HTK.o.go (Td _ _ _)⟩
        case measure=>simp [intOf];omega
       | false=>
        rw [hok] at HOK1
        clear hok
        by_cases hE:s1=s2
        ·have HE:Hid (O (k+1)=true):=by show O (k+1)=true;rw [HOK1.o];simp [hE]
         subst hE
         clear HOK1
         go_upto_region 31 with fail
         go_quiet (fail)
         go_wp2
         go_roundw
         case rel=>exact ⟨k+1,by omega,by rw [HE.o],by go_num,HTK.o.go (Td _ _ _)⟩
         case measure=>simp [intOf];omega
        ·have HE:Hid (O (k+1)=false):=by show O (k+1)=false;rw [HOK1.o];simp [hE]
         have hE3:¬s1.toList=s2.toList:=λh=>hE (Jcs h)
         have hE2:(s1.toList == s2.toList)=false:=by simp [hE3]
         clear HOK1
         go_upto_region 31 with fail
         go_quiet (fail)
         go_wp2
         go_roundw
         case rel=>exact ⟨k+1,by omega,by rw [HE.o],by go_num,HTK.o.go (Td _ _ _)⟩
         case measure=>simp [intOf];omega
      ·have hki:¬(k:Int)<(i:Int):=by omega
       obtain rfl:k=i:=by omega
       cases hok:O k with
       | true=>
        have HE:Hid (D (k+1)=D k):=by have:=HOD.o;rw [hok] at this;show D (k+1)=D k;simpa using this
        clear hok
        go_wp2
        go_roundw
        case rel=>exact ⟨k+1,by omega,by rw [HE.o],by go_num,HTK⟩
        case measure=>simp [intOf];omega
       | false=>
        have HE:Hid (D (k+1)=D k+1):=by have:=HOD.o;rw [hok] at this;show D (k+1)=D k+1;simpa using this
        clear hok
        go_wp2
        go_roundw
        case rel=>exact ⟨k+1,by omega,by rw [HE.o];go_num,by go_num,HTK⟩
        case measure=>simp [intOf];omega
    ·have hli:¬(i:Int)<(t.length:Int):=by omega
     obtain rfl:i=t.length:=by omega
     rw [HDE.o]
     obtain ⟨_,y2,y4⟩:=HSC.o wr HTI.o
     have HEND:Hid (Tch (λj=>base<=j) w wr):=HTW.o.trans HTI.o noE
     by_cases hx0:xn=0
     ·subst hx0
      go_wp2
      go_ret
      exact ⟨rfl,HEND.o⟩
     ·have hxi:¬(xn:Int)=0:=by omega
      have hcl:(cnt:Int)<2 * (xn:Int):=by have:=HC2.o;omega
      have hq:wrap64 (2 * (xn:Int))=2 * (xn:Int):=by simp only [wrap64];omega
      go_wp2
      go_ret
      exact ⟨rfl,HEND.o⟩
