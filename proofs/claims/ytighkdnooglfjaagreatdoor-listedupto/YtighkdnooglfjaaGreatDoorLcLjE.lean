import Derived.Test.YtighkdnooglfjaaGreatDoorLcLjC
namespace Go.Proofs.YtighkdnooglfjaaGreatDoor
open Go.Proofs.Tryz
set_option maxRecDepth 100000
set_option maxHeartbeats 8000000
open Go.RowKit

theorem Jao:∀(a b:List UInt8),a<b->Op.bytesLess a b=true
 | [],[],h=>absurd h (List.lt_irrefl _)
 | [],_::_,_=>rfl
 | _::_,[],h=>absurd h (List.not_lt_nil _)
 | x::r,y::s,h=>by
  unfold Op.bytesLess
  rcases List.cons_lt_cons_iff.1 h with h1|⟨rfl,h1⟩
  ·simp[h1]
  ·simp[Jao r s h1]
theorem Jgj{E:Nat->Addr}{wj base:Nat}(L:Led E wj base)(Dl:Jeb L)(hw1:1<=wj)(hw:wj<=32){w:World}{xb lb:Nat}{F:Nat->Prop}{fl:Nat}{ch:Ch}{vst:Value}{sl:List Sl}{states:List (List Held)}(hF:Xm E base w)(hE3:Er3 w)(hbw:base<=w.heap.size)(hS:JL L w xb lb F fl ch vst sl states)(hl:states.length<=1000000000/\∀l∈states,l.length<50000000)(a b:Nat)(ha:a<states.length)(hb:b<states.length)(hfa:fl<=a)(hfb:fl<=b):
  Calls prog 26 #[.pointer (some ⟨xb,0,none⟩),.int .i64 (a:Int),.int .i64 (b:Int)] w λe w'=>e=.returned (.bool true)/\Tch (SRow base w) w w':=by
 obtain⟨l1,l2,⟨xa,xn,xc⟩,⟨ya,yn,yc⟩,g,cap,P1,P,H1,H2,lo1,lo2,Pf,⟨hxn,hyn,hl1,hl2,hP0,hPl,hPs⟩,⟨hz1,hy1,hz2,hy2⟩,hC,hR1,hR2,hDe,hH1,hH2,hDi⟩:=Jhu L Dl hw1 hw hF hE3 hbw hS hl a b ha hb hfa hfb;dsimp only at hxn hyn hC hR1 hR2;rw[<-hz1]at hR1;rw[<-hz2]at hR2;have HC:Hid _:=hC;have HR1:Hid _:=hR1;have HR2:Hid _:=hR2;have HDE:Hid _:=hDe;have HH1:Hid _:=hH1;have HH2:Hid _:=hH2;have HDI:Hid _:=hDi;have HDG:Hid (∀(s:BA) V,s.size<=1000->Tch (SRow base w) w V->Calls prog 39 #[.int .i64 (wj:Int),.string s] V λe w'=>e=.returned (.string (dgW wj s.data.toList))/\Tch NoB V w'):=λs V hs hT=>by
  have hE:=(HC.o V hT).2.2.2.2.2.2;exact ZP wj s V hw1 hw (by omega) (Qk (by decide) hE.size) hE.table
 have HME:Hid (∀V va,Tch (SRow base w) w V->NOwn base V va (strB P)->Calls prog 53 #[.pointer (some ⟨xb,0,none⟩),va] V λe w'=>(∃m,e=.returned (.bool m)/\(m=false->ZF wj P))/\Tch NoB V w'):=λV va hT hva=>JnB (E:=E) wj base xb hw1 hw P hP0 va V (HC.o V hT).2.2.2.2.2.2 (HC.o V hT).2.2.2.2.2.1 hva hPl hPs;have HF1:Hid (∀(V:World)(s:BA)(N:Int),Tch (SRow base w) w V->Calls prog 48 #[.slice xa xn xc,.agg #[.string s,.int .i64 N]] V λe w'=>e=.returned (.int .i64 (JC l1 (s,N)))/\Tch NoB V w'):=λV s N hT=>Je6 (.slice xa xn xc) l1 (s,N) V (HC.o V hT).2.2.2.1 (by omega);have HF2:Hid (∀(V:World)(s:BA)(N:Int),Tch (SRow base w) w V->Calls prog 48 #[.slice ya yn yc,.agg #[.string s,.int .i64 N]] V λe w'=>e=.returned (.int .i64 (JC l2 (s,N)))/\Tch NoB V w'):=λV s N hT=>Je6 (.slice ya yn yc) l2 (s,N) V (HC.o V hT).2.2.2.2.1 (by omega);have HKT:Hid (∀V (s:BA) (N:Int),Jk wj (s,N)->Calls prog 54 #[.agg #[.string s,.int .i64 N]] V λe w'=>e=.returned (.string ⟨(Je (s,N)).toArray⟩)/\Tch NoB V w'):=λV s N hc=>ZQ (s,N) V hc.2.1 (by have:=hc.2.2;omega) (by have:=hc.1;dsimp only at this;show s.size<=_;omega);have HLN:Hid (xn=l1.length/\yn=l2.length/\l1.length<50000000/\l2.length<50000000):=⟨hxn,hyn,hl1,hl2⟩
 have q1:¬(H1.size:Int)<(wj:Int):=by omega
 have q2:¬(H2.size:Int)<(wj:Int):=by omega
 have r1:IntKind.i64.wrap ((H1.size:Int)-(wj:Int))=(lo1:Int):=by simp[IntKind.wrap,IntKind.bits,IntKind.signed];omega
 have r2:IntKind.i64.wrap ((H2.size:Int)-(wj:Int))=(lo2:Int):=by simp[IntKind.wrap,IntKind.bits,IntKind.signed];omega
 have s1:(lo1:Int)<=(H1.size:Int):=by omega
 have s2:(lo2:Int)<=(H2.size:Int):=by omega
 have t1:lo1<=H1.size:=by omega
 have t2:lo2<=H2.size:=by omega
 have HSZ:Hid (¬(H1.size:Int)<(wj:Int)/\¬(H2.size:Int)<(wj:Int)/\IntKind.i64.wrap ((H1.size:Int)-(wj:Int))=(lo1:Int)/\IntKind.i64.wrap ((H2.size:Int)-(wj:Int))=(lo2:Int)/\(lo1:Int)<=(H1.size:Int)/\(lo2:Int)<=(H2.size:Int)/\lo1<=H1.size/\lo2<=H2.size):=⟨q1,q2,r1,r2,s1,s2,t1,t2⟩
 have hai:(a:Int)<(states.length:Int):=by omega
 have hbi:(b:Int)<(states.length:Int):=by omega
 have hsn:states.length<=1000000000:=hl.1;clear q1 q2 r1 r2 s1 s2 t1 t2 hC hR1 hR2 hDe hH1 hH2 hDi hxn hyn hl1 hl2 hP0 hPl hPs hz1 hy1 hz2 hy2 hF hE3 hbw hS hl Dl hfa hfb;generalize states.length=sn at *;obtain⟨⟨c0,c1,c2⟩,c3,c4,_⟩:=HC.o w (Te _ _);go_enter func26,ntmps26;go_wp2_with fail;refine(HR1.o w (Te _ _)).mono ?_;rintro _ w1⟨tx1,va1,rfl,hrt,ht⟩;have HT1:Hid (Tch (SRow base w) w w1):=ht;have HRT1:Hid (RtTo wj base (H1.extract lo1 H1.size) P1 tx1 va1 w1):=hrt;clear ht hrt HR1 c0 c1 c2 c3 c4;obtain⟨⟨c0,c1,c2⟩,c3,c4,_⟩:=HC.o w1 HT1.o;go_wp2_with fail;refine(HR2.o w1 va1 HT1.o HRT1.o.own).mono ?_;rintro _ w2⟨tx2,va2,rfl,hrt,ht⟩;have HT2:Hid (Tch (SRow base w) w w2):=JfA HT1.o ht;have HRT2:Hid (RtTo wj base (H2.extract lo2 H2.size) P tx2 va2 w2):=hrt;clear ht hrt HR2 c0 c1 c2 c3 c4;have HD1:Hid (∀V,Tch NoB w2 V->Calls prog 39 #[.int .i64 (wj:Int),.string tx1] V λe w'=>e=.returned (.string (H1.extract lo1 H1.size))/\Tch NoB V w'):=λV hT=>by
  have:=HDG.o tx1 V HRT1.o.size (YC HT2.o hT);rw[HRT1.o.dig]at this;exact this
 have HD2:Hid (∀V,Tch NoB w2 V->Calls prog 39 #[.int .i64 (wj:Int),.string tx2] V λe w'=>e=.returned (.string (H2.extract lo2 H2.size))/\Tch NoB V w'):=λV hT=>by
  have:=HDG.o tx2 V HRT2.o.size (YC HT2.o hT);rw[HRT2.o.dig]at this;exact this
 have HM2:Hid (∀V,Tch NoB w2 V->Calls prog 53 #[.pointer (some ⟨xb,0,none⟩),va2] V λe w'=>(∃m,e=.returned (.bool m)/\(m=false->ZF wj P))/\Tch NoB V w'):=λV hT=>HME.o V va2 (YC HT2.o hT) (HRT2.o.own.tch hT (λ_ _ h=>h));clear HDG HME HRT1 HRT2 HT1;have HCC:Hid (∀V,Tch NoB w2 V->V.cell? ⟨xb,0,none⟩=some (.pointer (some ⟨lb,0,none⟩))/\V.cell? ⟨xb,1,none⟩=some (.int .i64 (wj:Int))/\V.cell? ⟨xb,2,none⟩=some (.slice (some ⟨g,0,none⟩) sn cap)/\V.cell? ⟨g,a,none⟩=some (.slice xa xn xc)/\V.cell? ⟨g,b,none⟩=some (.slice ya yn yc)):=λV hT=>by
  obtain⟨⟨c0,c1,c2⟩,c3,c4,_⟩:=HC.o V (YC HT2.o hT);exact⟨c0,c1,c2,c3,c4⟩
 obtain⟨c0,c1,c2,c3,c4⟩:=HCC.o w2 (Te _ _);go_wp2_with fail;refine(HDE.o w2 HT2.o).mono ?_;rintro _ w3⟨pf,rfl,hpf,ht⟩;have HT3:Hid (Tch NoB w2 w3):=ht;have HPF:Hid (Pf pf):=hpf;clear ht hpf HDE c0 c1 c2 c3 c4;obtain⟨c0,c1,c2,c3,c4⟩:=HCC.o w3 HT3.o;go_wp2_with fail;refine(HH1.o w3 (YC HT2.o HT3.o)).mono ?_;rintro _ w4⟨rfl,ht⟩;have HT4:Hid (Tch NoB w2 w4):=HT3.o.go ht;clear ht HH1 HT3 c0 c1 c2 c3 c4;obtain⟨c0,c1,c2,c3,c4⟩:=HCC.o w4 HT4.o;go_wp2_with fail;refine(HH2.o w4 (YC HT2.o HT4.o)).mono ?_;rintro _ w5⟨rfl,ht⟩;have HT5:Hid (Tch NoB w2 w5):=HT4.o.go ht;clear ht HH2 HT4 c0 c1 c2 c3 c4;obtain⟨c0,c1,c2,c3,c4⟩:=HCC.o w5 HT5.o;go_upto_region 6 with fail;go_cut [146] (λv wx=>v=.bool false/\Hid (Tch NoB w2 wx))
 case first=>
  as_aux_lemma=>
  obtain⟨q1,q2,r1,r2,s1,s2,t1,t2⟩:=HSZ.o;have q1d:decide ((H1.size:Int)<(wj:Int))=false:=decide_eq_false (by omega);have q2d:decide ((H2.size:Int)<(wj:Int))=false:=decide_eq_false (by omega);have q1n:¬H1.size<wj:=by omega
  have q2n:¬H2.size<wj:=by omega
  have q1e:decide (H1.size<wj)=false:=decide_eq_false q1n;have q2e:decide (H2.size<wj)=false:=decide_eq_false q2n;go_region_held3 (λV=>V.cell? ⟨xb,1,none⟩=some (.int .i64 (wj:Int))) (go_keep) ((first
   | (go_at_call_of 39 (Value.string tx1);refine(HD1.o _ (HT5.o.go (Td _ w5 1))).mono ?_;rintro _ w6⟨rfl,ht6⟩;have HT6:Hid (Tch NoB w2 w6):=(HT5.o.go (Td NoB w5 1)).go ht6;have e1:=(HCC.o _ HT6.o).2.1;clear ht6)
   | (go_at_call_of 39 (Value.string tx2);refine(HD2.o _ HT6.o).mono ?_;rintro _ w7⟨rfl,ht7⟩;have HT7:Hid (Tch NoB w2 w7):=HT6.o.go ht7;have f1:=(HCC.o _ HT7.o).2.1;clear ht7)))
  all_goals go_wp2;go_meet;exact⟨rfl,HT7⟩
 case rest=>
 as_aux_lemma=>
 obtain⟨rfl,HT7⟩:=hcut;obtain⟨w7,hw7⟩:∃w7,w7=wc:=⟨wc,rfl⟩
 subst hw7;clear HD1 HD2 HSZ HT5 c0 c1 c2 c3 c4;obtain⟨c0,c1,c2,c3,c4⟩:=HCC.o w7 HT7.o;go_wp2_with fail;refine(HDI.o w7 pf (YC HT2.o HT7.o) HPF.o).mono ?_;rintro _ w8⟨v,ok,rfl,ht,hdiff⟩;have HT8:Hid (Tch NoB w2 w8):=HT7.o.go ht;have HDF:Hid (ZF wj P->ok=true/\∃L,ChgO w7.heap.size w8 v L/\JeM wj l1 l2 L):=hdiff;clear ht hdiff HDI HPF HT7 c0 c1 c2 c3 c4;obtain⟨c0,c1,c2,c3,c4⟩:=HCC.o w8 HT8.o;go_wp2_with fail;refine(HM2.o w8 HT8.o).mono ?_;rintro _ w9⟨⟨m,rfl,hm⟩,ht⟩;have HT9:Hid (Tch NoB w2 w9):=HT8.o.go ht;have HT89:Hid (Tch NoB w8 w9):=ht;clear ht HM2 c0 c1 c2 c3 c4
 cases m with
 | true=>
  clear hm;go_wp2;go_ret;exact⟨rfl,YC HT2.o HT9.o⟩
 | false=>
 obtain⟨hok,cs,hch,hdf⟩:=HDF.o (hm rfl);subst hok;clear HDF hm;obtain⟨O1,O2,C1,C2,B1,B2,S,N,K,hO1,hO2,hc1,hc2,hcs,hlo,hco,hcg,hri⟩:=Jfb hdf;obtain⟨hxn,hyn,hb1,hb2⟩:=HLN.o;have HBK1:Hid (Jkc w2 xa xn O1):=((HC.o w2 HT2.o).2.2.2.1).book hxn hO1;have HBK2:Hid (Jkc w2 ya yn O2):=((HC.o w2 HT2.o).2.2.2.2.1).book hyn hO2;obtain⟨va,vc,hv⟩:=hch.shape;have HK:Hid (0<cs.length->∃gc,va=some ⟨gc,0,none⟩/\∀V,Tch NoB w9 V->∀i,i<cs.length->∀j,j<8->V.cell? ⟨gc,i*8+j,none⟩=(K i)[j]?):=λh0=>by
  obtain⟨gc,cap',hv',hgc,hcell⟩:=hch.at (λe=>by rw[e]at h0;simp at h0);rw[hv]at hv';simp only[Qy]at hv';refine⟨gc,hv'.1,λV hT i hi j hj=>?_⟩;rw[(HT89.o.go hT).cell (p:=⟨gc,i*8+j,none⟩) hgc (λh=>h),hcell i hi j hj,(hcg i hi).2.1]
 have HCG:Hid (∀i,i<cs.length->Jk wj (S i,N i)/\ChgK l1 l2 O1 O2 (S i) (N i) (K i)):=λi hi=>⟨(hcg i hi).1,(hcg i hi).2.2⟩
 have HRI:Hid (∀i,i+1<cs.length->Je (S i,N i)<Je (S (i+1),N (i+1))):=hri;rw[<-hxn]at hc1 hcs hlo hb1;rw[<-hyn]at hc2 hcs hco hb2;have HC1:Hid (Cnt xn C1 B1):=hc1;have HC2:Hid (Cnt yn C2 B2):=hc2;have HLO:Hid (∀i,i<xn->(JC l2 (O1 i).1= -1/\B1 i=true)\/∃k:Nat,k<yn/\JC l2 (O1 i).1=(k:Int)/\B1 i=decide (¬(O2 k).2=(O1 i).2)):=λi hi=>by rw[hyn];exact hlo i hi
 have HCO:Hid (∀i,i<yn->(JC l1 (O2 i).1= -1/\B2 i=true)\/∃k:Nat,JC l1 (O2 i).1=(k:Int)/\B2 i=false):=hco;have HCN:Hid (C1 xn+C2 yn=cs.length/\xn<50000000/\yn<50000000):=⟨hcs,hb1,hb2⟩
 have hcn:cs.length<=100000000:=by have:=hc1.le xn;have:=hc2.le yn;omega
 have HLN2:Hid (l1.length=xn/\l2.length=yn):=⟨hxn.symm,hyn.symm⟩
 subst hv;clear hch hdf hcg hri hc1 hc2 hlo hco hcs hb1 hb2 hxn hyn hO1 hO2 HLN HC HT8 HT89;have hxb:xn<=50000000:=by have:=HCN.o.2.1;omega
 have hyb:yn<=50000000:=by have:=HCN.o.2.2;omega
 generalize cs.length=cn at *;clear cs;have HWC:Hid (∀V,Tch NoB w9 V->V.cell? ⟨xb,2,none⟩=some (.slice (some ⟨g,0,none⟩) sn cap)/\V.cell? ⟨g,a,none⟩=some (.slice xa xn xc)/\V.cell? ⟨g,b,none⟩=some (.slice ya yn yc)):=λV hT=>by
  obtain⟨_,_,c2,c3,c4⟩:=HCC.o V (HT9.o.go hT);exact⟨c2,c3,c4⟩
 have HFA:Hid (∀(V:World)(s:BA)(N:Int),Tch NoB w9 V->Calls prog 48 #[.slice xa xn xc,.agg #[.string s,.int .i64 N]] V λe w'=>e=.returned (.int .i64 (JC l1 (s,N)))/\Tch NoB V w'):=λV s N hT=>HF1.o V s N (YC HT2.o (HT9.o.go hT));have HFB:Hid (∀(V:World)(s:BA)(N:Int),Tch NoB w9 V->Calls prog 48 #[.slice ya yn yc,.agg #[.string s,.int .i64 N]] V λe w'=>e=.returned (.int .i64 (JC l2 (s,N)))/\Tch NoB V w'):=λV s N hT=>HF2.o V s N (YC HT2.o (HT9.o.go hT));have HEND:Hid (∀V,Tch NoB w9 V->Tch (SRow base w) w V):=λV hT=>YC HT2.o (HT9.o.go hT);have HX1:Hid (0<xn->∃g o,xa=some ⟨g,o,none⟩/\∀V,Tch NoB w9 V->∀i,i<xn->V.cell? ⟨g,o+i*4,none⟩=some (.string (O1 i).1.1)/\V.cell? ⟨g,o+i*4+1,none⟩=some (.int .i64 (O1 i).1.2)/\V.cell? ⟨g,o+i*4+2,none⟩=some (.int .u64 (((O1 i).2.1:Nat):Int))/\V.cell? ⟨g,o+i*4+3,none⟩=some (.int .u8 (((O1 i).2.2:Nat):Int))):=λh0=>by
  obtain⟨g,o,h1,h2⟩:=HBK1.o h0;exact⟨g,o,h1,λV hT=>h2 V (HT9.o.go hT)⟩
 have HX2:Hid (0<yn->∃g o,ya=some ⟨g,o,none⟩/\∀V,Tch NoB w9 V->∀i,i<yn->V.cell? ⟨g,o+i*4,none⟩=some (.string (O2 i).1.1)/\V.cell? ⟨g,o+i*4+1,none⟩=some (.int .i64 (O2 i).1.2)/\V.cell? ⟨g,o+i*4+2,none⟩=some (.int .u64 (((O2 i).2.1:Nat):Int))/\V.cell? ⟨g,o+i*4+3,none⟩=some (.int .u8 (((O2 i).2.2:Nat):Int))):=λh0=>by
  obtain⟨g,o,h1,h2⟩:=HBK2.o h0;exact⟨g,o,h1,λV hT=>h2 V (HT9.o.go hT)⟩
 clear HBK1 HBK2 HF1 HF2 HCC HT9 HT2;go_wp2;go_loopw [20,21] (λv20 v21 wr=>∃i:Nat,i<=xn/\v20=.int .i64 (C1 i:Int)/\v21=.int .i64 (i:Int)/\Hid (Tch NoB w9 wr)) (λ_ v21 _=>xn-(intOf v21).toNat)
 case atStart=>exact⟨0,by omega,by rw[HC1.o.zero];rfl,rfl,Te _ _⟩
 case round=>
  obtain⟨i,hi,rfl,rfl,HTI⟩:=hrel;obtain⟨c2,c3,c4⟩:=HWC.o wr HTI.o
  by_cases hlt:i<xn
  ·as_aux_lemma=>
   have hli:(i:Int)<(xn:Int):=(by omega);have hx0:0<xn:=(by omega);have hCb:C1 i<=50000000:=Qm (HC1.o.le i) (by omega);have HST:Hid (C1 (i+1)=C1 i+(if B1 i=true then 1 else 0)):=HC1.o.step i hlt;have HLI:=HLO.o i hlt;obtain⟨gx,ox,hxa,hcx⟩:=HX1.o hx0;subst hxa;have hcx1:=hcx wr HTI.o i hlt;obtain⟨⟨⟨s,N0⟩,⟨am,ow⟩⟩,hO⟩:∃x,x=O1 i:=⟨_,rfl⟩
   rw[<-hO]at HLI hcx1;dsimp only at HLI hcx1;have HLI:Hid ((JC l2 (s,N0)= -1/\B1 i=true)\/∃k:Nat,k<yn/\JC l2 (s,N0)=(k:Int)/\B1 i=decide (¬(O2 k).2=(am,ow))):=HLI;obtain⟨x0,x1,x2,x3⟩:=hcx1;obtain⟨W,hW⟩:∃W,W=wr.alloc (.cells #[.string s,.int .i64 N0,.int .u64 (am:Int),.int .u8 (ow:Int)] 87):=⟨_,rfl⟩
   have tA:Tch NoB wr W:=(by rw[hW];exact Ta _ _ _);have hrow:W.heap[wr.heap.size]? =some (.cells #[.string s,.int .i64 N0,.int .u64 (am:Int),.int .u8 (ow:Int)] 87):=(by rw[hW];exact Qf _ _);have HBX:Hid (∀V,Tch NoB W V->V.cell? ⟨wr.heap.size,0,none⟩=some (.string s)/\V.cell? ⟨wr.heap.size,1,none⟩=some (.int .i64 N0)/\V.cell? ⟨wr.heap.size,2,none⟩=some (.int .u64 (am:Int))/\V.cell? ⟨wr.heap.size,3,none⟩=some (.int .u8 (ow:Int))):=λV hT=>by
    have:=(hT.block _ (Jb hrow) (λh=>h)).trans hrow;exact⟨Ja this,Ja this,Ja this,Ja this⟩
   have HTA:Hid (Tch NoB w9 W):=HTI.o.go tA;have HW:Hid (W=_):=hW;obtain⟨b0,b1,b2,b3⟩:=HBX.o W (Te _ _);obtain⟨d2,d3,d4⟩:=HWC.o W HTA.o;clear tA hrow hW hO hcx;go_upto_region 17 with fail;rw[<-HW.o];clear c2 c3 c4 x0 x1 x2 x3;go_cut [23] (λv wx=>v=.int .i64 (JC l2 (s,N0))/\Hid (Tch NoB W wx))
   case first=>
    go_region_held3 (λV=>V.cell? ⟨xb,2,none⟩=some (.slice (some ⟨g,0,none⟩) sn cap)/\V.cell? ⟨g,b,none⟩=some (.slice ya yn yc)/\V.cell? ⟨wr.heap.size,0,none⟩=some (.string s)/\V.cell? ⟨wr.heap.size,1,none⟩=some (.int .i64 N0)) (go_keep) ((go_at_call 48;refine(HFB.o _ _ _ (HTA.o.go (Td _ W 1))).mono ?_;rintro _ w3⟨rfl,ht3⟩;have HT3:Hid (Tch NoB W w3):=(Td NoB W 1).go ht3;obtain⟨e0,e1,_,_⟩:=HBX.o _ HT3.o;obtain⟨f2,_,f4⟩:=HWC.o _ (HTA.o.go HT3.o);clear ht3))
    all_goals go_wp2;go_meet;exact⟨rfl,HT3⟩
   case rest=>
   obtain⟨rfl,HT3⟩:=hcut;obtain⟨w3,hw3⟩:∃w3,w3=wc:=⟨wc,rfl⟩
   subst hw3;clear b0 b1 b2 b3 d2 d3 d4 HW;obtain⟨b0,b1,b2,b3⟩:=HBX.o w3 HT3.o;obtain⟨d2,d3,d4⟩:=HWC.o w3 (HTA.o.go HT3.o);have HT4:Hid (Tch NoB w9 w3):=HTA.o.go HT3.o
   rcases HLI.o with⟨hz,hb⟩|⟨k,hk,hz,hb⟩
   ·have HS2:Hid (C1 (i+1)=C1 i+1):=(by have:=HST.o;rw[hb]at this;exact this);rw[hz];clear hz hb HLI HST;go_upto_region 18 with fail;go_quiet (fail);go_wp2;go_roundw
    case rel=>exact⟨i+1,by omega,by rw[HS2.o];go_num,by go_num,HT4.o.go (Td _ _ _)⟩
    case measure=>simp[intOf];omega
   ·rw[hz];clear hz HLI;have hki:(k:Int)<(yn:Int):=(by omega);have hk0:¬(k:Int)<0:=(by omega);obtain⟨gy,oy,hya,hcy⟩:=HX2.o (by omega);subst hya;have hcy1:=hcy w3 HT4.o k hk;obtain⟨⟨⟨s',N'⟩,⟨am',ow'⟩⟩,hO'⟩:∃x,x=O2 k:=⟨_,rfl⟩
    rw[<-hO']at hcy1 hb;dsimp only at hcy1 hb;obtain⟨_,_,y2,y3⟩:=hcy1;clear hO' hcy
    by_cases hE:am'=am
    ·by_cases hE2:ow'=ow
     ·have HS2:Hid (C1 (i+1)=C1 i):=by
       have:=HST.o;rw[hb,hE,hE2]at this;show C1 (i+1)=C1 i;simpa using this
      clear hb HST;subst hE hE2;go_upto_region 18 with fail;go_quiet (fail);go_wp2;go_roundw
      case rel=>exact⟨i+1,by omega,by rw[HS2.o],by go_num,HT4.o.go (Td _ _ _)⟩
      case measure=>simp[intOf];omega
     ·have HS2:Hid (C1 (i+1)=C1 i+1):=by
       have:=HST.o;rw[hb]at this;show C1 (i+1)=C1 i+1;simpa [hE2]using this
      have hE3:¬(ow':Int)=(ow:Int):=(by omega);clear hb HST;subst hE;go_upto_region 18 with fail;go_quiet (fail);go_wp2;go_roundw
      case rel=>exact⟨i+1,by omega,by rw[HS2.o];go_num,by go_num,HT4.o.go (Td _ _ _)⟩
      case measure=>simp[intOf];omega
    ·have HS2:Hid (C1 (i+1)=C1 i+1):=by
      have:=HST.o;rw[hb]at this;show C1 (i+1)=C1 i+1;simpa [hE]using this
     have hE3:¬(am':Int)=(am:Int):=(by omega);clear hb HST;go_upto_region 18 with fail;go_quiet (fail);go_wp2;go_roundw
     case rel=>exact⟨i+1,by omega,by rw[HS2.o];go_num,by go_num,HT4.o.go (Td _ _ _)⟩
     case measure=>simp[intOf];omega
  ·have hli:¬(i:Int)<(xn:Int):=(by omega);have HIE:Hid (i=xn):=(by omega:i=xn)
   go_wp2;go_loopw [20,24] (λv20 v24 wr=>∃j:Nat,j<=yn/\v20=.int .i64 ((C1 xn+C2 j:Nat):Int)/\v24=.int .i64 (j:Int)/\Hid (Tch NoB w9 wr)) (λ_ v24 _=>yn-(intOf v24).toNat)
   case atStart=>exact⟨0,by omega,by rw[HC2.o.zero,HIE.o];rfl,rfl,HTI⟩
   case round=>
    obtain⟨j,hj,rfl,rfl,HTJ⟩:=hrel;clear c2 c3 c4;obtain⟨c2,c3,c4⟩:=HWC.o wr HTJ.o;have hC1b:C1 xn<=50000000:=Qm (HC1.o.le xn) hxb
    by_cases hjl:j<yn
    ·as_aux_lemma=>
     have hji:(j:Int)<(yn:Int):=(by omega);have hCb:C2 j<=50000000:=Qm (HC2.o.le j) (by omega);have HST:Hid (C2 (j+1)=C2 j+(if B2 j=true then 1 else 0)):=HC2.o.step j hjl;have HLI:=HCO.o j hjl;obtain⟨gy,oy,hya,hcy⟩:=HX2.o (by omega);subst hya;obtain⟨⟨⟨s,N0⟩,⟨am,ow⟩⟩,hO⟩:∃x,x=O2 j:=⟨_,rfl⟩
     have HCY:Hid (∀V,Tch NoB w9 V->V.cell? ⟨gy,oy+j*4,none⟩=some (.string s)/\V.cell? ⟨gy,oy+j*4+1,none⟩=some (.int .i64 N0)):=λV hT=>by
      have:=hcy V hT j hjl;rw[<-hO]at this;exact⟨this.1,this.2.1⟩
     rw[<-hO]at HLI;dsimp only at HLI;have HLI:Hid ((JC l1 (s,N0)= -1/\B2 j=true)\/∃k:Nat,JC l1 (s,N0)=(k:Int)/\B2 j=false):=HLI;obtain⟨y0,y1⟩:=HCY.o wr HTJ.o;obtain⟨CC,hCC⟩:∃CC:Nat,CC=C1 xn+C2 j:=⟨_,rfl⟩
     have HCC:Hid (CC=C1 xn+C2 j):=hCC;have hCCb:CC<=100000000:=(by omega);rw[<-hCC];clear hO hcy hCC hCb hC1b;go_upto_region 23 with fail;go_cut [25] (λv wx=>v=.int .i64 (JC l1 (s,N0))/\Hid (Tch NoB w9 wx))
     case first=>
      go_region_held3 (λV=>V.cell? ⟨xb,2,none⟩=some (.slice (some ⟨g,0,none⟩) sn cap)/\V.cell? ⟨g,a,none⟩=some (.slice xa xn xc)/\V.cell? ⟨g,b,none⟩=some (.slice (some ⟨gy,oy,none⟩) yn yc)/\V.cell? ⟨gy,oy+j*4,none⟩=some (.string s)/\V.cell? ⟨gy,oy+j*4+1,none⟩=some (.int .i64 N0)) (go_keep) ((go_at_call 48;refine(HFA.o _ _ _ (HTJ.o.go (Td _ wr 1))).mono ?_;rintro _ w3⟨rfl,ht3⟩;have HT3:Hid (Tch NoB w9 w3):=(HTJ.o.go (Td NoB wr 1)).go ht3;obtain⟨e0,e1⟩:=HCY.o _ HT3.o;obtain⟨f2,f3,f4⟩:=HWC.o _ HT3.o;clear ht3))
      all_goals go_wp2;go_meet;exact⟨rfl,HT3⟩
     case rest=>
     obtain⟨rfl,HT3⟩:=hcut;clear c2 c3 c4 y0 y1
     rcases HLI.o with⟨hz,hb⟩|⟨k,hz,hb⟩
     ·have HS2:Hid (C1 xn+C2 (j+1)=CC+1):=(by have:=HST.o;rw[hb]at this;have:=HCC.o;simp only[if_true]at *;show _=_;omega);rw[hz];clear hz hb HLI HST HCC;go_wp2;go_roundw
      case rel=>exact⟨j+1,by omega,by rw[HS2.o];go_num,by go_num,HT3⟩
      case measure=>simp[intOf];omega
     ·have HS2:Hid (C1 xn+C2 (j+1)=CC):=(by have:=HST.o;rw[hb]at this;have:=HCC.o;simp only[Bool.false_eq_true,if_false]at *;show _=_;omega);have hk0:¬(k:Int)<0:=(by omega);rw[hz];clear hz hb HLI HST HCC;go_wp2;go_roundw
      case rel=>exact⟨j+1,by omega,by rw[HS2.o],by go_num,HT3⟩
      case measure=>simp[intOf];omega
    ·have hji:¬(j:Int)<(yn:Int):=(by omega);have HJE:Hid (j=yn):=(by omega:j=yn)
     have hcc:((C1 xn+C2 j:Nat):Int)=(cn:Int):=(by have:=HCN.o.1;rw[HJE.o];omega);rw[hcc];clear hcc;go_wp2;go_loopw [26] (λv26 wr=>∃k:Nat,k<=cn/\v26=.int .i64 (k:Int)/\Hid (Tch NoB w9 wr)) (λv26 _=>cn-(intOf v26).toNat)
     case atStart=>exact⟨0,by omega,rfl,HTJ⟩
     case round=>
      obtain⟨k,hk,rfl,HTK⟩:=hrel;clear c2 c3 c4
      by_cases hkl:k<cn
      ·as_aux_lemma=>
       have hki:(k:Int)<(cn:Int):=(by omega);obtain⟨gc,hva,hcc⟩:=HK.o (by omega);subst hva;obtain⟨hco,oa,oo,na,no,hcase⟩:=HCG.o k hkl;obtain⟨wa,ia,hKK⟩:∃wa ia,K k= #[.string (S k),.int .i64 (N k),.bool wa,.bool ia,.int .u64 (oa:Int),.int .u8 (oo:Int),.int .u64 (na:Int),.int .u8 (no:Int)]:=by
        rcases hcase with⟨_,_,_,_,_,_,_,_,_,e⟩|⟨_,_,_,_,_,e⟩|⟨_,_,_,_,_,e⟩<;>exact⟨_,_,e⟩
       have HPV:Hid (∀p,k=p+1->Jk wj (S p,N p)/\Je (S p,N p)<Je (S k,N k)/\∀V,Tch NoB w9 V->V.cell? ⟨gc,p*8,none⟩=some (.string (S p))/\V.cell? ⟨gc,p*8+1,none⟩=some (.int .i64 (N p))):=λp hp=>by
        obtain⟨hcp,oa',oo',na',no',hcase'⟩:=HCG.o p (by omega);obtain⟨wa',ia',hKP⟩:∃wa ia,K p= #[.string (S p),.int .i64 (N p),.bool wa,.bool ia,.int .u64 (oa':Int),.int .u8 (oo':Int),.int .u64 (na':Int),.int .u8 (no':Int)]:=by
         rcases hcase' with⟨_,_,_,_,_,_,_,_,_,e⟩|⟨_,_,_,_,_,e⟩|⟨_,_,_,_,_,e⟩<;>exact⟨_,_,e⟩
        refine⟨hcp,by rw[hp];exact HRI.o p (by omega),λV hT=>?_⟩;have g0:=hcc V hT p (by omega) 0 (by omega);have g1:=hcc V hT p (by omega) 1 (by omega);rw[hKP]at g0 g1;exact⟨g0,g1⟩
       have HCA:=hcase;unfold ChgK at HCA;rw[hKK]at hcase;have HCK:Hid (∀V,Tch NoB w9 V->∀j,j<8->V.cell? ⟨gc,k*8+j,none⟩=(K k)[j]?):=λV hT j hj=>hcc V hT k hkl j hj;rw[hKK]at HCK;obtain⟨s,hs⟩:∃s,s=S k:=⟨_,rfl⟩
       obtain⟨n0,hn0⟩:∃n0,n0=N k:=⟨_,rfl⟩
       rw[<-hs,<-hn0]at hcase HCK hco HPV;have HCO2:Hid (Jk wj (s,n0)):=hco;have HCS:Hid ((∃k1 k2:Nat,k1<xn/\k2<yn/\JC l1 (s,n0)=(k1:Int)/\JC l2 (s,n0)=(k2:Int)/\(O1 k1).2=(oa,oo)/\(O2 k2).2=(na,no)/\¬(oa=na/\oo=no)/\wa=true/\ia=true)\/(∃k1:Nat,k1<xn/\JC l1 (s,n0)=(k1:Int)/\JC l2 (s,n0)= -1/\(O1 k1).2=(oa,oo)/\wa=true/\ia=false)\/(∃k2:Nat,k2<yn/\JC l1 (s,n0)= -1/\JC l2 (s,n0)=(k2:Int)/\(O2 k2).2=(na,no)/\wa=false/\ia=true)):=by
        obtain⟨z1,z2⟩:=HLN2.o;rw[z1,z2]at hcase
        rcases hcase with⟨k1,k2,i1,i2,i3,i4,i5,i6,i7,e⟩|⟨k1,i1,i2,i3,i4,e⟩|⟨k2,i1,i2,i3,i4,e⟩
        ·simp only[Array.mk.injEq,QH,Value.bool.injEq,true_and,and_true]at e;exact .inl ⟨k1,k2,i1,i2,i3,i4,i5,i6,i7,e.1,e.2⟩
        ·simp only[Array.mk.injEq,QH,Value.bool.injEq,true_and,and_true]at e;exact .inr (.inl ⟨k1,i1,i2,i3,i4,e.1,e.2⟩)
        ·simp only[Array.mk.injEq,QH,Value.bool.injEq,true_and,and_true]at e;exact .inr (.inr ⟨k2,i1,i2,i3,i4,e.1,e.2⟩)
       have z0:=HCK.o wr HTK.o 0 (by omega);have z1:=HCK.o wr HTK.o 1 (by omega);have z2:=HCK.o wr HTK.o 2 (by omega);have z3:=HCK.o wr HTK.o 3 (by omega);have z4:=HCK.o wr HTK.o 4 (by omega);have z5:=HCK.o wr HTK.o 5 (by omega);have z6:=HCK.o wr HTK.o 6 (by omega);have z7:=HCK.o wr HTK.o 7 (by omega);simp only[Nat.add_zero,List.getElem?_toArray,List.getElem?_cons_zero,List.getElem?_cons_succ]at z0 z1 z2 z3 z4 z5 z6 z7;clear hcase HCA HCK hs hn0 hKK hco hcc HCG;obtain⟨W,hW⟩:∃W,W=wr.alloc (.cells #[.string s,.int .i64 n0,.bool wa,.bool ia,.int .u64 (oa:Int),.int .u8 (oo:Int),.int .u64 (na:Int),.int .u8 (no:Int)] 119):=⟨_,rfl⟩
       have tA:Tch NoB wr W:=(by rw[hW];exact Ta _ _ _);have hrow:W.heap[wr.heap.size]? =some (.cells #[.string s,.int .i64 n0,.bool wa,.bool ia,.int .u64 (oa:Int),.int .u8 (oo:Int),.int .u64 (na:Int),.int .u8 (no:Int)] 119):=(by rw[hW];exact Qf _ _);have HBX:Hid (∀V,Tch NoB W V->V.cell? ⟨wr.heap.size,0,none⟩=some (.string s)/\V.cell? ⟨wr.heap.size,1,none⟩=some (.int .i64 n0)/\V.cell? ⟨wr.heap.size,2,none⟩=some (.bool wa)/\V.cell? ⟨wr.heap.size,3,none⟩=some (.bool ia)/\V.cell? ⟨wr.heap.size,4,none⟩=some (.int .u64 (oa:Int))/\V.cell? ⟨wr.heap.size,5,none⟩=some (.int .u8 (oo:Int))/\V.cell? ⟨wr.heap.size,6,none⟩=some (.int .u64 (na:Int))/\V.cell? ⟨wr.heap.size,7,none⟩=some (.int .u8 (no:Int))):=λV hT=>by
        have:=(hT.block _ (Jb hrow) (λh=>h)).trans hrow;exact⟨Ja this,Ja this,Ja this,Ja this,Ja this,Ja this,Ja this,Ja this⟩
       have HTA:Hid (Tch NoB w9 W):=HTK.o.go tA;have HW:Hid (W=_):=hW;obtain⟨b0,b1,b2,b3,b4,b5,b6,b7⟩:=HBX.o W (Te _ _);obtain⟨d2,d3,d4⟩:=HWC.o W HTA.o;clear tA hrow hW;go_upto_region 32 with fail;rw[<-HW.o];clear z0 z1 z2 z3 z4 z5 z6 z7;go_cut [28] (λv wx=>v=.int .i64 (JC l1 (s,n0))/\Hid (Tch NoB W wx))
       case first=>
        go_region_held3 (λV=>V.cell? ⟨xb,2,none⟩=some (.slice (some ⟨g,0,none⟩) sn cap)/\V.cell? ⟨g,a,none⟩=some (.slice xa xn xc)/\V.cell? ⟨wr.heap.size,0,none⟩=some (.string s)/\V.cell? ⟨wr.heap.size,1,none⟩=some (.int .i64 n0)) (go_keep) ((go_at_call 48;refine(HFA.o _ _ _ (HTA.o.go (Td _ W 1))).mono ?_;rintro _ w3⟨rfl,ht3⟩;have HT3:Hid (Tch NoB W w3):=(Td NoB W 1).go ht3;obtain⟨e0,e1,_⟩:=HBX.o _ HT3.o;obtain⟨f2,f3,_⟩:=HWC.o _ (HTA.o.go HT3.o);clear ht3))
        all_goals go_wp2;go_meet;exact⟨rfl,HT3⟩
       case rest=>
       obtain⟨rfl,HT3⟩:=hcut;obtain⟨w3,hw3⟩:∃w3,w3=wc:=⟨wc,rfl⟩
       subst hw3;have HT4:Hid (Tch NoB w9 w3):=HTA.o.go HT3.o;clear b0 b1 b2 b3 b4 b5 b6 b7 d2 d3 d4 HW;obtain⟨b0,b1,b2,b3,b4,b5,b6,b7⟩:=HBX.o w3 HT3.o;obtain⟨d2,d3,d4⟩:=HWC.o w3 HT4.o;go_upto_region 33 with fail;go_cut [29] (λv wx=>v=.int .i64 (JC l2 (s,n0))/\Hid (Tch NoB w3 wx))
       case first=>
        go_region_held3 (λV=>V.cell? ⟨xb,2,none⟩=some (.slice (some ⟨g,0,none⟩) sn cap)/\V.cell? ⟨g,b,none⟩=some (.slice ya yn yc)/\V.cell? ⟨wr.heap.size,0,none⟩=some (.string s)/\V.cell? ⟨wr.heap.size,1,none⟩=some (.int .i64 n0)) (go_keep) ((go_at_call 48;refine(HFB.o _ _ _ (HT4.o.go (Td _ w3 1))).mono ?_;rintro _ w5⟨rfl,ht5⟩;have HT5:Hid (Tch NoB w3 w5):=(Td NoB w3 1).go ht5;obtain⟨e0,e1,_⟩:=HBX.o _ (HT3.o.go HT5.o);obtain⟨f2,_,f4⟩:=HWC.o _ (HT4.o.go HT5.o);clear ht5))
        all_goals go_wp2;go_meet;exact⟨rfl,HT5⟩
       case rest=>
       obtain⟨rfl,HT5⟩:=hcut;obtain⟨w5,hw5⟩:∃w5,w5=wc:=⟨wc,rfl⟩
       subst hw5;have HT6:Hid (Tch NoB w9 w5):=HT4.o.go HT5.o;clear b0 b1 b2 b3 b4 b5 b6 b7 d2 d3 d4;obtain⟨b0,b1,b2,b3,b4,b5,b6,b7⟩:=HBX.o w5 (HT3.o.go HT5.o);obtain⟨d2,d3,d4⟩:=HWC.o w5 HT6.o;go_upto_region 34 with fail;go_cut [28,29,352] (λ_ _ v wx=>v=.bool false/\Hid (Tch NoB w5 wx))
       case first=>
        as_aux_lemma=>
        rcases HCS.o with⟨k1,k2,hk1,hk2,hz1,hz2,ho1,ho2,hne,rfl,rfl⟩|⟨k1,hk1,hz1,hz2,ho1,rfl,rfl⟩|⟨k2,hk2,hz1,hz2,ho2,rfl,rfl⟩
        ·rw[hz1,hz2];clear HCS hz1 hz2;have hk1i:(k1:Int)<(xn:Int):=(by omega);have hk10:(0:Int)<=(k1:Int):=(by omega);obtain⟨gx,ox,hxa,hcx⟩:=HX1.o (by omega);subst hxa;have hcx1:=(hcx w5 HT6.o k1 hk1).2.2;rw[ho1]at hcx1;obtain⟨m2,m3⟩:=hcx1;clear hcx ho1;have hk2i:(k2:Int)<(yn:Int):=(by omega);have hk20:(0:Int)<=(k2:Int):=(by omega);obtain⟨gy,oy,hya,hcy⟩:=HX2.o (by omega);subst hya;have hcy1:=(hcy w5 HT6.o k2 hk2).2.2;rw[ho2]at hcy1;obtain⟨q2,q3⟩:=hcy1;clear hcy ho2
         by_cases hE:oa=na
         ·have hE2:¬(oo:Int)=(no:Int):=λh=>hne ⟨hE,by omega⟩;subst hE;clear hne;go_quiet (fail);go_wp2;go_meet;exact⟨rfl,Td _ _ _⟩
         ·have hE2:¬(oa:Int)=(na:Int):=λh=>hE (by omega);clear hne;go_quiet (fail);go_wp2;go_meet;exact⟨rfl,Td _ _ _⟩
        ·rw[hz1,hz2];clear HCS hz1 hz2;have hk1i:(k1:Int)<(xn:Int):=(by omega);have hk10:(0:Int)<=(k1:Int):=(by omega);obtain⟨gx,ox,hxa,hcx⟩:=HX1.o (by omega);subst hxa;have hcx1:=(hcx w5 HT6.o k1 hk1).2.2;rw[ho1]at hcx1;obtain⟨m2,m3⟩:=hcx1;clear hcx ho1;go_quiet (fail);go_wp2;go_meet;exact⟨rfl,Td _ _ _⟩
        ·rw[hz1,hz2];clear HCS hz1 hz2;have hk2i:(k2:Int)<(yn:Int):=(by omega);have hk20:(0:Int)<=(k2:Int):=(by omega);obtain⟨gy,oy,hya,hcy⟩:=HX2.o (by omega);subst hya;have hcy1:=(hcy w5 HT6.o k2 hk2).2.2;rw[ho2]at hcy1;obtain⟨q2,q3⟩:=hcy1;clear hcy ho2;go_quiet (fail);go_wp2;go_meet;exact⟨rfl,Td _ _ _⟩
       case rest=>
       obtain⟨rfl,HT6b⟩:=hcut;obtain⟨w6,hw6⟩:∃w6,w6=wc:=⟨wc,rfl⟩
       subst hw6;have HT7:Hid (Tch NoB w9 w6):=HT6.o.go HT6b.o;have HBY:Hid (∀V,Tch NoB w6 V->V.cell? ⟨wr.heap.size,0,none⟩=some (.string s)/\V.cell? ⟨wr.heap.size,1,none⟩=some (.int .i64 n0)):=λV hT=>by
        obtain⟨h0,h1,_⟩:=HBX.o V (((HT3.o.go HT5.o).go HT6b.o).go hT);exact⟨h0,h1⟩
       clear b0 b1 b2 b3 b4 b5 b6 b7 d2 d3 d4 HCS HBX;obtain⟨b0,b1⟩:=HBY.o w6 (Te _ _)
       by_cases hk0:k=0
       ·have hk0i:¬(0:Int)<(k:Int):=(by omega);clear HPV;go_upto_region 36 with fail;go_quiet (fail);go_wp2;go_roundw
        case rel=>exact⟨k+1,by omega,by go_num,HT7.o.go (Td _ _ _)⟩
        case measure=>simp[intOf];omega
       ·obtain⟨p,hp⟩:∃p,k=p+1:=⟨k-1,by omega⟩
        obtain⟨hcp,hlt,hpc⟩:=HPV.o p hp;have hk0i:(0:Int)<(k:Int):=(by omega);have hsub:IntKind.i64.wrap ((k:Int)-1)=(p:Int):=(by simp[IntKind.wrap,IntKind.bits,IntKind.signed];omega);have hsub2:wrap64 ((k:Int)-1)=(p:Int):=(by simp only[wrap64];omega);have hpi:(p:Int)<(cn:Int):=(by omega);have hk0d:decide ((0:Int)<(k:Int))=true:=decide_eq_true hk0i;have hk0n:decide (0<k)=true:=decide_eq_true (by omega);have hk0g:decide ((k:Int) > 0)=true:=decide_eq_true hk0i;obtain⟨s',hs'⟩:∃s',s'=S p:=⟨_,rfl⟩
        obtain⟨n',hn'⟩:∃n',n'=N p:=⟨_,rfl⟩
        rw[<-hs',<-hn']at hcp hlt hpc;have hbl:=Jao _ _ hlt;obtain⟨kp,hkp⟩:∃kp:BA,kp=⟨(Je (s',n')).toArray⟩:=⟨_,rfl⟩
        obtain⟨kk,hkk⟩:∃kk:BA,kk=⟨(Je (s,n0)).toArray⟩:=⟨_,rfl⟩
        have hbl2:Op.bytesLess kp.toList kk.toList=true:=(by rw[ByteArray.toList_eq,ByteArray.toList_eq,hkp,hkk];exact hbl);have HKP:Hid (∀V,Calls prog 54 #[.agg #[.string s',.int .i64 n']] V λe w'=>e=.returned (.string kp)/\Tch NoB V w'):=λV=>by rw[hkp];exact HKT.o V s' n' hcp
        have HKK:Hid (∀V,Calls prog 54 #[.agg #[.string s,.int .i64 n0]] V λe w'=>e=.returned (.string kk)/\Tch NoB V w'):=λV=>by rw[hkk];exact HKT.o V s n0 HCO2.o
        have HPC:Hid (∀V,Tch NoB w9 V->V.cell? ⟨gc,p*8,none⟩=some (.string s')/\V.cell? ⟨gc,p*8+1,none⟩=some (.int .i64 n')):=hpc;obtain⟨g0,g1⟩:=HPC.o w6 HT7.o;clear hbl hkp hkk hcp hlt hpc hs' hn' hp HPV hk0;go_upto_region 36 with fail;go_cut [367] (λv wx=>v=.bool false/\Hid (Tch NoB w9 wx))
        case first=>
         go_region_held3 (λV=>V.cell? ⟨gc,p*8,none⟩=some (.string s')/\V.cell? ⟨gc,p*8+1,none⟩=some (.int .i64 n')/\V.cell? ⟨wr.heap.size,0,none⟩=some (.string s)/\V.cell? ⟨wr.heap.size,1,none⟩=some (.int .i64 n0)) (go_keep) ((first
          | (go_at_call_of 54 (Value.agg #[.string s',.int .i64 n']);refine(HKP.o _).mono ?_;rintro _ w7⟨rfl,ht7⟩;have HT8:Hid (Tch NoB w6 w7):=(Td NoB w6 1).go ht7;obtain⟨e0,e1⟩:=HBY.o _ HT8.o;obtain⟨f0,f1⟩:=HPC.o _ (HT7.o.go HT8.o);clear ht7)
          | (go_at_call_of 54 (Value.agg #[.string s,.int .i64 n0]);refine(HKK.o _).mono ?_;rintro _ w8⟨rfl,ht8⟩;have HT9:Hid (Tch NoB w6 w8):=HT8.o.go ht8;obtain⟨h0,h1⟩:=HBY.o _ HT9.o;obtain⟨i0,i1⟩:=HPC.o _ (HT7.o.go HT9.o);clear ht8)))
         all_goals go_wp2;go_meet;exact⟨rfl,HT7.o.go HT9.o⟩
        case rest=>
        obtain⟨rfl,HT8⟩:=hcut;go_wp2;go_roundw
        case rel=>exact⟨k+1,by omega,by go_num,HT8⟩
        case measure=>simp[intOf];omega
      ·have hki:¬(k:Int)<(cn:Int):=(by omega);go_wp2;go_ret;exact⟨rfl,HEND.o _ HTK.o⟩

theorem Jjh{E:Nat->Addr}{base:Nat}(M:Jh8 E base)(Lf:Nat->∀wj,Led E wj base)(hM:∀wj,M.led wj=Lf 0 wj)(hSt:∀pn wj,Jeb (Lf pn wj))(hPr:∀pn wj,pn<134217728->JfH (Lf pn wj) (Lf (pn+1) wj))(c:Int)(v1 v2:Value)(first:List (Nat×Nat))(script:List JcT)(w:World)(hF:Xm E base w)(hE3:Er3 w)(hb:base<=w.heap.size)(h1:Jq base w v1 first)(ho:∀o∈first,Jy o)(hc1: -9223372036854775808<=c)(hc2:c<9223372036854775808)
  (h2:Jat base w v2 script) (hpo:∀s∈script,∀p∈s.pays,p.Ok) (hab:∀s∈script,(-9223372036854775808<=s.a/\s.a<9223372036854775808)/\(-9223372036854775808<=s.b/\s.b<9223372036854775808)) (hn:script.length<=2097152):
  Calls prog 9 #[.int .i64 c,v1,v2] w λe w'=>e=.returned (.bool true)/\Tch (λj=>base<=j) w w':=by
 have HSH:Hid (Calls prog 14 #[.int .i64 c,v1] w (Jkl M w)):=JnD M c base v1 first w hF hb h1 ho hc1 hc2
 obtain⟨a1,n1,rfl⟩:=h1.shape;obtain⟨a2,n2,rfl⟩:=h2.shape;have HF:Hid (Xm E base w/\base<=w.heap.size):=⟨hF,hb⟩
 have HE3:Hid (∀V,Tch (λj=>base<=j) w V->Er3 V):=λV hT=>hE3.tch hT (λj hj=>Qm hF.vars hj);have HST:Hid (Jat base w (.slice a2 script.length n2) script):=h2;have HPO:Hid (∀s∈script,∀p∈s.pays,p.Ok):=hpo;have HAB:Hid (∀s∈script,(-9223372036854775808<=s.a/\s.a<9223372036854775808)/\(-9223372036854775808<=s.b/\s.b<9223372036854775808)):=hab;have HN:Hid (script.length<=2097152):=hn;clear hF hb h1 ho h2 hpo hn hab hE3;go_enter func9,ntmps9;go_wp2_with fail;refine HSH.o.mono ?_;rintro e w1⟨ht1,wj,xb,lb,F1,ch1,vst1,sl1,states1,hw1,hw,rfl,hS,hl1,hl3⟩;have HT1:Hid (Tch (λj=>base<=j) w w1):=ht1.mono noE;have HS1:Hid (JL (M.led wj) w1 xb lb F1 0 ch1 vst1 sl1 states1):=hS;have HL1:Hid (states1.length=1/\∀l∈states1,l.length<=3):=⟨hl1,hl3⟩
 rw[hM wj]at HS1;have HSTO:Hid (∀pn,Jeb (Lf pn wj)):=λpn=>hSt pn wj;have HPR:Hid (∀pn,pn<134217728->JfH (Lf pn wj) (Lf (pn+1) wj)):=λpn=>hPr pn wj;clear ht1 hS hl1 hl3 HSH hSt hPr hM;generalize hLL:(λpn=>Lf pn wj)=L at *;have hL2:∀pn,Lf pn wj=L pn:=λpn=>by rw[<-hLL]
 simp only[hL2]at HS1 HSTO HPR;clear hLL hL2;go_wp2;go_loopw [8] (λi wr=>∃(k pn:Nat)(F:Nat->Prop)(fl:Nat)(ch:Ch)(vst:Value)(sl:List Sl)(states:List (List Held)),k<=script.length/\pn<=k/\i=.int .i64 (k:Int)/\Hid (JL (L pn) wr xb lb F fl ch vst sl states)/\Hid (Tch (λj=>base<=j) w wr)/\Hid (states.length<=1+2*k/\∀l∈states,l.length<=3+9*k)) (λi _=>script.length-(intOf i).toNat)
 case atStart=>exact⟨0,0,F1,0,ch1,vst1,sl1,states1,by omega,by omega,rfl,HS1,HT1,⟨by have:=HL1.o.1;omega,λl hl=>by have:=HL1.o.2 l hl;omega⟩⟩
 case round=>
  obtain⟨k,pn,F,fl,ch,vst,sl,states,hk,hpn,rfl,HS,HT,HL⟩:=hrel;have HFr:Hid (Xm E base wr):=HF.o.1.tch HT.o (λ_ h=>h);have HLL:Hid (states.length<=1000000000/\∀l∈states,l.length<50000000):=⟨by have:=HL.o.1;have:=HN.o;omega,λl hl=>by have:=HL.o.2 l hl;have:=HN.o;omega⟩
  by_cases hlt:k<script.length
  ·rcases HST.o with⟨_,e2⟩|⟨g,o,cc,e,hg,hcell⟩
   ·rw[e2]at hlt;simp at hlt
   simp only[Qy,true_and]at e;obtain⟨rfl,rfl⟩:=e;obtain⟨va,hpl,d0,d1,d2,d3⟩:=hcell k hlt;have hgz:g<w.heap.size:=Qk hg HF.o.2;have HCE:Hid (∀W,Tch (λj=>base<=j) w W->∀x,W.cell? ⟨g,x,none⟩=w.cell? ⟨g,x,none⟩):=λW hT x=>hT.cell (p:=⟨g,x,none⟩) hgz (λe=>by simp only at e;omega);have q0:=(HCE.o wr HT.o (o+k*4)).trans d0;have q1:=(HCE.o wr HT.o (o+k*4+1)).trans d1;have q2:=(HCE.o wr HT.o (o+k*4+2)).trans d2;have q3:=(HCE.o wr HT.o (o+k*4+3)).trans d3;have hlti:(k:Int)<(script.length:Int):=(by omega);have HPL:Hid (YN base w va script[k].pays):=hpl;have HPK:Hid (∀p∈script[k].pays,p.Ok):=HPO.o _ (Qx hlt);have HABk:Hid ((-9223372036854775808<=script[k].a/\script[k].a<9223372036854775808)/\(-9223372036854775808<=script[k].b/\script[k].b<9223372036854775808)):=HAB.o _ (Qx hlt);obtain⟨vp0,vp1,hvp⟩:∃x y,va=.slice x script[k].pays.length y:=(hpl.at HF.o.2).shape;subst hvp;clear hcell d0 d1 d2 d3 hpl;have HLT:Hid (k<script.length):=hlt;have hkb:k<2097152:=(by have:=HN.o;omega);generalize script[k].kind=kd at *;generalize script[k].a=sa at *;generalize script[k].b=sb at *;generalize script[k].pays=ps at *;obtain⟨W,hW⟩:∃W,W=wr.alloc (.cells #[.int .i64 kd,.int .i64 sa,.int .i64 sb,.slice vp0 ps.length vp1] 31):=⟨_,rfl⟩
   have tA:Tch NoB wr W:=(by rw[hW];exact Ta _ _ _);have hrow:W.heap[wr.heap.size]? =some (.cells #[.int .i64 kd,.int .i64 sa,.int .i64 sb,.slice vp0 ps.length vp1] 31):=(by rw[hW];exact Qf _ _);have HBX:Hid (∀(S:Nat->Prop) V,Tch S W V->¬S wr.heap.size->V.cell? ⟨wr.heap.size,0,none⟩=some (.int .i64 kd)/\V.cell? ⟨wr.heap.size,1,none⟩=some (.int .i64 sa)/\V.cell? ⟨wr.heap.size,2,none⟩=some (.int .i64 sb)/\V.cell? ⟨wr.heap.size,3,none⟩=some (.slice vp0 ps.length vp1)):=λS V hT hs=>by
    have:=(hT.block _ (Jb hrow) hs).trans hrow;exact⟨Ja this,Ja this,Ja this,Ja this⟩
   have HBR:Hid (∀V,Tch NoB W V->V.heap[wr.heap.size]? =some (.cells #[.int .i64 kd,.int .i64 sa,.int .i64 sb,.slice vp0 ps.length vp1] 31)):=λV hT=>(hT.block _ (Jb hrow) (λh=>h)).trans hrow;have HTA:Hid (Tch NoB wr W):=tA;have HW:Hid (W=_):=hW;obtain⟨b0,b1,b2,b3⟩:=HBX.o NoB W (Te _ _) (λh=>h);clear tA hrow hW hlt;have HPN:Hid (pn<=k):=hpn;have HPR1:Hid (JfH (L pn) (L (pn+1))):=HPR.o pn (by omega);clear hpn
   by_cases hk2:kd=2
   ·subst hk2;have HDO:Hid (Calls prog 20 #[.pointer (some ⟨xb,0,none⟩),.agg #[.int .i64 2,.int .i64 sa,.int .i64 sb,.slice vp0 ps.length vp1]] W λe w'=>e=.returned (.bool true)/\∃F' fl',JL (L (pn+1)) w' xb lb F' fl' ch vst sl states/\Tch (λj=>F j\/j=xb) W w'/\(∀j,F' j->F j\/W.heap.size<=j)):=Jmo (L pn) (L (pn+1)) HPR1.o (HFr.o.tch HTA.o noE) (HS.o.next HTA.o) HLL.o.1 sa sb HABk.o.1.1 HABk.o.1.2 vp0 ps.length vp1;go_upto_region 8 with fail;rw[<-HW.o];go_wp2_with fail;refine HDO.o.mono ?_;rintro _ w2⟨rfl,F2,fl2,hS2,hT2W,_⟩;have hns:¬(F wr.heap.size\/wr.heap.size=xb):=λh=>by
     rcases h with h|h
     ·have:=((L pn).own HS.o.led _ h).2;omega
     ·have:=(Jb HS.o.row);omega
    obtain⟨e0,e1,e2,e3⟩:=HBX.o _ w2 hT2W hns;have HS2:Hid (JL (L (pn+1)) w2 xb lb F2 fl2 ch vst sl states):=hS2;have HT2:Hid (Tch (λj=>base<=j) w w2):=(HT.o.trans HTA.o noE).trans hT2W (λj hj=>.inl (by
     rcases hj with h|rfl
     ·exact((L pn).own HS.o.led j h).1
     ·exact HS.o.low))
    clear b0 b1 b2 b3 e1 e2 e3 hS2 hns HDO hT2W;go_wp2;go_roundw
    case rel=>exact⟨k+1,pn+1,F2,fl2,ch,vst,sl,states,HLT.o,by have:=HPN.o;omega,by go_num,HS2,HT2,⟨by have:=HL.o.1;omega,λl hl=>by have:=HL.o.2 l hl;omega⟩⟩
    case measure=>have:=HLT.o;simp[intOf];omega
   ·by_cases hk1:kd=1
    ·subst hk1;have HDO:Hid (Calls prog 20 #[.pointer (some ⟨xb,0,none⟩),.agg #[.int .i64 1,.int .i64 sa,.int .i64 sb,.slice vp0 ps.length vp1]] W λe w'=>e=.returned (.bool true)/\∃V,Tch NoB W V/\∃F' ch' vst' sl' states',JL (L pn) w' xb lb F' fl ch' vst' sl' states'/\Tch (λj=>F j\/j=xb\/some j=vst.ownBlock) V w'/\states'.length<=states.length+1/\∀l∈states',∃l0∈states,l.length<=l0.length+9):=by
      refine Jmn xb sa sb vp0 ps.length vp1 (λV w'=>∃F' ch' vst' sl' states',JL (L pn) w' xb lb F' fl ch' vst' sl' states'/\Tch (λj=>F j\/j=xb\/some j=vst.ownBlock) V w'/\states'.length<=states.length+1/\∀l∈states',∃l0∈states,l.length<=l0.length+9) (λV hT=>?_);have hTV:Tch (λj=>base<=j) w V:=(HT.o.trans HTA.o noE).trans hT noE;have hbV:base<=V.heap.size:=Qm HF.o.2 hTV.size;refine(JnC (L pn) hw1 hw xb lb F fl ch vst sl states _ ps V (HF.o.1.tch hTV (λ_ h=>h)) ((HS.o.next HTA.o).next hT) ((HPL.o.tch HF.o.2 hTV (λ_ h=>h)).at hbV) HPK.o (λl hl=>by have:=HL.o.2 l hl;have:=HN.o;omega) (by have:=HS.o.len;have:=HL.o.1;have:=HN.o;omega)).mono ?_;rintro e w'⟨he,F',ch',vst',sl',states',g1,g2,_,_,g5,g6⟩;exact⟨he,F',ch',vst',sl',states',g1,g2,g5,g6⟩
     go_upto_region 8 with fail;rw[<-HW.o];go_wp2_with fail;refine HDO.o.mono ?_;rintro _ w2⟨rfl,V,hTV,F2,ch2,vst2,sl2,states2,hS2,hT2,hl2,hh2⟩;have hT2W:Tch (λj=>F j\/j=xb\/some j=vst.ownBlock) W w2:=(hTV.mono noE).trans hT2 (λ_ h=>.inl h);have hns:¬(F wr.heap.size\/wr.heap.size=xb\/some wr.heap.size=vst.ownBlock):=λh=>by
      rcases h with h|h|h
      ·have:=((L pn).own HS.o.led _ h).2;omega
      ·have:=(Jb HS.o.row);omega
      ·have:=(HS.o.st.own _ h.symm).2;omega
     obtain⟨e0,e1,e2,e3⟩:=HBX.o _ w2 hT2W hns;have HS2:Hid (JL (L pn) w2 xb lb F2 fl ch2 vst2 sl2 states2):=hS2;have HT2:Hid (Tch (λj=>base<=j) w w2):=(HT.o.trans HTA.o noE).trans hT2W (λj hj=>.inl (by
      rcases hj with h|rfl|h
      ·exact((L pn).own HS.o.led j h).1
      ·exact HS.o.low
      ·exact(HS.o.st.own j h.symm).1))
     have HL2:Hid (states2.length<=1+2*(k+1)/\∀l∈states2,l.length<=3+9*(k+1)):=⟨by have:=HL.o.1;omega,λl hl=>by obtain⟨l0,h0,h1⟩:=hh2 l hl;have:=HL.o.2 l0 h0;omega⟩
     clear b0 b1 b2 b3 e1 e2 e3 hS2 hT2 hl2 hh2 hT2W hns hTV HDO;go_wp2;go_roundw
     case rel=>exact⟨k+1,pn,F2,fl,ch2,vst2,sl2,states2,HLT.o,by have:=HPN.o;omega,by go_num,HS2,HT2,HL2⟩
     case measure=>have:=HLT.o;simp[intOf];omega
    ·have HDO:Hid (Calls prog 20 #[.pointer (some ⟨xb,0,none⟩),.agg #[.int .i64 kd,.int .i64 sa,.int .i64 sb,.slice vp0 ps.length vp1]] W λe w'=>e=.returned (.bool true)/\Tch NoB W w'):=Jmm xb kd sa sb vp0 ps.length vp1 hk1 hk2;go_upto_region 8 with fail;rw[<-HW.o];go_wp2_with fail;refine HDO.o.mono ?_;rintro _ w2⟨rfl,ht2⟩;have HT2:Hid (Tch NoB wr w2):=HTA.o.go ht2;have HTW2:Hid (Tch NoB W w2):=ht2;obtain⟨e0,e1,e2,e3⟩:=HBX.o _ w2 ht2 (λh=>h);clear b0 b1 b2 b3 ht2 HDO
     by_cases hk3:kd=3
     ·subst hk3;have hS2:=HS.o.next HT2.o;have hTw2:Tch (λj=>base<=j) w w2:=HT.o.trans HT2.o noE;obtain⟨va,vc,hv,c2,c0⟩:=hS2.len2;subst hv;have c3:w2.cell? ⟨xb,3,none⟩=some (.int .i64 (fl:Int)):=Ja hS2.row;have hfl:=hS2.floor;have HLI:Hid (∀V (za zb:Int) (r s:Nat),za=(fl:Int)+(r:Int)->zb=(fl:Int)+(s:Int)->Tch NoB w2 V->r<states.length-fl->s<states.length-fl->Calls prog 26 #[.pointer (some ⟨xb,0,none⟩),.int .i64 za,.int .i64 zb] V λe w'=>e=.returned (.bool true)/\Tch (SRow base V) V w'):=λV za zb r s h1 h2 hT hr hs=>by
       have hTV:=hTw2.trans hT noE;rw[h1,h2,<-Int.natCast_add,<-Int.natCast_add];exact Jgj (L pn) (HSTO.o pn) hw1 hw (HF.o.1.tch hTV (λ_ h=>h)) (HE3.o V hTV) (Qm HF.o.2 hTV.size) (hS2.next hT) HLL.o (fl+r) (fl+s) (by omega) (by omega) (by omega) (by omega)
      have HPK:Hid (∀V (c:Int), -9223372036854775808<=c->c<9223372036854775808->Calls prog 22 #[.int .i64 c,.int .i64 ((states.length-fl:Nat):Int)] V λe w'=>(∃r:Nat,r<states.length-fl/\e=.returned (.int .i64 (r:Int)))/\w'=V):=λV c h1 h2=>Jbd c (states.length-fl) V h1 h2 (by omega) (by have:=HLL.o.1;omega);have HADD:Hid (∀r:Nat,r<states.length-fl->IntKind.i64.wrap ((fl:Int)+(r:Int))=(fl:Int)+(r:Int)):=λr hr=>by have:=HLL.o.1;simp[IntKind.wrap,IntKind.bits,IntKind.signed];omega
      have hsub:IntKind.i64.wrap ((states.length:Int)-(fl:Int))=((states.length-fl:Nat):Int):=(by have:=HLL.o.1;simp[IntKind.wrap,IntKind.bits,IntKind.signed];omega);have hxr:=hS2.row;have HXC:Hid (∀V,Tch (SRow base w2) w2 V->V.cell? ⟨xb,3,none⟩=some (.int .i64 (fl:Int))/\V.cell? ⟨wr.heap.size,1,none⟩=some (.int .i64 sa)/\V.cell? ⟨wr.heap.size,2,none⟩=some (.int .i64 sb)):=λV hT=>by
       have hr1:=(hT.block _ (Jb hxr) (SRow.not hxr (by decide))).trans hxr;have hst:¬SRow base w2 wr.heap.size:=SRow.not (HBR.o w2 HTW2.o) (by decide);exact⟨Ja hr1,(hT.cell (p:=⟨wr.heap.size,1,none⟩) (Qr _ _ e1) hst).trans e1,(hT.cell (p:=⟨wr.heap.size,2,none⟩) (Qr _ _ e2) hst).trans e2⟩
      have HS2:Hid (JL (L pn) w2 xb lb F fl ch (.slice va states.length vc) sl states):=hS2;have HTw2:Hid (Tch (λj=>base<=j) w w2):=hTw2;have HFL:Hid (fl<states.length):=hfl;have HLE:Hid (states.length=states.length):=rfl;obtain⟨D,hD⟩:∃D:Nat,D=states.length-fl:=⟨_,rfl⟩
      rw[<-hD]at hsub HPK HLI HADD;obtain⟨sn,hsn⟩:∃sn:Nat,sn=states.length:=⟨_,rfl⟩
      rw[<-hsn]at hsub c2;have HDE:Hid (D=states.length-fl/\fl<states.length):=⟨hD,hfl⟩
      clear hS2 hTw2 hfl hxr hD e3;go_upto_region 10 with fail;go_cut [11] (λv wx=>v=.int .i64 (D:Int)/\Hid (Tch NoB w2 wx))
      case first=>go_quiet (fail);go_wp2;go_meet;refine⟨congrArg (Value.int .i64) ?_,Td _ _ _⟩;obtain⟨d1,d2⟩:=HDE.o;have d3:=HLL.o.1;rw[d1];simp only[wrap64];omega
      case rest=>
      obtain⟨rfl,HTb⟩:=hcut;obtain⟨wb,hwb⟩:∃wb,wb=wc:=⟨wc,rfl⟩
      subst hwb;clear c2 c0 c3 e1 e2;obtain⟨c3,e1,e2⟩:=HXC.o wb (HTb.o.mono noE);go_upto_region 11 with fail;go_cut [10] (λv wx=>v=.bool true/\Hid (Tch (SRow base w2) w2 wx))
      case first=>
       go_region_held3 (λV=>V.cell? ⟨xb,3,none⟩=some (.int .i64 (fl:Int))/\V.cell? ⟨wr.heap.size,1,none⟩=some (.int .i64 sa)/\V.cell? ⟨wr.heap.size,2,none⟩=some (.int .i64 sb)) (go_keep) ((first
        | (go_at_call_of 22 (Value.int .i64 sa);refine(HPK.o _ _ HABk.o.1.1 HABk.o.1.2).mono ?_;rintro _ X⟨⟨r,hr,rfl⟩,hX⟩;rw[hX];clear hX X;have HR:Hid (r<D):=hr;have hra:=HADD.o r hr;clear hr)
        | (go_at_call_of 22 (Value.int .i64 sb);refine(HPK.o _ _ HABk.o.2.1 HABk.o.2.2).mono ?_;rintro _ X⟨⟨s,hs,rfl⟩,hX⟩;rw[hX];clear hX X;have HSS:Hid (s<D):=hs;have hsa:=HADD.o s hs;clear hs)
        | (go_at_call 26;refine(HLI.o _ _ _ r s (by first|rfl|omega) (by first|rfl|omega) (HTb.o.go (Td _ wb 1)) HR.o HSS.o).mono ?_;rintro _ w3⟨rfl,ht3⟩;have HT3:Hid (Tch (SRow base w2) w2 w3):=JfA ((HTb.o.go (Td NoB wb 1)).mono noE) ht3;obtain⟨g3,g1,g2⟩:=HXC.o _ HT3.o;clear ht3)))
       all_goals go_wp2;go_meet;exact⟨rfl,HT3⟩
      case rest=>
      obtain⟨rfl,HT3⟩:=hcut;obtain⟨w3,hw3⟩:∃w3,w3=wc:=⟨wc,rfl⟩
      subst hw3;clear HXC HLI HPK HADD hsub c3 e0 e1 e2 hsn;go_wp2;go_roundw
      case rel=>exact⟨k+1,pn,F,fl,ch,_,sl,states,HLT.o,by have:=HPN.o;omega,by go_num,HS2.o.nextS (HSTO.o pn) HT3.o,HTw2.o.trans HT3.o (λj hj=>.inl hj.1),⟨by have:=HL.o.1;omega,λl hl=>by have:=HL.o.2 l hl;omega⟩⟩
      case measure=>have:=HLT.o;simp[intOf];omega
     ·go_wp2;go_roundw
      case rel=>exact⟨k+1,pn,F,fl,ch,vst,sl,states,HLT.o,by have:=HPN.o;omega,by go_num,HS.o.next HT2.o,HT.o.trans HT2.o noE,⟨by have:=HL.o.1;omega,λl hl=>by have:=HL.o.2 l hl;omega⟩⟩
      case measure=>have:=HLT.o;simp[intOf];omega
  ·have hge:¬(k:Int)<(script.length:Int):=(by omega);obtain⟨va,vc,hv,c2,c0⟩:=HS.o.len2;subst hv;have hfl:=HS.o.floor;obtain⟨n,hn⟩:∃n,states.length=n+1:=⟨states.length-1,by omega⟩
   have c3:wr.cell? ⟨xb,3,none⟩=some (.int .i64 (fl:Int)):=Ja HS.o.row;have HLI:Hid (∀V,Tch NoB wr V->Calls prog 26 #[.pointer (some ⟨xb,0,none⟩),.int .i64 (fl:Int),.int .i64 (n:Int)] V λe w'=>e=.returned (.bool true)/\Tch (SRow base V) V w'):=λV hT=>by
    have hTV:=HT.o.trans hT noE;exact Jgj (L pn) (HSTO.o pn) hw1 hw (HF.o.1.tch hTV (λ_ h=>h)) (HE3.o V hTV) (Qm HF.o.2 hTV.size) (HS.o.next hT) HLL.o fl n (by omega) (by omega) (by omega) (by omega)
   have hxr:=HS.o.row;have HXC:Hid (∀V,Tch (SRow base wr) wr V->V.cell? ⟨xb,3,none⟩=some (.int .i64 (fl:Int))/\V.cell? ⟨xb,2,none⟩=some (.slice va states.length vc)):=λV hT=>by
    have hr1:=(hT.block _ (Jb hxr) (SRow.not hxr (by decide))).trans hxr;exact⟨Ja hr1,Ja hr1⟩
   have hm2:IntKind.i64.wrap ((states.length:Int)-1)=(n:Int):=(by have:=HLL.o.1;simp[IntKind.wrap,IntKind.bits,IntKind.signed];omega);have hm3:wrap64 ((states.length:Int)-1)=(n:Int):=(by have:=HLL.o.1;simp only[wrap64];omega);clear hxr hfl hn;generalize states.length=sn at *;go_upto_region 14 with fail;go_region_held3 (λV=>V.cell? ⟨xb,3,none⟩=some (.int .i64 (fl:Int))/\V.cell? ⟨xb,2,none⟩=some (.slice va sn vc)) (go_keep) ((go_at_call 26;refine(HLI.o _ (Td _ wr 1)).mono ?_;rintro _ w3⟨rfl,ht3⟩;have HT3:Hid (Tch (SRow base wr) wr w3):=JfA ((Td NoB wr 1).mono noE) ht3;obtain⟨g3,g2⟩:=HXC.o _ HT3.o;clear ht3))
   all_goals go_wp2;go_ret;exact⟨rfl,HT.o.trans HT3.o (λj hj=>.inl hj.1)⟩
