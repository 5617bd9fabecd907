import Derived.Test.YtighkdnooglfjaaGreatDoorLxLdE
import Derived.Test.YtighkdnooglfjaaGreatDoorLxLjE
import Derived.Test.YtighkdnooglfjaaGreatDoorCards
import Derived.Test.YtighkdnooglfjaaGreatDoorTie
import Derived.Deep.DeepWitnessRowRef
namespace Go.Proofs.YtighkdnooglfjaaGreatDoor
open Go.Proofs.Tryz
open Go.ChangeShapes Go.WideShapes Go.ChangeAt Go.RowKit

theorem Jhx{W:World}(h:laidMetH prog Rows.listedUptoRow.laid W):(∃E:Nat->Addr,Env E W/\Sent E W/\∀g∈Ss,(E g).block<W.heap.size)/\Er3 W:=by
 rw[MakeChecks.laidMetH_plain _ _ _ (by kernel_rfl)]at h;have h3:=h.tail.tail.tail;have hs:∀g∈Ss,JbX W g (tx g):=by
  intro g hg;simp only[Ss,List.mem_cons,QD,or_false]at hg
  rcases hg with rfl|rfl|rfl|rfl|rfl|rfl|rfl|rfl
  ·exact XG h3.tail (by kernel_rfl) (by kernel_rfl)
  ·exact XG h3.tail.tail (by kernel_rfl) (by kernel_rfl)
  ·exact XG h3.tail.tail.tail (by kernel_rfl) (by kernel_rfl)
  ·exact XG h3.tail.tail.tail.tail (by kernel_rfl) (by kernel_rfl)
  ·exact XG h3.tail.tail.tail.tail.tail (by kernel_rfl) (by kernel_rfl)
  ·exact XG h3.tail.tail.tail.tail.tail.tail (by kernel_rfl) (by kernel_rfl)
  ·exact XG h3.tail.tail.tail.tail.tail.tail.tail (by kernel_rfl) (by kernel_rfl)
  ·exact XG h3 (by kernel_rfl) (by kernel_rfl)
 have ht:laidMet prog [("trove/digest.roundConstants",Lib.tabData .u32 Ks)] W:=h3.tail.tail.tail.tail.tail.tail.tail.tail.tail.tail.tail;have htw:JbX W 12 (txOf Rows.laid_trove_fault_Twice):=XG h3.tail.tail.tail.tail.tail.tail.tail.tail (by kernel_rfl) (by kernel_rfl);have hum:JbX W 9 (txOf Rows.laid_trove_fault_Unmet):=XG h3.tail.tail.tail.tail.tail.tail.tail.tail.tail (by kernel_rfl) (by kernel_rfl);have hul:JbX W 10 (txOf Rows.laid_trove_fault_Unlike):=XG h3.tail.tail.tail.tail.tail.tail.tail.tail.tail.tail (by kernel_rfl) (by kernel_rfl);have htab:=Lib.tabIs_of_head gTab JkX underlying486 underlying429 Jnq Jnp ht;have hp:laidMet prog (("internal/strconv.uint64pow10",Lib.tabData .u64 Lib.pow10Tab)::_) W:=h.tail.tail;have hpow:=Lib.tabIs_of_head gPow JkW underlying503 underlying78 JkH Jno hp;refine⟨Jns hs ?_ hpow (λi hi=>htab.cell gTab i hi),?_⟩;rotate_left
 ·obtain⟨_,_,_,_,h1,_⟩:=htw;obtain⟨_,_,_,_,h2,_⟩:=hum;obtain⟨_,_,_,_,h4,_⟩:=hul;exact⟨⟨_,_,h1⟩,⟨_,_,h2⟩,⟨_,_,h4⟩⟩
 obtain⟨ps,hv,_⟩:=h.tail;obtain⟨g,t,cs,fuel,p,q,hg,_,hvv,_⟩:=hv;obtain rfl:g=17:=Option.some.inj (hg.symm.trans (show prog.globalNamed "math/bits.deBruijn64tab" =some 17 by kernel_rfl));unfold World.var? at hvv;rw[hg]at hvv;simp only[Qu]at hvv
 split at hvv
 ·rename_i hh;exact(Jb hh)
 ·cases hvv
set_option maxRecDepth 100000
set_option maxHeartbeats 4000000
open Go.RowKit

theorem Jjk{E:Nat->Addr}{base:Nat}(M:Jia E base)(Lf:Nat->∀wj,Led E wj base)(hM:∀wj,M.led wj=Lf 0 wj)(hSt:∀pn wj,Jed (Lf pn wj))(hPr:∀pn wj,pn<134217728->JfI (Lf pn wj) (Lf (pn+1) wj))(c:Int)(v1 v2:Value)(first:List (Nat×Nat))(script:List Jcn)(w:World)(hF:Xe E base w)(hE3:Er3 w)(hb:base<=w.heap.size)(h1:Jq base w v1 first)(ho:∀o∈first,JA o)(hc1: -9223372036854775808<=c)(hc2:c<9223372036854775808)
  (h2:YR base w v2 script) (hpo:∀s∈script,∀p∈s.pays,p.Ok) (hab:∀s∈script,(-9223372036854775808<=s.a/\s.a<9223372036854775808)/\(-9223372036854775808<=s.b/\s.b<9223372036854775808)) (hn:script.length<=2097152):
  Calls prog 9 #[.int .i64 c,v1,v2] w λe w'=>e=.returned (.bool true)/\Tch (λj=>base<=j) w w':=by
 have HSH:Hid (Calls prog 14 #[.int .i64 c,v1] w (Jkm M w)):=JnA M c base v1 first w hF hb h1 ho hc1 hc2
 obtain⟨a1,n1,rfl⟩:=h1.shape;obtain⟨a2,n2,rfl⟩:=h2.shape;have HF:Hid (Xe E base w/\base<=w.heap.size):=⟨hF,hb⟩
 have HE3:Hid (∀V,Tch (λj=>base<=j) w V->Er3 V):=λV hT=>hE3.tch hT (λj hj=>Qm hF.vars hj);have HST:Hid (YR base w (.slice a2 script.length n2) script):=h2;have HPO:Hid (∀s∈script,∀p∈s.pays,p.Ok):=hpo;have HAB:Hid (∀s∈script,(-9223372036854775808<=s.a/\s.a<9223372036854775808)/\(-9223372036854775808<=s.b/\s.b<9223372036854775808)):=hab;have HN:Hid (script.length<=2097152):=hn;clear hF hb h1 ho h2 hpo hn hab hE3;go_enter func9,ntmps9;go_wp2_with fail;refine HSH.o.mono ?_;rintro e w1⟨ht1,wj,xb,lb,F1,ch1,vst1,sl1,states1,hw1,hw,rfl,hS,hl1,hl3⟩;have HT1:Hid (Tch (λj=>base<=j) w w1):=ht1.mono noE;have HS1:Hid (JI (M.led wj) w1 xb lb F1 0 ch1 vst1 sl1 states1):=hS;have HL1:Hid (states1.length=1/\∀l∈states1,l.length<=3):=⟨hl1,hl3⟩
 rw[hM wj]at HS1;have HSTO:Hid (∀pn,Jed (Lf pn wj)):=λpn=>hSt pn wj;have HPR:Hid (∀pn,pn<134217728->JfI (Lf pn wj) (Lf (pn+1) wj)):=λpn=>hPr pn wj;clear ht1 hS hl1 hl3 HSH hSt hPr hM;generalize hLL:(λpn=>Lf pn wj)=L at *;have hL2:∀pn,Lf pn wj=L pn:=λpn=>by rw[<-hLL]
 simp only[hL2]at HS1 HSTO HPR;clear hLL hL2;go_wp2;go_loopw [8] (λi wr=>∃(k pn:Nat)(F:Nat->Prop)(fl:Nat)(ch:Ch)(vst:Value)(sl:List Sl)(states:List (List Held)),k<=script.length/\pn<=k/\i=.int .i64 (k:Int)/\Hid (JI (L pn) wr xb lb F fl ch vst sl states)/\Hid (Tch (λj=>base<=j) w wr)/\Hid (states.length<=1+2*k/\∀l∈states,l.length<=3+9*k)) (λi _=>script.length-(intOf i).toNat)
 case atStart=>exact⟨0,0,F1,0,ch1,vst1,sl1,states1,by omega,by omega,rfl,HS1,HT1,⟨by have:=HL1.o.1;omega,λl hl=>by have:=HL1.o.2 l hl;omega⟩⟩
 case round=>
  obtain⟨k,pn,F,fl,ch,vst,sl,states,hk,hpn,rfl,HS,HT,HL⟩:=hrel;have HFr:Hid (Xe E base wr):=HF.o.1.tch HT.o (λ_ h=>h);have HLL:Hid (states.length<=1000000000/\∀l∈states,l.length<50000000):=⟨by have:=HL.o.1;have:=HN.o;omega,λl hl=>by have:=HL.o.2 l hl;have:=HN.o;omega⟩
  by_cases hlt:k<script.length
  ·rcases HST.o with⟨_,e2⟩|⟨g,o,cc,e,hg,hcell⟩
   ·rw[e2]at hlt;simp at hlt
   simp only[Qy,true_and]at e;obtain⟨rfl,rfl⟩:=e;obtain⟨va,hpl,d0,d1,d2,d3⟩:=hcell k hlt;have hgz:g<w.heap.size:=Qk hg HF.o.2;have HCE:Hid (∀W,Tch (λj=>base<=j) w W->∀x,W.cell? ⟨g,x,none⟩=w.cell? ⟨g,x,none⟩):=λW hT x=>hT.cell (p:=⟨g,x,none⟩) hgz (λe=>by simp only at e;omega);have q0:=(HCE.o wr HT.o (o+k*4)).trans d0;have q1:=(HCE.o wr HT.o (o+k*4+1)).trans d1;have q2:=(HCE.o wr HT.o (o+k*4+2)).trans d2;have q3:=(HCE.o wr HT.o (o+k*4+3)).trans d3;have hlti:(k:Int)<(script.length:Int):=(by omega);have HPL:Hid (YM base w va script[k].pays):=hpl;have HPK:Hid (∀p∈script[k].pays,p.Ok):=HPO.o _ (Qx hlt);have HABk:Hid ((-9223372036854775808<=script[k].a/\script[k].a<9223372036854775808)/\(-9223372036854775808<=script[k].b/\script[k].b<9223372036854775808)):=HAB.o _ (Qx hlt);obtain⟨vp0,vp1,hvp⟩:∃x y,va=.slice x script[k].pays.length y:=(hpl.at HF.o.2).shape;subst hvp;clear hcell d0 d1 d2 d3 hpl;have HLT:Hid (k<script.length):=hlt;have hkb:k<2097152:=(by have:=HN.o;omega);generalize script[k].kind=kd at *;generalize script[k].a=sa at *;generalize script[k].b=sb at *;generalize script[k].pays=ps at *;obtain⟨W,hW⟩:∃W,W=wr.alloc (.cells #[.int .i64 kd,.int .i64 sa,.int .i64 sb,.slice vp0 ps.length vp1] 31):=⟨_,rfl⟩
   have tA:Tch NoB wr W:=(by rw[hW];exact Ta _ _ _);have hrow:W.heap[wr.heap.size]? =some (.cells #[.int .i64 kd,.int .i64 sa,.int .i64 sb,.slice vp0 ps.length vp1] 31):=(by rw[hW];exact Qf _ _);have HBX:Hid (∀(S:Nat->Prop) V,Tch S W V->¬S wr.heap.size->V.cell? ⟨wr.heap.size,0,none⟩=some (.int .i64 kd)/\V.cell? ⟨wr.heap.size,1,none⟩=some (.int .i64 sa)/\V.cell? ⟨wr.heap.size,2,none⟩=some (.int .i64 sb)/\V.cell? ⟨wr.heap.size,3,none⟩=some (.slice vp0 ps.length vp1)):=λS V hT hs=>by
    have:=(hT.block _ (Jb hrow) hs).trans hrow;exact⟨Ja this,Ja this,Ja this,Ja this⟩
   have HBR:Hid (∀V,Tch NoB W V->V.heap[wr.heap.size]? =some (.cells #[.int .i64 kd,.int .i64 sa,.int .i64 sb,.slice vp0 ps.length vp1] 31)):=λV hT=>(hT.block _ (Jb hrow) (λh=>h)).trans hrow;have HTA:Hid (Tch NoB wr W):=tA;have HW:Hid (W=_):=hW;obtain⟨b0,b1,b2,b3⟩:=HBX.o NoB W (Te _ _) (λh=>h);clear tA hrow hW hlt;have HPN:Hid (pn<=k):=hpn;have HPR1:Hid (JfI (L pn) (L (pn+1))):=HPR.o pn (by omega);clear hpn
   by_cases hk2:kd=2
   ·subst hk2;have HDO:Hid (Calls prog 20 #[.pointer (some ⟨xb,0,none⟩),.agg #[.int .i64 2,.int .i64 sa,.int .i64 sb,.slice vp0 ps.length vp1]] W λe w'=>e=.returned (.bool true)/\∃F' fl',JI (L (pn+1)) w' xb lb F' fl' ch vst sl states/\Tch (λj=>F j\/j=xb) W w'/\(∀j,F' j->F j\/W.heap.size<=j)):=Jmn (L pn) (L (pn+1)) HPR1.o (HFr.o.tch HTA.o noE) (HS.o.next HTA.o) HLL.o.1 sa sb HABk.o.1.1 HABk.o.1.2 vp0 ps.length vp1;go_upto_region 8 with fail;rw[<-HW.o];go_wp2_with fail;refine HDO.o.mono ?_;rintro _ w2⟨rfl,F2,fl2,hS2,hT2W,_⟩;have hns:¬(F wr.heap.size\/wr.heap.size=xb):=λh=>by
     rcases h with h|h
     ·have:=((L pn).own HS.o.led _ h).2;omega
     ·have:=(Jb HS.o.row);omega
    obtain⟨e0,e1,e2,e3⟩:=HBX.o _ w2 hT2W hns;have HS2:Hid (JI (L (pn+1)) w2 xb lb F2 fl2 ch vst sl states):=hS2;have HT2:Hid (Tch (λj=>base<=j) w w2):=(HT.o.trans HTA.o noE).trans hT2W (λj hj=>.inl (by
     rcases hj with h|rfl
     ·exact((L pn).own HS.o.led j h).1
     ·exact HS.o.low))
    clear b0 b1 b2 b3 e1 e2 e3 hS2 hns HDO hT2W;go_wp2;go_roundw
    case rel=>exact⟨k+1,pn+1,F2,fl2,ch,vst,sl,states,HLT.o,by have:=HPN.o;omega,by go_num,HS2,HT2,⟨by have:=HL.o.1;omega,λl hl=>by have:=HL.o.2 l hl;omega⟩⟩
    case measure=>have:=HLT.o;simp[intOf];omega
   ·by_cases hk1:kd=1
    ·subst hk1;have HDO:Hid (Calls prog 20 #[.pointer (some ⟨xb,0,none⟩),.agg #[.int .i64 1,.int .i64 sa,.int .i64 sb,.slice vp0 ps.length vp1]] W λe w'=>e=.returned (.bool true)/\∃V,Tch NoB W V/\∃F' ch' vst' sl' states',JI (L pn) w' xb lb F' fl ch' vst' sl' states'/\Tch (λj=>F j\/j=xb\/some j=vst.ownBlock) V w'/\states'.length<=states.length+1/\∀l∈states',∃l0∈states,l.length<=l0.length+9):=by
      refine Jmm xb sa sb vp0 ps.length vp1 (λV w'=>∃F' ch' vst' sl' states',JI (L pn) w' xb lb F' fl ch' vst' sl' states'/\Tch (λj=>F j\/j=xb\/some j=vst.ownBlock) V w'/\states'.length<=states.length+1/\∀l∈states',∃l0∈states,l.length<=l0.length+9) (λV hT=>?_);have hTV:Tch (λj=>base<=j) w V:=(HT.o.trans HTA.o noE).trans hT noE;have hbV:base<=V.heap.size:=Qm HF.o.2 hTV.size;refine(Jnz (L pn) hw1 hw xb lb F fl ch vst sl states _ ps V (HF.o.1.tch hTV (λ_ h=>h)) ((HS.o.next HTA.o).next hT) ((HPL.o.tch HF.o.2 hTV (λ_ h=>h)).at hbV) HPK.o (λl hl=>by have:=HL.o.2 l hl;have:=HN.o;omega) (by have:=HS.o.len;have:=HL.o.1;have:=HN.o;omega)).mono ?_;rintro e w'⟨he,F',ch',vst',sl',states',g1,g2,_,_,g5,g6⟩;exact⟨he,F',ch',vst',sl',states',g1,g2,g5,g6⟩
     go_upto_region 8 with fail;rw[<-HW.o];go_wp2_with fail;refine HDO.o.mono ?_;rintro _ w2⟨rfl,V,hTV,F2,ch2,vst2,sl2,states2,hS2,hT2,hl2,hh2⟩;have hT2W:Tch (λj=>F j\/j=xb\/some j=vst.ownBlock) W w2:=(hTV.mono noE).trans hT2 (λ_ h=>.inl h);have hns:¬(F wr.heap.size\/wr.heap.size=xb\/some wr.heap.size=vst.ownBlock):=λh=>by
      rcases h with h|h|h
      ·have:=((L pn).own HS.o.led _ h).2;omega
      ·have:=(Jb HS.o.row);omega
      ·have:=(HS.o.st.own _ h.symm).2;omega
     obtain⟨e0,e1,e2,e3⟩:=HBX.o _ w2 hT2W hns;have HS2:Hid (JI (L pn) w2 xb lb F2 fl ch2 vst2 sl2 states2):=hS2;have HT2:Hid (Tch (λj=>base<=j) w w2):=(HT.o.trans HTA.o noE).trans hT2W (λj hj=>.inl (by
      rcases hj with h|rfl|h
      ·exact((L pn).own HS.o.led j h).1
      ·exact HS.o.low
      ·exact(HS.o.st.own j h.symm).1))
     have HL2:Hid (states2.length<=1+2*(k+1)/\∀l∈states2,l.length<=3+9*(k+1)):=⟨by have:=HL.o.1;omega,λl hl=>by obtain⟨l0,h0,h1⟩:=hh2 l hl;have:=HL.o.2 l0 h0;omega⟩
     clear b0 b1 b2 b3 e1 e2 e3 hS2 hT2 hl2 hh2 hT2W hns hTV HDO;go_wp2;go_roundw
     case rel=>exact⟨k+1,pn,F2,fl,ch2,vst2,sl2,states2,HLT.o,by have:=HPN.o;omega,by go_num,HS2,HT2,HL2⟩
     case measure=>have:=HLT.o;simp[intOf];omega
    ·have HDO:Hid (Calls prog 20 #[.pointer (some ⟨xb,0,none⟩),.agg #[.int .i64 kd,.int .i64 sa,.int .i64 sb,.slice vp0 ps.length vp1]] W λe w'=>e=.returned (.bool true)/\Tch NoB W w'):=Jml xb kd sa sb vp0 ps.length vp1 hk1 hk2;go_upto_region 8 with fail;rw[<-HW.o];go_wp2_with fail;refine HDO.o.mono ?_;rintro _ w2⟨rfl,ht2⟩;have HT2:Hid (Tch NoB wr w2):=HTA.o.go ht2;have HTW2:Hid (Tch NoB W w2):=ht2;obtain⟨e0,e1,e2,e3⟩:=HBX.o _ w2 ht2 (λh=>h);clear b0 b1 b2 b3 ht2 HDO
     by_cases hk3:kd=3
     ·subst hk3;have hS2:=HS.o.next HT2.o;have hTw2:Tch (λj=>base<=j) w w2:=HT.o.trans HT2.o noE;obtain⟨va,vc,hv,c2,c0⟩:=hS2.len2;subst hv;have c3:w2.cell? ⟨xb,3,none⟩=some (.int .i64 (fl:Int)):=Ja hS2.row;have hfl:=hS2.floor;have HLI:Hid (∀V (za zb:Int) (r s:Nat),za=(fl:Int)+(r:Int)->zb=(fl:Int)+(s:Int)->Tch NoB w2 V->r<states.length-fl->s<states.length-fl->Calls prog 26 #[.pointer (some ⟨xb,0,none⟩),.int .i64 za,.int .i64 zb] V λe w'=>e=.returned (.bool true)/\Tch (SRow base V) V w'):=λV za zb r s h1 h2 hT hr hs=>by
       have hTV:=hTw2.trans hT noE;rw[h1,h2,<-Int.natCast_add,<-Int.natCast_add];exact Jgk (L pn) (HSTO.o pn) hw1 hw (HF.o.1.tch hTV (λ_ h=>h)) (HE3.o V hTV) (Qm HF.o.2 hTV.size) (hS2.next hT) HLL.o (fl+r) (fl+s) (by omega) (by omega) (by omega) (by omega)
      have HPK:Hid (∀V (c:Int), -9223372036854775808<=c->c<9223372036854775808->Calls prog 22 #[.int .i64 c,.int .i64 ((states.length-fl:Nat):Int)] V λe w'=>(∃r:Nat,r<states.length-fl/\e=.returned (.int .i64 (r:Int)))/\w'=V):=λV c h1 h2=>Jbb c (states.length-fl) V h1 h2 (by omega) (by have:=HLL.o.1;omega);have HADD:Hid (∀r:Nat,r<states.length-fl->IntKind.i64.wrap ((fl:Int)+(r:Int))=(fl:Int)+(r:Int)):=λr hr=>by have:=HLL.o.1;simp[IntKind.wrap,IntKind.bits,IntKind.signed];omega
      have hsub:IntKind.i64.wrap ((states.length:Int)-(fl:Int))=((states.length-fl:Nat):Int):=(by have:=HLL.o.1;simp[IntKind.wrap,IntKind.bits,IntKind.signed];omega);have hxr:=hS2.row;have HXC:Hid (∀V,Tch (SRow base w2) w2 V->V.cell? ⟨xb,3,none⟩=some (.int .i64 (fl:Int))/\V.cell? ⟨wr.heap.size,1,none⟩=some (.int .i64 sa)/\V.cell? ⟨wr.heap.size,2,none⟩=some (.int .i64 sb)):=λV hT=>by
       have hr1:=(hT.block _ (Jb hxr) (SRow.not hxr (by decide))).trans hxr;have hst:¬SRow base w2 wr.heap.size:=SRow.not (HBR.o w2 HTW2.o) (by decide);exact⟨Ja hr1,(hT.cell (p:=⟨wr.heap.size,1,none⟩) (Qr _ _ e1) hst).trans e1,(hT.cell (p:=⟨wr.heap.size,2,none⟩) (Qr _ _ e2) hst).trans e2⟩
      have HS2:Hid (JI (L pn) w2 xb lb F fl ch (.slice va states.length vc) sl states):=hS2;have HTw2:Hid (Tch (λj=>base<=j) w w2):=hTw2;have HFL:Hid (fl<states.length):=hfl;have HLE:Hid (states.length=states.length):=rfl;obtain⟨D,hD⟩:∃D:Nat,D=states.length-fl:=⟨_,rfl⟩
      rw[<-hD]at hsub HPK HLI HADD;obtain⟨sn,hsn⟩:∃sn:Nat,sn=states.length:=⟨_,rfl⟩
      rw[<-hsn]at hsub c2;have HDE:Hid (D=states.length-fl/\fl<states.length):=⟨hD,hfl⟩
      clear hS2 hTw2 hfl hxr hD e3;go_upto_region 10 with fail;go_cut [11] (λv wx=>v=.int .i64 (D:Int)/\Hid (Tch NoB w2 wx))
      case first=>go_quiet (fail);go_wp2;go_meet;refine⟨congrArg (Value.int .i64) ?_,Td _ _ _⟩;obtain⟨d1,d2⟩:=HDE.o;have d3:=HLL.o.1;rw[d1];simp only[wrap64];omega
      case rest=>
      obtain⟨rfl,HTb⟩:=hcut;obtain⟨wb,hwb⟩:∃wb,wb=wc:=⟨wc,rfl⟩
      subst hwb;clear c2 c0 c3 e1 e2;obtain⟨c3,e1,e2⟩:=HXC.o wb (HTb.o.mono noE);go_upto_region 11 with fail;go_cut [10] (λv wx=>v=.bool true/\Hid (Tch (SRow base w2) w2 wx))
      case first=>
       go_region_held3 (λV=>V.cell? ⟨xb,3,none⟩=some (.int .i64 (fl:Int))/\V.cell? ⟨wr.heap.size,1,none⟩=some (.int .i64 sa)/\V.cell? ⟨wr.heap.size,2,none⟩=some (.int .i64 sb)) (go_keep) ((first
        | (go_at_call_of 22 (Value.int .i64 sa);refine(HPK.o _ _ HABk.o.1.1 HABk.o.1.2).mono ?_;rintro _ X⟨⟨r,hr,rfl⟩,hX⟩;rw[hX];clear hX X;have HR:Hid (r<D):=hr;have hra:=HADD.o r hr;clear hr)
        | (go_at_call_of 22 (Value.int .i64 sb);refine(HPK.o _ _ HABk.o.2.1 HABk.o.2.2).mono ?_;rintro _ X⟨⟨s,hs,rfl⟩,hX⟩;rw[hX];clear hX X;have HSS:Hid (s<D):=hs;have hsa:=HADD.o s hs;clear hs)
        | (go_at_call 26;refine(HLI.o _ _ _ r s (by first|rfl|omega) (by first|rfl|omega) (HTb.o.go (Td _ wb 1)) HR.o HSS.o).mono ?_;rintro _ w3⟨rfl,ht3⟩;have HT3:Hid (Tch (SRow base w2) w2 w3):=JfB ((HTb.o.go (Td NoB wb 1)).mono noE) ht3;obtain⟨g3,g1,g2⟩:=HXC.o _ HT3.o;clear ht3)))
       all_goals go_wp2;go_meet;exact⟨rfl,HT3⟩
      case rest=>
      obtain⟨rfl,HT3⟩:=hcut;obtain⟨w3,hw3⟩:∃w3,w3=wc:=⟨wc,rfl⟩
      subst hw3;clear HXC HLI HPK HADD hsub c3 e0 e1 e2 hsn;go_wp2;go_roundw
      case rel=>exact⟨k+1,pn,F,fl,ch,_,sl,states,HLT.o,by have:=HPN.o;omega,by go_num,HS2.o.nextS (HSTO.o pn) HT3.o,HTw2.o.trans HT3.o (λj hj=>.inl hj.1),⟨by have:=HL.o.1;omega,λl hl=>by have:=HL.o.2 l hl;omega⟩⟩
      case measure=>have:=HLT.o;simp[intOf];omega
     ·go_wp2;go_roundw
      case rel=>exact⟨k+1,pn,F,fl,ch,vst,sl,states,HLT.o,by have:=HPN.o;omega,by go_num,HS.o.next HT2.o,HT.o.trans HT2.o noE,⟨by have:=HL.o.1;omega,λl hl=>by have:=HL.o.2 l hl;omega⟩⟩
      case measure=>have:=HLT.o;simp[intOf];omega
  ·have hge:¬(k:Int)<(script.length:Int):=(by omega);obtain⟨va,vc,hv,c2,c0⟩:=HS.o.len2;subst hv;have hfl:=HS.o.floor;obtain⟨n,hn⟩:∃n,states.length=n+1:=⟨states.length-1,by omega⟩
   have c3:wr.cell? ⟨xb,3,none⟩=some (.int .i64 (fl:Int)):=Ja HS.o.row;have HLI:Hid (∀V,Tch NoB wr V->Calls prog 26 #[.pointer (some ⟨xb,0,none⟩),.int .i64 (fl:Int),.int .i64 (n:Int)] V λe w'=>e=.returned (.bool true)/\Tch (SRow base V) V w'):=λV hT=>by
    have hTV:=HT.o.trans hT noE;exact Jgk (L pn) (HSTO.o pn) hw1 hw (HF.o.1.tch hTV (λ_ h=>h)) (HE3.o V hTV) (Qm HF.o.2 hTV.size) (HS.o.next hT) HLL.o fl n (by omega) (by omega) (by omega) (by omega)
   have hxr:=HS.o.row;have HXC:Hid (∀V,Tch (SRow base wr) wr V->V.cell? ⟨xb,3,none⟩=some (.int .i64 (fl:Int))/\V.cell? ⟨xb,2,none⟩=some (.slice va states.length vc)):=λV hT=>by
    have hr1:=(hT.block _ (Jb hxr) (SRow.not hxr (by decide))).trans hxr;exact⟨Ja hr1,Ja hr1⟩
   have hm2:IntKind.i64.wrap ((states.length:Int)-1)=(n:Int):=(by have:=HLL.o.1;simp[IntKind.wrap,IntKind.bits,IntKind.signed];omega);have hm3:wrap64 ((states.length:Int)-1)=(n:Int):=(by have:=HLL.o.1;simp only[wrap64];omega);clear hxr hfl hn;generalize states.length=sn at *;go_upto_region 14 with fail;go_region_held3 (λV=>V.cell? ⟨xb,3,none⟩=some (.int .i64 (fl:Int))/\V.cell? ⟨xb,2,none⟩=some (.slice va sn vc)) (go_keep) ((go_at_call 26;refine(HLI.o _ (Td _ wr 1)).mono ?_;rintro _ w3⟨rfl,ht3⟩;have HT3:Hid (Tch (SRow base wr) wr w3):=JfB ((Td NoB wr 1).mono noE) ht3;obtain⟨g3,g2⟩:=HXC.o _ HT3.o;clear ht3))
   all_goals go_wp2;go_ret;exact⟨rfl,HT.o.trans HT3.o (λj hj=>.inl hj.1)⟩

theorem own:ownKnob prog.godebug=none:=by kernel_rfl
theorem Je8:laidOutB prog=true:=by kernel_rfl
theorem JnN:prog.readableRec 22=true:=by kernel_rfl
theorem JmN:prog.readableRec 26=true:=by kernel_rfl
theorem Joi:prog.readableRec 3=true:=by kernel_rfl
theorem JnD:22<prog.types.size:=of_decide_eq_true (by kernel_rfl)
theorem JmE:26<prog.types.size:=of_decide_eq_true (by kernel_rfl)
theorem Joe:3<prog.types.size:=of_decide_eq_true (by kernel_rfl)
theorem Tch.belowN{W W':World}(h:Tch (λj=>W.heap.size<=j) W W'):Below W.heap.size W W':=h.below (Ql _) (λ_ h=>h)
theorem JcF(H:Type)(enc:TypeId×Value->H)(W:World)(base:Nat)(args:Array Value)(ds gs:List (DataW H))(before:List MemPlace)
  (hval:∀(j:Nat) t v,Tryz.f9.params[j]? =some t->args[j]? =some v->Value.okWide prog W .any base t v)
  (hW:DataW.Whole enc prog Tryz.f9.params.toList Rows.listedSpec.vars false W args.toList ds gs before) (hk:Rows.uptoSmall H (ds++gs)=true) (hL:laidMetH prog Rows.listedUptoRow.laid W):
  Calls prog 9 args W λe W'=>∃v,e=.returned v/\Rows.listedSpec.post enc prog Tryz.f9 false true false false W args v W':=by
 have hW':=hW;obtain⟨p,q,hA0,hV,rfl,hfz,hnd⟩:=hW;have hA:DataW.TrodAll enc prog W 0 (λ_=>true) true Tryz.f9.params.toList args.toList ds p:=hA0;rw[params9]at hA hval;obtain⟨v0,vs0,d0,ds0,p0,q0,hargs,rfl,rfl,h0,r0⟩:=trodAll_cons hA;obtain⟨v1,vs1,d1,ds1,p1,q1,rfl,rfl,rfl,h1,r1⟩:=trodAll_cons r0;obtain⟨v2,vs2,d2,ds2,p2,q2,rfl,rfl,rfl,h2,r2⟩:=trodAll_cons r1;obtain⟨rfl,rfl,rfl⟩:=trodAll_nil r2;obtain rfl:args= #[v0,v1,v2]:=by cases args;simp_all
 obtain⟨rfl,rfl⟩:=trodVars_none hV;clear hA0 hA r0 r1 r2;simp only[QC]at hW' hk hfz;have hlt:∀x∈p0++(p1++p2),x.block<W.heap.size:=λx hx=>hW'.lt x hx;have h0k:=h0;have h1k:=h1;have h2k:=h2;have hb:Rows.uptoBulk d2<=1048576:=by have:=of_decide_eq_true hk;simp only[Rows.uptoBulkAll]at this;omega
 obtain⟨f0,h0⟩:=h0;obtain⟨f1,h1⟩:=h1;obtain⟨f2,h2⟩:=h2;have o1:=hval 1 22 v1 rfl rfl;have o2:=hval 2 26 v2 rfl rfl;have e1:v1.cells.toList=[v1]:=by rcases JaT underlying22 o1 with rfl|⟨_,_,_,_,rfl,_⟩<;>rfl
 have e2:v2.cells.toList=[v2]:=by rcases JaT underlying26 o2 with rfl|⟨_,_,_,_,rfl,_⟩<;>rfl
 rw[e1]at h1;rw[e2]at h2;obtain⟨outs,hO,hOk⟩:=JjD o1 h1;obtain⟨script,hSt,hPo,hAB,hn⟩:=JhT o2 h2 hb;obtain⟨c,e0,_,b0⟩:=DataW.trod_int underlying3 h0;have bc0:=bounds_i64 b0;obtain rfl:v0=.int .i64 c:=by
  have o0:=hval 0 3 v0 rfl rfl;unfold Value.okWide at o0;rw[underlying3]at o0;simp only at o0;unfold Cell.okWide at o0;rw[underlying3]at o0
  cases v0<;>simp only at o0<;>first|(simp[Value.cells]at e0;rw[e0.1,e0.2];done)|(unfold Cell.ok at o0;rw[underlying3]at o0;exact absurd o0 (by simp))
 obtain⟨⟨E,hE,hS,hR⟩,hE3⟩:=Jhx hL;refine(Jjk (Jj3 E W.heap.size) (λpn wj=>JbR E W.heap.size pn wj) (λ_=>rfl) (λpn wj=>Jh1 E W.heap.size pn wj) (λpn wj h=>Jh2 E W.heap.size pn wj h) c v1 v2 outs script W ⟨hE,hS,hE.size,hR⟩ hE3 (Ql _) hO hOk bc0.1 (by omega) hSt hPo hAB (by omega)).mono λe W' ⟨he,hT⟩=>?_;subst he;have hB:=hT.belowN;refine⟨_,rfl,[d0,d1,d2],[],p0++(p1++p2),[],p0++(p1++p2),[],hW',trodAll_mk1 (shut_bool underlying4 _),trodAll_mk3 (Below.trod Je8 Joi Joe h0k hB (λx hx=>hlt x (by simp[hx]))) (Below.trod Je8 JnN JnD h1k hB (λx hx=>hlt x (by simp[hx]))) (Below.trod Je8 JmN JmE h2k hB (λx hx=>hlt x (by simp[hx]))),rfl,hB.frame _,λh=>by cases h⟩

theorem Jhy(os:Os)(args:Array Value):laidMetH prog Rows.listedUptoRow.laid ((World.doorLaid prog 400 os).forCall (λ_ _=>0) ⟨#[],args,[]⟩).memory:=
 laidMetH_of_parts3 (fuel:=8) (laidMet_of_run' 8 (by kernel_rfl) (by kernel_rfl)) (by kernel_rfl) (by kernel_rfl)
theorem Jfe(os:Os){H:Type}(enc:TypeId×Value->H):∃places,DataW.whole enc prog ((World.doorLaid prog 400 os).forCall (λ_ _=>0) ⟨#[],#[.int .i64 0,.slice none 0 0,.slice none 0 0],[]⟩).memory Tryz.f9.params.toList Rows.listedSpec.vars false #[Value.int .i64 0,.slice none 0 0,.slice none 0 0].toList 8=some ([.lit (.int .i64 0),.nil,.nil],[],places):=
 ⟨[],by kernel_rfl⟩
theorem Jd1(os:Os)(started:os.Started)(H:Type)(enc:TypeId×Value->H)(F:Stop.Interp):
  ReturnsInHanded {} checked os 9 .any ((Rows.OpenSpec.upto Rows.listedSpec).preRow enc prog Tryz.f9 Rows.listedUptoRow.domain false Rows.listedUptoRow.laid) (((Rows.OpenSpec.upto Rows.listedSpec).at F).post enc prog Tryz.f9 false true false false):=by
 obtain⟨places,hx⟩:=Jfe os enc;refine returnsInHanded_of_row (C:=checked) (s:=Rows.OpenSpec.upto Rows.listedSpec) own started (by kernel_rfl) func9
  (witness_row_atRef (enc:=enc) (C:=checked) false (World.doorLaid prog 400 os) #[.int .i64 0,.slice none 0 0,.slice none 0 0] rfl (by kernel_rfl) (by kernel_rfl) (by kernel_rfl)
   (OpenSpec.preRow_of_cond 8 hx (by kernel_rfl) (λk hk=>by cases hk;kernel_rfl) (by kernel_rfl) (Jhy os _))) ?_
 intro W base args ds gs before hval hW _ hcond _ hL _ _;exact JcF H enc W base args ds gs before hval hW (hcond _ rfl) hL
