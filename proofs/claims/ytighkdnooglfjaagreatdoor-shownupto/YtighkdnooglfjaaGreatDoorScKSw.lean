import Derived.Test.YtighkdnooglfjaaGreatDoorScKSh
namespace Go.Proofs.YtighkdnooglfjaaGreatDoor
open Go.Proofs.Tryz
set_option maxRecDepth 100000
set_option maxHeartbeats 4000000
open Go.RowKit

theorem JjL {w:World} (xb:Nat) (a b:Int) (p0:Option Addr) (pn p1:Nat) (R:World->World->Prop) (hP:∀W,Tch NoB w W->Calls prog 17 #[.pointer (some ⟨xb,0,none⟩),.slice p0 pn p1] W λe w'=>e=.returned (.bool true)/\R W w'):
  Calls prog 20 #[.pointer (some ⟨xb,0,none⟩),.agg #[.int .i64 1,.int .i64 a,.int .i64 b,.slice p0 pn p1]] w λe w'=>e=.returned (.bool true)/\∃W,Tch NoB w W/\R W w':=by
 have HP:Hid (∀W,Tch NoB w W->_):=hP
 clear hP
 go_enter func20,ntmps20
 go_wp2_with fail
 refine (HP.o _ (Ta _ _ _)).mono ?_
 rintro _ w1 ⟨rfl,hR⟩
 have HR:Hid (R _ w1):=hR
 clear hR HP
 go_wp2
 go_ret
 exact ⟨rfl,_,Ta _ _ _,HR.o⟩
theorem JjK {w:World} (xb:Nat) (kd a b:Int) (p0:Option Addr) (pn p1:Nat) (h1:¬kd=1) (h2:¬kd=2):
  Calls prog 20 #[.pointer (some ⟨xb,0,none⟩),.agg #[.int .i64 kd,.int .i64 a,.int .i64 b,.slice p0 pn p1]] w λe w'=>e=.returned (.bool true)/\Tch NoB w w':=by
 go_enter func20,ntmps20
 go_wp2
 go_ret
 exact ⟨rfl,Ta _ _ _⟩
theorem JS.coins {E:Nat->Addr} {wd base:Nat} {L:Led E wd base} {w:World} {xb lb:Nat} {F:Nat->Prop} {fl:Nat} {ch:Ch} {vst:Value} {sl:List Sl} {states:List (List Held)} (h:JS L w xb lb F fl ch vst sl states):∀l∈states,∀x∈l,Jk wd x.1:=λl hl x hx=>by
 obtain ⟨i,hi,rfl⟩:=List.getElem_of_mem hl
 have hc:i<ch.length:=by have:=h.len;omega
 exact ((h.book i ch[i] states[i] (Nat.zero_le _) (Qd hc) (Qd hi)).ok x hx).1
theorem JS.len2 {E:Nat->Addr} {wd base:Nat} {L:Led E wd base} {w:World} {xb lb:Nat} {F:Nat->Prop} {fl:Nat} {ch:Ch} {vst:Value} {sl:List Sl} {states:List (List Held)} (h:JS L w xb lb F fl ch vst sl states):∃va vc,vst=.slice va states.length vc/\w.cell? ⟨xb,2,none⟩=some (.slice va states.length vc)/\w.cell? ⟨xb,0,none⟩=some (.pointer (some ⟨lb,0,none⟩)):=by
 have hsl:=h.len.1
 obtain ⟨g,cap,hv,_⟩:=h.st.at (λe=>by have:=h.len;rw [e] at this;simp at this;omega)
 have hr:=h.row
 rw [hv,hsl] at hr
 exact ⟨_,_,by rw [hv,hsl],Ja hr,Ja hr⟩
theorem Jc8 {E:Nat->Addr} {wd base:Nat} (L:Led E wd base) (Q:LedQ L) (hw1:1<=wd) (hw:wd<=32) {w:World} {xb lb:Nat} {F:Nat->Prop} {ch:Ch} {vst:Value} {sl:List Sl} {states:List (List Held)} (hF:Xa E base w) (hS:JS L w xb lb F 0 ch vst sl states) (hl:states.length<=1000000000/\∀l∈states,l.length<1000000000):
  (∀V (c:Int),Tch NoB w V-> -9223372036854775808<=c->c<9223372036854775808->Calls prog 23 #[.pointer (some ⟨xb,0,none⟩),.int .i64 c] V λe w'=>Tch NoB V w'/\∃(s:BA) (N:Int),Jk wd (s,N)/\e=.returned (.agg #[.string s,.int .i64 N]))/\
  (∀V (n:Nat) (s:BA) (N:Int),Tch NoB w V->n<states.length->Jk wd (s,N)->Calls prog 21 #[.pointer (some ⟨xb,0,none⟩),.int .i64 (n:Int),.agg #[.string s,.int .i64 N]] V λe w'=>e=.returned (.bool true)/\Tch NoB V w')/\
  (∀V (h:Int) (s:BA) (N:Int),Tch NoB w V->¬(0<=h/\h<(states.length:Int))->Calls prog 24 #[.pointer (some ⟨lb,0,none⟩),.int .i64 h,.agg #[.string s,.int .i64 N]] V λe w'=>e=.returned (.tuple #[.string ⟨#[]⟩,.int .i64 7])/\Tch NoB V w'):=by
 refine ⟨λV c hT h1 h2=>?_,λV n s N hT hn hco=>?_,λV h s N hT hh=>?_⟩
 ·refine (JiB L hw1 hw xb lb F 0 ch vst sl states c h1 h2 V (hF.tch hT (λ_ e=>e.elim)).env (hS.next hT) hS.coins hl.1 (λl h=>Nat.le_of_lt (hl.2 l h))).mono ?_
  rintro e w' ⟨ht,⟨s,N⟩,hc,he⟩
  exact ⟨ht,s,N,hc,he⟩
 ·exact JjM L Q hw1 hw xb lb F 0 ch vst sl states n hn (Nat.zero_le _) (s,N) hco V (hF.tch hT (λ_ e=>e.elim)) (hS.next hT) hl.1 hl.2
 ·refine Q.qout h (s,N) (L.keep hS.led hT (λ_ e=>e.elim)) (hF.tch hT (λ_ e=>e.elim)) ?_
  have hc:=hS.len
  rw [hc.2.1]
  exact hh
theorem JiC {E:Nat->Addr} {base:Nat} (M:Jf4 E base) (hQ:∀wd,LedQ (M.led wd)) (c:Int) (v1 v2:Value) (first:List (Nat×Nat)) (script:List JbH) (w:World) (hF:Xa E base w) (hb:base<=w.heap.size) (h1:Jo base w v1 first) (ho:∀o∈first,Jq o) (hc1: -9223372036854775808<=c) (hc2:c<9223372036854775808)
  (h2:ZF base w v2 script) (hpo:∀s∈script,∀p∈s.pays,p.Ok) (hab:∀s∈script,(-9223372036854775808<=s.a/\s.a<9223372036854775808)/\(-9223372036854775808<=s.b/\s.b<9223372036854775808)) (hn:script.length<=2097152):
  Calls prog 6 #[.int .i64 c,v1,v2] w λe w'=>e=.returned (.bool true)/\Tch (λj=>base<=j) w w':=by
 have HSH:Hid (Calls prog 14 #[.int .i64 c,v1] w (JhY M w)):=JkY M c base v1 first w hF hb h1 ho hc1 hc2
 obtain ⟨a1,n1,rfl⟩:=h1.shape
 obtain ⟨a2,n2,rfl⟩:=h2.shape
 have HF:Hid (Xa E base w/\base<=w.heap.size):=⟨hF,hb⟩
 have HST:Hid (ZF base w (.slice a2 script.length n2) script):=h2
 have HPO:Hid (∀s∈script,∀p∈s.pays,p.Ok):=hpo
 have HAB:Hid (∀s∈script,(-9223372036854775808<=s.a/\s.a<9223372036854775808)/\(-9223372036854775808<=s.b/\s.b<9223372036854775808)):=hab
 have HN:Hid (script.length<=2097152):=hn
 clear hF hb h1 ho h2 hpo hn hab
 go_enter func6,ntmps6
 go_wp2_with fail
 refine HSH.o.mono ?_
 rintro e w1 ⟨ht1,wd,xb,lb,F1,ch1,vst1,sl1,states1,hw1,hw,rfl,hS,hl1,hl3⟩
 have HT1:Hid (Tch (λj=>base<=j) w w1):=ht1.mono noE
 have HS1:Hid (JS (M.led wd) w1 xb lb F1 0 ch1 vst1 sl1 states1):=hS
 have HL1:Hid (states1.length=1/\∀l∈states1,l.length<=3):=⟨hl1,hl3⟩
 have HQ:Hid (LedQ (M.led wd)):=hQ wd
 clear ht1 hS hl1 hl3 HSH hQ
 generalize M.led wd=L at *
 go_wp2
 go_loopw [8] (λi wr=>∃(k:Nat) (F:Nat->Prop) (ch:Ch) (vst:Value) (sl:List Sl) (states:List (List Held)),k<=script.length/\i=.int .i64 (k:Int)/\Hid (JS L wr xb lb F 0 ch vst sl states)/\Hid (Tch (λj=>base<=j) w wr)/\Hid (states.length<=1+2 * k/\∀l∈states,l.length<=3+9 * k)) (λi _=>script.length - (intOf i).toNat)
 case atStart=>exact ⟨0,F1,ch1,vst1,sl1,states1,by omega,rfl,HS1,HT1,⟨by have:=HL1.o.1;omega,λl hl=>by have:=HL1.o.2 l hl;omega⟩⟩
 case round=>
  obtain ⟨k,F,ch,vst,sl,states,hk,rfl,HS,HT,HL⟩:=hrel
  have HFr:Hid (Xa E base wr):=HF.o.1.tch HT.o (λ_ h=>h)
  have HLL:Hid (states.length<=1000000000/\∀l∈states,l.length<1000000000):=⟨by have:=HL.o.1;have:=HN.o;omega,λl hl=>by have:=HL.o.2 l hl;have:=HN.o;omega⟩
  by_cases hlt:k<script.length
  ·rcases HST.o with ⟨_,e2⟩ | ⟨g,o,cc,e,hg,hcell⟩
   ·rw [e2] at hlt;simp at hlt
   simp only [Qy,true_and] at e
   obtain ⟨rfl,rfl⟩:=e
   obtain ⟨va,hpl,d0,d1,d2,d3⟩:=hcell k hlt
   have hgz:g<w.heap.size:=Qk hg HF.o.2
   have HCE:Hid (∀W,Tch (λj=>base<=j) w W->∀x,W.cell? ⟨g,x,none⟩=w.cell? ⟨g,x,none⟩):=λW hT x=>hT.cell (p:=⟨g,x,none⟩) hgz (λe=>by simp only at e;omega)
   have q0:=(HCE.o wr HT.o (o+k * 4)).trans d0
   have q1:=(HCE.o wr HT.o (o+k * 4+1)).trans d1
   have q2:=(HCE.o wr HT.o (o+k * 4+2)).trans d2
   have q3:=(HCE.o wr HT.o (o+k * 4+3)).trans d3
   have hlti:(k:Int)<(script.length:Int):=by omega
   have HPL:Hid (Yl base w va script[k].pays):=hpl
   have HPK:Hid (∀p∈script[k].pays,p.Ok):=HPO.o _ (Qx hlt)
   have HABk:Hid ((-9223372036854775808<=script[k].a/\script[k].a<9223372036854775808)/\(-9223372036854775808<=script[k].b/\script[k].b<9223372036854775808)):=HAB.o _ (Qx hlt)
   obtain ⟨vp0,vp1,hvp⟩:∃x y,va=.slice x script[k].pays.length y:=(hpl.at HF.o.2).shape
   subst hvp
   clear hcell d0 d1 d2 d3 hpl
   have HLT:Hid (k<script.length):=hlt
   have hkb:k<2097152:=by have:=HN.o;omega
   generalize script[k].kind=kd at *
   generalize script[k].a=sa at *
   generalize script[k].b=sb at *
   generalize script[k].pays=ps at *
   obtain ⟨W,hW⟩:∃W,W=wr.alloc (.cells #[.int .i64 kd,.int .i64 sa,.int .i64 sb,.slice vp0 ps.length vp1] 31):=⟨_,rfl⟩
   have tA:Tch NoB wr W:=by rw [hW];exact Ta _ _ _
   have hrow:W.heap[wr.heap.size]? =some (.cells #[.int .i64 kd,.int .i64 sa,.int .i64 sb,.slice vp0 ps.length vp1] 31):=by rw [hW];exact Qf _ _
   have HBX:Hid (∀(S:Nat->Prop) V,Tch S W V->¬S wr.heap.size->V.cell? ⟨wr.heap.size,0,none⟩=some (.int .i64 kd)/\V.cell? ⟨wr.heap.size,1,none⟩=some (.int .i64 sa)/\V.cell? ⟨wr.heap.size,2,none⟩=some (.int .i64 sb)/\V.cell? ⟨wr.heap.size,3,none⟩=some (.slice vp0 ps.length vp1)):=λS V hT hs=>by
    have:=(hT.block _ (Jb hrow) hs).trans hrow
    exact ⟨Ja this,Ja this,Ja this,Ja this⟩
   have HTA:Hid (Tch NoB wr W):=tA
   have HW:Hid (W=_):=hW
   obtain ⟨b0,b1,b2,b3⟩:=HBX.o NoB W (Te _ _) (λh=>h)
   clear tA hrow hW hlt
   by_cases hk2:kd=2
   ·subst hk2
    clear b1 b2 b3
    go_upto_region 8 with fail
    rw [<-HW.o]
    go_wp2
    go_roundw
    case rel=>exact ⟨k+1,F,ch,vst,sl,states,HLT.o,by go_num,HS.o.next HTA.o,HT.o.trans HTA.o noE,⟨by have:=HL.o.1;omega,λl hl=>by have:=HL.o.2 l hl;omega⟩⟩
    case measure=>have:=HLT.o;simp [intOf];omega
   ·by_cases hk1:kd=1
    ·subst hk1
     have HDO:Hid (Calls prog 20 #[.pointer (some ⟨xb,0,none⟩),.agg #[.int .i64 1,.int .i64 sa,.int .i64 sb,.slice vp0 ps.length vp1]] W λe w'=>e=.returned (.bool true)/\∃V,Tch NoB W V/\∃F' ch' vst' sl' states',JS L w' xb lb F' 0 ch' vst' sl' states'/\Tch (λj=>F j\/j=xb\/some j=vst.ownBlock) V w'/\states'.length<=states.length+1/\∀l∈states',∃l0∈states,l.length<=l0.length+9):=by
      refine JjL xb sa sb vp0 ps.length vp1 (λV w'=>∃F' ch' vst' sl' states',JS L w' xb lb F' 0 ch' vst' sl' states'/\Tch (λj=>F j\/j=xb\/some j=vst.ownBlock) V w'/\states'.length<=states.length+1/\∀l∈states',∃l0∈states,l.length<=l0.length+9) (λV hT=>?_)
      have hTV:Tch (λj=>base<=j) w V:=(HT.o.trans HTA.o noE).trans hT noE
      have hbV:base<=V.heap.size:=Qm HF.o.2 hTV.size
      refine (JkX L hw1 hw xb lb F 0 ch vst sl states _ ps V (HF.o.1.tch hTV (λ_ h=>h)) ((HS.o.next HTA.o).next hT) ((HPL.o.tch HF.o.2 hTV (λ_ h=>h)).at hbV) HPK.o (λl hl=>by have:=HL.o.2 l hl;have:=HN.o;omega) (by have:=HS.o.len;have:=HL.o.1;have:=HN.o;omega)).mono ?_
      rintro e w' ⟨he,F',ch',vst',sl',states',g1,g2,_,_,g5,g6⟩
      exact ⟨he,F',ch',vst',sl',states',g1,g2,g5,g6⟩
     go_upto_region 8 with fail
     rw [<-HW.o]
     go_wp2_with fail
     refine HDO.o.mono ?_
     rintro _ w2 ⟨rfl,V,hTV,F2,ch2,vst2,sl2,states2,hS2,hT2,hl2,hh2⟩
     have hT2W:Tch (λj=>F j\/j=xb\/some j=vst.ownBlock) W w2:=(hTV.mono noE).trans hT2 (λ_ h=>.inl h)
     have hns:¬(F wr.heap.size\/wr.heap.size=xb\/some wr.heap.size=vst.ownBlock):=λh=>by
      rcases h with h | h | h
      ·have:=(L.own HS.o.led _ h).2;omega
      ·have:=(Jb HS.o.row);omega
      ·have:=(HS.o.st.own _ h.symm).2;omega
     obtain ⟨e0,e1,e2,e3⟩:=HBX.o _ w2 hT2W hns
     have HS2:Hid (JS L w2 xb lb F2 0 ch2 vst2 sl2 states2):=hS2
     have HT2:Hid (Tch (λj=>base<=j) w w2):=(HT.o.trans HTA.o noE).trans hT2W (λj hj=>.inl (by
      rcases hj with h | rfl | h
      ·exact (L.own HS.o.led j h).1
      ·exact HS.o.low
      ·exact (HS.o.st.own j h.symm).1))
     have HL2:Hid (states2.length<=1+2 * (k+1)/\∀l∈states2,l.length<=3+9 * (k+1)):=⟨by have:=HL.o.1;omega,λl hl=>by obtain ⟨l0,h0,h1⟩:=hh2 l hl;have:=HL.o.2 l0 h0;omega⟩
     clear b0 b1 b2 b3 e1 e2 e3 hS2 hT2 hl2 hh2 hT2W hns hTV HDO
     go_wp2
     go_roundw
     case rel=>exact ⟨k+1,F2,ch2,vst2,sl2,states2,HLT.o,by go_num,HS2,HT2,HL2⟩
     case measure=>have:=HLT.o;simp [intOf];omega
    ·have HDO:Hid (Calls prog 20 #[.pointer (some ⟨xb,0,none⟩),.agg #[.int .i64 kd,.int .i64 sa,.int .i64 sb,.slice vp0 ps.length vp1]] W λe w'=>e=.returned (.bool true)/\Tch NoB W w'):=JjK xb kd sa sb vp0 ps.length vp1 hk1 hk2
     go_upto_region 8 with fail
     rw [<-HW.o]
     go_wp2_with fail
     refine HDO.o.mono ?_
     rintro _ w2 ⟨rfl,ht2⟩
     have HT2:Hid (Tch NoB wr w2):=HTA.o.go ht2
     obtain ⟨e0,e1,e2,e3⟩:=HBX.o _ w2 ht2 (λh=>h)
     clear b0 b1 b2 b3 ht2 HDO
     by_cases hk3:kd=3
     ·subst hk3
      have hF2:Xa E base w2:=HFr.o.tch HT2.o noE
      have hS2:=HS.o.next HT2.o
      obtain ⟨A1,A2,_⟩:=Jc8 L HQ.o hw1 hw hF2 hS2 HLL.o
      obtain ⟨va,vc,_,x2,_⟩:=hS2.len2
      have hsp:0<states.length:=by have:=HS.o.len;omega
      have hsb:states.length<9223372036854775808:=by have:=HLL.o.1;omega
      have HCO:Hid (∀V,Tch NoB w2 V->Calls prog 23 #[.pointer (some ⟨xb,0,none⟩),.int .i64 sb] V λe w'=>Tch NoB V w'/\∃(s:BA) (N:Int),Jk wd (s,N)/\e=.returned (.agg #[.string s,.int .i64 N])):=λV hT=>A1 V sb hT HABk.o.2.1 HABk.o.2.2
      have HSW:Hid (∀V (n:Nat) (s:BA) (N:Int),Tch NoB w2 V->n<states.length->Jk wd (s,N)->Calls prog 21 #[.pointer (some ⟨xb,0,none⟩),.int .i64 (n:Int),.agg #[.string s,.int .i64 N]] V λe w'=>e=.returned (.bool true)/\Tch NoB V w'):=A2
      have HPI:Hid (∀V,Calls prog 22 #[.int .i64 sa,.int .i64 (states.length:Int)] V λe w'=>(∃r:Nat,r<states.length/\e=.returned (.int .i64 (r:Int)))/\w'=V):=λV=>Jap sa states.length V HABk.o.1.1 HABk.o.1.2 hsp hsb
      have hb2:=Qr _ _ e1
      have hx2:=Qr _ _ x2
      have HCC:Hid (∀V,Tch NoB w2 V->V.cell? ⟨xb,2,none⟩=some (.slice va states.length vc)/\V.cell? ⟨wr.heap.size,1,none⟩=some (.int .i64 sa)/\V.cell? ⟨wr.heap.size,2,none⟩=some (.int .i64 sb)):=λV hT=>⟨(hT.cell hx2 (λh=>h)).trans x2,(hT.cell hb2 (λh=>h)).trans e1,(hT.cell (Qr _ _ e2) (λh=>h)).trans e2⟩
      clear hF2 hS2 A1 A2 hb2 hx2 e3
      obtain ⟨sn,hsn⟩:∃sn,states.length=sn:=⟨_,rfl⟩
      rw [hsn] at HSW HPI HCC x2 hsp hsb
      clear hsn
      go_upto_region 11 with fail
      go_cut [10] (λv wx=>v=.bool true/\Hid (Tch NoB w2 wx))
      case first=>
       go_region_held3 (λV=>V.cell? ⟨xb,2,none⟩=some (.slice va sn vc)/\V.cell? ⟨wr.heap.size,1,none⟩=some (.int .i64 sa)/\V.cell? ⟨wr.heap.size,2,none⟩=some (.int .i64 sb)) (go_keep) ((first
        | (go_at_call 22;refine (HPI.o _).mono ?_;rintro _ X ⟨⟨r,hr,rfl⟩,hX⟩;rw [hX];clear hX X;have HR:Hid (r<sn):=hr;clear hr)
        | (go_at_call 23;refine (HCO.o _ (Td _ w2 1)).mono ?_;rintro _ w3 ⟨ht3,s3,N3,hc3,rfl⟩;have HT3:Hid (Tch NoB w2 w3):=(Td NoB w2 1).go ht3;have HOK3:Hid (Jk wd (s3,N3)):=hc3;obtain ⟨f0,f1,f2⟩:=HCC.o _ HT3.o;clear ht3 hc3)
        | (go_at_call 21;refine (HSW.o _ _ _ _ HT3.o HR.o HOK3.o).mono ?_;rintro _ w4 ⟨rfl,ht4⟩;have HT4:Hid (Tch NoB w2 w4):=HT3.o.go ht4;obtain ⟨h0,h1,h2⟩:=HCC.o _ HT4.o;clear ht4)))
       all_goals
        go_wp2
        go_meet
        exact ⟨rfl,HT4⟩
      case rest=>
      obtain ⟨rfl,HTC⟩:=hcut
      obtain ⟨w5,hw5⟩:∃w5,w5=wc:=⟨wc,rfl⟩
      subst hw5
      have HT5:Hid (Tch NoB wr w5):=HT2.o.go HTC.o
      clear HCO HSW HPI HCC x2 e0 e1 e2
      go_wp2
      go_roundw
      case rel=>exact ⟨k+1,F,ch,vst,sl,states,HLT.o,by go_num,HS.o.next HT5.o,HT.o.trans HT5.o noE,⟨by have:=HL.o.1;omega,λl hl=>by have:=HL.o.2 l hl;omega⟩⟩
      case measure=>have:=HLT.o;simp [intOf];omega
     ·go_wp2
      go_roundw
      case rel=>exact ⟨k+1,F,ch,vst,sl,states,HLT.o,by go_num,HS.o.next HT2.o,HT.o.trans HT2.o noE,⟨by have:=HL.o.1;omega,λl hl=>by have:=HL.o.2 l hl;omega⟩⟩
      case measure=>have:=HLT.o;simp [intOf];omega
  ·have hge:¬(k:Int)<(script.length:Int):=by omega
   obtain ⟨A1,A2,A3⟩:=Jc8 L HQ.o hw1 hw HFr.o HS.o HLL.o
   obtain ⟨va,vc,_,x2,x0⟩:=HS.o.len2
   have hsp:0<states.length:=by have:=HS.o.len;omega
   have hsb:states.length<=1000000000:=HLL.o.1
   have HCO:Hid (∀V,Tch NoB wr V->Calls prog 23 #[.pointer (some ⟨xb,0,none⟩),.int .i64 0] V λe w'=>Tch NoB V w'/\∃(s:BA) (N:Int),Jk wd (s,N)/\e=.returned (.agg #[.string s,.int .i64 N])):=λV hT=>A1 V 0 hT (by omega) (by omega)
   have HSW:Hid (∀V (s:BA) (N:Int),Tch NoB wr V->Jk wd (s,N)->Calls prog 21 #[.pointer (some ⟨xb,0,none⟩),.int .i64 0,.agg #[.string s,.int .i64 N]] V λe w'=>e=.returned (.bool true)/\Tch NoB V w'):=λV s N hT hc=>A2 V 0 s N hT hsp hc
   have HQ1:Hid (∀V (s:BA) (N:Int),Tch NoB wr V->Calls prog 24 #[.pointer (some ⟨lb,0,none⟩),.int .i64 (states.length:Int),.agg #[.string s,.int .i64 N]] V λe w'=>e=.returned (.tuple #[.string ⟨#[]⟩,.int .i64 7])/\Tch NoB V w'):=λV s N hT=>A3 V _ s N hT (by omega)
   have HQ2:Hid (∀V (s:BA) (N:Int),Tch NoB wr V->Calls prog 24 #[.pointer (some ⟨lb,0,none⟩),.int .i64 (-1),.agg #[.string s,.int .i64 N]] V λe w'=>e=.returned (.tuple #[.string ⟨#[]⟩,.int .i64 7])/\Tch NoB V w'):=λV s N hT=>A3 V (-1) s N hT (by omega)
   have hx2:=Qr _ _ x2
   have HCC:Hid (∀V,Tch NoB wr V->V.cell? ⟨xb,2,none⟩=some (.slice va states.length vc)/\V.cell? ⟨xb,0,none⟩=some (.pointer (some ⟨lb,0,none⟩))):=λV hT=>⟨(hT.cell hx2 (λh=>h)).trans x2,(hT.cell (Qr _ _ x0) (λh=>h)).trans x0⟩
   obtain ⟨sn,hsn⟩:∃sn,states.length=sn:=⟨_,rfl⟩
   rw [hsn] at HQ1 HCC x2 hsp hsb
   clear hsn A1 A2 A3 hx2 hlt
   go_upto_region 14 with fail
   go_cut [12] (λv12 wx=>v12=.int .i64 7/\Hid (Tch NoB wr wx))
   case first=>
    go_region_held3 (λV=>V.cell? ⟨xb,2,none⟩=some (.slice va sn vc)/\V.cell? ⟨xb,0,none⟩=some (.pointer (some ⟨lb,0,none⟩))) (go_keep) ((first
     | (go_at_call 23;refine (HCO.o _ (Td _ wr 1)).mono ?_;rintro _ w3 ⟨ht3,s3,N3,hc3,rfl⟩;have HT3:Hid (Tch NoB wr w3):=(Td NoB wr 1).go ht3;obtain ⟨f0,f1⟩:=HCC.o _ HT3.o;clear ht3 hc3)
     | (go_at_call 24;refine (HQ1.o _ _ _ HT3.o).mono ?_;rintro _ w4 ⟨rfl,ht4⟩;have HT4:Hid (Tch NoB wr w4):=HT3.o.go ht4;obtain ⟨h0,h1⟩:=HCC.o _ HT4.o;clear ht4)))
    all_goals
     go_wp2
     go_meet
     exact ⟨rfl,HT4⟩
   case rest=>
   obtain ⟨rfl,HT5⟩:=hcut
   obtain ⟨w5,hw5⟩:∃w5,w5=wc:=⟨wc,rfl⟩
   subst hw5
   clear x2 x0 HQ1
   obtain ⟨x2,x0⟩:=HCC.o w5 HT5.o
   go_upto_region 15 with fail
   go_cut [14] (λv14 wx=>v14=.int .i64 7/\Hid (Tch NoB wr wx))
   case first=>
    go_region_held3 (λV=>V.cell? ⟨xb,0,none⟩=some (.pointer (some ⟨lb,0,none⟩))) (go_keep) ((first
     | (go_at_call 23;refine (HCO.o _ (HT5.o.go (Td _ w5 1))).mono ?_;rintro _ w6 ⟨ht6,s6,N6,hc6,rfl⟩;have HT6:Hid (Tch NoB wr w6):=(HT5.o.go (Td NoB w5 1)).go ht6;obtain ⟨f0,f1⟩:=HCC.o _ HT6.o;clear ht6 hc6)
     | (go_at_call 24;refine (HQ2.o _ _ _ HT6.o).mono ?_;rintro _ w7 ⟨rfl,ht7⟩;have HT7:Hid (Tch NoB wr w7):=HT6.o.go ht7;obtain ⟨h0,h1⟩:=HCC.o _ HT7.o;clear ht7)))
    all_goals
     go_wp2
     go_meet
     exact ⟨rfl,HT7⟩
   case rest=>
   obtain ⟨rfl,HT8⟩:=hcut
   obtain ⟨w8,hw8⟩:∃w8,w8=wc:=⟨wc,rfl⟩
   subst hw8
   clear x2 x0 HQ2 HCC HT5
   go_wp2_with fail
   refine (HCO.o w8 HT8.o).mono ?_
   rintro _ w9 ⟨ht9,s9,N9,hc9,rfl⟩
   have HT9:Hid (Tch NoB wr w9):=HT8.o.go ht9
   have HOK9:Hid (Jk wd (s9,N9)):=hc9
   clear ht9 hc9 HCO
   go_wp2_with fail
   refine (HSW.o w9 s9 N9 HT9.o HOK9.o).mono ?_
   rintro _ wA ⟨rfl,htA⟩
   have HTA:Hid (Tch (λj=>base<=j) w wA):=(HT.o.trans HT9.o noE).trans htA noE
   clear htA HSW
   go_wp2
   go_ret
   exact ⟨rfl,HTA.o⟩
