import Derived.Test.YtighkdnooglfjaaGreatDoorOcKOi
namespace Go.Proofs.YtighkdnooglfjaaGreatDoor
open Go.Proofs.Tryz
set_option maxRecDepth 100000
set_option maxHeartbeats 4000000
open Go.RowKit

theorem JfK {base:Nat} {w:World} (hb:base<=w.heap.size) (g:List UInt8):XD base (((w.alloc (.cells #[.int .i64 ((logB g []).length:Int)] 3)).alloc (.cells #[.int .i64 0] 3)).alloc (.cells #[.int .i64 0] 3)) (.slice (some ⟨w.heap.size,0,none⟩) 1 1) (.slice (some ⟨w.heap.size+1,0,none⟩) 1 1) (.slice (some ⟨w.heap.size+1+1,0,none⟩) 1 1) (YM g []) (YO []) (flsL []):=by
 have z1:(w.alloc (.cells #[.int .i64 ((logB g []).length:Int)] 3)).heap.size=w.heap.size+1:=by simp
 have a1:=IOwn.one (w:=w) (logB g []).length hb
 have a2:=IOwn.one (base:=base) (w:=w.alloc (.cells #[.int .i64 ((logB g []).length:Int)] 3)) 0 (by omega)
 have a3:=IOwn.one (base:=base) (w:=(w.alloc (.cells #[.int .i64 ((logB g []).length:Int)] 3)).alloc (.cells #[.int .i64 0] 3)) 0 (by simp;omega)
 have z2:((w.alloc (.cells #[.int .i64 ((logB g []).length:Int)] 3)).alloc (.cells #[.int .i64 0] 3)).heap.size=w.heap.size+1+1:=by simp
 rw [z1] at a2
 rw [z2] at a3
 refine ⟨(a1.tch (Ta NoB _ _) (λ_ _ h=>h)).tch (Ta NoB _ _) (λ_ _ h=>h),a2.tch (Ta NoB _ _) (λ_ _ h=>h),a3,?_,?_,?_⟩
 all_goals
  intro j h1 h2
  simp only [Value.ownBlock,Qh] at h1 h2
  omega
theorem Jla {E:Nat->Addr} {base:Nat} (c:Int) (v1 v2:Value) (first:List (Nat×Nat)) (script:List Jcn) (cut coin:Int) (w:World) (hF:JT E base w) (hb:base<=w.heap.size) (h1:Jo base w v1 first) (ho:∀o∈first,Jr o) (hc1: -9223372036854775808<=c) (hc2:c<9223372036854775808)
  (h2:Jae base w v2 script) (hpo:∀s∈script,∀p∈s.pays,p.Ok) (hab:∀s∈script,(-9223372036854775808<=s.a/\s.a<9223372036854775808)/\(-9223372036854775808<=s.b/\s.b<9223372036854775808)) (hn:script.length<=2097152) (hcut: -9223372036854775808<=cut/\cut<9223372036854775808) (hcoin: -9223372036854775808<=coin/\coin<9223372036854775808):
  Calls prog 11 #[.int .i64 c,v1,v2,.int .i64 cut,.int .i64 coin] w λe w'=>e=.returned (.bool true)/\Tch (λj=>base<=j) w w':=by
 have HSH:Hid (Calls prog 14 #[.int .i64 c,v1] w (Jja (Jd8 E base) w)):=Jmx (Jd8 E base) c base v1 first w hF hb h1 ho hc1 hc2
 obtain ⟨a1,n1,rfl⟩:=h1.shape
 obtain ⟨a2,n2,rfl⟩:=h2.shape
 have HF:Hid (JT E base w/\base<=w.heap.size):=⟨hF,hb⟩
 have HST:Hid (Jae base w (.slice a2 script.length n2) script):=h2
 have HPO:Hid (∀s∈script,∀p∈s.pays,p.Ok):=hpo
 have HAB:Hid (∀s∈script,(-9223372036854775808<=s.a/\s.a<9223372036854775808)/\(-9223372036854775808<=s.b/\s.b<9223372036854775808)):=hab
 have HN:Hid (script.length<=2097152):=hn
 have HCU:Hid ((-9223372036854775808<=cut/\cut<9223372036854775808)/\(-9223372036854775808<=coin/\coin<9223372036854775808)):=⟨hcut,hcoin⟩
 clear hF hb h1 ho h2 hpo hn hab hcut hcoin
 go_enter func11,ntmps11
 go_wp2_with fail
 refine HSH.o.mono ?_
 rintro e w1 ⟨ht1,wd,xb,lb,F1,ch1,vst1,sl1,states1,hw1,hw,rfl,hS,hl1,hl3⟩
 have HT1:Hid (Tch (λj=>base<=j) w w1):=ht1.mono noE
 obtain ⟨outs,st,hA⟩:=hS.led
 have hLE:Xd E base wd outs st [] w1 xb lb F1 0 ch1 vst1 sl1 states1:=⟨hS.led_to hA,by have:=hS.len;rw [this.2.1,hl1];rfl⟩
 have HS1:Hid (Xd E base wd outs st [] w1 xb lb F1 0 ch1 vst1 sl1 states1):=hLE
 have HL1:Hid (states1.length=1/\∀l∈states1,l.length<=3):=⟨hl1,hl3⟩
 have x0:w1.cell? ⟨xb,0,none⟩=some (.pointer (some ⟨lb,0,none⟩)):=Ja hS.row
 clear ht1 hS hl1 hl3 HSH hA hLE
 go_wp2_with fail
 refine HS1.o.log.mono ?_
 rintro _ w2 ⟨rfl,ht2⟩
 have hbw2:base<=w2.heap.size:=Qm HF.o.2 (Qm HT1.o.size ht2.size)
 obtain ⟨W,hW⟩:∃(W:World),W=((w2.alloc (.cells #[.int .i64 ((logB (Jf wd outs) []).length:Int)] 3)).alloc (.cells #[.int .i64 0] 3)).alloc (.cells #[.int .i64 0] 3):=⟨_,rfl⟩
 have HR3:Hid (XD base W (.slice (some ⟨w2.heap.size,0,none⟩) 1 1) (.slice (some ⟨w2.heap.size+1,0,none⟩) 1 1) (.slice (some ⟨w2.heap.size+1+1,0,none⟩) 1 1) (YM (Jf wd outs) []) (YO []) (flsL [])):=by
  rw [hW]
  exact JfK hbw2 _
 have HTW:Hid (Tch NoB w1 W):=ht2.go (by rw [hW];exact (Tch.allocs _ _ _ _).go (Ta _ _ _))
 have hsz:(⟨(logB (Jf wd outs) []).toArray⟩:BA).size=(logB (Jf wd outs) []).length:=Ju _
 have HW:Hid (W=_):=hW
 clear ht2 hbw2 hW x0
 go_upto_region 8 with fail
 rw [<-HW.o]
 clear hsz
 go_loopw [12,13,14,15] (λv12 v13 v14 i wr=>∃(k:Nat) (evs:List Ev) (F:Nat->Prop) (fl:Nat) (ch:Ch) (vst:Value) (sl:List Sl) (states:List (List Held)),k<=script.length/\i=.int .i64 (k:Int)/\Hid (Xd E base wd outs st evs wr xb lb F fl ch vst sl states)/\Hid (XD base wr v12 v13 v14 (YM (Jf wd outs) evs) (YO evs) (flsL evs))/\Hid (Tch (λj=>base<=j) w wr)/\Hid (states.length<=1+2 * k/\(∀l∈states,l.length<=3+9 * k)/\evs.length<=k)) (λ_ _ _ i _=>script.length - (intOf i).toNat)
 case atStart=>exact ⟨0,[],F1,0,ch1,vst1,sl1,states1,by omega,rfl,HS1.o.next HTW.o,HR3,HT1.o.trans HTW.o noE,⟨by have:=HL1.o.1;omega,λl hl=>by have:=HL1.o.2 l hl;omega,Ql _⟩⟩
 case round=>
  obtain ⟨k,evs,F,fl,ch,vst,sl,states,hk,rfl,HS,HR,HT,HL⟩:=hrel
  have HFr:Hid (JT E base wr):=HF.o.1.tch HT.o (λ_ h=>h)
  have HLL:Hid (states.length<=1000000000/\∀l∈states,l.length<1000000000):=⟨by have:=HL.o.1;have:=HN.o;omega,λl hl=>by have:=HL.o.2.1 l hl;have:=HN.o;omega⟩
  by_cases hlt:k<script.length
  ·rcases HST.o with ⟨_,e2⟩ | ⟨g,o,cc,e,hg,hcell⟩
   ·rw [e2] at hlt;simp at hlt
   simp only [Qy,true_and] at e
   obtain ⟨rfl,rfl⟩:=e
   obtain ⟨va,hpl,d0,d1,d2,d3⟩:=hcell k hlt
   have hgz:g<w.heap.size:=Qk hg HF.o.2
   have HCE:Hid (∀W,Tch (λj=>base<=j) w W->∀x,W.cell? ⟨g,x,none⟩=w.cell? ⟨g,x,none⟩):=λW hT x=>hT.cell (p:=⟨g,x,none⟩) hgz (λe=>by simp only at e;omega)
   have q0:=(HCE.o wr HT.o (o+k * 4)).trans d0
   have q1:=(HCE.o wr HT.o (o+k * 4+1)).trans d1
   have q2:=(HCE.o wr HT.o (o+k * 4+2)).trans d2
   have q3:=(HCE.o wr HT.o (o+k * 4+3)).trans d3
   have hlti:(k:Int)<(script.length:Int):=by omega
   have HPL:Hid (Yx base w va script[k].pays):=hpl
   have HPK:Hid (∀p∈script[k].pays,p.Ok):=HPO.o _ (Qx hlt)
   have HABk:Hid ((-9223372036854775808<=script[k].a/\script[k].a<9223372036854775808)/\(-9223372036854775808<=script[k].b/\script[k].b<9223372036854775808)):=HAB.o _ (Qx hlt)
   obtain ⟨vp0,vp1,hvp⟩:∃x y,va=.slice x script[k].pays.length y:=(hpl.at HF.o.2).shape
   subst hvp
   have HD0:Hid (∀W,Tch (λj=>base<=j) w W->W.cell? ⟨g,o+k * 4,none⟩=some (.int .i64 script[k].kind)):=λW hT=>(HCE.o W hT _).trans d0
   clear hcell d0 d1 d2 d3 hpl
   have HLT:Hid (k<script.length):=hlt
   have hkb:k<2097152:=by have:=HN.o;omega
   obtain ⟨vx,vc,hvx,x2,x0⟩:=HS.o.shop.len2
   have HVG:Hid (∃gx,vst=.slice vx states.length vc/\vx=some ⟨gx,0,none⟩/\states.length<=vc):=by
    have hl:=HS.o.shop.len
    obtain ⟨_,⟨e,h0⟩ | ⟨gx,cap,cur,e,_,_,h3,_⟩⟩:=HS.o.shop.st
    ·first | omega | (rw [h0] at hl;simp at hl;omega)
    ·rw [hvx] at e
     simp only [Qy] at e
     exact ⟨gx,hvx,e.1,by rw [e.2.2];omega⟩
   have hsz2:states.length<=1000000000:=HLL.o.1
   have hslb:states.length=blks evs+1:=by have:=HS.o.shop.len;have:=HS.o.len;omega
   have HSL:Hid (states.length=blks evs+1):=hslb
   generalize script[k].kind=kd at *
   generalize script[k].a=sa at *
   generalize script[k].b=sb at *
   generalize script[k].pays=ps at *
   clear hlt hslb
   have HDO:Hid (Calls prog 20 #[.pointer (some ⟨xb,0,none⟩),.agg #[.int .i64 kd,.int .i64 sa,.int .i64 sb,.slice vp0 ps.length vp1]] wr (DoTo E base wd outs st evs kd xb lb F vst states wr)):=Jk9 hw1 hw HFr.o HS.o ⟨by have:=HL.o.1;have:=HN.o;omega,λl hl=>by have:=HL.o.2.1 l hl;have:=HN.o;omega,by have:=HL.o.2.2;have:=HN.o;omega⟩ kd sa sb HABk.o.1.1 HABk.o.1.2 ps vp0 vp1 (λV hT=>(HPL.o.tch HF.o.2 (HT.o.trans hT noE) (λ_ h=>h)).at (Qm HF.o.2 (HT.o.trans hT noE).size)) HPK.o
   obtain ⟨sn,hsn⟩:∃sn,states.length=sn:=⟨_,rfl⟩
   rw [hsn] at x2 hsz2
   have HSN:Hid (states.length=sn):=hsn
   clear hsn hvx
   go_wp2_with fail
   refine HDO.o.mono ?_
   rintro _ w2' ⟨rfl,evs2,F2,fl2,ch2,vst2,sl2,states2,hS2,hT2,hl2,hh2,hcs⟩
   have hTB:Tch (λj=>base<=j) w w2':=HT.o.trans hT2 (λj hj=>.inl (by
    rcases hj with h | rfl | h
    ·exact ((Xg E base wd outs st evs (flos evs)).own HS.o.shop.led j h).1
    ·exact HS.o.shop.low
    ·exact (HS.o.shop.st.own j h.symm).1))
   have hR2:XD base w2' _ _ _ _ _ _:=HR.o.tch hT2 (λj cs m hr hj=>by
    rcases hj with h | rfl | h
    ·exact HS.o.noInt j h cs m hr
    ·have:=HS.o.shop.row;rw [hr] at this;simp at this
    ·obtain ⟨cs2,m2,hr2⟩:=HS.o.shop.st.kind j h.symm;rw [hr] at hr2;simp at hr2)
   obtain ⟨vx2,vc2,hvx2,y2,y0⟩:=hS2.shop.len2
   have y3:w2'.cell? ⟨xb,3,none⟩=some (.int .i64 (fl2:Int)):=Ja hS2.shop.row
   have e0:=HD0.o w2' hTB
   have HS2:Hid (Xd E base wd outs st evs2 w2' xb lb F2 fl2 ch2 vst2 sl2 states2):=hS2
   have hvst0:=hvx2
   have HTB:Hid (Tch (λj=>base<=j) w w2'):=hTB
   have HR2:Hid (XD base w2' _ _ _ _ _ _):=hR2
   have HL2:Hid (states2.length<=1+2 * (k+1)/\(∀l∈states2,l.length<=3+9 * (k+1))):=⟨by have:=HL.o.1;omega,λl hl=>by obtain ⟨l0,h0,h1⟩:=hh2 l hl;have:=HL.o.2.1 l0 h0;omega⟩
   have hs2b:states2.length<=1000000000:=by have:=HL.o.1;have:=HN.o;omega
   have HEV:Hid (evs.length<=k):=HL.o.2.2
   rw [HSN.o] at hcs
   clear hS2 hT2 hl2 hh2 hTB hR2 hvx2 q0 q1 q2 q3 x2 x0 HDO HS HR HT HL HFr HLL HCE HD0 HPL HPK HABk HSL HSN
   rcases hcs with ⟨rfl,hq,hk2⟩ | ⟨ev,rfl,hfl,hq⟩
   ·clear hvst0
    have HQ:Hid (states2.length=sn):=hq
    obtain ⟨sn2,hsn2⟩:∃sn2,states2.length=sn2:=⟨_,rfl⟩
    rw [hsn2] at y2 hs2b hq
    subst hq
    clear hsn2
    have hgt:¬((sn2:Int)<(sn2:Int)):=by omega
    go_wp2
    go_roundw
    case rel=>exact ⟨k+1,evs2,F2,fl2,ch2,vst2,sl2,states2,HLT.o,by go_num,HS2,HR2,HTB,⟨HL2.o.1,HL2.o.2,by have:=HEV.o;omega⟩⟩
    case measure=>have:=HLT.o;simp [intOf];omega
   ·obtain ⟨sn2,hsn2⟩:∃sn2,states2.length=sn2:=⟨_,rfl⟩
    obtain ⟨bb,hbb⟩:∃bb,blks (evs++[ev])=bb:=⟨_,rfl⟩
    have hsb:sn2=bb+1:=by have:=HS2.o.len;have:=HS2.o.shop.len;omega
    obtain ⟨L,hL⟩:∃L,(logB (Jf wd outs) (evs++[ev])).length=L:=⟨_,rfl⟩
    obtain ⟨T,hTx⟩:∃T:BA,T=⟨(logB (Jf wd outs) (evs++[ev])).toArray⟩:=⟨_,rfl⟩
    have hTs:T.size=L:=by rw [hTx,Ju,hL]
    have HLG:Hid (∀V,Tch NoB w2' V->Calls prog 31 #[.pointer (some ⟨lb,0,none⟩)] V λe w'=>e=.returned (.string T)/\Tch NoB V w'):=λV hT=>by rw [hTx];exact (HS2.o.next hT).log
    have HEX:Hid (YM (Jf wd outs) (evs++[ev])=YM (Jf wd outs) evs++[L]/\YO (evs++[ev])=YO evs++[bb]/\flsL (evs++[ev])=flsL evs++[fl2]):=⟨by rw [Jgf,hL],by rw [JgX,hbb],by rw [JhY,<-hfl]⟩
    have HQ:Hid (sn<states2.length\/kd=2):=hq
    have HSB:Hid (states2.length=sn2/\sn2=bb+1):=⟨hsn2,hsb⟩
    rw [hsn2] at y2 hs2b hvst0
    have hvst:vst2=.slice vx2 sn2 vc2:=hvst0
    have HVS:Hid (vst2=.slice vx2 sn2 vc2):=hvst
    clear hvst hvst0
    have hw1':wrap64 ((sn2:Int) - 1)=(bb:Int):=by simp only [wrap64];omega
    have hw2':IntKind.i64.wrap ((sn2:Int) - 1)=(bb:Int):=by simp [IntKind.wrap,IntKind.bits,IntKind.signed];omega
    have HEL:Hid (evs.length<=2097152):=by have:=HEV.o;have:=HN.o;show evs.length<=_;omega
    have hbw:base<=w2'.heap.size:=Qm HF.o.2 HTB.o.size
    have HBW:Hid (base<=w2'.heap.size):=hbw
    have HTS:Hid (T.size=L):=hTs
    clear hsn2 hbb hsb hL hTx hfl hbw hq
    go_upto_region 14 with fail
    go_cut [86] (λv wx=>v=.bool true/\wx=w2')
    case first=>
     rcases HQ.o with h | rfl
     ·have hgt:(sn:Int)<(sn2:Int):=by have:=HSB.o.1;omega
      go_wp2
      go_meet
      exact ⟨rfl,rfl⟩
     ·by_cases hgt:(sn:Int)<(sn2:Int)
      ·go_wp2
       go_meet
       exact ⟨rfl,rfl⟩
      ·go_wp2
       go_meet
       exact ⟨rfl,rfl⟩
    case rest=>
    obtain ⟨rfl,hwc⟩:=hcut
    obtain rfl:w2'=wc:=hwc.symm
    clear hwc
    go_wp2_with fail
    refine (HLG.o _ (Te _ _)).mono ?_
    rintro _ w3 ⟨rfl,ht3⟩
    have hA3:=ht3.go (Ta NoB w3 (.cells #[.int .i64 (L:Int)] 3))
    have HA:Hid (Xd E base wd outs st (evs++[ev]) (w3.alloc (.cells #[.int .i64 (L:Int)] 3)) xb lb F2 fl2 ch2 vst2 sl2 states2/\XD base (w3.alloc (.cells #[.int .i64 (L:Int)] 3)) u12 u13 u14 (YM (Jf wd outs) evs) (YO evs) (flsL evs)/\Tch (λj=>base<=j) w (w3.alloc (.cells #[.int .i64 (L:Int)] 3))/\base<=(w3.alloc (.cells #[.int .i64 (L:Int)] 3)).heap.size):=⟨HS2.o.next hA3,HR2.o.tch hA3 (λ_ _ _ _ h=>h),HTB.o.trans hA3 noE,Qm HBW.o hA3.size⟩
    have HC3:Hid ((w3.alloc (.cells #[.int .i64 (L:Int)] 3)).cell? ⟨w3.heap.size,0,none⟩=some (.int .i64 (L:Int))):=Ja (Qf _ _)
    clear hA3 ht3 HLG y0 y2 y3 HS2 HR2 HTB HBW HQ e0
    go_upto_region 16 with (at_builtin;refine Yk rfl _ _ rfl rfl HA.o.2.1.o1 w3.heap.size L rfl HC3.o (by have:=HEL.o;simp [YM];omega) HA.o.2.2.2 ?_;intro v4 w4 hown4 hg4 hn4;obtain ⟨k1,k2,k3,k4,k5⟩:=Jcp HA.o.1 HA.o.2.1 hown4 hg4 hn4;have HS4:Hid (Xd _ _ _ _ _ _ w4 _ _ _ _ _ _ _ _):=k1;have HR4:Hid (XD _ w4 _ _ _ _ _ _):=k2;have HT4:Hid (Tch (λj=>base<=j) w w4):=HA.o.2.2.1.trans k3 (λ_ h=>.inl h);have HB4:Hid (base<=w4.heap.size):=Qm HA.o.2.2.2 k3.size;rw [HVS.o] at k4;clear hown4 hg4 hn4 k1 k2 k3)
    have hA4:=Ta NoB w4 (.cells #[.int .i64 (bb:Int)] 3)
    have HA4:Hid (Xd E base wd outs st (evs++[ev]) (w4.alloc (.cells #[.int .i64 (bb:Int)] 3)) xb lb F2 fl2 ch2 vst2 sl2 states2/\XD base (w4.alloc (.cells #[.int .i64 (bb:Int)] 3)) _ _ _ _ _ _/\Tch (λj=>base<=j) w (w4.alloc (.cells #[.int .i64 (bb:Int)] 3))/\base<=(w4.alloc (.cells #[.int .i64 (bb:Int)] 3)).heap.size):=⟨HS4.o.next hA4,HR4.o.tch hA4 (λ_ _ _ _ h=>h),HT4.o.trans hA4 noE,Qm HB4.o hA4.size⟩
    have HC4:Hid ((w4.alloc (.cells #[.int .i64 (bb:Int)] 3)).cell? ⟨w4.heap.size,0,none⟩=some (.int .i64 (bb:Int))):=Ja (Qf _ _)
    clear hA4 HS4 HR4 HT4 HB4
    go_upto_region 17 with (at_builtin;refine Yk rfl _ _ rfl rfl HA4.o.2.1.o1 w4.heap.size bb rfl HC4.o (by have:=HEL.o;simp [YO];omega) HA4.o.2.2.2 ?_;intro v5 w5 hown4 hg4 hn4;obtain ⟨k1,k2,k3,k4,k5⟩:=Jcp HA4.o.1 HA4.o.2.1 hown4 hg4 hn4;have HS5:Hid (Xd _ _ _ _ _ _ w5 _ _ _ _ _ _ _ _):=k1;have HR5:Hid (XD _ w5 _ _ _ _ _ _):=k2;have HT5:Hid (Tch (λj=>base<=j) w w5):=HA4.o.2.2.1.trans k3 (λ_ h=>.inl h);have HB5:Hid (base<=w5.heap.size):=Qm HA4.o.2.2.2 k3.size;rw [HVS.o] at k4;clear hown4 hg4 hn4 k1 k2 k3)
    have hA5:=Ta NoB w5 (.cells #[.int .i64 (fl2:Int)] 3)
    have HA5:Hid (Xd E base wd outs st (evs++[ev]) (w5.alloc (.cells #[.int .i64 (fl2:Int)] 3)) xb lb F2 fl2 ch2 vst2 sl2 states2/\XD base (w5.alloc (.cells #[.int .i64 (fl2:Int)] 3)) _ _ _ _ _ _/\Tch (λj=>base<=j) w (w5.alloc (.cells #[.int .i64 (fl2:Int)] 3))/\base<=(w5.alloc (.cells #[.int .i64 (fl2:Int)] 3)).heap.size):=⟨HS5.o.next hA5,HR5.o.tch hA5 (λ_ _ _ _ h=>h),HT5.o.trans hA5 noE,Qm HB5.o hA5.size⟩
    have HC5:Hid ((w5.alloc (.cells #[.int .i64 (fl2:Int)] 3)).cell? ⟨w5.heap.size,0,none⟩=some (.int .i64 (fl2:Int))):=Ja (Qf _ _)
    clear hA5 HS5 HR5 HT5 HB5
    go_wp2_with (at_builtin;refine Yk rfl _ _ rfl rfl HA5.o.2.1.o1 w5.heap.size fl2 rfl HC5.o (by have:=HEL.o;simp [flsL];omega) HA5.o.2.2.2 ?_;intro v6 w6 hown4 hg4 hn4;obtain ⟨k1,k2,k3,k4,k5⟩:=Jcp HA5.o.1 HA5.o.2.1 hown4 hg4 hn4;have HS6:Hid (Xd _ _ _ _ _ _ w6 _ _ _ _ _ _ _ _):=k1;have HR6:Hid (XD _ w6 _ _ _ _ _ _):=k2;have HT6:Hid (Tch (λj=>base<=j) w w6):=HA5.o.2.2.1.trans k3 (λ_ h=>.inl h);have HB6:Hid (base<=w6.heap.size):=Qm HA5.o.2.2.2 k3.size;rw [HVS.o] at k4;clear hown4 hg4 hn4 k1 k2 k3)
    go_roundw
    case rel=>exact ⟨k+1,evs++[ev],F2,fl2,ch2,vst2,sl2,states2,HLT.o,by go_num,HS6,by rw [HEX.o.1,HEX.o.2.1,HEX.o.2.2];exact HR6,HT6,⟨HL2.o.1,HL2.o.2,by have:=HEV.o;rw [Qe];simp;omega⟩⟩
    case measure=>have:=HLT.o;simp [intOf];omega
  ·have hge:¬(k:Int)<(script.length:Int):=by omega
   obtain ⟨hBg,hHist⟩:=HS.o.hist
   obtain ⟨G,hG⟩:∃G,G=Jf wd outs:=⟨_,rfl⟩
   have hgl:G.length<65536:=by rw [hG];have:=JaS wd outs hBg.three;omega
   rw [<-hG] at HR
   have HLG:Hid (∀V,Tch NoB wr V->Calls prog 31 #[.pointer (some ⟨lb,0,none⟩)] V λe w'=>e=.returned (.string ⟨(logB G evs).toArray⟩)/\Tch NoB V w'):=λV hT=>by rw [hG];exact (HS.o.next hT).log
   obtain ⟨g1,c1,hv1,hc1⟩:=HR.o.o1.at (by simp [YM])
   obtain ⟨g2,c2,hv2,hc2⟩:=HR.o.o2.at (by simp [YO])
   obtain ⟨g3,c3,hv3,hc3⟩:=HR.o.o3.at (by simp [flsL])
   rw [show (YM G evs).length=evs.length+1 by simp [YM]] at hv1
   rw [show (YO evs).length=evs.length+1 by simp [YO]] at hv2
   rw [show (flsL evs).length=evs.length+1 by simp [flsL]] at hv3
   obtain ⟨N,hN⟩:∃N,evs.length=N:=⟨_,rfl⟩
   rw [hN] at hv1 hv2 hv3
   subst hv1 hv2 hv3
   obtain ⟨vx,vc,hvx,x2,x0⟩:=HS.o.shop.len2
   have HVG:Hid (∃gx,vst=.slice vx states.length vc/\vx=some ⟨gx,0,none⟩/\states.length<=vc):=by
    have hl:=HS.o.shop.len
    obtain ⟨_,⟨e,h0⟩ | ⟨gx,cap,cur,e,_,_,h3,_⟩⟩:=HS.o.shop.st
    ·first | omega | (rw [h0] at hl;simp at hl;omega)
    ·rw [hvx] at e
     simp only [Qy] at e
     exact ⟨gx,hvx,e.1,by rw [e.2.2];omega⟩
   have x1:wr.cell? ⟨xb,1,none⟩=some (.int .i64 (wd:Int)):=Ja HS.o.shop.row
   obtain ⟨P,hP⟩:∃P:Nat->Nat,P=endE G evs:=⟨_,rfl⟩
   obtain ⟨Q1,hQ1⟩:∃Q1:Nat->Nat,Q1=λj=>blks (evs.take j):=⟨_,rfl⟩
   obtain ⟨Q2,hQ2⟩:∃Q2:Nat->Nat,Q2=λj=>floE (evs.take j):=⟨_,rfl⟩
   have HC:Hid (∀V,Tch NoB wr V->(V.cell? ⟨xb,0,none⟩=some (.pointer (some ⟨lb,0,none⟩))/\V.cell? ⟨xb,1,none⟩=some (.int .i64 (wd:Int))/\V.cell? ⟨xb,2,none⟩=some (.slice vx states.length vc))/\∀j,j<=N->V.cell? ⟨g1,j,none⟩=some (.int .i64 (P j:Int))/\V.cell? ⟨g2,j,none⟩=some (.int .i64 (Q1 j:Int))/\V.cell? ⟨g3,j,none⟩=some (.int .i64 (Q2 j:Int))):=λV hT=>by
    refine ⟨⟨(hT.cell (Qr _ _ x0) (λh=>h)).trans x0,(hT.cell (Qr _ _ x1) (λh=>h)).trans x1,(hT.cell (Qr _ _ x2) (λh=>h)).trans x2⟩,λj hj=>?_⟩
    obtain ⟨a1,a2⟩:=JhQ G evs j (by omega)
    obtain ⟨b1,b2⟩:=JiP evs j (by omega)
    obtain ⟨d1,d2⟩:=JjJ evs j (by omega)
    have e1:=hc1 j a1
    have e2:=hc2 j b1
    have e3:=hc3 j d1
    rw [a2] at e1
    rw [b2] at e2
    rw [d2] at e3
    rw [hP,hQ1,hQ2]
    exact ⟨(hT.cell (Qr _ _ e1) (λh=>h)).trans e1,(hT.cell (Qr _ _ e2) (λh=>h)).trans e2,(hT.cell (Qr _ _ e3) (λh=>h)).trans e3⟩
   obtain ⟨M,hM⟩:∃M,(logB G evs).length=M:=⟨_,rfl⟩
   have hPM:∀j,P j<=M:=λj=>by rw [hP,<-hM];unfold endE;rw [JaL G evs j,Qe];omega
   have hP0:1<=P 0:=by rw [hP];unfold endE logB;rw [Qe,Yg];omega
   have hMB:M<=5000000000000:=by
    have h1:=HS.o.logLen
    rw [<-hG,hM] at h1
    have h2:=HS.o.shop.len
    have h3:=HL.o
    have h4:=HN.o
    have h5:=Zi evs
    omega
   obtain ⟨T,hT⟩:∃T:BA,T=⟨(logB G evs).toArray⟩:=⟨_,rfl⟩
   have hTs:T.size=M:=by rw [hT,Ju,hM]
   have HTX:Hid (∀j,T.extract 0 j=⟨((logB G evs).take j).toArray⟩):=λj=>by rw [hT,Jc4]
   rw [<-hT] at HLG
   have HM:Hid ((∀j,P j<=M)/\1<=P 0/\M<=5000000000000):=⟨hPM,hP0,hMB⟩
   have HPE:Hid (P=endE G evs/\Q1=(λj=>blks (evs.take j))/\Q2=(λj=>floE (evs.take j))/\evs.length=N/\(logB G evs).length=M/\T=⟨(logB G evs).toArray⟩/\G=Jf wd outs):=⟨hP,hQ1,hQ2,hN,hM,hT,hG⟩
   have HGL:Hid (G.length<65536):=hgl
   have HBH:Hid (Ji2 wd outs st/\Hist wd (c0O wd outs st) evs ch fl):=⟨hBg,hHist⟩
   have HVX:Hid (vst=.slice vx states.length vc):=hvx
   have HTS:Hid (T.size=M):=hTs
   obtain ⟨p0,hp0⟩:∃p0,P 0=p0:=⟨_,rfl⟩
   have HP0:Hid (P 0=p0):=hp0
   have HPK:Hid (∀V z,z=((M - p0+1:Nat):Int)->Calls prog 22 #[.int .i64 cut,.int .i64 z] V λe w'=>(∃r:Nat,r<M - p0+1/\e=.returned (.int .i64 (r:Int)))/\w'=V):=λV z hz=>by rw [hz];exact ZN cut (M - p0+1) V HCU.o.1.1 HCU.o.1.2 (by omega) (by omega)
   have HPK0:Hid (∀V,Calls prog 22 #[.int .i64 cut,.int .i64 (p0:Int)] V λe w'=>(∃r:Nat,r<p0/\e=.returned (.int .i64 (r:Int)))/\w'=V):=λV=>ZN cut p0 V HCU.o.1.1 HCU.o.1.2 (by omega) (by have:=hPM 0;omega)
   have hp1:1<=p0/\p0<=M:=⟨by omega,by rw [<-hp0];exact hPM 0⟩
   clear hBg hHist hgl hG hc1 hc2 hc3 hvx x2 x1 hP hQ1 hQ2 hPM hP0 hM hT hN hp0
   go_wp2_with fail
   refine (HLG.o wr (Te _ _)).mono ?_
   rintro _ wA ⟨rfl,htA⟩
   have HTA:Hid (Tch NoB wr wA):=htA
   obtain ⟨⟨a0,a1,a2⟩,aE⟩:=HC.o wA htA
   have e0:=(aE 0 (Nat.zero_le _)).1
   rw [HP0.o] at e0
   have l1:¬((p0:Int)<1):=by omega
   have l2:¬((M:Int)<(p0:Int)):=by omega
   have l3:¬((N:Int)+1<=0):=by omega
   have l4:(0:Int)<(N:Int)+1:=by omega
   clear aE htA HLG x0
   go_upto_region 21 with fail
   go_cut [19] (λv wx=>∃n:Nat,v=.int .i64 (n:Int)/\Hid (p0<=n/\n<=M)/\Hid (Tch NoB wr wx))
   case first=>
    go_region_held3 (λV=>V.cell? ⟨g1,0,none⟩=some (.int .i64 (p0:Int))) (go_keep) ((first
     | (go_at_call 22;refine (HPK.o _ _ (by simp [IntKind.wrap,IntKind.bits,IntKind.signed];omega)).mono ?_;rintro _ X ⟨⟨r,hr,rfl⟩,hX⟩;rw [hX];clear hX X;have HR9:Hid (r<M - p0+1):=hr;have hadd:IntKind.i64.wrap ((p0:Int)+(r:Int))=((p0+r:Nat):Int):=(by simp [IntKind.wrap,IntKind.bits,IntKind.signed];omega);clear hr)))
    all_goals
     go_wp2
     go_meet
     exact ⟨p0+r,rfl,⟨by omega,by have:=HR9.o;omega⟩,HTA.o.go (Td _ _ _)⟩
   case rest=>
   obtain ⟨n,rfl,HNN,HTB⟩:=hcut
   obtain ⟨wB,hwB⟩:∃wB,wB=wc:=⟨wc,rfl⟩
   subst hwB
   clear a0 a1 a2 e0 l1 l2
   obtain ⟨wX,hwX⟩:∃wX,wX=wr:=⟨wr,rfl⟩
   subst hwX
   obtain ⟨⟨a0,a1,a2⟩,aE⟩:=HC.o wB HTB.o
   have HAE:Hid (∀j,j<=N->wB.cell? ⟨g1,j,none⟩=some (.int .i64 (P j:Int))):=λj hj=>(aE j hj).1
   have hNb:N<=10000000:=by have:=HPE.o.2.2.2.1;have:=HL.o.2.2;have:=HN.o;omega
   clear aE a0 a1 a2
   go_wp2
   go_loopw [20] (λv wy=>∃kk:Nat,kk<=N/\v=.int .i64 (kk:Int)/\wy=wB/\Hid (P kk<=n)) (λv _=>N - (intOf v).toNat)
   case atStart=>exact ⟨0,Nat.zero_le _,rfl,rfl,by have:=HNN.o.1;rw [<-HP0.o] at this;exact this⟩
   case round=>
    obtain ⟨kk,hkk,rfl,hwy,HPN⟩:=hrel
    obtain rfl:wB=wr:=hwy.symm
    by_cases hcont:kk<N/\P (kk+1)<=n
    ·obtain ⟨hlt2,hle⟩:=hcont
     have e1:=HAE.o (kk+1) (by omega)
     have m1:(kk:Int)+1<(N:Int)+1:=by omega
     have m2:(P (kk+1):Int)<=(n:Int):=by omega
     have HLE:Hid (kk<N/\P (kk+1)<=n):=⟨hlt2,hle⟩
     clear hle
     go_wp2
     go_roundw
     case rel=>exact ⟨kk+1,HLE.o.1,by go_num,(by first | rfl | trivial),HLE.o.2⟩
     case measure=>have:=HLE.o.1;simp [intOf];omega
    ·go_upto_region 23 with fail
     go_cut [155] (λv wx=>v=.bool false/\wx=wB)
     case first=>
      by_cases hlt2:kk<N
      ·have e1:=HAE.o (kk+1) (by omega)
       have m1:(kk:Int)+1<(N:Int)+1:=by omega
       have m2:¬(P (kk+1):Int)<=(n:Int):=λh=>hcont ⟨hlt2,by omega⟩
       go_wp2
       go_meet
       exact ⟨rfl,rfl⟩
      ·have m1:¬(kk:Int)+1<(N:Int)+1:=by omega
       go_wp2
       go_meet
       exact ⟨rfl,rfl⟩
     case rest=>
     as_aux_lemma=>
     obtain ⟨rfl,hwc⟩:=hcut
     obtain rfl:wB=wc:=hwc.symm
     have HEND:Hid (P kk<=n/\(kk<N->n<P (kk+1))/\kk<=N):=⟨HPN.o,λh=>by
      apply Classical.byContradiction
      intro h2
      exact hcont ⟨h,by omega⟩,hkk⟩
     clear hcont hwc HPN HAE
     obtain ⟨hPe,hQ1e,hQ2e,hNe,hMe,hTe,hGe⟩:=HPE.o
     have hcb:ch.length<=5000000:=by have:=HS.o.shop.len;have:=HL.o.1;have:=HN.o;omega
     have heb:evs.length<=10000000:=by omega
     have hPN:P N=M:=by rw [hPe,<-hNe,<-hMe];unfold endE;rw [List.take_length]
     obtain ⟨chk,flk,hpre,hcl,hfle,hflp,HOP⟩:=JdY HS.o hcb heb kk n (by have:=HEND.o.2.2;omega) (by rw [<-hGe,<-hPe];exact HEND.o.1) (λh=>by rw [<-hGe,<-hPe];exact HEND.o.2.1 (by omega)) (by rw [<-hGe,hMe];exact HNN.o.2)
     obtain ⟨chn,fln,hpre2,hcl2,_,_,HOP2⟩:=JdY HS.o hcb heb N M (by omega) (by rw [<-hGe,<-hPe,hPN];exact Ql _) (λh=>by omega) (by rw [<-hGe,hMe];exact Ql _)
     rw [<-hGe,<-hPe] at HOP HOP2
     obtain ⟨cd,hcd⟩:∃cd:Int,cd=(if n=P kk then 0 else 8):=⟨_,rfl⟩
     have HCD:Hid ((n=P kk/\cd=0)\/(¬n=P kk/\cd=8)):=by
      by_cases h:n=P kk
      ·exact .inl ⟨h,by rw [hcd,if_pos h]⟩
      ·exact .inr ⟨h,by rw [hcd,if_neg h]⟩
     have HO1:Hid (∀V,Tch NoB wX V->Calls prog 32 #[.string (T.extract 0 n)] V λe w'=>Tch NoB V w'/\∃lb' F',e=.returned (.tuple #[.pointer (some ⟨lb',0,none⟩),.int .i64 (P kk:Int),.int .i64 cd])/\(∀j,F' j->V.heap.size<=j)/\HAt wd base outs st (evs.take kk) (flos (evs.take kk)) w' lb' F' flk chk):=λV hT=>by
      rw [HTX.o,hcd]
      exact HOP V hT (HFr.o.tch hT noE) (Qm HF.o.2 (HT.o.trans hT noE).size)
     have HO2:Hid (∀V,Tch NoB wX V->Calls prog 32 #[.string T] V λe w'=>Tch NoB V w'/\∃lb' F',e=.returned (.tuple #[.pointer (some ⟨lb',0,none⟩),.int .i64 (M:Int),.int .i64 0])/\(∀j,F' j->V.heap.size<=j)/\HAt wd base outs st evs (flos evs) w' lb' F' fln chn):=λV hT=>by
      have h:=HOP2 V hT (HFr.o.tch hT noE) (Qm HF.o.2 (HT.o.trans hT noE).size)
      rw [hPN,if_pos rfl,<-hMe,List.take_length,<-hTe,QQ (by omega)] at h
      rw [<-hMe]
      exact h
     have HO0:Hid (∀V (r:Nat),r<p0->Tch NoB wX V->Calls prog 32 #[.string (T.extract 0 r)] V λe w'=>e=.returned (.tuple #[.pointer none,.int .i64 0,.int .i64 1])/\Tch NoB V w'):=λV r hr hT=>by
      rw [HTX.o]
      exact JmP E _ (JhW HGL.o (by rw [<-hPe,HP0.o];exact hr)) (by rw [QB];omega) V (HFr.o.tch hT noE)
     have HKK:Hid (chk <+:ch/\chk.length=blks (evs.take kk)+1/\flk=floE (evs.take kk)/\flk<chk.length/\chn.length=blks evs+1/\P N=M):=⟨hpre,hcl,hfle,hflp,by rw [hcl2,<-hNe,List.take_length],hPN⟩
     have hn1:n<=M:=HNN.o.2
     have hn2:(n:Int)<=(M:Int):=by omega
     have hkN:kk<=N:=HEND.o.2.2
     have hk3:(kk:Int)<(N:Int)+1:=by omega
     clear hPe hQ1e hQ2e hNe hMe hTe hGe hcb heb hPN HOP HOP2 hpre hpre2 hcl hcl2 hfle hflp hcd HTX
     go_wp2_with fail
     refine (HO1.o wB HTB.o).mono ?_
     rintro _ wD ⟨htD,lbA,FA,rfl,hFA,hAA⟩
     have HTD:Hid (Tch NoB wX wD):=HTB.o.go htD
     have HAA:Hid (HAt wd base outs st (evs.take kk) (flos (evs.take kk)) wD lbA FA flk chk):=hAA
     clear htD hFA hAA HO1
     go_wp2_with fail
     refine (HO2.o wD HTD.o).mono ?_
     rintro _ wE ⟨htE,lbB,FB,rfl,hFB,hAB⟩
     have HTE:Hid (Tch NoB wD wE):=htE
     have HAB2:Hid (HAt wd base outs st evs (flos evs) wE lbB FB fln chn):=hAB
     obtain ⟨⟨a0,a1,a2⟩,aE⟩:=HC.o wE (HTD.o.go htE)
     have e0:=(aE 0 (Nat.zero_le _)).1
     rw [HP0.o] at e0
     clear htE hFB hAB HO2 aE a0 a1 a2
     go_wp2_with fail
     refine (HPK0.o _).mono ?_
     rintro _ X ⟨⟨r0,hr0,rfl⟩,hX⟩
     rw [hX]
     clear hX X
     have hr1:r0<=M:=by omega
     go_wp2_with fail
     refine (HO0.o wE r0 hr0 (HTD.o.go HTE.o)).mono ?_
     rintro _ wF ⟨rfl,htF⟩
     have HTF:Hid (Tch NoB wE wF):=htF
     clear htF HO0 HPK0 e0 hr1
     have HTG:Hid (Tch NoB wX wF):=(HTD.o.go HTE.o).go HTF.o
     obtain ⟨⟨a0,a1,a2⟩,aE⟩:=HC.o wF HTG.o
     have ek:=(aE kk hkN).1
     clear aE a0 a1 a2
     go_upto_region 28 with fail
     go_cut [19,23,238] (λ_ _ v wx=>v=.bool false/\wx=wF)
     case first=>
      rcases HCD.o with ⟨hn,hc⟩ | ⟨hn,hc⟩
      ·subst hc
       have hq:(n:Int)=(P kk:Int):=by omega
       rw [hq]
       go_wp2
       go_meet
       exact ⟨rfl,rfl⟩
      ·subst hc
       have hq:¬(n:Int)=(P kk:Int):=by omega
       have hq2:((n:Int) == (P kk:Int))=false:=by simp only [beq_eq_false_iff_ne,ne_eq];exact hq
       go_wp2
       go_meet
       exact ⟨by first | rfl | rw [hq2] | simp [hq],rfl⟩
     case rest=>
     as_aux_lemma=>
     obtain ⟨rfl,hwc⟩:=hcut
     obtain rfl:wF=wc:=hwc.symm
     clear hwc ek HCD
     obtain ⟨hPe,hQ1e,hQ2e,hNe,hMe,hTe,hGe⟩:=HPE.o
     obtain ⟨S2,hS2⟩:∃S2:BA,S2=⟨(logB G (evs.take kk)).toArray⟩:=⟨_,rfl⟩
     have hx2:T.extract 0 (P kk)=S2:=by
      rw [hTe,Jc4,hS2,hPe]
      unfold endE
      rw [JaL G evs kk,List.take_left]
     have hP2:(P kk:Int)<=(M:Int):=by have:=HM.o.1 kk;omega
     have hP3:P kk<=M:=HM.o.1 kk
     have HLA:Hid (∀V,Tch NoB wF V->Calls prog 31 #[.pointer (some ⟨lbA,0,none⟩)] V λe w'=>e=.returned (.string S2)/\Tch NoB V w'):=λV hT=>by
      rw [hS2,hGe]
      exact HAt.log ((Xg E base wd outs st (evs.take kk) (flos (evs.take kk))).keep HAA.o ((HTE.o.go HTF.o).go hT) (λ_ e=>e.elim)) HKK.o.2.1
     have HLB:Hid (∀V,Tch NoB wF V->Calls prog 31 #[.pointer (some ⟨lbB,0,none⟩)] V λe w'=>e=.returned (.string T)/\Tch NoB V w'):=λV hT=>by
      rw [hTe,hGe]
      exact HAt.log ((Xg E base wd outs st evs (flos evs)).keep HAB2.o (HTF.o.go hT) (λ_ e=>e.elim)) HKK.o.2.2.2.2.1
     have HTIA:Hid (∀V,Tch NoB wF V->Calls prog 15 #[.pointer (some ⟨lbA,0,none⟩)] V λe w'=>e=.returned (.int .i64 (Q1 kk:Int))/\Tch NoB V w'):=λV hT=>by
      have h:=Jck wd base (HAt.l ((Xg E base wd outs st (evs.take kk) (flos (evs.take kk))).keep HAA.o ((HTE.o.go HTF.o).go hT) (λ_ e=>e.elim)))
      have e:((chk.length:Int) - 1)=(Q1 kk:Int):=by rw [hQ1e,HKK.o.2.1];simp
      rw [e] at h
      exact h
     have HTIB:Hid (∀V,Tch NoB wF V->Calls prog 15 #[.pointer (some ⟨lbB,0,none⟩)] V λe w'=>e=.returned (.int .i64 ((states.length:Int) - 1))/\Tch NoB V w'):=λV hT=>by
      have h:=Jck wd base (HAt.l ((Xg E base wd outs st evs (flos evs)).keep HAB2.o (HTF.o.go hT) (λ_ e=>e.elim)))
      have e:((chn.length:Int) - 1)=((states.length:Int) - 1):=by
       have h1:=HKK.o.2.2.2.2.1
       have h2:=HS.o.len
       have h3:=HS.o.shop.len
       omega
      rw [e] at h
      exact h
     clear hPe hQ1e hQ2e hNe hMe hTe hGe hS2
     go_wp2_with fail
     refine (HLA.o wF (Te _ _)).mono ?_
     rintro _ wH ⟨rfl,htH⟩
     have HTH:Hid (Tch NoB wF wH):=htH
     clear htH HLA
     go_wp2_with fail
     refine (HLB.o wH HTH.o).mono ?_
     rintro _ wI ⟨rfl,htI⟩
     have HTI:Hid (Tch NoB wF wI):=HTH.o.go htI
     clear htI HLB
     go_wp2_with fail
     refine (HTIB.o wI HTI.o).mono ?_
     rintro _ wJ ⟨rfl,htJ⟩
     have HTJ:Hid (Tch NoB wF wJ):=HTI.o.go htJ
     clear htJ HTIB
     go_wp2_with fail
     refine (HTIA.o wJ HTJ.o).mono ?_
     rintro _ wK ⟨rfl,htK⟩
     have HTK:Hid (Tch NoB wX wK):=HTG.o.go (HTJ.o.go htK)
     have HTFK:Hid (Tch NoB wF wK):=HTJ.o.go htK
     clear htK HTIA
     obtain ⟨⟨a0,a1,a2⟩,aE⟩:=HC.o wK HTK.o
     obtain ⟨_,t1,t2⟩:=aE kk hkN
     clear aE
     subst hx2
     go_upto_region 34 with fail
     go_cut [274] (λv wx=>v=.bool false/\wx=wK)
     case first=>
      have hs1:1<=states.length:=HS.o.shop.len.2.2
      have hs2:states.length<=1000000000:=HLL.o.1
      have hs3:wrap64 ((states.length:Int) - 1)=(states.length:Int) - 1:=by simp only [wrap64];omega
      go_wp2
      go_meet
      exact ⟨rfl,rfl⟩
     case rest=>
     as_aux_lemma=>
     obtain ⟨rfl,hwc⟩:=hcut
     obtain rfl:wK=wc:=hwc.symm
     clear hwc hP2 hP3
     obtain ⟨gx,hvst,hvx,hcap⟩:=HVG.o
     subst hvx
     obtain ⟨hPe,hQ1e,hQ2e,hNe,hMe,hTe,hGe⟩:=HPE.o
     have hq1:chk.length=Q1 kk+1:=by rw [hQ1e,HKK.o.2.1]
     have hq2:flk=Q2 kk:=by rw [hQ2e,HKK.o.2.2.1]
     have hqc:Q1 kk+1<=vc:=by
      have h1:=HKK.o.1.length_le
      have h2:=HS.o.shop.len
      omega
     have hqi:(Q1 kk:Int)+1<=(vc:Int):=by omega
     have hq0:(0:Int)<=(Q1 kk:Int)+1:=by omega
     have hqw:IntKind.i64.wrap ((Q1 kk:Int)+1)=(Q1 kk:Int)+1:=by
      have h1:=HKK.o.1.length_le
      have h2:=HS.o.shop.len
      have h3:=HL.o.1
      have h4:=HN.o
      simp [IntKind.wrap,IntKind.bits,IntKind.signed]
      omega
     have HY:Hid (∀V,Tch NoB wK V->∀W,W=V.alloc (.cells #[.pointer (some ⟨lbA,0,none⟩),.int .i64 (wd:Int),.slice (some ⟨gx,0,none⟩) (Q1 kk+1) vc,.int .i64 (Q2 kk:Int)] 35)->
       (∀U,Tch NoB W U->Calls prog 23 #[.pointer (some ⟨V.heap.size,0,none⟩),.int .i64 coin] U λe w'=>Tch NoB U w'/\∃(s:BA) (N:Int),Jn wd (s,N)/\e=.returned (.agg #[.string s,.int .i64 N]))/\
       (∀U (s:BA) (N:Int),Tch NoB W U->Jn wd (s,N)->Calls prog 21 #[.pointer (some ⟨V.heap.size,0,none⟩),.int .i64 (Q1 kk:Int),.agg #[.string s,.int .i64 N]] U λe w'=>e=.returned (.bool true)/\Tch NoB U w')/\
       (∀U (h:Int) (s:BA) (N:Int),Tch NoB W U->h<(Q2 kk:Int)->Calls prog 24 #[.pointer (some ⟨lbA,0,none⟩),.int .i64 h,.agg #[.string s,.int .i64 N]] U λe w'=>e=.returned (.tuple #[.string ⟨#[]⟩,.int .i64 7])/\Tch NoB U w')):=λV hT W hW=>by
      rw [<-hq1,<-hq2] at hW
      have hV:=HTK.o.go hT
      have hS2:=HS.o.next hV
      rw [hvst] at hS2
      obtain ⟨B1,B2,B3⟩:=Jfy hw1 hw hS2 ((Xg E base wd outs st (evs.take kk) (flos (evs.take kk))).keep HAA.o ((HTE.o.go HTF.o).go (HTFK.o.go hT)) (λ_ e=>e.elim)) HKK.o.1 HKK.o.2.2.2.1 (Qm HF.o.2 (Qm HT.o.size hV.size)) (HFr.o.tch hV noE) HLL.o W hW
      refine ⟨λU hU=>B1 U coin hU HCU.o.2.1 HCU.o.2.2,λU s N hU hc=>B2 U (Q1 kk) s N hU hq1.symm hc,λU h s N hU hh=>B3 U h s N hU (by rw [hq2];exact hh)⟩
     clear hPe hQ1e hQ2e hNe hMe hTe hGe hq1 hq2 hvst hcap
     go_upto_region 36 with fail
     go_cut [34] (λv wx=>∃V,v=.pointer (some ⟨V.heap.size,0,none⟩)/\Hid (Tch NoB wK V)/\Hid (wx=V.alloc (.cells #[.pointer (some ⟨lbA,0,none⟩),.int .i64 (wd:Int),.slice (some ⟨gx,0,none⟩) (Q1 kk+1) vc,.int .i64 (Q2 kk:Int)] 35)))
     case first=>
      go_region_held3 (λV=>V.cell? ⟨xb,1,none⟩=some (.int .i64 (wd:Int))/\V.cell? ⟨xb,2,none⟩=some (.slice (some ⟨gx,0,none⟩) states.length vc)/\V.cell? ⟨g2,kk,none⟩=some (.int .i64 (Q1 kk:Int))/\V.cell? ⟨g3,kk,none⟩=some (.int .i64 (Q2 kk:Int))) (go_keep) (fail)
      all_goals
       go_wp2
       go_meet
       exact ⟨wK.drewN 1,rfl,Td _ _ _,rfl⟩
     case rest=>
     as_aux_lemma=>
     obtain ⟨V,rfl,HTV,HWV⟩:=hcut
     obtain ⟨wV,hwV⟩:∃wV,wV=wc:=⟨wc,rfl⟩
     subst hwV
     obtain ⟨C1,C2,C3⟩:=HY.o V HTV.o wV HWV.o
     have HC1:Hid (∀_,_):=C1
     have HC2:Hid (∀_,_):=C2
     have HC3:Hid (∀_,_):=C3
     have HTW2:Hid (Tch NoB wK wV):=HTV.o.go (by rw [HWV.o];exact Ta _ _ _)
     have HQB:Hid (Q2 kk<=1000000000):=by
      have h1:=HKK.o.1.length_le
      have h2:=HS.o.shop.len
      have h3:=HLL.o.1
      have h4:=HKK.o.2.2.2.1
      have h5:flk=Q2 kk:=by rw [HPE.o.2.2.1,HKK.o.2.2.1]
      show Q2 kk<=1000000000
      omega
     clear C1 C2 C3 a0 a1 a2 t1 t2 HY hq0 hqw hqi hqc
     go_wp2_with fail
     refine (HC1.o wV (Te _ _)).mono ?_
     rintro _ wM ⟨htM,s3,N3,hc3,rfl⟩
     have HOK:Hid (Jn wd (s3,N3)):=hc3
     obtain ⟨wN,hwN⟩:∃(wN:World),wN=wM.alloc (.cells #[.string s3,.int .i64 N3] 49):=⟨_,rfl⟩
     have hrN:wN.heap[wM.heap.size]? =some (.cells #[.string s3,.int .i64 N3] 49):=by rw [hwN];exact Qf _ _
     have tN:Tch NoB wV wN:=htM.go (by rw [hwN];exact Ta _ _ _)
     have HWN:Hid (wN=_):=hwN
     have HTN:Hid (Tch NoB wV wN):=tN
     have HCL:Hid (∀U,Tch NoB wN U->U.cell? ⟨g2,kk,none⟩=some (.int .i64 (Q1 kk:Int))/\U.cell? ⟨g3,kk,none⟩=some (.int .i64 (Q2 kk:Int))/\U.cell? ⟨wM.heap.size,0,none⟩=some (.string s3)/\U.cell? ⟨wM.heap.size,1,none⟩=some (.int .i64 N3)):=λU hT=>by
      have h2:=(hT.block _ (Jb hrN) (λh=>h)).trans hrN
      obtain ⟨_,u⟩:=HC.o U (HTK.o.go (HTW2.o.go (tN.go hT)))
      exact ⟨(u kk hkN).2.1,(u kk hkN).2.2,Ja h2,Ja h2⟩
     clear hc3 htM hwN hrN tN HC1
     go_upto_region 38 with fail
     rw [<-HWN.o]
     obtain ⟨b1,b2,b3,b4⟩:=HCL.o wN (Te _ _)
     go_cut [36] (λv wx=>v=.bool true/\Hid (Tch NoB wN wx))
     case first=>
      go_region_held3 (λU=>U.cell? ⟨g2,kk,none⟩=some (.int .i64 (Q1 kk:Int))/\U.cell? ⟨wM.heap.size,0,none⟩=some (.string s3)/\U.cell? ⟨wM.heap.size,1,none⟩=some (.int .i64 N3)) (go_keep) ((first
       | (go_at_call 21;refine (HC2.o _ _ _ (HTN.o.go (Td _ wN 1)) HOK.o).mono ?_;rintro _ w4 ⟨rfl,ht4⟩;have HT4:Hid (Tch NoB wN w4):=(Td NoB wN 1).go ht4;obtain ⟨d1,d2,d3,d4⟩:=HCL.o _ HT4.o;clear ht4)))
      all_goals
       go_wp2
       go_meet
       exact ⟨rfl,HT4⟩
     case rest=>
     obtain ⟨rfl,HT4⟩:=hcut
     obtain ⟨w4,hw4⟩:∃w4,w4=wc:=⟨wc,rfl⟩
     subst hw4
     clear b1 b2 b3 b4 HC2
     obtain ⟨b1,b2,b3,b4⟩:=HCL.o w4 HT4.o
     go_upto_region 39 with fail
     go_cut [38] (λv wx=>v=.int .i64 7/\Hid (Tch NoB wN wx))
     case first=>
      go_region_held3 (λU=>U.cell? ⟨g3,kk,none⟩=some (.int .i64 (Q2 kk:Int))/\U.cell? ⟨wM.heap.size,0,none⟩=some (.string s3)/\U.cell? ⟨wM.heap.size,1,none⟩=some (.int .i64 N3)) (go_keep) ((first
       | (go_at_call 24;refine (HC3.o _ _ _ _ (HTN.o.go (HT4.o.go (Td _ w4 1))) (by have:=HQB.o;simp [IntKind.wrap,IntKind.bits,IntKind.signed];omega)).mono ?_;rintro _ w5 ⟨rfl,ht5⟩;have HT5:Hid (Tch NoB wN w5):=(HT4.o.go (Td NoB w4 1)).go ht5;obtain ⟨d1,d2,d3,d4⟩:=HCL.o _ HT5.o;clear ht5)))
      all_goals
       go_wp2
       go_meet
       exact ⟨rfl,HT5⟩
     case rest=>
     obtain ⟨rfl,HT5⟩:=hcut
     obtain ⟨w5,hw5⟩:∃w5,w5=wc:=⟨wc,rfl⟩
     subst hw5
     clear b1 b2 b3 b4
     go_wp2
     go_ret
     exact ⟨rfl,HT.o.trans (HTK.o.go (HTW2.o.go (HTN.o.go HT5.o))) noE⟩
