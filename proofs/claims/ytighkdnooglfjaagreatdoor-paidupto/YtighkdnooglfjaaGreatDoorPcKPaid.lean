import Derived.Test.YtighkdnooglfjaaGreatDoorPcKIn
namespace Go.Proofs.YtighkdnooglfjaaGreatDoor
open Go.Proofs.Tryz
set_option maxRecDepth 100000
set_option maxHeartbeats 4000000
open Go.RowKit

theorem Jo.apart {E:Nat->Addr} {wd base:Nat} {L:Led E wd base} {w:World} {xb lb:Nat} {F:Nat->Prop} {fl:Nat} {ch:Ch} {vst:Value} {sl:List Sl} {states:List (List Held)} (h:Jo L w xb lb F fl ch vst sl states):
  ∀j cur T m,w.heap[j]? =some (.cells cur T m)->T=35\/T=43\/T=87->¬F j:=λj cur T m hr hT hF=>by
 obtain ⟨h1,h2,h3⟩:=L.kinds h.led j hF cur T m hr
 rcases hT with hT | hT | hT
 ·exact h1 hT
 ·exact h2 hT
 ·exact h3 hT
theorem Jo.row' {E:Nat->Addr} {wd base:Nat} {L:Led E wd base} {w w':World} {xb lb:Nat} {F:Nat->Prop} {fl:Nat} {ch:Ch} {vst:Value} {sl:List Sl} {states:List (List Held)} (h:Jo L w xb lb F fl ch vst sl states) (k:Tch F w w'):
  w'.heap[xb]? =some (.cells #[.pointer (some ⟨lb,0,none⟩),.int .i64 (wd:Int),vst,.int .i64 (fl:Int)] 35)/\SOwn base w' vst sl/\∀(v:Value) l,Xq w v l->Xq w' v l:=
 ⟨(k.block _ (Jb h.row) (h.apart xb _ _ _ h.row (.inl rfl))).trans h.row,h.st.tch k (λj hj=>by obtain ⟨c,m,hr⟩:=SOwn.kind h.st j hj;exact h.apart j c _ m hr (.inr (.inl rfl))),
  λv l hv=>hv.tch k (λj hj=>by obtain ⟨c,m,hr⟩:=hv.2 j hj;exact h.apart j c _ m hr (.inr (.inr rfl)))⟩
theorem Jo.refused {E:Nat->Addr} {wd base:Nat} {L:Led E wd base} {w w':World} {xb lb:Nat} {F F':Nat->Prop} {fl:Nat} {ch:Ch} {vst:Value} {sl:List Sl} {states:List (List Held)} (h:Jo L w xb lb F fl ch vst sl states) (k:Tch F w w') (hl:L.At w' lb F' fl ch):Jo L w' xb lb F' fl ch vst sl states:=
 ⟨(h.row' k).1,hl,(h.row' k).2.1,h.low,λi x l h1 h2=>(h.row' k).2.2 _ _ (h.held i x l h1 h2),h.len,h.floor,h.book⟩
theorem JcV {E:Nat->Addr} {wd base:Nat} {L:Led E wd base} {w:World} {xb lb:Nat} {F:Nat->Prop} {fl:Nat} {ch:Ch} {vst:Value} {sl:List Sl} {states:List (List Held)} (hS:Jo L w xb lb F fl ch vst sl states) (hF:Xb E base w) (s:BA) (hs:s.size<=1000000) (hc:ch.length<2 ^ 27) (er:Er) (he:JY (dgW wd) wd ch s.data.toList=.error er):
  Calls prog 19 #[.pointer (some ⟨lb,0,none⟩),.string s] w λe w'=>e=.returned (.int .i64 (Xl er))/\∃F',Jo L w' xb lb F' fl ch vst sl states/\Tch (λj=>base<=j) w w':=by
 refine (L.submits s hS.led hF hs hc).mono λe w' k=>?_
 obtain ⟨k1,F',_,k3⟩:=k
 rw [he] at k3
 exact ⟨k3.1,F',hS.refused k1 k3.2,k1.mono (λj hj=>.inl (L.own hS.led j hj).1)⟩
theorem JdY (wd:Nat) (hw:wd<=32) (ch:Ch) (st:Option Tr):1<=(JN (dgW wd) ch [] st).length/\(JN (dgW wd) ch [] st).length<=200:=by
 have sz:∀x:BA,x.data.toList.length=x.size:=λx=>by simp only [QA];rfl
 unfold JN hdrB XQ Jz
 simp only [Qe,Jg,sz,Jm wd hw,Xs (dgW wd) wd (Jm wd hw),List.flatMap_nil,Qv]
 omega
theorem JbG {base:Nat} {ops:Array Oper} {o:Oper} {a:Act} {w:World} {K:Act->World->Prop} {Q:Exit->Act->World->Prop} {E:Prop} (hgd:o.guard=none) (s x:Operand)
  (ho:o.op=.call { callee:=.builtin .append,args:= #[s,x],argTypes:= #[33,33] })
  {v:Value} {l:List Sl} (hv:a.eval s=v) (h:SOwn base w v l) (k:Nat) (y:Sl) (hx:a.eval x=.slice (some ⟨k,0,none⟩) 1 1) (hc:w.cell? ⟨k,0,none⟩=some (.slice y.1 y.2.1 y.2.2)) (hb:l.length<=10000000000) (hbase:base<=w.heap.size)
  (hK:∀v' w',SOwn base w' v' (l++[y])->w.grownBy w' v.ownBlock->K (a.put o.dst v') w'):
  if Region.wanted o (yielded ops a.tmps)=true then Oper.wp prog o a w K Q else E:=by
 have hw:Region.wanted o (yielded ops a.tmps)=true:=by simp [Region.wanted,hgd]
 rw [if_pos hw]
 obtain ⟨v',w',hrun,r,r2⟩:=ZG h k y hc o.type hb hbase
 unfold Oper.wp
 simp [execOp,ho,resolve,invoke,builtin,hv,hx,hrun,Result.andThen]
 exact hK v' w' r r2
theorem JdX (d:List UInt8->BA) (st:Option Tr):JC d st []=.ok st:=rfl
theorem JiJ {E:Nat->Addr} {base:Nat} (M:JeD E base) (c:Int) (v1 v2:Value) (first:List (Nat×Nat)) (script:List Ja7) (w:World) (hF:Xb E base w) (hb:base<=w.heap.size) (h1:Jl base w v1 first) (ho:∀o∈first,Jq o) (hc1: -9223372036854775808<=c) (hc2:c<9223372036854775808)
  (h2:Za base w v2 script) (hpo:∀s∈script,∀p∈s.pays,p.Ok) (hn:script.length<=2097152):
  Calls prog 4 #[.int .i64 c,v1,v2] w λe w'=>e=.returned (.bool true)/\Tch (λj=>base<=j) w w':=by
 have HSH:Hid (Calls prog 14 #[.int .i64 c,v1] w (Jgd M w)):=JiL M c base v1 first w hF hb h1 ho hc1 hc2
 obtain ⟨a1,n1,rfl⟩:=h1.shape
 obtain ⟨a2,n2,rfl⟩:=h2.shape
 have HF:Hid (Xb E base w/\base<=w.heap.size):=⟨hF,hb⟩
 have HST:Hid (Za base w (.slice a2 script.length n2) script):=h2
 have HPO:Hid (∀s∈script,∀p∈s.pays,p.Ok):=hpo
 have HN:Hid (script.length<=2097152):=hn
 clear hF hb h1 ho h2 hpo hn
 go_enter func4,ntmps4
 go_wp2_with fail
 refine HSH.o.mono ?_
 rintro e w1 ⟨ht1,wd,xb,lb,F1,ch1,vst1,sl1,states1,hw1,hw,rfl,hS,hl1,hl3⟩
 have HT1:Hid (Tch (λj=>base<=j) w w1):=ht1.mono noE
 have HS1:Hid (Jo (M.led wd) w1 xb lb F1 0 ch1 vst1 sl1 states1):=hS
 have HL1:Hid (states1.length=1/\∀l∈states1,l.length<=3):=⟨hl1,hl3⟩
 clear ht1 hS hl1 hl3 HSH
 generalize M.led wd=L at *
 go_wp2
 go_loopw [8] (λi wr=>∃(k:Nat) (F:Nat->Prop) (ch:Ch) (vst:Value) (sl:List Sl) (states:List (List Held)),k<=script.length/\i=.int .i64 (k:Int)/\Hid (Jo L wr xb lb F 0 ch vst sl states)/\Hid (Tch (λj=>base<=j) w wr)/\Hid (states.length<=1+2 * k/\∀l∈states,l.length<=3+9 * k)) (λi _=>script.length - (intOf i).toNat)
 case atStart=>exact ⟨0,F1,ch1,vst1,sl1,states1,by omega,rfl,HS1,HT1,⟨by have:=HL1.o.1;omega,λl hl=>by have:=HL1.o.2 l hl;omega⟩⟩
 case round=>
  obtain ⟨k,F,ch,vst,sl,states,hk,rfl,HS,HT,HL⟩:=hrel
  by_cases hlt:k<script.length
  ·rcases HST.o with ⟨_,e2⟩ | ⟨g,o,cc,e,hg,hcell⟩
   ·rw [e2] at hlt;simp at hlt
   simp only [Qy,true_and] at e
   obtain ⟨rfl,rfl⟩:=e
   obtain ⟨va,hpl,d0,_,_,d3⟩:=hcell k hlt
   have hgz:g<w.heap.size:=Qk hg HF.o.2
   have HCE:Hid (∀W,Tch (λj=>base<=j) w W->∀x,W.cell? ⟨g,x,none⟩=w.cell? ⟨g,x,none⟩):=λW hT x=>hT.cell (p:=⟨g,x,none⟩) hgz (λe=>by simp only at e;omega)
   have q0:=(HCE.o wr HT.o (o+k * 4)).trans d0
   have hlti:(k:Int)<(script.length:Int):=by omega
   have HPL:Hid (XU base w va script[k].pays):=hpl
   have HPK:Hid (∀p∈script[k].pays,p.Ok):=HPO.o _ (Qx hlt)
   obtain ⟨vp0,vp1,hvp⟩:∃x y,va=.slice x script[k].pays.length y:=(hpl.at HF.o.2).shape
   subst hvp
   clear hcell d0 hpl
   obtain ⟨kd,hkd⟩:∃kd,kd=script[k].kind:=⟨_,rfl⟩
   rw [<-hkd] at q0
   have HLT:Hid (k<script.length):=hlt
   have hkb:k<2097152:=by have:=HN.o;omega
   clear hkd
   by_cases hk1:kd=1
   case neg=>
    clear d3
    go_wp2
    go_roundw
    case rel=>exact ⟨k+1,F,ch,vst,sl,states,HLT.o,by go_num,HS,HT,⟨by have:=HL.o.1;omega,λl hl=>by have:=HL.o.2 l hl;omega⟩⟩
    case measure=>have:=HLT.o;simp [intOf];omega
   case pos=>
    subst hk1
    obtain ⟨m,hm⟩:∃m,ch.length=m+1:=⟨ch.length - 1,by have:=HS.o.len;omega⟩
    have hFr:Xb E base wr:=HF.o.1.tch HT.o (λ_ h=>h)
    have HTIP:Hid (Calls prog 15 #[.pointer (some ⟨lb,0,none⟩)] wr λe w'=>e=.returned (.int .i64 (m:Int))/\Tch NoB wr w'):=(L.tip HS.o.led hFr).mono λe w' k=>⟨by rw [k.1,hm];congr 2;omega,k.2⟩
    have c0:wr.cell? ⟨xb,0,none⟩=some (.pointer (some ⟨lb,0,none⟩)):=Ja HS.o.row
    have hml:m<4194305:=by have:=HS.o.len;have:=HL.o.1;have:=HN.o;omega
    have HM:Hid (ch.length=m+1/\m<4194305):=⟨hm,hml⟩
    clear hm hFr hml
    go_wp2_with fail
    refine HTIP.o.mono ?_
    rintro _ w2 ⟨rfl,ht2⟩
    have HS2:Hid (Jo L w2 xb lb F 0 ch vst sl states):=HS.o.next ht2
    have HT2:Hid (Tch (λj=>base<=j) w w2):=HT.o.trans ht2 noE
    have HHD:Hid (Calls prog 16 #[.pointer (some ⟨lb,0,none⟩),.int .i64 (m:Int)] w2 λe w'=>e=.returned (.tuple #[.string (ZC ch (m:Int)),.int .i64 0])/\Tch NoB w2 w'):=by
     have:=L.header (m:Int) HS2.o.led (HF.o.1.tch HT2.o (λ_ h=>h)) (by omega) (by have:=HM.o;omega)
     rw [if_pos ⟨by omega,by have:=HM.o;omega⟩] at this
     exact this
    have c2:w2.cell? ⟨xb,0,none⟩=some (.pointer (some ⟨lb,0,none⟩)):=Ja HS2.o.row
    generalize hhx:ZC ch (m:Int)=hx at *
    have HHX:Hid (ZC ch (m:Int)=hx):=hhx
    clear hhx ht2 HTIP c0 q0
    go_wp2_with fail
    refine HHD.o.mono ?_
    rintro _ w3 ⟨rfl,ht3⟩
    have HS3:Hid (Jo L w3 xb lb F 0 ch vst sl states):=HS2.o.next ht3
    have HT3:Hid (Tch (λj=>base<=j) w w3):=HT2.o.trans ht3 noE
    have q3:=(HCE.o w3 HT3.o (o+k * 4+3)).trans d3
    have hb3:base<=w3.heap.size:=Qm HF.o.2 HT3.o.size
    have HPY:Hid (Calls prog 17 #[.pointer (some ⟨xb,0,none⟩),.slice vp0 script[k].pays.length vp1] w3 (Jgc L w3 xb lb F 0 ch vst states)):=
     JiK L hw1 hw xb lb F 0 ch vst sl states _ script[k].pays w3 (HF.o.1.tch HT3.o (λ_ h=>h)) HS3.o ((HPL.o.tch HF.o.2 HT3.o (λ_ h=>h)).at hb3) HPK.o (λl hl=>by have:=HL.o.2 l hl;have:=HN.o;omega) (by have:=HM.o;omega)
    clear ht3 HHD c2 d3 hb3
    go_wp2_with fail
    refine HPY.o.mono ?_
    rintro _ w4 ⟨rfl,F4,ch4,vst4,sl4,states4,hS4,hT4,_,⟨rr,hr4⟩,hl4,hh4⟩
    have HS4:Hid (Jo L w4 xb lb F4 0 ch4 vst4 sl4 states4):=hS4
    have HT4:Hid (Tch (λj=>base<=j) w w4):=HT3.o.trans hT4 (λj hj=>.inl (by
     rcases hj with h | rfl | h
     ·exact (L.own HS3.o.led j h).1
     ·exact HS3.o.low
     ·exact (HS3.o.st.own j h.symm).1))
    have HL4:Hid (states4.length<=2+2 * k/\∀l∈states4,l.length<=3+9 * (k+1)):=⟨by have:=HL.o.1;omega,λl hl=>by obtain ⟨l0,h0,h1⟩:=hh4 l hl;have:=HL.o.2 l0 h0;omega⟩
    have HR4:Hid (ch4=ch++rr):=hr4
    clear hS4 hT4 hr4 hl4 hh4 HPY q3 HS3 HS2 HT3 HT2 HS HT
    obtain ⟨m4,hm4⟩:∃m4,ch4.length=m4+1:=⟨ch4.length - 1,by have:=HS4.o.len;omega⟩
    have HM4:Hid (ch4.length=m4+1/\sl4.length=m4+1/\states4.length=m4+1/\m4<5000000/\m<=m4):=by
     have h1:=HS4.o.len
     have h2:=HL4.o.1
     have h3:=HN.o
     have h4:=HLT.o
     have h5:=congrArg List.length HR4.o
     rw [Qe] at h5
     have h6:=HM.o
     exact ⟨hm4,by omega,by omega,by omega,by omega⟩
    clear hm4
    have hF4:Xb E base w4:=HF.o.1.tch HT4.o (λ_ h=>h)
    have hsq:=JcU (dgW wd) wd (Jm wd hw) ch4 (by have:=HM4.o;omega) [] (λt ht=>(QD ht).elim) (by simp)
    rw [JdX] at hsq
    dsimp only at hsq
    obtain ⟨st,hst⟩:∃st,st=ch4.last.2:=⟨_,rfl⟩
    rw [<-hst] at hsq
    obtain ⟨bl,hbl⟩:∃bl,bl=JN (dgW wd) ch4 [] st:=⟨_,rfl⟩
    rw [<-hbl] at hsq
    obtain ⟨b,hbb⟩:∃b:BA,b=⟨bl.toArray⟩:=⟨_,rfl⟩
    have hb0:=JdY wd hw ch4 st
    rw [<-hbl] at hb0
    have hbz:b.size=bl.length:=by rw [hbb,JB]
    have hbd:b.data.toList=bl:=by rw [hbb]
    have HSE:Hid (Calls prog 18 #[.pointer (some ⟨lb,0,none⟩),.slice none 0 0] w4 λe w'=>Tch NoB w4 w'/\e=.returned (.tuple #[.string b,.int .i64 0])):=by
     have:=L.seals (.slice none 0 0) [] HS4.o.led hF4 ⟨[],.inl ⟨rfl,rfl⟩,rfl,λj x t h=>by simp at h⟩ (λt ht=>(QD ht).elim) (by simp) (by have:=HM4.o;omega)
     rw [hsq] at this
     rw [hbb]
     exact this
    have HB:Hid (b.data.toList=bl/\bl=JN (dgW wd) ch4 [] st/\st=ch4.last.2/\b.size=bl.length/\1<=bl.length/\bl.length<=200):=⟨hbd,hbl,hst,hbz,hb0.1,hb0.2⟩
    have hbn:¬(b.size:Int)=0:=by omega
    have c4:w4.cell? ⟨xb,0,none⟩=some (.pointer (some ⟨lb,0,none⟩)):=Ja HS4.o.row
    clear hF4 hsq hst hbl hbb hb0 hbz hbd
    go_wp2_with fail
    refine HSE.o.mono ?_
    rintro _ w5 ⟨ht5,rfl⟩
    have HS5:Hid (Jo L w5 xb lb F4 0 ch4 vst4 sl4 states4):=HS4.o.next ht5
    have HT5:Hid (Tch (λj=>base<=j) w w5):=HT4.o.trans ht5 noE
    clear ht5 HSE c4 HS4 HT4
    go_upto_region 14 with fail
    obtain ⟨bc1,hbc1⟩:∃bc1:BA,bc1=⟨(bl.take (bl.length - 1)).toArray⟩:=⟨_,rfl⟩
    have hcut1:b.extract 0 (b.size - 1)=bc1:=by
     have e:b=⟨bl.toArray⟩:=by rw [<-HB.o.1]
     rw [hbc1,HB.o.2.2.2.1,e,JdQ]
    obtain ⟨bn,hbn1⟩:∃bn,bn=b.size - 1:=⟨_,rfl⟩
    rw [<-hbn1] at hcut1
    have hbz:=HB.o.2.2.2
    have hw86:IntKind.i64.wrap ((b.size:Int) - 1)=(bn:Int):=by simp [IntKind.wrap,IntKind.bits,IntKind.signed];omega
    have hw86b:wrap64 ((b.size:Int) - 1)=(bn:Int):=by unfold wrap64;omega
    have hbnle:bn<=b.size:=by omega
    have HNO1:Hid (∀W,Tch NoB w5 W->Calls prog 19 #[.pointer (some ⟨lb,0,none⟩),.string bc1] W λe w'=>e=.returned (.int .i64 1)/\∃F',Jo L w' xb lb F' 0 ch4 vst4 sl4 states4/\Tch (λj=>base<=j) W w'):=λW hT=>by
     have hs:bc1.size<=1000000:=by rw [hbc1,JB,QB];omega
     have he:JY (dgW wd) wd ch4 bc1.data.toList=.error .form:=by
      have:=JeZ (dgW wd) wd (Jm wd hw) ch4 ch4 (by have:=HM4.o;omega) [] (λt ht=>(QD ht).elim) (by simp) st
      rw [<-HB.o.2.1] at this
      rw [hbc1]
      exact this
     exact JcV (HS5.o.next hT) (HF.o.1.tch (HT5.o.trans hT noE) (λ_ h=>h)) bc1 hs (by have:=HM4.o;omega) .form he
    have c5:w5.cell? ⟨xb,0,none⟩=some (.pointer (some ⟨lb,0,none⟩)):=Ja HS5.o.row
    clear hbz hbn1 hbc1
    go_cut [15] (λv15 wx=>v15=.int .i64 1/\∃F6,Hid (Jo L wx xb lb F6 0 ch4 vst4 sl4 states4)/\Hid (Tch (λj=>base<=j) w wx))
    case first=>
     go_region_held3 (λW=>W.cell? ⟨xb,0,none⟩=some (.pointer (some ⟨lb,0,none⟩))) (go_keep) ((go_at_call 19;refine (HNO1.o w5.drew (Td _ w5 1)).mono ?_;rintro _ w6 ⟨rfl,F6,hS6,hT6⟩;have c6:w6.cell? ⟨xb,0,none⟩=some (.pointer (some ⟨lb,0,none⟩)):=Ja hS6.row;have HS6:Hid (Jo L w6 xb lb F6 0 ch4 vst4 sl4 states4):=hS6;have HT6:Hid (Tch (λj=>base<=j) w w6):=(HT5.o.trans (Td NoB w5 1) noE).trans hT6 (λj hj=>.inl hj);clear hS6 hT6))
     all_goals
      go_wp2
      go_meet
      exact ⟨rfl,F6,HS6,HT6⟩
    case rest=>
    obtain ⟨rfl,F6,HS6,HT6⟩:=hcut
    obtain ⟨w6,hw6⟩:∃w6,w6=wc:=⟨wc,rfl⟩
    subst hw6
    clear HNO1 hw86 hw86b hbnle hcut1 HS5 HT5 c5
    obtain ⟨bm,hbm1,hbm2,hadd⟩:∃bm:BA,bm.size<=1000/\bm.data.toList=bl++[0]/\∀W,(Op.stringOp .add b (⟨#[0]⟩:BA)).run prog W=.ok (.string bm) W:=by
     have hbz:=HB.o.2.2.2
     refine ⟨b++⟨#[0]⟩,by rw [ByteArray.size_append];show b.size+1<=1000;omega,?_,λW=>run_string_add_sum (P:=prog) W _ _ (by show b.size+1<=_;omega)⟩
     rw [<-HB.o.1];simp
    have HNO2:Hid (Calls prog 19 #[.pointer (some ⟨lb,0,none⟩),.string bm] w6 λe w'=>e=.returned (.int .i64 1)/\∃F',Jo L w' xb lb F' 0 ch4 vst4 sl4 states4/\Tch (λj=>base<=j) w6 w'):=by
     have he:JY (dgW wd) wd ch4 bm.data.toList=.error .form:=by
      have:=Jd0 (dgW wd) wd (Jm wd hw) ch4 ch4 (by have:=HM4.o;omega) [] (λt ht=>(QD ht).elim) (by simp) st 0
      rw [<-HB.o.2.1] at this
      rw [hbm2]
      exact this
     exact JcV HS6.o (HF.o.1.tch HT6.o (λ_ h=>h)) bm (by omega) (by have:=HM4.o;omega) .form he
    have c6:w6.cell? ⟨xb,0,none⟩=some (.pointer (some ⟨lb,0,none⟩)):=Ja HS6.o.row
    clear hbm1 hbm2
    go_wp2_with fail
    refine HNO2.o.mono ?_
    rintro _ w7 ⟨rfl,F7,hS7,hT7⟩
    have HS7:Hid (Jo L w7 xb lb F7 0 ch4 vst4 sl4 states4):=hS7
    have HT7:Hid (Tch (λj=>base<=j) w w7):=HT6.o.trans hT7 (λj hj=>.inl hj)
    have c7:w7.cell? ⟨xb,0,none⟩=some (.pointer (some ⟨lb,0,none⟩)):=Ja hS7.row
    have HHD:Hid (Calls prog 16 #[.pointer (some ⟨lb,0,none⟩),.int .i64 (m:Int)] w7 λe w'=>e=.returned (.tuple #[.string hx,.int .i64 0])/\Tch NoB w7 w'):=by
     have:=L.header (m:Int) hS7.led (HF.o.1.tch HT7.o (λ_ h=>h)) (by omega) (by have:=HM4.o;omega)
     rw [if_pos ⟨by omega,by have:=HM4.o;omega⟩] at this
     have eh:ZC ch4 (m:Int)=hx:=by
      rw [<-HHX.o,HR4.o]
      unfold ZC
      rw [if_pos (by omega),if_pos (by omega),Int.toNat_natCast,Qn,Qn,QF (by have:=HM.o;omega)]
     rw [eh] at this
     exact this
    clear hS7 hT7 HNO2 hadd c6 HS6 HT6
    go_wp2_with fail
    refine HHD.o.mono ?_
    rintro _ w8 ⟨rfl,ht8⟩
    have HS8:Hid (Jo L w8 xb lb F7 0 ch4 vst4 sl4 states4):=HS7.o.next ht8
    have HT8:Hid (Tch (λj=>base<=j) w w8):=HT7.o.trans ht8 noE
    have c8:w8.cell? ⟨xb,0,none⟩=some (.pointer (some ⟨lb,0,none⟩)):=Ja HS8.o.row
    have HTIP:Hid (Calls prog 15 #[.pointer (some ⟨lb,0,none⟩)] w8 λe w'=>e=.returned (.int .i64 (m4:Int))/\Tch NoB w8 w'):=(L.tip HS8.o.led (HF.o.1.tch HT8.o (λ_ h=>h))).mono λe w' k=>⟨by rw [k.1,HM4.o.1];congr 2;omega,k.2⟩
    clear ht8 HHD c7 HS7 HT7
    go_wp2_with fail
    refine HTIP.o.mono ?_
    rintro _ w9 ⟨rfl,ht9⟩
    have HS9:Hid (Jo L w9 xb lb F7 0 ch4 vst4 sl4 states4):=HS8.o.next ht9
    have HT9:Hid (Tch (λj=>base<=j) w w9):=HT8.o.trans ht9 noE
    have c9:w9.cell? ⟨xb,0,none⟩=some (.pointer (some ⟨lb,0,none⟩)):=Ja HS9.o.row
    obtain ⟨gs,cap,hvs,hcl⟩:=HS9.o.st.at (by intro h;have:=HM4.o.2.1;rw [h] at this;simp at this)
    subst hvs
    have hs9:w9.cell? ⟨xb,2,none⟩=some (.slice (some ⟨gs,0,none⟩) (m4+1) cap):=by have:=cell_of_row _ xb 2 _ _ _ HS9.o.row;rw [<-HM4.o.2.1];exact this
    have hwm:IntKind.i64.wrap (((m4+1:Nat):Int) - 1)=(m4:Int):=by have:=HM4.o;simp [IntKind.wrap,IntKind.bits,IntKind.signed];omega
    have hwm2:wrap64 (((m4+1:Nat):Int) - 1)=(m4:Int):=by have:=HM4.o;unfold wrap64;omega
    have hwm3:((m4+1:Nat):Int) - 1=(m4:Int):=by omega
    have hm4b:m4<5000000:=HM4.o.2.2.2.1
    clear ht9 HTIP c8 HS8 HT8 hcl
    go_upto_region 20 with fail
    obtain ⟨c5,hc5⟩:∃c5:BA×Option Tr,c5=(⟨(hdrB (XQ (dgW wd) ch4 (Jz []) (JT (dgW wd) st))).toArray⟩,st):=⟨_,rfl⟩
    have HSU:Hid (Calls prog 19 #[.pointer (some ⟨lb,0,none⟩),.string b] w9 λe w'=>e=.returned (.int .i64 0)/\Tch F7 w9 w'/\∃F',L.At w' lb F' 0 (ch4++[c5])):=by
     have he:JY (dgW wd) wd ch4 b.data.toList=.ok (ch4++[c5]):=by
      have:=JaK (dgW wd) wd (Jm wd hw) ch4 (by have:=HM4.o;omega) [] (λt ht=>(QD ht).elim) (by simp) st (by rw [HB.o.2.2.1];rfl)
      rw [<-HB.o.2.1] at this
      rw [HB.o.1,hc5]
      exact this
     have hbz:=HB.o.2.2.2
     refine (L.submits b HS9.o.led (HF.o.1.tch HT9.o (λ_ h=>h)) (by omega) (by have:=HM4.o;omega)).mono λe w' k=>?_
     obtain ⟨k1,F',_,k3⟩:=k
     rw [he] at k3
     exact ⟨k3.1,k1,F',k3.2⟩
    have HAG:Hid (∀s:BA,s.data.toList=bl->JY (dgW wd) wd (ch4++[c5]) s.data.toList=.error .tip):=λs hs=>by
     have:=Jdb (dgW wd) wd (Jm wd hw) ch4 (ch4++[c5]) (by have:=HM4.o;omega) [] (λt ht=>(QD ht).elim) (by simp) st (by rw [Qe];simp)
     rw [<-HB.o.2.1] at this
     rw [hs]
     exact this
    have HC5:Hid (c5.2=st):=(show c5.2=st by rw [hc5])
    clear hc5
    go_wp2_with fail
    refine HSU.o.mono ?_
    rintro _ w10 ⟨rfl,ht10,F10,hAt⟩
    obtain ⟨hR10,hO10,hB10⟩:=HS9.o.row' ht10
    have hmsl:m4<sl4.length:=by have:=HM4.o;omega
    have hmst:m4<states4.length:=by have:=HM4.o;omega
    have hmch:m4<ch4.length:=by have:=HM4.o;omega
    have HH:Hid (Xq w9 (.slice sl4[m4].1 sl4[m4].2.1 sl4[m4].2.2) states4[m4]):=HS9.o.held m4 _ _ (Qd hmsl) (Qd hmst)
    have HBK:Hid (Book wd c5.2 states4[m4]):=by
     have:=HS9.o.book m4 _ _ (by omega) (Qd hmch) (Qd hmst)
     rw [HC5.o,HB.o.2.2.1,Ch.last_get ch4 m4 HM4.o.1]
     exact this
    have hML:states4[m4]∈states4:=Qx hmst
    obtain ⟨gs2,cap2,hvs2,hcl⟩:=hO10.at (by intro h;have:=HM4.o.2.1;rw [h] at this;simp at this)
    simp only [Qy,Qh,Addr.mk.injEq,true_and,and_true] at hvs2
    obtain ⟨rfl,rfl⟩:=hvs2
    have hqm:=hcl m4 hmsl
    generalize hl0:states4[m4]=l0 at *
    generalize hx0:sl4[m4]=x0 at *
    obtain ⟨xa,xn,xc⟩:=x0
    dsimp only at hqm HH
    have HML:Hid (l0∈states4):=hML
    have HT10:Hid (Tch F7 w9 w10):=ht10
    have tD:Tch NoB w10 w10.drew:=Td _ w10 1
    have HEND:Hid (∀w11 v11,SOwn base w11 v11 (sl4++[(xa,xn,xc)])->World.grownBy (w10.drew.alloc (.cells #[.slice xa xn xc] 43)) w11 (Value.slice (some ⟨gs,0,none⟩) sl4.length cap).ownBlock->w11.heap[xb]? =some (.cells #[.pointer (some ⟨lb,0,none⟩),.int .i64 (wd:Int),.slice (some ⟨gs,0,none⟩) sl4.length cap,.int .i64 ((0:Nat):Int)] 35)/\Jo L (w11.setCell ⟨xb,2,none⟩ v11) xb lb F10 0 (ch4++[c5]) v11 (sl4++[(xa,xn,xc)]) (states4++[l0])/\Tch (λj=>base<=j) w (w11.setCell ⟨xb,2,none⟩ v11)):=λw11 v11 h1 h2=>by
     have t3:Tch F7 w9 w10.drew:=ht10.trans tD noE
     obtain ⟨k1,k2,k3⟩:=Jcl (w:=w9) (w3:=w10.drew) HS9.o HH.o HBK.o (Te _ _) t3 (L.keep hAt tD noE) ((tD.block _ (Jb hR10) (λh=>h)).trans hR10) (hO10.tch tD (λ_ _ h=>h)) (λv l hv=>(hB10 v l hv).tch tD (λ_ _ h=>h)) h1 h2
     exact ⟨k1,k2,HT9.o.trans k3 (λj hj=>.inl (by
      rcases hj with h | rfl | h
      ·exact (L.own HS9.o.led j h).1
      ·exact HS9.o.low
      ·exact (HS9.o.st.own j h.symm).1))⟩
    have HSL:Hid (SOwn base (w10.drew.alloc (.cells #[.slice xa xn xc] 43)) (.slice (some ⟨gs,0,none⟩) sl4.length cap) sl4):=(hO10.tch tD (λ_ _ h=>h)).tch (Ta NoB w10.drew _) (λ_ _ h=>h)
    have HCN:Hid ((w10.drew.alloc (.cells #[.slice xa xn xc] 43)).cell? ⟨w10.drew.heap.size,0,none⟩=some (.slice xa xn xc)):=Ja (Qf _ _)
    have HBW:Hid (base<=w10.drew.heap.size/\sl4.length<=10000000000):=⟨Qm (Qm HF.o.2 HT9.o.size) ht10.size,by have:=HM4.o;omega⟩
    have s10:w10.cell? ⟨xb,2,none⟩=some (.slice (some ⟨gs,0,none⟩) sl4.length cap):=Ja hR10
    have s10a:(w10.drew.alloc (.cells #[.slice xa xn xc] 43)).cell? ⟨xb,2,none⟩=some (.slice (some ⟨gs,0,none⟩) sl4.length cap):=((Ta NoB w10.drew _).cell (p:=⟨xb,2,none⟩) (Jb hR10) (λh=>h)).trans s10
    have hqm':w10.drew.cell? ⟨gs,m4,none⟩=some (.slice xa xn xc):=hqm
    have hxz:xb<w10.heap.size:=(Jb hR10)
    have hgz10:gs<w10.heap.size:=Qr _ _ hqm
    have hmi:(m4:Int)<(sl4.length:Int):=by omega
    clear hl0 hx0 hML hAt hR10 hO10 hB10 ht10 tD hcl HSU c9 hs9 HH HBK
    go_upto_region 21 with fail
    go_cut [] (λwx=>∃v11,Hid (Jo L wx xb lb F10 0 (ch4++[c5]) v11 (sl4++[(xa,xn,xc)]) (states4++[l0]))/\Hid (Tch (λj=>base<=j) w wx))
    case first=>
     go_wp2_with fail
     as_aux_lemma=>
      refine XA (S:=λW=>W.cell? ⟨xb,2,none⟩=some (.slice (some ⟨gs,0,none⟩) sl4.length cap)) 17 (by simp) (by kernel_rfl) (by kernel_rfl) s10 ?_
      intro hHeld l o hl ho
      simp only [List.dropLast_cons_cons,List.dropLast_singleton] at hl
      simp only [List.getLast_cons_cons,List.getLast_singleton] at ho
      subst hl
      subst ho
      simp only [Qp,Qv,Nat.reduceAdd]
      refine tkL 0 ?_
      simp only [Act.put,Qa,Qb,Qc]
      refine tkL 1 ?_
      simp only [Act.put,Qa,Qb,Qc]
      refine tkL 2 ?_
      simp only [Act.put,Qa,Qb,Qc]
      refine tkL 3 ?_
      simp only [Act.put,Qa,Qb,Qc]
      refine tkL 4 ?_
      simp only [Act.put,Qa,Qb,Qc]
      refine tkL 5 ?_
      simp only [Act.put,Qa,Qb,Qc]
      refine tkL 6 ?_
      simp only [Act.put,Qa,Qb,Qc]
      refine tkL 7 ?_
      simp only [Act.put,Qa,Qb,Qc]
      refine tkL 8 ?_
      simp only [Act.put,Qa,Qb,Qc]
      refine tkL 9 ?_
      simp only [Act.put,Qa,Qb,Qc]
      refine tkL 10 ?_
      simp only [Act.put,Qa,Qb,Qc]
      refine Zi (i:=11) rfl (by kernel_rfl) (λK hK=>?_)
      go_simp
      refine hK.out _ _ s10 (λhHeld11=>?_)
      clear hK K hHeld
      try simp only [Act.put,Qa,Qb,Qc]
      refine Zi (i:=12) rfl (by kernel_rfl) (λK hK=>?_)
      go_simp
      refine hK.out _ _ s10a (λhHeld12=>?_)
      clear hK K hHeld11
      try simp only [Act.put,Qa,Qb,Qc]
      refine Zi (i:=13) rfl (by kernel_rfl) (λK hK=>?_)
      refine JbG rfl _ _ rfl rfl HSL.o w10.drew.heap.size (xa,xn,xc) rfl HCN.o HBW.o.2 (Qm HBW.o.1 (Ta NoB w10.drew _).size) ?_
      intro v11 w11 hown11 hg11
      obtain ⟨g11,cap11,hv11,_⟩:=hown11.at (by simp)
      have hl11:(sl4++[(xa,xn,xc)]).length=sl4.length+1:=by simp
      rw [hl11] at hv11
      clear hl11
      subst hv11
      obtain ⟨hr11,hs11,ht11⟩:=HEND.o w11 _ hown11 hg11
      have x2:w11.cell? ⟨xb,2,none⟩=some (.slice (some ⟨gs,0,none⟩) sl4.length cap):=Ja hr11
      have x3:w11.frozen? ⟨xb,2,none⟩=false:=Qg _ _ _ _ _ hr11
      refine hK.out _ _ x2 (λhHeld13=>?_)
      clear hK K hHeld12
      try simp only [Act.put,Qa,Qb,Qc]
      refine tkL 14 ?_
      simp only [Act.put,Qa,Qb,Qc]
      refine tkL 15 ?_
      simp only [Act.put,Qa,Qb,Qc]
      refine wpAnyH_done (by kernel_rfl) ?_ _
      show wpList _ _ _ [_] _ _
      go_wp2
      go_meet
      exact ⟨_,hs11,ht11⟩
    case rest=>
    obtain ⟨v11,HS11,HT11⟩:=hcut
    obtain ⟨w11,hw11⟩:∃w11,w11=wc:=⟨wc,rfl⟩
    subst hw11
    clear HEND HSL HCN HBW s10 s10a hqm hqm' hxz hgz10 hmi hwm hwm2 hwm3 hmsl hmst hmch HT10 HS9 HT9 hm4b
    obtain ⟨g11,cap11,hv11,_⟩:=HS11.o.st.at (by simp)
    have hl11:(sl4++[(xa,xn,xc)]).length=m4+2:=by rw [Qe,HM4.o.2.1];rfl
    rw [hl11] at hv11
    have HL11:Hid ((ch4++[c5]).length=m4+2):=(show (ch4++[c5]).length=m4+2 by rw [Qe,HM4.o.1];rfl)
    subst hv11
    clear hl11
    have HNO3:Hid (Calls prog 19 #[.pointer (some ⟨lb,0,none⟩),.string b] w11 λe w'=>e=.returned (.int .i64 2)/\∃F',Jo L w' xb lb F' 0 (ch4++[c5]) (.slice (some ⟨g11,0,none⟩) (m4+2) cap11) (sl4++[(xa,xn,xc)]) (states4++[l0])/\Tch (λj=>base<=j) w11 w'):=by
     have hbz:=HB.o.2.2.2
     exact JcV HS11.o (HF.o.1.tch HT11.o (λ_ h=>h)) b (by omega) (by rw [HL11.o];have:=HM4.o;omega) .tip (HAG.o b HB.o.1)
    have c11:w11.cell? ⟨xb,0,none⟩=some (.pointer (some ⟨lb,0,none⟩)):=Ja HS11.o.row
    go_wp2_with fail
    refine HNO3.o.mono ?_
    rintro _ w12 ⟨rfl,F12,hS12,hT12⟩
    have HS12:Hid (Jo L w12 xb lb F12 0 (ch4++[c5]) (.slice (some ⟨g11,0,none⟩) (m4+2) cap11) (sl4++[(xa,xn,xc)]) (states4++[l0])):=hS12
    have HT12:Hid (Tch (λj=>base<=j) w w12):=HT11.o.trans hT12 (λj hj=>.inl hj)
    have c12:w12.cell? ⟨xb,0,none⟩=some (.pointer (some ⟨lb,0,none⟩)):=Ja hS12.row
    have HTIP:Hid (Calls prog 15 #[.pointer (some ⟨lb,0,none⟩)] w12 λe w'=>e=.returned (.int .i64 ((m4+1:Nat):Int))/\Tch NoB w12 w'):=(L.tip hS12.led (HF.o.1.tch HT12.o (λ_ h=>h))).mono λe w' k=>⟨by rw [k.1,HL11.o];congr 2;omega,k.2⟩
    clear hS12 hT12 HNO3 c11 HS11 HT11
    go_wp2_with fail
    refine HTIP.o.mono ?_
    rintro _ w13 ⟨rfl,ht13⟩
    have HS13:Hid (Jo L w13 xb lb F12 0 (ch4++[c5]) (.slice (some ⟨g11,0,none⟩) (m4+2) cap11) (sl4++[(xa,xn,xc)]) (states4++[l0])):=HS12.o.next ht13
    have HT13:Hid (Tch (λj=>base<=j) w w13):=HT12.o.trans ht13 noE
    have c13:w13.cell? ⟨xb,2,none⟩=some (.slice (some ⟨g11,0,none⟩) (m4+2) cap11):=Ja HS13.o.row
    have hwm:IntKind.i64.wrap (((m4+2:Nat):Int) - 1)=((m4+1:Nat):Int):=by have:=HM4.o;simp [IntKind.wrap,IntKind.bits,IntKind.signed];omega
    have hwm2:wrap64 (((m4+2:Nat):Int) - 1)=((m4+1:Nat):Int):=by have:=HM4.o;unfold wrap64;omega
    have hwm3:((m4+2:Nat):Int) - 1=((m4+1:Nat):Int):=by omega
    have hm4b:m4<5000000:=HM4.o.2.2.2.1
    clear ht13 HTIP c12 HS12 HT12
    go_wp2
    go_roundw
    case rel=>exact ⟨k+1,F12,ch4++[c5],_,_,states4++[l0],HLT.o,by go_num,HS13,HT13,⟨by have:=HL4.o.1;rw [Qe];simp only [Qp,Qv];omega,λl hl=>by
     rw [QE,Qt] at hl
     rcases hl with hl | rfl
     ·exact HL4.o.2 l hl
     ·exact HL4.o.2 l HML.o⟩⟩
    case measure=>have:=HLT.o;simp [intOf];omega
  ·have hge:¬(k:Int)<(script.length:Int):=by omega
   go_wp2
   go_ret
   exact ⟨rfl,HT.o⟩
