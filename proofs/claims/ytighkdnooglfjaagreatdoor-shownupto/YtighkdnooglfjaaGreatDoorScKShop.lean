import Derived.Test.YtighkdnooglfjaaGreatDoorScKSpec
namespace Go.Proofs.YtighkdnooglfjaaGreatDoor
open Go.Proofs.Tryz
set_option maxRecDepth 100000
set_option maxHeartbeats 4000000
open Go.RowKit

structure Jf4 (E:Nat->Addr) (base:Nat) where
 led:∀wd,Led E wd base
 make:∀(wd:Nat) {w:World} (v:Value) (outs:List (Nat×Nat)),1<=wd->wd<=32->Xa E base w->base<=w.heap.size->Jo w.heap.size w v outs->1<=outs.length->outs.length<=3->(∀o∈outs,Jq o)->
  Calls prog 37 #[.int .i64 (wd:Int),v] w λe w'=>Tch NoB w w'/\∃lb F h st,e=.returned (.tuple #[.pointer (some ⟨lb,0,none⟩),.int .i64 0])/\(led wd).At w' lb F 0 [(h,st)]/\JM (dgW wd (71 :: Xi outs)) 0 outs none=.ok st
def Xh (id:BA) (outs:List (Nat×Nat)) (n:Nat):List Held:=(List.range n).map λ(i:Nat)=>((id,(i:Int)),outs.getD i (0,0))
theorem Jbk (id:BA) (outs:List (Nat×Nat)) (n:Nat):Xh id outs (n+1)=Xh id outs n++[((id,(n:Int)),outs.getD n (0,0))]:=by
 unfold Xh;rw [List.range_succ,List.map_append];rfl
theorem Jeo (id:BA) (outs:List (Nat×Nat)) (n:Nat):JT (Xh id outs n) (id,(n:Int))=none:=by
 unfold JT
 rw [List.findIdx?_eq_none_iff]
 intro x hx
 unfold Xh at hx
 rw [QK] at hx
 obtain ⟨i,hi,rfl⟩:=hx
 rw [List.mem_range] at hi
 simp only [decide_eq_false_iff_not]
 intro h
 have:=congrArg Prod.snd h
 simp only at this
 omega
theorem Jai (id:BA) (outs:List (Nat×Nat)):∀(r:List (Nat×Nat)) (n:Nat),outs.drop n=r->n+r.length=outs.length->∀(o:Nat) (b:Bool),∃o' b',Jz id n r (Xh id outs n,o,b)=some (Xh id outs outs.length,o',b'):=by
 intro r
 induction r with
 | nil=>intro n _ hn o b;simp only [Qv,Nat.add_zero] at hn;subst hn;exact ⟨o,b,rfl⟩
 | cons x r ih=>
  intro n hd hn o b
  simp only [Jz,Jeo]
  have hlt:n<outs.length:=by simp only [Qp] at hn;omega
  have e:=List.drop_eq_getElem_cons hlt
  rw [hd] at e
  simp only [QH] at e
  have ex:outs.getD n (0,0)=x:=by simp [List.getD_eq_getElem?_getD,List.getElem?_eq_getElem hlt,e.1]
  have:=ih (n+1) e.2.symm (by simp only [Qp] at hn;omega) ((o+x.1) % M64) (b || decide ((o+x.1) % M64<o))
  rw [Jbk,ex] at this
  exact this
theorem Jfk (wd:Nat) (outs:List (Nat×Nat)) (ho:∀o∈outs,Jq o) (h3:outs.length<=3) (id:BA) (hid:id.size=wd) (st:Option Tr) (h:JM id 0 outs none=.ok st):Book wd st (Xh id outs outs.length):=by
 have B0:Book wd none []:=by
  refine ⟨?_,?_,?_,?_⟩
  ·intro t ht;cases ht
  ·intro h hh;exact (QD hh).elim
  ·exact List.nodup_nil
  ·intro k o;simp [JV]
 have:=Zu wd id hid outs ho 0 (by omega) none [] 0 false B0
 obtain ⟨o',b',e⟩:=Jai id outs outs 0 rfl (by omega) 0 false
 have e0:Xh id outs 0=[]:=rfl
 rw [e0] at e
 rw [show (0:Nat) % M64=0 from rfl,e] at this
 obtain ⟨st',e1,B,_⟩:=this
 rw [h] at e1
 cases e1
 exact B
theorem JbX {b b':Nat} {w:World} {v v2:Value} {os:List (Nat×Nat)} {l:List Held} (h:OOwn b w v os) (h2:HOwn b' w v2 l):∀j,v.ownBlock=some j->¬some j=v2.ownBlock:=by
 intro j hj hj2
 obtain ⟨_,⟨rfl,_⟩ | ⟨g,cap,cur,rfl,_,hrow,_⟩⟩:=h
 ·cases hj
 obtain ⟨_,⟨rfl,_⟩ | ⟨g',cap',cur',rfl,_,hrow',_⟩⟩:=h2
 ·cases hj2
 cases hj
 cases hj2
 rw [hrow] at hrow'
 simp at hrow'
def JhY {E:Nat->Addr} {base:Nat} (M:Jf4 E base) (w:World) (e:Ending) (w':World):Prop:=
 Tch NoB w w'/\∃wd xb lb F ch vst sl states,1<=wd/\wd<=32/\e=.returned (.pointer (some ⟨xb,0,none⟩))/\JS (M.led wd) w' xb lb F 0 ch vst sl states/\states.length=1/\∀l∈states,l.length<=3
def frT (os:List (Nat×Nat)) (i:Nat):List UInt8:=71 :: (beL os.length 1 1++(os.take i).flatMap outB)
theorem Jit (os:List (Nat×Nat)) (i:Nat) (h:i<os.length):frT os (i+1)=frT os i++outB os[i]:=by
 unfold frT;rw [QP h];simp only [List.flatMap_append,QG,List.flatMap_nil,QC,Qs,List.cons_append]
theorem Jge (os:List (Nat×Nat)) (h:os.length<=3) (i:Nat):(frT os i).length<=100:=by
 unfold frT;rw [Qp,Qe,Jg,JcP,QB];omega
theorem JkY {E:Nat->Addr} {base:Nat} (M:Jf4 E base) (c:Int) (B:Nat) (v:Value) (first:List (Nat×Nat)) (w:World) (hF:Xa E base w) (hb:base<=w.heap.size) (h:Jo B w v first) (ho:∀o∈first,Jq o) (h1: -9223372036854775808<=c) (h2:c<9223372036854775808):
  Calls prog 14 #[.int .i64 c,v] w (JhY M w):=by
 obtain ⟨a0,c0,rfl⟩:=h.shape
 have HF:Hid _:=hF
 have HB:Hid _:=hb
 have H:Hid _:=h
 have HO:Hid _:=ho
 have HWI:Hid (∀W,Calls prog 36 #[.int .i64 c] W _):=λW=>Jg0 c W h1 h2
 clear hF hb h ho h1 h2
 go_enter func14,ntmps14
 go_wp2
 go_loopw [5,6] (λvo i wr=>∃(k:Nat) (os:List (Nat×Nat)),k<=3/\i=.int .i64 k/\Hid (OOwn w.heap.size wr vo os)/\Hid (os.length=k)/\Hid (∀o∈os,Jq o)/\Hid (Tch NoB w wr)) (λ_ i _=>3 - (intOf i).toNat)
 case atStart=>exact ⟨0,[],by omega,rfl,OOwn.nil _ _,rfl,(λc hc=>(QD hc).elim:∀c∈([]:List (Nat×Nat)),Jq c),Te _ _⟩
 case round=>
  obtain ⟨k,os,hk,rfl,HOO,HOL,HOK,HT⟩:=hrel
  obtain ⟨va,vc,rfl⟩:=HOO.o.shape
  by_cases hgo:k<first.length/\k<3
  ·obtain ⟨hkf,hk3⟩:=hgo
   rcases H.out with ⟨_,e2⟩ | ⟨g0,o0,cc,e,_,hg0,hcell⟩
   ·rw [e2] at hkf;simp at hkf
   simp only [Qy,true_and] at e
   obtain ⟨rfl,rfl⟩:=e
   obtain ⟨f0,f1⟩:=hcell k hkf
   have q0:=(HT.o.cell (p:=⟨g0,o0+k * 2,none⟩) hg0 (λe=>e)).trans f0
   have q1:=(HT.o.cell (p:=⟨g0,o0+k * 2+1,none⟩) hg0 (λe=>e)).trans f1
   have HOF:Hid (Jq first[k]):=HO.o _ (Qx hkf)
   have hki:(k:Int)<(first.length:Int):=by omega
   have hk3i:(k:Int)<3:=by omega
   clear hcell f0 f1
   generalize first[k]=o at *
   obtain ⟨oa,oo⟩:=o
   simp only at q0 q1
   have HNO:Hid (Jo (wr.heap.size+1) (wr.alloc (.cells #[.int .u64 ((oa:Nat):Int),.int .u8 ((oo:Nat):Int)] 80)) (.slice (some ⟨wr.heap.size,0,none⟩) 1 1) [(oa,oo)]):=JdC wr (oa,oo)
   have HOW:Hid (OOwn w.heap.size (wr.alloc (.cells #[.int .u64 ((oa:Nat):Int),.int .u8 ((oo:Nat):Int)] 80)) (.slice va os.length vc) os):=HOO.o.tch (Ta NoB wr _) (λ_ _ h=>h)
   go_wp2_with (at_builtin;refine XZ rfl _ _ rfl rfl HOW.o _ _ [(oa,oo)] rfl HNO.o (by have:=HOL.o;simp;omega) (Qm HT.o.size (Ta NoB wr _).size) ?_;intro v1 w1 hown1 hg1;have HO1:Hid _:=hown1;have HG1:Hid _:=hg1;clear hown1 hg1)
   go_roundw
   case rel=>exact ⟨k+1,os++[(oa,oo)],by omega,by go_num,HO1.o,(by have:=HOL.o;simp;omega:(os++[(oa,oo)]).length=k+1),(by intro c hc;rw [QE,Qt] at hc;rcases hc with hc | rfl;exact HOK.o c hc;exact HOF.o:∀c∈os++[(oa,oo)],Jq c),(HT.o.trans (Ta NoB wr _) noE).trans (Tg HG1.o) (λj hj=>.inr (HOO.o.own j hj.symm).1)⟩
   case measure=>simp [intOf];omega
  ·have HL3:Hid (os.length<=3):=(by have:=HOL.o;omega:os.length<=3)
   go_upto_region 3 with fail
   go_cut [22] (λvb wx=>vb=.bool false/\wx=wr)
   case first=>
    by_cases hkf:k<first.length
    ·have hki:(k:Int)<(first.length:Int):=by omega
     have hk3i:¬(k:Int)<3:=by omega
     go_wp2
     go_meet
     exact ⟨rfl,rfl⟩
    ·have hki:¬(k:Int)<(first.length:Int):=by omega
     go_wp2
     go_meet
     exact ⟨rfl,rfl⟩
   case rest=>
   obtain ⟨rfl,rfl⟩:=hcut
   obtain ⟨wA,hwA⟩:∃wA,wA=wc:=⟨wc,rfl⟩
   subst hwA
   go_upto_if 34 with fail
   go_cut [5] (λvo wx=>∃os':List (Nat×Nat),Hid (OOwn w.heap.size wx vo os')/\Hid (1<=os'.length/\os'.length<=3/\∀o∈os',Jq o)/\Hid (Tch NoB w wx))
   case first=>
    by_cases h0:os.length=0
    ·have h0i:(os.length:Int)=0:=by omega
     have HNO:Hid (Jo (wA.heap.size+1) (wA.alloc (.cells #[.int .u64 100,.int .u8 1] 80)) (.slice (some ⟨wA.heap.size,0,none⟩) 1 1) [(100,1)]):=JdC wA (100,1)
     have HOW:Hid (OOwn w.heap.size (wA.alloc (.cells #[.int .u64 100,.int .u8 1] 80)) (.slice va os.length vc) os):=HOO.o.tch (Ta NoB wA _) (λ_ _ h=>h)
     have H0:Hid _:=h0
     clear h0
     go_wp2_with (at_builtin;refine XZ rfl _ _ rfl rfl HOW.o _ _ [(100,1)] rfl HNO.o (by have:=H0.o;simp;omega) (Qm HT.o.size (Ta NoB wA _).size) ?_;intro v1 w1 hown1 hg1;have HO1:Hid _:=hown1;have HG1:Hid _:=hg1;clear hown1 hg1)
     go_meet
     exact ⟨os++[(100,1)],HO1,⟨by simp,by have:=H0.o;simp;omega,by intro o ho;rw [QE,Qt] at ho;rcases ho with ho | rfl;exact HOK.o o ho;exact ⟨by decide,by decide⟩⟩,(HT.o.trans (Ta NoB wA _) noE).trans (Tg HG1.o) (λj hj=>.inr (HOO.o.own j hj.symm).1)⟩
    ·have h0i:¬(os.length:Int)=0:=by omega
     have H0:Hid _:=h0
     clear h0
     go_wp2
     go_meet
     exact ⟨os,HOO,⟨by have:=H0.o;omega,HL3.o,HOK.o⟩,HT⟩
   case rest=>
   obtain ⟨os',HOP,HOQ,HTB⟩:=hcut
   obtain ⟨wB,hwB⟩:∃wB,wB=wc:=⟨wc,rfl⟩
   subst hwB
   clear HOO HOL HOK HT HL3 hgo
   obtain ⟨vb,vd,hu5⟩:=HOP.o.shape
   subst hu5
   go_wp2_with fail
   refine (HWI.o _).mono ?_
   rintro _ w1 ⟨⟨wd,hw1,hw32,rfl⟩,ht1⟩
   have HT1:Hid (Tch NoB w w1):=HTB.o.trans ht1 noE
   have HO1:Hid (OOwn w.heap.size w1 (.slice vb os'.length vd) os'):=HOP.o.tch ht1 (λ_ _ e=>e)
   have HF1:Hid (Xa E base w1):=HF.o.tch HT1.o noE
   have HNW:Hid (Calls _ _ _ w1 _):=M.make wd (.slice vb os'.length vd) os' hw1 hw32 HF1.o (Qm HB.o HT1.o.size) HO1.o.at HOQ.o.1 HOQ.o.2.1 HOQ.o.2.2
   clear ht1
   go_wp2_with fail
   refine HNW.o.mono ?_
   rintro _ w2 ⟨ht2,lb,F,hd,st,rfl,hat,hrc⟩
   have HT2:Hid (Tch NoB w w2):=HT1.o.trans ht2 noE
   have HO2:Hid (OOwn w.heap.size w2 (.slice vb os'.length vd) os'):=HO1.o.tch ht2 (λ_ _ e=>e)
   have HAT:Hid _:=hat
   have HRC:Hid (_=_):=hrc
   have HF2:Hid (Xa E base w2):=HF.o.tch HT2.o noE
   clear ht2 hat hrc HNW
   have hn3:=HOQ.o.2.1
   have HQ:Hid (1<=os'.length/\os'.length<=3/\∀o∈os',Jq o):=HOQ.o
   have hwn:IntKind.u8.wrap (os'.length:Int)=(os'.length:Int):=by simp [IntKind.wrap,IntKind.bits,IntKind.signed];omega
   have hby:=Jfp os'.length w2 (by omega)
   have hadd0:=JaS [71] [UInt8.ofNat os'.length] (by simp)
   have HX0:Hid ([71]++[UInt8.ofNat os'.length]=frT os' 0):=(by rw [frT,beL1];simp:[71]++[UInt8.ofNat os'.length]=frT os' 0)
   have TB2:Hid (Tch NoB w (w2.alloc (.cells #[.int .u8 (os'.length:Int)] 5))):=HT2.o.trans (Ta NoB w2 _) noE
   have OB2:Hid (OOwn w.heap.size (w2.alloc (.cells #[.int .u8 (os'.length:Int)] 5)) (.slice vb os'.length vd) os'):=HO2.o.tch (Ta NoB w2 _) (λ_ _ e=>e)
   have TL2:Hid (Tch NoB w2 (w2.alloc (.cells #[.int .u8 (os'.length:Int)] 5))):=Ta NoB w2 _
   generalize [71]++[UInt8.ofNat os'.length]=X0 at *
   clear HOQ HOP HTB HT1 HO1 HF1
   go_wp2
   clear hby hadd0 hwn
   go_loopw [10,11] (λsx i wr=>∃k:Nat,k<=os'.length/\i=.int .i64 k/\sx=.string ⟨(frT os' k).toArray⟩/\Hid (OOwn w.heap.size wr (.slice vb os'.length vd) os')/\Hid (Tch NoB w2 wr)) (λ_ i _=>os'.length - (intOf i).toNat)
   case atStart=>exact ⟨0,by omega,rfl,by rw [HX0.o],OB2.out,TL2.out⟩
   case round=>
    clear HX0 TB2 OB2 TL2
    obtain ⟨k,hk,rfl,rfl,HOO,HT⟩:=hrel
    by_cases hlt:k<os'.length
    ·rcases HOO.o.at with ⟨e,_⟩ | ⟨gi,oi,cc,e,_,hgi,hcell⟩
     ·simp only [Qy] at e;omega
     simp only [Qy,true_and] at e
     obtain ⟨rfl,rfl⟩:=e
     obtain ⟨q0,q1⟩:=hcell k hlt
     have hok:=HQ.o.2.2 _ (Qx hlt)
     have hlti:(k:Int)<(os'.length:Int):=by omega
     have hadd:=JaS (frT os' k) (outB os'[k]) (by have:=Jge os' HQ.o.2.1 k;rw [JbW];omega)
     rw [<-Jit os' k hlt] at hadd
     have HLT:Hid _:=hlt
     have HKT:Hid (Calls _ _ _ wr _):=JcV os'[k].1 os'[k].2 wr hok.2
     clear hcell hok
     generalize os'[k]=o at *
     obtain ⟨oa,oo⟩:=o
     simp only at q0 q1
     generalize hX1:frT os' (k+1)=X1 at *
     generalize frT os' k=X0 at *
     have HX1:Hid (_=X1):=hX1
     clear hX1
     generalize outB (oa,oo)=cb at *
     go_wp2_with (go_at_call 38;refine HKT.o.mono ?_;rintro _ w3 ⟨rfl,ht3⟩;have HT3:Hid _:=ht3;clear ht3)
     go_roundw
     case rel=>exact ⟨k+1,HLT.o,by go_num,by rw [HX1.o],HOO.o.tch HT3.o (λ_ _ e=>e),HT.o.trans HT3.o noE⟩
     case measure=>have:=HLT.o;simp [intOf];omega
    ·have HK:Hid (k=os'.length):=(by omega:k=os'.length)
     have hge:¬(k:Int)<(os'.length:Int):=by omega
     have HX:Hid (frT os' k=71 :: Xi os'):=(by rw [HK.o,frT,Xi,List.take_length]:frT os' k=71 :: Xi os')
     have HXL:Hid ((frT os' k).length<=100):=Jge os' HQ.o.2.1 k
     have HTW:Hid (Tch NoB w wr):=HT2.o.trans HT.o noE
     have HEW:Hid (Env E wr):=(HF.o.tch HTW.o noE).env
     obtain ⟨S,hS1,hS2⟩:∃S:BA,S=⟨(frT os' k).toArray⟩/\S.data.toList=71 :: Xi os':=⟨_,rfl,by simp [HX.o]⟩
     have hSz:S.size<1152921504606846976:=by rw [hS1];show (frT os' k).toArray.size<_;have:=HXL.o;simp;omega
     have HDG:Hid (Calls prog 39 #[.int .i64 (wd:Int),.string S] wr λe w'=>e=.returned (.string (dgW wd (71 :: Xi os')))/\Tch NoB wr w'):=(JaG wd S wr hw1 hw32 hSz (Qk (by decide) HEW.o.size) HEW.o.table).mono (by rintro _ w' ⟨rfl,ht⟩;exact ⟨by rw [hS2];rfl,ht⟩)
     rw [<-hS1]
     clear hS1 hS2 hSz HX HXL
     obtain ⟨id,hid⟩:∃id,dgW wd (71 :: Xi os')=id:=⟨_,rfl⟩
     have HIDS:id.size=wd:=by rw [<-hid];exact Jp wd hw32 _
     rw [hid] at HDG HRC
     clear hid
     go_upto_region 18 with (go_at_call 39;refine HDG.o.mono ?_;rintro _ w3 ⟨rfl,ht3⟩;have HT3:Hid _:=ht3;clear ht3)
     have HTV:Hid (Tch NoB w w3):=HTW.o.trans HT3.o noE
     have HT23:Hid (Tch NoB w2 w3):=HT.o.trans HT3.o noE
     have HO3:Hid (OOwn w.heap.size w3 (.slice vb os'.length vd) os'):=HOO.o.tch HT3.o (λ_ _ e=>e)
     have hszi:(id.size:Int)=(wd:Int):=by rw [HIDS]
     have HIDH:Hid _:=HIDS
     have HTU:Hid (Tch NoB w w2):=HT2.o
     clear HIDS HOO HT HTW HEW HDG HT3 HT2 HO2 HF2 HK
     go_upto_region 20 with fail
     clear hszi
     go_wp2
     go_loopw [13,14] (λvn i wr=>∃k:Nat,k<=os'.length/\i=.int .i64 k/\Hid (HOwn w2.heap.size wr vn (Xh id os' k))/\Hid (OOwn w.heap.size wr (.slice vb os'.length vd) os')/\Hid (Tch NoB w2 wr)) (λ_ i _=>os'.length - (intOf i).toNat)
     case atStart=>exact ⟨0,by omega,rfl,HOwn.nil _ _,HO3.o,HT23.o⟩
     case round=>
      clear HO3 HT23 HTV
      obtain ⟨k,hk,rfl,HHO,HOO,HT⟩:=hrel
      obtain ⟨na,nc,hvn⟩:=HHO.o.shape
      obtain ⟨nl,hnl⟩:∃nl,(Xh id os' k).length=nl:=⟨_,rfl⟩
      rw [hnl] at hvn
      subst hvn
      have HNL:Hid _:=hnl
      have HNK:Hid ((Xh id os' k).length=k):=(by simp [Xh]:(Xh id os' k).length=k)
      clear hnl
      by_cases hlt:k<os'.length
      ·rcases HOO.o.at with ⟨e,_⟩ | ⟨gi,oi,cc,e,_,hgi,hcell⟩
       ·simp only [Qy] at e;omega
       simp only [Qy,true_and] at e
       obtain ⟨rfl,rfl⟩:=e
       obtain ⟨q0,q1⟩:=hcell k hlt
       have hlti:(k:Int)<(os'.length:Int):=by omega
       have HLT:Hid _:=hlt
       have HSU:Hid (Xh id os' (k+1)=Xh id os' k++[((id,(k:Int)),os'[k])]):=(by
        have eg:os'.getD k (0,0)=os'[k]:=by rw [Qn,Qd hlt];rfl
        rw [Jbk,eg]:Xh id os' (k+1)=Xh id os' k++[((id,(k:Int)),os'[k])])
       clear hcell
       generalize os'[k]=o at *
       obtain ⟨oa,oo⟩:=o
       simp only at q0 q1
       have HNW:Hid (JU (wr.alloc (.cells #[.string id,.int .i64 (k:Int),.int .u64 ((oa:Nat):Int),.int .u8 ((oo:Nat):Int)] 87)) (.slice (some ⟨wr.heap.size,0,none⟩) 1 1) [((id,(k:Int)),(oa,oo))]):=Jep wr (id,(k:Int)) (oa,oo)
       have HHW:Hid (HOwn w2.heap.size (wr.alloc (.cells #[.string id,.int .i64 (k:Int),.int .u64 ((oa:Nat):Int),.int .u8 ((oo:Nat):Int)] 87)) (.slice na nl nc) (Xh id os' k)):=HHO.o.tch (Ta NoB wr _) (λ_ _ e=>e)
       have TAL:Hid (Tch NoB w2 (wr.alloc (.cells #[.string id,.int .i64 (k:Int),.int .u64 ((oa:Nat):Int),.int .u8 ((oo:Nat):Int)] 87))):=HT.o.trans (Ta NoB wr _) noE
       go_wp2_with (at_builtin;refine Xe rfl _ _ rfl rfl HHW.o _ [((id,(k:Int)),(oa,oo))] rfl HNW.o (by rw [HNK.o];simp;omega) (Qm HT.o.size (Ta NoB wr _).size) ?_;intro v1 w1 hown1 hg1;have HO1:Hid _:=hown1;have HG1:Hid _:=hg1;clear hown1 hg1)
       go_roundw
       case rel=>exact ⟨k+1,HLT.o,by go_num,by rw [HSU.o];exact HO1,(HOO.o.tch (Ta NoB wr _) (λ_ _ e=>e)).tch (Tg HG1.o) (JbX (HOO.o.tch (Ta NoB wr _) (λ_ _ e=>e)) HHW.o),TAL.out.trans (Tg HG1.o) (λj hj=>.inr (HHO.o.own j hj.symm).1)⟩
       case measure=>have:=HLT.o;simp [intOf];omega
      ·have HK:Hid (k=os'.length):=(by omega:k=os'.length)
       have hge:¬(k:Int)<(os'.length:Int):=by omega
       go_wp2
       go_ret
       have tA:=(Ta NoB wr (.cells #[.slice na nl nc] 43)).trans (Ta NoB _ (.cells #[.pointer (some ⟨lb,0,none⟩),.int .i64 (wd:Int),.slice (some ⟨wr.heap.size,0,none⟩) 1 1,.int .i64 0] 35)) (λ_ h=>.inl h)
       have hbw:base<=wr.heap.size:=Qm HB.o (Qm HTU.o.size HT.o.size)
       refine ⟨(HTU.o.trans HT.o noE).trans tA noE,wd,wr.heap.size+1,lb,F,[(hd,st)],.slice (some ⟨wr.heap.size,0,none⟩) 1 1,[(na,nl,nc)],[Xh id os' k],hw1,hw32,rfl,?_,rfl,?_⟩
       ·refine ⟨heap_alloc2_new _ _ _,(M.led wd).keep ((M.led wd).keep HAT.o HT.o (λ_ e=>e.elim)) tA (λ_ e=>e.elim),⟨rfl,.inr ⟨wr.heap.size,1,#[.slice na nl nc],rfl,hbw,heap_alloc2_old _ _ _,Ql _,by decide,rfl,rfl⟩⟩,by omega,?_,⟨rfl,rfl,by simp⟩,by simp,?_⟩
        ·intro i x l hx hl
         cases i with
         | zero=>
          simp only [List.getElem?_cons_zero,Qh] at hx hl
          subst hx;subst hl
          exact HHO.o.t.tch tA (λ_ _ e=>e)
         | succ i=>simp at hx
        ·intro i d l _ hd' hl
         cases i with
         | zero=>
          simp only [List.getElem?_cons_zero,Qh] at hd' hl
          subst hd';subst hl
          rw [HK.o]
          exact Jfk wd os' HQ.o.2.2 HQ.o.2.1 id HIDH.o st HRC.o
         | succ i=>simp at hd'
       ·intro l hl
        simp only [Qt] at hl
        subst hl
        have:=HNK.o;have:=HQ.o.2.1;omega
