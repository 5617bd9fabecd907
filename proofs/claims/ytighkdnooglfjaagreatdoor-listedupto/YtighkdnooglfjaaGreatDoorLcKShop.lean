import Derived.Test.YtighkdnooglfjaaGreatDoorLcChE
import Derived.Test.YtighkdnooglfjaaGreatDoorLcKPays
namespace Go.Proofs.YtighkdnooglfjaaGreatDoor
open Tryz
set_option maxRecDepth 100000
set_option maxHeartbeats 4000000
open Go.RowKit

variable {bs:List BV}{l:List Nat}{base cb fl r wj:Nat}{E:Nat->Addr}{S:Nat->Prop}{v:Value}{w w':World}
structure Jh8(E:Nat->Addr)(base:Nat) where
 led:∀wj,Led E wj base
 make:∀(wj:Nat){w:World}(v:Value)(outs:List (Nat×Nat)),1<=wj->wj<=32->Xm E base w->base<=w.heap.size->Jq w.heap.size w v outs->1<=outs.length->outs.length<=3->(∀o∈outs,Jy o)->
  Calls prog 37 #[.int .i64 (wj:Int),v] w λe w'=>Tch NoB w w'/\∃lb F h st,e=.returned (.tuple #[.pointer (some ⟨lb,0,none⟩),.int .i64 0])/\(led wj).At w' lb F 0 [(h,st)]/\JX (dgW wj (71::XE outs)) 0 outs none=.ok st
def XD(id:BA)(outs:List (Nat×Nat))(n:Nat):List Held:=(List.range n).map λ(i:Nat)=>((id,(i:Int)),outs.getD i (0,0))
theorem Jcn(id:BA)(outs:List (Nat×Nat))(n:Nat):XD id outs (n+1)=XD id outs n++[((id,(n:Int)),outs.getD n (0,0))]:=by
 unfold XD;rw[List.range_succ,List.map_append];rfl
theorem Jgc(id:BA)(outs:List (Nat×Nat))(n:Nat):JO (XD id outs n) (id,(n:Int))=none:=by
 unfold JO;rw[List.findIdx?_eq_none_iff];intro x hx;unfold XD at hx;rw[QK]at hx;obtain⟨i,hi,rfl⟩:=hx;rw[List.mem_range]at hi;simp only[decide_eq_false_iff_not];intro h;have:=congrArg Prod.snd h;simp only at this;omega
theorem Ja3(id:BA)(outs:List (Nat×Nat)):∀(r:List (Nat×Nat))(n:Nat),outs.drop n=r->n+r.length=outs.length->∀(o:Nat)(b:Bool),∃o' b',JM id n r (XD id outs n,o,b)=some (XD id outs outs.length,o',b'):=by
 intro r
 induction r with
 | nil=>intro n _ hn o b;simp only[Qv,Nat.add_zero]at hn;subst hn;exact⟨o,b,rfl⟩
 | cons x r ih=>
  intro n hd hn o b;simp only[JM,Jgc];have hlt:n<outs.length:=by simp only[Qp]at hn;omega
  have e:=List.drop_eq_getElem_cons hlt;rw[hd]at e;simp only[QH]at e;have ex:outs.getD n (0,0)=x:=by simp[List.getD_eq_getElem?_getD,List.getElem?_eq_getElem hlt,e.1]
  have:=ih (n+1) e.2.symm (by simp only[Qp]at hn;omega) ((o+x.1) % M64) (b || decide ((o+x.1) % M64<o));rw[Jcn,ex]at this;exact this
theorem Jhk(wj:Nat)(outs:List (Nat×Nat))(ho:∀o∈outs,Jy o)(h3:outs.length<=3)(id:BA)(hid:id.size=wj)(st:Option Tr)(h:JX id 0 outs none=.ok st):Book wj st (XD id outs outs.length):=by
 have B0:Book wj none []:=by
  refine⟨?_,?_,?_,?_⟩
  ·intro t ht;cases ht
  ·intro h hh;exact(QD hh).elim
  ·exact List.nodup_nil
  ·intro k o;simp[Jr]
 have:=Jaj wj id hid outs ho 0 (by omega) none [] 0 false B0;obtain⟨o',b',e⟩:=Ja3 id outs outs 0 rfl (by omega) 0 false;have e0:XD id outs 0=[]:=rfl;rw[e0]at e;rw[show (0:Nat) % M64=0 from rfl,e]at this;obtain⟨st',e1,B,_⟩:=this;rw[h]at e1
 cases e1
 exact B
theorem Jdk{b b':Nat}{v2:Value}{os:List (Nat×Nat)}{l:List Held}(h:OOwn b w v os)(h2:HOwn b' w v2 l):∀j,v.ownBlock=some j->¬some j=v2.ownBlock:=by
 intro j hj hj2;obtain⟨_,⟨rfl,_⟩|⟨g,cap,cur,rfl,_,hrow,_⟩⟩:=h
 ·cases hj
 obtain⟨_,⟨rfl,_⟩|⟨g',cap',cur',rfl,_,hrow',_⟩⟩:=h2
 ·cases hj2
 cases hj
 cases hj2
 rw[hrow]at hrow';simp at hrow'
def Jkl{E:Nat->Addr}{base:Nat}(M:Jh8 E base)(w:World)(e:Ending)(w':World):Prop:=
 Tch NoB w w'/\∃wj xb lb F ch vst sl states,1<=wj/\wj<=32/\e=.returned (.pointer (some ⟨xb,0,none⟩))/\JL (M.led wj) w' xb lb F 0 ch vst sl states/\states.length=1/\∀l∈states,l.length<=3
def frT(os:List (Nat×Nat))(i:Nat):List UInt8:=71::(beL os.length 1 1++(os.take i).flatMap outB)
theorem JkV(os:List (Nat×Nat))(i:Nat)(h:i<os.length):frT os (i+1)=frT os i++outB os[i]:=by
 unfold frT;rw[QQ h];simp only[List.flatMap_append,QG,List.flatMap_nil,QC,Qs,List.cons_append]
theorem Jik(os:List (Nat×Nat))(h:os.length<=3)(i:Nat):(frT os i).length<=100:=by
 unfold frT;rw[Qp,Qe,Jf,Jek,QB];omega
theorem JnD(M:Jh8 E base)(c:Int)(B:Nat)(v:Value)(first:List (Nat×Nat))(w:World)(hF:Xm E base w)(hb:base<=w.heap.size)(h:Jq B w v first)(ho:∀o∈first,Jy o)(h1: -9223372036854775808<=c)(h2:c<9223372036854775808):
  Calls prog 14 #[.int .i64 c,v] w (Jkl M w):=by
 obtain⟨a0,c0,rfl⟩:=h.shape;have HF:Hid _:=hF;have HB:Hid _:=hb;have H:Hid _:=h;have HO:Hid _:=ho;have HWI:Hid (∀W,Calls prog 36 #[.int .i64 c] W _):=λW=>Jji c W h1 h2;clear hF hb h ho h1 h2;go_enter func14,ntmps14;go_wp2;go_loopw [5,6] (λvo i wr=>∃(k:Nat)(os:List (Nat×Nat)),k<=3/\i=.int .i64 k/\Hid (OOwn w.heap.size wr vo os)/\Hid (os.length=k)/\Hid (∀o∈os,Jy o)/\Hid (Tch NoB w wr)) (λ_ i _=>3-(intOf i).toNat)
 case atStart=>exact⟨0,[],by omega,rfl,OOwn.nil _ _,rfl,(λc hc=>(QD hc).elim:∀c∈([]:List (Nat×Nat)),Jy c),Te _ _⟩
 case round=>
  obtain⟨k,os,hk,rfl,HOO,HOL,HOK,HT⟩:=hrel;obtain⟨va,vc,rfl⟩:=HOO.o.shape
  by_cases hgo:k<first.length/\k<3
  ·obtain⟨hkf,hk3⟩:=hgo
   rcases H.out with⟨_,e2⟩|⟨g0,o0,cc,e,_,hg0,hcell⟩
   ·rw[e2]at hkf;simp at hkf
   simp only[Qy,true_and]at e;obtain⟨rfl,rfl⟩:=e;obtain⟨f0,f1⟩:=hcell k hkf;have q0:=(HT.o.cell (p:=⟨g0,o0+k*2,none⟩) hg0 (λe=>e)).trans f0;have q1:=(HT.o.cell (p:=⟨g0,o0+k*2+1,none⟩) hg0 (λe=>e)).trans f1;have HOF:Hid (Jy first[k]):=HO.o _ (Qx hkf);have hki:(k:Int)<(first.length:Int):=(by omega);have hk3i:(k:Int)<3:=(by omega);clear hcell f0 f1;generalize first[k]=o at *
   obtain⟨oa,oo⟩:=o;simp only at q0 q1;have HNO:Hid (Jq (wr.heap.size+1) (wr.alloc (.cells #[.int .u64 ((oa:Nat):Int),.int .u8 ((oo:Nat):Int)] 80)) (.slice (some ⟨wr.heap.size,0,none⟩) 1 1) [(oa,oo)]):=Jfk wr (oa,oo);have HOW:Hid (OOwn w.heap.size (wr.alloc (.cells #[.int .u64 ((oa:Nat):Int),.int .u8 ((oo:Nat):Int)] 80)) (.slice va os.length vc) os):=HOO.o.tch (Ta NoB wr _) (λ_ _ h=>h);go_wp2_with (at_builtin;refine YD rfl _ _ rfl rfl HOW.o _ _ [(oa,oo)] rfl HNO.o (by have:=HOL.o;simp;omega) (Qm HT.o.size (Ta NoB wr _).size) ?_;intro v1 w1 hown1 hg1;have HO1:Hid _:=hown1;have HG1:Hid _:=hg1;clear hown1 hg1);go_roundw
   case rel=>exact⟨k+1,os++[(oa,oo)],by omega,by go_num,HO1.o,(by have:=HOL.o;simp;omega:(os++[(oa,oo)]).length=k+1),(by intro c hc;rw[QE,Qt]at hc;rcases hc with hc|rfl;exact HOK.o c hc;exact HOF.o:∀c∈os++[(oa,oo)],Jy c),(HT.o.trans (Ta NoB wr _) noE).trans (Tg HG1.o) (λj hj=>.inr (HOO.o.own j hj.symm).1)⟩
   case measure=>simp[intOf];omega
  ·have HL3:Hid (os.length<=3):=(by have:=HOL.o;omega:os.length<=3)
   go_upto_region 3 with fail;go_cut [22] (λvb wx=>vb=.bool false/\wx=wr)
   case first=>
    by_cases hkf:k<first.length
    ·have hki:(k:Int)<(first.length:Int):=(by omega);have hk3i:¬(k:Int)<3:=(by omega);go_wp2;go_meet;exact⟨rfl,rfl⟩
    ·have hki:¬(k:Int)<(first.length:Int):=(by omega);go_wp2;go_meet;exact⟨rfl,rfl⟩
   case rest=>
   obtain⟨rfl,rfl⟩:=hcut;obtain⟨wA,hwA⟩:∃wA,wA=wc:=⟨wc,rfl⟩
   subst hwA;go_upto_if 34 with fail;go_cut [5] (λvo wx=>∃os':List (Nat×Nat),Hid (OOwn w.heap.size wx vo os')/\Hid (1<=os'.length/\os'.length<=3/\∀o∈os',Jy o)/\Hid (Tch NoB w wx))
   case first=>
    by_cases h0:os.length=0
    ·have h0i:(os.length:Int)=0:=(by omega);have HNO:Hid (Jq (wA.heap.size+1) (wA.alloc (.cells #[.int .u64 100,.int .u8 1] 80)) (.slice (some ⟨wA.heap.size,0,none⟩) 1 1) [(100,1)]):=Jfk wA (100,1);have HOW:Hid (OOwn w.heap.size (wA.alloc (.cells #[.int .u64 100,.int .u8 1] 80)) (.slice va os.length vc) os):=HOO.o.tch (Ta NoB wA _) (λ_ _ h=>h);have H0:Hid _:=h0;clear h0;go_wp2_with (at_builtin;refine YD rfl _ _ rfl rfl HOW.o _ _ [(100,1)] rfl HNO.o (by have:=H0.o;simp;omega) (Qm HT.o.size (Ta NoB wA _).size) ?_;intro v1 w1 hown1 hg1;have HO1:Hid _:=hown1;have HG1:Hid _:=hg1;clear hown1 hg1);go_meet;exact⟨os++[(100,1)],HO1,⟨by simp,by have:=H0.o;simp;omega,by intro o ho;rw[QE,Qt]at ho;rcases ho with ho|rfl;exact HOK.o o ho;exact⟨by decide,by decide⟩⟩,(HT.o.trans (Ta NoB wA _) noE).trans (Tg HG1.o) (λj hj=>.inr (HOO.o.own j hj.symm).1)⟩
    ·have h0i:¬(os.length:Int)=0:=(by omega);have H0:Hid _:=h0;clear h0;go_wp2;go_meet;exact⟨os,HOO,⟨by have:=H0.o;omega,HL3.o,HOK.o⟩,HT⟩
   case rest=>
   obtain⟨os',HOP,HOQ,HTB⟩:=hcut;obtain⟨wB,hwB⟩:∃wB,wB=wc:=⟨wc,rfl⟩
   subst hwB;clear HOO HOL HOK HT HL3 hgo;obtain⟨vb,vd,hu5⟩:=HOP.o.shape;subst hu5;go_wp2_with fail;refine(HWI.o _).mono ?_;rintro _ w1⟨⟨wj,hw1,hw32,rfl⟩,ht1⟩;have HT1:Hid (Tch NoB w w1):=HTB.o.trans ht1 noE;have HO1:Hid (OOwn w.heap.size w1 (.slice vb os'.length vd) os'):=HOP.o.tch ht1 (λ_ _ e=>e);have HF1:Hid (Xm E base w1):=HF.o.tch HT1.o noE;have HNW:Hid (Calls _ _ _ w1 _):=M.make wj (.slice vb os'.length vd) os' hw1 hw32 HF1.o (Qm HB.o HT1.o.size) HO1.o.at HOQ.o.1 HOQ.o.2.1 HOQ.o.2.2;clear ht1;go_wp2_with fail;refine HNW.o.mono ?_;rintro _ w2⟨ht2,lb,F,hd,st,rfl,hat,hrc⟩;have HT2:Hid (Tch NoB w w2):=HT1.o.trans ht2 noE;have HO2:Hid (OOwn w.heap.size w2 (.slice vb os'.length vd) os'):=HO1.o.tch ht2 (λ_ _ e=>e);have HAT:Hid _:=hat;have HRC:Hid (_=_):=hrc;have HF2:Hid (Xm E base w2):=HF.o.tch HT2.o noE;clear ht2 hat hrc HNW;have hn3:=HOQ.o.2.1;have HQ:Hid (1<=os'.length/\os'.length<=3/\∀o∈os',Jy o):=HOQ.o;have hwn:IntKind.u8.wrap (os'.length:Int)=(os'.length:Int):=(by simp[IntKind.wrap,IntKind.bits,IntKind.signed];omega);have hby:=Jhp os'.length w2 (by omega);have hadd0:=YP [71] [UInt8.ofNat os'.length] (by simp);have HX0:Hid ([71]++[UInt8.ofNat os'.length]=frT os' 0):=(by rw[frT,beL1];simp:[71]++[UInt8.ofNat os'.length]=frT os' 0)
   have TB2:Hid (Tch NoB w (w2.alloc (.cells #[.int .u8 (os'.length:Int)] 5))):=HT2.o.trans (Ta NoB w2 _) noE;have OB2:Hid (OOwn w.heap.size (w2.alloc (.cells #[.int .u8 (os'.length:Int)] 5)) (.slice vb os'.length vd) os'):=HO2.o.tch (Ta NoB w2 _) (λ_ _ e=>e);have TL2:Hid (Tch NoB w2 (w2.alloc (.cells #[.int .u8 (os'.length:Int)] 5))):=Ta NoB w2 _;generalize [71]++[UInt8.ofNat os'.length]=X0 at *;clear HOQ HOP HTB HT1 HO1 HF1;go_wp2;clear hby hadd0 hwn;go_loopw [10,11] (λsx i wr=>∃k:Nat,k<=os'.length/\i=.int .i64 k/\sx=.string ⟨(frT os' k).toArray⟩/\Hid (OOwn w.heap.size wr (.slice vb os'.length vd) os')/\Hid (Tch NoB w2 wr)) (λ_ i _=>os'.length-(intOf i).toNat)
   case atStart=>exact⟨0,by omega,rfl,by rw[HX0.o],OB2.out,TL2.out⟩
   case round=>
    clear HX0 TB2 OB2 TL2;obtain⟨k,hk,rfl,rfl,HOO,HT⟩:=hrel
    by_cases hlt:k<os'.length
    ·rcases HOO.o.at with⟨e,_⟩|⟨gi,oi,cc,e,_,hgi,hcell⟩
     ·simp only[Qy]at e;omega
     simp only[Qy,true_and]at e;obtain⟨rfl,rfl⟩:=e;obtain⟨q0,q1⟩:=hcell k hlt;have hok:=HQ.o.2.2 _ (Qx hlt);have hlti:(k:Int)<(os'.length:Int):=(by omega);have hadd:=YP (frT os' k) (outB os'[k]) (by have:=Jik os' HQ.o.2.1 k;rw[JaE];omega);rw[<-JkV os' k hlt]at hadd;have HLT:Hid _:=hlt;have HKT:Hid (Calls _ _ _ wr _):=Jb4 os'[k].1 os'[k].2 wr hok.2;clear hcell hok;generalize os'[k]=o at *;obtain⟨oa,oo⟩:=o;simp only at q0 q1;generalize hX1:frT os' (k+1)=X1 at *;generalize frT os' k=X0 at *;have HX1:Hid (_=X1):=hX1;clear hX1;generalize outB (oa,oo)=cb at *;go_wp2_with (go_at_call 38;refine HKT.o.mono ?_;rintro _ w3⟨rfl,ht3⟩;have HT3:Hid _:=ht3;clear ht3);go_roundw
     case rel=>exact⟨k+1,HLT.o,by go_num,by rw[HX1.o],HOO.o.tch HT3.o (λ_ _ e=>e),HT.o.trans HT3.o noE⟩
     case measure=>have:=HLT.o;simp[intOf];omega
    ·have HK:Hid (k=os'.length):=(by omega:k=os'.length)
     have hge:¬(k:Int)<(os'.length:Int):=(by omega);have HX:Hid (frT os' k=71::XE os'):=(by rw[HK.o,frT,XE,List.take_length]:frT os' k=71::XE os')
     have HXL:Hid ((frT os' k).length<=100):=Jik os' HQ.o.2.1 k;have HTW:Hid (Tch NoB w wr):=HT2.o.trans HT.o noE;have HEW:Hid (Env E wr):=(HF.o.tch HTW.o noE).env;obtain⟨S,hS1,hS2⟩:∃S:BA,S=⟨(frT os' k).toArray⟩/\S.data.toList=71::XE os':=⟨_,rfl,by simp[HX.o]⟩
     have hSz:S.size<1152921504606846976:=(by rw[hS1];show (frT os' k).toArray.size<_;have:=HXL.o;simp;omega);have HDG:Hid (Calls prog 39 #[.int .i64 (wj:Int),.string S] wr λe w'=>e=.returned (.string (dgW wj (71::XE os')))/\Tch NoB wr w'):=(ZP wj S wr hw1 hw32 hSz (Qk (by decide) HEW.o.size) HEW.o.table).mono (by rintro _ w'⟨rfl,ht⟩;exact⟨by rw[hS2];rfl,ht⟩);rw[<-hS1];clear hS1 hS2 hSz HX HXL;obtain⟨id,hid⟩:∃id,dgW wj (71::XE os')=id:=⟨_,rfl⟩
     have HIDS:id.size=wj:=(by rw[<-hid];exact Jz wj hw32 _);rw[hid]at HDG HRC;clear hid;go_upto_region 18 with(go_at_call 39;refine HDG.o.mono ?_;rintro _ w3⟨rfl,ht3⟩;have HT3:Hid _:=ht3;clear ht3);have HTV:Hid (Tch NoB w w3):=HTW.o.trans HT3.o noE;have HT23:Hid (Tch NoB w2 w3):=HT.o.trans HT3.o noE;have HO3:Hid (OOwn w.heap.size w3 (.slice vb os'.length vd) os'):=HOO.o.tch HT3.o (λ_ _ e=>e);have hszi:(id.size:Int)=(wj:Int):=(by rw[HIDS]);have HIDH:Hid _:=HIDS;have HTU:Hid (Tch NoB w w2):=HT2.o;clear HIDS HOO HT HTW HEW HDG HT3 HT2 HO2 HF2 HK;go_upto_region 20 with fail;clear hszi;go_wp2;go_loopw [13,14] (λvn i wr=>∃k:Nat,k<=os'.length/\i=.int .i64 k/\Hid (HOwn w2.heap.size wr vn (XD id os' k))/\Hid (OOwn w.heap.size wr (.slice vb os'.length vd) os')/\Hid (Tch NoB w2 wr)) (λ_ i _=>os'.length-(intOf i).toNat)
     case atStart=>exact⟨0,by omega,rfl,HOwn.nil _ _,HO3.o,HT23.o⟩
     case round=>
      clear HO3 HT23 HTV;obtain⟨k,hk,rfl,HHO,HOO,HT⟩:=hrel;obtain⟨na,nc,hvn⟩:=HHO.o.shape;obtain⟨nl,hnl⟩:∃nl,(XD id os' k).length=nl:=⟨_,rfl⟩
      rw[hnl]at hvn;subst hvn;have HNL:Hid _:=hnl;have HNK:Hid ((XD id os' k).length=k):=(by simp[XD]:(XD id os' k).length=k)
      clear hnl
      by_cases hlt:k<os'.length
      ·rcases HOO.o.at with⟨e,_⟩|⟨gi,oi,cc,e,_,hgi,hcell⟩
       ·simp only[Qy]at e;omega
       simp only[Qy,true_and]at e;obtain⟨rfl,rfl⟩:=e;obtain⟨q0,q1⟩:=hcell k hlt;have hlti:(k:Int)<(os'.length:Int):=(by omega);have HLT:Hid _:=hlt;have HSU:Hid (XD id os' (k+1)=XD id os' k++[((id,(k:Int)),os'[k])]):=(by
        have eg:os'.getD k (0,0)=os'[k]:=(by rw[Qn,Qd hlt];rfl);rw[Jcn,eg]:XD id os' (k+1)=XD id os' k++[((id,(k:Int)),os'[k])])
       clear hcell;generalize os'[k]=o at *;obtain⟨oa,oo⟩:=o;simp only at q0 q1;have HNW:Hid (JR (wr.alloc (.cells #[.string id,.int .i64 (k:Int),.int .u64 ((oa:Nat):Int),.int .u8 ((oo:Nat):Int)] 87)) (.slice (some ⟨wr.heap.size,0,none⟩) 1 1) [((id,(k:Int)),(oa,oo))]):=Jgg wr (id,(k:Int)) (oa,oo);have HHW:Hid (HOwn w2.heap.size (wr.alloc (.cells #[.string id,.int .i64 (k:Int),.int .u64 ((oa:Nat):Int),.int .u8 ((oo:Nat):Int)] 87)) (.slice na nl nc) (XD id os' k)):=HHO.o.tch (Ta NoB wr _) (λ_ _ e=>e);have TAL:Hid (Tch NoB w2 (wr.alloc (.cells #[.string id,.int .i64 (k:Int),.int .u64 ((oa:Nat):Int),.int .u8 ((oo:Nat):Int)] 87))):=HT.o.trans (Ta NoB wr _) noE;go_wp2_with (at_builtin;refine XA rfl _ _ rfl rfl HHW.o _ [((id,(k:Int)),(oa,oo))] rfl HNW.o (by rw[HNK.o];simp;omega) (Qm HT.o.size (Ta NoB wr _).size) ?_;intro v1 w1 hown1 hg1;have HO1:Hid _:=hown1;have HG1:Hid _:=hg1;clear hown1 hg1);go_roundw
       case rel=>exact⟨k+1,HLT.o,by go_num,by rw[HSU.o];exact HO1,(HOO.o.tch (Ta NoB wr _) (λ_ _ e=>e)).tch (Tg HG1.o) (Jdk (HOO.o.tch (Ta NoB wr _) (λ_ _ e=>e)) HHW.o),TAL.out.trans (Tg HG1.o) (λj hj=>.inr (HHO.o.own j hj.symm).1)⟩
       case measure=>have:=HLT.o;simp[intOf];omega
      ·have HK:Hid (k=os'.length):=(by omega:k=os'.length)
       have hge:¬(k:Int)<(os'.length:Int):=(by omega);go_wp2;go_ret;have tA:=(Ta NoB wr (.cells #[.slice na nl nc] 43)).trans (Ta NoB _ (.cells #[.pointer (some ⟨lb,0,none⟩),.int .i64 (wj:Int),.slice (some ⟨wr.heap.size,0,none⟩) 1 1,.int .i64 0] 35)) (λ_ h=>.inl h);have hbw:base<=wr.heap.size:=Qm HB.o (Qm HTU.o.size HT.o.size);refine⟨(HTU.o.trans HT.o noE).trans tA noE,wj,wr.heap.size+1,lb,F,[(hd,st)],.slice (some ⟨wr.heap.size,0,none⟩) 1 1,[(na,nl,nc)],[XD id os' k],hw1,hw32,rfl,?_,rfl,?_⟩
       ·refine⟨heap_alloc2_new _ _ _,(M.led wj).keep ((M.led wj).keep HAT.o HT.o (λ_ e=>e.elim)) tA (λ_ e=>e.elim),⟨rfl,.inr ⟨wr.heap.size,1,#[.slice na nl nc],rfl,hbw,heap_alloc2_old _ _ _,Ql _,by decide,rfl,rfl⟩⟩,by omega,?_,⟨rfl,rfl,by simp⟩,by simp,?_⟩
        ·intro i x l hx hl
         cases i with
         | zero=>
          simp only[List.getElem?_cons_zero,Qh]at hx hl;subst hx;subst hl;exact HHO.o.t.tch tA (λ_ _ e=>e)
         | succ i=>simp at hx
        ·intro i d l _ hd' hl
         cases i with
         | zero=>
          simp only[List.getElem?_cons_zero,Qh]at hd' hl;subst hd';subst hl;rw[HK.o];exact Jhk wj os' HQ.o.2.2 HQ.o.2.1 id HIDH.o st HRC.o
         | succ i=>simp at hd'
       ·intro l hl;simp only[Qt]at hl;subst hl;have:=HNK.o;have:=HQ.o.2.1;omega
open Go.RowKit Go.Shelf

attribute [local go_sem] Oper.semAt_some

theorem JbJ{W W':World}{row:Option Nat}{B:Nat}{cs:Array Value}{T:TypeId}{m:Nat×Nat}(h:W.heap[B]? =some (.cells cs T m))(hg:W.grownBy W' row)(hr:∀r,row=some r->∃o:Obj,W.heap[r]? =some o/\o.isCells=false):W'.heap[B]? =some (.cells cs T m):=by
 refine(hg.block B (Jb h) (λe=>?_)).trans h;obtain⟨o,ho,hc⟩:=hr B e.symm;rw[h]at ho
 cases ho
 cases hc

attribute [local go_sem] Oper.semAt_some

theorem Yo{P:Program}{ops:Array Oper}{o:Oper}{a:Act}{K:Act->World->Prop}{Q:Exit->Act->World->Prop}{E:Prop}{xv v':Value}(hgd:o.guard=none)(s x:Operand)(T:TypeId)(ho:o.op=.call { callee:=.builtin .append,args:= #[s,x],argTypes:= #[T,T] })
 (hv:a.eval s=v) (hx:a.eval x=xv) (hr:(Builtin.append_ #[T,T] o.type #[v,xv]).run P w=.ok v' w') (hK:K (a.put o.dst v') w'):if Region.wanted o (yielded ops a.tmps)=true then Oper.wp P o a w K Q else E:=by
 have hw:Region.wanted o (yielded ops a.tmps)=true:=by simp[Region.wanted,hgd]
 rw[if_pos hw];unfold Oper.wp;simp[execOp,ho,resolve,invoke,builtin,hv,hx,hr,Result.andThen];exact hK

theorem XY{c:BA×Int}(hc:Jk wj c):(Je c).length=wj+1:=(Jb0 hc (o:=(0,0)) ⟨by decide,by decide⟩).1

theorem Jbl(h:JB w cb wj fl r bs v)(k:Nat)(b:BV)(hk:bs[k]? =some b)(hf:fl<=k):
  Calls prog 92 #[.pointer (some ⟨cb,0,none⟩),.int .i64 (k:Int)] w λe w'=>e=.returned (.tuple #[Jv b.2.1 b.2.2,.nilIface])/\Tch NoB w w':=by
 obtain⟨W,hW⟩:∃W,W=w.alloc (.cells #[.int .i64 0,.pointer none] 146):=⟨_,rfl⟩
 have hA:Tch NoB w W:=by rw[hW];exact Ta _ _ _
 have c1:W.cell? ⟨cb,1,none⟩=some (.int .i64 (fl:Int)):=Ja (h.next hA).row;have HAT:Hid (Calls _ _ _ _ _):=Jnb (h.next hA) k b hk;have hrow:W.heap[w.heap.size]? =some (.cells #[.int .i64 0,.pointer none] 146):=by rw[hW];exact Qf _ _
 have HW:Hid (W=w.alloc (.cells #[.int .i64 0,.pointer none] 146)):=hW;have HR:Hid (W.heap[w.heap.size]? =_):=hrow;have HA:Hid (Tch _ w W):=hA;obtain⟨bh,bu,bq⟩:=b;obtain⟨rv,hrv⟩:∃rv,Jh bq=.pointer rv:=⟨_,rfl⟩
 simp only[bV]at HAT;show Calls _ _ _ _ λe w'=>e=.returned (.tuple #[.agg #[_,Jh bq],.nilIface])/\_;rw[hrv]at HAT ⊢;have hlt:¬(k:Int)<(fl:Int):=by omega
 clear h hk hW hrow hA hrv hf;go_enter func92,ntmps92;go_upto_region 1 with fail;rw[<-HW.o];go_wp2_with fail;refine HAT.o.mono ?_;rintro _ w2⟨rfl,ht2⟩;have hr2:w2.heap[w.heap.size]? =some (.cells #[.int .i64 0,.pointer none] 146):=(ht2.block _ (Jb HR.o) (λh=>h)).trans HR.o;have hz2:=(Jb hr2)
 obtain⟨W3,hW3⟩:∃W3,W3=w2.alloc (.cells #[.string bh,.int .i64 (bu:Int),.pointer rv] 148):=⟨_,rfl⟩
 have t3:Tch NoB w2 W3:=by rw[hW3];exact Ta _ _ _
 have hr3:W3.heap[w.heap.size]? =some (.cells #[.int .i64 0,.pointer none] 146):=(t3.block _ hz2 (λh=>h)).trans hr2;have hq3:W3.heap[w2.heap.size]? =some (.cells #[.string bh,.int .i64 (bu:Int),.pointer rv] 148):=by rw[hW3];exact Qf _ _
 have r0:W3.cell? ⟨w.heap.size,0,none⟩=some (.int .i64 0):=Ja hr3;have r1:W3.cell? ⟨w.heap.size,1,none⟩=some (.pointer none):=Ja hr3;have fR:∀j,W3.frozen? ⟨w.heap.size,j,none⟩=false:=λj=>Qg _ _ _ _ _ hr3;have q1:W3.cell? ⟨w2.heap.size,1,none⟩=some (.int .i64 (bu:Int)):=Ja hq3;have q2:W3.cell? ⟨w2.heap.size,2,none⟩=some (.pointer rv):=Ja hq3;have HR3:Hid (W3.heap[w.heap.size]? =_):=hr3;have HW3:Hid (W3=_):=hW3;have HT3:Hid (Tch NoB w W3):=(HA.o.go ht2).go t3;clear ht2 hr2 t3 hr3 hq3 hW3 HAT HR HA HW c1;go_upto_region 4 with fail;rw[<-HW3.o];go_wp2;rw[set2 _ _ _ _ _ _ _ HR3.o];refine QJ (v:=.tuple #[.agg #[.int .i64 (bu:Int),.pointer rv],.nilIface]) (Jn results92 _ _ w.heap.size _ _ (0,0) _ rfl (Qi _ _ _ _ _ _ HR3.o) underlying146 rfl (by kernel_rfl)) rfl ⟨rfl,?_⟩;exact HT3.o.trans (Ts _ _ _) (λj hj=>.inr (by omega))
theorem JgY(E:Nat->Addr)(hE:Env E w)(h:JB w cb wj fl r bs v)(k:Int)(hk:k<(fl:Int)):
  Calls prog 92 #[.pointer (some ⟨cb,0,none⟩),.int .i64 k] w λe w'=>∃t u,e=.returned (.tuple #[Jv 0 none,.iface t u])/\Jp E 5 w' (.iface t u)/\Tch NoB w w':=by
 obtain⟨W,hW⟩:∃W,W=w.alloc (.cells #[.int .i64 0,.pointer none] 146):=⟨_,rfl⟩
 have hA:Tch NoB w W:=by rw[hW];exact Ta _ _ _
 have c1:W.cell? ⟨cb,1,none⟩=some (.int .i64 (fl:Int)):=Ja (h.next hA).row;have hrg:=(hE.tch hA noE).range;have hsz:=(hE.tch hA noE).size;have hGs:5<W.heap.size:=Qk (by decide) hsz;have hrow:W.heap[w.heap.size]? =some (.cells #[.int .i64 0,.pointer none] 146):=by rw[hW];exact Qf _ _
 have r0:W.cell? ⟨w.heap.size,0,none⟩=some (.int .i64 0):=Ja hrow;have r1:W.cell? ⟨w.heap.size,1,none⟩=some (.pointer none):=Ja hrow;have fR:∀j,W.frozen? ⟨w.heap.size,j,none⟩=false:=λj=>Qg _ _ _ _ _ hrow;have HW:Hid (W=w.alloc (.cells #[.int .i64 0,.pointer none] 146)):=hW;have HR:Hid (W.heap[w.heap.size]? =_):=hrow;have HA:Hid (Tch _ w W):=hA;have hz:w.heap.size<W.heap.size:=(Jb hrow)
 show Calls _ _ _ _ λe w'=>∃t u,e=.returned (.tuple #[.agg #[.int .i64 0,.pointer none],.iface t u])/\_;clear h hW hrow hA hE hsz;go_enter func92,ntmps92;go_upto_region 1 with fail;rw[<-HW.o];go_wp2_with fail;refine(Xl _ _ _ _).mono ?_;rintro _ _⟨rfl,rfl⟩;have hrow2:(W.alloc (.cells #[.string ⟨#[104,101,105,103,104,116]⟩,eV E 5] 237)).heap[w.heap.size]? =some (.cells #[.int .i64 0,.pointer none] 146):=(Below.heap_alloc W _ _ hz).trans HR.o;have hpl:=Qf W (.cells #[.string ⟨#[104,101,105,103,104,116]⟩,eV E 5] 237);have t2:=Ta NoB W (.cells #[.string ⟨#[104,101,105,103,104,116]⟩,eV E 5] 237);have HR2:Hid (_=_):=hrow2;have HPL:Hid (_=_):=hpl;have HT2:Hid (Tch _ W _):=t2;have r0:(W.alloc (.cells #[.string ⟨#[104,101,105,103,104,116]⟩,eV E 5] 237)).cell? ⟨w.heap.size,0,none⟩=some (.int .i64 0):=Ja hrow2;have r1:(W.alloc (.cells #[.string ⟨#[104,101,105,103,104,116]⟩,eV E 5] 237)).cell? ⟨w.heap.size,1,none⟩=some (.pointer none):=Ja hrow2;have fR:∀j,(W.alloc (.cells #[.string ⟨#[104,101,105,103,104,116]⟩,eV E 5] 237)).frozen? ⟨w.heap.size,j,none⟩=false:=λj=>Qg _ _ _ _ _ hrow2;clear hrow2 hpl t2;generalize W.alloc (.cells #[.string ⟨#[104,101,105,103,104,116]⟩,eV E 5] 237)=W2 at *;go_wp2;rw[set2 _ _ _ _ _ _ _ HR2.o];refine QJ (v:=.tuple #[.agg #[.int .i64 0,.pointer none],.iface 235 (.pointer (some ⟨W.heap.size,0,none⟩))]) (Jn results92 _ _ w.heap.size _ _ (0,0) _ rfl (Qi _ _ _ _ _ _ HR2.o) underlying146 rfl (by kernel_rfl)) rfl ⟨_,_,rfl,?_,?_⟩
 ·exact .wrap W.heap.size ⟨#[104,101,105,103,104,116]⟩ (eV E 5) ((setRow_other _ _ _ _ (by omega)).trans HPL.o) .base
 ·exact(HA.o.go HT2.o).trans (Ts _ _ _) (λj hj=>.inr (by omega))
theorem Jfx(E:Nat->Addr)(hE:Env E w)(h:JB w cb wj fl r bs v)(k:Int)(hf:(fl:Int)<=k)(hk:¬(0<=k/\k<bs.length)):
  Calls prog 92 #[.pointer (some ⟨cb,0,none⟩),.int .i64 k] w λe w'=>∃t u,e=.returned (.tuple #[Jv 0 none,.iface t u])/\Jp E 5 w' (.iface t u)/\Tch NoB w w':=by
 obtain⟨W,hW⟩:∃W,W=w.alloc (.cells #[.int .i64 0,.pointer none] 146):=⟨_,rfl⟩
 have hA:Tch NoB w W:=by rw[hW];exact Ta _ _ _
 have c1:W.cell? ⟨cb,1,none⟩=some (.int .i64 (fl:Int)):=Ja (h.next hA).row;have HAT:Hid (Calls _ _ _ _ _):=JkA E (hE.tch hA noE) (h.next hA) k hk;have hrow:W.heap[w.heap.size]? =some (.cells #[.int .i64 0,.pointer none] 146):=by rw[hW];exact Qf _ _
 have HW:Hid (W=w.alloc (.cells #[.int .i64 0,.pointer none] 146)):=hW;have HR:Hid (W.heap[w.heap.size]? =_):=hrow;have HA:Hid (Tch _ w W):=hA;simp only[bV,Jh,Option.map_none]at HAT;show Calls _ _ _ _ λe w'=>∃t u,e=.returned (.tuple #[.agg #[.int .i64 0,.pointer none],.iface t u])/\_;have hlt:¬k<(fl:Int):=by omega
 clear h hk hW hrow hA hf hE;go_enter func92,ntmps92;go_upto_region 1 with fail;rw[<-HW.o];go_wp2_with fail;refine HAT.o.mono ?_;rintro _ w2⟨t,u,rfl,he2,ht2⟩;have hr2:w2.heap[w.heap.size]? =some (.cells #[.int .i64 0,.pointer none] 146):=(ht2.block _ (Jb HR.o) (λh=>h)).trans HR.o;have hz2:=(Jb hr2)
 obtain⟨W3,hW3⟩:∃W3,W3=w2.alloc (.cells #[.string ⟨#[]⟩,.int .i64 0,.pointer none] 148):=⟨_,rfl⟩
 have t3:Tch NoB w2 W3:=by rw[hW3];exact Ta _ _ _
 have hr3:W3.heap[w.heap.size]? =some (.cells #[.int .i64 0,.pointer none] 146):=(t3.block _ hz2 (λh=>h)).trans hr2;have hq3:W3.heap[w2.heap.size]? =some (.cells #[.string ⟨#[]⟩,.int .i64 0,.pointer none] 148):=by rw[hW3];exact Qf _ _
 have r0:W3.cell? ⟨w.heap.size,0,none⟩=some (.int .i64 0):=Ja hr3;have r1:W3.cell? ⟨w.heap.size,1,none⟩=some (.pointer none):=Ja hr3;have fR:∀j,W3.frozen? ⟨w.heap.size,j,none⟩=false:=λj=>Qg _ _ _ _ _ hr3;have q1:W3.cell? ⟨w2.heap.size,1,none⟩=some (.int .i64 0):=Ja hq3;have q2:W3.cell? ⟨w2.heap.size,2,none⟩=some (.pointer none):=Ja hq3;have HR3:Hid (W3.heap[w.heap.size]? =_):=hr3;have HW3:Hid (W3=_):=hW3;have HT3:Hid (Tch NoB w W3):=(HA.o.go ht2).go t3;have HE3:Hid (Jp E 5 W3 (.iface t u)):=he2.tch t3 (λ_ _ _ _ h=>h);clear ht2 hr2 t3 hr3 hq3 hW3 HAT HR HA HW c1 he2;go_upto_region 4 with fail;rw[<-HW3.o];go_wp2;rw[set2 _ _ _ _ _ _ _ HR3.o];refine QJ (v:=.tuple #[.agg #[.int .i64 0,.pointer none],.iface t u]) (Jn results92 _ _ w.heap.size _ _ (0,0) _ rfl (Qi _ _ _ _ _ _ HR3.o) underlying146 rfl (by kernel_rfl)) rfl ⟨_,_,rfl,?_,?_⟩
 ·exact HE3.o.tch (Ts _ _ _) (λj c x hj e=>by rw[e,HR3.o]at hj;simp at hj)
 ·exact HT3.o.trans (Ts _ _ _) (λj hj=>.inr (by omega))
theorem JgZ(E:Nat->Addr)(hE:Env E w)(h:JB w cb wj fl r bs v)(k:Int)(hk:¬((fl:Int)<=k/\k<bs.length)):
  Calls prog 92 #[.pointer (some ⟨cb,0,none⟩),.int .i64 k] w λe w'=>∃t u,e=.returned (.tuple #[Jv 0 none,.iface t u])/\Jp E 5 w' (.iface t u)/\Tch NoB w w':=by
 by_cases hf:k<(fl:Int)
 ·exact JgY E hE h k hf
 ·exact Jfx E hE h k (by omega) (by omega)

def Zd(base:Nat)(w:World)(v:Value)(l:List Nat):Prop:=
 ((∃a c,v=.slice a 0 c)/\l=[])\/∃g o c,v=.slice (some ⟨g,o,none⟩) l.length c/\g<base/\∀i (h:i<l.length),w.cell? ⟨g,o+i,none⟩=some (.int .u64 ((l[i]:Nat):Int))
theorem Zd.at(h:Zd base w v l)(hb:base<=w.heap.size):ZG w v l:=by
 rcases h with h|⟨g,o,c,h1,h2,h3⟩
 ·exact .inl h
 ·exact .inr ⟨g,o,c,h1,Qk h2 hb,h3⟩
theorem Zd.tch(h:Zd base w v l)(hb:base<=w.heap.size)(k:Tch S w w')(hs:∀j,S j->base<=j):Zd base w' v l:=by
 rcases h with h|⟨g,o,c,h1,h2,h3⟩
 ·exact .inl h
 ·refine .inr ⟨g,o,c,h1,h2,λi hi=>?_⟩;rw[k.cell (p:=⟨g,o+i,none⟩) (Qk h2 hb) (λe=>by have:=hs _ e;simp only at this;omega)];exact h3 i hi
def YN(base:Nat)(w:World)(v:Value)(ps:List PayL):Prop:=
 ((∃a c,v=.slice a 0 c)/\ps=[])\/∃g o c,v=.slice (some ⟨g,o,none⟩) ps.length c/\g<base/\∀i (h:i<ps.length),∃va,Zd base w va ps[i].amounts/\
  w.cell? ⟨g,o+i*6,none⟩=some (.int .i64 ps[i].from_)/\w.cell? ⟨g,o+i*6+1,none⟩=some (.int .i64 ps[i].many)/\w.cell? ⟨g,o+i*6+2,none⟩=some va/\w.cell? ⟨g,o+i*6+3,none⟩=some (.int .u8 ((ps[i].owner:Nat):Int))/\w.cell? ⟨g,o+i*6+4,none⟩=some (.bool ps[i].wild)/\w.cell? ⟨g,o+i*6+5,none⟩=some (.bool ps[i].other)
theorem YN.at{l:List PayL}(h:YN base w v l)(hb:base<=w.heap.size):JeN w v l:=by
 rcases h with h|⟨g,o,c,h1,h2,h3⟩
 ·exact .inl h
 ·refine .inr ⟨g,o,c,h1,Qk h2 hb,λi hi=>?_⟩;obtain⟨va,hn,hr⟩:=h3 i hi;exact⟨va,hn.at hb,hr⟩
theorem YN.tch{l:List PayL}(h:YN base w v l)(hb:base<=w.heap.size)(k:Tch S w w')(hs:∀j,S j->base<=j):YN base w' v l:=by
 rcases h with h|⟨g,o,c,h1,h2,h3⟩
 ·exact .inl h
 ·refine .inr ⟨g,o,c,h1,h2,λi hi=>?_⟩;obtain⟨va,hn,hr⟩:=h3 i hi;have hc:∀o,w'.cell? ⟨g,o,none⟩=w.cell? ⟨g,o,none⟩:=λo=>k.cell (p:=⟨g,o,none⟩) (Qk h2 hb) (λe=>by have:=hs _ e;simp only at this;omega);refine⟨va,hn.tch hb k hs,?_⟩;rw[hc,hc,hc,hc,hc,hc];exact hr
structure JcT where
 kind:Int
 a:Int
 b:Int
 pays:List PayL
def Jat(base:Nat)(w:World)(v:Value)(l:List JcT):Prop:=
 (v=.slice none 0 0/\l=[])\/∃g o c,v=.slice (some ⟨g,o,none⟩) l.length c/\g<base/\∀i (h:i<l.length),∃va,YN base w va l[i].pays/\
  w.cell? ⟨g,o+i*4,none⟩=some (.int .i64 l[i].kind)/\w.cell? ⟨g,o+i*4+1,none⟩=some (.int .i64 l[i].a)/\w.cell? ⟨g,o+i*4+2,none⟩=some (.int .i64 l[i].b)/\w.cell? ⟨g,o+i*4+3,none⟩=some va
theorem Jat.shape{l:List JcT}(h:Jat base w v l):∃a c,v=.slice a l.length c:=by
 rcases h with⟨rfl,rfl⟩|⟨gi,oi,c,rfl,_⟩
 ·exact⟨none,0,rfl⟩
 ·exact⟨_,_,rfl⟩

theorem JL.apart{L:Led E wj base}{xb lb:Nat}{F:Nat->Prop}{ch:Ch}{vst:Value}{sl:List Sl}{states:List (List Held)}(h:JL L w xb lb F fl ch vst sl states):
  ∀j cur T m,w.heap[j]? =some (.cells cur T m)->T=35\/T=43\/T=87->¬F j:=λj cur T m hr hT hF=>by
 obtain⟨h1,h2,h3⟩:=L.kinds h.led j hF cur T m hr
 rcases hT with hT|hT|hT
 ·exact h1 hT
 ·exact h2 hT
 ·exact h3 hT
