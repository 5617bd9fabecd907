import Derived.Test.YtighkdnooglfjaaGreatDoorLcLiY
namespace Go.Proofs.YtighkdnooglfjaaGreatDoor
open Go.Proofs.Tryz
set_option maxRecDepth 100000
set_option maxHeartbeats 4000000
open Go.RowKit

variable {co:BA×Int}{b:ByL}{L:List (List UInt8)}{s:List BA}{l l2:List Held}{d:List UInt8->BA}{wj:Nat}{a:Nat×Nat}{st st1 st2:Option Tr}{v:Vw}{w:World}
structure VwOk(b:ByL)(ok:BA->Prop)(v:Vw):Prop where
 nm:v.met.Nodup
 sub:∀e∈v.met,e∈b.map (·.1)
 out:v.outs.length<=v.met.length
 keys:∀q∈v.outs,ok q.1
theorem XM.ok(hd:(b.map (·.1)).Nodup){ok:BA->Prop}(hb:∀q∈b,q.2.1=⟨#[76]⟩->ok q.2.2.1){v':Vw}{s:Spot}(h:XM v s (some v'))(hs:s.nd=Xd b s.dg)(hv:VwOk b ok v):VwOk b ok v':=by
 obtain⟨h1,h2,h3⟩:=h.went hs hv.nm hv.sub;refine⟨h1,h2,?_,?_⟩
 ·rcases h with⟨_,h⟩|⟨n,hn,⟨_,h⟩|⟨_,⟨_,⟨_,h⟩|⟨_,h⟩⟩|⟨_,⟨_,h⟩|⟨_,h⟩⟩|⟨_,_,h⟩⟩⟩<;>cases h<;>(have:=hv.out;simp only[Qe,Qp,Qv];omega)
 ·rcases h with⟨_,h⟩|⟨n,hn,⟨_,h⟩|⟨_,⟨hl,⟨_,h⟩|⟨_,h⟩⟩|⟨_,⟨_,h⟩|⟨_,h⟩⟩|⟨_,_,h⟩⟩⟩<;>cases h<;>first|exact hv.keys|skip
  intro q hq
  rcases QE.1 hq with hq|hq
  ·exact hv.keys q hq
  ·rw[Qt]at hq;rw[hq];rw[hs]at hn;exact hb _ ((JbZ hd).1 hn) hl
theorem Jw.ok(hd:(b.map (·.1)).Nodup){ok:BA->Prop}(hb:∀q∈b,q.2.1=⟨#[76]⟩->ok q.2.2.1){st:List Spot}{res:Option Vw}(h:Jw b st v res):∀v',res=some v'->(∀s∈st,s.nd=Xd b s.dg)->VwOk b ok v->v.left.length+st.length<=v.met.length+1->VwOk b ok v'/\v'.left.length<=v'.met.length+1:=by
 induction h using Jw.ri with
 | done v=>
  intro v' e _ hv hl
  cases e
  exact⟨hv,by simpa using hl⟩
 | bad=>intro v' e;cases e
 | step s r v v1 res h1 h2 ih=>
  intro v' e hst hv hl;have hs:=hst s QM;have hw:=h1.went hs hv.nm hv.sub;refine ih v' e (λx hx=>?_) (h1.ok hd hb hs hv) ?_
  ·rcases QE.1 hx with hx|hx
   ·exact Jg6 b s x hx
   ·exact hst x (QP _ hx)
  ·have:=Jg7 b s;simp only[Qe,Qp]at hl ⊢
   rcases hw.2.2 with h|⟨h3,h4,h5⟩
   ·omega
   ·rw[h5];simp only[Qv];omega
structure Jh7(b:ByL)(r1 r2:BA):Prop where
 nd:(b.map (·.1)).Nodup
 w1:¬Jw b [Jt b r1 (-1)] ⟨[],[],[]⟩ none
 w2:¬Jw b [Jt b r2 (-1)] ⟨[],[],[]⟩ none
 all:∀v1 v2,Jw b [Jt b r1 (-1)] ⟨[],[],[]⟩ (some v1)->Jw b [Jt b r2 (-1)] ⟨[],[],[]⟩ (some v2)->(∀d∈b.map (·.1),d∈v1.met\/d∈v2.met)/\v1.left.Perm v2.left
def Jar(b:ByL)(r1 r2:BA)(w:World)(v err:Value)(w':World):Prop:=Tch NoB w w'/\(((∃t u,err=.iface t u)/\¬Jh7 b r1 r2)\/(err=.nilIface/\∃v1 v2,Jw b [Jt b r1 (-1)] ⟨[],[],[]⟩ (some v1)/\Jw b [Jt b r2 (-1)] ⟨[],[],[]⟩ (some v2)/\(v1.outs.map (·.1)).Nodup/\(v2.outs.map (·.1)).Nodup/\∃s:List BA,(s.Nodup/\∀x,x∈s↔x∈v1.outs.map (·.1)\/x∈v2.outs.map (·.1))/\ChgO w.heap.size w' v ((Xk s).filterMap (Zz v1.outs v2.outs))))
theorem Jhe(E:Nat->Addr)(hw1:1<=wj)(hw:wj<=32)(xs:List Jj)(hxs:∀x∈xs,XN wj x)(hl:xs.length<=400000000)(hr:ZJ (xs.map λx=>bsL (txtN x)))(h1 h2:HdL)(hh1:HdOk wj h1)(hh2:HdOk wj h2)(w:World)(hE:Env E w)(hT:Er3 w):
  Calls prog 95 #[.int .i64 (wj:Int),.string ⟨(hdrB h1).toArray⟩,.string ⟨(hdrB h2).toArray⟩,.string ⟨(szsB (xs.map λx=>bsL (txtN x))).toArray⟩] w λe w'=>∃v err,e=.returned (.tuple #[v,err])/\Jar (byOf wj xs) h1.2.2.2 h2.2.2.2 w v err w':=by
 have HCW:Hid (∀V,Calls prog 124 #[.int .i64 (wj:Int)] V _):=λV=>ZI wj V hw1 hw;have HRN:Hid (Calls prog 149 _ w _):=Jd3 E hw1 hw xs hxs (by omega) hr w hE hT;have HTR:Hid (∀(h:HdL)(p:Nat) V,HdOk wj h->((byOf wj xs).map (·.1)).Nodup->Tch NoB w V->MpAt V p (byE (byOf wj xs))->Calls prog 150 #[.agg #[.int .i64 (wj:Int),.map (some p)],.string ⟨(hdrB h).toArray⟩] V _):=λh p V hh hd hV hm=>callsIn_wide.1 (JmY E hw p (byOf wj xs) hd (by simp[byOf];omega) h hh V (hE.tch hV noE) (hT.tch hV noE) hm);have HER:Hid (∀V,Tch NoB w V->Er3 V):=λV hV=>hT.tch hV noE;have HOK:Hid (∀(r:BA) v,((byOf wj xs).map (·.1)).Nodup->Jw (byOf wj xs) [Jt (byOf wj xs) r (-1)] ⟨[],[],[]⟩ (some v)->(∀q∈v.outs,1<=q.1.size/\q.1.size<=1000)/\v.outs.length<=400000000/\v.left.length<=1000000000):=λr v hd hk=>by
  obtain⟨k1,k2⟩:=hk.ok hd (ok:=λx=>1<=x.size/\x.size<=1000) (λq hq he=>by
   obtain⟨x,hx,rfl⟩:=QK.1 hq;dsimp only at he ⊢
   rcases hxs x hx with rfl|⟨t,rfl,ht⟩
   ·exact absurd he (by decide)
   ·cases t using Tr.ri with
    | leaf k o=>
     have:=ht.1;simp only[JF];show 1<=k.toArray.size/\k.toArray.size<=1000;simp;omega
    | br bb l r=>exact absurd he (by simp[JF])) v rfl (λs hs=>by rw[Qt]at hs;rw[hs];rfl) ⟨List.nodup_nil,λ_ h=>(by cases h),by simp,λ_ h=>(by cases h)⟩ (by simp)
  have h3:=XU v.met ((byOf wj xs).map (·.1)) k1.nm k1.sub;have h4:(byOf wj xs).length=xs.length:=by simp[byOf]
  rw[QL,h4]at h3;have:=k1.out;exact⟨k1.keys,by omega,by omega⟩
 have HHH:Hid (HdOk wj h1/\HdOk wj h2):=⟨hh1,hh2⟩
 have HS1:=HTR.o h1;have HS2:=HTR.o h2;have HTR1:Hid _:=HS1;have HTR2:Hid _:=HS2;clear HS1 HS2 HTR hE hT hr hl hxs hh1 hh2;generalize (⟨(hdrB h1).toArray⟩:BA)=hb1 at *;generalize (⟨(hdrB h2).toArray⟩:BA)=hb2 at *;generalize h1.2.2.2=r1 at *;generalize h2.2.2.2=r2 at *;generalize (⟨(szsB (xs.map λx=>bsL (txtN x))).toArray⟩:BA)=tx at *;generalize byOf wj xs=b at *;go_enter func95,ntmps95;go_wp2_with fail;refine(HCW.o w).mono ?_;rintro _ _⟨rfl,rfl⟩;go_wp2_with fail;refine HRN.o.mono ?_;clear HRN HCW;rintro _ w1⟨ht1,p,hp,⟨rfl,hnd,hmp⟩|⟨hnn,t,u,rfl⟩⟩
 case inr=>have HT1:Hid (Tch NoB w w1):=ht1;have HNN:Hid (JaM b):=hnn;clear ht1 hnn;go_wp2_with fail;refine(Xl _ t u _).mono ?_;rintro _ _⟨rfl,rfl⟩;go_wp2;go_ret2;exact⟨_,_,rfl,(HT1.o.go (Ta _ _ _)).go (Ta _ _ _),.inl ⟨⟨_,_,rfl⟩,λh=>HNN.o h.nd⟩⟩
 obtain⟨W2,hW2⟩:∃W2,W2=w1.alloc (.cells #[.int .i64 (wj:Int),.map (some p)] 264):=⟨_,rfl⟩
 have t2:Tch NoB w W2:=by rw[hW2];exact ht1.go (Ta _ _ _)
 have hr2:W2.heap[w1.heap.size]? =some (.cells #[.int .i64 (wj:Int),.map (some p)] 264):=by rw[hW2];exact Qf _ _
 have HM2:Hid (MpAt W2 p (byE b)):=by show MpAt W2 p (byE b);rw[hW2];exact hmp.next (Ta NoB _ _) (λh=>h)
 have HTL:Hid (∀V,Tch NoB W2 V->V.cell? ⟨w1.heap.size,0,none⟩=some (.int .i64 (wj:Int))/\V.cell? ⟨w1.heap.size,1,none⟩=some (.map (some p))):=λV hV=>by
  have q:=(hV.block _ (Jb hr2) (λh=>h)).trans hr2;exact⟨Ja q,Ja q⟩
 have HT2:Hid (Tch NoB w W2):=t2;have HND:Hid ((b.map (·.1)).Nodup):=hnd;have HW2:Hid (W2=_):=hW2;obtain⟨c0,c1⟩:=HTL.o W2 (Te _ _);clear ht1 hnd hmp t2 hr2 hW2;go_upto_region 7 with fail;rw[<-HW2.o];go_wp2_with fail;refine(HTR1.o p W2 HHH.o.1 HND.o HT2.o HM2.o).mono ?_;clear HTR1 c0 c1;rintro _ w3⟨ht3,⟨v1,pm1,po1,lv1,hwk1,rfl,hv1⟩|⟨hwk,t,u,rfl⟩⟩
 case inr=>have HT3:Hid (Tch NoB w w3):=HT2.o.go ht3;have HWK:Hid (Jw b [Jt b r1 (-1)] ⟨[],[],[]⟩ none):=hwk;clear ht3 hwk;go_wp2_with fail;refine(Xl _ t u _).mono ?_;rintro _ _⟨rfl,rfl⟩;go_wp2;go_ret2;exact⟨_,_,rfl,(HT3.o.go (Ta _ _ _)).go (Ta _ _ _),.inl ⟨⟨_,_,rfl⟩,λh=>h.w1 HWK.o⟩⟩
 obtain⟨a1,k1,hlv1⟩:=hv1.left.shape;generalize hn1:v1.left.length=n1 at hlv1;subst hlv1;obtain⟨W4,hW4⟩:∃W4,W4=w3.alloc (.cells #[.map (some pm1),.map (some po1),.slice a1 n1 k1] 270):=⟨_,rfl⟩
 have t4:Tch NoB w3 W4:=by rw[hW4];exact Ta _ _ _
 have hr4:W4.heap[w3.heap.size]? =some (.cells #[.map (some pm1),.map (some po1),.slice a1 n1 k1] 270):=by rw[hW4];exact Qf _ _
 have HV1:Hid (VwV W2.heap.size W4 pm1 po1 (.slice a1 n1 k1) v1):=hv1.next t4;have HT24:Hid (Tch NoB W2 W4):=ht3.go t4;have HK1:Hid (Jw b [Jt b r1 (-1)] ⟨[],[],[]⟩ (some v1)):=hwk1;have HL1:Hid (∀V,Tch NoB W4 V->V.cell? ⟨w3.heap.size,0,none⟩=some (.map (some pm1))/\V.cell? ⟨w3.heap.size,1,none⟩=some (.map (some po1))/\V.cell? ⟨w3.heap.size,2,none⟩=some (.slice a1 n1 k1)):=λV hV=>by
  have q:=(hV.block _ (Jb hr4) (λh=>h)).trans hr4;exact⟨Ja q,Ja q,Ja q⟩
 have HW4:Hid (W4=_):=hW4;obtain⟨c0,c1⟩:=HTL.o W4 HT24.o;clear ht3 hwk1 hv1 t4 hr4 hW4 hn1;go_upto_region 10 with fail;rw[<-HW4.o];go_wp2_with fail;refine(HTR2.o p W4 HHH.o.2 HND.o (HT2.o.go HT24.o) (HM2.o.next HT24.o (λh=>h))).mono ?_;clear HTR2 c0 c1;rintro _ w5⟨ht5,⟨v2,pm2,po2,lv2,hwk2,rfl,hv2⟩|⟨hwk,t,u,rfl⟩⟩
 case inr=>have HT5:Hid (Tch NoB w w5):=(HT2.o.go HT24.o).go ht5;have HWK:Hid (Jw b [Jt b r2 (-1)] ⟨[],[],[]⟩ none):=hwk;clear ht5 hwk;go_wp2_with fail;refine(Xl _ t u _).mono ?_;rintro _ _⟨rfl,rfl⟩;go_wp2;go_ret2;exact⟨_,_,rfl,(HT5.o.go (Ta _ _ _)).go (Ta _ _ _),.inl ⟨⟨_,_,rfl⟩,λh=>h.w2 HWK.o⟩⟩
 obtain⟨a2,k2,hlv2⟩:=hv2.left.shape;generalize hn2:v2.left.length=n2 at hlv2;subst hlv2;obtain⟨W6,hW6⟩:∃W6,W6=w5.alloc (.cells #[.map (some pm2),.map (some po2),.slice a2 n2 k2] 270):=⟨_,rfl⟩
 have t6:Tch NoB w5 W6:=by rw[hW6];exact Ta _ _ _
 have hr6:W6.heap[w5.heap.size]? =some (.cells #[.map (some pm2),.map (some po2),.slice a2 n2 k2] 270):=by rw[hW6];exact Qf _ _
 have HT46:Hid (Tch NoB W4 W6):=ht5.go t6;have HV2:Hid (VwV W4.heap.size W6 pm2 po2 (.slice a2 n2 k2) v2):=hv2.next t6;have HV1:Hid (VwV W2.heap.size W6 pm1 po1 (.slice a1 n1 k1) v1):=HV1.o.next HT46.o;have HK2:Hid (Jw b [Jt b r2 (-1)] ⟨[],[],[]⟩ (some v2)):=hwk2;have HL2:Hid (∀V,Tch NoB W6 V->V.cell? ⟨w5.heap.size,0,none⟩=some (.map (some pm2))/\V.cell? ⟨w5.heap.size,1,none⟩=some (.map (some po2))/\V.cell? ⟨w5.heap.size,2,none⟩=some (.slice a2 n2 k2)):=λV hV=>by
  have q:=(hV.block _ (Jb hr6) (λh=>h)).trans hr6;exact⟨Ja q,Ja q,Ja q⟩
 have HW6:Hid (W6=_):=hW6;have HT6:Hid (Tch NoB w W6):=(HT2.o.go HT24.o).go HT46.o;have ho1:=HOK.o r1 v1 HND.o HK1.o;have ho2:=HOK.o r2 v2 HND.o HK2.o;have HCK:Hid (Calls prog 151 #[.agg #[.int .i64 (wj:Int),.map (some p)],.agg #[.map (some pm1),.map (some po1),.slice a1 n1 k1],.agg #[.map (some pm2),.map (some po2),.slice a2 n2 k2]] W6 _):=JiQ (wj:Int) p b _ pm1 po1 _ v1 _ pm2 po2 _ v2 W6 (HM2.o.next (HT24.o.go HT46.o) (λh=>h)) HV1.o HV2.o ho1.2.2 ho2.2.2 (HER.o W6 HT6.o);have HCH:Hid (∀V,Tch NoB W6 V->Calls prog 152 #[.map (some po1),.map (some po2)] V _):=λV hV=>JfY po1 po2 v1.outs v2.outs V (HV1.o.next hV).outs (HV2.o.next hV).outs HV1.o.no HV2.o.no ho1.1 ho2.1 (by omega);obtain⟨c0,c1⟩:=HTL.o W6 (HT24.o.go HT46.o);obtain⟨e0,e1,e2⟩:=HL1.o W6 HT46.o;obtain⟨g0,g1,g2⟩:=HL2.o W6 (Te _ _);clear ht5 hwk2 hv2 t6 hr6 hW6 hn2 ho1 ho2;go_upto_region 13 with fail;rw[<-HW6.o];go_wp2_with fail;refine HCK.o.mono ?_;clear HCK c0 c1 e0 e1 e2 g0 g1 g2;rintro _ w7⟨ht7,rfl|⟨⟨t,u,rfl⟩,hno⟩⟩
 case inr=>have HT7:Hid (Tch NoB w w7):=HT6.o.go ht7;have HNO:Hid (¬Jh7 b r1 r2):=λh=>hno (h.all v1 v2 HK1.o HK2.o).1 (h.all v1 v2 HK1.o HK2.o).2;clear ht7 hno;go_wp2_with fail;refine(Xl _ t u _).mono ?_;rintro _ _⟨rfl,rfl⟩;go_wp2;go_ret2;exact⟨_,_,rfl,HT7.o.go (Ta _ _ _),.inl ⟨⟨_,_,rfl⟩,HNO.o⟩⟩
 have HT7:Hid (Tch NoB w w7):=HT6.o.go ht7;have HC7:Hid (Calls prog 152 #[.map (some po1),.map (some po2)] w7 _):=HCH.o w7 ht7;obtain⟨_,e1,_⟩:=HL1.o w7 (HT46.o.go ht7);obtain⟨_,g1,_⟩:=HL2.o w7 ht7;clear ht7 HCH;go_wp2_with fail;refine HC7.o.mono ?_;rintro _ w8⟨v,rfl,s,hs,hch,ht8⟩;have HFIN:Hid (Jar b r1 r2 w v .nilIface w8):=by refine⟨HT7.o.go ht8,.inr ⟨rfl,v1,v2,HK1.o,HK2.o,HV1.o.no,HV2.o.no,s,hs,?_⟩⟩;obtain⟨h7,h8⟩:=hch;refine⟨h7,h8.imp_right ?_⟩;rintro⟨g,cap,cur,h9,h10,h11⟩;exact⟨g,cap,cur,h9,Qm HT7.o.size h10,h11⟩
 obtain⟨a9,c9,hv9⟩:=hch.shape;generalize ((Xk s).filterMap (Zz v1.outs v2.outs)).length=n9 at hv9;subst hv9;clear hs hch ht8 HC7;go_wp2;go_ret2;exact⟨_,_,rfl,HFIN.o⟩

def Jke(b:ByL)(r1 r2:BA)(w:World)(v:Value)(ok:Bool)(w':World):Prop:=Tch NoB w w'/\(Jh7 b r1 r2->ok=true/\∃w0,Jar b r1 r2 w v .nilIface w0/\Tch NoB w0 w')
theorem Jf6{r1 r2:BA}{n:Int}{s1 s2 s3:BA}(h:Calls prog 95 #[.int .i64 n,.string s1,.string s2,.string s3] w λe w'=>∃v err,e=.returned (.tuple #[v,err])/\Jar b r1 r2 w v err w'):
  Calls prog 52 #[.int .i64 n,.string s1,.string s2,.string s3] w λe w'=>∃v ok,e=.returned (.tuple #[v,.bool ok])/\Jke b r1 r2 w v ok w':=by
 have HD:Hid (Calls prog 95 _ w _):=h;clear h;go_enter func52,ntmps52;go_wp2_with fail;refine HD.o.mono ?_;rintro _ w1⟨v,err,rfl,ht,⟨⟨t,u,rfl⟩,hno⟩|⟨rfl,hyes⟩⟩
 ·have HF:Hid (Jke b r1 r2 w v false w1.drew):=⟨ht.go (Td _ _ 1),λh=>absurd h hno⟩
  clear ht hno;go_upto_region 2 with fail;go_region
  all_goals go_wp2;go_ret2;exact⟨_,_,rfl,HF.o⟩
 ·have HF:Hid (Jke b r1 r2 w v true w1.drew):=⟨ht.go (Td _ _ 1),λ_=>⟨rfl,w1,⟨ht,.inr ⟨rfl,hyes⟩⟩,Td _ _ 1⟩⟩
  clear ht hyes;go_upto_region 2 with fail;go_region
  all_goals go_wp2;go_ret2;exact⟨_,_,rfl,HF.o⟩
structure Jn3(o1 o2:List KO)(c:Chg):Prop where
 key:∃k:Key,c.1=⟨k.toArray⟩/\(c.2.1=true↔k∈o1.map (·.1))/\(c.2.2.1=true↔k∈o2.map (·.1))/\(c.2.1=true->(k,c.2.2.2.1)∈o1)/\(c.2.2.1=true->(k,c.2.2.2.2)∈o2)/\(c.2.1=c.2.2.1->c.2.1=true/\c.2.2.2.1 ≠ c.2.2.2.2)
theorem Ys.good(h:Ys d b st1 st2):Jh7 b (JV d st1) (JV d st2):=by
 obtain⟨v1,s1⟩:=h.seen;obtain⟨v2,s2⟩:=h.symm.seen;refine⟨h.nd,λk=>(by cases s1.walk _ k),λk=>(by cases s2.walk _ k),λu1 u2 k1 k2=>?_⟩
 cases s1.walk _ k1
 cases s2.walk _ k2
 exact⟨h.met s1 s2,Ys.left s1 s2⟩
structure Jna(o1 o2:List KO)(L:List Chg):Prop where
 keys:∀k:Key,(⟨k.toArray⟩:BA)∈L.map (·.1)↔(∃a,(k,a)∈o1/\(k,a) ∉ o2)\/(∃a,(k,a)∈o2/\(k,a) ∉ o1)
 ok:∀c∈L,Jn3 o1 o2 c
 rise:∀i (hi:i+1<L.length),(L[i].1).data.toList<(L[i+1].1).data.toList
theorem Jcr(h:∀t,st=some t->t.Wf):((Jr st).map (·.1)).Nodup:=by
 cases st with
 | none=>exact List.nodup_nil
 | some t=>exact Tr.keys_nodup (h t rfl)
theorem Jil{o:List KO}(hd:(o.map (·.1)).Nodup){k:Key}{b:Nat×Nat}(h1:(k,a)∈o)(h2:(k,b)∈o):a=b:=by
 induction o with
 | nil=>cases h1
 | cons q r ih=>
  rw[List.map_cons,List.nodup_cons]at hd
  rcases List.mem_cons.1 h1 with e1|h1<;>rcases List.mem_cons.1 h2 with e2|h2
  ·rw[<-e1]at e2;cases e2;rfl
  ·exact absurd (QK.2 ⟨_,h2,by rw[<-e1]⟩) hd.1
  ·exact absurd (QK.2 ⟨_,h1,by rw[<-e2]⟩) hd.1
  ·exact ih hd.2 h1 h2
theorem Jcf{x:BA}:x∈Xk s↔x∈s:=by
 unfold Xk;rw[QK];constructor
 ·rintro⟨y,hy,rfl⟩;obtain⟨t,ht,rfl⟩:=QK.1 ((List.mergeSort_perm _ _).mem_iff.1 hy);exact ht
 ·exact λh=>⟨x.data.toList,(List.mergeSort_perm _ _).mem_iff.2 (QK.2 ⟨x,h,rfl⟩),rfl⟩
theorem JhJ(hd:s.Nodup)(i:Nat)(hi:i+1<(Xk s).length):((Xk s)[i]).data.toList<((Xk s)[i+1]).data.toList:=by
 have tr:∀(x y z:List UInt8),decide (x<=y)=true->decide (y<=z)=true->decide (x<=z)=true:=λx y z h1 h2=>decide_eq_true (List.le_trans (of_decide_eq_true h1) (of_decide_eq_true h2));have tt:∀(x y:List UInt8),(decide (x<=y) || decide (y<=x))=true:=λx y=>by
  rcases List.le_total x y with h|h
  ·rw[decide_eq_true h];rfl
  ·rw[decide_eq_true h,Bool.or_true]
 have hp:=List.pairwise_mergeSort tr tt (s.map λt=>t.data.toList);have hn:((s.map λt=>t.data.toList).mergeSort λx y=>decide (x<=y)).Nodup:=by rw[(List.mergeSort_perm _ _).nodup_iff];exact List.Pairwise.map _ (λa c hne e=>hne (ByteArray.ext (Array.toList_inj.1 e))) hd
 unfold Xk at hi ⊢;rw[QL]at hi;rw[List.getElem_map,List.getElem_map];show ((s.map λt=>t.data.toList).mergeSort λx y=>decide (x<=y))[i]<((s.map λt=>t.data.toList).mergeSort λx y=>decide (x<=y))[i+1];have h1:=of_decide_eq_true (List.pairwise_iff_getElem.1 hp i (i+1) (by omega) hi (by omega));have h2:=List.pairwise_iff_getElem.1 hn i (i+1) (by omega) hi (by omega);exact Std.lt_of_le_of_ne h1 h2
theorem Ys.tells(h:Ys d b st1 st2){w':World}{v:Value}(hd:Jar b (JV d st1) (JV d st2) w v .nilIface w'):∃L,ChgO w.heap.size w' v L/\Jna (Jr st1) (Jr st2) L:=by
 obtain⟨_,⟨⟨t,u,e⟩,_⟩|⟨_,v1,v2,k1,k2,n1,n2,s,⟨hs1,hs2⟩,hch⟩⟩:=hd
 ·cases e
 ·obtain⟨u1,S1⟩:=h.seen;obtain⟨u2,S2⟩:=h.symm.seen
  cases S1.walk _ k1
  cases S2.walk _ k2
  have d1:=Jcr h.wf1;have d2:=Jcr h.wf2;have o1:=S1.outs;have o2:=S2.outs;clear S1 S2 k1 k2 h;generalize Jr st1=c1 at *;generalize Jr st2=c2 at *;have f1:∀k a,((⟨k.toArray⟩:BA),a)∈v1.outs↔(k,a)∈c1/\(k,a) ∉ c2:=λk a=>by
   rw[o1];constructor
   ·rintro⟨⟨x1,x2⟩,hx,hn,e⟩;simp only[Qw]at e;rw[ZH e.1,e.2];exact⟨hx,hn⟩
   ·exact λh=>⟨(k,a),h.1,h.2,rfl⟩
  have f2:∀k a,((⟨k.toArray⟩:BA),a)∈v2.outs↔(k,a)∈c2/\(k,a) ∉ c1:=λk a=>by
   rw[o2];constructor
   ·rintro⟨⟨x1,x2⟩,hx,hn,e⟩;simp only[Qw]at e;rw[ZH e.1,e.2];exact⟨hx,hn⟩
   ·exact λh=>⟨(k,a),h.1,h.2,rfl⟩
  have g1:∀k a,kGet v1.outs ⟨k.toArray⟩=some a↔(k,a)∈c1/\(k,a) ∉ c2:=λk a=>(Jc8 n1).trans (f1 k a);have g2:∀k a,kGet v2.outs ⟨k.toArray⟩=some a↔(k,a)∈c2/\(k,a) ∉ c1:=λk a=>(Jc8 n2).trans (f2 k a);have hmem:∀x,x∈s↔∃k:Key,x=⟨k.toArray⟩/\((∃a,(k,a)∈c1/\(k,a) ∉ c2)\/(∃a,(k,a)∈c2/\(k,a) ∉ c1)):=λx=>by
   rw[hs2];constructor
   ·rintro(h|h)
    ·obtain⟨q,hq,rfl⟩:=QK.1 h;obtain⟨y,hy,hn,rfl⟩:=(o1 q).1 hq;exact⟨y.1,rfl,.inl ⟨y.2,hy,hn⟩⟩
    ·obtain⟨q,hq,rfl⟩:=QK.1 h;obtain⟨y,hy,hn,rfl⟩:=(o2 q).1 hq;exact⟨y.1,rfl,.inr ⟨y.2,hy,hn⟩⟩
   ·rintro⟨k,rfl,⟨a,h⟩|⟨a,h⟩⟩
    ·exact .inl (QK.2 ⟨_,(f1 k a).2 h,rfl⟩)
    ·exact .inr (QK.2 ⟨_,(f2 k a).2 h,rfl⟩)
  obtain⟨C,hC⟩:∃C:BA->Chg,C=λk=>(k,(kGet v1.outs k).isSome,(kGet v2.outs k).isSome,(kGet v1.outs k).getD (0,0),(kGet v2.outs k).getD (0,0)):=⟨_,rfl⟩
  have hno:∀(k:Key) a,kGet v1.outs (⟨k.toArray⟩:BA)=some a->kGet v2.outs (⟨k.toArray⟩:BA)=some a->False:=λk a h1 h2=>((g1 k a).1 h1).2 ((g2 k a).1 h2).1;have hof:∀x∈Xk s,Zz v1.outs v2.outs x=some (C x):=λx hx=>by
   obtain⟨k,rfl,_⟩:=(hmem x).1 (Jcf.1 hx);unfold Zz;rw[if_neg,hC];rintro⟨h1,h2,h3⟩;obtain⟨a,ha⟩:=Option.isSome_iff_exists.1 h1;obtain⟨b,hb⟩:=Option.isSome_iff_exists.1 h2;rw[ha,hb]at h3;simp only[Option.getD_some]at h3;rw[<-h3]at hb;exact hno k a ha hb
  have hL:(Xk s).filterMap (Zz v1.outs v2.outs)=(Xk s).map C:=by
   generalize Xk s=S at hof;clear hs1 hs2 hch hmem
   induction S with
   | nil=>rfl
   | cons y r ih=>
    rw[List.filterMap_cons,hof y QM,List.map_cons,ih (λx hx=>hof x (QP _ hx))]
  rw[hL]at hch;have hfst:((Xk s).map C).map (·.1)=Xk s:=by rw[List.map_map,hC];exact List.map_id _
  refine⟨_,hch,λk=>?_,λc hc=>?_,λi hi=>?_⟩
  ·rw[hfst,Jcf,hmem];constructor
   ·rintro⟨k',e,h⟩;rw[ZH e];exact h
   ·exact λh=>⟨k,rfl,h⟩
  ·obtain⟨x,hx,rfl⟩:=QK.1 hc;obtain⟨k,rfl,hk⟩:=(hmem x).1 (Jcf.1 hx);rw[hC];have w1:(kGet v1.outs (⟨k.toArray⟩:BA)).isSome=true↔k∈c1.map (·.1):=by
    rw[Option.isSome_iff_exists];constructor
    ·rintro⟨a,ha⟩;exact QK.2 ⟨(k,a),((g1 k a).1 ha).1,rfl⟩
    ·intro hm;obtain⟨⟨k',a⟩,hq,rfl⟩:=QK.1 hm
     by_cases h2:(k',a)∈c2
     ·rcases hk with⟨a',h3,h4⟩|⟨a',h3,h4⟩
      ·exact⟨a',(g1 _ _).2 ⟨h3,h4⟩⟩
      ·have:=Jil d2 h2 h3;subst this;exact absurd hq h4
     ·exact⟨a,(g1 _ _).2 ⟨hq,h2⟩⟩
   have w2:(kGet v2.outs (⟨k.toArray⟩:BA)).isSome=true↔k∈c2.map (·.1):=by
    rw[Option.isSome_iff_exists];constructor
    ·rintro⟨a,ha⟩;exact QK.2 ⟨(k,a),((g2 k a).1 ha).1,rfl⟩
    ·intro hm;obtain⟨⟨k',a⟩,hq,rfl⟩:=QK.1 hm
     by_cases h2:(k',a)∈c1
     ·rcases hk with⟨a',h3,h4⟩|⟨a',h3,h4⟩
      ·have:=Jil d1 h2 h3;subst this;exact absurd hq h4
      ·exact⟨a',(g2 _ _).2 ⟨h3,h4⟩⟩
     ·exact⟨a,(g2 _ _).2 ⟨hq,h2⟩⟩
   refine⟨k,rfl,w1,w2,λhw=>?_,λhw=>?_,λhe=>?_⟩
   ·obtain⟨a,ha⟩:=Option.isSome_iff_exists.1 hw;simp only[ha,Option.getD_some];exact((g1 k a).1 ha).1
   ·obtain⟨a,ha⟩:=Option.isSome_iff_exists.1 hw;simp only[ha,Option.getD_some];exact((g2 k a).1 ha).1
   ·dsimp only at he ⊢;have ht:(kGet v1.outs (⟨k.toArray⟩:BA)).isSome=true:=by
     rcases hk with⟨a',h3,h4⟩|⟨a',h3,h4⟩
     ·rw[(g1 k a').2 ⟨h3,h4⟩];rfl
     ·rw[he,(g2 k a').2 ⟨h3,h4⟩];rfl
    refine⟨ht,λe=>?_⟩;obtain⟨a,ha⟩:=Option.isSome_iff_exists.1 ht;obtain⟨b,hb⟩:=Option.isSome_iff_exists.1 (he ▸ ht);rw[ha,hb]at e;simp only[Option.getD_some]at e;rw[<-e]at hb;exact hno k a ha hb
  ·rw[QL]at hi;simp only[List.getElem_map];have hc:∀x,(C x).1=x:=λx=>by rw[hC]
   rw[hc,hc];exact JhJ hs1 i hi

theorem JkI:∀(a b:List UInt8),Lib.compareBytes a b<0->a<b
 | [],[],h=>by simp[Lib.compareBytes]at h
 | [],_::_,_=>List.nil_lt_cons _ _
 | _::_,[],h=>by simp[Lib.compareBytes]at h
 | x::r,y::s,h=>by
  unfold Lib.compareBytes at h
  by_cases h1:x<y
  ·exact List.cons_lt_cons_iff.2 (.inl h1)
  ·by_cases h2:y<x
   ·simp[h1,h2]at h
   ·have e:x=y:=UInt8.le_antisymm (UInt8.not_lt.1 h2) (UInt8.not_lt.1 h1);subst e;simp[h1]at h;exact List.cons_lt_cons_iff.2 (.inr ⟨rfl,JkI r s h⟩)
theorem JeC:∀(l:List (List UInt8)),(∀i (h:i+1<l.length),l[i]<l[i+1])->l.Pairwise (· <·)
 | [],_=>List.Pairwise.nil
 | [x],_=>List.pairwise_singleton _ _
 | x::y::r,h=>by
  have h1:=JeC (y::r) (λi hi=>h (i+1) (by simpa using hi));refine List.pairwise_cons.2 ⟨λz hz=>?_,h1⟩;have h0:x<y:=h 0 (by simp)
  rcases List.mem_cons.1 hz with e|hz
  ·rw[e];exact h0
  ·exact List.lt_trans h0 ((List.pairwise_cons.1 h1).1 z hz)
theorem Jdu{l:List (List UInt8)}(h:∀i (h:i+1<l.length),l[i]<l[i+1]):l.Nodup:=
 (JeC l h).imp (λ{a b} hab e=>by rw[e]at hab;exact List.lt_irrefl _ hab)
theorem ZJ.nodup(h:ZJ (L.map bsL)):L.Nodup:=by
 refine Jdu (λi hi=>?_);have h1:=h i (by simpa using hi);simp only[List.getElem_map]at h1;exact JkI _ _ h1
theorem Jca(d:List UInt8->BA):∀t:Tr,(Js d t).length=(t.posts d).length
 | ⟨.inl (_,_)⟩=>rfl
 | ⟨.inr (_,l,r)⟩=>by simp only[Js,Tr.posts,Qp,Qe,Qv,Jca d l,Jca d r]
theorem JaH(d:List UInt8->BA)(st:Option Tr):(Jd d st).length=(Xt d st).length:=by
 cases st with
 | none=>rfl
 | some t=>exact Jca d t
theorem JbM(h:StOk wj st){x:Jj}(hx:x∈Jd (dgW wj) st):txtN x∈Xt (dgW wj) st:=by
 cases st with
 | none=>
  rw[Jd,Qt]at hx;subst hx;exact Qt.2 (by decide)
 | some t=>
  obtain⟨s,rfl,_,h3⟩:=(YT (dgW wj) t h).1 x hx;rw[Xh];exact h3
theorem Jf1(hw:wj<=32)(o1:StOk wj st1)(o2:StOk wj st2)(h:JeL wj st1 st2 L):∃xs:List Jj,L.map bsL=(xs.map λx=>bsL (txtN x))/\(∀x∈xs,XN wj x)/\xs.Nodup/\(∀x,x∈xs↔(x∈Jd (dgW wj) st1/\x ∉ Jd (dgW wj) st2)\/(x ∉ Jd (dgW wj) st1/\x∈Jd (dgW wj) st2))/\xs.length<=(Jd (dgW wj) st1).length+(Jd (dgW wj) st2).length:=by
 obtain⟨hr,hm⟩:=h;have hof:∀x,(x∈Jd (dgW wj) st1/\x ∉ Jd (dgW wj) st2)\/(x ∉ Jd (dgW wj) st1/\x∈Jd (dgW wj) st2)->XN wj x:=λx hx=>by
  rcases hx with hx|hx
  ·exact Yr o1 x hx.1
  ·exact Yr o2 x hx.2
 obtain⟨f,hf⟩:∃f:List UInt8->Jj,∀t∈L,txtN (f t)=t/\((f t∈Jd (dgW wj) st1/\f t ∉ Jd (dgW wj) st2)\/(f t ∉ Jd (dgW wj) st1/\f t∈Jd (dgW wj) st2)):=by
  have:∀t,∃x,t∈L->txtN x=t/\((x∈Jd (dgW wj) st1/\x ∉ Jd (dgW wj) st2)\/(x ∉ Jd (dgW wj) st1/\x∈Jd (dgW wj) st2)):=λt=>by
   by_cases ht:t∈L
   ·obtain⟨x,h1,h2⟩:=(hm t).1 ht;exact⟨x,λ_=>⟨h1,h2⟩⟩
   ·exact⟨Xc,λe=>absurd e ht⟩
  exact⟨λt=>Classical.choose (this t),λt ht=>Classical.choose_spec (this t) ht⟩
 have hmem:∀x,x∈L.map f↔(x∈Jd (dgW wj) st1/\x ∉ Jd (dgW wj) st2)\/(x ∉ Jd (dgW wj) st1/\x∈Jd (dgW wj) st2):=λx=>by
  rw[QK];constructor
  ·rintro⟨t,ht,rfl⟩;exact(hf t ht).2
  ·intro hx;have ht:=(hm (txtN x)).2 ⟨x,rfl,hx⟩;exact⟨_,ht,JdO hw (hof _ (hf _ ht).2) (hof x hx) (hf _ ht).1⟩
 have hnd:(L.map f).Nodup:=by refine List.pairwise_map.2 ((ZJ.nodup hr).imp_of_mem (λ{a b} ha hb hne e=>hne ?_));rw[<-(hf a ha).1,<-(hf b hb).1,e]
 refine⟨L.map f,?_,λx hx=>hof x ((hmem x).1 hx),hnd,hmem,?_⟩
 ·rw[List.map_map];refine List.map_congr_left (λt ht=>?_);simp only[Function.comp_apply,(hf t ht).1]
 ·have:=XU (L.map f) (Jd (dgW wj) st1++Jd (dgW wj) st2) hnd (λx hx=>by
   rw[QE]
   rcases(hmem x).1 hx with h|h
   ·exact .inl h.1
   ·exact .inr h.2)
  rwa [Qe]at this
def ZF(wj:Nat)(l:List (List UInt8)):Prop:=∀x∈l,∀y∈l,dgW wj x=dgW wj y->x=y
theorem Jkv(hw:wj<=32)(o1:StOk wj st1)(o2:StOk wj st2)(w1:∀t,st1=some t->t.Wf)(w2:∀t,st2=some t->t.Wf)(hno:ZF wj (Xt (dgW wj) st1++Xt (dgW wj) st2)){xs:List Jj}(hd:xs.Nodup)(hm:∀x,x∈xs↔(x∈Jd (dgW wj) st1/\x ∉ Jd (dgW wj) st2)\/(x ∉ Jd (dgW wj) st1/\x∈Jd (dgW wj) st2)):Ys (dgW wj) (byOf wj xs) st1 st2:=by
 have hinj:∀x y,x∈Jd (dgW wj) st1\/x∈Jd (dgW wj) st2->y∈Jd (dgW wj) st1\/y∈Jd (dgW wj) st2->dgW wj (txtN x)=dgW wj (txtN y)->x=y:=λx y hx hy e=>by
  have ht:∀z,z∈Jd (dgW wj) st1\/z∈Jd (dgW wj) st2->txtN z∈Xt (dgW wj) st1++Xt (dgW wj) st2/\XN wj z:=λz hz=>by
   rcases hz with hz|hz
   ·exact⟨QE.2 (.inl (JbM o1 hz)),Yr o1 z hz⟩
   ·exact⟨QE.2 (.inr (JbM o2 hz)),Yr o2 z hz⟩
  exact JdO hw (ht x hx).2 (ht y hy).2 (hno _ (ht x hx).1 _ (ht y hy).1 e)
 have hor:∀x∈xs,x∈Jd (dgW wj) st1\/x∈Jd (dgW wj) st2:=λx hx=>by
  rcases(hm x).1 hx with h|h
  ·exact .inl h.1
  ·exact .inr h.2
 refine⟨?_,λe n=>?_,hinj,w1,w2⟩
 ·unfold byOf;rw[List.map_map];exact List.pairwise_map.2 (hd.imp_of_mem (λ{a b} ha hb hne e=>hne (hinj a b (hor a ha) (hor b hb) e)))
 ·unfold byOf;rw[QK];constructor
  ·rintro⟨x,hx,e⟩
   cases e
   exact⟨rfl,(hm _).1 hx⟩
  ·rintro⟨rfl,h⟩;exact⟨n,(hm n).2 h,rfl⟩
structure ChgB(wj:Nat)(l1 l2:List Held)(c:Chg):Prop where
 co:∃co:BA×Int,Jk wj co/\c.1=⟨(Je co).toArray⟩/\c.2.1=(JO l1 co).isSome/\c.2.2.1=(JO l2 co).isSome/\(∀k,JO l1 co=some k->(l1[k]?).map (·.2)=some c.2.2.2.1)/\(∀k,JO l2 co=some k->(l2[k]?).map (·.2)=some c.2.2.2.2)/\(c.2.1=c.2.2.1->c.2.1=true/\c.2.2.2.1 ≠ c.2.2.2.2)
def lost(l2:List Held)(h:Held):Bool:=match JO l2 h.1 with
 | none=>true
 | some k=>decide ((l2[k]?).map (·.2) ≠ some h.2)
def come(l1:List Held)(h:Held):Bool:=(JO l1 h.1).isNone
theorem Jga{c:BA×Int}:(JO l c).isSome=true↔c∈l.map (·.1):=by
 constructor
 ·intro h;obtain⟨k,hk⟩:=Option.isSome_iff_exists.1 h;obtain⟨h1,h2⟩:=Xy hk;exact QK.2 ⟨_,Qx h1,h2⟩
 ·intro h
  cases hf:JO l c with
  | some k=>rfl
  | none=>
   obtain⟨x,hx,e⟩:=QK.1 h;exact absurd e (Jad hf x hx)
theorem Jc7(hd:(l.map (·.1)).Nodup){x y:Held}(hx:x∈l)(hy:y∈l)(e:x.1=y.1):x=y:=by
 induction l with
 | nil=>cases hx
 | cons q r ih=>
  rw[List.map_cons,List.nodup_cons]at hd
  rcases List.mem_cons.1 hx with e1|h1<;>rcases List.mem_cons.1 hy with e2|h2
  ·rw[e1,e2]
  ·exact absurd (QK.2 ⟨_,h2,by rw[<-e,e1]⟩) hd.1
  ·exact absurd (QK.2 ⟨_,h1,by rw[e,e2]⟩) hd.1
  ·exact ih hd.2 h1 h2
theorem Jda(hd:(l2.map (·.1)).Nodup)(h:Held):lost l2 h=true↔h ∉ l2:=by
 unfold lost
 cases hf:JO l2 h.1 with
 | none=>exact⟨λ_ hm=>Jad hf h hm rfl,λ_=>rfl⟩
 | some k=>
  obtain⟨h1,h2⟩:=Xy hf;simp only[decide_eq_true_eq,Qd h1,Option.map_some,Qh,ne_eq];constructor
  ·intro hne hm;exact hne (by rw[Jc7 hd (Qx h1) hm h2])
  ·intro hm e;refine hm ?_;have:l2[k]=h:=Prod.ext h2 e;rw[<-this];exact Qx h1
theorem XG(B:Book wj st l)(hco:Jk wj co) :(Je co,a)∈Jr st↔(co,a)∈l:=by
 rw[B.mem];constructor
 ·rintro⟨h,h1,h2,h3⟩;have e:=YJ (B.ok h h1).1 hco h2;have:h=(co,a):=Prod.ext e h3;rw[<-this];exact h1
 ·exact λh=>⟨_,h,rfl,rfl⟩
theorem JnE(B:Book wj st l)(hco:Jk wj co):Je co∈(Jr st).map (·.1)↔co∈l.map (·.1):=by
 rw[QK,QK];constructor
 ·rintro⟨⟨k,a⟩,h1,e⟩;dsimp only at e;subst e;exact⟨_,(XG B hco).1 h1,rfl⟩
 ·rintro⟨⟨c,a⟩,h1,e⟩;dsimp only at e;subst e;exact⟨_,(XG B hco).2 h1,rfl⟩
theorem JdJ{l1:List Held}(B1:Book wj st1 l1)(B2:Book wj st2 l2){L:List Chg}(h:Jna (Jr st1) (Jr st2) L):
  (∀c∈L,ChgB wj l1 l2 c)/\L.length=l1.countP (lost l2)+l2.countP (come l1):=by
 have hkey:∀k:Key,(k∈(Jr st1).map (·.1)\/k∈(Jr st2).map (·.1))->∃co,Jk wj co/\Je co=k:=λk hk=>by
  rcases hk with hk|hk
  ·obtain⟨⟨k',a⟩,h1,e⟩:=QK.1 hk;obtain⟨x,hx,h2,_⟩:=(B1.mem k' a).1 h1;exact⟨x.1,(B1.ok x hx).1,h2.trans e⟩
  ·obtain⟨⟨k',a⟩,h1,e⟩:=QK.1 hk;obtain⟨x,hx,h2,_⟩:=(B2.mem k' a).1 h1;exact⟨x.1,(B2.ok x hx).1,h2.trans e⟩
 have hdiff:∀k:Key,(⟨k.toArray⟩:BA)∈L.map (·.1)↔∃co,Jk wj co/\Je co=k/\((∃a,(co,a)∈l1/\(co,a) ∉ l2)\/(∃a,(co,a)∈l2/\(co,a) ∉ l1)):=λk=>by
  rw[h.keys];constructor
  ·intro hk;have hin:k∈(Jr st1).map (·.1)\/k∈(Jr st2).map (·.1):=by
    rcases hk with⟨a,h1,_⟩|⟨a,h1,_⟩
    ·exact .inl (QK.2 ⟨_,h1,rfl⟩)
    ·exact .inr (QK.2 ⟨_,h1,rfl⟩)
   obtain⟨co,hco,rfl⟩:=hkey k hin;refine⟨co,hco,rfl,?_⟩
   rcases hk with⟨a,h1,h2⟩|⟨a,h1,h2⟩
   ·exact .inl ⟨a,(XG B1 hco).1 h1,λe=>h2 ((XG B2 hco).2 e)⟩
   ·exact .inr ⟨a,(XG B2 hco).1 h1,λe=>h2 ((XG B1 hco).2 e)⟩
  ·rintro⟨co,hco,rfl,⟨a,h1,h2⟩|⟨a,h1,h2⟩⟩
   ·exact .inl ⟨a,(XG B1 hco).2 h1,λe=>h2 ((XG B2 hco).1 e)⟩
   ·exact .inr ⟨a,(XG B2 hco).2 h1,λe=>h2 ((XG B1 hco).1 e)⟩
 constructor
 ·intro c hc;obtain⟨k,hk,h1,h2,h3,h4,h5⟩:=(h.ok c hc).key;obtain⟨co,hco,e,_⟩:=(hdiff k).1 (hk ▸ QK.2 ⟨c,hc,rfl⟩);subst e;have g:∀{l:List Held} {st:Option Tr} (B:Book wj st l) (b:Bool) (a:Nat×Nat),(b=true↔Je co∈(Jr st).map (·.1))->(b=true->(Je co,a)∈Jr st)->b=(JO l co).isSome/\∀k,JO l co=some k->(l[k]?).map (·.2)=some a:=λ{l st} B b a hb ha=>by
   have hbe:b=(JO l co).isSome:=(by rw[Bool.eq_iff_iff,hb,JnE B hco,Jga]);refine⟨hbe,λk hf=>?_⟩;obtain⟨hk1,hk2⟩:=Xy hf;have hb1:b=true:=(by rw[hbe,hf];rfl);have hm:=(XG B hco).1 (ha hb1);have:=Jc7 B.nodup (Qx hk1) hm hk2;rw[Qd hk1,this];rfl
  obtain⟨x1,x2⟩:=g B1 c.2.1 c.2.2.2.1 h1 h3;obtain⟨y1,y2⟩:=g B2 c.2.2.1 c.2.2.2.2 h2 h4;exact⟨co,hco,hk,x1,y1,x2,y2,h5⟩
 ·have hnd:(L.map (·.1)).Nodup:=by
   have:=Jdu (l:=L.map λc=>c.1.data.toList) (λi hi=>by
    simp only[List.getElem_map];exact h.rise i (by simpa using hi))
   have h2:=List.pairwise_map.1 this;exact List.pairwise_map.2 (h2.imp (λ{a b} hne e=>hne (by rw[e])))
  obtain⟨K,hK⟩:∃K:Held->BA,K=λx=>⟨(Je x.1).toArray⟩:=⟨_,rfl⟩
  have hKe:∀x,K x=⟨(Je x.1).toArray⟩:=λx=>by rw[hK]
  have hKi:∀x y:Held,Jk wj x.1->Jk wj y.1->K x=K y->x.1=y.1:=λx y hx hy e=>YJ hx hy (ZH (by rw[<-hKe,<-hKe,e]));have hn1:((l1.filter (lost l2)).map K).Nodup:=by refine List.pairwise_map.2 ((List.Pairwise.sublist List.filter_sublist (List.pairwise_map.1 B1.nodup)).imp_of_mem (λ{a b} ha hb hne e=>hne (hKi a b (B1.ok a (QN.1 ha).1).1 (B1.ok b (QN.1 hb).1).1 e)))
  have hn2:((l2.filter (come l1)).map K).Nodup:=by refine List.pairwise_map.2 ((List.Pairwise.sublist List.filter_sublist (List.pairwise_map.1 B2.nodup)).imp_of_mem (λ{a b} ha hb hne e=>hne (hKi a b (B2.ok a (QN.1 ha).1).1 (B2.ok b (QN.1 hb).1).1 e)))
  have hcome:∀x:Held,come l1 x=true↔x.1 ∉ l1.map (·.1):=λx=>by
   unfold come;rw[<-Jga,Option.isNone_iff_eq_none,<-Option.not_isSome_iff_eq_none]
  have hn:((l1.filter (lost l2)).map K++(l2.filter (come l1)).map K).Nodup:=by rw[List.nodup_append];refine⟨hn1,hn2,λa ha b hb e=>?_⟩;obtain⟨x,hx,rfl⟩:=QK.1 ha;obtain⟨y,hy,rfl⟩:=QK.1 hb;have hx1:=(QN.1 hx).1;obtain⟨hy1,hy2⟩:=QN.1 hy;exact(hcome y).1 hy2 (QK.2 ⟨x,hx1,hKi x y (B1.ok x hx1).1 (B2.ok y hy1).1 e⟩)
  have:=Jjw _ _ hnd hn (λz=>?_)
  ·rw[QL,Qe,QL,QL]at this;rw[this,List.countP_eq_length_filter,List.countP_eq_length_filter]
  ·have hz:z=(⟨z.data.toList.toArray⟩:BA):=ByteArray.ext (by simp);rw[hz,hdiff,QE,QK,QK];constructor
   ·rintro⟨co,hco,e,hd⟩
    rcases hd with⟨a,h1,h2⟩|⟨a,h1,h2⟩
    ·exact .inl ⟨(co,a),QN.2 ⟨h1,(Jda B2.nodup _).2 h2⟩,by rw[hKe,e]⟩
    ·by_cases hin:co∈l1.map (·.1)
     ·obtain⟨⟨c',b⟩,h3,e3⟩:=QK.1 hin;dsimp only at e3;subst e3;refine .inl ⟨(c',b),QN.2 ⟨h3,(Jda B2.nodup _).2 (λh4=>?_)⟩,by rw[hKe,e]⟩;have:=Jc7 B2.nodup h1 h4 rfl
      cases this
      exact h2 h3
     ·exact .inr ⟨(co,a),QN.2 ⟨h1,(hcome _).2 hin⟩,by rw[hKe,e]⟩
   ·rintro(⟨x,hx,e⟩|⟨x,hx,e⟩)
    ·obtain⟨h1,h2⟩:=QN.1 hx;exact⟨x.1,(B1.ok x h1).1,ZH (by rw[<-hKe,e]),.inl ⟨x.2,h1,(Jda B2.nodup _).1 h2⟩⟩
    ·obtain⟨h1,h2⟩:=QN.1 hx;exact⟨x.1,(B2.ok x h1).1,ZH (by rw[<-hKe,e]),.inr ⟨x.2,h1,λh3=>(hcome x).1 h2 (QK.2 ⟨_,h3,rfl⟩)⟩⟩
