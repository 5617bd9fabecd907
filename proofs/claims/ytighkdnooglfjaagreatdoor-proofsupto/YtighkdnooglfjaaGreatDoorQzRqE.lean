import Derived.Test.YtighkdnooglfjaaGreatDoorQzLdE
open Go renaming Calls->aB,Value->aG,World->aA
open Go.Ending renaming returned->aC
open Go.IntKind renaming i64->I,u64->aD,u8->aE
open Go.Obj renaming cells->T
open Go.Proofs.Tryz renaming prog->N
open Go.RowKit renaming Hid->J
open Go.Value renaming agg->aH,bool->aL,int->O,pointer->X,slice->R,string->L,tuple->aI
open Option renaming none->Y,some->Z
open Or renaming inl->aM,inr->aN
open Int renaming toNat_natCast->lC,eq_ofNat_of_zero_le->lE
open List renaming range->lD,mem_range->lF,length_range->lG,getElem_map->lH,map_congr_left->lI,map_eq_nil_iff->lJ,getElem_range->lK,getElem?_map->lM
set_option maxRecDepth 100000
set_option maxHeartbeats 4000000
namespace Go.Proofs.YtighkdnooglfjaaGreatDoor
open Go.Proofs.Tryz
open Go.RowKit

variable {H:BA}{c:BA×Int}{ch:Ch}{wj:Int}{k:Key}{os:List (Nat×Nat)}{sl:List (Sl×Sl)}{ts:List TxL}{b base fuel lb n pn rb wb:Nat}{F G:Nat->Prop}{r1 r2:Option Wy}{v vl vm:aG}{V W w:aA}{wy:Wy}
structure Ac3(w W:aA)(c:BA×Int):Prop where
 rc:W.heap[w.heap.size]? =Z (T #[L c.1,O I c.2] 49)
 r1:W.heap[w.heap.size+1]? =Z (T zP 302)
 r2:W.heap[w.heap.size+2]? =Z (T zP 302)
 tc:M D w W
theorem Ac3.tch{W':aA}(h:Ac3 w W c)(t:M D W W'):Ac3 w W' c:=⟨(t.block _ (Jb h.rc) (λe=>e)).trans h.rc,(t.block _ (Jb h.r1) (λe=>e)).trans h.r1,(t.block _ (Jb h.r2) (λe=>e)).trans h.r2,h.tc.go t⟩
theorem Ac3.coin(h:Ac3 w W c):W.cell? ⟨w.heap.size,0,Y⟩=Z (L c.1)/\W.cell? ⟨w.heap.size,1,Y⟩=Z (O I c.2):=⟨Ja h.rc,Ja h.rc⟩
theorem Ac3.ends{k:BA×Int}(h:Ac3 w V k)(a b c d:aG):∀aX,((((V.setCell ⟨w.heap.size+1,0,Y⟩ a).setCell ⟨w.heap.size+1,1,Y⟩ b).setCell ⟨w.heap.size+1,2,Y⟩ c).setCell ⟨w.heap.size+1,3,Y⟩ d)=aX->JaF V (w.heap.size+1) (R Y 0 0) (L ⟨#[]⟩) (O aD 0) (O aE 0)/\JaF V (w.heap.size+2) (R Y 0 0) (L ⟨#[]⟩) (O aD 0) (O aE 0)/\(∀j,V.frozen? ⟨w.heap.size+1,j,Y⟩=false)/\J (aX.heap[w.heap.size+1]? =Z (T #[a,b,c,d] 302))/\J (M D w aX)/\J (M (λj=>j=w.heap.size+1) V aX):=λaX hX=>by
 obtain⟨p1,p2⟩:=Jeq h.r1 a b c d;rw[hX]at p1 p2;exact⟨Jad h.r1,Jad h.r2,λj=>Qg _ _ _ _ _ h.r1,p1,h.tc.trans p2 (λj hj=>aN (by rw[hj];exact Nat.le_succ _)),p2⟩
theorem Ac3.new(w:aA)(c:BA×Int):Ac3 w (((w.alloc (T #[L c.1,O I c.2] 49)).alloc (T zP 302)).alloc (T zP 302)) c:=by
 obtain⟨W,hW⟩:∃W,W=w.alloc (T #[L c.1,O I c.2] 49):=⟨_,rfl⟩
 have hs:W.heap.size=w.heap.size+1:=by rw[hW];exact Array.size_push _
 have rW:=qu hW;have t0:=xu hW;rw[<-hW];have t1:=M.allocs D W (T zP 302) (T zP 302);refine⟨(t1.block _ (Jb rW) (λe=>e)).trans rW,?_,?_,t0.go t1⟩
 ·have:=heap_alloc2_old W (T zP 302) (T zP 302);rw[hs]at this;exact this
 ·have:=heap_alloc2_new W (T zP 302) (T zP 302);rw[hs]at this;exact this
noncomputable def accR(wj:Int)(H:BA)(c:BA×Int)(s:List UInt8):Option Wy:=
 if 1<=wj/\wj<=32/\(H.size:Int)=4+3*wj/\XZ wj.toNat c=true then (refW wj.toNat (Jc c) s).bind λwy=>if dgW wj.toNat ((wy.nodes (dgW wj.toNat)).headD [])=H.extract (4+2*wj.toNat) H.size then Z wy else Y else Y
theorem JbI(hD:DgC)(wj:Int)(pL: -9223372036854775808<=wj/\wj<9223372036854775808)(H:BA)(c:BA×Int)(hc:c.1.size<=9223372036854775807)(aY:BA)(hS:aY.size<=2000000)(w:aA):
  aB N 176 #[O I wj,L H,aH #[L c.1,O I c.2],L aY] w (Jaq wj.toNat (accR wj H c aY.data.toList) w):=by
 obtain⟨W,(HW:J _)⟩:∃W,W=((w.alloc (T #[L c.1,O I c.2] 49)).alloc (T zP 302)).alloc (T zP 302):=⟨_,rfl⟩
 have HA:J (Ac3 w W c):=by show Ac3 w W c;rw[HW];exact Ac3.new w c
 obtain⟨aW,(HR:J _)⟩:∃aW,accR wj H c aY.data.toList=aW:=⟨_,rfl⟩
 rw[HR]
 by_cases hB:1<=wj/\wj<=32/\(H.size:Int)=4+3*wj
 ·obtain⟨h1,h2,h3⟩:=hB;obtain⟨n,rfl⟩:=lE (show 0<=wj by omega);rw[lC];have qu:1<=n:=by omega
  have jT:n<=32:=by omega
  have g1:¬(n:Int)<1:=by omega
  have g2:¬(32:Int)<(n:Int):=by omega
  have v1:I.wrap (3*(n:Int))=3*(n:Int):=w63 _ (by omega) (by omega);have v2:I.wrap (4+3*(n:Int))=4+3*(n:Int):=w63 _ (by omega) (by omega);have qK:J (∀V,_):=λV=>Jeb n c hc V
  by_cases hcd:XZ n c=true
  ·have gL:=(Yc n c).1 hcd;rw[hcd]at qK;have jU:J (∀V,_):=λV=>Za c V gL.2.1 (by have:=gL.2.2;omega) (by have:=gL.1;omega);have cq:J (∀V,_):=λV=>JpY hD n qu jT (Jc c) (Xt gL) aY hS V;obtain⟨key,jA⟩:∃key,Jc c=key:=⟨_,rfl⟩
   obtain⟨RP,hRP⟩:∃RP,refW n key aY.data.toList=RP:=⟨_,rfl⟩
   have gU:J ((RP.bind λwy=>if dgW n ((wy.nodes (dgW n)).headD [])=H.extract (4+2*n) H.size then Z wy else Y)=aW):=(by show _=aW;rw[<-hRP,<-jA,<-HR.o];unfold accR;rw[lC,if_pos ⟨h1,h2,h3,hcd⟩]);rw[jA]at jU cq;rw[hRP]at cq;obtain⟨s,aZ⟩:=c;simp only at qK HW jU ⊢;obtain⟨c0,c1⟩:=HA.coin;simp only at c0 c1;go_enter func176,ntmps176;go_upto_region 2 with fail;rw[<-HW.o];go_upto_region 7 with(go_at_call 257;refine(qK _).mono ?_;rintro _ w1⟨rfl,H6⟩;have vX:J _:=HA.tch H6);obtain⟨c0,c1⟩:=vX.coin;simp only at c0 c1
   cases RP with
   | none=>
    obtain rfl:aW=Y:=gU.symm;go_upto_region 8 with(first
     | (go_at_call 105;refine(jU _).mono ?_;rintro _ w2⟨rfl,H7⟩;have vY:J _:=vX.tch H7)
     | (go_at_call 258;refine(cq _).mono ?_;rintro _ w3⟨Hm,pa,pn,pc,pk,px,py,rfl⟩;have eK:J _:=vY.tch Hm))
    have HA4:J _:=eK.tch (Ta _ w3 (T #[R pa pn pc,L pk,O aD px,O aE py] 302));generalize w3.alloc (T #[R pa pn pc,L pk,O aD px,O aE py] 302)=w4 at *;obtain⟨aX,hX⟩:∃aX,aX=_:=⟨_,rfl⟩
    obtain⟨⟨x0,x1,x2,x3⟩,⟨y0,y1,y2,y3⟩,fz,Hq,Hw,jy⟩:=HA4.ends (R Y 0 0) (L ⟨#[]⟩) (O aD 0) (O aE 0) aX hX.symm;go_wp2;rw[<-hX];refine QK (v:=aI #[aH zP,aL false]) (Je results176 _ _ (w.heap.size+1) _ _ (0,0) _ rfl Hq underlying302 rfl (by kernel_rfl)) rfl ⟨Hw,_,_,_,_,_,_,rfl⟩
   | some wy=>
    obtain⟨kk,rG⟩:∃kk,wyK wy=kk:=⟨_,rfl⟩
    obtain⟨px,bB⟩:∃px,(wyO wy).1=px:=⟨_,rfl⟩
    obtain⟨py,pM⟩:∃py,(wyO wy).2=py:=⟨_,rfl⟩
    obtain⟨t0,tr,jK⟩:∃t0 tr,wy.nodes (dgW n)=t0::tr:=by
     cases h:wy.nodes (dgW n) with
     | nil=>have:=JZ (dgW n) (Xo wy) (Xb wy.2) wy.1;unfold Wy.nodes at h;rw[h]at this;simp at this
     | cons a b=>exact⟨a,b,rfl⟩
    have gd:J (∀V,_):=λV=>hD n ⟨t0.toArray⟩ V qu jT (by rw[Jh];have:=JdZ jT ((JfD jT).1 hRP).1 (by rw[jK];exact QN);omega);obtain⟨aV,dC⟩:∃aV,dgW n t0=aV:=⟨_,rfl⟩
    rw[show (⟨t0.toArray⟩:BA).data.toList=t0 from rfl,dC]at gd;obtain⟨ST,hST⟩:∃ST,H.extract (4+2*n) H.size=ST:=⟨_,rfl⟩
    have kY:J ((if aV=ST then Z wy else Y)=aW):=(by have:=gU.o;rw[Qu,jK,List.headD_cons,dC,hST]at this;exact this);obtain⟨bb,nO⟩:∃bb,(aV.toList == ST.toList)=bb:=⟨_,rfl⟩
    have sZ:J (aW=if bb=true then Z wy else Y):=by
     show _=_;rw[<-kY.o,<-nO];have e:(aV.toList == ST.toList)=true↔aV=ST:=by rw[beq_iff_eq,ByteArray.toList_eq,ByteArray.toList_eq];exact⟨YK,λh=>by rw[h]⟩
     by_cases h:aV=ST
     ·rw[if_pos h,if_pos (e.2 h)]
     ·rw[if_neg h,if_neg (λh'=>h (e.1 h'))]
    have xU:J (∀V e V',Jaq n (Z wy) V e V'->M D V V'/\∃g m,e=aC (aI #[aH #[R (Z ⟨g,0,Y⟩) m m,L kk,O aD (px:Int),O aE (py:Int)],aL true])/\wy.1.length+1=m/\g<V'.heap.size/\∀(j:Nat) t,(wy.nodes (dgW n))[j]? =Z t->V'.cell? ⟨g,j,Y⟩=Z (L ⟨t.toArray⟩)):=λV e V' h=>by
     unfold Jaq at h;simp only[rG,bB,pM]at h;exact h
    have HH:J ((wy.nodes (dgW n))[0]? =Z t0):=(by show _=_;rw[jK];rfl);go_upto_region 8 with(first
     | (go_at_call 105;refine(jU _).mono ?_;rintro _ w2⟨rfl,H7⟩;have vY:J _:=vX.tch H7)
     | (go_at_call 258;refine(cq _).mono ?_;intro e3 w3 h3;obtain⟨Hm,g,m,rfl,hm,hg,jK⟩:=xU _ _ _ h3;have eK:J _:=vY.tch Hm;have eL:J (g<w3.heap.size/\wy.1.length+1=m/\∀(j:Nat) t,(wy.nodes (dgW n))[j]? =Z t->w3.cell? ⟨g,j,Y⟩=Z (L ⟨t.toArray⟩)):=⟨hg,hm,jK⟩))
    obtain⟨q,hq⟩:∃q,w3.heap.size=q:=⟨_,rfl⟩
    have pX:(0:Int)<(m:Int):=(by have:=eL.o.2.1;omega);have js:0<m:=(by omega);have HA4:J _:=eK.tch (Ta _ w3 (T #[R (Z ⟨g,0,Y⟩) m m,L kk,O aD (px:Int),O aE (py:Int)] 302));have yY:J ((w3.alloc (T #[R (Z ⟨g,0,Y⟩) m m,L kk,O aD (px:Int),O aE (py:Int)] 302)).heap[q]? =Z (T #[R (Z ⟨g,0,Y⟩) m m,L kk,O aD (px:Int),O aE (py:Int)] 302)):=(by show _=_;rw[<-hq];exact Qf _ _);have He:J (M D w3 (w3.alloc (T #[R (Z ⟨g,0,Y⟩) m m,L kk,O aD (px:Int),O aE (py:Int)] 302))):=Ta _ _ _;have xw:J (¬g=w.heap.size+1/\¬q=w.heap.size+1):=by
     refine⟨λe=>?_,λe=>?_⟩
     ·have h1:=eL.o.2.2 0 t0 HH.o;rw[e,(Jad eK.o.r1).1]at h1
      cases h1
     ·have h1:=(Jb eK.r1)
      omega
    rw[hq];generalize w3.alloc (T #[R (Z ⟨g,0,Y⟩) m m,L kk,O aD (px:Int),O aE (py:Int)] 302)=w4 at *;have HV:J (∀V,M D w4 V->(JaF V q (R (Z ⟨g,0,Y⟩) m m) (L kk) (O aD (px:Int)) (O aE (py:Int))/\V.cell? ⟨g,0,Y⟩=Z (L ⟨t0.toArray⟩))/\∀aX,M (λj=>j=w.heap.size+1) V aX->(JaF aX q (R (Z ⟨g,0,Y⟩) m m) (L kk) (O aD (px:Int)) (O aE (py:Int))/\aX.cell? ⟨g,0,Y⟩=Z (L ⟨t0.toArray⟩))/\J (g<aX.heap.size/\∀(j:Nat) t,(wy.nodes (dgW n))[j]? =Z t->aX.cell? ⟨g,j,Y⟩=Z (L ⟨t.toArray⟩))):=λV t1=>by
     have r1:=(t1.block _ (Jb yY) (λe=>e)).trans yY.o;have t2:=He.o.go t1;have hg:=eL.o.1;have n1:∀(j:Nat) t,(wy.nodes (dgW n))[j]? =Z t->_:=λj t h=>(t2.cell (p:=⟨g,j,Y⟩) hg (λe=>e)).trans (eL.2.2 j t h);refine⟨⟨Jad r1,n1 0 t0 HH⟩,λaX t3=>?_⟩;have sA:=Qk hg t2.size;have r2:=(t3.block _ (Jb r1) xw.2).trans r1;have n2:∀(j:Nat) t,(wy.nodes (dgW n))[j]? =Z t->_:=λj t h=>(t3.cell (p:=⟨g,j,Y⟩) sA xw.1).trans (n1 j t h);exact⟨⟨Jad r2,n2 0 t0 HH⟩,Qk sA t3.size,n2⟩
    unfold JaF at HV;have hml:=eL.o.2.1;have HML:J _:=hml;have v3:I.wrap (2*(n:Int))=2*(n:Int):=w63 _ (by omega) (by omega);obtain⟨SP,hSP⟩:∃SP,4+2*n=SP:=⟨_,rfl⟩
    rw[hSP]at hST;have v4:I.wrap (4+2*(n:Int))=(SP:Int):=(by rw[w63 _ (by omega) (by omega)];omega);have s1:SP<=H.size:=(by omega);have s1i:(SP:Int)<=4+3*(n:Int):=(by omega);obtain⟨⟨⟨a0,a1,a2,a3⟩,a4⟩,_⟩:=HV w4 (Te _ _);go_upto_region 10 with fail;go_region_held3 (λV=>V.cell? ⟨q,0,Y⟩=Z (R (Z ⟨g,0,Y⟩) m m)/\V.cell? ⟨q,1,Y⟩=Z (L kk)/\V.cell? ⟨q,2,Y⟩=Z (O aD (px:Int))/\V.cell? ⟨q,3,Y⟩=Z (O aE (py:Int))/\V.cell? ⟨g,0,Y⟩=Z (L ⟨t0.toArray⟩)) (go_keep) ((go_at_call 103;refine(gd.o _).mono ?_;rintro _ w5⟨rfl,kI⟩;obtain⟨⟨⟨b0,b1,b2,b3⟩,b4⟩,cm⟩:=HV.o w5 ((Td D w4 1).go kI);obtain⟨aX,hX⟩:∃aX,aX=_:=⟨_,rfl⟩;obtain⟨⟨x0,x1,x2,x3⟩,⟨y0,y1,y2,y3⟩,fz,Hq,Hw,jy⟩:=(HA4.o.tch ((Td D w4 1).go kI)).ends (R (Z ⟨g,0,Y⟩) m m) (L kk) (O aD (px:Int)) (O aE (py:Int)) aX hX.symm;obtain⟨⟨⟨d0,d1,d2,d3⟩,d4⟩,dF⟩:=cm aX jy.o;rw[hX]at d0 d1 d2 d3 d4))
    all_goals
     go_wp2;rw[<-hX];refine QK (v:=aI #[aH #[R (Z ⟨g,0,Y⟩) m m,L kk,O aD (px:Int),O aE (py:Int)],aL bb]) (Je results176 _ _ (w.heap.size+1) _ _ (0,0) _ rfl Hq underlying302 rfl (by kernel_rfl)) rfl ?_;rw[sZ.o]
     cases bb with
     | false=>exact⟨Hw,_,_,_,_,_,_,rfl⟩
     | true=>exact⟨Hw,g,m,by rw[rG,bB,pM],HML,dF⟩
  ·have hcf:XZ n c=false:=(by simpa using hcd);rw[hcf]at qK;obtain rfl:aW=Y:=(by rw[<-HR.o];unfold accR;rw[lC,if_neg (λh=>hcd h.2.2.2)]);obtain⟨s,aZ⟩:=c;simp only at qK HW ⊢;obtain⟨c0,c1⟩:=HA.coin;simp only at c0 c1;go_enter func176,ntmps176;go_upto_region 2 with fail;rw[<-HW.o];go_wp2_with (go_at_call 257;refine(qK _).mono ?_;rintro _ w1⟨rfl,H6⟩;obtain⟨aX,hX⟩:∃aX,aX=_:=⟨_,rfl⟩;obtain⟨⟨x0,x1,x2,x3⟩,⟨y0,y1,y2,y3⟩,fz,Hq,Hw,jy⟩:=(HA.tch H6).ends (R Y 0 0) (L ⟨#[]⟩) (O aD 0) (O aE 0) aX hX.symm);rw[<-hX];refine QK (v:=aI #[aH zP,aL false]) (Je results176 _ _ (w.heap.size+1) _ _ (0,0) _ rfl Hq underlying302 rfl (by kernel_rfl)) rfl ⟨Hw,_,_,_,_,_,_,rfl⟩
 ·obtain rfl:aW=Y:=by rw[<-HR.o];unfold accR;rw[if_neg (λh=>hB ⟨h.1,h.2.1,h.2.2.1⟩)]
  obtain⟨aX,hX⟩:∃aX,aX=_:=⟨_,rfl⟩
  obtain⟨⟨x0,x1,x2,x3⟩,⟨y0,y1,y2,y3⟩,fz,Hq,Hw,jy⟩:=HA.ends (R Y 0 0) (L ⟨#[]⟩) (O aD 0) (O aE 0) aX hX.symm;obtain⟨s,aZ⟩:=c;simp only at HW ⊢
  rcases(show wj<1\/(¬wj<1/\32<wj)\/(¬wj<1/\¬32<wj/\I.wrap (3*wj)=3*wj/\I.wrap (4+3*wj)=4+3*wj/\¬(H.size:Int)=4+3*wj) by
   by_cases a1:wj<1
   ·exact aM a1
   ·by_cases a2:32<wj
    ·exact aN (aM ⟨a1,a2⟩)
    ·exact aN (aN ⟨a1,a2,w63 _ (by omega) (by omega),w63 _ (by omega) (by omega),λe=>hB ⟨by omega,by omega,e⟩⟩)) with g1|⟨g1,g2⟩|⟨g1,g2,v1,v2,g3⟩
  all_goals go_enter func176,ntmps176;go_upto_region 2 with fail;rw[<-HW.o];go_wp2;rw[<-hX];refine QK (v:=aI #[aH zP,aL false]) (Je results176 _ _ (w.heap.size+1) _ _ (0,0) _ rfl Hq underlying302 rfl (by kernel_rfl)) rfl ⟨Hw,_,_,_,_,_,_,rfl⟩

theorem JdB{s:List UInt8}(h:accR wj H c s=Z wy):1<=wj/\wj<=32/\(H.size:Int)=4+3*wj/\Ji wj.toNat c/\refW wj.toNat (Jc c) s=Z wy/\dgW wj.toNat ((wy.nodes (dgW wj.toNat)).headD [])=H.extract (4+2*wj.toNat) H.size:=by
 unfold accR at h
 split at h
 ·rename_i hc
  cases hr:refW wj.toNat (Jc c) s with
  | none=>rw[hr]at h;cases h
  | some x=>
   rw[hr,Qu]at h
   split at h
   ·cases h
    exact⟨hc.1,hc.2.1,hc.2.2.1,(Yc _ _).1 hc.2.2.2,rfl,by assumption⟩
   ·cases h
 ·cases h
theorem JoL{key:Key}(hk:key.length=n+1):wy.said key=if wyK wy=⟨key.toArray⟩ then Z (wyO wy) else Y:=by
 rw[<-JjW]
 by_cases h:wyK wy=⟨key.toArray⟩
 ·rw[if_pos h]
  cases h2:wy.2 with
  | none=>
   exfalso;unfold wyK at h;rw[h2]at h;simp only at h;have:=congrArg (λx:BA=>x.data.toList.length) h;simp at this;omega
  | some x=>rw[if_pos ⟨rfl,h⟩]
 ·rw[if_neg h,if_neg (λe=>h e.2)]
theorem Jd7(hD:DgC)(wj:Int)(pL: -9223372036854775808<=wj/\wj<9223372036854775808)(H:BA)(c:BA×Int)(hc:c.1.size<=9223372036854775807)(aY:BA)(hS:aY.size<=2000000)(w:aA):
  aB N 175 #[O I wj,L H,aH #[L c.1,O I c.2],L aY] w λe w'=>M D w w'/\e=aC (aI #[O I (Xz (accR wj H c aY.data.toList) (Jc c)).1,aH #[O aD ((Xz (accR wj H c aY.data.toList) (Jc c)).2.1:Int),O aE ((Xz (accR wj H c aY.data.toList) (Jc c)).2.2:Int)]]):=by
 obtain⟨W,hW⟩:∃W,W=(w.alloc (T #[L c.1,O I c.2] 49)).alloc (T #[O aD 0,O aE 0] 80):=⟨_,rfl⟩
 have tA:=zG hW;have kj:=kX hW;have kD:=hnn hW;have HC:J (∀V,M D W V->(V.cell? ⟨w.heap.size,0,Y⟩=Z (L c.1)/\V.cell? ⟨w.heap.size,1,Y⟩=Z (O I c.2))/\(V.cell? ⟨w.heap.size+1,0,Y⟩=Z (O aD 0)/\V.cell? ⟨w.heap.size+1,1,Y⟩=Z (O aE 0)/\∀j,V.frozen? ⟨w.heap.size+1,j,Y⟩=false)/\J (V.heap[w.heap.size+1]? =Z (T #[O aD 0,O aE 0] 80))):=λV hT=>by
  have h0:=(hT.block _ (Jb kj) (λh=>h)).trans kj;have h1:=(hT.block _ (Jb kD) (λh=>h)).trans kD;exact⟨⟨Ja h0,Ja h0⟩,⟨Ja h1,Ja h1,λj=>Qg _ _ _ _ _ h1⟩,h1⟩
 have kC:J _:=tA;have HW:J _:=hW;have pe:J (∀V,_):=λV=>JbI hD wj pL H c hc aY hS V;obtain⟨aW,hR⟩:∃aW,accR wj H c aY.data.toList=aW:=⟨_,rfl⟩
 rw[hR]at pe ⊢;obtain⟨⟨a0,a1⟩,_⟩:=HC W (Te _ _)
 cases aW with
 | none=>
  obtain⟨s,aZ⟩:=c;simp only at HC HW pe a0 a1 ⊢;clear hR tA kj kD hW hc;go_enter func175,ntmps175;go_upto_region 1 with fail;rw[<-HW.o];go_upto_region 2 with(go_at_call 176;refine(pe _).mono ?_;rintro _ w1⟨(H3:J _),pa,pn,pc,pk,px,py,rfl⟩);have H4:J _:=H3.go (Ta _ w1 (T #[R pa pn pc,L pk,O aD px,O aE py] 302));generalize w1.alloc (T #[R pa pn pc,L pk,O aD px,O aE py] 302)=w2 at *;obtain⟨_,⟨e0,e1,fR⟩,R2⟩:=HC w2 H4.o;go_wp2;rw[set2 _ _ _ _ _ _ _ R2.o];refine QK (v:=aI #[O I 0,aH #[O aD 0,O aE 0]]) (XE results175 _ _ (w.heap.size+1) _ _ (0,0) _ rfl (show (w2.setRow (w.heap.size+1) #[O aD 0,O aE 0]).heap[w.heap.size+1]? =_ from Qi _ _ _ _ _ _ R2) underlying80 rfl (by kernel_rfl)) rfl ?_;exact⟨(kC.go H4).trans (Ts w2 (w.heap.size+1) _) (λj hj=>aN (by omega)),rfl⟩
 | some wy=>
  obtain⟨h1,h2, -,gL, -, -⟩:=JdB hR;have jU:J (∀V,_):=λV=>Za c V gL.2.1 (by have:=gL.2.2;omega) (by have:=gL.1;omega);have jW:=Xt gL;have fy:=JoL (wy:=wy) jW;obtain⟨key,jA⟩:∃key,Jc c=key:=⟨_,rfl⟩
  rw[jA]at jU fy ⊢;obtain⟨kk,rG⟩:∃kk,wyK wy=kk:=⟨_,rfl⟩
  obtain⟨px,bB⟩:∃px,(wyO wy).1=px:=⟨_,rfl⟩
  obtain⟨py,pM⟩:∃py,(wyO wy).2=py:=⟨_,rfl⟩
  obtain⟨KB,xR⟩:∃KB:BA,⟨key.toArray⟩=KB:=⟨_,rfl⟩
  rw[rG,xR,show wyO wy=(px,py) by rw[<-bB,<-pM]]at fy;rw[xR]at jU;have xU:J (∀V e V',Jaq wj.toNat (Z wy) V e V'->M D V V'/\∃g m,e=aC (aI #[aH #[R (Z ⟨g,0,Y⟩) m m,L kk,O aD (px:Int),O aE (py:Int)],aL true])):=λV e V' h=>by
   unfold Jaq at h;simp only[rG,bB,pM]at h;obtain⟨q1,g,m,q2, -⟩:=h;exact⟨q1,g,m,q2⟩
  obtain⟨bb,nO⟩:∃bb,(kk.toList == KB.toList)=bb:=⟨_,rfl⟩
  have e:(kk.toList == KB.toList)=true↔kk=KB:=by rw[beq_iff_eq,ByteArray.toList_eq,ByteArray.toList_eq];exact⟨YK,λh=>by rw[h]⟩
  have HVT:J (Xz (Z wy) key=if bb=true then (1,(px,py)) else (2,(0,0))):=by
   show Xz _ _=_;unfold Xz;simp only;rw[fy,<-nO]
   by_cases h:kk=KB
   ·rw[if_pos h,if_pos (e.2 h)]
   ·rw[if_neg h,if_neg (λh'=>h (e.1 h'))]
  obtain⟨VT,hVT⟩:∃VT,Xz (Z wy) key=VT:=⟨_,rfl⟩
  rw[hVT]at HVT ⊢;obtain⟨s,aZ⟩:=c;simp only at HC HW pe jU a0 a1 ⊢;clear hR tA kj kD hW hc jW fy jA rG bB pM xR e hVT gL;go_enter func175,ntmps175;go_upto_region 1 with fail;rw[<-HW.o];go_upto_region 2 with(go_at_call 176;refine(pe _).mono ?_;intro e1 w1 h1;obtain⟨(H3:J _),g,m,rfl⟩:=xU _ _ _ h1;clear h1);obtain⟨q,hq⟩:∃q,w1.heap.size=q:=⟨_,rfl⟩
  have H4:J _:=H3.go (Ta _ w1 (T #[R (Z ⟨g,0,Y⟩) m m,L kk,O aD (px:Int),O aE (py:Int)] 302));have yY:J ((w1.alloc (T #[R (Z ⟨g,0,Y⟩) m m,L kk,O aD (px:Int),O aE (py:Int)] 302)).heap[q]? =Z (T #[R (Z ⟨g,0,Y⟩) m m,L kk,O aD (px:Int),O aE (py:Int)] 302)):=by show _=_;rw[<-hq];exact Qf _ _
  rw[hq];generalize w1.alloc (T #[R (Z ⟨g,0,Y⟩) m m,L kk,O aD (px:Int),O aE (py:Int)] 302)=w2 at *;have si:J (∀V,M D w2 V->_):=λV t=>(Jad ((t.block _ (Jb yY) (λe=>e)).trans yY)).2;obtain⟨q1,q2,q3⟩:=si w2 (Te _ _);obtain⟨⟨a0,a1⟩,_⟩:=HC w2 H4.o;go_upto_region 4 with fail;go_cut [24] (λv24 wx=>v24=aL bb/\J (M D w2 wx))
  case first=>
   go_region_held3 (λV=>V.cell? ⟨q,1,Y⟩=Z (L kk)/\V.cell? ⟨w.heap.size,0,Y⟩=Z (L s)/\V.cell? ⟨w.heap.size,1,Y⟩=Z (O I aZ)) (go_keep) ((go_at_call 105;refine(jU _).mono ?_;rintro _ w3⟨rfl,Hm⟩;have H8:J _:=(Td D w2 1).go Hm;have p1:=(si w3 H8).1;obtain⟨⟨b0,b1⟩,_⟩:=HC w3 (H4.go H8);clear Hm))
   all_goals go_wp2;go_meet;exact⟨rfl,H8⟩
  case rest=>
  obtain⟨rfl,H8⟩:=hcut;obtain⟨w3,jX⟩:∃w3,w3=wc:=⟨wc,rfl⟩
  subst jX;obtain⟨_,q2,q3⟩:=si w3 H8.o;obtain⟨_,⟨e0,e1,fR⟩,R2⟩:=HC w3 (H4.go H8);have H5:q ≠ w.heap.size+1:=λe=>by
   have hr:=(H8.block _ (Jb yY) (λe=>e)).trans yY.o;rw[e,R2.o]at hr;simp at hr
  cases bb with
  | false=>
   go_wp2;rw[set2 _ _ _ _ _ _ _ R2.o];refine QK (v:=aI #[O I 2,aH #[O aD 0,O aE 0]]) (XE results175 _ _ (w.heap.size+1) _ _ (0,0) _ rfl (show (w3.setRow (w.heap.size+1) #[O aD 0,O aE 0]).heap[w.heap.size+1]? =_ from Qi _ _ _ _ _ _ R2) underlying80 rfl (by kernel_rfl)) rfl ?_;exact⟨(kC.go (H4.go H8)).trans (Ts w3 (w.heap.size+1) _) (λj hj=>aN (by omega)),by rw[HVT.o];rfl⟩
  | true=>
   go_upto_region 5 with fail;go_region
   all_goals go_wp2;rw[set2 _ _ _ _ _ _ _ R2.o];refine QK (v:=aI #[O I 1,aH #[O aD (px:Int),O aE (py:Int)]]) (XE results175 _ _ (w.heap.size+1) _ _ (0,0) _ rfl (show (w3.setRow (w.heap.size+1) #[O aD (px:Int),O aE (py:Int)]).heap[w.heap.size+1]? =_ from Qi _ _ _ _ _ _ R2) underlying80 rfl (by kernel_rfl)) rfl ?_;exact⟨((kC.go (H4.go H8)).trans (Ts w3 (w.heap.size+1) _) (λj hj=>aN (by omega))).go (Td _ _ 1),by rw[HVT.o];rfl⟩

theorem Jhx:∀(A B:List (List UInt8))(x y:List UInt8),Ya A B=Z (x,y)->∃P:Nat,(∀i:Nat,i<P->∃t,A[i]? =Z t/\B[i]? =Z t)/\A[P]? =Z x/\B[P]? =Z y/\x ≠ y
 | [],_,_,_,h=>by simp[Ya]at h
 | _::_,[],_,_,h=>by simp[Ya]at h
 | a::A,b::B,x,y,h=>by
  unfold Ya at h
  split at h
  ·rename_i e;subst e;obtain⟨P,h1,h2,h3,h4⟩:=Jhx A B x y h;refine⟨P+1,λi hi=>?_,h2,h3,h4⟩
   cases i with
   | zero=>exact⟨a,rfl,rfl⟩
   | succ i=>exact h1 i (by omega)
  ·cases h
   exact⟨0,λi hi=>absurd hi (by omega),rfl,rfl,by assumption⟩
noncomputable def extR(n:Nat)(k:Key)(r1 r2:Option Wy):(BA×BA)×Bool:=match r1,r2 with
 | some w1,Z w2=>if w1.said k=w2.said k then ((⟨#[]⟩,⟨#[]⟩),false) else match Ya (w1.nodes (dgW n)) (w2.nodes (dgW n)) with
  | some (x,y)=>((⟨x.toArray⟩,⟨y.toArray⟩),true)
  | none=>((⟨#[]⟩,⟨#[]⟩),false)
 | _,_=>((⟨#[]⟩,⟨#[]⟩),false)
theorem Jib{w1 w2:Wy} :Xz (Z w1) k=Xz (Z w2) k↔w1.said k=w2.said k:=by
 unfold Xz
 cases h1:w1.said k<;>cases h2:w2.said k<;>simp[h1,h2]
theorem JeL{r:Option Wy} :(Xz r k).1=0↔r=Y:=by
 cases r with
 | none=>exact⟨λ_=>rfl,λ_=>rfl⟩
 | some wy=>
  unfold Xz
  cases h:wy.said k<;>simp[h]
theorem Jn1(h:(Xz r1 k).1=0\/(Xz r2 k).1=0\/Xz r1 k=Xz r2 k):extR n k r1 r2=((⟨#[]⟩,⟨#[]⟩),false):=by
 unfold extR
 cases r1 with
 | none=>rfl
 | some w1=>
  cases r2 with
  | none=>rfl
  | some w2=>
   rcases h with h|h|h
   ·exact absurd (JeL.1 h) (by simp)
   ·exact absurd (JeL.1 h) (by simp)
   ·exact if_pos (Jib.1 h)
theorem JkU(hD : DgC)(wj : Int)(pL : -9223372036854775808 <= wj /\ wj < 9223372036854775808)(H : BA)(c : BA × Int)(hc : c.1.size <= 9223372036854775807)(T1 T2 : BA)(uw : T1.size <= 2000000)(uy : T2.size <= 2000000)(w : aA) :
    aB N 115 #[O I wj, L H, aH #[L c.1, O I c.2], L T1, L T2] w λe w' => M (λ_ => False) w w' /\ e = aC (aI #[L (extR wj.toNat (Jc c) (accR wj H c T1.data.toList) (accR wj H c T2.data.toList)).1.1, L (extR wj.toNat (Jc c) (accR wj H c T1.data.toList) (accR wj H c T2.data.toList)).1.2, aL (extR wj.toNat (Jc c) (accR wj H c T1.data.toList) (accR wj H c T2.data.toList)).2]) := by
  obtain⟨W, (HW : J _)⟩ : ∃ W, W = w.alloc (T #[L c.1, O I c.2] 49) := ⟨_, rfl⟩;have tA : M (λ_ => False) w W := by rw[HW]; exact Ta _ _ _
  have kj : W.heap[w.heap.size]? = Z (T #[L c.1, O I c.2] 49) := by rw[HW]; exact Qf _ _
  have HC : J (∀ V, M (λ_ => False) W V -> (V.cell? ⟨w.heap.size, 0, Y⟩ = Z (L c.1) /\ V.cell? ⟨w.heap.size, 1, Y⟩ = Z (O I c.2))) := λV hT => by
    have h0 := (hT.block _ (Jb kj) (λh => h)).trans kj;exact⟨Ja h0, Ja h0⟩
  have kC : J _ := tA;have vX : J (∀ V, _) := λV => JbI hD wj pL H c hc T1 uw V;have vY : J (∀ V, _) := λV => JbI hD wj pL H c hc T2 uy V;have zA : J (∀ V, _) := λV => Jd7 hD wj pL H c hc T1 uw V;have kz : J (∀ V, _) := λV => Jd7 hD wj pL H c hc T2 uy V;obtain⟨R1, dG⟩ : ∃ aW, accR wj H c T1.data.toList = aW := ⟨_, rfl⟩;obtain⟨R2, eM⟩ : ∃ aW, accR wj H c T2.data.toList = aW := ⟨_, rfl⟩;obtain⟨key, jA⟩ : ∃ key, Jc c = key := ⟨_, rfl⟩;rw[dG, jA]at zA;rw[eM, jA]at kz;rw[dG]at vX;rw[eM]at vY;rw[dG, eM, jA];obtain⟨v, oa, ob, jq⟩ : ∃ v oa ob, Xz R1 key = (v, (oa, ob)) := ⟨_, _, _, rfl⟩;obtain⟨u, qa, qb, kW⟩ : ∃ v oa ob, Xz R2 key = (v, (oa, ob)) := ⟨_, _, _, rfl⟩;rw[jq]at zA;rw[kW]at kz;obtain⟨a0, a1⟩ := HC W (Te _ _);obtain⟨XR, (eN : J _)⟩ : ∃ XR, extR wj.toNat key R1 R2 = XR := ⟨_, rfl⟩;rw[eN];have qo : J (Xz R1 key = (v, (oa, ob)) /\ Xz R2 key = (u, (qa, qb))) := ⟨jq, kW⟩;have qD : J (accR wj H c T1.data.toList = R1 /\ accR wj H c T2.data.toList = R2 /\ Jc c = key) := ⟨dG, eM, jA⟩;obtain⟨s, aZ⟩ := c;simp only at HC HW zA kz vX vY qD a0 a1 ⊢;clear jq kW jA dG eM tA kj hc;go_enter func115, ntmps115;go_upto_region 1 with fail;rw[<- HW.o];go_upto_region 2 with(go_at_call 175; refine(zA _).mono ?_; rintro _ w1⟨(H3 : J _), rfl⟩);obtain⟨p1, Hs⟩ : ∃ p, w1.heap.size = p := ⟨_, rfl⟩;have H4 : J _ := H3.go (Ta _ w1 (T #[O aD (oa : Int), O aE (ob : Int)] 80));have Hq : J ((w1.alloc (T #[O aD (oa : Int), O aE (ob : Int)] 80)).heap[p1]? = Z (T #[O aD (oa : Int), O aE (ob : Int)] 80)) := by show _ = _; rw[<- Hs]; exact Qf _ _
  rw[Hs];generalize w1.alloc (T #[O aD (oa : Int), O aE (ob : Int)] 80) = w2 at *;obtain⟨a0, a1⟩ := HC w2 H4.o;go_upto_region 3 with(go_at_call 175; refine(kz _).mono ?_; rintro _ w3⟨(H8 : J _), rfl⟩);obtain⟨p2, kJ⟩ : ∃ p, w3.heap.size = p := ⟨_, rfl⟩;have He : J _ := H8.go (Ta _ w3 (T #[O aD (qa : Int), O aE (qb : Int)] 80));have Hw : J ((w3.alloc (T #[O aD (qa : Int), O aE (qb : Int)] 80)).heap[p2]? = Z (T #[O aD (qa : Int), O aE (qb : Int)] 80)) := by show _ = _; rw[<- kJ]; exact Qf _ _
  rw[kJ];generalize w3.alloc (T #[O aD (qa : Int), O aE (qb : Int)] 80) = w4 at *;obtain⟨a0, a1⟩ := HC w4 (H4.go He);have fH := (He.block _ (Jb Hq) (λe => e)).trans Hq.o;obtain⟨b0, b1⟩ := rows fH;obtain⟨b2, b3⟩ := rows Hw.o;have Hz : J _ := kC.go (H4.go He);go_cut [53] (λv53 wx => wx = w4 /\ ((v53 = aL true /\ J (v = 0 \/ u = 0 \/ (v, (oa, ob)) = (u, (qa, qb)))) \/ (v53 = aL false /\ J (¬ (v = 0 \/ u = 0 \/ (v, (oa, ob)) = (u, (qa, qb)))))))
  case first =>
   by_cases kX : v = 0 \/ u = 0 \/ (v, (oa, ob)) = (u, (qa, qb))
   · have vA : J _ := kX
     rcases(show (v == 0) = true \/ ((v == 0) = false /\ (u == 0) = true) \/ ((v == 0) = false /\ (u == 0) = false /\ v = u /\ oa = qa /\ ob = qb) by
       by_cases e1 : v = 0
       · exact aM (beq_iff_eq.2 e1)
       · by_cases e2 : u = 0
         · exact aN (aM ⟨beq_eq_false_iff_ne.2 e1, beq_iff_eq.2 e2⟩)
         · rcases kX with h|h|h
           · exact absurd h e1
           · exact absurd h e2
           · cases h; exact aN (aN ⟨beq_eq_false_iff_ne.2 e1, beq_eq_false_iff_ne.2 e2, rfl, rfl, rfl⟩)) with g1|⟨g1, g2⟩|⟨g1, g2, g3, g4, g5⟩
     all_goals
       try subst g3 g4 g5
       go_wp2;go_meet;exact⟨rfl, aM ⟨by first|rfl|simp, vA⟩⟩
   · have vA : J _ := kX
     have g1 := beq_eq_false_iff_ne.2 (λe => kX (aM e));have g2 := beq_eq_false_iff_ne.2 (λe => kX (aN (aM e)))
     rcases(show (v == u) = false \/ (v = u /\ ¬ (oa : Int) = (qa : Int)) \/ (v = u /\ oa = qa /\ ¬ (ob : Int) = (qb : Int)) by
       by_cases e1 : v = u
       · by_cases e2 : oa = qa
         · exact aN (aN ⟨e1, e2, λe3 => vA (aN (aN (by rw[e1, e2, show ob = qb by omega])))⟩)
         · exact aN (aM ⟨e1, by omega⟩)
       · exact aM (beq_eq_false_iff_ne.2 e1)) with g3|⟨g3, g4⟩|⟨g3, g4, g5⟩
     all_goals
       try subst g3
       try subst g4
       go_wp2;go_meet;exact⟨rfl, aN ⟨rfl, vA⟩⟩
  case rest =>
  obtain⟨rfl, ⟨rfl, vA⟩|⟨rfl, vA⟩⟩ := hcut
  · obtain rfl : XR = ((⟨#[]⟩, ⟨#[]⟩), false) := by rw[<- eN.o]; exact Jn1 (by rw[qo.o.1, qo.o.2]; exact vA)
    go_wp2;refine QK (v := aI #[L ⟨#[]⟩, L ⟨#[]⟩, aL false]) (results_tmp3 results115 _ _ _) rfl ⟨Hz, rfl⟩
  · clear b0 b1 b2 b3
    cases R1 with
    | none => exact absurd (aM (congrArg Prod.fst qo.1).symm) vA.o
    | some w1 =>
    cases R2 with
    | none => exact absurd (aN (aM (congrArg Prod.fst qo.2).symm)) vA.o
    | some w2 =>
    obtain⟨c1, c2, c3, gL, c5, c6⟩ := JdB qD.1;obtain⟨-, -, -, -, d5, d6⟩ := JdB qD.2.1;rw[qD.o.2.2]at c5 d5;obtain⟨n, hn⟩ : ∃ n, wj.toNat = n := ⟨_, rfl⟩;rw[hn]at c5 c6 d5 d6 gL eN vX vY;have jT : n <= 32 := by omega
    have jW : key.length = n + 1 := by rw[<- qD.o.2.2]; exact Xt gL
    have jg := Ja9 jW jT ((JaO jT).2 ⟨c5, c6⟩);have kt := Ja9 jW jT ((JaO jT).2 ⟨d5, d6⟩);have xl : ¬ w1.said key = w2.said key := λe => vA (aN (aN (by rw[<- qo.o.1, <- qo.o.2]; exact Jib.2 e)));obtain⟨x, y, jw, (cU : J _), -⟩ := Wy.sound (dgW n) n (Jj n jT) key _ w1 w2 jg.1 kt.1 (λz hz => (jg.2.key z hz).2.2) (λz hz => (kt.2.key z hz).2.2) xl;obtain⟨P, hP1, am, hP3, -⟩ := Jhx _ _ _ _ jw;have zu : J (XR = ((⟨x.toArray⟩, ⟨y.toArray⟩), true)) := by
      show XR = _;rw[<- eN.o];unfold extR;simp only;rw[if_neg xl, jw]
    have eO : J ((∀ i : Nat, i < P -> ∃ t, (w1.nodes (dgW n))[i]? = Z t /\ (w2.nodes (dgW n))[i]? = Z t) /\ (w1.nodes (dgW n))[P]? = Z x /\ (w2.nodes (dgW n))[P]? = Z y) := ⟨hP1, am, hP3⟩;have vM : J (P < w1.1.length + 1 /\ P < w2.1.length + 1) := by
      have l1 := (Qo.1 am).1;have l2 := (Qo.1 hP3).1;unfold Wy.nodes at l1 l2;rw[JZ]at l1 l2;exact⟨l1, l2⟩
    have qS : J (w1.1.length <= 1000 /\ w2.1.length <= 1000) := ⟨by have := jg.2.len; omega, by have := kt.2.len; omega⟩;clear c1 c2 c3 gL c5 c6 d5 d6 jg kt xl jw hP1 am hP3 jW hn eN qo vA qD;have xU : J (∀ (wy : Wy) V e V', Jaq n (Z wy) V e V' -> M (λ_ => False) V V' /\ ∃ (g m : Nat) (k : BA) (a b : Nat), e = aC (aI #[aH #[R (Z ⟨g, 0, Y⟩) m m, L k, O aD (a : Int), O aE (b : Int)], aL true]) /\ wy.1.length + 1 = m /\ g < V'.heap.size /\ ∀ (j : Nat) t, (wy.nodes (dgW n))[j]? = Z t -> V'.cell? ⟨g, j, Y⟩ = Z (L ⟨t.toArray⟩)) := λwy V e V' h => by
      obtain⟨q1, g, m, q2, q3⟩ := h;exact⟨q1, g, m, _, _, _, q2, q3⟩
    go_upto_region 6 with(go_at_call 176; refine(vX _).mono ?_; intro e5 w5 h5; obtain⟨(Hu : J _), ga, ma, ka, xa, ya, rfl, hm5, eP, hc5⟩ := xU _ _ _ _ h5; have HN5 : J (w1.1.length + 1 = ma /\ ga < w5.heap.size /\ ∀ (j : Nat) t, (w1.nodes (dgW n))[j]? = Z t -> w5.cell? ⟨ga, j, Y⟩ = Z (L ⟨t.toArray⟩)) := ⟨hm5, eP, hc5⟩; clear h5 hm5 eP hc5);obtain⟨qa1, eQ⟩ : ∃ q, w5.heap.size = q := ⟨_, rfl⟩;have jZ : J ((w5.alloc (T #[R (Z ⟨ga, 0, Y⟩) ma ma, L ka, O aD (xa : Int), O aE (ya : Int)] 302)).heap[qa1]? = Z (T #[R (Z ⟨ga, 0, Y⟩) ma ma, L ka, O aD (xa : Int), O aE (ya : Int)] 302)) := by show _ = _; rw[<- eQ]; exact Qf _ _
    have k8 : J (M (λ_ => False) w5 (w5.alloc (T #[R (Z ⟨ga, 0, Y⟩) ma ma, L ka, O aD (xa : Int), O aE (ya : Int)] 302))) := Ta _ _ _;rw[eQ];generalize w5.alloc (T #[R (Z ⟨ga, 0, Y⟩) ma ma, L ka, O aD (xa : Int), O aE (ya : Int)] 302) = w6 at *;obtain⟨a0, a1⟩ := HC w6 ((H4.go He).go (Hu.go k8));go_upto_region 7 with(go_at_call 176; refine(vY _).mono ?_; intro e7 w7 h7; obtain⟨(gG : J _), gb, mb, kb, xb, yb, rfl, hm7, eR, hc7⟩ := xU _ _ _ _ h7; have HN7 : J (w2.1.length + 1 = mb /\ gb < w7.heap.size /\ ∀ (j : Nat) t, (w2.nodes (dgW n))[j]? = Z t -> w7.cell? ⟨gb, j, Y⟩ = Z (L ⟨t.toArray⟩)) := ⟨hm7, eR, hc7⟩; clear h7 hm7 eR hc7);obtain⟨qb1, eT⟩ : ∃ q, w7.heap.size = q := ⟨_, rfl⟩;have vJ : J ((w7.alloc (T #[R (Z ⟨gb, 0, Y⟩) mb mb, L kb, O aD (xb : Int), O aE (yb : Int)] 302)).heap[qb1]? = Z (T #[R (Z ⟨gb, 0, Y⟩) mb mb, L kb, O aD (xb : Int), O aE (yb : Int)] 302)) := by show _ = _; rw[<- eT]; exact Qf _ _
    have kw : J (M (λ_ => False) w7 (w7.alloc (T #[R (Z ⟨gb, 0, Y⟩) mb mb, L kb, O aD (xb : Int), O aE (yb : Int)] 302))) := Ta _ _ _;rw[eT];generalize w7.alloc (T #[R (Z ⟨gb, 0, Y⟩) mb mb, L kb, O aD (xb : Int), O aE (yb : Int)] 302) = w8 at *;have ji : J (∀ V, M (λ_ => False) w8 V -> (V.cell? ⟨qa1, 0, Y⟩ = Z (R (Z ⟨ga, 0, Y⟩) ma ma) /\ V.cell? ⟨qb1, 0, Y⟩ = Z (R (Z ⟨gb, 0, Y⟩) mb mb)) /\ ∀ (j : Nat) t t', (w1.nodes (dgW n))[j]? = Z t -> (w2.nodes (dgW n))[j]? = Z t' -> V.cell? ⟨ga, j, Y⟩ = Z (L ⟨t.toArray⟩) /\ V.cell? ⟨gb, j, Y⟩ = Z (L ⟨t'.toArray⟩)) := λV hV => by
      have t6 := gG.o.go (kw.go hV);have r6 := (t6.block _ (Jb jZ) (λe => e)).trans jZ.o;have r8 := (hV.block _ (Jb vJ) (λe => e)).trans vJ.o;refine⟨⟨(Jad r6).1, (Jad r8).1⟩, λj t t' h1 h2 => ⟨?_, ?_⟩⟩
      · exact((k8.go t6).cell (p := ⟨ga, j, Y⟩) HN5.2.1 (λe => e)).trans (HN5.2.2 j t h1)
      · exact((kw.go hV).cell (p := ⟨gb, j, Y⟩) HN7.2.1 (λe => e)).trans (HN7.2.2 j t' h2)
    have bj : J _ := Hz.go (Hu.go (k8.go (gG.go kw)));have hma : P < ma := by have := vM.o.1; have := HN5.o.1; omega
    have hmb : P < mb := by have := vM.o.2; have := HN7.o.1; omega
    have hPP : P <= 1000 := by have := vM.o.1; have := qS.o.1; omega
    go_wp2;go_loopw [21] (λv21 wr => ∃ i : Nat, v21 = O I (i : Int) /\ i <= P /\ J (M (λ_ => False) w8 wr)) (λv21 _ => P-(intOf v21).toNat)
    case atStart => exact⟨0, rfl, Nat.zero_le _, Te _ _⟩
    case round =>
      obtain⟨i, rfl, hi, rF⟩ := hrel;obtain⟨⟨f0, f1⟩, mJ⟩ := ji wr rF.o;have i1 : (i : Int) < (ma : Int) := by omega
      have i2 : (i : Int) < (mb : Int) := by omega
      have i0 : (0 : Int) <= (i : Int) := by omega
      have wi := w63 _ (by omega) (by omega)
      by_cases H5 : i < P
      · obtain⟨t, h1, h2⟩ := eO.1 i H5
        obtain⟨f2, f3⟩ := mJ i t t h1 h2;go_upto_region 8 with fail;go_region_held3 (λV => V.cell? ⟨qa1, 0, Y⟩ = Z (R (Z ⟨ga, 0, Y⟩) ma ma) /\ V.cell? ⟨qb1, 0, Y⟩ = Z (R (Z ⟨gb, 0, Y⟩) mb mb) /\ V.cell? ⟨ga, i, Y⟩ = Z (L ⟨t.toArray⟩) /\ V.cell? ⟨gb, i, Y⟩ = Z (L ⟨t.toArray⟩)) (go_keep) (fail)
        all_goals
          go_wp2;go_roundw
          case rel => exact⟨i + 1, by go_num, by omega, rF.go (Td _ _ 1)⟩
          case measure => simp[intOf]; omega
      · obtain rfl : i = P := by omega
        obtain⟨f2, f3⟩ := mJ i x y eO.2.1 eO.2.2;have hxb : ((⟨x.toArray⟩ : BA).toList == (⟨y.toArray⟩ : BA).toList) = false := by
          rw[beq_eq_false_iff_ne, ByteArray.toList_eq, ByteArray.toList_eq];exact cU.o
        obtain⟨XB, hXB⟩ : ∃ XB : BA, ⟨x.toArray⟩ = XB := ⟨_, rfl⟩;obtain⟨YB, hYB⟩ : ∃ YB : BA, ⟨y.toArray⟩ = YB := ⟨_, rfl⟩;rw[hXB]at f2;rw[hYB]at f3;rw[hXB, hYB]at hxb zu;go_upto_region 8 with fail;go_cut [80] (λv80 wx => v80 = aL false /\ J (M (λ_ => False) wr wx))
        case first =>
          go_region_held3 (λV => V.cell? ⟨qa1, 0, Y⟩ = Z (R (Z ⟨ga, 0, Y⟩) ma ma) /\ V.cell? ⟨qb1, 0, Y⟩ = Z (R (Z ⟨gb, 0, Y⟩) mb mb) /\ V.cell? ⟨ga, i, Y⟩ = Z (L XB) /\ V.cell? ⟨gb, i, Y⟩ = Z (L YB)) (go_keep) (fail)
          all_goals go_wp2;go_meet;exact⟨rfl, Td _ _ 1⟩
        case rest =>
        obtain⟨rfl, HTS⟩ := hcut;obtain⟨w9, bv⟩ : ∃ w9, w9 = wc := ⟨_, rfl⟩;subst bv;obtain⟨⟨f0, f1⟩, mJ⟩ := ji w9 (rF.go HTS);obtain⟨f2, f3⟩ := mJ i x y eO.2.1 eO.2.2;rw[hXB]at f2;rw[hYB]at f3;go_upto_region 10 with fail;go_region_held3 (λV => V.cell? ⟨qa1, 0, Y⟩ = Z (R (Z ⟨ga, 0, Y⟩) ma ma) /\ V.cell? ⟨qb1, 0, Y⟩ = Z (R (Z ⟨gb, 0, Y⟩) mb mb) /\ V.cell? ⟨ga, i, Y⟩ = Z (L XB) /\ V.cell? ⟨gb, i, Y⟩ = Z (L YB)) (go_keep) (fail)
        all_goals go_wp2;refine QK (v := aI #[L XB, L YB, aL true]) (results_tmp3 results115 _ _ _) rfl ⟨(bj.go (rF.go HTS)).go (Td _ _ 1), by rw[zu.o]⟩

theorem JfR(s:List UInt8)(h:¬(1<=wj/\wj<=32/\(H.size:Int)=4+3*wj/\Ji wj.toNat c)):accR wj H c s=Y:=by
 unfold accR;exact if_neg (λe=>h ⟨e.1,e.2.1,e.2.2.1,(Yc _ _).1 e.2.2.2⟩)
theorem JgG(h1:1<=n)(h2:n<=32)(h3:H.size=4+3*n)(hc:Ji n c):∃hd:HdL,HdOk n hd/\H=⟨(Hn hd).toArray⟩/\∀s,accR (n:Int) H c s=chk n (Jc c) hd.2.2.2 s:=by
 obtain⟨hd,yh,qj,rE⟩:=Jma (wj:=n) H.data.toList (by rw[QA];exact h3);refine⟨hd,yh,YK qj.symm,λs=>?_⟩;have he:H.extract (4+2*n) H.size=hd.2.2.2:=by rw[rE];apply YK;rw[ByteArray.data_extract,Array.toList_extract,List.extract_eq_take_drop,QS];rw[List.length_drop,QA];exact Ql _
 unfold accR;rw[lC,if_pos ⟨by omega,by omega,by omega,(Yc _ _).2 hc⟩,he]
 cases hr:refW n (Jc c) s with
 | none=>
  cases hk:chk n (Jc c) hd.2.2.2 s with
  | none=>rfl
  | some wy=>rw[((JaO h2).1 hk).1]at hr;cases hr
 | some wy=>
  rw[Qu]
  by_cases hg:dgW n ((wy.nodes (dgW n)).headD [])=hd.2.2.2
  ·rw[if_pos hg,(JaO h2).2 ⟨hr,hg⟩]
  ·rw[if_neg hg]
   cases hk:chk n (Jc c) hd.2.2.2 s with
   | none=>rfl
   | some wy'=>
    have:=(JaO h2).1 hk;rw[hr]at this;exact absurd (by rw[Option.some.inj this.1];exact this.2) hg
theorem Jjn(E:Nat->Addr)(wj:Int)(H:BA)(hH:H.size<=1100000)(c:BA×Int)(hr: -9223372036854775808<=c.2/\c.2<9223372036854775808)(aY:BA)(hS:aY.size<=2000000)(w:aA)(hE:Env E w)(hA:Ast w):
  aB Tryz.prog 47 #[O I wj,L H,aH #[L c.1,O I c.2],L aY] w λe w'=>M D w w'/\e=aC (aI #[O I (Xz (accR wj H c aY.data.toList) (Jc c)).1,aH #[O aD ((Xz (accR wj H c aY.data.toList) (Jc c)).2.1:Int),O aE ((Xz (accR wj H c aY.data.toList) (Jc c)).2.2:Int)]]):=by
 by_cases h:1<=wj/\wj<=32/\(H.size:Int)=4+3*wj/\Ji wj.toNat c
 ·obtain⟨h1,h2,h3,h4⟩:=h;obtain⟨n,rfl⟩:=lE (show 0<=wj by omega);rw[lC]at h4;obtain⟨hd,yh,qj,rE⟩:=JgG (n:=n) (H:=H) (by omega) (by omega) (by omega) h4;rw[rE,qj];exact Jjo E n (by omega) (by omega) hd yh c h4 aY hS w hE hA
 ·rw[JfR _ h];exact Jia E wj H hH c hr h aY w hE
theorem Jn2{sx sy:BA}{b:Bool}(h:JdK n k r1 r2 sx sy b):sx=(extR n k r1 r2).1.1/\sy=(extR n k r1 r2).1.2/\b=(extR n k r1 r2).2:=by
 cases r1 with
 | none=>obtain⟨e1,e2,e3⟩:=h;exact⟨e2,e3,e1⟩
 | some w1=>
  cases r2 with
  | none=>obtain⟨e1,e2,e3⟩:=h;exact⟨e2,e3,e1⟩
  | some w2=>
   unfold JdK at h;unfold extR;dsimp only at h ⊢
   split at h
   ·rename_i he;obtain⟨e1,e2,e3⟩:=h;rw[if_pos he];exact⟨e2,e3,e1⟩
   ·rename_i he;obtain⟨e1, -, -, -, -,e6⟩:=h;rw[if_neg he,e6];exact⟨(Zw _).symm,(Zw _).symm,e1⟩
theorem Jg1(E:Nat->Addr)(wj:Int)(H:BA)(hH:H.size<=1100000)(c:BA×Int)(hr: -9223372036854775808<=c.2/\c.2<9223372036854775808)(T1 T2:BA)(uw:T1.size<=2000000)(uy:T2.size<=2000000)(w:aA)(hE:Env E w)(hA:Ast w)(hL:Alk w):
  aB Tryz.prog 51 #[O I wj,L H,aH #[L c.1,O I c.2],L T1,L T2] w λe w'=>M D w w'/\e=aC (aI #[L (extR wj.toNat (Jc c) (accR wj H c T1.data.toList) (accR wj H c T2.data.toList)).1.1,L (extR wj.toNat (Jc c) (accR wj H c T1.data.toList) (accR wj H c T2.data.toList)).1.2,aL (extR wj.toNat (Jc c) (accR wj H c T1.data.toList) (accR wj H c T2.data.toList)).2]):=by
 by_cases h:1<=wj/\wj<=32/\(H.size:Int)=4+3*wj/\Ji wj.toNat c
 ·obtain⟨h1,h2,h3,h4⟩:=h;obtain⟨n,rfl⟩:=lE (show 0<=wj by omega);rw[lC]at h4;obtain⟨hd,yh,qj,rE⟩:=JgG (n:=n) (H:=H) (by omega) (by omega) (by omega) h4;rw[rE,rE,qj,lC];refine(Jg2 E n (by omega) (by omega) hd yh c h4 T1 T2 uw uy w hE hA hL).mono ?_;rintro e w'⟨ht,sx,sy,b,hx,rfl⟩;obtain⟨e1,e2,e3⟩:=Jn2 hx;exact⟨ht,by rw[<-e1,<-e2,<-e3]⟩
 ·rw[JfR _ h,JfR _ h];exact Jf2 E wj H hH c hr h T1 T2 w hE

theorem JdV(hD:DgC)(E:Nat->Addr)(wj:Int)(pL: -9223372036854775808<=wj/\wj<9223372036854775808)(H:BA)(hH:H.size<=1100000)(c:BA×Int)(hc:c.1.size<=9223372036854775807)(hr: -9223372036854775808<=c.2/\c.2<9223372036854775808)(aY:BA)(hS:aY.size<=2000000)(w:aA)(hE:Env E w)(hA:Ast w):
  aB Tryz.prog 114 #[O I wj,L H,aH #[L c.1,O I c.2],L aY] w λe w'=>e=aC (aL true)/\M D w w':=by
 obtain⟨W,(HW:J _)⟩:∃W,W=w.alloc (T #[L c.1,O I c.2] 49):=⟨_,rfl⟩
 have tA:M D w W:=by rw[HW];exact Ta _ _ _
 have kj:W.heap[w.heap.size]? =Z (T #[L c.1,O I c.2] 49):=by rw[HW];exact Qf _ _
 have HC:J (∀V,M D W V->(V.cell? ⟨w.heap.size,0,Y⟩=Z (L c.1)/\V.cell? ⟨w.heap.size,1,Y⟩=Z (O I c.2))):=λV hT=>by
  have h0:=(hT.block _ (Jb kj) (λh=>h)).trans kj;exact⟨Ja h0,Ja h0⟩
 have kC:J _:=tA;have zA:J (∀V,M D w V->_):=λV hV=>Jjn E wj H hH c hr aY hS V (hE.tch hV noE) (hA.tch hV (λh=>h));have kz:J (∀V,_):=λV=>Jd7 hD wj pL H c hc aY hS V;obtain⟨v,oa,ob,hv⟩:∃v oa ob,Xz (accR wj H c aY.data.toList) (Jc c)=(v,(oa,ob)):=⟨_,_,_,rfl⟩
 rw[hv]at zA kz;obtain⟨a0,a1⟩:=HC W (Te _ _);obtain⟨s,aZ⟩:=c;simp only at HC HW zA kz a0 a1 ⊢;clear hv tA kj hc hE hA;go_enter Tryz.func114,Tryz.ntmps114;go_upto_region 1 with fail;rw[<-HW.o];go_upto_region 2 with(go_at_call 47;refine(zA _ kC).mono ?_;rintro _ w1⟨(H3:J _),rfl⟩);obtain⟨p1,Hs⟩:∃p,w1.heap.size=p:=⟨_,rfl⟩
 have H4:J _:=H3.go (Ta _ w1 (T #[O aD (oa:Int),O aE (ob:Int)] 80));have Hq:J ((w1.alloc (T #[O aD (oa:Int),O aE (ob:Int)] 80)).heap[p1]? =Z (T #[O aD (oa:Int),O aE (ob:Int)] 80)):=by show _=_;rw[<-Hs];exact Qf _ _
 rw[Hs];generalize w1.alloc (T #[O aD (oa:Int),O aE (ob:Int)] 80)=w2 at *;obtain⟨a0,a1⟩:=HC w2 H4.o;go_upto_region 3 with(go_at_call 175;refine(kz _).mono ?_;rintro _ w3⟨(H8:J _),rfl⟩);obtain⟨p2,kJ⟩:∃p,w3.heap.size=p:=⟨_,rfl⟩
 have He:J _:=H8.go (Ta _ w3 (T #[O aD (oa:Int),O aE (ob:Int)] 80));have Hw:J ((w3.alloc (T #[O aD (oa:Int),O aE (ob:Int)] 80)).heap[p2]? =Z (T #[O aD (oa:Int),O aE (ob:Int)] 80)):=by show _=_;rw[<-kJ];exact Qf _ _
 rw[kJ];generalize w3.alloc (T #[O aD (oa:Int),O aE (ob:Int)] 80)=w4 at *;have fH:=(He.block _ (Jb Hq) (λe=>e)).trans Hq.o;obtain⟨b0,b1⟩:=rows fH;obtain⟨b2,b3⟩:=rows Hw.o;go_wp2;go_ret;exact⟨by first|rfl|simp,kC.go (H4.go He)⟩

theorem Jfw{g:Nat}(h:V.heap[g]? =Z (T (vvA (os.map encO++YI)) 80)):Jr V.heap.size V (R (Z ⟨g,0,Y⟩) os.length (os.length+8)) os:=
 aN ⟨g,0,_,rfl,(Jb h),(Jb h),λi hi=>by
  have:=Xp h (i:=i) (encO os[i]) (by
   rw[QF (by simpa using hi),lM,Qd hi];rfl)
  rw[Nat.zero_add];exact this⟩
def WTo(base:Nat)(w:aA)(wb n:Nat)(vl vm:aG)(e:Ending)(w':aA):Prop:=e=aC (aL true)/\WSt base w' wb n vl vm/\M (λj=>base<=j) w w'
theorem Jpg(E:Nat->Addr)(hF:Xx E base w)(h:WSt base w wb n vl vm)(hn:n<=900000)(gX:base<=w.heap.size)(x:OpL)(log:BA)(hk:x.kind=2)(hx:OpOk base w x os ts sl):
  aB N 33 #[X (Z ⟨wb,0,Y⟩),opV x,L log] w (WTo base w wb (n+1) vl vm):=by
 have rL:=hx.oLen
 by_cases Hb:1<=x.a/\x.a<=32/\1<=os.length/\os.length<=3
 ·obtain⟨a1,a2,o1,o3⟩:=Hb;obtain⟨wj,hw⟩:=lE (show 0<=x.a by omega);have Hf:1<=wj:=by omega
  have eU:wj<=32:=by omega
  obtain⟨st,kE⟩:=Jak (dgW wj (71::Jy os)) os hx.oOk o3;refine JdU w wb x log hk gX (os.map encO) (by rw[QM];omega) hx.outs.vr (Jgr _) 0
   (λg pl V=>∃lb F,pl=Z ⟨lb,0,Y⟩/\LAt wj base 0 V lb F 0 [(⟨(Hn (Yh wj os st)).toArray⟩,st)]/\∀j,F j->g<j/\w.heap.size<=j)
   (λg pl pr V=>∃lb rb F G,pl=Z ⟨lb,0,Y⟩/\pr=Z ⟨rb,0,Y⟩/\Duo base V 1 lb rb F G/\∀j,F j\/G j->g<j/\w.heap.size<=j) _ (λV g hV hg hr=>?_) (λV g pl hV hq=>?_) (λV V' g pl pr hq ht=>?_) (λV g pl pr hV hq=>?_)
  ·rw[QM,hw];refine(JkA E base wj _ os Hf eU (hF.tch hV (λ_ e=>e.elim)) (Qm gX hV.size) (Jfw hr) o1 o3 hx.oOk).mono λe V' k=>?_;obtain⟨k0,lb,F,h',st',k1,k2,k3,_,k4,k5⟩:=k;rw[kE]at k3
   cases k3
   subst k4;have nP:=(Jb hr)
   exact⟨_,k1,k0,lb,F,rfl,k2,λj hj=>⟨by have:=k5 j hj;omega,Qm hV.size (k5 j hj)⟩⟩
  ·obtain⟨lb,F,rfl,q1,q2⟩:=hq;rw[hw];refine(JqA dgC wj Hf eU _ os hx.oOk o1 o3 base V (hx.outs.tch hV (λ_ e=>e.elim)) base (Qm gX hV.size) st kE).mono λe V' k=>?_;obtain⟨k0,rb,G,vL,lv,b,k1,k2,k3⟩:=k;refine⟨_,k1,k0,lb,rb,F,G,rfl,rfl,⟨wj,_,vL,lv,b,q1.keep k0 (λ_ e=>e.elim),k2,Ql _,λj hf hg=>?_⟩,λj hj=>?_⟩
   ·have:=(q1.low j hf).2;have:=k3 j hg;omega
   ·rcases hj with hj|hj
    ·exact q2 j hj
    ·have h1:=k3 j hj;have h2:=hV.size;have h3:=q1.low lb (by obtain⟨_,_,_,_,_,_,C⟩:=q1;exact C.ownL);have h4:=q2 lb (by obtain⟨_,_,_,_,_,_,C⟩:=q1;exact C.ownL);omega
  ·obtain⟨lb,rb,F,G,rfl,rfl,q1,q2⟩:=hq;exact⟨lb,rb,F,G,rfl,rfl,q1.tch ht (λj e=>⟨λf=>by have:=q2 j (aM f);omega,λf=>by have:=q2 j (aN f);omega⟩),q2⟩
  ·obtain⟨lb,rb,F,G,rfl,rfl,q1,q2⟩:=hq;obtain⟨vls,vrs,ls,rs,c,hW⟩:=h;have hWV:=hW.tch hV (λ_ e=>e.elim);have vP:=hW.few;refine(Jn8 hWV.at' ⟨lb,0,Y⟩ ⟨rb,0,Y⟩ (by rw[QM];omega) (by rw[QM,<-hW.len];omega) (Qm gX hV.size)).mono λe V' k=>?_;obtain⟨k0,vls',vrs',k1,k2,k3⟩:=k;exact⟨k0,hW.join hV q1 (λj hj=>(q2 j hj).2) k1 k2 k3 gX (by omega)⟩
 ·refine JdU w wb x log hk gX (os.map encO) (by rw[QM];omega) hx.outs.vr (Jgr _) 1 (λg pl V=>pl=Y) (λg pl pr V=>pl=Y/\pr=Y) _ (λV g hV hg hr=>?_) (λV g pl hV hq=>?_) (λV V' g pl pr hq ht=>hq) (λV g pl pr hV hq=>?_)
  ·rw[QM];exact(JmI E x.a _ os V (hF.tch hV (λ_ e=>e.elim)) (Jfw hr) rL hx.oOk Hb).mono λe V' k=>⟨_,k.1,k.2,rfl⟩
  ·subst hq;exact(JmQ x.a _ os base V (hx.outs.tch hV (λ_ e=>e.elim)) (by omega) Hb).mono λe V' k=>⟨_,k.1,k.2,rfl,rfl⟩
  ·obtain⟨rfl,rfl⟩:=hq;exact(JiD wb V).mono λe V' k=>⟨k.1,by rw[k.2];exact(h.tch0 hV).up (by omega),by rw[k.2];exact hV.mono (λ_ e=>e.elim)⟩
theorem Jn7(E:Nat->Addr)(hF:Xx E base w)(h:WSt base w wb n vl vm)(hn:n<=900000)(gX:base<=w.heap.size)(x:OpL)(hk:x.kind=1\/x.kind=2\/x.kind=10\/x.kind=11)(hA:Ast w)(hL:Alk w)(hx:OpOk base w x os ts sl):
  aB N 68 #[X (Z ⟨wb,0,Y⟩),opV x] w (WTo base w wb (n+1) vl vm):=by
 obtain⟨w0,(qM:J _),t0,(kF:J _)⟩:=Ja8 w x;have xw:J (x.kind=2->aB N 33 #[X (Z ⟨wb,0,Y⟩),opV x,L x.s] w0 (WTo base w wb (n+1) vl vm)):=λhk=>(Jpg E (hF.tch t0 (λ_ e=>e.elim)) (h.tch0 t0) hn (Qm gX t0.size) x x.s hk (hx.tch t0 (λ_ e=>e.elim))).mono λe w' k=>⟨k.1,k.2.1,(t0.mono (λ_ e=>e.elim)).trans k.2.2 (λ_ e=>aM e)⟩
 obtain⟨S,code,(mT:J _),(fe:J _)⟩:∃(S:BA)(code:Int),(∀V,M D w V->aB N 73 #[O I x.a,L x.s] V λe w'=>M D V w'/\e=aC (aI #[L S,O I code]))/\∀V,aB N 113 #[O I x.a,L x.s] V λe w'=>M D V w'/\e=aC (aI #[L S,O I code]):=by
  have hs:=hx.s;have p1:=λV (hV:M D w V)=>JmH E x.a x.s V (hF.tch hV (λ_ e=>e.elim)) (by omega);have p2:=λV=>JmP x.a x.s V (by omega) hx.ra.1 hx.ra.2
  by_cases hw:1<=x.a/\x.a<=32
  ·refine⟨dgW x.a.toNat x.s.data.toList,0,λV hV=>?_,λV=>?_⟩
   ·have:=p1 V hV;rw[if_pos hw]at this;exact this
   ·have:=p2 V;rw[if_pos hw]at this;exact this
  ·refine⟨⟨#[]⟩,1,λV hV=>?_,λV=>?_⟩
   ·have:=p1 V hV;rw[if_neg hw]at this;exact this
   ·have:=p2 V;rw[if_neg hw]at this;exact this
 have eW:J (∀V,M D w V->_):=λV hV=>JdV dgC E x.a hx.ra x.s hx.s (x.cx,x.cn) hx.cx hx.rc x.t (by have:=hx.t;omega) V (hF.tch hV (λ_ e=>e.elim)).env (hA.tch hV (λe=>e));have yP:J (∀V,M D w V->_):=λV hV=>Jg1 E x.a x.s hx.s (x.cx,x.cn) hx.rc x.t x.u (by have:=hx.t;omega) (by have:=hx.u;omega) V (hF.tch hV (λ_ e=>e.elim)).env (hA.tch hV (λe=>e)) (hL.tch hV (λe=>e));have zu:J (∀V,_):=λV=>JkU dgC x.a hx.ra x.s (x.cx,x.cn) hx.cx x.t x.u (by have:=hx.t;omega) (by have:=hx.u;omega) V;obtain⟨xr,hxr⟩:∃xr,extR x.a.toNat (Jc (x.cx,x.cn)) (accR x.a x.s (x.cx,x.cn) x.t.data.toList) (accR x.a x.s (x.cx,x.cn) x.u.data.toList)=xr:=⟨_,rfl⟩
 rw[hxr]at yP zu;obtain⟨⟨xa,xb⟩,xc⟩:=xr;simp only at eW yP zu;have gy:J (∀V,M D w V->WTo base w wb (n+1) vl vm (aC (aL true)) V):=λV hV=>⟨rfl,(h.tch0 hV).up (by omega),hV.mono (λ_ e=>e.elim)⟩
 have kC:J _:=t0;clear hF gX hx t0 h hxr hA hL;obtain⟨kind,a,b',which,s,t,u,cx,cn,⟨oa,on,oc⟩,⟨ta,tn,tc⟩⟩:=x;simp only[BoxC]at *;obtain⟨aW,hR⟩:∃aW,aW=WTo base w wb (n+1) vl vm:=⟨_,rfl⟩
 rw[<-hR]at xw gy ⊢;go_enter func68,ntmps68;go_upto_region 1 with fail;rw[<-qM.o];obtain⟨c0,c1,c2,c3,c4,c5,c6,c7,c8,c9,c10⟩:=kF w0 _ (Te D _) (λ_ e=>e.elim)
 rcases hk with rfl|rfl|rfl|rfl
 ·go_wp2_with fail;refine(mT w0 kC).mono ?_;rintro _ w1⟨(H3:J _),rfl⟩;clear c0 c1 c2 c3 c4 c5 c6 c7 c8 c9 c10;obtain⟨_,c1,_,_,c4,_⟩:=kF w1 _ H3 (λ_ e=>e.elim);go_wp2_with fail;refine(fe w1).mono ?_;rintro _ w2⟨H7,rfl⟩;have H4:J _:=(kC.go H3).go H7;go_wp2_with fail;refine(Jb1 _ _).mono ?_;rintro _ _⟨rfl,rfl⟩;go_wp2;exact gy _ H4.o
 ·go_wp2_with fail;refine(xw trivial).mono ?_;intro e w1 hr;obtain⟨rfl,(jl:J _)⟩:e=aC (aL true)/\aW e w1:=⟨by rw[hR]at hr;exact hr.1,hr⟩
  clear hr c0 c1 c2 c3 c4 c5 c6 c7 c8 c9 c10;go_wp2;exact jl.o
 ·go_wp2_with fail;refine(eW w0 kC).mono ?_;rintro _ w1⟨rfl,H6⟩;have H3:J _:=kC.go H6;go_wp2;exact gy _ H3.o
 ·go_wp2_with fail;refine(yP w0 kC).mono ?_;rintro _ w1⟨(H3:J _),rfl⟩;clear c0 c1 c2 c3 c4 c5 c6 c7 c8 c9 c10;obtain⟨_,c1,_,_,c4,c5,c6,c7,c8,_⟩:=kF w1 _ H3 (λ_ e=>e.elim);go_wp2_with fail;refine(zu w1).mono ?_;rintro _ w2⟨H7,rfl⟩;have H4:J _:=(kC.go H3).go H7;go_wp2;exact gy _ H4.o

theorem Joe(E:Nat->Addr)(wj base:Nat){fl:Nat}(n:Nat)(c':BA×Option Tr)(c:BA×Int)(hr: -9223372036854775808<=c.2/\c.2<9223372036854775808)(hA:LAt wj base pn w lb F fl ch)(hF:Xx E base w)(hn:ch[n]? =Z c')(hf:fl<=n)(hc:¬Ji wj c):
  aB Tryz.prog 24 #[X (Z ⟨lb,0,Y⟩),O I (n:Int),aH #[L c.1,O I c.2]] w λe w'=>e=aC (aI #[L ⟨#[]⟩,O I 1])/\M D w w':=by
 obtain⟨⟨_,hw⟩,lg,cb,r,bs,lv,C⟩:=hA;have hl:=rows C.led;have jH:=(Qo.1 hn).1;have hb:bs[n]? =Z (bs[n]'(by rw[C.len];exact jH)):=Qd _;obtain⟨h1,h2,h3⟩:=C.st n _ c' hb hn hf;exact JdL (λw' k=>hF.next k) .form hl (n:Int) c (λW hT=>JmO E (hF.tch hT (λ_ e=>e.elim)).env (C.row.next hT) n _ hb hf hw h1 c hr hc)
theorem Jfq(E:Nat->Addr)(wj base:Nat)(n:Int)(c:BA×Int)(hr: -9223372036854775808<=c.2/\c.2<9223372036854775808)(hA:LAt wj base pn w lb F 0 ch)(hF:Xx E base w)(dH:∀(k:Nat) c',ch[k]? =Z c'->∀t,c'.2=Z t->t.Wf):
  aB Tryz.prog 24 #[X (Z ⟨lb,0,Y⟩),O I n,aH #[L c.1,O I c.2]] w λe w'=>e=aC (aI #[L (Zp wj ch n c).1,O I (Zp wj ch n c).2])/\M D w w':=by
 unfold Zp
 by_cases h:0<=n/\n<(ch.length:Int)
 ·rw[if_pos h];obtain⟨k,rfl⟩:=lE h.1;have hk:k<ch.length:=by omega
  have hn:ch[k]? =Z (ch[k]):=Qd hk
  by_cases hc:XZ wj c=true
  ·rw[if_pos hc,lC];have e:ch.getD k (⟨#[]⟩,Y)=ch[k]:=(by simp[hk]);rw[e];refine Jod E wj base k _ c hA hF hn (Nat.zero_le _) ?_ ((Yc _ _).1 hc);obtain⟨⟨_,hw⟩,lg,cb,r,bs,lv,C⟩:=hA;have hb:bs[k]? =Z (bs[k]'(by rw[C.len];exact hk)):=Qd _;obtain⟨h1,h2,h3⟩:=C.st k _ _ hb hn (Nat.zero_le _);exact λt ht=>⟨dH k _ hn t ht,by rw[ht]at h3;exact h3⟩
  ·rw[if_neg hc];exact Joe E wj base k _ c hr hA hF hn (Nat.zero_le _) (λh=>hc ((Yc _ _).2 h))
 ·rw[if_neg h];exact Jml E wj base n c hA hF (by simpa using h)

theorem JgX(hD:DgC)(E:Nat->Addr)(hF:Xx E base w)(h:Duo base w n lb rb F G)(hn:n<=900000)(wb:Nat)(x:OpL)(hk:x.kind=8)(ra: -9223372036854775808<=x.a/\x.a<9223372036854775808)(rc: -9223372036854775808<=x.cn/\x.cn<9223372036854775808)(rH:x.cx.size<=9223372036854775807):
  aB Tryz.prog 120 #[X (Z ⟨wb,0,Y⟩),X (Z ⟨lb,0,Y⟩),X (Z ⟨rb,0,Y⟩),opV x] w λe w'=>e=aC (aL true)/\M D w w':=by
 obtain⟨w0,(qM:J _),(kC:J _),(kF:J _)⟩:=Ja8 w x;obtain⟨wj,ch,vL,lv,b,h1,h2,h3,h4⟩:=h;have dH:∀(k:Nat) c',ch[k]? =Z c'->∀t,c'.2=Z t->t.Wf:=λk c' hc t ht=>by
  have eZ:=(Qo.1 hc).1;obtain⟨l, -,p2, -⟩:=h2.coins k _ c' (Qd (by rw[h2.len.1];exact eZ)) hc;exact p2.wf t ht
 have nL:J (∀V,M D w V->_):=λV hV=>Jfq E wj base x.a (x.cx,x.cn) rc (h1.keep hV (λ_ e=>e.elim)) (hF.tch hV (λ_ e=>e.elim)) dH;have j8:J (∀V,M D w V->_):=λV hV=>JjM hD h1.1.1 h1.1.2 (h2.tch hV (λ_ e=>e.elim)) (by omega) x.a ra (x.cx,x.cn) rH;obtain⟨QA,QB,hQ⟩:∃QA QB,Zp wj ch x.a (x.cx,x.cn)=(QA,QB):=⟨_,_,rfl⟩
 rw[hQ]at nL j8;clear hF h1 h2 h3 h4 dH hQ ra rc rH;obtain⟨kind,a,b',which,s,t,u,cx,cn,⟨oa,on,oc⟩,⟨ta,tn,tc⟩⟩:=x;simp only at hk;subst hk;simp only[BoxC]at *;go_enter Tryz.func120,Tryz.ntmps120;go_upto_region 1 with fail;rw[<-qM.o];obtain⟨c0,c1,c2,c3,c4,c5,c6,c7,c8,c9,c10⟩:=kF w0 _ (Te D _) (λ_ e=>e.elim);go_upto_region 2 with(go_at_call 24;refine(nL _ kC).mono ?_;rintro _ w1⟨rfl,(H3:J _)⟩);obtain⟨c0,c1,c2,c3,c4,c5,c6,c7,c8,c9,c10⟩:=kF w1 _ H3 (λ_ e=>e.elim);go_upto_region 3 with(go_at_call 184;refine(j8 _ (kC.go H3)).mono ?_;rintro _ w2⟨rfl,H7⟩;have H4:J _:=H3.go H7);obtain⟨c0,c1,c2,c3,c4,c5,c6,c7,c8,c9,c10⟩:=kF w2 _ H4 (λ_ e=>e.elim);go_wp2_with (go_at_call 66;refine(Jb1 _ _).mono ?_;rintro _ _⟨rfl,rfl⟩);go_ret;exact⟨rfl,kC.go H4⟩

theorem JgY(hD:DgC)(E:Nat->Addr)(hF:Xx E base w)(h:Duo base w n lb rb F G)(hn:n<=900000)(wb:Nat)(x:OpL)(hk:x.kind=9)(dl:Ast w)(rb': -9223372036854775808<=x.b/\x.b<9223372036854775808)(ra: -9223372036854775808<=x.a/\x.a<9223372036854775808)(rc: -9223372036854775808<=x.cn/\x.cn<9223372036854775808)(rH:x.cx.size<=9223372036854775807):
  aB Tryz.prog 120 #[X (Z ⟨wb,0,Y⟩),X (Z ⟨lb,0,Y⟩),X (Z ⟨rb,0,Y⟩),opV x] w λe w'=>e=aC (aL true)/\M D w w':=by
 obtain⟨w0,(qM:J _),(kC:J _),(kF:J _)⟩:=Ja8 w x;obtain⟨wj,ch,vL,lv,b,h1,h2,h3,h4⟩:=h;have dH:∀(k:Nat) c',ch[k]? =Z c'->∀t,c'.2=Z t->t.Wf:=λk c' hc t ht=>by
  have eZ:=(Qo.1 hc).1;obtain⟨l, -,p2, -⟩:=h2.coins k _ c' (Qd (by rw[h2.len.1];exact eZ)) hc;exact p2.wf t ht
 have nL:J (∀V,M D w V->_):=λV hV=>Jfq E wj base x.a (x.cx,x.cn) rc (h1.keep hV (λ_ e=>e.elim)) (hF.tch hV (λ_ e=>e.elim)) dH;have j8:J (∀V,M D w V->_):=λV hV=>JjM hD h1.1.1 h1.1.2 (h2.tch hV (λ_ e=>e.elim)) (by omega) x.a ra (x.cx,x.cn) rH;obtain⟨QA,QB,hQ⟩:∃QA QB,Zp wj ch x.a (x.cx,x.cn)=(QA,QB):=⟨_,_,rfl⟩
 rw[hQ]at nL j8;have HH2:J (∀V,M D w V->_):=λV hV=>JhA h1.1.2 (h2.tch hV (λ_ e=>e.elim)) (by omega) x.a ra.1 ra.2;have Hi:QB=0->QA.size<=1000000/\(ZD ch x.a).size<=1000000:=λe0=>by
  subst e0;unfold Zp at hQ
  split at hQ
  ·rename_i ku
   split at hQ
   ·rename_i hcd;obtain⟨k,eZ⟩:=lE ku.1;have jW:k<ch.length:=(by omega);have hg:=Qd jW;have jk:k<lv.length:=(by rw[h2.len.1];exact jW);have hd:=h2.hdr k _ _ (Qd jk) hg;obtain⟨l, -,p2, -⟩:=h2.coins k _ _ (Qd jk) hg;have e1:ch.getD x.a.toNat (⟨#[]⟩,Y)=ch[k]:=(by rw[eZ,lC];simp[jW]);constructor
    ·have uK:=Jci (dgW wj) wj (Jj wj h1.1.2) (Jc (x.cx,x.cn)) (ch[k]).2 (λt e=>⟨p2.wf t e,by have:=Jac _ _ (e ▸ p2:Book wj (Z t) l);exact this⟩);have uO:=Jnz uK;have hm:8*(wj+1)*(2+wj)<=264*34:=Nat.mul_le_mul (by have:=h1.1.2;omega) (by have:=h1.1.2;omega);have:=congrArg Prod.fst hQ;simp only at this;rw[<-this,e1,Jh];have:=h1.1.2;omega
    ·unfold ZD;rw[if_pos ku.1,e1,hd.2,Jh];obtain⟨q1,q2,q3,q4⟩:=hd.1;unfold Hn;simp only[Qe,Jf,Array.length_toList];have r2:∀y:BA,y.data.size=y.size:=λ_=>rfl;rw[r2,r2,r2,q2,q3,q4];have:=h1.1.2;omega
   ·cases hQ
  ·cases hQ
 have eW:J (∀(H aY:BA),H.size<=1000000->aY.size<=1000000->∀V,M D w V->_):=λH aY hH hT V hV=>JdV hD E (wj:Int) (by have:=h1.1.2;omega) H (by omega) (x.cx,x.cn) rH rc aY (by omega) V (hF.tch hV (λ_ e=>e.elim)).env (dl.tch hV (λh=>h));have sY:J (∀V,M D w V->V.cell? ⟨rb,0,Y⟩=Z (O I (wj:Int))):=λV hV=>Ja (h2.tch hV (λ_ e=>e.elim)).row;have vV:J (QA.size<=1000000->_):=λhz=>Jmh QA hz x.b 1 rb'.1 rb'.2;have xK:J _:=Hi;generalize ZD ch x.a=HD at *;generalize (if 0<=x.a/\x.a<(ch.length:Int) then (0:Int) else 7)=pi at *;clear hF h1 h2 h3 h4 dH hQ ra rc rH;obtain⟨kind,a,b',which,s,t,u,cx,cn,⟨oa,on,oc⟩,⟨ta,tn,tc⟩⟩:=x;simp only at hk;subst hk;simp only[BoxC]at *;go_enter Tryz.func120,Tryz.ntmps120;go_upto_region 1 with fail;rw[<-qM.o];obtain⟨c0,c1,c2,c3,c4,c5,c6,c7,c8,c9,c10⟩:=kF w0 _ (Te D _) (λ_ e=>e.elim);go_upto_region 2 with(go_at_call 24;refine(nL _ kC).mono ?_;rintro _ w1⟨rfl,(H3:J _)⟩);obtain⟨c0,c1,c2,c3,c4,c5,c6,c7,c8,c9,c10⟩:=kF w1 _ H3 (λ_ e=>e.elim);go_upto_region 3 with(go_at_call 184;refine(j8 _ (kC.go H3)).mono ?_;rintro _ w2⟨rfl,H7⟩;have H4:J _:=H3.go H7);obtain⟨c0,c1,c2,c3,c4,c5,c6,c7,c8,c9,c10⟩:=kF w2 _ H4 (λ_ e=>e.elim)
 by_cases pC:QB=0
 ·subst pC;obtain⟨z1,z2⟩:=xK rfl;obtain⟨q,hqs,(jM:J _)⟩:=vV z1;have hqs2:q.size<=1000000:=by omega
  clear hqs;go_upto_region 8 with(first|(go_at_call 66;refine(Jb1 _ _).mono ?_;rintro _ _⟨rfl,rfl⟩)|(go_at_call 119;refine(HH2 _ (kC.go H4)).mono ?_;rintro _ w3⟨rfl,Hm⟩;have H8:J _:=H4.go Hm));obtain⟨c0,c1,c2,c3,c4,c5,c6,c7,c8,c9,c10⟩:=kF w3 _ H8 (λ_ e=>e.elim)
  by_cases hb0:0<b'
  ·go_upto_region 10 with(go_at_call 182;refine(jM _).mono ?_;rintro _ w4⟨rfl,Ho⟩;have He:J _:=H8.go Ho);obtain⟨d0,d1,d2,d3,d4,d5,d6,d7,d8,d9,d10⟩:=kF w4 _ He (λ_ e=>e.elim);have dw:=sY w4 (kC.go He);go_upto_region 10 with fail;go_region_held3 (λV=>V.cell? ⟨rb,0,Y⟩=Z (O I (wj:Int))/\V.cell? ⟨w.heap.size,7,Y⟩=Z (L cx)/\V.cell? ⟨w.heap.size,8,Y⟩=Z (O I cn)) (go_keep) ((go_at_call 114;refine(eW _ _ z2 hqs2 _ (kC.go (He.go (Td _ _ 1)))).mono ?_;rintro _ w9⟨rfl,gx⟩;have jD:J _:=(He.go (Td _ _ 1)).go gx;obtain⟨_,_,_,_,_,_,_,f7,f8,_,_⟩:=kF w9 _ jD (λ_ e=>e.elim);have fw:=sY w9 (kC.go jD)))
   all_goals go_wp2;go_ret;exact⟨rfl,kC.go jD⟩
  ·have dummy:=H8;obtain⟨d0,d1,d2,d3,d4,d5,d6,d7,d8,d9,d10⟩:=kF w3 _ H8 (λ_ e=>e.elim);have dw:=sY w3 (kC.go H8);go_upto_region 10 with fail;go_region_held3 (λV=>V.cell? ⟨rb,0,Y⟩=Z (O I (wj:Int))/\V.cell? ⟨w.heap.size,7,Y⟩=Z (L cx)/\V.cell? ⟨w.heap.size,8,Y⟩=Z (O I cn)) (go_keep) ((go_at_call 114;refine(eW _ _ z2 z1 _ (kC.go (H8.go (Td _ _ 1)))).mono ?_;rintro _ w9⟨rfl,gx⟩;have jD:J _:=(H8.go (Td _ _ 1)).go gx;obtain⟨_,_,_,_,_,_,_,f7,f8,_,_⟩:=kF w9 _ jD (λ_ e=>e.elim);have fw:=sY w9 (kC.go jD)))
   all_goals go_wp2;go_ret;exact⟨rfl,kC.go jD⟩
 ·have fH:=beq_eq_false_iff_ne.2 pC;go_wp2_with (go_at_call 66;refine(Jb1 _ _).mono ?_;rintro _ _⟨rfl,rfl⟩);go_ret;exact⟨rfl,kC.go H4⟩

theorem Jl1(hD:DgC)(E:Nat->Addr)(hF:Xx E base w)(h:Duo base w n lb rb F G)(hn:n<=900000)(wb:Nat)(x:OpL)(hk:x.kind=8\/x.kind=9)(dl:Ast w)(rb': -9223372036854775808<=x.b/\x.b<9223372036854775808)(ra: -9223372036854775808<=x.a/\x.a<9223372036854775808)(rc: -9223372036854775808<=x.cn/\x.cn<9223372036854775808)(rH:x.cx.size<=9223372036854775807):
  aB N 71 #[X (Z ⟨wb,0,Y⟩),X (Z ⟨lb,0,Y⟩),X (Z ⟨rb,0,Y⟩),opV x] w λe w'=>e=aC (aL true)/\M D w w':=by
 obtain⟨w0,(qM:J _),(kC:J _),gu⟩:=Ja8 w x;have ed:J (aB N 120 #[X (Z ⟨wb,0,Y⟩),X (Z ⟨lb,0,Y⟩),X (Z ⟨rb,0,Y⟩),opV x] w0 λe w'=>e=aC (aL true)/\M D w0 w'):=by
  rcases hk with e|e
  ·exact JgX hD E (hF.tch kC (λ_ e=>e.elim)) (h.tch kC (λ_ e=>e.elim)) hn wb x e ra rc rH
  ·exact JgY hD E (hF.tch kC (λ_ e=>e.elim)) (h.tch kC (λ_ e=>e.elim)) hn wb x e (dl.tch kC (λh=>h)) rb' ra rc rH
 have kF:J (BoxC w0 w.heap.size x):=gu w0 D (Te _ _) (λ_ e=>e.elim);clear hF gu h rb' ra rc rH dl;obtain⟨kind,a,b',which,s,t,u,cx,cn,⟨oa,on,oc⟩,⟨ta,tn,tc⟩⟩:=x;simp only at hk;simp only[BoxC]at *;go_enter func71,ntmps71;go_upto_region 1 with fail;rw[<-qM.o];obtain⟨c0,c1,c2,c3,c4,c5,c6,c7,c8,c9,c10⟩:=kF.o
 rcases hk with rfl|rfl
 all_goals go_wp2_with fail;refine ed.mono ?_;rintro _ w1⟨rfl,(H3:J _)⟩;go_wp2;go_ret;exact⟨rfl,kC.go H3⟩

theorem Jn9{vls vrs:aG}(h:w.heap[wb]? =Z (T #[vls,vrs,R Y 0 0,R Y 0 0] 71)):
  aB N 35 #[X (Z ⟨wb,0,Y⟩)] w λe w'=>e=aC (aL true)/\M D w w':=by
 have c2:w.cell? ⟨wb,2,Y⟩=Z (R Y 0 0):=Ja h;clear h;go_enter func35,ntmps35;go_wp2;go_loopw [3] (λi wx=>i=O I 0/\J (wx=w)) (λ_ _=>0)
 case atStart=>exact⟨rfl,by show _=_;rfl⟩
 case round=>obtain⟨rfl,HW⟩:=hrel;have hw:=HW.o;subst hw;go_wp2;go_ret;exact⟨rfl,Te _ _⟩
theorem JpI(E:Nat->Addr)(hF:Xx E base w)(h:WSt base w wb n vl vm)(hn:n<=900000)(gX:base<=w.heap.size)(x:OpL)(hk:x.kind<=11)(hA:Ast w)(hL:Alk w)(hx:OpOk base w x os ts sl):
  aB N 34 #[X (Z ⟨wb,0,Y⟩),opV x] w (WTo base w wb (n+1) vl vm):=by
 obtain⟨w0,(qM:J _),t0,(kF:J _)⟩:=Ja8 w x;have mD:J (x.kind=1\/x.kind=2\/x.kind=10\/x.kind=11->aB N 68 #[X (Z ⟨wb,0,Y⟩),opV x] w0 (WTo base w wb (n+1) vl vm)):=λhk=>(Jn7 E (hF.tch t0 (λ_ e=>e.elim)) (h.tch0 t0) hn (Qm gX t0.size) x hk (hA.tch t0 (λe=>e)) (hL.tch t0 (λe=>e)) (hx.tch t0 (λ_ e=>e.elim))).mono λe w' k=>⟨k.1,k.2.1,(t0.mono (λ_ e=>e.elim)).trans k.2.2 (λ_ e=>aM e)⟩
 have gy:J (∀V,M D w V->WTo base w wb (n+1) vl vm (aC (aL true)) V):=λV hV=>⟨rfl,(h.tch0 hV).up (by omega),hV.mono (λ_ e=>e.elim)⟩
 obtain⟨vls,vrs,ls,rs,c,hW⟩:=h;have vP:=hW.few;obtain⟨va,vc,qx⟩:=hW.at'.ls.shape;obtain⟨ua,uc,hua⟩:=hW.at'.rs.shape;rw[QM]at qx hua;have HPK:J (0<ls.length->_):=λh0=>Jmi x.which ls.length hx.rw'.1 hx.rw'.2 h0 (by omega);have cH:J (∀(r:Nat),r<ls.length->∃lb rb gl gr,va=Z ⟨gl,0,Y⟩/\ua=Z ⟨gr,0,Y⟩/\(∀f,f=70\/f=71/\(x.kind=8\/x.kind=9)->∀V,M D w0 V->aB N f #[X (Z ⟨wb,0,Y⟩),X (Z ⟨lb,0,Y⟩),X (Z ⟨rb,0,Y⟩),opV x] V λe w'=>e=aC (aL true)/\(WSt base w' wb (n+1) vl vm/\M (λj=>base<=j) w w')/\(BoxC w' w.heap.size x/\w'.cell? ⟨wb,0,Y⟩=Z (R va ls.length vc)/\w'.cell? ⟨wb,1,Y⟩=Z (R ua ls.length uc)/\w'.cell? ⟨gl,r,Y⟩=Z (X (Z ⟨lb,0,Y⟩))/\w'.cell? ⟨gr,r,Y⟩=Z (X (Z ⟨rb,0,Y⟩))))/\∀V,M D w0 V->BoxC V w.heap.size x/\V.cell? ⟨wb,0,Y⟩=Z (R va ls.length vc)/\V.cell? ⟨wb,1,Y⟩=Z (R ua ls.length uc)/\V.cell? ⟨gl,r,Y⟩=Z (X (Z ⟨lb,0,Y⟩))/\V.cell? ⟨gr,r,Y⟩=Z (X (Z ⟨rb,0,Y⟩))):=λr hr=>by
  have Hp:r<rs.length:=by rw[<-hW.len];exact hr
  obtain⟨F,G,d1,d2,d3⟩:=hW.duo r _ _ (Qd hr) (Qd Hp);have e1:(ls.map ptrV)[r]? =Z (ptrV ls[r]):=by rw[lM,Qd hr];rfl
  have e2:(rs.map ptrV)[r]? =Z (ptrV rs[r]):=by rw[lM,Qd Hp];rfl
  obtain⟨gl,_,e3,_,_⟩:=hW.at'.ls.at r _ e1;obtain⟨gr,_,e4,_,_⟩:=hW.at'.rs.at r _ e2;have dI:=qx;have dJ:=hua;rw[e3]at dI;rw[e4]at dJ;simp only[Qy]at dI dJ;have all:∀V S,M S w0 V->(∀j,S j->F j\/G j)->BoxC V w.heap.size x/\V.cell? ⟨wb,0,Y⟩=Z (R va ls.length vc)/\V.cell? ⟨wb,1,Y⟩=Z (R ua ls.length uc)/\V.cell? ⟨gl,r,Y⟩=Z (X (Z ⟨ls[r],0,Y⟩))/\V.cell? ⟨gr,r,Y⟩=Z (X (Z ⟨rs[r],0,Y⟩)):=λV S hV hS=>by
   have hA:=(hW.at'.tch t0 (λ_ e=>e.elim)).tch hV (λj hj o=>by
    have:=(hW.own j o).1
    rcases hS j hj with e|e
    ·have:=d2 j e;omega
    ·have:=d3 j e;omega)
   obtain⟨g1,k1,f1,_,q1⟩:=hA.ls.at r _ e1;obtain⟨g2,k2,f2,_,q2⟩:=hA.rs.at r _ e2;rw[e3]at f1;rw[e4]at f2;simp only[Qy,Qh,Addr.mk.injEq]at f1 f2;rw[<-f1.1.1]at q1;rw[<-f2.1.1]at q2;refine⟨kF V S hV (λj hj=>aM (d1.own j (hS j hj)).2),?_,?_,q1,q2⟩
   ·rw[<-qx];exact Ja hA.row
   ·rw[hW.len,<-hua];exact Ja hA.row
  refine⟨ls[r],rs[r],gl,gr,dI.1.symm,dJ.1.symm,λf hf V hV=>?_,λV hV=>all V _ hV (λ_ e=>e.elim)⟩;have sB:=t0.go hV;have key:aB N f #[X (Z ⟨wb,0,Y⟩),X (Z ⟨ls[r],0,Y⟩),X (Z ⟨rs[r],0,Y⟩),opV x] V λe w'=>e=aC (aL true)/\Jdy base V n ls[r] rs[r] F G w':=by
   rcases hf with rfl|⟨rfl,h89⟩
   ·exact Jis E (hF.tch sB (λ_ e=>e.elim)) (d1.tch sB (λ_ e=>e.elim)) hn (Qm gX sB.size) wb x (hx.tch sB (λ_ e=>e.elim))
   ·exact(Jl1 dgC E (hF.tch sB (λ_ e=>e.elim)) (d1.tch sB (λ_ e=>e.elim)) hn wb x h89 (hA.tch sB (λe=>e)) hx.rb hx.ra hx.rc hx.cx).mono λe w' k=>⟨k.1,(d1.tch sB (λ_ e=>e.elim)).to k.2⟩
  refine key.mono λe w' k=>⟨k.1,?_,all w' (λj=>F j\/G j) ((hV.mono (λ_ e=>e.elim)).trans k.2.1 (λ_ e=>aM e)) (λ_ e=>e)⟩
  have:=(hW.tch sB (λ_ e=>e.elim)).led (Qd hr) (Qd Hp) (d1.tch sB (λ_ e=>e.elim)) d2 d3 k.2;exact⟨this.1,(sB.mono (λ_ e=>e.elim)).trans this.2 (λ_ e=>aM e)⟩
 have HWB:J (∀V,M D w0 V->V.cell? ⟨wb,0,Y⟩=Z (R va ls.length vc)):=λV hV=>by
  rw[<-qx];exact Ja (hW.at'.tch (t0.go hV) (λ_ e=>e.elim)).row
 have kC:J _:=t0;clear hF gX hx t0 qx hua hW hA hL;generalize ls.length=m at *;obtain⟨kind,a,b',which,s,t,u,cx,cn,⟨oa,on,oc⟩,⟨ta,tn,tc⟩⟩:=x;simp only[BoxC]at *;obtain⟨aW,hR⟩:∃aW,aW=WTo base w wb (n+1) vl vm:=⟨_,rfl⟩
 rw[<-hR]at mD gy ⊢;go_enter func34,ntmps34;go_upto_region 1 with fail;rw[<-qM.o];obtain⟨c0,c1,c2,c3,c4,c5,c6,c7,c8,c9,c10⟩:=kF w0 _ (Te D _) (λ_ e=>e.elim)
 by_cases k12:kind=1\/kind=2\/kind=10\/kind=11
 ·have HA:J (aB _ _ _ _ _):=mD k12
  rcases k12 with rfl|rfl|rfl|rfl
  all_goals
   go_wp2_with fail;refine HA.o.mono ?_;intro e w1 hr;obtain⟨rfl,(jl:J _)⟩:e=aC (aL true)/\aW e w1:=⟨by rw[hR]at hr;exact hr.1,hr⟩
   clear hr c0 c1 c2 c3 c4 c5 c6 c7 c8 c9 c10;go_wp2;exact jl.o
 ·have k1:¬kind=1:=λe=>k12 (aM e);have k2:¬kind=2:=by omega
  have k10:¬kind=10:=by omega
  have k11:¬kind=11:=by omega
  have k14:¬kind=14:=by omega
  have k18:¬kind=18:=by omega
  have k19:¬19<kind:=by omega
  have b0:=HWB w0 (Te _ _)
  by_cases hm:m=0
  ·subst hm;go_wp2;rw[<-hR];exact gy _ kC.o
  ·have rM:¬(m:Int)=0:=by omega
   by_cases jg:kind<1
   ·go_wp2;rw[<-hR];exact gy _ kC.o
   ·obtain⟨r,hr,(ed:J _)⟩:=HPK (by omega);obtain⟨lb,rb,gl,gr,rfl,rfl,(j6:J _),(jM:J _)⟩:=cH r hr;have hri:(r:Int)<(m:Int):=(by omega);go_upto_region 11 with fail;go_cut [5] (λv5 wx=>v5=O I (r:Int)/\J (M D w0 wx))
    case first=>
     go_region_held3 (λV=>V.cell? ⟨w.heap.size,3,Y⟩=Z (O I which)/\V.cell? ⟨wb,0,Y⟩=Z (R (Z ⟨gl,0,Y⟩) m vc)) (go_keep) ((go_at_call 69;refine(ed _).mono ?_;rintro _ aX⟨rfl,hX⟩;rw[hX]))
     all_goals go_wp2;go_meet;exact⟨rfl,Td _ _ 1⟩
    case rest=>
    obtain⟨rfl,H3⟩:=hcut;obtain⟨w1,Hf⟩:∃w1,w1=wc:=⟨wc,rfl⟩
    subst Hf;obtain⟨⟨c0,c1,c2,c3,c4,c5,c6,c7,c8,c9,c10⟩,b0,b1,b2,b3⟩:=jM w1 H3.o
    by_cases hk7:kind<=7
    ·have kS:J _:=j6 _ (aM rfl);go_upto_region 13 with fail;go_region_held3 (λV=>(V.cell? ⟨w.heap.size,0,Y⟩=Z (O I kind)/\V.cell? ⟨w.heap.size,1,Y⟩=Z (O I a)/\V.cell? ⟨w.heap.size,2,Y⟩=Z (O I b')/\V.cell? ⟨w.heap.size,3,Y⟩=Z (O I which)/\V.cell? ⟨w.heap.size,4,Y⟩=Z (L s)/\V.cell? ⟨w.heap.size,5,Y⟩=Z (L t)/\V.cell? ⟨w.heap.size,6,Y⟩=Z (L u)/\V.cell? ⟨w.heap.size,7,Y⟩=Z (L cx)/\V.cell? ⟨w.heap.size,8,Y⟩=Z (O I cn)/\V.cell? ⟨w.heap.size,9,Y⟩=Z (R oa on oc)/\V.cell? ⟨w.heap.size,10,Y⟩=Z (R ta tn tc))/\V.cell? ⟨wb,0,Y⟩=Z (R (Z ⟨gl,0,Y⟩) m vc)/\V.cell? ⟨wb,1,Y⟩=Z (R (Z ⟨gr,0,Y⟩) m uc)/\V.cell? ⟨gl,r,Y⟩=Z (X (Z ⟨lb,0,Y⟩))/\V.cell? ⟨gr,r,Y⟩=Z (X (Z ⟨rb,0,Y⟩))) (go_keep) ((go_at_call 70;refine(kS _ (H3.go (Td _ w1 1))).mono ?_;rintro _ w2⟨rfl,(gU:J _),hc2⟩;obtain⟨⟨y0,y1,y2,y3,y4,y5,y6,y7,y8,y9,y10⟩,z0,z1,z2,z3⟩:=hc2))
     all_goals go_wp2;rw[hR];exact⟨rfl,gU⟩
    ·have hk89:kind=8\/kind=9:=(by omega);have kS:J _:=j6 _ (aN ⟨rfl,hk89⟩);go_upto_region 13 with fail;go_region_held3 (λV=>(V.cell? ⟨w.heap.size,0,Y⟩=Z (O I kind)/\V.cell? ⟨w.heap.size,1,Y⟩=Z (O I a)/\V.cell? ⟨w.heap.size,2,Y⟩=Z (O I b')/\V.cell? ⟨w.heap.size,3,Y⟩=Z (O I which)/\V.cell? ⟨w.heap.size,4,Y⟩=Z (L s)/\V.cell? ⟨w.heap.size,5,Y⟩=Z (L t)/\V.cell? ⟨w.heap.size,6,Y⟩=Z (L u)/\V.cell? ⟨w.heap.size,7,Y⟩=Z (L cx)/\V.cell? ⟨w.heap.size,8,Y⟩=Z (O I cn)/\V.cell? ⟨w.heap.size,9,Y⟩=Z (R oa on oc)/\V.cell? ⟨w.heap.size,10,Y⟩=Z (R ta tn tc))/\V.cell? ⟨wb,0,Y⟩=Z (R (Z ⟨gl,0,Y⟩) m vc)/\V.cell? ⟨wb,1,Y⟩=Z (R (Z ⟨gr,0,Y⟩) m uc)/\V.cell? ⟨gl,r,Y⟩=Z (X (Z ⟨lb,0,Y⟩))/\V.cell? ⟨gr,r,Y⟩=Z (X (Z ⟨rb,0,Y⟩))) (go_keep) ((go_at_call 71;refine(kS _ (H3.go (Td _ w1 1))).mono ?_;rintro _ w2⟨rfl,(gU:J _),hc2⟩;obtain⟨⟨y0,y1,y2,y3,y4,y5,y6,y7,y8,y9,y10⟩,z0,z1,z2,z3⟩:=hc2))
     all_goals go_wp2;rw[hR];exact⟨rfl,gU⟩

def Jlr(V:aA)(g o:Nat)(x:OpL):Prop:=V.cell? ⟨g,o,Y⟩=Z (O I x.kind)/\V.cell? ⟨g,o+1,Y⟩=Z (O I x.a)/\V.cell? ⟨g,o+2,Y⟩=Z (O I x.b)/\V.cell? ⟨g,o+3,Y⟩=Z (O I x.which)/\V.cell? ⟨g,o+4,Y⟩=Z (L x.s)/\V.cell? ⟨g,o+5,Y⟩=Z (L x.t)/\V.cell? ⟨g,o+6,Y⟩=Z (L x.u)/\V.cell? ⟨g,o+7,Y⟩=Z (L x.cx)/\V.cell? ⟨g,o+8,Y⟩=Z (O I x.cn)/\V.cell? ⟨g,o+9,Y⟩=Z (R x.os.1 x.os.2.1 x.os.2.2)/\V.cell? ⟨g,o+10,Y⟩=Z (R x.ts.1 x.ts.2.1 x.ts.2.2)
structure JgF(base:Nat)(w:aA)(v:aG)(l:List OpL):Prop where
 at':(v=R Y 0 0/\l=[])\/∃g o c,v=R (Z ⟨g,o,Y⟩) l.length c/\g<base/\g<w.heap.size/\∀i (h:i<l.length),Jlr w g (o+i*11) l[i]
 ok:∀x∈l,∃os ts sl,OpOk base w x os ts sl
theorem JgF.shape{l:List OpL}(h:JgF base w v l):∃a c,v=R a l.length c:=by
 rcases h.at' with⟨rfl,rfl⟩|⟨g,o,c,rfl,_⟩
 ·exact⟨_,_,rfl⟩
 ·exact⟨_,_,rfl⟩
theorem Joa(E:Nat->Addr)(hF:Xx E base w)(gX:base=w.heap.size)(c:Int)(hc: -9223372036854775808<=c/\c<9223372036854775808)(v1 v2:aG)(os:List (Nat×Nat))(hO:Jr base w v1 os)(dk:∀o∈os,JC o)(rL:os.length<1000000)(script:List OpL)(hS:JgF base w v2 script)(hl:script.length<=800000)(hA:Ast w)(hL:Alk w)(hi:Int)(hhi:hi<=11):
  aB N 13 #[O I c,v1,v2,O I hi] w λe w'=>e=aC (aL true)/\M (λj=>base<=j) w w':=by
 obtain⟨oa,oc,jq⟩:=hO.shape;subst jq;obtain⟨sa,sc,kW⟩:=hS.shape;subst kW;obtain⟨w0,(qM:J _)⟩:∃w0,w0=w.alloc (T #[R Y 0 0,R Y 0 0,R Y 0 0,R Y 0 0] 71):=⟨_,rfl⟩
 have t0:M D w w0:=by rw[qM];exact Ta _ _ _
 have r0:w0.heap[w.heap.size]? =Z (T #[R Y 0 0,R Y 0 0,R Y 0 0,R Y 0 0] 71):=by rw[qM];exact Qf _ _
 have uY:WSt base w0 w.heap.size 0 (R Y 0 0) (R Y 0 0):=⟨R Y 0 0,R Y 0 0,[],[],λj=>if j=w.heap.size then 1 else 0,⟨r0,VOwn.nil _ _ _,VOwn.nil _ _ _⟩,rfl,Ql _,(λj hj=>by
  rcases hj with e|e|e
  ·subst e;exact⟨if_pos rfl,by omega,(Jb r0)⟩
  ·cases e
  ·cases e),λi lb rb h=>by simp at h⟩
 have xw:J (aB N 33 #[X (Z ⟨w.heap.size,0,Y⟩),aH #[O I 2,O I c,O I 0,O I 0,L ⟨#[]⟩,L ⟨#[]⟩,L ⟨#[]⟩,L ⟨#[]⟩,O I 0,R oa os.length oc,R Y 0 0],L ⟨#[]⟩] w0 (WTo base w0 w.heap.size 1 (R Y 0 0) (R Y 0 0))):=
  Jpg E (hF.tch t0 (λ_ e=>e.elim)) uY (by omega) (by have:=t0.size;omega) ⟨2,c,0,0,⟨#[]⟩,⟨#[]⟩,⟨#[]⟩,⟨#[]⟩,0,(oa,os.length,oc),(Y,0,0)⟩ ⟨#[]⟩ rfl (os:=os) (ts:=[]) (sl:=[]) ⟨hc,(by show -9223372036854775808<=(0:Int)/\(0:Int)<9223372036854775808;decide),(by show (0:Nat)<=1100000;decide),(by show -9223372036854775808<=(0:Int)/\(0:Int)<9223372036854775808;decide),(by show -9223372036854775808<=(0:Int)/\(0:Int)<9223372036854775808;decide),(by show (0:Nat)<=9223372036854775807;decide),(by show (0:Nat)<=1100000;decide),(by show (0:Nat)<=1100000;decide),(hO.tch t0 (λ_ e=>e.elim)).raw,dk,rL,aM ⟨aM rfl,rfl⟩,⟨rfl,λi h=>absurd h (by simp)⟩,λ_ h=>(QD h).elim,by decide,λ_ h=>(QD h).elim⟩
 have sQ:J (∀(V:aA)(k:Nat) x,script[k]? =Z x->M (λj=>base<=j) w V->WSt base V w.heap.size (k+1) (R Y 0 0) (R Y 0 0)->x.kind<=hi->aB N 34 #[X (Z ⟨w.heap.size,0,Y⟩),opV x] V (WTo base V w.heap.size (k+1+1) (R Y 0 0) (R Y 0 0))):=λV k x hk hV hW bm=>by
  obtain⟨os',ts',sl',hx⟩:=hS.ok _ (QT hk);have hk:=(Qo.1 hk).1;have hG:=hF.vars;exact JpI E (hF.tch hV (λ_ e=>e)) hW (by omega) (by have:=hV.size;omega) _ (by omega) (hA.tch hV (by show ¬base<=_;omega)) (hL.tch hV (by show ¬base<=_;omega)) (hx.tch hV (λ_ e=>e))
 have kN:J (∀(k:Nat) x,script[k]? =Z x->∃g o,sa=Z ⟨g,o,Y⟩/\∀V,M (λj=>base<=j) w V->Jlr V g (o+k*11) x):=λk x hk=>by
  rcases hS.at' with⟨_,e2⟩|⟨g,o,c',e,h1,h2,h3⟩
  ·rw[e2]at hk;simp at hk
  ·simp only[Qy]at e;refine⟨g,o,e.1,λV hV=>?_⟩;have hc:∀p,_:=λp=>hV.cell (p:=⟨g,p,Y⟩) h2 (by show ¬base<=g;omega);obtain⟨kt,rfl⟩:=Qo.1 hk;have:=h3 k kt;unfold Jlr at this ⊢;rw[hc,hc,hc,hc,hc,hc,hc,hc,hc,hc,hc];exact this
 have HKE:J (∀V n,WSt base V w.heap.size n (R Y 0 0) (R Y 0 0)->aB N 35 #[X (Z ⟨w.heap.size,0,Y⟩)] V λe w'=>e=aC (aL true)/\M D V w'):=λV n h=>by
  obtain⟨vls,vrs,ls,rs,c,h⟩:=h;exact Jn9 h.at'.row
 have kC:J (M (λj=>base<=j) w w0):=t0.mono (λ_ e=>e.elim);clear hF hO dk hS t0 r0 uY gX hA hL hhi;generalize os.length=on at *;generalize hsn:script.length=sn at *;have p7:J _:=hsn;go_enter func13,ntmps13;go_upto_region 2 with fail;rw[<-qM.o];go_wp2_with fail;refine xw.mono ?_;rintro _ w1⟨rfl,(mV:J _),H6⟩;have H3:J _:=kC.trans H6 (λ_ e=>aM e);clear H6 xw;go_wp2;go_loopw [11,12,13] (λi _ _ wr=>∃k:Nat,k<=sn/\i=O I (k:Int)/\J (WSt base wr w.heap.size (k+1) (R Y 0 0) (R Y 0 0))/\J (M (λj=>base<=j) w wr)) (λi _ _ _=>sn-(intOf i).toNat)
 case atStart=>exact⟨0,by omega,rfl,mV,H3⟩
 case round=>
  obtain⟨k,hk,rfl,HW,HT⟩:=hrel
  by_cases H5:k<sn
  ·have kT:(k:Int)<(sn:Int):=(by omega);obtain⟨x,hx⟩:∃x,script[k]? =Z x:=⟨_,Qd (by rw[p7.o];exact H5)⟩
   obtain⟨g,o,rfl,gu⟩:=kN k x hx;have vz:=sQ wr k x hx HT HW.o;obtain⟨c0,c1,c2,c3,c4,c5,c6,c7,c8,c9,c10⟩:=gu wr HT.o;have HSTP:J _:=vz;obtain⟨kind,a,b',which,s,t,u,cx,cn,⟨xa,xn,xc⟩,⟨ta,tn,tc⟩⟩:=x;simp only at *
   by_cases h7:hi<kind
   ·go_wp2;go_roundw
    case rel=>exact⟨k+1,by omega,by go_num,by obtain h:=HW.o;exact h.up (by omega),HT⟩
    case measure=>simp[intOf];omega
   ·go_wp2_with fail;refine(HSTP (by omega)).mono ?_;rintro _ w2⟨rfl,ql,H7⟩;have gM:J (WSt _ _ _ _ _ _):=ql;have H4:J _:=HT.trans H7 (λ_ e=>aM e);go_wp2_with fail;refine(HKE w2 _ gM).mono ?_;rintro _ w3⟨rfl,Hm⟩;have jR:J (WSt _ w3 _ _ _ _):=gM.o.tch0 Hm;have H8:J _:=H4.go Hm;go_wp2;go_roundw
    case rel=>exact⟨k+1,by omega,by go_num,jR,H8⟩
    case measure=>simp[intOf];omega
  ·obtain rfl:k=sn:=(by omega);have gI:¬(k:Int)<(k:Int):=(by omega);go_wp2;go_ret;exact⟨rfl,HT⟩
open Go.ChangeShapes Go.WideShapes Go.ChangeAt Go.RowKit Go.Deep

theorem cStr:prog.cellsOf 9=1:=by kernel_rfl
theorem Jpd:prog.cellsOf 49=2:=by kernel_rfl
theorem cTx:prog.cellsOf 98=2:=by kernel_rfl
theorem Jpt:prog.cellsOf 96=1:=by kernel_rfl
theorem Jpe:prog.cellsOf 22=1:=by kernel_rfl
theorem cTxs:prog.cellsOf 73=1:=by kernel_rfl
theorem cOp:prog.cellsOf 75=11:=by kernel_rfl
section
variable {H:Type}{enc:TypeId×aG->H}{W:aA}
theorem JdH(k:Nat)(l:List (DataW H))(h:∀d∈l,k<=Rows.uptoBulk d):k*l.length<=Rows.uptoBulkAll l:=by
 induction l with
 | nil=>simp[Rows.uptoBulkAll]
 | cons x r ih=>
  have h1:=h x (by simp);have h2:=ih (λd hd=>h d (by simp[hd]));simp only[Rows.uptoBulkAll,Qp,Nat.mul_add,Nat.mul_one];omega
set_option maxRecDepth 100000 in
theorem JbH{tS tE:TypeId}{f0 f1:Field}{x:DataW H×List MemPlace}(ht:prog.underlying tS=Z (.slice tE))(he:prog.underlying tE=Z (.struct #[f0,f1]))(ce:prog.cellsOf tE=2)(o0:f0.offset=0)(o1:f1.offset=1)(c0:prog.cellsOf f0.type=1)(c1:prog.cellsOf f1.type=1)(h:DataW.trod enc N W 0 (λ_=>true) true fuel tS [v]=Z x):
  ∃(n:Nat)(V:Nat->VV),VR W.heap.size W v ((lD n).map V)/\3*n<=Rows.uptoBulk x.1/\∀i,i<n->∃k y0 y1,DataW.trod enc N W 0 (λ_=>true) true k f0.type [(V i).1]=Z y0/\DataW.trod enc N W 0 (λ_=>true) true k f1.type [(V i).2]=Z y1/\Rows.uptoBulk y0.1+Rows.uptoBulk y1.1<=Rows.uptoBulk x.1:=by
 rcases open_slice_pairs ht he ce o0 o1 c0 c1 h with⟨h0,h1⟩|⟨a,len,cap,m,n,V0,V1,D0,D1,P0,P1,h0,hb,hl,hm,yv,hx,hc⟩
 ·simp only[QH,and_true]at h0;exact⟨0,λ_=>zO,aM ⟨aM h0,rfl⟩,by simp,λi hi=>absurd hi (by omega)⟩
 ·simp only[QH,and_true]at h0;simp only[if_true]at yv;subst yv;have hb3:3*len<=Rows.uptoBulk x.1:=by
   have:=JdH 3 ((lD len).map λi=>DataW.agg [D0 i,D1 i]) (λd hd=>by
    obtain⟨i,_,rfl⟩:=QL.1 hd;have h1:=JaM (D0 i);have h2:=JaM (D1 i);simp only[Rows.uptoBulk,Rows.uptoBulkAll];omega)
   rw[QM,lG]at this;rw[hx];simp only[Rows.uptoBulk];omega
  refine⟨len,λi=>(V0 i,V1 i),?_,hb3,λi hi=>⟨n,_,_,(hc i (by omega)).2.2.1,(hc i (by omega)).2.2.2,?_⟩⟩
  ·rcases Nat.eq_zero_or_pos len with h00|qX
   ·subst h00;exact aM ⟨aN ⟨a,m,h0⟩,rfl⟩
   ·obtain⟨ea,H5⟩:=Jil (hc 0 (by omega)).1;simp only[Nat.zero_mul,Addr.add,if_true]at ea H5;rw[ea]at h0;refine aN ⟨a.block,a.off,m,by rw[h0];simp,H5,H5,λi hi=>?_⟩;simp only[QM,lG]at hi;obtain⟨w0,w1,_,_⟩:=hc i (by omega);have ad:∀j,a.add j=⟨a.block,a.off+j,Y⟩:=λj=>by
     rw[ea];unfold Addr.add;split
     ·rename_i hz;simp<;>omega
     ·simp
    rw[ad]at w0 w1;simp only[lH,lK];exact⟨w0,by rw[Nat.add_assoc];exact w1⟩
  ·have hm:DataW.agg [D0 i,D1 i]∈(lD len).map λi=>DataW.agg [D0 i,D1 i]:=QL.2 ⟨i,lF.2 hi,rfl⟩;have:=JdG hm;rw[hx];simp only[Rows.uptoBulk,Rows.uptoBulkAll]at this ⊢;omega
theorem Jd4{x:DataW H×List MemPlace}(h:DataW.trod enc N W 0 (λ_=>true) true fuel 22 [v]=Z x):
  ∃l:List (Nat×Nat),Yz W.heap.size W v l/\(∀o∈l,JC o)/\3*l.length<=Rows.uptoBulk x.1:=by
 obtain⟨n,V,hv,hb,he⟩:=JbH underlying22 underlying80 cOut rfl rfl cU64 cU8 h;have hp:∀i,i<n->∃q:Nat×Nat,V i=encO q/\JC q:=λi hi=>by
  obtain⟨k,y0,y1,h2,h3,_⟩:=he i hi;obtain⟨z0,e0,_,b0⟩:=DataW.trod_int underlying78 h2;obtain⟨z1,e1,_,b1⟩:=DataW.trod_int underlying5 h3;simp only[QH,and_true]at e0 e1;have c0:=bounds_u64 b0;have c1:=bounds_u8 b1;refine⟨(z0.toNat,z1.toNat),?_,⟨by show z0.toNat<_;omega,by show z1.toNat<_;omega⟩⟩;have ee:V i=((V i).1,(V i).2):=rfl;rw[ee,e0,e1];unfold encO;simp only[Qw,Value.int.injEq,true_and];omega
 obtain⟨Q,hQ⟩:=choose_lt hp;refine⟨(lD n).map Q,?_,λo ho=>?_,by rw[QM,lG];exact hb⟩
 ·have e:(lD n).map V=((lD n).map Q).map encO:=by
   rw[List.map_map];exact lI (λi hi=>(hQ i (lF.1 hi)).1)
  rw[e]at hv
  rcases hv with⟨h1,h2⟩|⟨g,o,c,h1,h2,h3,h4⟩
  ·exact aM ⟨h1,lJ.1 h2⟩
  ·rw[QM]at h1;exact aN ⟨g,o,c,h1,h2,h3,λi hi=>by have:=h4 i (by rw[QM];exact hi);rw[lH]at this;exact this⟩
 ·obtain⟨i,hi,rfl⟩:=QL.1 ho;exact(hQ i (lF.1 hi)).2
theorem Jkg{x:DataW H×List MemPlace}(h:DataW.trod enc N W 0 (λ_=>true) true fuel 96 [v]=Z x):
  ∃l:List (BA×Int),YE W.heap.size W v l/\(∀c∈l,(-9223372036854775808<=c.2/\c.2<9223372036854775808)/\c.1.size<=9223372036854775807)/\3*l.length<=Rows.uptoBulk x.1:=by
 obtain⟨n,V,hv,hb,he⟩:=JbH underlying96 underlying49 Jpd rfl rfl cStr cInt h;have hp:∀i,i<n->∃q:BA×Int,V i=encC q/\(-9223372036854775808<=q.2/\q.2<9223372036854775808)/\q.1.size<=9223372036854775807:=λi hi=>by
  obtain⟨k,y0,y1,h2,h3,_⟩:=he i hi;obtain⟨z0,e0,_,b0⟩:=DataW.trod_string underlying9 h2;obtain⟨z1,e1,_,b1⟩:=DataW.trod_int underlying3 h3;simp only[QH,and_true]at e0 e1;have c1:=bounds_i64 b1;simp only[maxLen]at b0;refine⟨(z0,z1),?_,⟨c1.1,by show z1<_;omega⟩,by show z0.size<=_;omega⟩;have ee:V i=((V i).1,(V i).2):=rfl;rw[ee,e0,e1];rfl
 haveI:Inhabited (BA×Int):=⟨(⟨#[]⟩,0)⟩
 obtain⟨Q,hQ⟩:=choose_lt hp;refine⟨(lD n).map Q,?_,λo ho=>?_,by rw[QM,lG];exact hb⟩
 ·have e:(lD n).map V=((lD n).map Q).map encC:=by
   rw[List.map_map];exact lI (λi hi=>(hQ i (lF.1 hi)).1)
  rw[e]at hv
  rcases hv with⟨h1,h2⟩|⟨g,o,c,h1,h2,h3,h4⟩
  ·exact aM ⟨h1,lJ.1 h2⟩
  ·rw[QM]at h1;exact aN ⟨g,o,c,h1,h2,h3,λi hi=>by have:=h4 i (by rw[QM];exact hi);rw[lH]at this;exact this⟩
 ·obtain⟨i,hi,rfl⟩:=QL.1 ho;exact(hQ i (lF.1 hi)).2
theorem Jcf{t e:TypeId}{x:DataW H×List MemPlace}(ht:prog.underlying t=Z (.slice e))(h:DataW.trod enc N W 0 (λ_=>true) true fuel t [v]=Z x):∃s:Sl,v=R s.1 s.2.1 s.2.2:=by
 rcases open_slice ht h with⟨h0,_⟩|⟨a,len,cap,m,n,aV,Pl,h0,_⟩
 ·simp only[QH,and_true]at h0;exact⟨(Y,0,0),h0⟩
 ·simp only[QH,and_true]at h0;exact⟨(Z a,len,cap),h0⟩
def Jqj(W:aA)(s:Sl×Sl)(t:TxL)(b:Nat):Prop:=YE W.heap.size W (R s.1.1 s.1.2.1 s.1.2.2) t.1/\Yz W.heap.size W (R s.2.1 s.2.2.1 s.2.2.2) t.2/\InR t/\(∀c∈t.1,c.1.size<=9223372036854775807)/\3*t.1.length<=b/\3*t.2.length<=b
theorem Jo0{x:DataW H×List MemPlace}(h:DataW.trod enc N W 0 (λ_=>true) true fuel 73 [v]=Z x):
  ∃(sl:List (Sl×Sl))(ts:List TxL),TxsR W.heap.size W v sl/\TxIs W.heap.size W ts sl/\(∀t∈ts,InR t/\(∀c∈t.1,c.1.size<=9223372036854775807)/\3*t.1.length<=Rows.uptoBulk x.1/\3*t.2.length<=Rows.uptoBulk x.1)/\3*ts.length<=Rows.uptoBulk x.1:=by
 obtain⟨n,V,hv,hb,he⟩:=JbH underlying73 underlying98 cTx rfl rfl Jpt Jpe h;have hp:∀i,i<n->∃q:(Sl×Sl)×TxL,V i=encT q.1/\Jqj W q.1 q.2 (Rows.uptoBulk x.1):=λi hi=>by
  obtain⟨k,y0,y1,h2,h3,h4⟩:=he i hi;obtain⟨s0,e0⟩:=Jcf underlying96 h2;obtain⟨s1,e1⟩:=Jcf underlying22 h3;obtain⟨cs,k1,k2,k3⟩:=Jkg h2;obtain⟨os,j1,j2,j3⟩:=Jd4 h3;refine⟨((s0,s1),(cs,os)),?_,?_⟩
  ·have ee:V i=((V i).1,(V i).2):=rfl;rw[ee,e0,e1];rfl
  ·rw[e0]at k1;rw[e1]at j1;exact⟨k1,j1,⟨λc hc=>(k2 c hc).1,j2⟩,λc hc=>(k2 c hc).2,by show 3*cs.length<=_;omega,by show 3*os.length<=_;omega⟩
 haveI:Inhabited ((Sl×Sl)×TxL):=⟨(dSl,([],[]))⟩
 obtain⟨Q,hQ⟩:=choose_lt hp;refine⟨(lD n).map λi=>(Q i).1,(lD n).map λi=>(Q i).2,?_,⟨by simp,λi h1 h2=>?_⟩,λt ht=>?_,by rw[QM,lG];exact hb⟩
 ·have e:(lD n).map V=((lD n).map λi=>(Q i).1).map encT:=by
   rw[List.map_map];exact lI (λi hi=>(hQ i (lF.1 hi)).1)
  rw[e]at hv
  rcases hv with⟨h1,h2⟩|⟨g,o,c,h1,h2,h3,h4⟩
  ·exact aM ⟨h1,lJ.1 h2⟩
  ·rw[QM]at h1;exact aN ⟨g,o,c,h1,h2,h3,λi hi=>by have:=h4 i (by rw[QM];exact hi);rw[lH]at this;exact this⟩
 ·simp only[QM,lG]at h1;simp only[lH,lK];exact⟨(hQ i h1).2.1,(hQ i h1).2.2.1⟩
 ·obtain⟨i,hi,rfl⟩:=QL.1 ht;exact(hQ i (lF.1 hi)).2.2.2
end

section
variable {H:Type}{enc:TypeId×aG->H}{W:aA}
def opL(x:OpL):List aG:=[O I x.kind,O I x.a,O I x.b,O I x.which,L x.s,L x.t,L x.u,L x.cx,O I x.cn,R x.os.1 x.os.2.1 x.os.2.2,R x.ts.1 x.ts.2.1 x.ts.2.2]
theorem JoB{cs:List aG}{y:DataW H×List MemPlace}(h:DataW.trod enc N W 0 (λ_=>true) true n 75 cs=Z y):
  ∃x:OpL,cs=opL x/\3<=Rows.uptoBulk y.1/\(Rows.uptoBulk y.1<=1048576->∃os ts sl,OpOk W.heap.size W x os ts sl):=by
 obtain⟨xs,k,rfl,hy,Hl,yw,hf⟩:=DataW.trod_struct underlying75 h;rw[cOp]at Hl
 match cs,Hl with
 | [v0,v1,v2,v3,v4,v5,v6,v7,v8,v9,v10],_=>
  match xs,yw with
  | [y0,y1,y2,y3,y4,y5,y6,y7,y8,y9],_=>
   have g0:=hf 0 _ rfl;have g1:=hf 1 _ rfl;have g2:=hf 2 _ rfl;have g3:=hf 3 _ rfl;have g4:=hf 4 _ rfl;have g5:=hf 5 _ rfl;have g6:=hf 6 _ rfl;have g7:=hf 7 _ rfl;have g8:=hf 8 _ rfl;have g9:=hf 9 _ rfl;simp[cInt,cStr,Jpd,Jpe,cTxs]at g0 g1 g2 g3 g4 g5 g6 g7 g8 g9;obtain⟨z0,e0,_,_⟩:=DataW.trod_int underlying3 g0;obtain⟨z1,e1,_,b1⟩:=DataW.trod_int underlying3 g1;obtain⟨z2,e2,_,b2⟩:=DataW.trod_int underlying3 g2;obtain⟨z3,e3,_,b3⟩:=DataW.trod_int underlying3 g3;obtain⟨z4,e4,x4,_⟩:=DataW.trod_string underlying9 g4;obtain⟨z5,e5,x5,_⟩:=DataW.trod_string underlying9 g5;obtain⟨z6,e6,x6,_⟩:=DataW.trod_string underlying9 g6;obtain⟨us,k7,_,hy7,_,pN,hg⟩:=DataW.trod_struct underlying49 g7
   match us,pN with
   | [u0,u1],_=>
    have j0:=hg 0 _ rfl;have j1:=hg 1 _ rfl;simp[cInt,cStr]at j0 j1;obtain⟨z7,e7,_,b7⟩:=DataW.trod_string underlying9 j0;obtain⟨z8,e8,_,b8'⟩:=DataW.trod_int underlying3 j1;obtain⟨s9,e9⟩:=Jcf underlying22 g8;obtain⟨s10,e10⟩:=Jcf underlying73 g9;obtain⟨os,o1,o2,o3⟩:=Jd4 g8;obtain⟨sl,ts,t1,t2,t3,t4⟩:=Jo0 g9;have c1:=bounds_i64 b1;have c2:=bounds_i64 b2;have c3:=bounds_i64 b3;have c8:=bounds_i64 b8';simp only[maxLen]at b7;simp only[QH,and_true]at e0 e1 e2 e3 e4 e5 e6 e7 e8;rw[e9]at o1;rw[e10]at t1;refine⟨⟨z0,z1,z2,z3,z4,z5,z6,z7,z8,s9,s10⟩,by rw[e0,e1,e2,e3,e4,e5,e6,e7,e8,e9,e10];rfl,?_,λhk=>⟨os,ts,sl,?_⟩⟩
    ·have h0:=JaM y0.1;have h1:=JaM y1.1;have h2:=JaM y2.1;rw[hy];simp only[Rows.uptoBulk,Rows.uptoBulkAll,List.map_cons,List.map_nil];omega
    ·have hb:∀z∈[y0,y1,y2,y3,y4,y5,y6,y7,y8,y9].map (·.1),Rows.uptoBulk z<=1048575:=λz hz=>by
      have:=JdG hz;rw[hy]at hk;simp only[Rows.uptoBulk]at hk;omega
     have b4:=hb y4.1 (by simp);have b5:=hb y5.1 (by simp);have b6:=hb y6.1 (by simp);have b8:=hb y8.1 (by simp);have b9:=hb y9.1 (by simp);rw[x4]at b4;rw[x5]at b5;rw[x6]at b6;simp only[Rows.uptoBulk,QA]at b4 b5 b6;refine⟨⟨c1.1,by show z1<_;omega⟩,⟨c3.1,by show z3<_;omega⟩,by show z4.data.size<=_;omega,⟨c2.1,by show z2<_;omega⟩,⟨c8.1,by show z8<_;omega⟩,by show z7.size<=_;omega,by show z5.data.size<=_;omega,by show z6.data.size<=_;omega,o1,o2,by omega,t1,t2,λt ht=>(t3 t ht).1,by omega,λt ht=>?_⟩;obtain⟨_,q1,q2,q3⟩:=t3 t ht;exact⟨by omega,by omega,q1⟩
theorem JmB{x:DataW H×List MemPlace}(hv:Value.okWide N W .any b 23 v)(h:DataW.trod enc N W 0 (λ_=>true) true fuel 23 [v]=Z x)(hk:Rows.uptoBulk x.1<=1048576):
  ∃l:List OpL,JgF W.heap.size W v l/\l.length<=800000:=by
 rcases Jbl underlying23 hv with rfl|⟨g,o,len0,cap0,rfl,hg⟩
 ·exact⟨[],⟨aM ⟨rfl,rfl⟩,λ_ h=>(QD h).elim⟩,by simp⟩
 rcases open_slice underlying23 h with⟨h0,h1⟩|⟨a,len,cap,m,n,aV,Pl,h0,hb,hl,hm,yv,hx,he⟩
 ·simp at h0
 ·simp only[QH,and_true,Qy,Qh]at h0;obtain⟨rfl,rfl,rfl⟩:=h0;simp only[if_true]at yv;subst yv;rw[cOp]at he;have hp:∀i,i<m->∃q:OpL,W.cells? 0 ((⟨g,o,Y⟩:Addr).add (i*11)) 11=Z (opL q)/\3<=Rows.uptoBulk (aV i)/\(Rows.uptoBulk (aV i)<=1048576->∃os ts sl,OpOk W.heap.size W q os ts sl):=λi hi=>by
   obtain⟨cs',h1,h2⟩:=he i hi;obtain⟨p,rfl,h4,h5⟩:=JoB h2;exact⟨p,h1,h4,h5⟩
  haveI:Inhabited OpL:=⟨⟨0,0,0,0,⟨#[]⟩,⟨#[]⟩,⟨#[]⟩,⟨#[]⟩,0,(Y,0,0),(Y,0,0)⟩⟩
  obtain⟨Q,hQ⟩:=choose_lt hp;rw[hx]at hk;simp only[Rows.uptoBulk]at hk;have hDi:∀i,i<len0->Rows.uptoBulk (aV i)<=1048576:=λi hi=>by
   have hm:aV i∈(lD len0).map aV:=QL.2 ⟨i,lF.2 hi,rfl⟩;have:=JdG hm;omega
  refine⟨(lD len0).map Q,⟨aN ⟨g,o,m,by simp,hg,hg,λi hi=>?_⟩,λs hs=>?_⟩,?_⟩
  ·simp only[QM,lG]at hi;obtain⟨_,_,hc⟩:=World.cells?_some (hQ i (by omega)).1;have ad:∀j,(((⟨g,o,Y⟩:Addr).add (i*11)).add j)=⟨g,o+i*11+j,Y⟩:=λj=>by
    rw[add_add];unfold Addr.add;split
    ·rename_i hz;simp<;>omega
    ·simp<;>omega
   simp only[lH,lK];have w0:=hc 0 (by omega);have w1:=hc 1 (by omega);have w2:=hc 2 (by omega);have w3:=hc 3 (by omega);have w4:=hc 4 (by omega);have w5:=hc 5 (by omega);have w6:=hc 6 (by omega);have w7:=hc 7 (by omega);have w8:=hc 8 (by omega);have w9:=hc 9 (by omega);have w10:=hc 10 (by omega);rw[ad]at w0 w1 w2 w3 w4 w5 w6 w7 w8 w9 w10;exact⟨w0,w1,w2,w3,w4,w5,w6,w7,w8,w9,w10⟩
  ·rw[QL]at hs;obtain⟨i,hi,rfl⟩:=hs;have hi:=lF.1 hi;exact(hQ i (by omega)).2.2 (hDi i hi)
  ·have:=JdH 3 ((lD len0).map aV) (λd hd=>by
    obtain⟨i,hi,rfl⟩:=QL.1 hd;exact(hQ i (by have:=lF.1 hi;omega)).2.1)
   simp only[QM,lG]at this ⊢;omega
theorem JmG{x:DataW H×List MemPlace}(hv:Value.okWide N W .any b 22 v)(h:DataW.trod enc N W 0 (λ_=>true) true fuel 22 [v]=Z x)(hk:Rows.uptoBulk x.1<=1048576):
  ∃l:List (Nat×Nat),Jr W.heap.size W v l/\(∀o∈l,JC o)/\l.length<1000000:=by
 obtain⟨l,h1,h2,h3⟩:=Jd4 h;refine⟨l,?_,h2,by omega⟩
 rcases h1 with⟨e,rfl⟩|h1
 ·rcases Jbl underlying22 hv with rfl|⟨g,o,len0,cap0,rfl,hg⟩
  ·exact aM ⟨rfl,rfl⟩
  ·obtain⟨a,c,e⟩:=e.shape;simp only[Qy]at e;obtain⟨_,rfl,_⟩:=e;exact aN ⟨g,o,cap0,rfl,hg,hg,λi hi=>absurd hi (by simp)⟩
 ·exact aN h1
end

set_option maxRecDepth 100000 in
theorem Jmg(E:Nat->Addr)(hF:Xx E base w)(gX:base=w.heap.size)(c:Int)(hc: -9223372036854775808<=c/\c<9223372036854775808)(v1 v2:aG)(os:List (Nat×Nat))(hO:Jr base w v1 os)(dk:∀o∈os,JC o)(rL:os.length<1000000)(script:List OpL)(hS:JgF base w v2 script)(hl:script.length<=800000)(hA:Ast w)(hL:Alk w):
  aB Tryz.prog 5 #[O I c,v1,v2] w λe w'=>e=aC (aL true)/\M (λj=>base<=j) w w':=by
 have HP:J (aB _ _ _ _ _):=Joa E hF gX c hc v1 v2 os hO dk rL script hS hl hA hL 11 (by omega);obtain⟨oa,oc,jq⟩:=hO.shape;obtain⟨sa,sc,kW⟩:=hS.shape;subst jq;subst kW;go_enter Tryz.func5,Tryz.ntmps5;go_wp2_with fail;refine HP.o.mono ?_;rintro _ w1⟨rfl,ht⟩;have HT:J _:=ht;go_wp2;go_ret;exact⟨rfl,HT⟩
