import Derived.Test.YtighkdnooglfjaaGreatDoorQyRfF
open Go renaming Calls->aB,Value->aG,World->aA
open Go.Ending renaming returned->aC
open Go.IntKind renaming i64->I,u64->aD,u8->aE
open Go.Obj renaming cells->T
open Go.Proofs.Tryz renaming prog->N
open Go.RowKit renaming Hid->J
open Go.Value renaming agg->aH,bool->aL,iface->aJ,int->O,nilIface->aK,pointer->X,slice->R,string->L,tuple->aI
open Option renaming none->Y,some->Z
open Or renaming inl->aM,inr->aN
open Int renaming eq_ofNat_of_zero_le->lC,toNat_natCast->lD
open List renaming range->lE,mem_range->lF,length_range->lG,exists_mem_of_ne_nil->lH,length_drop->lI,getElem_map->lJ,getElem?_map->lK,take_append_drop->lM,map_congr_left->lN,map_eq_nil_iff->lO,getElem_range->lP
open Nat renaming zero_le->lQ
open Prod renaming fst->lR
set_option maxRecDepth 100000
set_option maxHeartbeats 4000000
namespace Go.Proofs.YtighkdnooglfjaaGreatDoor

variable {H:BA}{c:BA×Int}{ch:Ch}{k key:Key}{os:List (Nat×Nat)}{sl:List (Sl×Sl)}{bs:List BV}{l:List Hd}{lv:List Lv}{ts:List TxL}{s:List UInt8}{b base cb fl fuel lb n pn r rb wb wj:Nat}{F G:Nat->Prop}{st:Option Tr}{r1 r2:Option Wy}{lt rt t:Tr}{v vL vl vm:aG}{V W w:aA}{wy:Wy}
def JpG(key:Key)(wy:Wy):Prop:=∀x∈wy.1,bt key x.1=bt (Xn wy) x.1
theorem JfG(hw:wj<=32) :jP wj key s=Z wy↔WyOk wj wy/\s=kT wy/\JpG key wy:=by
 unfold jP;constructor
 ·intro h
  split at h
  ·rename_i e
   cases h
   exact⟨⟨λs hs=>(by cases hs),λi h1 h2=>(by simp at h2),by simp,λ_=>rfl,λx hx=>(by cases hx)⟩,by rw[e];decide,λx hx=>(by cases hx)⟩
  ·split at h
   ·rename_i hg
    cases h
    refine⟨Jqt hg.1 hg.2,(Jqp hg.1.1).symm,λx hx=>?_⟩;obtain⟨i,hi,rfl⟩:=QL.1 hx;exact((hg.2 i (lQ _) (lF.1 hi)).2).symm
   ·cases h
 ·rintro⟨Hg,rfl,hb⟩;obtain⟨steps,e⟩:=wy
  cases e with
  | none=>
   obtain rfl:steps=[]:=Hg.bare rfl;rw[if_pos (by decide)]
  | some x=>
   obtain⟨h1,h2⟩:=JnY Hg hw x rfl;have Hl:kT (steps,Z x) ≠ [0,0]:=λe=>by
    have h3:=h2.1;rw[e]at h3;unfold gH at h3;simp at h3
    try omega
   have hn:jJ (kT (steps,Z x))=steps.length:=(by have:=congrArg (λw:Wy=>w.1.length) h1;unfold wyP at this;simpa using this);have kL:∀i (hi:i<steps.length),gM wj (kT (steps,Z x)) i=steps[i]:=λi hi=>by
    have:=congrArg (λw:Wy=>w.1[i]?) h1;unfold wyP at this;simp only[lK]at this;rw[hn,List.getElem?_range hi,Qd hi]at this;simpa using this
   have hkp:keyP wj (kT (steps,Z x))=x.1:=(by have:=congrArg (λw:Wy=>w.2) h1;unfold wyP at this;simp only[Qh]at this;exact congrArg lR this);have kH:RunP wj key (kT (steps,Z x)) 0:=λi _ hi=>by
    rw[hn]at hi;rw[kL i hi,hkp];refine⟨?_,(hb _ (Qx hi)).symm⟩;unfold Yw;rw[hn]
    split
    ·rename_i hj;rw[kL _ hj];exact Hg.rise (i+1) (by omega) hj _ _ (by rw[Nat.add_sub_cancel];exact Qd hi) (Qd hj)
    ·exact(Hg.steps _ (Qx hi)).1
   rw[if_neg Hl,if_pos ⟨h2,kH⟩,h1]
theorem JaQ(hw:wj<=32){H8:BA} :yQ wj key H8 s=Z wy↔jP wj key s=Z wy/\H3 wj ((wy.nodes (H3 wj)).headD [])=H8:=by
 rw[JfG hw];constructor
 ·intro h;unfold yQ at h
  cases hR:(PS.rd [] s).way wj [] false ⟨#[]⟩ (0,0) with
  | none=>rw[hR]at h;cases h
  | some x=>
   obtain⟨wy',p⟩:=x;obtain⟨Hg,q,r,rfl,hs⟩:=Jil hR;rw[hR]at h
   cases r with
   | cons a r=>cases h
   | nil=>
    dsimp only at h
    split at h
    ·rename_i hc
     cases h
     exact⟨⟨Hg,by rw[hs,QC],hc.1⟩,hc.2⟩
    ·cases h
 ·rintro⟨⟨Hg,rfl,hb⟩,hr⟩;exact Joa hw Hg hb hr
open Go.Proofs.Tryz
open Go.RowKit

structure Ac3(w W:aA)(c:BA×Int):Prop where
 rc:W.heap[w.heap.size]? =Z (T #[L c.1,O I c.2] 49)
 r1:W.heap[w.heap.size+1]? =Z (T zP 302)
 r2:W.heap[w.heap.size+2]? =Z (T zP 302)
 tc:M D w W
theorem Ac3.tch{W':aA}(h:Ac3 w W c)(t:M D W W'):Ac3 w W' c:=⟨(t.block _ (Jb h.rc) (λe=>e)).trans h.rc,(t.block _ (Jb h.r1) (λe=>e)).trans h.r1,(t.block _ (Jb h.r2) (λe=>e)).trans h.r2,h.tc.go t⟩
theorem Ac3.coin(h:Ac3 w W c):W.cell? ⟨w.heap.size,0,Y⟩=Z (L c.1)/\W.cell? ⟨w.heap.size,1,Y⟩=Z (O I c.2):=⟨Ja h.rc,Ja h.rc⟩
theorem Ac3.ends{k:BA×Int}(h:Ac3 w V k)(a b c d:aG):∀aX,((((V.setCell ⟨w.heap.size+1,0,Y⟩ a).setCell ⟨w.heap.size+1,1,Y⟩ b).setCell ⟨w.heap.size+1,2,Y⟩ c).setCell ⟨w.heap.size+1,3,Y⟩ d)=aX->JaI V (w.heap.size+1) (R Y 0 0) (L ⟨#[]⟩) (O aD 0) (O aE 0)/\JaI V (w.heap.size+2) (R Y 0 0) (L ⟨#[]⟩) (O aD 0) (O aE 0)/\(∀j,V.frozen? ⟨w.heap.size+1,j,Y⟩=false)/\J (aX.heap[w.heap.size+1]? =Z (T #[a,b,c,d] 302))/\J (M D w aX)/\J (M (λj=>j=w.heap.size+1) V aX):=λaX hX=>by
 obtain⟨p1,p2⟩:=Jer h.r1 a b c d;rw[hX]at p1 p2;exact⟨Jaf h.r1,Jaf h.r2,λj=>Qg _ _ _ _ _ h.r1,p1,h.tc.trans p2 (λj hj=>aN (by rw[hj];exact Nat.le_succ _)),p2⟩
theorem Ac3.new(w:aA)(c:BA×Int):Ac3 w (((w.alloc (T #[L c.1,O I c.2] 49)).alloc (T zP 302)).alloc (T zP 302)) c:=by
 obtain⟨W,hW⟩:∃W,W=w.alloc (T #[L c.1,O I c.2] 49):=⟨_,rfl⟩
 have hs:W.heap.size=w.heap.size+1:=by rw[hW];exact Array.size_push _
 have rW:=xw hW;have t0:=yh hW;rw[<-hW];have t1:=M.allocs D W (T zP 302) (T zP 302);refine⟨(t1.block _ (Jb rW) (λe=>e)).trans rW,?_,?_,t0.go t1⟩
 ·have:=heap_alloc2_old W (T zP 302) (T zP 302);rw[hs]at this;exact this
 ·have:=heap_alloc2_new W (T zP 302) (T zP 302);rw[hs]at this;exact this
def kO(wj:Int)(H:BA)(c:BA×Int)(s:List UInt8):Option Wy:=
 if 1<=wj/\wj<=32/\(H.size:Int)=4+3*wj/\XZ wj.toNat c=true then (jP wj.toNat (Jc c) s).bind λwy=>if H3 wj.toNat ((wy.nodes (H3 wj.toNat)).headD [])=H.extract (4+2*wj.toNat) H.size then Z wy else Y else Y
theorem JbK(hD:DgC)(wj:Int)(nC: -9223372036854775808<=wj/\wj<9223372036854775808)(H:BA)(c:BA×Int)(hc:c.1.size<=9223372036854775807)(aY:BA)(hS:aY.size<=2000000)(w:aA):
  aB N 176 #[O I wj,L H,aH #[L c.1,O I c.2],L aY] w (Jat wj.toNat (kO wj H c aY.data.toList) w):=by
 obtain⟨W,(HW:J _)⟩:∃W,W=((w.alloc (T #[L c.1,O I c.2] 49)).alloc (T zP 302)).alloc (T zP 302):=⟨_,rfl⟩
 have HA:J (Ac3 w W c):=by show Ac3 w W c;rw[HW];exact Ac3.new w c
 obtain⟨aW,(HR:J _)⟩:∃aW,kO wj H c aY.data.toList=aW:=⟨_,rfl⟩
 rw[HR]
 by_cases hB:1<=wj/\wj<=32/\(H.size:Int)=4+3*wj
 ·obtain⟨h1,h2,h3⟩:=hB;obtain⟨n,rfl⟩:=lC (show 0<=wj by omega);rw[lD];have xw:1<=n:=by omega
  have jx:n<=32:=by omega
  have g1:¬(n:Int)<1:=by omega
  have g2:¬(32:Int)<(n:Int):=by omega
  have v1:I.wrap (3*(n:Int))=3*(n:Int):=w63 _ (by omega) (by omega);have v2:I.wrap (4+3*(n:Int))=4+3*(n:Int):=w63 _ (by omega) (by omega);have xG:J (∀V,_):=λV=>Jec n c hc V
  by_cases hcd:XZ n c=true
  ·have jE:=(Yc n c).1 hcd;rw[hcd]at xG;have js:J (∀V,_):=λV=>Zb c V jE.2.1 (by have:=jE.2.2;omega) (by have:=jE.1;omega);have bp:J (∀V,_):=λV=>Jqc hD n xw jx (Jc c) (Xu jE) aY hS V;obtain⟨key,jY⟩:∃key,Jc c=key:=⟨_,rfl⟩
   obtain⟨RP,hRP⟩:∃RP,jP n key aY.data.toList=RP:=⟨_,rfl⟩
   have jK:J ((RP.bind λwy=>if H3 n ((wy.nodes (H3 n)).headD [])=H.extract (4+2*n) H.size then Z wy else Y)=aW):=(by show _=aW;rw[<-hRP,<-jY,<-HR.o];unfold kO;rw[lD,if_pos ⟨h1,h2,h3,hcd⟩]);rw[jY]at js bp;rw[hRP]at bp;obtain⟨s,aZ⟩:=c;simp only at xG HW js ⊢;obtain⟨c0,c1⟩:=HA.coin;simp only at c0 c1;go_enter func176,ntmps176;go_upto_region 2 with fail;rw[<-HW.o];go_upto_region 7 with(go_at_call 257;refine(xG _).mono ?_;rintro _ w1⟨rfl,H9⟩;have uX:J _:=HA.tch H9);obtain⟨c0,c1⟩:=uX.coin;simp only at c0 c1
   cases RP with
   | none=>
    obtain rfl:aW=Y:=jK.symm;go_upto_region 8 with(first
     | (go_at_call 105;refine(js _).mono ?_;rintro _ w2⟨rfl,Ha⟩;have uY:J _:=uX.tch Ha)
     | (go_at_call 258;refine(bp _).mono ?_;rintro _ w3⟨Hs,pa,pn,pc,pk,px,py,rfl⟩;have ep:J _:=uY.tch Hs))
    have HA4:J _:=ep.tch (Ta _ w3 (T #[R pa pn pc,L pk,O aD px,O aE py] 302));generalize w3.alloc (T #[R pa pn pc,L pk,O aD px,O aE py] 302)=w4 at *;obtain⟨aX,hX⟩:∃aX,aX=_:=⟨_,rfl⟩
    obtain⟨⟨x0,x1,x2,x3⟩,⟨y0,y1,y2,y3⟩,fz,Hx,kF,qs⟩:=HA4.ends (R Y 0 0) (L ⟨#[]⟩) (O aD 0) (O aE 0) aX hX.symm;go_wp2;rw[<-hX];refine QK (v:=aI #[aH zP,aL false]) (Je results176 _ _ (w.heap.size+1) _ _ (0,0) _ rfl Hx underlying302 rfl (by kernel_rfl)) rfl ⟨kF,_,_,_,_,_,_,rfl⟩
   | some wy=>
    obtain⟨kk,rq⟩:∃kk,ji wy=kk:=⟨_,rfl⟩
    obtain⟨px,bv⟩:∃px,(gE wy).1=px:=⟨_,rfl⟩
    obtain⟨py,nB⟩:∃py,(gE wy).2=py:=⟨_,rfl⟩
    obtain⟨t0,tr,j9⟩:∃t0 tr,wy.nodes (H3 n)=t0::tr:=by
     cases h:wy.nodes (H3 n) with
     | nil=>have:=JZ (H3 n) (Xn wy) (Xb wy.2) wy.1;unfold Wy.nodes at h;rw[h]at this;simp at this
     | cons a b=>exact⟨a,b,rfl⟩
    have jR:J (∀V,_):=λV=>hD n ⟨t0.toArray⟩ V xw jx (by rw[Ji];have:=Jd0 jx ((JfG jx).1 hRP).1 (by rw[j9];exact QN);omega);obtain⟨aV,dm⟩:∃aV,H3 n t0=aV:=⟨_,rfl⟩
    rw[show (⟨t0.toArray⟩:BA).data.toList=t0 from rfl,dm]at jR;obtain⟨ST,hST⟩:∃ST,H.extract (4+2*n) H.size=ST:=⟨_,rfl⟩
    have kw:J ((if aV=ST then Z wy else Y)=aW):=(by have:=jK.o;rw[Qu,j9,List.headD_cons,dm,hST]at this;exact this);obtain⟨bb,mH⟩:∃bb,(aV.toList == ST.toList)=bb:=⟨_,rfl⟩
    have rj:J (aW=if bb=true then Z wy else Y):=by
     show _=_;rw[<-kw.o,<-mH];have e:(aV.toList == ST.toList)=true↔aV=ST:=by rw[beq_iff_eq,ByteArray.toList_eq,ByteArray.toList_eq];exact⟨YN,λh=>by rw[h]⟩
     by_cases h:aV=ST
     ·rw[if_pos h,if_pos (e.2 h)]
     ·rw[if_neg h,if_neg (λh'=>h (e.1 h'))]
    have yP:J (∀V e V',Jat n (Z wy) V e V'->M D V V'/\∃g m,e=aC (aI #[aH #[R (Z ⟨g,0,Y⟩) m m,L kk,O aD (px:Int),O aE (py:Int)],aL true])/\wy.1.length+1=m/\g<V'.heap.size/\∀(j:Nat) t,(wy.nodes (H3 n))[j]? =Z t->V'.cell? ⟨g,j,Y⟩=Z (L ⟨t.toArray⟩)):=λV e V' h=>by
     unfold Jat at h;simp only[rq,bv,nB]at h;exact h
    have HH:J ((wy.nodes (H3 n))[0]? =Z t0):=(by show _=_;rw[j9];rfl);go_upto_region 8 with(first
     | (go_at_call 105;refine(js _).mono ?_;rintro _ w2⟨rfl,Ha⟩;have uY:J _:=uX.tch Ha)
     | (go_at_call 258;refine(bp _).mono ?_;intro e3 w3 h3;obtain⟨Hs,g,m,rfl,hm,hg,j9⟩:=yP _ _ _ h3;have ep:J _:=uY.tch Hs;have es:J (g<w3.heap.size/\wy.1.length+1=m/\∀(j:Nat) t,(wy.nodes (H3 n))[j]? =Z t->w3.cell? ⟨g,j,Y⟩=Z (L ⟨t.toArray⟩)):=⟨hg,hm,j9⟩))
    obtain⟨q,hq⟩:∃q,w3.heap.size=q:=⟨_,rfl⟩
    have mE:(0:Int)<(m:Int):=(by have:=es.o.2.1;omega);have ql:0<m:=(by omega);have HA4:J _:=ep.tch (Ta _ w3 (T #[R (Z ⟨g,0,Y⟩) m m,L kk,O aD (px:Int),O aE (py:Int)] 302));have zF:J ((w3.alloc (T #[R (Z ⟨g,0,Y⟩) m m,L kk,O aD (px:Int),O aE (py:Int)] 302)).heap[q]? =Z (T #[R (Z ⟨g,0,Y⟩) m m,L kk,O aD (px:Int),O aE (py:Int)] 302)):=(by show _=_;rw[<-hq];exact Qf _ _);have Hm:J (M D w3 (w3.alloc (T #[R (Z ⟨g,0,Y⟩) m m,L kk,O aD (px:Int),O aE (py:Int)] 302))):=Ta _ _ _;have ym:J (¬g=w.heap.size+1/\¬q=w.heap.size+1):=by
     refine⟨λe=>?_,λe=>?_⟩
     ·have h1:=es.o.2.2 0 t0 HH.o;rw[e,(Jaf ep.o.r1).1]at h1
      cases h1
     ·have h1:=(Jb ep.r1)
      omega
    rw[hq];generalize w3.alloc (T #[R (Z ⟨g,0,Y⟩) m m,L kk,O aD (px:Int),O aE (py:Int)] 302)=w4 at *;have HV:J (∀V,M D w4 V->(JaI V q (R (Z ⟨g,0,Y⟩) m m) (L kk) (O aD (px:Int)) (O aE (py:Int))/\V.cell? ⟨g,0,Y⟩=Z (L ⟨t0.toArray⟩))/\∀aX,M (λj=>j=w.heap.size+1) V aX->(JaI aX q (R (Z ⟨g,0,Y⟩) m m) (L kk) (O aD (px:Int)) (O aE (py:Int))/\aX.cell? ⟨g,0,Y⟩=Z (L ⟨t0.toArray⟩))/\J (g<aX.heap.size/\∀(j:Nat) t,(wy.nodes (H3 n))[j]? =Z t->aX.cell? ⟨g,j,Y⟩=Z (L ⟨t.toArray⟩))):=λV t1=>by
     have r1:=(t1.block _ (Jb zF) (λe=>e)).trans zF.o;have t2:=Hm.o.go t1;have hg:=es.o.1;have n1:∀(j:Nat) t,(wy.nodes (H3 n))[j]? =Z t->_:=λj t h=>(t2.cell (p:=⟨g,j,Y⟩) hg (λe=>e)).trans (es.2.2 j t h);refine⟨⟨Jaf r1,n1 0 t0 HH⟩,λaX t3=>?_⟩;have sV:=Qk hg t2.size;have r2:=(t3.block _ (Jb r1) ym.2).trans r1;have n2:∀(j:Nat) t,(wy.nodes (H3 n))[j]? =Z t->_:=λj t h=>(t3.cell (p:=⟨g,j,Y⟩) sV ym.1).trans (n1 j t h);exact⟨⟨Jaf r2,n2 0 t0 HH⟩,Qk sV t3.size,n2⟩
    unfold JaI at HV;have hml:=es.o.2.1;have HML:J _:=hml;have v3:I.wrap (2*(n:Int))=2*(n:Int):=w63 _ (by omega) (by omega);obtain⟨SP,hSP⟩:∃SP,4+2*n=SP:=⟨_,rfl⟩
    rw[hSP]at hST;have v4:I.wrap (4+2*(n:Int))=(SP:Int):=(by rw[w63 _ (by omega) (by omega)];omega);have s1:SP<=H.size:=(by omega);have s1i:(SP:Int)<=4+3*(n:Int):=(by omega);obtain⟨⟨⟨a0,a1,a2,a3⟩,a4⟩,_⟩:=HV w4 (Te _ _);go_upto_region 10 with fail;go_region_held3 (λV=>V.cell? ⟨q,0,Y⟩=Z (R (Z ⟨g,0,Y⟩) m m)/\V.cell? ⟨q,1,Y⟩=Z (L kk)/\V.cell? ⟨q,2,Y⟩=Z (O aD (px:Int))/\V.cell? ⟨q,3,Y⟩=Z (O aE (py:Int))/\V.cell? ⟨g,0,Y⟩=Z (L ⟨t0.toArray⟩)) (go_keep) ((go_at_call 103;refine(jR.o _).mono ?_;rintro _ w5⟨rfl,kR⟩;obtain⟨⟨⟨b0,b1,b2,b3⟩,b4⟩,bm⟩:=HV.o w5 ((Td D w4 1).go kR);obtain⟨aX,hX⟩:∃aX,aX=_:=⟨_,rfl⟩;obtain⟨⟨x0,x1,x2,x3⟩,⟨y0,y1,y2,y3⟩,fz,Hx,kF,qs⟩:=(HA4.o.tch ((Td D w4 1).go kR)).ends (R (Z ⟨g,0,Y⟩) m m) (L kk) (O aD (px:Int)) (O aE (py:Int)) aX hX.symm;obtain⟨⟨⟨d0,d1,d2,d3⟩,d4⟩,dh⟩:=bm aX qs.o;rw[hX]at d0 d1 d2 d3 d4))
    all_goals
     go_wp2;rw[<-hX];refine QK (v:=aI #[aH #[R (Z ⟨g,0,Y⟩) m m,L kk,O aD (px:Int),O aE (py:Int)],aL bb]) (Je results176 _ _ (w.heap.size+1) _ _ (0,0) _ rfl Hx underlying302 rfl (by kernel_rfl)) rfl ?_;rw[rj.o]
     cases bb with
     | false=>exact⟨kF,_,_,_,_,_,_,rfl⟩
     | true=>exact⟨kF,g,m,by rw[rq,bv,nB],HML,dh⟩
  ·have hcf:XZ n c=false:=(by simpa using hcd);rw[hcf]at xG;obtain rfl:aW=Y:=(by rw[<-HR.o];unfold kO;rw[lD,if_neg (λh=>hcd h.2.2.2)]);obtain⟨s,aZ⟩:=c;simp only at xG HW ⊢;obtain⟨c0,c1⟩:=HA.coin;simp only at c0 c1;go_enter func176,ntmps176;go_upto_region 2 with fail;rw[<-HW.o];go_wp2_with (go_at_call 257;refine(xG _).mono ?_;rintro _ w1⟨rfl,H9⟩;obtain⟨aX,hX⟩:∃aX,aX=_:=⟨_,rfl⟩;obtain⟨⟨x0,x1,x2,x3⟩,⟨y0,y1,y2,y3⟩,fz,Hx,kF,qs⟩:=(HA.tch H9).ends (R Y 0 0) (L ⟨#[]⟩) (O aD 0) (O aE 0) aX hX.symm);rw[<-hX];refine QK (v:=aI #[aH zP,aL false]) (Je results176 _ _ (w.heap.size+1) _ _ (0,0) _ rfl Hx underlying302 rfl (by kernel_rfl)) rfl ⟨kF,_,_,_,_,_,_,rfl⟩
 ·obtain rfl:aW=Y:=by rw[<-HR.o];unfold kO;rw[if_neg (λh=>hB ⟨h.1,h.2.1,h.2.2.1⟩)]
  obtain⟨aX,hX⟩:∃aX,aX=_:=⟨_,rfl⟩
  obtain⟨⟨x0,x1,x2,x3⟩,⟨y0,y1,y2,y3⟩,fz,Hx,kF,qs⟩:=HA.ends (R Y 0 0) (L ⟨#[]⟩) (O aD 0) (O aE 0) aX hX.symm;obtain⟨s,aZ⟩:=c;simp only at HW ⊢
  rcases(show wj<1\/(¬wj<1/\32<wj)\/(¬wj<1/\¬32<wj/\I.wrap (3*wj)=3*wj/\I.wrap (4+3*wj)=4+3*wj/\¬(H.size:Int)=4+3*wj) by
   by_cases a1:wj<1
   ·exact aM a1
   ·by_cases a2:32<wj
    ·exact aN (aM ⟨a1,a2⟩)
    ·exact aN (aN ⟨a1,a2,w63 _ (by omega) (by omega),w63 _ (by omega) (by omega),λe=>hB ⟨by omega,by omega,e⟩⟩)) with g1|⟨g1,g2⟩|⟨g1,g2,v1,v2,g3⟩
  all_goals go_enter func176,ntmps176;go_upto_region 2 with fail;rw[<-HW.o];go_wp2;rw[<-hX];refine QK (v:=aI #[aH zP,aL false]) (Je results176 _ _ (w.heap.size+1) _ _ (0,0) _ rfl Hx underlying302 rfl (by kernel_rfl)) rfl ⟨kF,_,_,_,_,_,_,rfl⟩

theorem JdB{wj:Int}(h:kO wj H c s=Z wy):1<=wj/\wj<=32/\(H.size:Int)=4+3*wj/\Jj wj.toNat c/\jP wj.toNat (Jc c) s=Z wy/\H3 wj.toNat ((wy.nodes (H3 wj.toNat)).headD [])=H.extract (4+2*wj.toNat) H.size:=by
 unfold kO at h
 split at h
 ·rename_i hc
  cases hr:jP wj.toNat (Jc c) s with
  | none=>rw[hr]at h;cases h
  | some x=>
   rw[hr,Qu]at h
   split at h
   ·cases h
    exact⟨hc.1,hc.2.1,hc.2.2.1,(Yc _ _).1 hc.2.2.2,rfl,by assumption⟩
   ·cases h
 ·cases h
theorem JoY(hk:key.length=n+1):wy.said key=if ji wy=⟨key.toArray⟩ then Z (gE wy) else Y:=by
 rw[<-Jj8]
 by_cases h:ji wy=⟨key.toArray⟩
 ·rw[if_pos h]
  cases h2:wy.2 with
  | none=>
   exfalso;unfold ji at h;rw[h2]at h;simp only at h;have:=congrArg (λx:BA=>x.data.toList.length) h;simp at this;omega
  | some x=>rw[if_pos ⟨rfl,h⟩]
 ·rw[if_neg h,if_neg (λe=>h e.2)]
theorem Jd8(hD:DgC)(wj:Int)(nC: -9223372036854775808<=wj/\wj<9223372036854775808)(H:BA)(c:BA×Int)(hc:c.1.size<=9223372036854775807)(aY:BA)(hS:aY.size<=2000000)(w:aA):
  aB N 175 #[O I wj,L H,aH #[L c.1,O I c.2],L aY] w λe w'=>M D w w'/\e=aC (aI #[O I (Xz (kO wj H c aY.data.toList) (Jc c)).1,aH #[O aD ((Xz (kO wj H c aY.data.toList) (Jc c)).2.1:Int),O aE ((Xz (kO wj H c aY.data.toList) (Jc c)).2.2:Int)]]):=by
 obtain⟨W,hW⟩:∃W,W=(w.alloc (T #[L c.1,O I c.2] 49)).alloc (T #[O aD 0,O aE 0] 80):=⟨_,rfl⟩
 have tA:=vM hW;have gG:=kt hW;have kK:=hnn hW;have HC:J (∀V,M D W V->(V.cell? ⟨w.heap.size,0,Y⟩=Z (L c.1)/\V.cell? ⟨w.heap.size,1,Y⟩=Z (O I c.2))/\(V.cell? ⟨w.heap.size+1,0,Y⟩=Z (O aD 0)/\V.cell? ⟨w.heap.size+1,1,Y⟩=Z (O aE 0)/\∀j,V.frozen? ⟨w.heap.size+1,j,Y⟩=false)/\J (V.heap[w.heap.size+1]? =Z (T #[O aD 0,O aE 0] 80))):=λV hT=>by
  have h0:=(hT.block _ (Jb gG) (λh=>h)).trans gG;have h1:=(hT.block _ (Jb kK) (λh=>h)).trans kK;exact⟨⟨Ja h0,Ja h0⟩,⟨Ja h1,Ja h1,λj=>Qg _ _ _ _ _ h1⟩,h1⟩
 have kJ:J _:=tA;have HW:J _:=hW;have mI:J (∀V,_):=λV=>JbK hD wj nC H c hc aY hS V;obtain⟨aW,hR⟩:∃aW,kO wj H c aY.data.toList=aW:=⟨_,rfl⟩
 rw[hR]at mI ⊢;obtain⟨⟨a0,a1⟩,_⟩:=HC W (Te _ _)
 cases aW with
 | none=>
  obtain⟨s,aZ⟩:=c;simp only at HC HW mI a0 a1 ⊢;clear hR tA gG kK hW hc;go_enter func175,ntmps175;go_upto_region 1 with fail;rw[<-HW.o];go_upto_region 2 with(go_at_call 176;refine(mI _).mono ?_;rintro _ w1⟨(H5:J _),pa,pn,pc,pk,px,py,rfl⟩);have H6:J _:=H5.go (Ta _ w1 (T #[R pa pn pc,L pk,O aD px,O aE py] 302));generalize w1.alloc (T #[R pa pn pc,L pk,O aD px,O aE py] 302)=w2 at *;obtain⟨_,⟨e0,e1,fR⟩,R2⟩:=HC w2 H6.o;go_wp2;rw[set2 _ _ _ _ _ _ _ R2.o];refine QK (v:=aI #[O I 0,aH #[O aD 0,O aE 0]]) (XE results175 _ _ (w.heap.size+1) _ _ (0,0) _ rfl (show (w2.setRow (w.heap.size+1) #[O aD 0,O aE 0]).heap[w.heap.size+1]? =_ from Qi _ _ _ _ _ _ R2) underlying80 rfl (by kernel_rfl)) rfl ?_;exact⟨(kJ.go H6).trans (Ts w2 (w.heap.size+1) _) (λj hj=>aN (by omega)),rfl⟩
 | some wy=>
  obtain⟨h1,h2, -,jE, -, -⟩:=JdB hR;have js:J (∀V,_):=λV=>Zb c V jE.2.1 (by have:=jE.2.2;omega) (by have:=jE.1;omega);have ju:=Xu jE;have fj:=JoY (wy:=wy) ju;obtain⟨key,jY⟩:∃key,Jc c=key:=⟨_,rfl⟩
  rw[jY]at js fj ⊢;obtain⟨kk,rq⟩:∃kk,ji wy=kk:=⟨_,rfl⟩
  obtain⟨px,bv⟩:∃px,(gE wy).1=px:=⟨_,rfl⟩
  obtain⟨py,nB⟩:∃py,(gE wy).2=py:=⟨_,rfl⟩
  obtain⟨KB,yI⟩:∃KB:BA,⟨key.toArray⟩=KB:=⟨_,rfl⟩
  rw[rq,yI,show gE wy=(px,py) by rw[<-bv,<-nB]]at fj;rw[yI]at js;have yP:J (∀V e V',Jat wj.toNat (Z wy) V e V'->M D V V'/\∃g m,e=aC (aI #[aH #[R (Z ⟨g,0,Y⟩) m m,L kk,O aD (px:Int),O aE (py:Int)],aL true])):=λV e V' h=>by
   unfold Jat at h;simp only[rq,bv,nB]at h;obtain⟨q1,g,m,q2, -⟩:=h;exact⟨q1,g,m,q2⟩
  obtain⟨bb,mH⟩:∃bb,(kk.toList == KB.toList)=bb:=⟨_,rfl⟩
  have e:(kk.toList == KB.toList)=true↔kk=KB:=by rw[beq_iff_eq,ByteArray.toList_eq,ByteArray.toList_eq];exact⟨YN,λh=>by rw[h]⟩
  have HVT:J (Xz (Z wy) key=if bb=true then (1,(px,py)) else (2,(0,0))):=by
   show Xz _ _=_;unfold Xz;simp only;rw[fj,<-mH]
   by_cases h:kk=KB
   ·rw[if_pos h,if_pos (e.2 h)]
   ·rw[if_neg h,if_neg (λh'=>h (e.1 h'))]
  obtain⟨VT,hVT⟩:∃VT,Xz (Z wy) key=VT:=⟨_,rfl⟩
  rw[hVT]at HVT ⊢;obtain⟨s,aZ⟩:=c;simp only at HC HW mI js a0 a1 ⊢;clear hR tA gG kK hW hc ju fj jY rq bv nB yI e hVT jE;go_enter func175,ntmps175;go_upto_region 1 with fail;rw[<-HW.o];go_upto_region 2 with(go_at_call 176;refine(mI _).mono ?_;intro e1 w1 h1;obtain⟨(H5:J _),g,m,rfl⟩:=yP _ _ _ h1;clear h1);obtain⟨q,hq⟩:∃q,w1.heap.size=q:=⟨_,rfl⟩
  have H6:J _:=H5.go (Ta _ w1 (T #[R (Z ⟨g,0,Y⟩) m m,L kk,O aD (px:Int),O aE (py:Int)] 302));have zF:J ((w1.alloc (T #[R (Z ⟨g,0,Y⟩) m m,L kk,O aD (px:Int),O aE (py:Int)] 302)).heap[q]? =Z (T #[R (Z ⟨g,0,Y⟩) m m,L kk,O aD (px:Int),O aE (py:Int)] 302)):=by show _=_;rw[<-hq];exact Qf _ _
  rw[hq];generalize w1.alloc (T #[R (Z ⟨g,0,Y⟩) m m,L kk,O aD (px:Int),O aE (py:Int)] 302)=w2 at *;have pG:J (∀V,M D w2 V->_):=λV t=>(Jaf ((t.block _ (Jb zF) (λe=>e)).trans zF)).2;obtain⟨q1,q2,q3⟩:=pG w2 (Te _ _);obtain⟨⟨a0,a1⟩,_⟩:=HC w2 H6.o;go_upto_region 4 with fail;go_cut [24] (λv24 wx=>v24=aL bb/\J (M D w2 wx))
  case first=>
   go_region_held3 (λV=>V.cell? ⟨q,1,Y⟩=Z (L kk)/\V.cell? ⟨w.heap.size,0,Y⟩=Z (L s)/\V.cell? ⟨w.heap.size,1,Y⟩=Z (O I aZ)) (go_keep) ((go_at_call 105;refine(js _).mono ?_;rintro _ w3⟨rfl,Hs⟩;have Hb:J _:=(Td D w2 1).go Hs;have p1:=(pG w3 Hb).1;obtain⟨⟨b0,b1⟩,_⟩:=HC w3 (H6.go Hb);clear Hs))
   all_goals go_wp2;go_meet;exact⟨rfl,Hb⟩
  case rest=>
  obtain⟨rfl,Hb⟩:=hcut;obtain⟨w3,jw⟩:∃w3,w3=wc:=⟨wc,rfl⟩
  subst jw;obtain⟨_,q2,q3⟩:=pG w3 Hb.o;obtain⟨_,⟨e0,e1,fR⟩,R2⟩:=HC w3 (H6.go Hb);have H7:q ≠ w.heap.size+1:=λe=>by
   have hr:=(Hb.block _ (Jb zF) (λe=>e)).trans zF.o;rw[e,R2.o]at hr;simp at hr
  cases bb with
  | false=>
   go_wp2;rw[set2 _ _ _ _ _ _ _ R2.o];refine QK (v:=aI #[O I 2,aH #[O aD 0,O aE 0]]) (XE results175 _ _ (w.heap.size+1) _ _ (0,0) _ rfl (show (w3.setRow (w.heap.size+1) #[O aD 0,O aE 0]).heap[w.heap.size+1]? =_ from Qi _ _ _ _ _ _ R2) underlying80 rfl (by kernel_rfl)) rfl ?_;exact⟨(kJ.go (H6.go Hb)).trans (Ts w3 (w.heap.size+1) _) (λj hj=>aN (by omega)),by rw[HVT.o];rfl⟩
  | true=>
   go_upto_region 5 with fail;go_region
   all_goals go_wp2;rw[set2 _ _ _ _ _ _ _ R2.o];refine QK (v:=aI #[O I 1,aH #[O aD (px:Int),O aE (py:Int)]]) (XE results175 _ _ (w.heap.size+1) _ _ (0,0) _ rfl (show (w3.setRow (w.heap.size+1) #[O aD (px:Int),O aE (py:Int)]).heap[w.heap.size+1]? =_ from Qi _ _ _ _ _ _ R2) underlying80 rfl (by kernel_rfl)) rfl ?_;exact⟨((kJ.go (H6.go Hb)).trans (Ts w3 (w.heap.size+1) _) (λj hj=>aN (by omega))).go (Td _ _ 1),by rw[HVT.o];rfl⟩

theorem JhF:∀(A B:List (List UInt8))(x y:List UInt8),Ya A B=Z (x,y)->∃P:Nat,(∀i:Nat,i<P->∃t,A[i]? =Z t/\B[i]? =Z t)/\A[P]? =Z x/\B[P]? =Z y/\x ≠ y
 | [],_,_,_,h=>by simp[Ya]at h
 | _::_,[],_,_,h=>by simp[Ya]at h
 | a::A,b::B,x,y,h=>by
  unfold Ya at h
  split at h
  ·rename_i e;subst e;obtain⟨P,h1,h2,h3,h4⟩:=JhF A B x y h;refine⟨P+1,λi hi=>?_,h2,h3,h4⟩
   cases i with
   | zero=>exact⟨a,rfl,rfl⟩
   | succ i=>exact h1 i (by omega)
  ·cases h
   exact⟨0,λi hi=>absurd hi (by omega),rfl,rfl,by assumption⟩
def jr(n:Nat)(k:Key)(r1 r2:Option Wy):(BA×BA)×Bool:=match r1,r2 with
 | some w1,Z w2=>if w1.said k=w2.said k then ((⟨#[]⟩,⟨#[]⟩),false) else match Ya (w1.nodes (H3 n)) (w2.nodes (H3 n)) with
  | some (x,y)=>((⟨x.toArray⟩,⟨y.toArray⟩),true)
  | none=>((⟨#[]⟩,⟨#[]⟩),false)
 | _,_=>((⟨#[]⟩,⟨#[]⟩),false)
theorem Jij{w1 w2:Wy} :Xz (Z w1) k=Xz (Z w2) k↔w1.said k=w2.said k:=by
 unfold Xz
 cases h1:w1.said k<;>cases h2:w2.said k<;>simp[h1,h2]
theorem JeM{r:Option Wy} :(Xz r k).1=0↔r=Y:=by
 cases r with
 | none=>exact⟨λ_=>rfl,λ_=>rfl⟩
 | some wy=>
  unfold Xz
  cases h:wy.said k<;>simp[h]
theorem Jog(h:(Xz r1 k).1=0\/(Xz r2 k).1=0\/Xz r1 k=Xz r2 k):jr n k r1 r2=((⟨#[]⟩,⟨#[]⟩),false):=by
 unfold jr
 cases r1 with
 | none=>rfl
 | some w1=>
  cases r2 with
  | none=>rfl
  | some w2=>
   rcases h with h|h|h
   ·exact absurd (JeM.1 h) (by simp)
   ·exact absurd (JeM.1 h) (by simp)
   ·exact if_pos (Jij.1 h)
theorem Jk6(hD : DgC)(wj : Int)(nC : -9223372036854775808 <= wj /\ wj < 9223372036854775808)(H : BA)(c : BA × Int)(hc : c.1.size <= 9223372036854775807)(T1 T2 : BA)(sO : T1.size <= 2000000)(sP : T2.size <= 2000000)(w : aA) :
    aB N 115 #[O I wj, L H, aH #[L c.1, O I c.2], L T1, L T2] w λe w' => M (λ_ => False) w w' /\ e = aC (aI #[L (jr wj.toNat (Jc c) (kO wj H c T1.data.toList) (kO wj H c T2.data.toList)).1.1, L (jr wj.toNat (Jc c) (kO wj H c T1.data.toList) (kO wj H c T2.data.toList)).1.2, aL (jr wj.toNat (Jc c) (kO wj H c T1.data.toList) (kO wj H c T2.data.toList)).2]) := by
  obtain⟨W, (HW : J _)⟩ : ∃ W, W = w.alloc (T #[L c.1, O I c.2] 49) := ⟨_, rfl⟩;have tA : M (λ_ => False) w W := by rw[HW]; exact Ta _ _ _
  have gG : W.heap[w.heap.size]? = Z (T #[L c.1, O I c.2] 49) := by rw[HW]; exact Qf _ _
  have HC : J (∀ V, M (λ_ => False) W V -> (V.cell? ⟨w.heap.size, 0, Y⟩ = Z (L c.1) /\ V.cell? ⟨w.heap.size, 1, Y⟩ = Z (O I c.2))) := λV hT => by
    have h0 := (hT.block _ (Jb gG) (λh => h)).trans gG;exact⟨Ja h0, Ja h0⟩
  have kJ : J _ := tA;have uX : J (∀ V, _) := λV => JbK hD wj nC H c hc T1 sO V;have uY : J (∀ V, _) := λV => JbK hD wj nC H c hc T2 sP V;have vQ : J (∀ V, _) := λV => Jd8 hD wj nC H c hc T1 sO V;have gq : J (∀ V, _) := λV => Jd8 hD wj nC H c hc T2 sP V;obtain⟨R1, dn⟩ : ∃ aW, kO wj H c T1.data.toList = aW := ⟨_, rfl⟩;obtain⟨R2, et⟩ : ∃ aW, kO wj H c T2.data.toList = aW := ⟨_, rfl⟩;obtain⟨key, jY⟩ : ∃ key, Jc c = key := ⟨_, rfl⟩;rw[dn, jY]at vQ;rw[et, jY]at gq;rw[dn]at uX;rw[et]at uY;rw[dn, et, jY];obtain⟨v, oa, ob, qM⟩ : ∃ v oa ob, Xz R1 key = (v, (oa, ob)) := ⟨_, _, _, rfl⟩;obtain⟨u, qa, qb, kn⟩ : ∃ v oa ob, Xz R2 key = (v, (oa, ob)) := ⟨_, _, _, rfl⟩;rw[qM]at vQ;rw[kn]at gq;obtain⟨a0, a1⟩ := HC W (Te _ _);obtain⟨XR, (ey : J _)⟩ : ∃ XR, jr wj.toNat key R1 R2 = XR := ⟨_, rfl⟩;rw[ey];have xX : J (Xz R1 key = (v, (oa, ob)) /\ Xz R2 key = (u, (qa, qb))) := ⟨qM, kn⟩;have qu : J (kO wj H c T1.data.toList = R1 /\ kO wj H c T2.data.toList = R2 /\ Jc c = key) := ⟨dn, et, jY⟩;obtain⟨s, aZ⟩ := c;simp only at HC HW vQ gq uX uY qu a0 a1 ⊢;clear qM kn jY dn et tA gG hc;go_enter func115, ntmps115;go_upto_region 1 with fail;rw[<- HW.o];go_upto_region 2 with(go_at_call 175; refine(vQ _).mono ?_; rintro _ w1⟨(H5 : J _), rfl⟩);obtain⟨p1, Hy⟩ : ∃ p, w1.heap.size = p := ⟨_, rfl⟩;have H6 : J _ := H5.go (Ta _ w1 (T #[O aD (oa : Int), O aE (ob : Int)] 80));have Hx : J ((w1.alloc (T #[O aD (oa : Int), O aE (ob : Int)] 80)).heap[p1]? = Z (T #[O aD (oa : Int), O aE (ob : Int)] 80)) := by show _ = _; rw[<- Hy]; exact Qf _ _
  rw[Hy];generalize w1.alloc (T #[O aD (oa : Int), O aE (ob : Int)] 80) = w2 at *;obtain⟨a0, a1⟩ := HC w2 H6.o;go_upto_region 3 with(go_at_call 175; refine(gq _).mono ?_; rintro _ w3⟨(Hb : J _), rfl⟩);obtain⟨p2, kV⟩ : ∃ p, w3.heap.size = p := ⟨_, rfl⟩;have Hm : J _ := Hb.go (Ta _ w3 (T #[O aD (qa : Int), O aE (qb : Int)] 80));have kF : J ((w3.alloc (T #[O aD (qa : Int), O aE (qb : Int)] 80)).heap[p2]? = Z (T #[O aD (qa : Int), O aE (qb : Int)] 80)) := by show _ = _; rw[<- kV]; exact Qf _ _
  rw[kV];generalize w3.alloc (T #[O aD (qa : Int), O aE (qb : Int)] 80) = w4 at *;obtain⟨a0, a1⟩ := HC w4 (H6.go Hm);have eC := (Hm.block _ (Jb Hx) (λe => e)).trans Hx.o;obtain⟨b0, b1⟩ := rows eC;obtain⟨b2, b3⟩ := rows kF.o;have kI : J _ := kJ.go (H6.go Hm);go_cut [53] (λv53 wx => wx = w4 /\ ((v53 = aL true /\ J (v = 0 \/ u = 0 \/ (v, (oa, ob)) = (u, (qa, qb)))) \/ (v53 = aL false /\ J (¬ (v = 0 \/ u = 0 \/ (v, (oa, ob)) = (u, (qa, qb)))))))
  case first =>
   by_cases kt : v = 0 \/ u = 0 \/ (v, (oa, ob)) = (u, (qa, qb))
   · have uF : J _ := kt
     rcases(show (v == 0) = true \/ ((v == 0) = false /\ (u == 0) = true) \/ ((v == 0) = false /\ (u == 0) = false /\ v = u /\ oa = qa /\ ob = qb) by
       by_cases e1 : v = 0
       · exact aM (beq_iff_eq.2 e1)
       · by_cases e2 : u = 0
         · exact aN (aM ⟨beq_eq_false_iff_ne.2 e1, beq_iff_eq.2 e2⟩)
         · rcases kt with h|h|h
           · exact absurd h e1
           · exact absurd h e2
           · cases h; exact aN (aN ⟨beq_eq_false_iff_ne.2 e1, beq_eq_false_iff_ne.2 e2, rfl, rfl, rfl⟩)) with g1|⟨g1, g2⟩|⟨g1, g2, g3, g4, g5⟩
     all_goals
       try subst g3 g4 g5
       go_wp2;go_meet;exact⟨rfl, aM ⟨by first|rfl|simp, uF⟩⟩
   · have uF : J _ := kt
     have g1 := beq_eq_false_iff_ne.2 (λe => kt (aM e));have g2 := beq_eq_false_iff_ne.2 (λe => kt (aN (aM e)))
     rcases(show (v == u) = false \/ (v = u /\ ¬ (oa : Int) = (qa : Int)) \/ (v = u /\ oa = qa /\ ¬ (ob : Int) = (qb : Int)) by
       by_cases e1 : v = u
       · by_cases e2 : oa = qa
         · exact aN (aN ⟨e1, e2, λe3 => uF (aN (aN (by rw[e1, e2, show ob = qb by omega])))⟩)
         · exact aN (aM ⟨e1, by omega⟩)
       · exact aM (beq_eq_false_iff_ne.2 e1)) with g3|⟨g3, g4⟩|⟨g3, g4, g5⟩
     all_goals
       try subst g3
       try subst g4
       go_wp2;go_meet;exact⟨rfl, aN ⟨rfl, uF⟩⟩
  case rest =>
  obtain⟨rfl, ⟨rfl, uF⟩|⟨rfl, uF⟩⟩ := hcut
  · obtain rfl : XR = ((⟨#[]⟩, ⟨#[]⟩), false) := by rw[<- ey.o]; exact Jog (by rw[xX.o.1, xX.o.2]; exact uF)
    go_wp2;refine QK (v := aI #[L ⟨#[]⟩, L ⟨#[]⟩, aL false]) (results_tmp3 results115 _ _ _) rfl ⟨kI, rfl⟩
  · clear b0 b1 b2 b3
    cases R1 with
    | none => exact absurd (aM (congrArg lR xX.1).symm) uF.o
    | some w1 =>
    cases R2 with
    | none => exact absurd (aN (aM (congrArg lR xX.2).symm)) uF.o
    | some w2 =>
    obtain⟨c1, c2, c3, jE, c5, c6⟩ := JdB qu.1;obtain⟨-, -, -, -, d5, d6⟩ := JdB qu.2.1;rw[qu.o.2.2]at c5 d5;obtain⟨n, hn⟩ : ∃ n, wj.toNat = n := ⟨_, rfl⟩;rw[hn]at c5 c6 d5 d6 jE ey uX uY;have jx : n <= 32 := by omega
    have ju : key.length = n + 1 := by rw[<- qu.o.2.2]; exact Xu jE
    have qL := Jbb ju jx ((JaQ jx).2 ⟨c5, c6⟩);have gS := Jbb ju jx ((JaQ jx).2 ⟨d5, d6⟩);have ye : ¬ w1.said key = w2.said key := λe => uF (aN (aN (by rw[<- xX.o.1, <- xX.o.2]; exact Jij.2 e)));obtain⟨x, y, qq, (bK : J _), -⟩ := Wy.sound (H3 n) n (Jk n jx) key _ w1 w2 qL.1 gS.1 (λz hz => (qL.2.key z hz).2.2) (λz hz => (gS.2.key z hz).2.2) ye;obtain⟨P, hP1, iA, hP3, -⟩ := JhF _ _ _ _ qq;have vy : J (XR = ((⟨x.toArray⟩, ⟨y.toArray⟩), true)) := by
      show XR = _;rw[<- ey.o];unfold jr;simp only;rw[if_neg ye, qq]
    have iB : J ((∀ i : Nat, i < P -> ∃ t, (w1.nodes (H3 n))[i]? = Z t /\ (w2.nodes (H3 n))[i]? = Z t) /\ (w1.nodes (H3 n))[P]? = Z x /\ (w2.nodes (H3 n))[P]? = Z y) := ⟨hP1, iA, hP3⟩;have uj : J (P < w1.1.length + 1 /\ P < w2.1.length + 1) := by
      have l1 := (Qo.1 iA).1;have l2 := (Qo.1 hP3).1;unfold Wy.nodes at l1 l2;rw[JZ]at l1 l2;exact⟨l1, l2⟩
    have xJ : J (w1.1.length <= 1000 /\ w2.1.length <= 1000) := ⟨by have := qL.2.len; omega, by have := gS.2.len; omega⟩;clear c1 c2 c3 jE c5 c6 d5 d6 qL gS ye qq hP1 iA hP3 ju hn ey xX uF qu;have yP : J (∀ (wy : Wy) V e V', Jat n (Z wy) V e V' -> M (λ_ => False) V V' /\ ∃ (g m : Nat) (k : BA) (a b : Nat), e = aC (aI #[aH #[R (Z ⟨g, 0, Y⟩) m m, L k, O aD (a : Int), O aE (b : Int)], aL true]) /\ wy.1.length + 1 = m /\ g < V'.heap.size /\ ∀ (j : Nat) t, (wy.nodes (H3 n))[j]? = Z t -> V'.cell? ⟨g, j, Y⟩ = Z (L ⟨t.toArray⟩)) := λwy V e V' h => by
      obtain⟨q1, g, m, q2, q3⟩ := h;exact⟨q1, g, m, _, _, _, q2, q3⟩
    go_upto_region 6 with(go_at_call 176; refine(uX _).mono ?_; intro e5 w5 h5; obtain⟨(kD : J _), ga, ma, ka, xa, ya, rfl, hm5, iC, hc5⟩ := yP _ _ _ _ h5; have HN5 : J (w1.1.length + 1 = ma /\ ga < w5.heap.size /\ ∀ (j : Nat) t, (w1.nodes (H3 n))[j]? = Z t -> w5.cell? ⟨ga, j, Y⟩ = Z (L ⟨t.toArray⟩)) := ⟨hm5, iC, hc5⟩; clear h5 hm5 iC hc5);obtain⟨qa1, iD⟩ : ∃ q, w5.heap.size = q := ⟨_, rfl⟩;have qF : J ((w5.alloc (T #[R (Z ⟨ga, 0, Y⟩) ma ma, L ka, O aD (xa : Int), O aE (ya : Int)] 302)).heap[qa1]? = Z (T #[R (Z ⟨ga, 0, Y⟩) ma ma, L ka, O aD (xa : Int), O aE (ya : Int)] 302)) := by show _ = _; rw[<- iD]; exact Qf _ _
    have kz : J (M (λ_ => False) w5 (w5.alloc (T #[R (Z ⟨ga, 0, Y⟩) ma ma, L ka, O aD (xa : Int), O aE (ya : Int)] 302))) := Ta _ _ _;rw[iD];generalize w5.alloc (T #[R (Z ⟨ga, 0, Y⟩) ma ma, L ka, O aD (xa : Int), O aE (ya : Int)] 302) = w6 at *;obtain⟨a0, a1⟩ := HC w6 ((H6.go Hm).go (kD.go kz));go_upto_region 7 with(go_at_call 176; refine(uY _).mono ?_; intro e7 w7 h7; obtain⟨(gx : J _), gb, mb, kb, xb, yb, rfl, hm7, ft, hc7⟩ := yP _ _ _ _ h7; have HN7 : J (w2.1.length + 1 = mb /\ gb < w7.heap.size /\ ∀ (j : Nat) t, (w2.nodes (H3 n))[j]? = Z t -> w7.cell? ⟨gb, j, Y⟩ = Z (L ⟨t.toArray⟩)) := ⟨hm7, ft, hc7⟩; clear h7 hm7 ft hc7);obtain⟨qb1, iE⟩ : ∃ q, w7.heap.size = q := ⟨_, rfl⟩;have uM : J ((w7.alloc (T #[R (Z ⟨gb, 0, Y⟩) mb mb, L kb, O aD (xb : Int), O aE (yb : Int)] 302)).heap[qb1]? = Z (T #[R (Z ⟨gb, 0, Y⟩) mb mb, L kb, O aD (xb : Int), O aE (yb : Int)] 302)) := by show _ = _; rw[<- iE]; exact Qf _ _
    have gW : J (M (λ_ => False) w7 (w7.alloc (T #[R (Z ⟨gb, 0, Y⟩) mb mb, L kb, O aD (xb : Int), O aE (yb : Int)] 302))) := Ta _ _ _;rw[iE];generalize w7.alloc (T #[R (Z ⟨gb, 0, Y⟩) mb mb, L kb, O aD (xb : Int), O aE (yb : Int)] 302) = w8 at *;have qJ : J (∀ V, M (λ_ => False) w8 V -> (V.cell? ⟨qa1, 0, Y⟩ = Z (R (Z ⟨ga, 0, Y⟩) ma ma) /\ V.cell? ⟨qb1, 0, Y⟩ = Z (R (Z ⟨gb, 0, Y⟩) mb mb)) /\ ∀ (j : Nat) t t', (w1.nodes (H3 n))[j]? = Z t -> (w2.nodes (H3 n))[j]? = Z t' -> V.cell? ⟨ga, j, Y⟩ = Z (L ⟨t.toArray⟩) /\ V.cell? ⟨gb, j, Y⟩ = Z (L ⟨t'.toArray⟩)) := λV hV => by
      have t6 := gx.o.go (gW.go hV);have r6 := (t6.block _ (Jb qF) (λe => e)).trans qF.o;have r8 := (hV.block _ (Jb uM) (λe => e)).trans uM.o;refine⟨⟨(Jaf r6).1, (Jaf r8).1⟩, λj t t' h1 h2 => ⟨?_, ?_⟩⟩
      · exact((kz.go t6).cell (p := ⟨ga, j, Y⟩) HN5.2.1 (λe => e)).trans (HN5.2.2 j t h1)
      · exact((gW.go hV).cell (p := ⟨gb, j, Y⟩) HN7.2.1 (λe => e)).trans (HN7.2.2 j t' h2)
    have iF : J _ := kI.go (kD.go (kz.go (gx.go gW)));have hma : P < ma := by have := uj.o.1; have := HN5.o.1; omega
    have hmb : P < mb := by have := uj.o.2; have := HN7.o.1; omega
    have hPP : P <= 1000 := by have := uj.o.1; have := xJ.o.1; omega
    go_wp2;go_loopw [21] (λv21 wr => ∃ i : Nat, v21 = O I (i : Int) /\ i <= P /\ J (M (λ_ => False) w8 wr)) (λv21 _ => P-(intOf v21).toNat)
    case atStart => exact⟨0, rfl, lQ _, Te _ _⟩
    case round =>
      obtain⟨i, rfl, hi, pH⟩ := hrel;obtain⟨⟨f0, f1⟩, dt⟩ := qJ wr pH.o;have i1 : (i : Int) < (ma : Int) := by omega
      have i2 : (i : Int) < (mb : Int) := by omega
      have i0 : (0 : Int) <= (i : Int) := by omega
      have wi := w63 _ (by omega) (by omega)
      by_cases H7 : i < P
      · obtain⟨t, h1, h2⟩ := iB.1 i H7
        obtain⟨f2, f3⟩ := dt i t t h1 h2;go_upto_region 8 with fail;go_region_held3 (λV => V.cell? ⟨qa1, 0, Y⟩ = Z (R (Z ⟨ga, 0, Y⟩) ma ma) /\ V.cell? ⟨qb1, 0, Y⟩ = Z (R (Z ⟨gb, 0, Y⟩) mb mb) /\ V.cell? ⟨ga, i, Y⟩ = Z (L ⟨t.toArray⟩) /\ V.cell? ⟨gb, i, Y⟩ = Z (L ⟨t.toArray⟩)) (go_keep) (fail)
        all_goals
          go_wp2;go_roundw
          case rel => exact⟨i + 1, by go_num, by omega, pH.go (Td _ _ 1)⟩
          case measure => simp[intOf]; omega
      · obtain rfl : i = P := by omega
        obtain⟨f2, f3⟩ := dt i x y iB.2.1 iB.2.2;have hxb : ((⟨x.toArray⟩ : BA).toList == (⟨y.toArray⟩ : BA).toList) = false := by
          rw[beq_eq_false_iff_ne, ByteArray.toList_eq, ByteArray.toList_eq];exact bK.o
        obtain⟨XB, hXB⟩ : ∃ XB : BA, ⟨x.toArray⟩ = XB := ⟨_, rfl⟩;obtain⟨YB, hYB⟩ : ∃ YB : BA, ⟨y.toArray⟩ = YB := ⟨_, rfl⟩;rw[hXB]at f2;rw[hYB]at f3;rw[hXB, hYB]at hxb vy;go_upto_region 8 with fail;go_cut [80] (λv80 wx => v80 = aL false /\ J (M (λ_ => False) wr wx))
        case first =>
          go_region_held3 (λV => V.cell? ⟨qa1, 0, Y⟩ = Z (R (Z ⟨ga, 0, Y⟩) ma ma) /\ V.cell? ⟨qb1, 0, Y⟩ = Z (R (Z ⟨gb, 0, Y⟩) mb mb) /\ V.cell? ⟨ga, i, Y⟩ = Z (L XB) /\ V.cell? ⟨gb, i, Y⟩ = Z (L YB)) (go_keep) (fail)
          all_goals go_wp2;go_meet;exact⟨rfl, Td _ _ 1⟩
        case rest =>
        obtain⟨rfl, HTS⟩ := hcut;obtain⟨w9, eM⟩ : ∃ w9, w9 = wc := ⟨_, rfl⟩;subst eM;obtain⟨⟨f0, f1⟩, dt⟩ := qJ w9 (pH.go HTS);obtain⟨f2, f3⟩ := dt i x y iB.2.1 iB.2.2;rw[hXB]at f2;rw[hYB]at f3;go_upto_region 10 with fail;go_region_held3 (λV => V.cell? ⟨qa1, 0, Y⟩ = Z (R (Z ⟨ga, 0, Y⟩) ma ma) /\ V.cell? ⟨qb1, 0, Y⟩ = Z (R (Z ⟨gb, 0, Y⟩) mb mb) /\ V.cell? ⟨ga, i, Y⟩ = Z (L XB) /\ V.cell? ⟨gb, i, Y⟩ = Z (L YB)) (go_keep) (fail)
        all_goals go_wp2;refine QK (v := aI #[L XB, L YB, aL true]) (results_tmp3 results115 _ _ _) rfl ⟨(iF.go (pH.go HTS)).go (Td _ _ 1), by rw[vy.o]⟩

theorem Jmo(H:List UInt8)(hl:H.length=4+3*wj):∃h:HdL,HdOk wj h/\Ht h=H/\h.2.2.2=⟨(H.drop (4+2*wj)).toArray⟩:=by
 refine⟨(kC (H.take 4),⟨((H.drop 4).take wj).toArray⟩,⟨((H.drop (4+wj)).take wj).toArray⟩,⟨(H.drop (4+2*wj)).toArray⟩),⟨?_,?_,?_,?_⟩,?_,rfl⟩
 ·have:=Yt (H.take 4);rw[QB,Nat.min_eq_left (by omega)]at this;exact this
 ·show (⟨((H.drop 4).take wj).toArray⟩:BA).size=_;rw[Ji,QB,lI];omega
 ·show (⟨((H.drop (4+wj)).take wj).toArray⟩:BA).size=_;rw[Ji,QB,lI];omega
 ·show (⟨(H.drop (4+2*wj)).toArray⟩:BA).size=_;rw[Ji,lI];omega
 ·unfold Ht;simp only;rw[ZD _ 4 (by rw[QB];omega)];have e1:H.drop (4+2*wj)=(H.drop (4+wj)).drop wj:=by rw[List.drop_drop];congr 1;omega
  have e2:H.drop (4+wj)=(H.drop 4).drop wj:=by rw[List.drop_drop]
  rw[e1,lM,e2,lM,lM]
theorem JpP{z y:HdL}{q r:List UInt8}{p:PS}(h:(PS.rd q r).hdr wj z=Z (y,p)):∃q',p=.rd q' (r.drop (4+3*wj))/\4+3*wj<=r.length:=by
 unfold PS.hdr at h;simp only[PS.num]at h
 split at h
 ·cases h
 ·rename_i n p1 h1
  split at h1
  ·rename_i k1;simp only[Qh,Qw]at h1;obtain⟨rfl,rfl⟩:=h1;simp only[PS.txt]at h
   split at h
   ·cases h
   ·rename_i t1 p2 h2
    split at h2
    ·rename_i k2;simp only[Qh,Qw]at h2;obtain⟨rfl,rfl⟩:=h2;dsimp only at h
     split at h
     ·cases h
     ·rename_i t2 p3 h3
      split at h3
      ·rename_i k3;simp only[Qh,Qw]at h3;obtain⟨rfl,rfl⟩:=h3;dsimp only at h
       split at h
       ·cases h
       ·rename_i t3 p4 h4
        split at h4
        ·rename_i k4;simp only[Qh,Qw]at h4;obtain⟨rfl,rfl⟩:=h4;simp only[Qh,Qw]at h;obtain⟨-,rfl⟩:=h;simp only[lI]at k4;have e:(((r.drop 4).drop wj).drop wj).drop wj=r.drop (4+3*wj):=by
          simp only[List.drop_drop]
          congr 1
          omega
         rw[<-e];exact⟨_,rfl,by omega⟩
        ·cases h4
      ·cases h3
    ·cases h2
  ·cases h1
theorem Jh7(E:Nat->Addr)(wj:Nat)(hw:wj<=32)(H:BA)(hH:H.size<=1100000)(hl:H.size ≠ 4+3*wj)(w:aA)(hE:Env E w):
  aB N 212 #[O I (wj:Int),L H] w λe w'=>M D w w'/\∃sx t u,e=aC (aI #[L sx,aJ t u]):=by
 have Hp:=hE.size;obtain⟨aW,hR⟩:∃aW,aW=(ZM wj (0,⟨#[]⟩,⟨#[]⟩,⟨#[]⟩) (Z (.rd [] H.data.toList))).2:=⟨_,rfl⟩
 have hLn:H.data.toList.length=H.size:=by rw[QA];rfl
 have a7:∀p,aW=Z p->∃q,p=.rd q (H.data.toList.drop (4+3*wj))/\4+3*wj<=H.data.toList.length:=λp hp=>by
  cases hh:(PS.rd [] H.data.toList).hdr wj (0,⟨#[]⟩,⟨#[]⟩,⟨#[]⟩) with
  | none=>rw[hR,Jex _ _ _ hh]at hp;cases hp
  | some x=>
   obtain⟨y,p2⟩:=x;rw[hR,(JbN _ _ _ _ _ hh).1]at hp
   cases hp
   exact JpP hh
 have Hl:∀q,aW ≠ Z (.rd q []):=λq hq=>by
  obtain⟨q',e1,e2⟩:=a7 _ hq;have e3:H.data.toList.drop (4+3*wj)=[]:=by simp only[PS.of.injEq,Sum.inl.injEq,Qw]at e1;exact e1.2.symm
  have:=congrArg List.length e3;rw[lI]at this;simp only[Qv]at this;omega
 have zw:J (∀W,M D w W->Jd W w.heap.size Y (wj:Int) aK (.rd [] H.data.toList)->aB N 86 #[X (Z ⟨w.heap.size,0,Y⟩),aH #[O aD 0,L ⟨#[]⟩,L ⟨#[]⟩,L ⟨#[]⟩]] W λe w'=>∃n s1 s2 s3 g',e=aC (aH #[O aD n,L s1,L s2,L s3])/\Jg E w' w.heap.size g' (wj:Int) aW/\M (λk=>k=w.heap.size) W w'):=λW hT hp=>by
  refine(Jfn E w.heap.size (by omega) Y wj 0 ⟨#[]⟩ ⟨#[]⟩ ⟨#[]⟩ (Z (.rd [] H.data.toList)) W (hE.tch hT noE) hp (by simp only[JP,PS.len,Qv];omega)).mono ?_;rintro e w'⟨rfl,g',h1,_,h3⟩;rw[<-hR]at h1;exact⟨_,_,_,_,g',rfl,h1,h3.mono (λj hj=>aM (by rcases hj with h|h;exact h;cases h))⟩
 have tQ:J (∀W g',M D w W->Jg E W w.heap.size g' (wj:Int) aW->aB N 88 #[X (Z ⟨w.heap.size,0,Y⟩)] W λe w'=>M D W w'/\∃t u,e=aC (aJ t u)):=λW g' hT hp=>
  JfE E w.heap.size wj aW (λp hp=>by obtain⟨q,e,_⟩:=a7 p hp;exact⟨_,_,e⟩) Hl W (hE.tch hT noE) g' hp
 clear hE a7 Hl hLn hR Hp hl;go_enter func212,ntmps212;go_wp2_with fail;refine(XT _ _ _).mono ?_;rintro _ w1⟨rfl,Hy,H9⟩;have H5:J (M D w w1):=H9;have Hx:J (Jd w1 w.heap.size Y (wj:Int) aK (.rd [] H.data.toList)):=Hy;clear H9 Hy;go_wp2_with fail;refine(zw.o w1 H5.o Hx.o).mono ?_;rintro _ w2⟨n,s1,s2,s3,g',rfl,kV,Ha⟩;obtain⟨W3,(jv:J _)⟩:∃W3,W3=w2.alloc (T #[O aD n,L s1,L s2,L s3] 167):=⟨_,rfl⟩
 have hA:M D w2 W3:=by rw[jv];exact Ta _ _ _
 have H6:J _:=(H5.trans Ha (λj hj=>aN (Nat.le_of_eq hj.symm))).go hA;have kF:J (Jg E W3 w.heap.size g' (wj:Int) aW):=kV.next hA;have k8:W3.heap[w2.heap.size]? =Z (T #[O aD n,L s1,L s2,L s3] 167):=by rw[jv];exact Qf _ _
 obtain⟨-, -, -,c3⟩:=rows k8;have C3:J (W3.heap[w2.heap.size]? =_):=k8;clear kV Ha zw Hx H5 hA k8;go_upto_region 3 with fail;rw[<-jv.o];have HC:J (∀W,M D W3 W->W.cell? ⟨w2.heap.size,3,Y⟩=Z (L s3)):=λW hT=>Ja ((hT.block _ (Jb C3.out) (λh=>h)).trans C3.out);go_region_with (go_at_call 88;refine(tQ.o _ g' (H6.o.go (Td _ _ 1)) (kF.o.next (Td _ _ 1))).mono ?_;rintro _ w4⟨Hu,t,u,rfl⟩;have Hm:J (M D W3 w4):=(Td D W3 1).go Hu;have c4:=HC.o _ Hm.o;clear Hu)
 all_goals go_wp2;go_ret2;exact⟨H6.o.go Hm.o,_,_,_,rfl⟩

theorem Joc(hr: -9223372036854775808<=c.2/\c.2<9223372036854775808)(h:¬Jj wj c):(PS.wr []).coin wj c=Y:=by
 unfold PS.coin;simp only[PS.txt]
 by_cases h1:c.1.data.toList.length=wj
 ·rw[if_pos h1];simp only[PS.num]
  split
  ·rfl
  ·rename_i m p2 h2
   split at h2
   ·rename_i h3;simp only[Qh,Qw]at h2;obtain⟨rfl, -⟩:=h2;rw[if_neg];intro h4;apply h;have hs:c.1.size=wj:=(by rw[<-h1,QA];rfl);unfold JD at h4;exact⟨hs,by omega,by omega⟩
   ·cases h2
 ·rw[if_neg h1]
theorem Jfp(E:Nat->Addr)(wj:Nat)(hw:wj<=32)(c:BA×Int)(hr: -9223372036854775808<=c.2/\c.2<9223372036854775808)(h:¬Jj wj c)(w:aA)(hE:Env E w):
  aB N 145 #[O I (wj:Int),aH #[L c.1,O I c.2]] w λe w'=>M D w w'/\∃t u,e=aC (aI #[L ⟨#[]⟩,aJ t u])/\Jn E 7 w' (aJ t u):=by
 refine(JdR E wj (by omega) c w hE).mono ?_;intro e w' h1;rw[Jdb _ _ _ (Joc hr h)]at h1;exact h1
theorem JlV(E:Nat->Addr)(wj:Int)(H:BA)(hH:H.size<=1100000)(c:BA×Int)(hr: -9223372036854775808<=c.2/\c.2<9223372036854775808)(kt:¬(1<=wj/\wj<=32/\(H.size:Int)=4+3*wj/\Jj wj.toNat c))(w:aA)(hE:Env E w):
  aB N 143 #[O I wj,L H,aH #[L c.1,O I c.2]] w λe w'=>M D w w'/\∃t u,e=aC (aI #[aH #[O I 0,L ⟨#[]⟩,L ⟨#[]⟩],aJ t u]):=by
 have HE:J _:=hE;obtain⟨W,(HW:J _)⟩:∃W,W=(w.alloc (T #[L c.1,O I c.2] 49)).alloc (T #[O I 0,L ⟨#[]⟩,L ⟨#[]⟩] 248):=⟨_,rfl⟩
 have hA:M D w W:=by rw[HW];exact M.allocs _ _ _ _
 have gG:W.heap[w.heap.size]? =Z (T #[L c.1,O I c.2] 49):=by rw[HW];exact heap_alloc2_old _ _ _
 have kK:W.heap[w.heap.size+1]? =Z (T #[O I 0,L ⟨#[]⟩,L ⟨#[]⟩] 248):=by rw[HW];exact heap_alloc2_new _ _ _
 have HB:J (∀V,M D W V->(V.cell? ⟨w.heap.size,0,Y⟩=Z (L c.1)/\V.cell? ⟨w.heap.size,1,Y⟩=Z (O I c.2))/\(V.cell? ⟨w.heap.size+1,0,Y⟩=Z (O I 0)/\V.cell? ⟨w.heap.size+1,1,Y⟩=Z (L ⟨#[]⟩)/\V.cell? ⟨w.heap.size+1,2,Y⟩=Z (L ⟨#[]⟩)/\∀j,V.frozen? ⟨w.heap.size+1,j,Y⟩=false)/\J (V.heap[w.heap.size+1]? =Z (T #[O I 0,L ⟨#[]⟩,L ⟨#[]⟩] 248))):=λV hT=>by
  have h0:=(hT.block _ (Jb gG) (λh=>h)).trans gG;have h1:=(hT.block _ (Jb kK) (λh=>h)).trans kK;exact⟨⟨Ja h0,Ja h0⟩,⟨Ja h1,Ja h1,Ja h1,λj=>Qg _ _ _ _ _ h1⟩,h1⟩
 have HA:J _:=hA;clear hA gG kK
 by_cases hw:1<=wj/\wj<=32
 ·obtain⟨n,rfl⟩:=lC (show 0<=wj by omega);rw[lD]at kt;have xw:1<=n:=by omega
  have jx:n<=32:=by omega
  have tj:J (∀W,_):=λW=>Yn n W xw jx
  by_cases hl:H.size=4+3*n
  ·obtain⟨hd,zr,xe, -⟩:=Jmo (wj:=n) H.data.toList (by rw[QA];exact hl);have hHe:H=⟨(Ht hd).toArray⟩:=YN xe.symm;have jW:J (∀W,M D w W->_):=λW hT=>JeD E n jx hd zr W (hE.tch hT noE);rw[<-hHe]at jW;have HK:J (∀W,M D w W->_):=λW hT=>Jfp E n jx c hr (λh=>kt ⟨by omega,by omega,by omega,h⟩) W (hE.tch hT noE);generalize hd.2.2.2=st at *;obtain⟨s,aZ⟩:=c;dsimp only at HK HB HW ⊢;clear hE kt hr hl hHe zr xe hH hw;go_enter func143,ntmps143;go_upto_region 1 with fail;rw[<-HW.o];go_wp2_with fail;refine(tj W).mono ?_;rintro _ w1⟨rfl,rfl⟩;go_wp2_with fail;refine(jW W HA).mono ?_;rintro _ w2⟨rfl,Ha⟩;have H6:J _:=Ha;obtain⟨⟨c0,c1⟩,_⟩:=HB w2 Ha;go_wp2_with fail;refine(HK w2 (HA.go H6)).mono ?_;rintro _ w3⟨Hs,t,u,rfl, -⟩;have Hb:J _:=H6.go Hs;go_wp2_with (go_at_call 80;refine(Xk _ _ _ _).mono ?_;rintro _ w4⟨rfl,qy⟩;have Hm:J (M D W w4):=Hb.go (by rw[qy];exact Ta _ _ _);obtain⟨_,⟨r0,r1,r2,fR⟩,R3⟩:=HB w4 Hm.o;clear qy);rw[set3 _ _ _ _ _ _ _ _ _ R3.o];refine QK (v:=aI #[aH #[O I 0,L ⟨#[]⟩,L ⟨#[]⟩],aJ _ _]) (Je results143 _ _ (w.heap.size+1) _ _ (0,0) _ rfl (Qi _ _ _ _ _ _ R3) underlying248 rfl (by kernel_rfl)) rfl ⟨(HA.go Hm).trans (Ts _ _ _) (λj hj=>aN (by omega)),_,_,rfl⟩
  ·have jW:J (∀W,M D w W->_):=λW hT=>Jh7 E n jx H hH hl W (hE.tch hT noE);obtain⟨s,aZ⟩:=c;dsimp only at HB HW ⊢;go_enter func143,ntmps143;go_upto_region 1 with fail;rw[<-HW.o];go_wp2_with fail;refine(tj W).mono ?_;rintro _ w1⟨rfl,rfl⟩;go_wp2_with fail;refine(jW W HA).mono ?_;rintro _ w2⟨(Hb:J _),sx,t,u,rfl⟩;go_wp2_with (go_at_call 80;refine(Xk _ _ _ _).mono ?_;rintro _ w4⟨rfl,qy⟩;have Hm:J (M D W w4):=Hb.go (by rw[qy];exact Ta _ _ _);obtain⟨_,⟨r0,r1,r2,fR⟩,R3⟩:=HB w4 Hm.o;clear qy);rw[set3 _ _ _ _ _ _ _ _ _ R3.o];refine QK (v:=aI #[aH #[O I 0,L ⟨#[]⟩,L ⟨#[]⟩],aJ _ _]) (Je results143 _ _ (w.heap.size+1) _ _ (0,0) _ rfl (Qi _ _ _ _ _ _ R3) underlying248 rfl (by kernel_rfl)) rfl ⟨(HA.go Hm).trans (Ts _ _ _) (λj hj=>aN (by omega)),_,_,rfl⟩
 ·have tj:J (∀W,M D w W->_):=λW hT=>ZW E wj W (hE.tch hT noE) hw;obtain⟨s,aZ⟩:=c;dsimp only at HB HW ⊢;go_enter func143,ntmps143;go_upto_region 1 with fail;rw[<-HW.o];go_wp2_with fail;refine(tj W HA).mono ?_;rintro _ w4⟨⟨t,u,rfl, -⟩,Hu⟩;have Hm:J _:=Hu;obtain⟨_,⟨r0,r1,r2,fR⟩,R3⟩:=HB w4 Hu;go_wp2;rw[set3 _ _ _ _ _ _ _ _ _ R3.o];refine QK (v:=aI #[aH #[O I 0,L ⟨#[]⟩,L ⟨#[]⟩],aJ t u]) (Je results143 _ _ (w.heap.size+1) _ _ (0,0) _ rfl (Qi _ _ _ _ _ _ R3) underlying248 rfl (by kernel_rfl)) rfl ⟨(HA.go Hm).trans (Ts _ _ _) (λj hj=>aN (by omega)),_,_,rfl⟩

theorem Jii(E:Nat->Addr)(wj:Int)(H:BA)(hH:H.size<=1100000)(c:BA×Int)(hr: -9223372036854775808<=c.2/\c.2<9223372036854775808)(kt:¬(1<=wj/\wj<=32/\(H.size:Int)=4+3*wj/\Jj wj.toNat c))(pf:BA)(w:aA)(hE:Env E w):
  aB N 47 #[O I wj,L H,aH #[L c.1,O I c.2],L pf] w λe w'=>M D w w'/\e=aC (aI #[O I 0,aH #[O aD 0,O aE 0]]):=by
 refine JdN wj H pf c (λw0 vt=>?_);have gY:J (∀W,M D w0 W->_):=λW hT=>JlV E wj H hH c hr kt W (hE.tch (vt.go hT) noE);obtain⟨s,aZ⟩:=c;dsimp only at gY ⊢;obtain⟨W,(HW:J _)⟩:∃W,W=(w0.alloc (T #[L s,O I aZ] 49)).alloc (T #[O I 0,O aD 0,O aE 0] 179):=⟨_,rfl⟩
 have tA:M D w0 W:=by rw[HW];exact M.allocs _ _ _ _
 have gG:W.heap[w0.heap.size]? =Z (T #[L s,O I aZ] 49):=by rw[HW];exact heap_alloc2_old _ _ _
 have kK:W.heap[w0.heap.size+1]? =Z (T #[O I 0,O aD 0,O aE 0] 179):=by rw[HW];exact heap_alloc2_new _ _ _
 obtain⟨a0,a1⟩:=rows gG;have qu:J (∀V,M D W V->_):=λV hT=>(hT.block _ (Jb kK) (λh=>h)).trans kK;have HA:J _:=tA;clear tA gG kK hE kt hr hH vt;go_enter func91,ntmps91;go_upto_region 1 with fail;rw[<-HW.o];go_wp2_with fail;refine(gY W HA).mono ?_;rintro _ w1⟨H9,t,u,rfl⟩;obtain⟨W2,qW⟩:∃W2,W2=w1.alloc (T #[O I 0,L ⟨#[]⟩,L ⟨#[]⟩] 248):=⟨_,rfl⟩
 have H6:J (M D W W2):=H9.go (by rw[qW];exact Ta _ _ _);have kZ:=qu W2 H6.o;obtain⟨e0,e1,e2⟩:=rows kZ;have fR:∀j,W2.frozen? ⟨w0.heap.size+1,j,Y⟩=false:=λj=>Qg _ _ _ _ _ kZ;have R2:J _:=kZ;have jD:J _:=qW;clear H9 kZ qW a0 a1 gY;go_upto_region 2 with fail;rw[<-jD.o];go_wp2;rw[set3 _ _ _ _ _ _ _ _ _ R2.o];refine QK (v:=aI #[aH #[O I 0,O aD 0,O aE 0],aJ t u]) (Je results91 _ _ (w0.heap.size+1) _ _ (0,0) _ rfl (Qi _ _ _ _ _ _ R2) underlying179 rfl (by kernel_rfl)) rfl ⟨(HA.go H6).trans (Ts _ _ _) (λj hj=>aN (by omega)),0,0,0,t,u,rfl⟩
theorem Jf7(E:Nat->Addr)(wj:Int)(H:BA)(hH:H.size<=1100000)(c:BA×Int)(hr: -9223372036854775808<=c.2/\c.2<9223372036854775808)(kt:¬(1<=wj/\wj<=32/\(H.size:Int)=4+3*wj/\Jj wj.toNat c))(s1 s2:BA)(w:aA)(hE:Env E w):
  aB N 51 #[O I wj,L H,aH #[L c.1,O I c.2],L s1,L s2] w λe w'=>M D w w'/\e=aC (aI #[L ⟨#[]⟩,L ⟨#[]⟩,aL false]):=by
 refine(Jhc wj H s1 s2 c (λsx sy b=>sx=⟨#[]⟩/\sy=⟨#[]⟩/\b=false) (λw0 vt=>?_)).mono ?_
 ·have gY:J (∀W,M D w0 W->_):=λW hT=>JlV E wj H hH c hr kt W (hE.tch (vt.go hT) noE);obtain⟨s,aZ⟩:=c;dsimp only at gY ⊢;go_enter func94,ntmps94;go_wp2_with fail;refine(gY _ (Ta _ _ _)).mono ?_;rintro _ w1⟨H9,t,u,rfl⟩;have H5:J _:=(Ta D w0 _).go H9;go_wp2;refine QK (v:=aI #[L ⟨#[]⟩,L ⟨#[]⟩,aJ t u]) (results_tmp3 results94 _ _ _) rfl ⟨H5.go (Ta _ _ _),_,_,_,rfl,aN ⟨⟨t,u,rfl⟩,by simp⟩⟩
 ·rintro e w'⟨ht,sx,sy,b,⟨rfl,rfl,rfl⟩,rfl⟩;exact⟨ht,rfl⟩

theorem JfV{wj:Int}(s:List UInt8)(h:¬(1<=wj/\wj<=32/\(H.size:Int)=4+3*wj/\Jj wj.toNat c)):kO wj H c s=Y:=by
 unfold kO;exact if_neg (λe=>h ⟨e.1,e.2.1,e.2.2.1,(Yc _ _).1 e.2.2.2⟩)
theorem JgL(h1:1<=n)(h2:n<=32)(h3:H.size=4+3*n)(hc:Jj n c):∃hd:HdL,HdOk n hd/\H=⟨(Ht hd).toArray⟩/\∀s,kO (n:Int) H c s=yQ n (Jc c) hd.2.2.2 s:=by
 obtain⟨hd,zr,xe,pI⟩:=Jmo (wj:=n) H.data.toList (by rw[QA];exact h3);refine⟨hd,zr,YN xe.symm,λs=>?_⟩;have he:H.extract (4+2*n) H.size=hd.2.2.2:=by rw[pI];apply YN;rw[ByteArray.data_extract,Array.toList_extract,List.extract_eq_take_drop,QS];rw[lI,QA];exact Ql _
 unfold kO;rw[lD,if_pos ⟨by omega,by omega,by omega,(Yc _ _).2 hc⟩,he]
 cases hr:jP n (Jc c) s with
 | none=>
  cases hk:yQ n (Jc c) hd.2.2.2 s with
  | none=>rfl
  | some wy=>rw[((JaQ h2).1 hk).1]at hr;cases hr
 | some wy=>
  rw[Qu]
  by_cases hg:H3 n ((wy.nodes (H3 n)).headD [])=hd.2.2.2
  ·rw[if_pos hg,(JaQ h2).2 ⟨hr,hg⟩]
  ·rw[if_neg hg]
   cases hk:yQ n (Jc c) hd.2.2.2 s with
   | none=>rfl
   | some wy'=>
    have:=(JaQ h2).1 hk;rw[hr]at this;exact absurd (by rw[Option.some.inj this.1];exact this.2) hg
theorem Jjx(E:Nat->Addr)(wj:Int)(H:BA)(hH:H.size<=1100000)(c:BA×Int)(hr: -9223372036854775808<=c.2/\c.2<9223372036854775808)(aY:BA)(hS:aY.size<=2000000)(w:aA)(hE:Env E w)(hA:Ast w):
  aB Tryz.prog 47 #[O I wj,L H,aH #[L c.1,O I c.2],L aY] w λe w'=>M D w w'/\e=aC (aI #[O I (Xz (kO wj H c aY.data.toList) (Jc c)).1,aH #[O aD ((Xz (kO wj H c aY.data.toList) (Jc c)).2.1:Int),O aE ((Xz (kO wj H c aY.data.toList) (Jc c)).2.2:Int)]]):=by
 by_cases h:1<=wj/\wj<=32/\(H.size:Int)=4+3*wj/\Jj wj.toNat c
 ·obtain⟨h1,h2,h3,h4⟩:=h;obtain⟨n,rfl⟩:=lC (show 0<=wj by omega);rw[lD]at h4;obtain⟨hd,zr,xe,pI⟩:=JgL (n:=n) (H:=H) (by omega) (by omega) (by omega) h4;rw[pI,xe];exact Jjy E n (by omega) (by omega) hd zr c h4 aY hS w hE hA
 ·rw[JfV _ h];exact Jii E wj H hH c hr h aY w hE
theorem Joh{sx sy:BA}{b:Bool}(h:JdL n k r1 r2 sx sy b):sx=(jr n k r1 r2).1.1/\sy=(jr n k r1 r2).1.2/\b=(jr n k r1 r2).2:=by
 cases r1 with
 | none=>obtain⟨e1,e2,e3⟩:=h;exact⟨e2,e3,e1⟩
 | some w1=>
  cases r2 with
  | none=>obtain⟨e1,e2,e3⟩:=h;exact⟨e2,e3,e1⟩
  | some w2=>
   unfold JdL at h;unfold jr;dsimp only at h ⊢
   split at h
   ·rename_i he;obtain⟨e1,e2,e3⟩:=h;rw[if_pos he];exact⟨e2,e3,e1⟩
   ·rename_i he;obtain⟨e1, -, -, -, -,e6⟩:=h;rw[if_neg he,e6];exact⟨(Zx _).symm,(Zx _).symm,e1⟩
theorem Jg7(E:Nat->Addr)(wj:Int)(H:BA)(hH:H.size<=1100000)(c:BA×Int)(hr: -9223372036854775808<=c.2/\c.2<9223372036854775808)(T1 T2:BA)(sO:T1.size<=2000000)(sP:T2.size<=2000000)(w:aA)(hE:Env E w)(hA:Ast w)(hL:Alk w):
  aB Tryz.prog 51 #[O I wj,L H,aH #[L c.1,O I c.2],L T1,L T2] w λe w'=>M D w w'/\e=aC (aI #[L (jr wj.toNat (Jc c) (kO wj H c T1.data.toList) (kO wj H c T2.data.toList)).1.1,L (jr wj.toNat (Jc c) (kO wj H c T1.data.toList) (kO wj H c T2.data.toList)).1.2,aL (jr wj.toNat (Jc c) (kO wj H c T1.data.toList) (kO wj H c T2.data.toList)).2]):=by
 by_cases h:1<=wj/\wj<=32/\(H.size:Int)=4+3*wj/\Jj wj.toNat c
 ·obtain⟨h1,h2,h3,h4⟩:=h;obtain⟨n,rfl⟩:=lC (show 0<=wj by omega);rw[lD]at h4;obtain⟨hd,zr,xe,pI⟩:=JgL (n:=n) (H:=H) (by omega) (by omega) (by omega) h4;rw[pI,pI,xe,lD];refine(Jg8 E n (by omega) (by omega) hd zr c h4 T1 T2 sO sP w hE hA hL).mono ?_;rintro e w'⟨ht,sx,sy,b,hx,rfl⟩;obtain⟨e1,e2,e3⟩:=Joh hx;exact⟨ht,by rw[<-e1,<-e2,<-e3]⟩
 ·rw[JfV _ h,JfV _ h];exact Jf7 E wj H hH c hr h T1 T2 w hE

theorem JdW(hD:DgC)(E:Nat->Addr)(wj:Int)(nC: -9223372036854775808<=wj/\wj<9223372036854775808)(H:BA)(hH:H.size<=1100000)(c:BA×Int)(hc:c.1.size<=9223372036854775807)(hr: -9223372036854775808<=c.2/\c.2<9223372036854775808)(aY:BA)(hS:aY.size<=2000000)(w:aA)(hE:Env E w)(hA:Ast w):
  aB Tryz.prog 114 #[O I wj,L H,aH #[L c.1,O I c.2],L aY] w λe w'=>e=aC (aL true)/\M D w w':=by
 obtain⟨W,(HW:J _)⟩:∃W,W=w.alloc (T #[L c.1,O I c.2] 49):=⟨_,rfl⟩
 have tA:M D w W:=by rw[HW];exact Ta _ _ _
 have gG:W.heap[w.heap.size]? =Z (T #[L c.1,O I c.2] 49):=by rw[HW];exact Qf _ _
 have HC:J (∀V,M D W V->(V.cell? ⟨w.heap.size,0,Y⟩=Z (L c.1)/\V.cell? ⟨w.heap.size,1,Y⟩=Z (O I c.2))):=λV hT=>by
  have h0:=(hT.block _ (Jb gG) (λh=>h)).trans gG;exact⟨Ja h0,Ja h0⟩
 have kJ:J _:=tA;have vQ:J (∀V,M D w V->_):=λV hV=>Jjx E wj H hH c hr aY hS V (hE.tch hV noE) (hA.tch hV (λh=>h));have gq:J (∀V,_):=λV=>Jd8 hD wj nC H c hc aY hS V;obtain⟨v,oa,ob,hv⟩:∃v oa ob,Xz (kO wj H c aY.data.toList) (Jc c)=(v,(oa,ob)):=⟨_,_,_,rfl⟩
 rw[hv]at vQ gq;obtain⟨a0,a1⟩:=HC W (Te _ _);obtain⟨s,aZ⟩:=c;simp only at HC HW vQ gq a0 a1 ⊢;clear hv tA gG hc hE hA;go_enter Tryz.func114,Tryz.ntmps114;go_upto_region 1 with fail;rw[<-HW.o];go_upto_region 2 with(go_at_call 47;refine(vQ _ kJ).mono ?_;rintro _ w1⟨(H5:J _),rfl⟩);obtain⟨p1,Hy⟩:∃p,w1.heap.size=p:=⟨_,rfl⟩
 have H6:J _:=H5.go (Ta _ w1 (T #[O aD (oa:Int),O aE (ob:Int)] 80));have Hx:J ((w1.alloc (T #[O aD (oa:Int),O aE (ob:Int)] 80)).heap[p1]? =Z (T #[O aD (oa:Int),O aE (ob:Int)] 80)):=by show _=_;rw[<-Hy];exact Qf _ _
 rw[Hy];generalize w1.alloc (T #[O aD (oa:Int),O aE (ob:Int)] 80)=w2 at *;obtain⟨a0,a1⟩:=HC w2 H6.o;go_upto_region 3 with(go_at_call 175;refine(gq _).mono ?_;rintro _ w3⟨(Hb:J _),rfl⟩);obtain⟨p2,kV⟩:∃p,w3.heap.size=p:=⟨_,rfl⟩
 have Hm:J _:=Hb.go (Ta _ w3 (T #[O aD (oa:Int),O aE (ob:Int)] 80));have kF:J ((w3.alloc (T #[O aD (oa:Int),O aE (ob:Int)] 80)).heap[p2]? =Z (T #[O aD (oa:Int),O aE (ob:Int)] 80)):=by show _=_;rw[<-kV];exact Qf _ _
 rw[kV];generalize w3.alloc (T #[O aD (oa:Int),O aE (ob:Int)] 80)=w4 at *;have eC:=(Hm.block _ (Jb Hx) (λe=>e)).trans Hx.o;obtain⟨b0,b1⟩:=rows eC;obtain⟨b2,b3⟩:=rows kF.o;go_wp2;go_ret;exact⟨by first|rfl|simp,kJ.go (H6.go Hm)⟩

theorem Jfz{g:Nat}(h:V.heap[g]? =Z (T (Hv (os.map encO++YM)) 80)):Jr V.heap.size V (R (Z ⟨g,0,Y⟩) os.length (os.length+8)) os:=
 aN ⟨g,0,_,rfl,(Jb h),(Jb h),λi hi=>by
  have:=Xp h (i:=i) (encO os[i]) (by
   rw[QF (by simpa using hi),lK,Qd hi];rfl)
  rw[Nat.zero_add];exact this⟩
def WTo(base:Nat)(w:aA)(wb n:Nat)(vl vm:aG)(e:Ending)(w':aA):Prop:=e=aC (aL true)/\WSt base w' wb n vl vm/\M (λj=>base<=j) w w'
theorem Jpu(E:Nat->Addr)(hF:Xt E base w)(h:WSt base w wb n vl vm)(hn:n<=900000)(jG:base<=w.heap.size)(x:OpL)(log:BA)(hk:x.kind=2)(hx:OpOk base w x os ts sl):
  aB N 33 #[X (Z ⟨wb,0,Y⟩),opV x,L log] w (WTo base w wb (n+1) vl vm):=by
 have uL:=hx.oLen
 by_cases Hg:1<=x.a/\x.a<=32/\1<=os.length/\os.length<=3
 ·obtain⟨a1,a2,o1,o3⟩:=Hg;obtain⟨wj,hw⟩:=lC (show 0<=x.a by omega);have Hn:1<=wj:=by omega
  have iG:wj<=32:=by omega
  obtain⟨st,kL⟩:=Jan (H3 wj (71::Jz os)) os hx.oOk o3;refine JdV w wb x log hk jG (os.map encO) (by rw[QM];omega) hx.outs.vr (Jgx _) 0
   (λg pl V=>∃lb F,pl=Z ⟨lb,0,Y⟩/\LAt wj base 0 V lb F 0 [(⟨(Ht (Yi wj os st)).toArray⟩,st)]/\∀j,F j->g<j/\w.heap.size<=j)
   (λg pl pr V=>∃lb rb F G,pl=Z ⟨lb,0,Y⟩/\pr=Z ⟨rb,0,Y⟩/\Duo base V 1 lb rb F G/\∀j,F j\/G j->g<j/\w.heap.size<=j) _ (λV g hV hg hr=>?_) (λV g pl hV hq=>?_) (λV V' g pl pr hq ht=>?_) (λV g pl pr hV hq=>?_)
  ·rw[QM,hw];refine(JkM E base wj _ os Hn iG (hF.tch hV (λ_ e=>e.elim)) (Qm jG hV.size) (Jfz hr) o1 o3 hx.oOk).mono λe V' k=>?_;obtain⟨k0,lb,F,h',st',k1,k2,k3,_,k4,k5⟩:=k;rw[kL]at k3
   cases k3
   subst k4;have nv:=(Jb hr)
   exact⟨_,k1,k0,lb,F,rfl,k2,λj hj=>⟨by have:=k5 j hj;omega,Qm hV.size (k5 j hj)⟩⟩
  ·obtain⟨lb,F,rfl,q1,q2⟩:=hq;rw[hw];refine(JqN dgC wj Hn iG _ os hx.oOk o1 o3 base V (hx.outs.tch hV (λ_ e=>e.elim)) base (Qm jG hV.size) st kL).mono λe V' k=>?_;obtain⟨k0,rb,G,vL,lv,b,k1,k2,k3⟩:=k;refine⟨_,k1,k0,lb,rb,F,G,rfl,rfl,⟨wj,_,vL,lv,b,q1.keep k0 (λ_ e=>e.elim),k2,Ql _,λj hf hg=>?_⟩,λj hj=>?_⟩
   ·have:=(q1.low j hf).2;have:=k3 j hg;omega
   ·rcases hj with hj|hj
    ·exact q2 j hj
    ·have h1:=k3 j hj;have h2:=hV.size;have h3:=q1.low lb (by obtain⟨_,_,_,_,_,_,C⟩:=q1;exact C.ownL);have h4:=q2 lb (by obtain⟨_,_,_,_,_,_,C⟩:=q1;exact C.ownL);omega
  ·obtain⟨lb,rb,F,G,rfl,rfl,q1,q2⟩:=hq;exact⟨lb,rb,F,G,rfl,rfl,q1.tch ht (λj e=>⟨λf=>by have:=q2 j (aM f);omega,λf=>by have:=q2 j (aN f);omega⟩),q2⟩
  ·obtain⟨lb,rb,F,G,rfl,rfl,q1,q2⟩:=hq;obtain⟨gP,gQ,ls,rs,c,hW⟩:=h;have hWV:=hW.tch hV (λ_ e=>e.elim);have um:=hW.few;refine(Joo hWV.at' ⟨lb,0,Y⟩ ⟨rb,0,Y⟩ (by rw[QM];omega) (by rw[QM,<-hW.len];omega) (Qm jG hV.size)).mono λe V' k=>?_;obtain⟨k0,vls',vrs',k1,k2,k3⟩:=k;exact⟨k0,hW.join hV q1 (λj hj=>(q2 j hj).2) k1 k2 k3 jG (by omega)⟩
 ·refine JdV w wb x log hk jG (os.map encO) (by rw[QM];omega) hx.outs.vr (Jgx _) 1 (λg pl V=>pl=Y) (λg pl pr V=>pl=Y/\pr=Y) _ (λV g hV hg hr=>?_) (λV g pl hV hq=>?_) (λV V' g pl pr hq ht=>hq) (λV g pl pr hV hq=>?_)
  ·rw[QM];exact(JmW E x.a _ os V (hF.tch hV (λ_ e=>e.elim)) (Jfz hr) uL hx.oOk Hg).mono λe V' k=>⟨_,k.1,k.2,rfl⟩
  ·subst hq;exact(Jm4 x.a _ os base V (hx.outs.tch hV (λ_ e=>e.elim)) (by omega) Hg).mono λe V' k=>⟨_,k.1,k.2,rfl,rfl⟩
  ·obtain⟨rfl,rfl⟩:=hq;exact(JiL wb V).mono λe V' k=>⟨k.1,by rw[k.2];exact(h.tch0 hV).up (by omega),by rw[k.2];exact hV.mono (λ_ e=>e.elim)⟩
theorem Jon(E:Nat->Addr)(hF:Xt E base w)(h:WSt base w wb n vl vm)(hn:n<=900000)(jG:base<=w.heap.size)(x:OpL)(hk:x.kind=1\/x.kind=2\/x.kind=10\/x.kind=11)(hA:Ast w)(hL:Alk w)(hx:OpOk base w x os ts sl):
  aB N 68 #[X (Z ⟨wb,0,Y⟩),opV x] w (WTo base w wb (n+1) vl vm):=by
 obtain⟨w0,(xF:J _),t0,(kN:J _)⟩:=Jba w x;have ym:J (x.kind=2->aB N 33 #[X (Z ⟨wb,0,Y⟩),opV x,L x.s] w0 (WTo base w wb (n+1) vl vm)):=λhk=>(Jpu E (hF.tch t0 (λ_ e=>e.elim)) (h.tch0 t0) hn (Qm jG t0.size) x x.s hk (hx.tch t0 (λ_ e=>e.elim))).mono λe w' k=>⟨k.1,k.2.1,(t0.mono (λ_ e=>e.elim)).trans k.2.2 (λ_ e=>aM e)⟩
 obtain⟨S,code,(du:J _),(fi:J _)⟩:∃(S:BA)(code:Int),(∀V,M D w V->aB N 73 #[O I x.a,L x.s] V λe w'=>M D V w'/\e=aC (aI #[L S,O I code]))/\∀V,aB N 113 #[O I x.a,L x.s] V λe w'=>M D V w'/\e=aC (aI #[L S,O I code]):=by
  have hs:=hx.s;have p1:=λV (hV:M D w V)=>JmV E x.a x.s V (hF.tch hV (λ_ e=>e.elim)) (by omega);have p2:=λV=>Jm3 x.a x.s V (by omega) hx.ra.1 hx.ra.2
  by_cases hw:1<=x.a/\x.a<=32
  ·refine⟨H3 x.a.toNat x.s.data.toList,0,λV hV=>?_,λV=>?_⟩
   ·have:=p1 V hV;rw[if_pos hw]at this;exact this
   ·have:=p2 V;rw[if_pos hw]at this;exact this
  ·refine⟨⟨#[]⟩,1,λV hV=>?_,λV=>?_⟩
   ·have:=p1 V hV;rw[if_neg hw]at this;exact this
   ·have:=p2 V;rw[if_neg hw]at this;exact this
 have iH:J (∀V,M D w V->_):=λV hV=>JdW dgC E x.a hx.ra x.s hx.s (x.cx,x.cn) hx.cx hx.rc x.t (by have:=hx.t;omega) V (hF.tch hV (λ_ e=>e.elim)).env (hA.tch hV (λe=>e));have yx:J (∀V,M D w V->_):=λV hV=>Jg7 E x.a x.s hx.s (x.cx,x.cn) hx.rc x.t x.u (by have:=hx.t;omega) (by have:=hx.u;omega) V (hF.tch hV (λ_ e=>e.elim)).env (hA.tch hV (λe=>e)) (hL.tch hV (λe=>e));have vy:J (∀V,_):=λV=>Jk6 dgC x.a hx.ra x.s (x.cx,x.cn) hx.cx x.t x.u (by have:=hx.t;omega) (by have:=hx.u;omega) V;obtain⟨xr,hxr⟩:∃xr,jr x.a.toNat (Jc (x.cx,x.cn)) (kO x.a x.s (x.cx,x.cn) x.t.data.toList) (kO x.a x.s (x.cx,x.cn) x.u.data.toList)=xr:=⟨_,rfl⟩
 rw[hxr]at yx vy;obtain⟨⟨xa,xb⟩,xc⟩:=xr;simp only at iH yx vy;have jW:J (∀V,M D w V->WTo base w wb (n+1) vl vm (aC (aL true)) V):=λV hV=>⟨rfl,(h.tch0 hV).up (by omega),hV.mono (λ_ e=>e.elim)⟩
 have kJ:J _:=t0;clear hF jG hx t0 h hxr hA hL;obtain⟨kind,a,b',which,s,t,u,cx,cn,⟨oa,on,oc⟩,⟨ta,tn,tc⟩⟩:=x;simp only[BoxC]at *;obtain⟨aW,hR⟩:∃aW,aW=WTo base w wb (n+1) vl vm:=⟨_,rfl⟩
 rw[<-hR]at ym jW ⊢;go_enter func68,ntmps68;go_upto_region 1 with fail;rw[<-xF.o];obtain⟨c0,c1,c2,c3,c4,c5,c6,c7,c8,c9,c10⟩:=kN w0 _ (Te D _) (λ_ e=>e.elim)
 rcases hk with rfl|rfl|rfl|rfl
 ·go_wp2_with fail;refine(du w0 kJ).mono ?_;rintro _ w1⟨(H5:J _),rfl⟩;clear c0 c1 c2 c3 c4 c5 c6 c7 c8 c9 c10;obtain⟨_,c1,_,_,c4,_⟩:=kN w1 _ H5 (λ_ e=>e.elim);go_wp2_with fail;refine(fi w1).mono ?_;rintro _ w2⟨Ha,rfl⟩;have H6:J _:=(kJ.go H5).go Ha;go_wp2_with fail;refine(Jb2 _ _).mono ?_;rintro _ _⟨rfl,rfl⟩;go_wp2;exact jW _ H6.o
 ·go_wp2_with fail;refine(ym trivial).mono ?_;intro e w1 hr;obtain⟨rfl,(qR:J _)⟩:e=aC (aL true)/\aW e w1:=⟨by rw[hR]at hr;exact hr.1,hr⟩
  clear hr c0 c1 c2 c3 c4 c5 c6 c7 c8 c9 c10;go_wp2;exact qR.o
 ·go_wp2_with fail;refine(iH w0 kJ).mono ?_;rintro _ w1⟨rfl,H9⟩;have H5:J _:=kJ.go H9;go_wp2;exact jW _ H5.o
 ·go_wp2_with fail;refine(yx w0 kJ).mono ?_;rintro _ w1⟨(H5:J _),rfl⟩;clear c0 c1 c2 c3 c4 c5 c6 c7 c8 c9 c10;obtain⟨_,c1,_,_,c4,c5,c6,c7,c8,_⟩:=kN w1 _ H5 (λ_ e=>e.elim);go_wp2_with fail;refine(vy w1).mono ?_;rintro _ w2⟨Ha,rfl⟩;have H6:J _:=(kJ.go H5).go Ha;go_wp2;exact jW _ H6.o

theorem JeC(h:JR w cb wj fl r bs v)(k:Nat)(b:BV)(hk:bs[k]? =Z b)(hf:fl<=k):
  aB N 92 #[X (Z ⟨cb,0,Y⟩),O I (k:Int)] w λe w'=>e=aC (aI #[JB b.2.1 b.2.2,aK])/\M D w w':=by
 obtain⟨W,hW⟩:∃W,W=w.alloc (T #[O I 0,X Y] 146):=⟨_,rfl⟩
 have hA:M D w W:=by rw[hW];exact Ta _ _ _
 have c1:W.cell? ⟨cb,1,Y⟩=Z (O I (fl:Int)):=Ja (h.next hA).row;have xq:J (aB _ _ _ _ _):=Jpq (h.next hA) k b hk;have hZ:W.heap[w.heap.size]? =Z (T #[O I 0,X Y] 146):=by rw[hW];exact Qf _ _
 have HW:J _:=hW;have HR:J _:=hZ;have HA:J _:=hA;obtain⟨bh,bu,bq⟩:=b;obtain⟨rv,kE⟩:∃rv,Jl bq=X rv:=⟨_,rfl⟩
 simp only[bV]at xq;show aB _ _ _ _ λe w'=>e=aC (aI #[aH #[_,Jl bq],aK])/\_;rw[kE]at xq ⊢;have H7:¬(k:Int)<(fl:Int):=by omega
 clear h hk hW hZ hA kE hf;go_enter func92,ntmps92;go_upto_region 1 with fail;rw[<-HW.o];go_wp2_with fail;refine xq.o.mono ?_;rintro _ w2⟨rfl,Ha⟩;have Hw:w2.heap[w.heap.size]? =Z (T #[O I 0,X Y] 146):=(Ha.block _ (Jb HR.o) (λh=>h)).trans HR.o;have qQ:=(Jb Hw)
 obtain⟨W3,xZ⟩:∃W3,W3=w2.alloc (T #[L bh,O I (bu:Int),X rv] 148):=⟨_,rfl⟩
 have t3:M D w2 W3:=by rw[xZ];exact Ta _ _ _
 have k8:W3.heap[w.heap.size]? =Z (T #[O I 0,X Y] 146):=(t3.block _ qQ (λh=>h)).trans Hw;have su:W3.heap[w2.heap.size]? =Z (T #[L bh,O I (bu:Int),X rv] 148):=by rw[xZ];exact Qf _ _
 have r0:W3.cell? ⟨w.heap.size,0,Y⟩=Z (O I 0):=Ja k8;have r1:W3.cell? ⟨w.heap.size,1,Y⟩=Z (X Y):=Ja k8;have fR:∀j,W3.frozen? ⟨w.heap.size,j,Y⟩=false:=λj=>Qg _ _ _ _ _ k8;have q1:W3.cell? ⟨w2.heap.size,1,Y⟩=Z (O I (bu:Int)):=Ja su;have q2:W3.cell? ⟨w2.heap.size,2,Y⟩=Z (X rv):=Ja su;have kw:J _:=k8;have jv:J (W3=_):=xZ;have Hb:J (M D w W3):=(HA.o.go Ha).go t3;clear Ha Hw t3 k8 su xZ xq HR HA HW c1;go_upto_region 4 with fail;rw[<-jv.o];go_wp2;rw[set2 _ _ _ _ _ _ _ kw.o];refine QK (v:=aI #[aH #[O I (bu:Int),X rv],aK]) (Je results92 _ _ w.heap.size _ _ (0,0) _ rfl (Qi _ _ _ _ _ _ kw.o) underlying146 rfl (by kernel_rfl)) rfl ⟨rfl,?_⟩;exact Hb.o.trans (Ts _ _ _) (λj hj=>aN (by omega))
theorem Jh5(E:Nat->Addr)(hE:Env E w)(h:JR w cb wj fl r bs v)(k:Int)(hk:k<(fl:Int)):
  aB N 92 #[X (Z ⟨cb,0,Y⟩),O I k] w λe w'=>∃t u,e=aC (aI #[JB 0 Y,aJ t u])/\Jn E 5 w' (aJ t u)/\M D w w':=by
 obtain⟨W,hW⟩:∃W,W=w.alloc (T #[O I 0,X Y] 146):=⟨_,rfl⟩
 have hA:M D w W:=by rw[hW];exact Ta _ _ _
 have c1:W.cell? ⟨cb,1,Y⟩=Z (O I (fl:Int)):=Ja (h.next hA).row;have hrg:=(hE.tch hA noE).range;have Hp:=(hE.tch hA noE).size;have hGs:5<W.heap.size:=Qk (by decide) Hp;have hZ:W.heap[w.heap.size]? =Z (T #[O I 0,X Y] 146):=by rw[hW];exact Qf _ _
 have r0:W.cell? ⟨w.heap.size,0,Y⟩=Z (O I 0):=Ja hZ;have r1:W.cell? ⟨w.heap.size,1,Y⟩=Z (X Y):=Ja hZ;have fR:∀j,W.frozen? ⟨w.heap.size,j,Y⟩=false:=λj=>Qg _ _ _ _ _ hZ;have HW:J _:=hW;have HR:J _:=hZ;have HA:J _:=hA;have hz:w.heap.size<W.heap.size:=(Jb hZ)
 show aB _ _ _ _ λe w'=>∃t u,e=aC (aI #[aH #[O I 0,X Y],aJ t u])/\_;clear h hW hZ hA hE Hp;go_enter func92,ntmps92;go_upto_region 1 with fail;rw[<-HW.o];go_wp2_with fail;refine(Xk _ _ _ _).mono ?_;rintro _ _⟨rfl,rfl⟩;have qH:(W.alloc (T #[L ⟨#[104,101,105,103,104,116]⟩,eV E 5] 237)).heap[w.heap.size]? =Z (T #[O I 0,X Y] 146):=(Below.heap_alloc W _ _ hz).trans HR.o;have qq:=Qf W (T #[L ⟨#[104,101,105,103,104,116]⟩,eV E 5] 237);have t2:=Ta D W (T #[L ⟨#[104,101,105,103,104,116]⟩,eV E 5] 237);have jK:J (_=_):=qH;have uj:J (_=_):=qq;have H6:J _:=t2;have r0:(W.alloc (T #[L ⟨#[104,101,105,103,104,116]⟩,eV E 5] 237)).cell? ⟨w.heap.size,0,Y⟩=Z (O I 0):=Ja qH;have r1:(W.alloc (T #[L ⟨#[104,101,105,103,104,116]⟩,eV E 5] 237)).cell? ⟨w.heap.size,1,Y⟩=Z (X Y):=Ja qH;have fR:∀j,(W.alloc (T #[L ⟨#[104,101,105,103,104,116]⟩,eV E 5] 237)).frozen? ⟨w.heap.size,j,Y⟩=false:=λj=>Qg _ _ _ _ _ qH;clear qH qq t2;generalize W.alloc (T #[L ⟨#[104,101,105,103,104,116]⟩,eV E 5] 237)=W2 at *;go_wp2;rw[set2 _ _ _ _ _ _ _ jK.o];refine QK (v:=aI #[aH #[O I 0,X Y],aJ 235 (X (Z ⟨W.heap.size,0,Y⟩))]) (Je results92 _ _ w.heap.size _ _ (0,0) _ rfl (Qi _ _ _ _ _ _ jK.o) underlying146 rfl (by kernel_rfl)) rfl ⟨_,_,rfl,?_,?_⟩
 ·exact .wrap W.heap.size ⟨#[104,101,105,103,104,116]⟩ (eV E 5) ((setRow_other _ _ _ _ (by omega)).trans uj.o) .base
 ·exact(HA.o.go H6.o).trans (Ts _ _ _) (λj hj=>aN (by omega))
theorem Jgz(E:Nat->Addr)(hE:Env E w)(h:JR w cb wj fl r bs v)(k:Int)(hf:(fl:Int)<=k)(hk:¬(0<=k/\k<bs.length)):
  aB N 92 #[X (Z ⟨cb,0,Y⟩),O I k] w λe w'=>∃t u,e=aC (aI #[JB 0 Y,aJ t u])/\Jn E 5 w' (aJ t u)/\M D w w':=by
 obtain⟨W,hW⟩:∃W,W=w.alloc (T #[O I 0,X Y] 146):=⟨_,rfl⟩
 have hA:M D w W:=by rw[hW];exact Ta _ _ _
 have c1:W.cell? ⟨cb,1,Y⟩=Z (O I (fl:Int)):=Ja (h.next hA).row;have xq:J (aB _ _ _ _ _):=JlW E (hE.tch hA noE) (h.next hA) k hk;have hZ:W.heap[w.heap.size]? =Z (T #[O I 0,X Y] 146):=by rw[hW];exact Qf _ _
 have HW:J _:=hW;have HR:J _:=hZ;have HA:J _:=hA;simp only[bV,Jl,Option.map_none]at xq;show aB _ _ _ _ λe w'=>∃t u,e=aC (aI #[aH #[O I 0,X Y],aJ t u])/\_;have H7:¬k<(fl:Int):=by omega
 clear h hk hW hZ hA hf hE;go_enter func92,ntmps92;go_upto_region 1 with fail;rw[<-HW.o];go_wp2_with fail;refine xq.o.mono ?_;rintro _ w2⟨t,u,rfl,s7,Ha⟩;have Hw:w2.heap[w.heap.size]? =Z (T #[O I 0,X Y] 146):=(Ha.block _ (Jb HR.o) (λh=>h)).trans HR.o;have qQ:=(Jb Hw)
 obtain⟨W3,xZ⟩:∃W3,W3=w2.alloc (T #[L ⟨#[]⟩,O I 0,X Y] 148):=⟨_,rfl⟩
 have t3:M D w2 W3:=by rw[xZ];exact Ta _ _ _
 have k8:W3.heap[w.heap.size]? =Z (T #[O I 0,X Y] 146):=(t3.block _ qQ (λh=>h)).trans Hw;have su:W3.heap[w2.heap.size]? =Z (T #[L ⟨#[]⟩,O I 0,X Y] 148):=by rw[xZ];exact Qf _ _
 have r0:W3.cell? ⟨w.heap.size,0,Y⟩=Z (O I 0):=Ja k8;have r1:W3.cell? ⟨w.heap.size,1,Y⟩=Z (X Y):=Ja k8;have fR:∀j,W3.frozen? ⟨w.heap.size,j,Y⟩=false:=λj=>Qg _ _ _ _ _ k8;have q1:W3.cell? ⟨w2.heap.size,1,Y⟩=Z (O I 0):=Ja su;have q2:W3.cell? ⟨w2.heap.size,2,Y⟩=Z (X Y):=Ja su;have kw:J _:=k8;have jv:J (W3=_):=xZ;have Hb:J (M D w W3):=(HA.o.go Ha).go t3;have HE3:J (Jn E 5 W3 (aJ t u)):=s7.tch t3 (λ_ _ _ _ h=>h);clear Ha Hw t3 k8 su xZ xq HR HA HW c1 s7;go_upto_region 4 with fail;rw[<-jv.o];go_wp2;rw[set2 _ _ _ _ _ _ _ kw.o];refine QK (v:=aI #[aH #[O I 0,X Y],aJ t u]) (Je results92 _ _ w.heap.size _ _ (0,0) _ rfl (Qi _ _ _ _ _ _ kw.o) underlying146 rfl (by kernel_rfl)) rfl ⟨_,_,rfl,?_,?_⟩
 ·exact HE3.o.tch (Ts _ _ _) (λj c x hj e=>by rw[e,kw.o]at hj;simp at hj)
 ·exact Hb.o.trans (Ts _ _ _) (λj hj=>aN (by omega))
theorem Jh6(E:Nat->Addr)(hE:Env E w)(h:JR w cb wj fl r bs v)(k:Int)(hk:¬((fl:Int)<=k/\k<bs.length)):
  aB N 92 #[X (Z ⟨cb,0,Y⟩),O I k] w λe w'=>∃t u,e=aC (aI #[JB 0 Y,aJ t u])/\Jn E 5 w' (aJ t u)/\M D w w':=by
 by_cases hf:k<(fl:Int)
 ·exact Jh5 E hE h k hf
 ·exact Jgz E hE h k (by omega) (by omega)
theorem Jk5(E:Nat->Addr)(hE:Env E w)(h:JR w cb wj fl r bs v)(k:Int)(hk:¬((fl:Int)<=k/\k<bs.length))(c:BA×Int):
  aB N 50 #[X (Z ⟨cb,0,Y⟩),O I k,aH #[L c.1,O I c.2]] w λe w'=>M D w w'/\∃t u,e=aC (aI #[L ⟨#[]⟩,aJ t u])/\Jn E 5 w' (aJ t u):=by
 obtain⟨s,aZ⟩:=c;have HS:J (∀W,M D w W->aB N 92 #[X (Z ⟨cb,0,Y⟩),O I k] W λe w'=>∃t u,e=aC (aI #[aH #[O I 0,X Y],aJ t u])/\Jn E 5 w' (aJ t u)/\M D W w'):=λW hT=>Jh6 E (hE.tch hT noE) (h.next hT) k hk;clear hE h hk;dsimp only;go_enter func50,ntmps50;go_wp2_with fail;refine(HS.o _ (Ta D w _)).mono ?_;rintro _ w1⟨t,u,rfl,he,ht⟩;have HT:J (M D w w1):=(Ta D w _).go ht;have HE:J _:=he;clear he ht HS;go_wp2;go_ret2;exact⟨HT.o.go (Ta _ _ _),_,_,rfl,HE.o.tch (Ta D w1 _) (λ_ _ _ _ h=>h)⟩
theorem Jm1(E:Nat->Addr)(hE:Env E w)(h:JR w cb wj fl r bs v)(k:Nat)(b:BV)(hk:bs[k]? =Z b)(hf:fl<=k)(hw:wj<=32)(F:Nat->Prop)(st:Option Tr)(hb:b.2.1=wj)(hs:StAt (H3 wj) F w b.2.2 st)(Hg:∀t,st=Z t->t.Wf/\TrOk wj t)(c:BA×Int)(hc:Jj wj c):
  aB N 50 #[X (Z ⟨cb,0,Y⟩),O I (k:Int),aH #[L c.1,O I c.2]] w λe w'=>M D w w'/\e=aC (aI #[L ⟨(kT (YS (H3 wj) (Jc c) st)).toArray⟩,aK]):=by
 have HS:J (∀W,M D w W->aB N 92 _ W _):=λW hT=>JeC (h.next hT) k b hk hf;have HP:J (∀W,M D w W->aB N 93 _ W _):=λW hT=>Jm0 E wj hw F b.2.2 st c hc W (hE.tch hT noE) (hs.next hT) Hg;rw[hb]at HS;obtain⟨rv,kE⟩:∃rv,JB wj b.2.2=aH #[O I (wj:Int),X rv]:=⟨_,rfl⟩
 rw[kE]at HS HP;generalize (⟨(kT (YS (H3 wj) (Jc c) st)).toArray⟩:BA)=pf at *;obtain⟨s,aZ⟩:=c;clear hE h hk hs Hg hc kE hb;dsimp only at HP ⊢;go_enter func50,ntmps50;go_wp2_with fail;refine(HS.o _ (Ta D w _)).mono ?_;rintro _ w1⟨rfl,ht⟩;have HT:J (M D w w1):=(Ta D w _).go ht;have r1:w1.heap[w.heap.size]? =Z (T #[L s,O I aZ] 49):=(ht.block _ (by simp) (λh=>h)).trans (Qf _ _);have c0:w1.cell? ⟨w.heap.size,0,Y⟩=Z (L s):=Ja r1;have c1:w1.cell? ⟨w.heap.size,1,Y⟩=Z (O I aZ):=Ja r1;have jH:=(Jb r1)
 clear ht HS r1;go_wp2_with fail;refine(HP.o _ (HT.o.go (Ta _ _ _))).mono ?_;rintro _ w2⟨rfl,Ha⟩;have H6:J (M D w w2):=(HT.o.go (Ta _ _ _)).go Ha;clear Ha HP;go_wp2;go_ret2;exact⟨H6.o,rfl⟩

theorem JmZ(E:Nat->Addr)(wj:Nat)(hw:wj<=32)(q:Option Nat)(c:BA×Int)(hr: -9223372036854775808<=c.2/\c.2<9223372036854775808)(hc:¬Jj wj c)(w:aA)(hE:Env E w):
  aB N 93 #[JB wj q,aH #[L c.1,O I c.2]] w λe w'=>M D w w'/\∃t u,e=aC (aI #[L ⟨#[]⟩,aJ t u])/\Jn E 7 w' (aJ t u):=by
 have HK:J (∀W,M D w W->aB N 145 _ W _):=λW hT=>Jfp E wj hw c hr hc W (hE.tch hT noE);clear hE hc hr;obtain⟨rv,kE⟩:∃rv,rv=(q.map λn=>(⟨n,0,Y⟩:Addr)):=⟨_,rfl⟩
 have e0:Jl q=X rv:=by rw[kE]
 have e1:JB wj q=aH #[O I (wj:Int),X rv]:=by show Value.agg _=_;rw[e0]
 rw[e1];clear kE e0 e1;obtain⟨s,aZ⟩:=c;dsimp only at HK ⊢;go_enter func93,ntmps93;go_wp2_with fail;refine(HK.o _ (M.allocs D w _ _)).mono ?_;rintro _ w1⟨H9,t,u,rfl,he⟩;have H5:J (M D w w1):=(M.allocs D w _ _).go H9;have xX:J (Jn E 7 w1 (aJ t u)):=he;clear H9 he HK;go_wp2_with fail;refine(Xk _ _ _ _).mono ?_;rintro _ w2⟨rfl,xd⟩;have H6:J (M D w1 w2):=by show M _ _ _;rw[xd];exact Ta _ _ _
 have jK:J (w2.heap[w1.heap.size]? =Z (T #[L ⟨#[99,111,105,110]⟩,aJ t u] 237)):=by show _=_;rw[xd];exact Qf _ _
 clear xd;go_wp2;go_ret2;exact⟨H5.o.go H6.o,_,_,rfl,.wrap _ _ _ jK.o (xX.o.tch H6.o (λ_ _ _ _ h=>h))⟩
theorem Jm2(E:Nat->Addr)(hE:Env E w)(h:JR w cb wj fl r bs v)(k:Nat)(b:BV)(hk:bs[k]? =Z b)(hf:fl<=k)(hw:wj<=32)(hb:b.2.1=wj)(c:BA×Int)(hr: -9223372036854775808<=c.2/\c.2<9223372036854775808)(hc:¬Jj wj c):
  aB N 50 #[X (Z ⟨cb,0,Y⟩),O I (k:Int),aH #[L c.1,O I c.2]] w λe w'=>M D w w'/\∃t u,e=aC (aI #[L ⟨#[]⟩,aJ t u])/\Jn E 7 w' (aJ t u):=by
 have HS:J (∀W,M D w W->aB N 92 _ W _):=λW hT=>JeC (h.next hT) k b hk hf;have HP:J (∀W,M D w W->aB N 93 _ W _):=λW hT=>JmZ E wj hw b.2.2 c hr hc W (hE.tch hT noE);rw[hb]at HS;obtain⟨rv,kE⟩:∃rv,JB wj b.2.2=aH #[O I (wj:Int),X rv]:=⟨_,rfl⟩
 rw[kE]at HS HP;obtain⟨s,aZ⟩:=c;clear hE h hk hc hr kE hb;dsimp only at HP ⊢;go_enter func50,ntmps50;go_wp2_with fail;refine(HS.o _ (Ta D w _)).mono ?_;rintro _ w1⟨rfl,ht⟩;have HT:J (M D w w1):=(Ta D w _).go ht;have r1:w1.heap[w.heap.size]? =Z (T #[L s,O I aZ] 49):=(ht.block _ (by simp) (λh=>h)).trans (Qf _ _);have c0:w1.cell? ⟨w.heap.size,0,Y⟩=Z (L s):=Ja r1;have c1:w1.cell? ⟨w.heap.size,1,Y⟩=Z (O I aZ):=Ja r1;have jH:=(Jb r1)
 clear ht HS r1;go_wp2_with fail;refine(HP.o _ (HT.o.go (Ta _ _ _))).mono ?_;rintro _ w2⟨Ha,t,u,rfl,he⟩;have H6:J (M D w w2):=(HT.o.go (Ta _ _ _)).go Ha;have uT:J (Jn E 7 w2 (aJ t u)):=he;clear Ha he HP;go_wp2;go_ret2;exact⟨H6.o,t,u,rfl,uT.o⟩

theorem JkC(hl:w.cell? ⟨lb,0,Y⟩=Z (X (Z ⟨cb,0,Y⟩)))(k:Int)(c:BA×Int)(s:BA)(h:∀W,M D w W->aB N 50 #[X (Z ⟨cb,0,Y⟩),O I k,aH #[L c.1,O I c.2]] W λe w'=>M D W w'/\e=aC (aI #[L s,aK])):
  aB N 24 #[X (Z ⟨lb,0,Y⟩),O I k,aH #[L c.1,O I c.2]] w λe w'=>e=aC (aI #[L s,O I 0])/\M D w w':=by
 obtain⟨cs,cN⟩:=c;have H:J _:=h;dsimp only at H ⊢;have dv:lb<w.heap.size:=by
  by_cases h:lb<w.heap.size
  ·exact h
  ·exfalso;have:w.heap[lb]? =Y:=Array.getElem?_eq_none (by omega);simp[World.cell?,this]at hl
 obtain⟨W,(HW:J _)⟩:∃W,W=w.alloc (T #[L cs,O I cN] 49):=⟨_,rfl⟩
 have hA:M D w W:=by rw[HW];exact Ta _ _ _
 have hr:W.heap[w.heap.size]? =Z (T #[L cs,O I cN] 49):=by rw[HW];exact Qf _ _
 obtain⟨c0,c1⟩:=rows hr;have c2:=(hA.cell (p:=⟨lb,0,Y⟩) dv (λh=>h)).trans hl;have HA:J _:=hA;clear hA hr hl dv;go_enter func24,ntmps24;go_upto_region 1 with fail;rw[<-HW.o];go_region_with (go_at_call 50;refine(H _ (HA.go (Td _ W 1))).mono ?_;rintro _ w1⟨ht,rfl⟩;have HT:J _:=(HA.go (Td _ W 1)).go ht)
 all_goals go_wp2_with fail;refine(Jbd _).mono ?_;rintro _ _⟨rfl,rfl⟩;go_wp2;go_ret2;exact⟨rfl,HT⟩
theorem JdM{E:Nat->Addr}(hS:∀w',M D w w'->Env E w'/\Sent E w')(er:Er)(hl:w.cell? ⟨lb,0,Y⟩=Z (X (Z ⟨cb,0,Y⟩)))(k:Int)(c:BA×Int)(h:∀W,M D w W->aB N 50 #[X (Z ⟨cb,0,Y⟩),O I k,aH #[L c.1,O I c.2]] W λe w'=>M D W w'/\∃t u,e=aC (aI #[L ⟨#[]⟩,aJ t u])/\Jn E (erG er) w' (aJ t u)):
  aB N 24 #[X (Z ⟨lb,0,Y⟩),O I k,aH #[L c.1,O I c.2]] w λe w'=>e=aC (aI #[L ⟨#[]⟩,O I (Xr er)])/\M D w w':=by
 obtain⟨cs,cN⟩:=c;have H:J _:=h;have HS:J _:=hS;dsimp only at H ⊢;have dv:lb<w.heap.size:=by
  by_cases h:lb<w.heap.size
  ·exact h
  ·exfalso;have:w.heap[lb]? =Y:=Array.getElem?_eq_none (by omega);simp[World.cell?,this]at hl
 obtain⟨W,(HW:J _)⟩:∃W,W=w.alloc (T #[L cs,O I cN] 49):=⟨_,rfl⟩
 have hA:M D w W:=by rw[HW];exact Ta _ _ _
 have hr:W.heap[w.heap.size]? =Z (T #[L cs,O I cN] 49):=by rw[HW];exact Qf _ _
 obtain⟨c0,c1⟩:=rows hr;have c2:=(hA.cell (p:=⟨lb,0,Y⟩) dv (λh=>h)).trans hl;have HA:J _:=hA;clear hA hr hl dv;go_enter func24,ntmps24;go_upto_region 1 with fail;rw[<-HW.o];go_region_with (go_at_call 50;refine(H _ (HA.go (Td _ W 1))).mono ?_;rintro _ w1⟨ht,t,u,rfl,he⟩;have HT:J _:=(HA.go (Td _ W 1)).go ht;have HR:J (aB _ _ _ _ _):=Jag er (HS w1 HT).1 (HS w1 HT).2 t u he)
 all_goals go_wp2_with fail;refine HR.o.mono ?_;rintro _ w2⟨rfl,Ha⟩;have H6:J _:=Ha;go_wp2;go_ret2;exact⟨rfl,HT.go H6⟩

theorem Jor(E:Nat->Addr)(wj base:Nat)(n:Nat)(c':BA×Option Tr)(c:BA×Int)(hA:LAt wj base pn w lb F fl ch)(hF:Xt E base w)(hn:ch[n]? =Z c')(hf:fl<=n)(Hg:∀t,c'.2=Z t->t.Wf/\TrOk wj t)(hc:Jj wj c):
  aB Tryz.prog 24 #[X (Z ⟨lb,0,Y⟩),O I (n:Int),aH #[L c.1,O I c.2]] w λe w'=>e=aC (aI #[L ⟨(kT (YS (H3 wj) (Jc c) c'.2)).toArray⟩,O I 0])/\M D w w':=by
 obtain⟨⟨_,hw⟩,lg,cb,r,bs,lv,C⟩:=hA;have hl:=rows C.led;have jb:=(Qo.1 hn).1;have hb:bs[n]? =Z (bs[n]'(by rw[C.len];exact jb)):=Qd _;obtain⟨h1,h2,h3⟩:=C.st n _ c' hb hn hf;exact JkC hl (n:Int) c _ (λW hT=>Jm1 E (hF.tch hT (λ_ e=>e.elim)).env (C.row.next hT) n _ hb hf hw F c'.2 h1 (h2.next hT) Hg c hc)
theorem JmA(E:Nat->Addr)(wj base:Nat)(h:Int)(c:BA×Int)(hA:LAt wj base pn w lb F fl ch)(hF:Xt E base w)(hh:¬((fl:Int)<=h/\h<(ch.length:Int))):
  aB Tryz.prog 24 #[X (Z ⟨lb,0,Y⟩),O I h,aH #[L c.1,O I c.2]] w λe w'=>e=aC (aI #[L ⟨#[]⟩,O I 7])/\M D w w':=by
 obtain⟨_,lg,cb,r,bs,lv,C⟩:=hA;have hl:=rows C.led;exact JdM (λw' k=>hF.next k) .range hl h c (λW hT=>Jk5 E (hF.tch hT (λ_ e=>e.elim)).env (C.row.next hT) h (by rw[C.len];exact hh) c)

theorem Jdt(B:Book wj (Z (.br b lt rt)) l):Fork (koR l) b/\Book wj (Z lt) (sidL l b 0)/\Book wj (Z rt) (sidL l b 1):=by
 obtain⟨w1,w2,h0,h1,hs⟩:=B.wf _ rfl;have hm:∀k o,(k,o)∈lt.coins++rt.coins↔∃h∈l,Jc h.1=k/\h.2=o:=B.mem;have hk:∀x,x∈koR l↔x∈lt.coins++rt.coins:=λx=>by
  obtain⟨k,o⟩:=x;rw[hm k o];unfold koR;rw[QL];constructor
  ·rintro⟨y,hy,e⟩;exact⟨y,hy,congrArg lR e,congrArg Prod.snd e⟩
  ·rintro⟨y,hy,e1,e2⟩;exact⟨y,hy,by rw[e1,e2]⟩
 refine⟨?_,⟨λt e=>by cases e;exact w1,Jdw l b 0 B.ok,JbM l b 0 B.nodup,λk o=>?_⟩,⟨λt e=>by cases e;exact w2,Jdw l b 1 B.ok,JbM l b 1 B.nodup,λk o=>?_⟩⟩
 ·obtain⟨x,hx⟩:=lH _ lt.coins_ne;obtain⟨y,hy⟩:=lH _ rt.coins_ne;refine⟨λx hx y hy i hi=>hs x ((hk x).1 hx) y ((hk y).1 hy) i hi,x,(hk x).2 (by simp[hx]),y,(hk y).2 (by simp[hy]),?_⟩;rw[h0 x hx,h1 y hy];decide
 ·show (k,o)∈lt.coins↔_;unfold sidL;constructor
  ·intro h;obtain⟨x,hx,e1,e2⟩:=(hm k o).1 (by simp[h]);exact⟨x,QO.2 ⟨hx,by rw[e1];simpa using h0 _ h⟩,e1,e2⟩
  ·rintro⟨x,hx,e1,e2⟩;obtain⟨hx,hb⟩:=QO.1 hx
   rcases QE.1 ((hm k o).2 ⟨x,hx,e1,e2⟩) with h|h
   ·exact h
   ·have h3:bt k b=1:=h1 _ h;rw[e1]at hb;have h4:bt k b=0:=(by simpa using hb);omega
 ·show (k,o)∈rt.coins↔_;unfold sidL;constructor
  ·intro h;obtain⟨x,hx,e1,e2⟩:=(hm k o).1 (by simp[h]);exact⟨x,QO.2 ⟨hx,by rw[e1];simpa using h1 _ h⟩,e1,e2⟩
  ·rintro⟨x,hx,e1,e2⟩;obtain⟨hx,hb⟩:=QO.1 hx
   rcases QE.1 ((hm k o).2 ⟨x,hx,e1,e2⟩) with h|h
   ·have h3:bt k b=0:=h0 _ h;rw[e1]at hb;have h4:bt k b=1:=(by simpa using hb);omega
   ·exact h
theorem JcA{o:Nat×Nat}(B:Book wj (Z (.leaf k o)) l):∃h,l=[h]/\Jc h.1=k/\h.2=o:=by
 have hm:∀k' o',(k',o')∈[(k,o)]↔∃h∈l,Jc h.1=k'/\h.2=o':=B.mem;obtain⟨x,hx,e1,e2⟩:=(hm k o).1 (by simp);have all:∀y∈l,y.1=x.1:=λy hy=>by
  have:=(hm _ _).2 ⟨y,hy,rfl,rfl⟩;simp at this;exact Zy (B.ok y hy).1 (B.ok x hx).1 (this.1.trans e1.symm)
 match l,hx,all,B.nodup with
 | [h],hx,_,_=>
  simp at hx;subst hx;exact⟨_,rfl,e1,e2⟩
 | a::b::r,_,all,hn=>
  have h1:=all a (by simp);have h2:=all b (by simp);simp[h1,h2]at hn
theorem Jl1(B:Book wj (Z t) l)(h:2<=l.length):∃b lt rt,t=.br b lt rt:=by
 cases t using Tr.ri with
 | leaf k o=>
  obtain⟨x,rfl,_⟩:=JcA B;simp at h
 | br b lt rt=>exact⟨b,lt,rt,rfl⟩
theorem Jkl(B:Book wj st l)(h:l ≠ []):∃t,st=Z t:=by
 cases st with
 | none=>
  obtain⟨x,hx⟩:=lH _ h;have:=(B.mem _ _).2 ⟨x,hx,rfl,rfl⟩;simp[JX]at this
 | some t=>exact⟨t,rfl⟩
theorem JbW(B:Book wj st []):st=Y:=by
 cases st with
 | none=>rfl
 | some t=>
  obtain⟨⟨k,o⟩,hx⟩:=lH _ t.coins_ne;obtain⟨h,hh,_⟩:=(B.mem k o).1 hx
  cases hh
theorem Jfc{h0 x:Hd}{r:List Hd}(B:Book wj (Z (.br b lt rt)) (h0::x::r)):b<8*(wj+1)/\alkB (h0::x::r) b=false/\∀i,i<b->alkB (h0::x::r) i=true:=by
 obtain⟨b',hb,h1,h2⟩:=Jc2 h0 x r (λh hh=>(B.ok h hh).1) B.nodup;obtain rfl:=(Jdt B).1.unique (Jhi h0 (x::r) b' h1 h2);exact⟨hb,h1,h2⟩
theorem Jae:∀(t:Tr)(l:List Hd),Book wj (Z t) l->TrOk wj t
 | ⟨Sum.inl (k,o)⟩,l,B=>by
  obtain⟨h,rfl,rfl,rfl⟩:=JcA B;obtain⟨h1,h2⟩:=B.ok h (by simp);exact Jbc h1 h2
 | ⟨Sum.inr (b,lt,rt)⟩,l,B=>by
  obtain⟨hf,B0,B1⟩:=Jdt B;have h2:=hf.two;unfold koR at h2;rw[QM]at h2
  match l,h2,B with
  | h0::x::r,_,B=>exact⟨(Jfc B).1,Jae lt _ B0,Jae rt _ B1⟩
theorem JnE(hw:wj<=32)(h:TrOk wj t):(t.text (H3 wj)).length<=1000:=by
 have hd:∀t:Tr,(t.dig (H3 wj)).data.toList.length=wj:=λt=>by rw[QA,Tr.dig_text];exact Jk wj hw _
 cases t using Tr.ri with
 | leaf k o=>
  have h1:k.length=wj+1:=h.1;unfold Tr.text outB;simp only[Qp,Qe,Jf];omega
 | br b l r=>
  unfold Tr.text;simp only[Qp,Qe,Jf,hd];omega

theorem Jm7{b:BA}(h:RfAt wj base w rb G ch vL lv b)(hl:ch.length<=1000000000)(n:Int)(hn: -9223372036854775808<=n/\n<9223372036854775808):
  aB N 174 #[X (Z ⟨rb,0,Y⟩),O I n] w λe w'=>e=aC (aL (decide (0<=n/\n<(ch.length:Int))))/\M D w w':=by
 have vu:J (∀V,M D w V->_):=λV hV=>JhM (h.tch hV (λ_ e=>e.elim)) hl;obtain⟨-, -,c2⟩:=rows h.row;have h1:=h.len.2;obtain⟨aV,(HD:J _)⟩:∃aV,decide (0<=n/\n<(ch.length:Int))=aV:=⟨_,rfl⟩
 rw[HD];clear h
 by_cases h0:0<=n
 ·have HE:J (decide (n<=(ch.length:Int)-1)=aV):=by show _=_;rw[<-HD.o];apply decide_eq_decide.2;omega
  generalize (ch.length:Int)-1=aY at *;go_enter func174,ntmps174;go_wp2_with fail;refine(vu w (Te _ _)).mono ?_;rintro _ w1⟨rfl,(HT:J _)⟩;clear vu c2;go_wp2;go_ret;exact⟨by rw[<-HE.o];rfl,HT⟩
 ·have HE:J (aV=false):=by show aV=_;rw[<-HD.o];simp;omega
  go_enter func174,ntmps174;go_wp2;go_ret;exact⟨by rw[HE.o];rfl,Te _ _⟩
def Zq(wj:Nat)(ch:Ch)(n:Int)(c:BA×Int):BA×Int:=
 if 0<=n/\n<(ch.length:Int) then if XZ wj c=true then (⟨(kT (YS (H3 wj) (Jc c) (ch.getD n.toNat (⟨#[]⟩,Y)).2)).toArray⟩,0) else (⟨#[]⟩,1) else (⟨#[]⟩,7)
def Jpx:aG->Nat
 | R _ n _=>n
 | _=>0
theorem JnQ(d:List UInt8->BA)(k:Key)(B:Book wj (Z (.br b lt rt)) l):∃tv tw,Book wj (Z tv) (sidL l b (bt k b))/\Book wj (Z tw) (sidL l b (1-bt k b))/\(Tr.br b lt rt).way d k=((b,tw.dig d)::(tv.way d k).1,(tv.way d k).2):=by
 obtain⟨_,B0,B1⟩:=Jdt B;have h2:=Yx k b
 by_cases h:bt k b=0
 ·refine⟨lt,rt,by rw[h];exact B0,by rw[h];exact B1,?_⟩;simp only[Tr.way,if_pos h]
 ·have h1:bt k b=1:=by omega
  refine⟨rt,lt,by rw[h1];exact B1,by rw[h1];exact B0,?_⟩;simp only[Tr.way,if_neg h]
theorem JkH(H4:List Stp)(s:Stp):(H4++[s]).flatMap Xe=H4.flatMap Xe++Hf s.1 2 2++s.2.data.toList:=by
 rw[List.flatMap_append,QG,List.flatMap_nil,QC,Qs];rfl
theorem JjY(hD:DgC)(Hn:1<=wj)(hw:wj<=32){b:BA}(h:RfAt wj base w rb G ch vL lv b)(hl:ch.length<=10000000)(n:Int)(hn: -9223372036854775808<=n/\n<9223372036854775808)(c:BA×Int)(hc:c.1.size<=9223372036854775807):
  aB N 184 #[X (Z ⟨rb,0,Y⟩),O I n,aH #[L c.1,O I c.2]] w λe w'=>e=aC (aI #[L (Zq wj ch n c).1,O I (Zq wj ch n c).2])/\M D w w':=by
 obtain⟨W,hW⟩:∃W,W=w.alloc (T #[L c.1,O I c.2] 49):=⟨_,rfl⟩
 have t0:=yh hW;have rW:=xw hW;have pg:J (∀V,M D W V->_):=λV hV=>Jm7 (h.tch (t0.go hV) (λ_ e=>e.elim)) (by omega) n hn;have xG:J (∀V,_):=λV=>Jec wj c hc V;have kX:J (∀V,M D W V->V.cell? ⟨w.heap.size,0,Y⟩=Z (L c.1)/\V.cell? ⟨w.heap.size,1,Y⟩=Z (O I c.2)/\V.cell? ⟨rb,0,Y⟩=Z (O I (wj:Int))/\V.cell? ⟨rb,1,Y⟩=Z vL):=λV hV=>by
  have h1:=(hV.block _ (Jb rW) (λe=>e)).trans rW;have h2:=(h.tch (t0.go hV) (λ_ e=>e.elim)).row;exact⟨Ja h1,Ja h1,Ja h2,Ja h2⟩
 have HW:J _:=hW;have kJ:J _:=t0;obtain⟨QA,QB,(HQ:J _)⟩:∃QA QB,Zq wj ch n c=(QA,QB):=⟨_,_,rfl⟩
 rw[HQ]
 by_cases hk:0<=n/\n<(ch.length:Int)
 ·have iI:=decide_eq_true hk;rw[iI]at pg
  by_cases hcd:XZ wj c=true
  ·have jE:=(Yc wj c).1 hcd;rw[hcd]at xG;obtain⟨m,rfl⟩:=lC hk.1;have hm:m<ch.length:=(by omega);have gK:m<lv.length:=(by rw[h.len.1];exact hm);have Hl:lv ≠ []:=λe=>by rw[e]at gK;simp at gK
   obtain⟨g,cap,un,hg,dt⟩:=h.lvs.at Hl;rw[h.len.1]at un;subst un;obtain⟨l0,pJ,(qA:J _),zm⟩:=h.coins m _ _ (Qd gK) (Qd hm);have kL:(ch.getD m (⟨#[]⟩,Y)).2=(ch[m]).2:=(by simp[hm]);obtain⟨st,iJ⟩:∃st,(ch[m]).2=st:=⟨_,rfl⟩
   rw[iJ]at qA kL;have qE:J (QA=⟨(kT (YS (H3 wj) (Jc c) st)).toArray⟩/\QB=0):=by
    have:=HQ.o;unfold Zq at this;rw[if_pos hk,if_pos hcd,lD,kL]at this
    cases this
    exact⟨rfl,rfl⟩
   obtain⟨-, -, -,su⟩:=dt m gK;obtain⟨na,nc,xI⟩:=pJ.shape;rw[xI]at su pJ;have nD:J (∀V,M D W V->_):=λV hV=>((t0.go hV).cell (p:=⟨g,m*4+3,Y⟩) hg (λe=>e)).trans su;have gC:J (∀V,M D W V->_):=λV hV=>pJ.tch0 (t0.go hV);have js:J (∀V,_):=λV=>Zb c V jE.2.1 (by have:=jE.2.2;omega) (by have:=jE.1;omega);have tI:J _:=Xu jE;have hl0':l0.length<=900000000:=(by omega);have pX:(m:Int)<(ch.length:Int):=(by omega);obtain⟨s,aZ⟩:=c;obtain⟨key,jY⟩:∃key,Jc (s,aZ)=key:=⟨_,rfl⟩
   rw[jY]at qE js tI;simp only at xG kX HW js ⊢;clear h HQ hc t0 rW hW pJ zm xI su dt Hl gK kL iJ jY jE iI;go_enter func184,ntmps184;go_upto_region 1 with fail;rw[<-HW.o];go_wp2_with fail;refine(pg W (Te _ _)).mono ?_;rintro _ w1⟨rfl,H9⟩;have H5:J _:=H9;obtain⟨c0,c1,c2,c3⟩:=kX w1 H9;clear H9;go_upto_region 4 with fail;go_cut [8] (λv8 wx=>v8=aL true/\J (M D w1 wx))
   case first=>
    go_region_held3 (λV=>V.cell? ⟨w.heap.size,0,Y⟩=Z (L s)/\V.cell? ⟨w.heap.size,1,Y⟩=Z (O I aZ)/\V.cell? ⟨rb,0,Y⟩=Z (O I (wj:Int))) (go_keep) ((go_at_call 257;refine(xG _).mono ?_;rintro _ w2⟨rfl,Ha⟩;have H6:J _:=(Td D w1 1).go Ha;obtain⟨d0,d1,d2,_⟩:=kX w2 (H5.go H6);clear Ha))
    all_goals go_wp2;go_meet;exact⟨rfl,H6⟩
   case rest=>
   obtain⟨rfl,H6⟩:=hcut;obtain⟨w2,xd⟩:∃w2,w2=wc:=⟨wc,rfl⟩
   subst xd;have kI:J _:=H5.go H6.o;clear c0 c1 c2 c3;obtain⟨c0,c1,c2,c3⟩:=kX w2 kI.o;have c4:=nD w2 kI.o
   cases l0 with
   | nil=>
    have mJ:J _:=JbW qA.o;simp only[Qv]at *;go_wp2;go_ret2;have e0:(⟨(kT (YS (H3 wj) key Y)).toArray⟩:BA)=⟨#[0,0]⟩:=(by rw[show YS (H3 wj) key Y=([],Y) from rfl];decide);exact⟨by rw[qE.o.1,qE.o.2,mJ.o,e0];rfl,kJ.go kI⟩
   | cons h0 r0=>
    obtain⟨t1,dL⟩:=Jkl qA (by simp);subst dL;have zl:J (WyOk wj (YS (H3 wj) key (Z t1))):=(by exact Jcj (H3 wj) wj (Jk wj hw) key (Z t1) (λt e=>by cases e;exact⟨qA.wf _ rfl,Jae _ _ qA⟩));generalize Hq:(h0::r0).length=len at *;have uG:¬(len:Int)=0:=(by rw[<-Hq];simp;omega);have hlen1:((len:Int) == 0)=false:=(by simpa using uG);clear uG;have HLE:J _:=Hq;clear Hq;go_wp2;go_loopw [9,10,11,12,13,14] (λv9 v10 v11 _ _ _ wr=>∃(a:Option Addr)(k cc:Nat)(l:List Hd)(t:Tr)(H4:List Stp)(PF:List UInt8)(pn:Nat),v9=R a k cc/\v10=L ⟨PF.toArray⟩/\v11=O I (pn:Int)/\k<=900000000/\J (PF=H4.flatMap Xe/\H4.length=pn)/\J (l.length=k)/\J (RhAt wr (R a k cc) l)/\J (Book wj (Z t) l)/\J (t1.way (H3 wj) key=(H4++(t.way (H3 wj) key).1,(t.way (H3 wj) key).2))/\J (M D W wr)) (λv9 _ _ _ _ _ _=>Jpx v9)
    case atStart=>exact⟨na,len,nc,h0::r0,t1,[],[],0,rfl,rfl,rfl,hl0',⟨rfl,rfl⟩,HLE,gC w2 kI,qA,by show _=_;simp,kI⟩
    case round=>
     clear c0 c1 c2 c3 c4;obtain⟨a,k,cc,l,t,H4,PF,pn,rfl,rfl,rfl,ui,dx,gd,aa,xp,uD,HT⟩:=hrel;have qq:H4.length<=8*(wj+1):=by have h1:=zl.o.len;have h2:(YS (H3 wj) key (Z t1)).1=H4++(t.way (H3 wj) key).1:=congrArg lR uD.o;rw[h2,Qe]at h1;omega
     have be:=Jhh H4 (λz hz=>zl.steps z (by
      have h2:(YS (H3 wj) key (Z t1)).1=H4++(t.way (H3 wj) key).1:=congrArg lR uD.o;rw[h2];simp[hz]))
     have hfb:PF.length<=34*264:=(by rw[dx.o.1,be];exact Nat.mul_le_mul (by omega) (by omega));have hpn:pn<=264:=(by have:=dx.o.2;omega);clear be qq
     by_cases gS:1<k
     ·obtain⟨b1,lt,rt,rfl⟩:=Jl1 xp (by rw[gd.o];exact gS);obtain⟨tv,tw,(HBV:J _),nF,iK⟩:=JnQ (H3 wj) key xp.o;obtain⟨hb1,HFK⟩:b1<8*(wj+1)/\J (∀V,M D wr V->aB N 166 #[R a k cc] V λe w'=>e=aC (O I (b1:Int))/\M D V w'):=by
       match l,gd.o,aa.o,xp.o with
       | x0::x1::r,e,hR,hB=>
        obtain⟨f1,f2,f3⟩:=Jfc hB;exact⟨f1,λV hV=>Jm6 wj b1 hw _ x0 (x1::r) V (hR.tch0 hV) (λh hh=>(hB.ok h hh).1) (by simp at e;simp;omega) f1 f2 f3⟩
       | [x0],e,_,_=>simp at e;omega
       | [],e,_,_=>simp at e;omega
      obtain⟨v,hv⟩:∃v,bt key b1=v:=⟨_,rfl⟩
      have kn:v<2:=(by rw[<-hv];exact Yx _ _);have yS:J (∀V,aB N 253 #[L ⟨key.toArray⟩,O I (b1:Int)] V λe w'=>e=aC (O I (v:Int))/\M D V w'):=λV=>by rw[<-hv];exact JhJ key b1 (by rw[tI.o];omega) (by rw[tI.o];omega) V
      rw[hv]at HBV nF;obtain⟨u,hu⟩:∃u,1-v=u:=⟨_,rfl⟩
      rw[hu]at nF;have hui:I.wrap (1-(v:Int))=(u:Int):=(by rw[w63 _ (by omega) (by omega)];omega);have uO:J (∀V (y:Nat),M D wr V->aB N 167 #[R a k cc,O I (b1:Int),O I (y:Int)] V λe w'=>∃a' k' c',e=aC (R a' k' c')/\((sidL l b1 y).length=k'/\RhAt w' (R a' k' c') (sidL l b1 y))/\M D V w'):=λV y hV=>(Jnb wj b1 y hw _ l V (aa.o.tch0 hV) (λh hh=>(xp.o.ok h hh).1) (by rw[gd.o];omega) hb1).mono λe w' q=>by
       obtain⟨v',q1,q2,q3⟩:=q;obtain⟨a',c',rfl⟩:=q2.shape;exact⟨a',_,c',q1,⟨rfl,q2.at⟩,q3⟩
      have sv:J ((sidL l b1 v).length<k/\(sidL l b1 u).length<k):=by
       have h1:=JhX l b1;have h2:sidL l b1 v ≠ []:=λe=>by rw[e]at HBV;exact absurd (JbW HBV) (by simp)
       have h3:sidL l b1 u ≠ []:=λe=>by rw[e]at nF;exact absurd (JbW nF) (by simp)
       have h4:=List.length_pos_iff.2 h2;have h5:=List.length_pos_iff.2 h3;have h6:=gd.o;have h7:(v=0/\u=1)\/(v=1/\u=0):=by omega
       rcases h7 with⟨rfl,rfl⟩|⟨rfl,rfl⟩<;>exact⟨by omega,by omega⟩
      have sw:J (∀V v',RhAt V v' (sidL l b1 u)->aB N 106 #[O I (wj:Int),v'] V λe w'=>e=aC (L ⟨(tw.text (H3 wj)).toArray⟩)/\M D V w'):=λV v' hR=>(Ji0 hD wj Hn hw _ _ V v' (Ql _) nF.ok nF.nodup hR (by have:=sv.o.2;omega)).mono λe w' q=>by
       obtain⟨z,q1,q2,q3⟩:=q;rw[q1,JcP nF q2];exact⟨rfl,q3⟩
      have ki:J ((tw.text (H3 wj)).length<=1000):=JnE hw (Jae _ _ nF);have jR:J (∀V,aB N 103 #[O I (wj:Int),L ⟨(tw.text (H3 wj)).toArray⟩] V λe w'=>e=aC (L ⟨(tw.dig (H3 wj)).data.toList.toArray⟩)/\M D V w'):=λV=>by
       have:=hD wj ⟨(tw.text (H3 wj)).toArray⟩ V Hn hw (by rw[Ji];have:=ki.o;omega);rw[show (⟨(tw.text (H3 wj)).toArray⟩:BA).data.toList=tw.text (H3 wj) from rfl,<-Tr.dig_text (H3 wj) tw]at this;rw[Zx];exact this
      have iL:J (∀V,_):=λV=>XU b1 2 V (by omega);have HDL:J ((tw.dig (H3 wj)).data.toList.length=wj):=(by show List.length _=_;rw[Array.length_toList,Tr.dig_text];exact Jk wj hw _);have hdl:(tw.dig (H3 wj)).data.toList.length<=32:=(by rw[HDL.o];exact hw);have HWN:J (t1.way (H3 wj) key=((H4++[(b1,tw.dig (H3 wj))])++(tv.way (H3 wj) key).1,(tv.way (H3 wj) key).2)):=(by show _=_;rw[uD.o,iK];simp);have HFN:J ((H4++[(b1,tw.dig (H3 wj))]).flatMap Xe=H4.flatMap Xe++Hf b1 2 2++(tw.dig (H3 wj)).data.toList):=JkH _ _;have hb64:IntKind.u64.wrap (b1:Int)=(b1:Int):=(by simp[IntKind.wrap,IntKind.bits,IntKind.signed];omega);have hk2i:1<(k:Int):=(by omega);have pE:(Hf b1 2 2).length=2:=Jf _ _ _;generalize tw.text (H3 wj)=TX at *;generalize (tw.dig (H3 wj)).data.toList=DG at *;have a1:=JO PF (Hf b1 2 2) (by omega);have a2:=JO (PF++Hf b1 2 2) DG (by rw[Qe];omega);clear iK nF hv hu pE hdl;obtain⟨c0,c1,c2,c3⟩:=kX.o wr HT.o;go_upto_region 15 with(first
       | (go_at_call 166;refine(HFK.o _ (Te _ _)).mono ?_;rintro _ w3⟨rfl,Hs⟩;have Hb:J (M D wr w3):=Hs;clear c0 c1 c2 c3;obtain⟨c0,c1,c2,c3⟩:=kX.o w3 (HT.o.go Hs);clear Hs)
       | (go_at_call 105;refine(js.o _).mono ?_;rintro _ w4⟨rfl,Hu⟩;have Hm:J (M D wr w4):=Hb.o.go Hu;clear Hu)
       | (go_at_call 253;refine(yS.o _).mono ?_;rintro _ w5⟨rfl,kR⟩;have kD:J (M D wr w5):=Hm.o.go kR;clear kR))
      clear c0 c1 c2 c3;obtain⟨c0,c1,c2,c3⟩:=kX.o w5 (HT.o.go kD.o);go_cut [14] (λv14 wx=>v14=L ⟨TX.toArray⟩/\J (M D wr wx))
      case first=>
       go_region_held3 (λV=>V.cell? ⟨rb,0,Y⟩=Z (O I (wj:Int))) (go_keep) ((first
        | (go_at_call 167;refine(uO.o _ u (kD.o.go (Td _ w5 1))).mono ?_;rintro _ w6⟨a',k',c',rfl,hR6,jN⟩;have bg:J (RhAt w6 (R a' k' c') _):=hR6.2;have kz:J (M D wr w6):=kD.o.go ((Td D w5 1).go jN);obtain⟨_,_,d2,_⟩:=kX.o w6 (HT.o.go kz.o);clear hR6 jN)
        | (go_at_call 106;refine(sw.o _ _ bg.o).mono ?_;rintro _ w7⟨rfl,gJ⟩;have gx:J (M D wr w7):=kz.o.go gJ;obtain⟨_,_,e2,_⟩:=kX.o w7 (HT.o.go gx.o);clear gJ)))
       all_goals go_wp2;go_meet;exact⟨rfl,gx⟩
      case rest=>
      obtain⟨rfl,gx⟩:=hcut;obtain⟨w7,tl⟩:∃w7,w7=wc:=⟨wc,rfl⟩
      subst tl;clear c0 c1 c2 c3;obtain⟨c0,c1,c2,c3⟩:=kX.o w7 (HT.o.go gx.o);go_upto_region 16 with fail;go_cut [10] (λv10 wx=>v10=L ⟨(PF++Hf b1 2 2++DG).toArray⟩/\J (M D wr wx))
      case first=>
       go_region_held3 (λV=>V.cell? ⟨rb,0,Y⟩=Z (O I (wj:Int))) (go_keep) ((first
        | (go_at_call 171;refine(iL.o _).mono ?_;rintro _ w8⟨rfl,jt⟩;have gW:J (M D wr w8):=(by first|exact gx.o.go ((Td D w7 1).go jt)|exact j8.o.go jt);obtain⟨_,_,d2,_⟩:=kX.o w8 (HT.o.go gW.o);clear jt)
        | (go_at_call 103;refine(jR.o _).mono ?_;rintro _ w9⟨rfl,jX⟩;have j8:J (M D wr w9):=(by first|exact gx.o.go ((Td D w7 1).go jX)|exact gW.o.go jX);obtain⟨_,_,e2,_⟩:=kX.o w9 (HT.o.go j8.o);clear jX)))
       all_goals go_wp2;go_meet;exact⟨by first|rfl|rw[Qs],by first|exact j8.o|exact gW.o⟩
      case rest=>
      obtain⟨rfl,j8⟩:=hcut;obtain⟨w9,eM⟩:∃w9,w9=wc:=⟨wc,rfl⟩
      subst eM;clear c0 c1 c2 c3;go_wp2_with (go_at_call 167;refine(uO.o _ v j8.o).mono ?_;rintro _ qN⟨a',k',c',rfl,iM,qG⟩;have jO:J (_/\_):=iM;have pz:J (M D wr qN):=j8.o.go qG;clear iM qG);go_roundw
      case rel=>exact⟨a',k',c',sidL l b1 v,tv,H4++[(b1,tw.dig (H3 wj))],_,pn+1,rfl,rfl,by go_num,by have:=sv.o.1;have:=jO.o.1;omega,⟨by rw[HFN.o,dx.o.1,Qs],by rw[Qe,dx.o.2];rfl⟩,jO.o.1,jO.o.2,HBV.o,HWN.o,HT.o.go pz.o⟩
      case measure=>simp[Jpx];have:=sv.o.1;have:=jO.o.1;omega
     ·obtain⟨h1,qB⟩:∃h1,l=[h1]:=by
       match l,gd.o,xp.o with
       | [x],_,_=>exact⟨x,rfl⟩
       | [],_,B=>exact absurd (JbW B) (by simp)
       | x::y::r,e,_=>simp at e;omega
      subst qB;obtain⟨k1,o1,rfl⟩:∃k1 o1,t=.leaf k1 o1:=by
       cases t using Tr.ri with
       | leaf k1 o1=>exact⟨k1,o1,rfl⟩
       | br b1 lt rt=>exact absurd (Jdt xp.o).1.two (by simp[koR])
      obtain⟨h2,e2,e3,e4⟩:=JcA xp.o
      cases e2
      have yF:=xp.o.ok h1 (by simp);have qL:k=1:=(by have:=gd.o;simp at this;omega);subst qL
      rcases aa.o with⟨_,e⟩|⟨gi,oi,c',e,⟨kp,_⟩,Ho⟩
      ·cases e
      simp only[Qy]at e;obtain⟨rfl,e9,rfl⟩:=e;have xl:J (∀V,M D wr V->V.cell? ⟨gi,oi,Y⟩=Z (L (keyS h1.1))/\V.cell? ⟨gi,oi+1,Y⟩=Z (O aD ((h1.2.1:Nat):Int))/\V.cell? ⟨gi,oi+2,Y⟩=Z (O aE ((h1.2.2:Nat):Int))):=λV hV=>by
       have:=(Ho 0 (by simp)).tch hV kp (λe=>e);simp only[Nat.zero_mul,Nat.add_zero,List.getElem_cons_zero]at this;exact this
      have iL:J (∀V,_):=λV=>XU pn 2 V (by omega);have vj:J (∀V,_):=λV=>JcN h1.2.1 h1.2.2 V yF.2.2;have jB:J (kT (YS (H3 wj) key (Z t1))=Hf pn 2 2++PF++Jc h1.1++outB (h1.2.1,h1.2.2)):=by
       show _=_;have h5:YS (H3 wj) key (Z t1)=(H4,Z (k1,o1)):=by unfold YS;simp only[uD.o,Tr.way,QC]
       rw[h5,<-e3,<-e4];unfold kT endB;simp only[dx.o.1,dx.o.2,Qs]
      have ju:(Jc h1.1).length=wj+1:=Xu yF.1;have hp64:IntKind.u64.wrap (pn:Int)=(pn:Int):=(by simp[IntKind.wrap,IntKind.bits,IntKind.signed];omega);have a1:=JO (Hf pn 2 2) PF (by rw[Jf];omega);have a2:=JO (Hf pn 2 2++PF) (Jc h1.1) (by rw[Qe,Jf,ju];omega);have a3:=JO (Hf pn 2 2++PF++Jc h1.1) (outB (h1.2.1,h1.2.2)) (by rw[Qe,Qe,Jf,ju,Jb8];omega);obtain⟨d0,d1,d2⟩:=xl.o wr (Te _ _);unfold keyS at d0 xl;generalize Jc h1.1=CB at *;generalize outB (h1.2.1,h1.2.2)=OB at *;generalize Hf pn 2 2++PF++CB++OB=P3 at *;generalize Hf pn 2 2++PF++CB=P2 at *;generalize Hf pn 2 2++PF=P1 at *;clear Ho e3 e4 ju dx e9 yF;generalize h1.2.1=oa at *;generalize h1.2.2=oo at *;go_upto_region 19 with fail;go_region_held3 (λV=>V.cell? ⟨gi,oi,Y⟩=Z (L ⟨CB.toArray⟩)/\V.cell? ⟨gi,oi+1,Y⟩=Z (O aD (oa:Int))/\V.cell? ⟨gi,oi+2,Y⟩=Z (O aE (oo:Int))) (go_keep) ((first
       | (go_at_call 171;refine(iL.o _).mono ?_;rintro _ w8⟨rfl,jt⟩;have gW:J (M D wr w8):=(by first|exact(Td D wr 1).go jt|exact j8.o.go jt);obtain⟨x0,x1,x2⟩:=xl.o w8 gW.o;clear jt)
       | (go_at_call 164;refine(vj.o _).mono ?_;rintro _ w9⟨rfl,jX⟩;have j8:J (M D wr w9):=(by first|exact(Td D wr 1).go jX|exact gW.o.go jX);obtain⟨y0,y1,y2⟩:=xl.o w9 j8.o;clear jX)))
      all_goals go_wp2;go_ret2;exact⟨by rw[qE.o.1,qE.o.2,jB.o];rfl,kJ.o.go (HT.o.go (by first|exact j8.o|exact gW.o))⟩
  ·have hcf:XZ wj c=false:=(by simpa using hcd);rw[hcf]at xG;have qE:J (QA=⟨#[]⟩/\QB=1):=by
    have:=HQ.o;unfold Zq at this;rw[if_pos hk,if_neg hcd]at this
    cases this
    exact⟨rfl,rfl⟩
   obtain⟨s,aZ⟩:=c;simp only at xG kX HW ⊢;obtain⟨va,vc,un⟩:∃a c,vL=R a lv.length c:=(h.lvs.at (λe=>by have:=h.len;rw[e]at this;simp at this;omega)).elim λg ⟨cap,e,_⟩=>⟨_,_,e⟩
   subst un;clear h HQ hc t0 rW hW;go_enter func184,ntmps184;go_upto_region 1 with fail;rw[<-HW.o];go_wp2_with fail;refine(pg.o W (Te _ _)).mono ?_;rintro _ w1⟨rfl,H9⟩;have H5:J (M D W w1):=H9;obtain⟨c0,c1,c2,_⟩:=kX.o w1 H9;clear H9;go_upto_region 4 with fail;go_cut [8] (λv8 wx=>v8=aL false/\J (M D w1 wx))
   case first=>
    go_region_held3 (λV=>V.cell? ⟨w.heap.size,0,Y⟩=Z (L s)/\V.cell? ⟨w.heap.size,1,Y⟩=Z (O I aZ)/\V.cell? ⟨rb,0,Y⟩=Z (O I (wj:Int))) (go_keep) ((go_at_call 257;refine(xG.o _).mono ?_;rintro _ w2⟨rfl,Ha⟩;have H6:J (M D w1 w2):=(Td D w1 1).go Ha;obtain⟨d0,d1,d2,_⟩:=kX.o w2 (H5.o.go H6.o);clear Ha))
    all_goals go_wp2;go_meet;exact⟨rfl,H6⟩
   case rest=>
   obtain⟨rfl,H6⟩:=hcut;obtain⟨w2,xd⟩:∃w2,w2=wc:=⟨wc,rfl⟩
   subst xd;clear c0 c1 c2;go_wp2;go_ret2;exact⟨by rw[qE.o.1,qE.o.2];rfl,kJ.o.go (H5.o.go H6.o)⟩
 ·have iI:decide (0<=n/\n<(ch.length:Int))=false:=decide_eq_false hk;rw[iI]at pg;have qE:J (QA=⟨#[]⟩/\QB=7):=by
   have:=HQ.o;unfold Zq at this;rw[if_neg hk]at this
   cases this
   exact⟨rfl,rfl⟩
  obtain⟨s,aZ⟩:=c;simp only at xG kX HW ⊢;clear h HQ hc t0 rW hW;go_enter func184,ntmps184;go_upto_region 1 with fail;rw[<-HW.o];go_wp2_with fail;refine(pg.o W (Te _ _)).mono ?_;rintro _ w1⟨rfl,H9⟩;have H5:J (M D W w1):=H9;clear H9;go_wp2;go_ret2;exact⟨by rw[qE.o.1,qE.o.2];rfl,kJ.o.go H5.o⟩

theorem Jos(E:Nat->Addr)(wj base:Nat)(n:Nat)(c':BA×Option Tr)(c:BA×Int)(hr: -9223372036854775808<=c.2/\c.2<9223372036854775808)(hA:LAt wj base pn w lb F fl ch)(hF:Xt E base w)(hn:ch[n]? =Z c')(hf:fl<=n)(hc:¬Jj wj c):
  aB Tryz.prog 24 #[X (Z ⟨lb,0,Y⟩),O I (n:Int),aH #[L c.1,O I c.2]] w λe w'=>e=aC (aI #[L ⟨#[]⟩,O I 1])/\M D w w':=by
 obtain⟨⟨_,hw⟩,lg,cb,r,bs,lv,C⟩:=hA;have hl:=rows C.led;have jb:=(Qo.1 hn).1;have hb:bs[n]? =Z (bs[n]'(by rw[C.len];exact jb)):=Qd _;obtain⟨h1,h2,h3⟩:=C.st n _ c' hb hn hf;exact JdM (λw' k=>hF.next k) .form hl (n:Int) c (λW hT=>Jm2 E (hF.tch hT (λ_ e=>e.elim)).env (C.row.next hT) n _ hb hf hw h1 c hr hc)
theorem Jft(E:Nat->Addr)(wj base:Nat)(n:Int)(c:BA×Int)(hr: -9223372036854775808<=c.2/\c.2<9223372036854775808)(hA:LAt wj base pn w lb F 0 ch)(hF:Xt E base w)(dy:∀(k:Nat) c',ch[k]? =Z c'->∀t,c'.2=Z t->t.Wf):
  aB Tryz.prog 24 #[X (Z ⟨lb,0,Y⟩),O I n,aH #[L c.1,O I c.2]] w λe w'=>e=aC (aI #[L (Zq wj ch n c).1,O I (Zq wj ch n c).2])/\M D w w':=by
 unfold Zq
 by_cases h:0<=n/\n<(ch.length:Int)
 ·rw[if_pos h];obtain⟨k,rfl⟩:=lC h.1;have hk:k<ch.length:=by omega
  have hn:ch[k]? =Z (ch[k]):=Qd hk
  by_cases hc:XZ wj c=true
  ·rw[if_pos hc,lD];have e:ch.getD k (⟨#[]⟩,Y)=ch[k]:=(by simp[hk]);rw[e];refine Jor E wj base k _ c hA hF hn (lQ _) ?_ ((Yc _ _).1 hc);obtain⟨⟨_,hw⟩,lg,cb,r,bs,lv,C⟩:=hA;have hb:bs[k]? =Z (bs[k]'(by rw[C.len];exact hk)):=Qd _;obtain⟨h1,h2,h3⟩:=C.st k _ _ hb hn (lQ _);exact λt ht=>⟨dy k _ hn t ht,by rw[ht]at h3;exact h3⟩
  ·rw[if_neg hc];exact Jos E wj base k _ c hr hA hF hn (lQ _) (λh=>hc ((Yc _ _).2 h))
 ·rw[if_neg h];exact JmA E wj base n c hA hF (by simpa using h)

theorem Jg3(hD:DgC)(E:Nat->Addr)(hF:Xt E base w)(h:Duo base w n lb rb F G)(hn:n<=900000)(wb:Nat)(x:OpL)(hk:x.kind=8)(ra: -9223372036854775808<=x.a/\x.a<9223372036854775808)(rc: -9223372036854775808<=x.cn/\x.cn<9223372036854775808)(pK:x.cx.size<=9223372036854775807):
  aB Tryz.prog 120 #[X (Z ⟨wb,0,Y⟩),X (Z ⟨lb,0,Y⟩),X (Z ⟨rb,0,Y⟩),opV x] w λe w'=>e=aC (aL true)/\M D w w':=by
 obtain⟨w0,(xF:J _),(kJ:J _),(kN:J _)⟩:=Jba w x;obtain⟨wj,ch,vL,lv,b,h1,h2,h3,h4⟩:=h;have dy:∀(k:Nat) c',ch[k]? =Z c'->∀t,c'.2=Z t->t.Wf:=λk c' hc t ht=>by
  have iN:=(Qo.1 hc).1;obtain⟨l, -,p2, -⟩:=h2.coins k _ c' (Qd (by rw[h2.len.1];exact iN)) hc;exact p2.wf t ht
 have mK:J (∀V,M D w V->_):=λV hV=>Jft E wj base x.a (x.cx,x.cn) rc (h1.keep hV (λ_ e=>e.elim)) (hF.tch hV (λ_ e=>e.elim)) dy;have qE:J (∀V,M D w V->_):=λV hV=>JjY hD h1.1.1 h1.1.2 (h2.tch hV (λ_ e=>e.elim)) (by omega) x.a ra (x.cx,x.cn) pK;obtain⟨QA,QB,hQ⟩:∃QA QB,Zq wj ch x.a (x.cx,x.cn)=(QA,QB):=⟨_,_,rfl⟩
 rw[hQ]at mK qE;clear hF h1 h2 h3 h4 dy hQ ra rc pK;obtain⟨kind,a,b',which,s,t,u,cx,cn,⟨oa,on,oc⟩,⟨ta,tn,tc⟩⟩:=x;simp only at hk;subst hk;simp only[BoxC]at *;go_enter Tryz.func120,Tryz.ntmps120;go_upto_region 1 with fail;rw[<-xF.o];obtain⟨c0,c1,c2,c3,c4,c5,c6,c7,c8,c9,c10⟩:=kN w0 _ (Te D _) (λ_ e=>e.elim);go_upto_region 2 with(go_at_call 24;refine(mK _ kJ).mono ?_;rintro _ w1⟨rfl,(H5:J _)⟩);obtain⟨c0,c1,c2,c3,c4,c5,c6,c7,c8,c9,c10⟩:=kN w1 _ H5 (λ_ e=>e.elim);go_upto_region 3 with(go_at_call 184;refine(qE _ (kJ.go H5)).mono ?_;rintro _ w2⟨rfl,Ha⟩;have H6:J _:=H5.go Ha);obtain⟨c0,c1,c2,c3,c4,c5,c6,c7,c8,c9,c10⟩:=kN w2 _ H6 (λ_ e=>e.elim);go_wp2_with (go_at_call 66;refine(Jb2 _ _).mono ?_;rintro _ _⟨rfl,rfl⟩);go_ret;exact⟨rfl,kJ.go H6⟩

theorem Jg4(hD:DgC)(E:Nat->Addr)(hF:Xt E base w)(h:Duo base w n lb rb F G)(hn:n<=900000)(wb:Nat)(x:OpL)(hk:x.kind=9)(nS:Ast w)(rb': -9223372036854775808<=x.b/\x.b<9223372036854775808)(ra: -9223372036854775808<=x.a/\x.a<9223372036854775808)(rc: -9223372036854775808<=x.cn/\x.cn<9223372036854775808)(pK:x.cx.size<=9223372036854775807):
  aB Tryz.prog 120 #[X (Z ⟨wb,0,Y⟩),X (Z ⟨lb,0,Y⟩),X (Z ⟨rb,0,Y⟩),opV x] w λe w'=>e=aC (aL true)/\M D w w':=by
 obtain⟨w0,(xF:J _),(kJ:J _),(kN:J _)⟩:=Jba w x;obtain⟨wj,ch,vL,lv,b,h1,h2,h3,h4⟩:=h;have dy:∀(k:Nat) c',ch[k]? =Z c'->∀t,c'.2=Z t->t.Wf:=λk c' hc t ht=>by
  have iN:=(Qo.1 hc).1;obtain⟨l, -,p2, -⟩:=h2.coins k _ c' (Qd (by rw[h2.len.1];exact iN)) hc;exact p2.wf t ht
 have mK:J (∀V,M D w V->_):=λV hV=>Jft E wj base x.a (x.cx,x.cn) rc (h1.keep hV (λ_ e=>e.elim)) (hF.tch hV (λ_ e=>e.elim)) dy;have qE:J (∀V,M D w V->_):=λV hV=>JjY hD h1.1.1 h1.1.2 (h2.tch hV (λ_ e=>e.elim)) (by omega) x.a ra (x.cx,x.cn) pK;obtain⟨QA,QB,hQ⟩:∃QA QB,Zq wj ch x.a (x.cx,x.cn)=(QA,QB):=⟨_,_,rfl⟩
 rw[hQ]at mK qE;have HH2:J (∀V,M D w V->_):=λV hV=>JhI h1.1.2 (h2.tch hV (λ_ e=>e.elim)) (by omega) x.a ra.1 ra.2;have Hp:QB=0->QA.size<=1000000/\(ZF ch x.a).size<=1000000:=λe0=>by
  subst e0;unfold Zq at hQ
  split at hQ
  ·rename_i gV
   split at hQ
   ·rename_i hcd;obtain⟨k,iN⟩:=lC gV.1;have ju:k<ch.length:=(by omega);have hg:=Qd ju;have qS:k<lv.length:=(by rw[h2.len.1];exact ju);have hd:=h2.hdr k _ _ (Qd qS) hg;obtain⟨l, -,p2, -⟩:=h2.coins k _ _ (Qd qS) hg;have e1:ch.getD x.a.toNat (⟨#[]⟩,Y)=ch[k]:=(by rw[iN,lD];simp[ju]);constructor
    ·have tO:=Jcj (H3 wj) wj (Jk wj h1.1.2) (Jc (x.cx,x.cn)) (ch[k]).2 (λt e=>⟨p2.wf t e,by have:=Jae _ _ (e ▸ p2:Book wj (Z t) l);exact this⟩);have tU:=JnO tO;have hm:8*(wj+1)*(2+wj)<=264*34:=Nat.mul_le_mul (by have:=h1.1.2;omega) (by have:=h1.1.2;omega);have:=congrArg lR hQ;simp only at this;rw[<-this,e1,Ji];have:=h1.1.2;omega
    ·unfold ZF;rw[if_pos gV.1,e1,hd.2,Ji];obtain⟨q1,q2,q3,q4⟩:=hd.1;unfold Ht;simp only[Qe,Jf,Array.length_toList];have r2:∀y:BA,y.data.size=y.size:=λ_=>rfl;rw[r2,r2,r2,q2,q3,q4];have:=h1.1.2;omega
   ·cases hQ
  ·cases hQ
 have iH:J (∀(H aY:BA),H.size<=1000000->aY.size<=1000000->∀V,M D w V->_):=λH aY hH hT V hV=>JdW hD E (wj:Int) (by have:=h1.1.2;omega) H (by omega) (x.cx,x.cn) pK rc aY (by omega) V (hF.tch hV (λ_ e=>e.elim)).env (nS.tch hV (λh=>h));have pL:J (∀V,M D w V->V.cell? ⟨rb,0,Y⟩=Z (O I (wj:Int))):=λV hV=>Ja (h2.tch hV (λ_ e=>e.elim)).row;have ul:J (QA.size<=1000000->_):=λhz=>Jmw QA hz x.b 1 rb'.1 rb'.2;have yG:J _:=Hp;generalize ZF ch x.a=HD at *;generalize (if 0<=x.a/\x.a<(ch.length:Int) then (0:Int) else 7)=nX at *;clear hF h1 h2 h3 h4 dy hQ ra rc pK;obtain⟨kind,a,b',which,s,t,u,cx,cn,⟨oa,on,oc⟩,⟨ta,tn,tc⟩⟩:=x;simp only at hk;subst hk;simp only[BoxC]at *;go_enter Tryz.func120,Tryz.ntmps120;go_upto_region 1 with fail;rw[<-xF.o];obtain⟨c0,c1,c2,c3,c4,c5,c6,c7,c8,c9,c10⟩:=kN w0 _ (Te D _) (λ_ e=>e.elim);go_upto_region 2 with(go_at_call 24;refine(mK _ kJ).mono ?_;rintro _ w1⟨rfl,(H5:J _)⟩);obtain⟨c0,c1,c2,c3,c4,c5,c6,c7,c8,c9,c10⟩:=kN w1 _ H5 (λ_ e=>e.elim);go_upto_region 3 with(go_at_call 184;refine(qE _ (kJ.go H5)).mono ?_;rintro _ w2⟨rfl,Ha⟩;have H6:J _:=H5.go Ha);obtain⟨c0,c1,c2,c3,c4,c5,c6,c7,c8,c9,c10⟩:=kN w2 _ H6 (λ_ e=>e.elim)
 by_cases pj:QB=0
 ·subst pj;obtain⟨z1,z2⟩:=yG rfl;obtain⟨q,hqs,(jo:J _)⟩:=ul z1;have hqs2:q.size<=1000000:=by omega
  clear hqs;go_upto_region 8 with(first|(go_at_call 66;refine(Jb2 _ _).mono ?_;rintro _ _⟨rfl,rfl⟩)|(go_at_call 119;refine(HH2 _ (kJ.go H6)).mono ?_;rintro _ w3⟨rfl,Hs⟩;have Hb:J _:=H6.go Hs));obtain⟨c0,c1,c2,c3,c4,c5,c6,c7,c8,c9,c10⟩:=kN w3 _ Hb (λ_ e=>e.elim)
  by_cases hb0:0<b'
  ·go_upto_region 10 with(go_at_call 182;refine(jo _).mono ?_;rintro _ w4⟨rfl,Hu⟩;have Hm:J _:=Hb.go Hu);obtain⟨d0,d1,d2,d3,d4,d5,d6,d7,d8,d9,d10⟩:=kN w4 _ Hm (λ_ e=>e.elim);have dw:=pL w4 (kJ.go Hm);go_upto_region 10 with fail;go_region_held3 (λV=>V.cell? ⟨rb,0,Y⟩=Z (O I (wj:Int))/\V.cell? ⟨w.heap.size,7,Y⟩=Z (L cx)/\V.cell? ⟨w.heap.size,8,Y⟩=Z (O I cn)) (go_keep) ((go_at_call 114;refine(iH _ _ z2 hqs2 _ (kJ.go (Hm.go (Td _ _ 1)))).mono ?_;rintro _ w9⟨rfl,jX⟩;have j8:J _:=(Hm.go (Td _ _ 1)).go jX;obtain⟨_,_,_,_,_,_,_,f7,f8,_,_⟩:=kN w9 _ j8 (λ_ e=>e.elim);have fw:=pL w9 (kJ.go j8)))
   all_goals go_wp2;go_ret;exact⟨rfl,kJ.go j8⟩
  ·have dummy:=Hb;obtain⟨d0,d1,d2,d3,d4,d5,d6,d7,d8,d9,d10⟩:=kN w3 _ Hb (λ_ e=>e.elim);have dw:=pL w3 (kJ.go Hb);go_upto_region 10 with fail;go_region_held3 (λV=>V.cell? ⟨rb,0,Y⟩=Z (O I (wj:Int))/\V.cell? ⟨w.heap.size,7,Y⟩=Z (L cx)/\V.cell? ⟨w.heap.size,8,Y⟩=Z (O I cn)) (go_keep) ((go_at_call 114;refine(iH _ _ z2 z1 _ (kJ.go (Hb.go (Td _ _ 1)))).mono ?_;rintro _ w9⟨rfl,jX⟩;have j8:J _:=(Hb.go (Td _ _ 1)).go jX;obtain⟨_,_,_,_,_,_,_,f7,f8,_,_⟩:=kN w9 _ j8 (λ_ e=>e.elim);have fw:=pL w9 (kJ.go j8)))
   all_goals go_wp2;go_ret;exact⟨rfl,kJ.go j8⟩
 ·have eC:=beq_eq_false_iff_ne.2 pj;go_wp2_with (go_at_call 66;refine(Jb2 _ _).mono ?_;rintro _ _⟨rfl,rfl⟩);go_ret;exact⟨rfl,kJ.go H6⟩

theorem Jmf(hD:DgC)(E:Nat->Addr)(hF:Xt E base w)(h:Duo base w n lb rb F G)(hn:n<=900000)(wb:Nat)(x:OpL)(hk:x.kind=8\/x.kind=9)(nS:Ast w)(rb': -9223372036854775808<=x.b/\x.b<9223372036854775808)(ra: -9223372036854775808<=x.a/\x.a<9223372036854775808)(rc: -9223372036854775808<=x.cn/\x.cn<9223372036854775808)(pK:x.cx.size<=9223372036854775807):
  aB N 71 #[X (Z ⟨wb,0,Y⟩),X (Z ⟨lb,0,Y⟩),X (Z ⟨rb,0,Y⟩),opV x] w λe w'=>e=aC (aL true)/\M D w w':=by
 obtain⟨w0,(xF:J _),(kJ:J _),jZ⟩:=Jba w x;have fT:J (aB N 120 #[X (Z ⟨wb,0,Y⟩),X (Z ⟨lb,0,Y⟩),X (Z ⟨rb,0,Y⟩),opV x] w0 λe w'=>e=aC (aL true)/\M D w0 w'):=by
  rcases hk with e|e
  ·exact Jg3 hD E (hF.tch kJ (λ_ e=>e.elim)) (h.tch kJ (λ_ e=>e.elim)) hn wb x e ra rc pK
  ·exact Jg4 hD E (hF.tch kJ (λ_ e=>e.elim)) (h.tch kJ (λ_ e=>e.elim)) hn wb x e (nS.tch kJ (λh=>h)) rb' ra rc pK
 have kN:J (BoxC w0 w.heap.size x):=jZ w0 D (Te _ _) (λ_ e=>e.elim);clear hF jZ h rb' ra rc pK nS;obtain⟨kind,a,b',which,s,t,u,cx,cn,⟨oa,on,oc⟩,⟨ta,tn,tc⟩⟩:=x;simp only at hk;simp only[BoxC]at *;go_enter func71,ntmps71;go_upto_region 1 with fail;rw[<-xF.o];obtain⟨c0,c1,c2,c3,c4,c5,c6,c7,c8,c9,c10⟩:=kN.o
 rcases hk with rfl|rfl
 all_goals go_wp2_with fail;refine fT.mono ?_;rintro _ w1⟨rfl,(H5:J _)⟩;go_wp2;go_ret;exact⟨rfl,kJ.go H5⟩

theorem Jop{gP gQ:aG}(h:w.heap[wb]? =Z (T #[gP,gQ,R Y 0 0,R Y 0 0] 71)):
  aB N 35 #[X (Z ⟨wb,0,Y⟩)] w λe w'=>e=aC (aL true)/\M D w w':=by
 have c2:w.cell? ⟨wb,2,Y⟩=Z (R Y 0 0):=Ja h;clear h;go_enter func35,ntmps35;go_wp2;go_loopw [3] (λi wx=>i=O I 0/\J (wx=w)) (λ_ _=>0)
 case atStart=>exact⟨rfl,by show _=_;rfl⟩
 case round=>obtain⟨rfl,HW⟩:=hrel;have hw:=HW.o;subst hw;go_wp2;go_ret;exact⟨rfl,Te _ _⟩
theorem JpX(E:Nat->Addr)(hF:Xt E base w)(h:WSt base w wb n vl vm)(hn:n<=900000)(jG:base<=w.heap.size)(x:OpL)(hk:x.kind<=11)(hA:Ast w)(hL:Alk w)(hx:OpOk base w x os ts sl):
  aB N 34 #[X (Z ⟨wb,0,Y⟩),opV x] w (WTo base w wb (n+1) vl vm):=by
 obtain⟨w0,(xF:J _),t0,(kN:J _)⟩:=Jba w x;have cD:J (x.kind=1\/x.kind=2\/x.kind=10\/x.kind=11->aB N 68 #[X (Z ⟨wb,0,Y⟩),opV x] w0 (WTo base w wb (n+1) vl vm)):=λhk=>(Jon E (hF.tch t0 (λ_ e=>e.elim)) (h.tch0 t0) hn (Qm jG t0.size) x hk (hA.tch t0 (λe=>e)) (hL.tch t0 (λe=>e)) (hx.tch t0 (λ_ e=>e.elim))).mono λe w' k=>⟨k.1,k.2.1,(t0.mono (λ_ e=>e.elim)).trans k.2.2 (λ_ e=>aM e)⟩
 have jW:J (∀V,M D w V->WTo base w wb (n+1) vl vm (aC (aL true)) V):=λV hV=>⟨rfl,(h.tch0 hV).up (by omega),hV.mono (λ_ e=>e.elim)⟩
 obtain⟨gP,gQ,ls,rs,c,hW⟩:=h;have um:=hW.few;obtain⟨va,vc,xm⟩:=hW.at'.ls.shape;obtain⟨ua,uc,hua⟩:=hW.at'.rs.shape;rw[QM]at xm hua;have HPK:J (0<ls.length->_):=λh0=>Jmx x.which ls.length hx.rw'.1 hx.rw'.2 h0 (by omega);have ac:J (∀(r:Nat),r<ls.length->∃lb rb gl gr,va=Z ⟨gl,0,Y⟩/\ua=Z ⟨gr,0,Y⟩/\(∀f,f=70\/f=71/\(x.kind=8\/x.kind=9)->∀V,M D w0 V->aB N f #[X (Z ⟨wb,0,Y⟩),X (Z ⟨lb,0,Y⟩),X (Z ⟨rb,0,Y⟩),opV x] V λe w'=>e=aC (aL true)/\(WSt base w' wb (n+1) vl vm/\M (λj=>base<=j) w w')/\(BoxC w' w.heap.size x/\w'.cell? ⟨wb,0,Y⟩=Z (R va ls.length vc)/\w'.cell? ⟨wb,1,Y⟩=Z (R ua ls.length uc)/\w'.cell? ⟨gl,r,Y⟩=Z (X (Z ⟨lb,0,Y⟩))/\w'.cell? ⟨gr,r,Y⟩=Z (X (Z ⟨rb,0,Y⟩))))/\∀V,M D w0 V->BoxC V w.heap.size x/\V.cell? ⟨wb,0,Y⟩=Z (R va ls.length vc)/\V.cell? ⟨wb,1,Y⟩=Z (R ua ls.length uc)/\V.cell? ⟨gl,r,Y⟩=Z (X (Z ⟨lb,0,Y⟩))/\V.cell? ⟨gr,r,Y⟩=Z (X (Z ⟨rb,0,Y⟩))):=λr hr=>by
  have Hw:r<rs.length:=by rw[<-hW.len];exact hr
  obtain⟨F,G,d1,d2,d3⟩:=hW.duo r _ _ (Qd hr) (Qd Hw);have e1:(ls.map ptrV)[r]? =Z (ptrV ls[r]):=by rw[lK,Qd hr];rfl
  have e2:(rs.map ptrV)[r]? =Z (ptrV rs[r]):=by rw[lK,Qd Hw];rfl
  obtain⟨gl,_,e3,_,_⟩:=hW.at'.ls.at r _ e1;obtain⟨gr,_,e4,_,_⟩:=hW.at'.rs.at r _ e2;have cE:=xm;have cF:=hua;rw[e3]at cE;rw[e4]at cF;simp only[Qy]at cE cF;have all:∀V S,M S w0 V->(∀j,S j->F j\/G j)->BoxC V w.heap.size x/\V.cell? ⟨wb,0,Y⟩=Z (R va ls.length vc)/\V.cell? ⟨wb,1,Y⟩=Z (R ua ls.length uc)/\V.cell? ⟨gl,r,Y⟩=Z (X (Z ⟨ls[r],0,Y⟩))/\V.cell? ⟨gr,r,Y⟩=Z (X (Z ⟨rs[r],0,Y⟩)):=λV S hV hS=>by
   have hA:=(hW.at'.tch t0 (λ_ e=>e.elim)).tch hV (λj hj o=>by
    have:=(hW.own j o).1
    rcases hS j hj with e|e
    ·have:=d2 j e;omega
    ·have:=d3 j e;omega)
   obtain⟨g1,k1,f1,_,q1⟩:=hA.ls.at r _ e1;obtain⟨g2,k2,f2,_,q2⟩:=hA.rs.at r _ e2;rw[e3]at f1;rw[e4]at f2;simp only[Qy,Qh,Addr.mk.injEq]at f1 f2;rw[<-f1.1.1]at q1;rw[<-f2.1.1]at q2;refine⟨kN V S hV (λj hj=>aM (d1.own j (hS j hj)).2),?_,?_,q1,q2⟩
   ·rw[<-xm];exact Ja hA.row
   ·rw[hW.len,<-hua];exact Ja hA.row
  refine⟨ls[r],rs[r],gl,gr,cE.1.symm,cF.1.symm,λf hf V hV=>?_,λV hV=>all V _ hV (λ_ e=>e.elim)⟩;have rC:=t0.go hV;have key:aB N f #[X (Z ⟨wb,0,Y⟩),X (Z ⟨ls[r],0,Y⟩),X (Z ⟨rs[r],0,Y⟩),opV x] V λe w'=>e=aC (aL true)/\Jdy base V n ls[r] rs[r] F G w':=by
   rcases hf with rfl|⟨rfl,h89⟩
   ·exact JiA E (hF.tch rC (λ_ e=>e.elim)) (d1.tch rC (λ_ e=>e.elim)) hn (Qm jG rC.size) wb x (hx.tch rC (λ_ e=>e.elim))
   ·exact(Jmf dgC E (hF.tch rC (λ_ e=>e.elim)) (d1.tch rC (λ_ e=>e.elim)) hn wb x h89 (hA.tch rC (λe=>e)) hx.rb hx.ra hx.rc hx.cx).mono λe w' k=>⟨k.1,(d1.tch rC (λ_ e=>e.elim)).to k.2⟩
  refine key.mono λe w' k=>⟨k.1,?_,all w' (λj=>F j\/G j) ((hV.mono (λ_ e=>e.elim)).trans k.2.1 (λ_ e=>aM e)) (λ_ e=>e)⟩
  have:=(hW.tch rC (λ_ e=>e.elim)).led (Qd hr) (Qd Hw) (d1.tch rC (λ_ e=>e.elim)) d2 d3 k.2;exact⟨this.1,(rC.mono (λ_ e=>e.elim)).trans this.2 (λ_ e=>aM e)⟩
 have HWB:J (∀V,M D w0 V->V.cell? ⟨wb,0,Y⟩=Z (R va ls.length vc)):=λV hV=>by
  rw[<-xm];exact Ja (hW.at'.tch (t0.go hV) (λ_ e=>e.elim)).row
 have kJ:J _:=t0;clear hF jG hx t0 xm hua hW hA hL;generalize ls.length=m at *;obtain⟨kind,a,b',which,s,t,u,cx,cn,⟨oa,on,oc⟩,⟨ta,tn,tc⟩⟩:=x;simp only[BoxC]at *;obtain⟨aW,hR⟩:∃aW,aW=WTo base w wb (n+1) vl vm:=⟨_,rfl⟩
 rw[<-hR]at cD jW ⊢;go_enter func34,ntmps34;go_upto_region 1 with fail;rw[<-xF.o];obtain⟨c0,c1,c2,c3,c4,c5,c6,c7,c8,c9,c10⟩:=kN w0 _ (Te D _) (λ_ e=>e.elim)
 by_cases k12:kind=1\/kind=2\/kind=10\/kind=11
 ·have HA:J (aB _ _ _ _ _):=cD k12
  rcases k12 with rfl|rfl|rfl|rfl
  all_goals
   go_wp2_with fail;refine HA.o.mono ?_;intro e w1 hr;obtain⟨rfl,(qR:J _)⟩:e=aC (aL true)/\aW e w1:=⟨by rw[hR]at hr;exact hr.1,hr⟩
   clear hr c0 c1 c2 c3 c4 c5 c6 c7 c8 c9 c10;go_wp2;exact qR.o
 ·have k1:¬kind=1:=λe=>k12 (aM e);have k2:¬kind=2:=by omega
  have k10:¬kind=10:=by omega
  have k11:¬kind=11:=by omega
  have k14:¬kind=14:=by omega
  have k18:¬kind=18:=by omega
  have k19:¬19<kind:=by omega
  have b0:=HWB w0 (Te _ _)
  by_cases hm:m=0
  ·subst hm;go_wp2;rw[<-hR];exact jW _ kJ.o
  ·have pX:¬(m:Int)=0:=by omega
   by_cases qL:kind<1
   ·go_wp2;rw[<-hR];exact jW _ kJ.o
   ·obtain⟨r,hr,(fT:J _)⟩:=HPK (by omega);obtain⟨lb,rb,gl,gr,rfl,rfl,(qA:J _),(jo:J _)⟩:=ac r hr;have hri:(r:Int)<(m:Int):=(by omega);go_upto_region 11 with fail;go_cut [5] (λv5 wx=>v5=O I (r:Int)/\J (M D w0 wx))
    case first=>
     go_region_held3 (λV=>V.cell? ⟨w.heap.size,3,Y⟩=Z (O I which)/\V.cell? ⟨wb,0,Y⟩=Z (R (Z ⟨gl,0,Y⟩) m vc)) (go_keep) ((go_at_call 69;refine(fT _).mono ?_;rintro _ aX⟨rfl,hX⟩;rw[hX]))
     all_goals go_wp2;go_meet;exact⟨rfl,Td _ _ 1⟩
    case rest=>
    obtain⟨rfl,H5⟩:=hcut;obtain⟨w1,Hn⟩:∃w1,w1=wc:=⟨wc,rfl⟩
    subst Hn;obtain⟨⟨c0,c1,c2,c3,c4,c5,c6,c7,c8,c9,c10⟩,b0,b1,b2,b3⟩:=jo w1 H5.o
    by_cases hk7:kind<=7
    ·have kf:J _:=qA _ (aM rfl);go_upto_region 13 with fail;go_region_held3 (λV=>(V.cell? ⟨w.heap.size,0,Y⟩=Z (O I kind)/\V.cell? ⟨w.heap.size,1,Y⟩=Z (O I a)/\V.cell? ⟨w.heap.size,2,Y⟩=Z (O I b')/\V.cell? ⟨w.heap.size,3,Y⟩=Z (O I which)/\V.cell? ⟨w.heap.size,4,Y⟩=Z (L s)/\V.cell? ⟨w.heap.size,5,Y⟩=Z (L t)/\V.cell? ⟨w.heap.size,6,Y⟩=Z (L u)/\V.cell? ⟨w.heap.size,7,Y⟩=Z (L cx)/\V.cell? ⟨w.heap.size,8,Y⟩=Z (O I cn)/\V.cell? ⟨w.heap.size,9,Y⟩=Z (R oa on oc)/\V.cell? ⟨w.heap.size,10,Y⟩=Z (R ta tn tc))/\V.cell? ⟨wb,0,Y⟩=Z (R (Z ⟨gl,0,Y⟩) m vc)/\V.cell? ⟨wb,1,Y⟩=Z (R (Z ⟨gr,0,Y⟩) m uc)/\V.cell? ⟨gl,r,Y⟩=Z (X (Z ⟨lb,0,Y⟩))/\V.cell? ⟨gr,r,Y⟩=Z (X (Z ⟨rb,0,Y⟩))) (go_keep) ((go_at_call 70;refine(kf _ (H5.go (Td _ w1 1))).mono ?_;rintro _ w2⟨rfl,(jK:J _),hc2⟩;obtain⟨⟨y0,y1,y2,y3,y4,y5,y6,y7,y8,y9,y10⟩,z0,z1,z2,z3⟩:=hc2))
     all_goals go_wp2;rw[hR];exact⟨rfl,jK⟩
    ·have hk89:kind=8\/kind=9:=(by omega);have kf:J _:=qA _ (aN ⟨rfl,hk89⟩);go_upto_region 13 with fail;go_region_held3 (λV=>(V.cell? ⟨w.heap.size,0,Y⟩=Z (O I kind)/\V.cell? ⟨w.heap.size,1,Y⟩=Z (O I a)/\V.cell? ⟨w.heap.size,2,Y⟩=Z (O I b')/\V.cell? ⟨w.heap.size,3,Y⟩=Z (O I which)/\V.cell? ⟨w.heap.size,4,Y⟩=Z (L s)/\V.cell? ⟨w.heap.size,5,Y⟩=Z (L t)/\V.cell? ⟨w.heap.size,6,Y⟩=Z (L u)/\V.cell? ⟨w.heap.size,7,Y⟩=Z (L cx)/\V.cell? ⟨w.heap.size,8,Y⟩=Z (O I cn)/\V.cell? ⟨w.heap.size,9,Y⟩=Z (R oa on oc)/\V.cell? ⟨w.heap.size,10,Y⟩=Z (R ta tn tc))/\V.cell? ⟨wb,0,Y⟩=Z (R (Z ⟨gl,0,Y⟩) m vc)/\V.cell? ⟨wb,1,Y⟩=Z (R (Z ⟨gr,0,Y⟩) m uc)/\V.cell? ⟨gl,r,Y⟩=Z (X (Z ⟨lb,0,Y⟩))/\V.cell? ⟨gr,r,Y⟩=Z (X (Z ⟨rb,0,Y⟩))) (go_keep) ((go_at_call 71;refine(kf _ (H5.go (Td _ w1 1))).mono ?_;rintro _ w2⟨rfl,(jK:J _),hc2⟩;obtain⟨⟨y0,y1,y2,y3,y4,y5,y6,y7,y8,y9,y10⟩,z0,z1,z2,z3⟩:=hc2))
     all_goals go_wp2;rw[hR];exact⟨rfl,jK⟩

def JlD(V:aA)(g o:Nat)(x:OpL):Prop:=V.cell? ⟨g,o,Y⟩=Z (O I x.kind)/\V.cell? ⟨g,o+1,Y⟩=Z (O I x.a)/\V.cell? ⟨g,o+2,Y⟩=Z (O I x.b)/\V.cell? ⟨g,o+3,Y⟩=Z (O I x.which)/\V.cell? ⟨g,o+4,Y⟩=Z (L x.s)/\V.cell? ⟨g,o+5,Y⟩=Z (L x.t)/\V.cell? ⟨g,o+6,Y⟩=Z (L x.u)/\V.cell? ⟨g,o+7,Y⟩=Z (L x.cx)/\V.cell? ⟨g,o+8,Y⟩=Z (O I x.cn)/\V.cell? ⟨g,o+9,Y⟩=Z (R x.os.1 x.os.2.1 x.os.2.2)/\V.cell? ⟨g,o+10,Y⟩=Z (R x.ts.1 x.ts.2.1 x.ts.2.2)
structure Je7(base:Nat)(w:aA)(v:aG)(l:List OpL):Prop where
 at':(v=R Y 0 0/\l=[])\/∃g o c,v=R (Z ⟨g,o,Y⟩) l.length c/\g<base/\g<w.heap.size/\∀i (h:i<l.length),JlD w g (o+i*11) l[i]
 ok:∀x∈l,∃os ts sl,OpOk base w x os ts sl
theorem Je7.shape{l:List OpL}(h:Je7 base w v l):∃a c,v=R a l.length c:=by
 rcases h.at' with⟨rfl,rfl⟩|⟨g,o,c,rfl,_⟩
 ·exact⟨_,_,rfl⟩
 ·exact⟨_,_,rfl⟩
theorem JjQ(E:Nat->Addr)(hF:Xt E base w)(jG:base=w.heap.size)(c:Int)(hc: -9223372036854775808<=c/\c<9223372036854775808)(v1 v2:aG)(os:List (Nat×Nat))(hO:Jr base w v1 os)(t7:∀o∈os,Jy o)(uL:os.length<1000000)(kM:List OpL)(hS:Je7 base w v2 kM)(hl:kM.length<=800000)(hA:Ast w)(hL:Alk w)(hi:Int)(hhi:hi<=11):
  aB N 13 #[O I c,v1,v2,O I hi] w λe w'=>e=aC (aL true)/\M (λj=>base<=j) w w':=by
 obtain⟨oa,oc,qM⟩:=hO.shape;subst qM;obtain⟨sa,sc,kn⟩:=hS.shape;subst kn;obtain⟨w0,(xF:J _)⟩:∃w0,w0=w.alloc (T #[R Y 0 0,R Y 0 0,R Y 0 0,R Y 0 0] 71):=⟨_,rfl⟩
 have t0:M D w w0:=by rw[xF];exact Ta _ _ _
 have r0:w0.heap[w.heap.size]? =Z (T #[R Y 0 0,R Y 0 0,R Y 0 0,R Y 0 0] 71):=by rw[xF];exact Qf _ _
 have sR:WSt base w0 w.heap.size 0 (R Y 0 0) (R Y 0 0):=⟨R Y 0 0,R Y 0 0,[],[],λj=>if j=w.heap.size then 1 else 0,⟨r0,VOwn.nil _ _ _,VOwn.nil _ _ _⟩,rfl,Ql _,(λj hj=>by
  rcases hj with e|e|e
  ·subst e;exact⟨if_pos rfl,by omega,(Jb r0)⟩
  ·cases e
  ·cases e),λi lb rb h=>by simp at h⟩
 have ym:J (aB N 33 #[X (Z ⟨w.heap.size,0,Y⟩),aH #[O I 2,O I c,O I 0,O I 0,L ⟨#[]⟩,L ⟨#[]⟩,L ⟨#[]⟩,L ⟨#[]⟩,O I 0,R oa os.length oc,R Y 0 0],L ⟨#[]⟩] w0 (WTo base w0 w.heap.size 1 (R Y 0 0) (R Y 0 0))):=
  Jpu E (hF.tch t0 (λ_ e=>e.elim)) sR (by omega) (by have:=t0.size;omega) ⟨2,c,0,0,⟨#[]⟩,⟨#[]⟩,⟨#[]⟩,⟨#[]⟩,0,(oa,os.length,oc),(Y,0,0)⟩ ⟨#[]⟩ rfl (os:=os) (ts:=[]) (sl:=[]) ⟨hc,(by show -9223372036854775808<=(0:Int)/\(0:Int)<9223372036854775808;decide),(by show (0:Nat)<=1100000;decide),(by show -9223372036854775808<=(0:Int)/\(0:Int)<9223372036854775808;decide),(by show -9223372036854775808<=(0:Int)/\(0:Int)<9223372036854775808;decide),(by show (0:Nat)<=9223372036854775807;decide),(by show (0:Nat)<=1100000;decide),(by show (0:Nat)<=1100000;decide),(hO.tch t0 (λ_ e=>e.elim)).raw,t7,uL,aM ⟨aM rfl,rfl⟩,⟨rfl,λi h=>absurd h (by simp)⟩,λ_ h=>(QD h).elim,by decide,λ_ h=>(QD h).elim⟩
 have rh:J (∀(V:aA)(k:Nat) x,kM[k]? =Z x->M (λj=>base<=j) w V->WSt base V w.heap.size (k+1) (R Y 0 0) (R Y 0 0)->x.kind<=hi->aB N 34 #[X (Z ⟨w.heap.size,0,Y⟩),opV x] V (WTo base V w.heap.size (k+1+1) (R Y 0 0) (R Y 0 0))):=λV k x hk hV hW iI=>by
  obtain⟨os',ts',sl',hx⟩:=hS.ok _ (QT hk);have hk:=(Qo.1 hk).1;have hG:=hF.vars;exact JpX E (hF.tch hV (λ_ e=>e)) hW (by omega) (by have:=hV.size;omega) _ (by omega) (hA.tch hV (by show ¬base<=_;omega)) (hL.tch hV (by show ¬base<=_;omega)) (hx.tch hV (λ_ e=>e))
 have kX:J (∀(k:Nat) x,kM[k]? =Z x->∃g o,sa=Z ⟨g,o,Y⟩/\∀V,M (λj=>base<=j) w V->JlD V g (o+k*11) x):=λk x hk=>by
  rcases hS.at' with⟨_,e2⟩|⟨g,o,c',e,h1,h2,h3⟩
  ·rw[e2]at hk;simp at hk
  ·simp only[Qy]at e;refine⟨g,o,e.1,λV hV=>?_⟩;have hc:∀p,_:=λp=>hV.cell (p:=⟨g,p,Y⟩) h2 (by show ¬base<=g;omega);obtain⟨gS,rfl⟩:=Qo.1 hk;have:=h3 k gS;unfold JlD at this ⊢;rw[hc,hc,hc,hc,hc,hc,hc,hc,hc,hc,hc];exact this
 have HKE:J (∀V n,WSt base V w.heap.size n (R Y 0 0) (R Y 0 0)->aB N 35 #[X (Z ⟨w.heap.size,0,Y⟩)] V λe w'=>e=aC (aL true)/\M D V w'):=λV n h=>by
  obtain⟨gP,gQ,ls,rs,c,h⟩:=h;exact Jop h.at'.row
 have kJ:J (M (λj=>base<=j) w w0):=t0.mono (λ_ e=>e.elim);clear hF hO t7 hS t0 r0 sR jG hA hL hhi;generalize os.length=on at *;generalize hsn:kM.length=sn at *;have mJ:J _:=hsn;go_enter func13,ntmps13;go_upto_region 2 with fail;rw[<-xF.o];go_wp2_with fail;refine ym.mono ?_;rintro _ w1⟨rfl,(di:J _),H9⟩;have H5:J _:=kJ.trans H9 (λ_ e=>aM e);clear H9 ym;go_wp2;go_loopw [11,12,13] (λi _ _ wr=>∃k:Nat,k<=sn/\i=O I (k:Int)/\J (WSt base wr w.heap.size (k+1) (R Y 0 0) (R Y 0 0))/\J (M (λj=>base<=j) w wr)) (λi _ _ _=>sn-(intOf i).toNat)
 case atStart=>exact⟨0,by omega,rfl,di,H5⟩
 case round=>
  obtain⟨k,hk,rfl,HW,HT⟩:=hrel
  by_cases H7:k<sn
  ·have kj:(k:Int)<(sn:Int):=(by omega);obtain⟨x,hx⟩:∃x,kM[k]? =Z x:=⟨_,Qd (by rw[mJ.o];exact H7)⟩
   obtain⟨g,o,rfl,jZ⟩:=kX k x hx;have tL:=rh wr k x hx HT HW.o;obtain⟨c0,c1,c2,c3,c4,c5,c6,c7,c8,c9,c10⟩:=jZ wr HT.o;have HSTP:J _:=tL;obtain⟨kind,a,b',which,s,t,u,cx,cn,⟨xa,xn,xc⟩,⟨ta,tn,tc⟩⟩:=x;simp only at *
   by_cases h7:hi<kind
   ·go_wp2;go_roundw
    case rel=>exact⟨k+1,by omega,by go_num,by obtain h:=HW.o;exact h.up (by omega),HT⟩
    case measure=>simp[intOf];omega
   ·go_wp2_with fail;refine(HSTP (by omega)).mono ?_;rintro _ w2⟨rfl,xd,Ha⟩;have jD:J (WSt _ _ _ _ _ _):=xd;have H6:J _:=HT.trans Ha (λ_ e=>aM e);go_wp2_with fail;refine(HKE w2 _ jD).mono ?_;rintro _ w3⟨rfl,Hs⟩;have jv:J (WSt _ w3 _ _ _ _):=jD.o.tch0 Hs;have Hb:J _:=H6.go Hs;go_wp2;go_roundw
    case rel=>exact⟨k+1,by omega,by go_num,jv,Hb⟩
    case measure=>simp[intOf];omega
  ·obtain rfl:k=sn:=(by omega);have jA:¬(k:Int)<(k:Int):=(by omega);go_wp2;go_ret;exact⟨rfl,HT⟩
theorem Jmu(E:Nat->Addr)(hF:Xt E base w)(jG:base=w.heap.size)(c:Int)(hc: -9223372036854775808<=c/\c<9223372036854775808)(v1 v2:aG)(os:List (Nat×Nat))(hO:Jr base w v1 os)(t7:∀o∈os,Jy o)(uL:os.length<1000000)(kM:List OpL)(hS:Je7 base w v2 kM)(hl:kM.length<=800000)(hA:Ast w)(hL:Alk w):
  aB N 3 #[O I c,v1,v2] w λe w'=>e=aC (aL true)/\M (λj=>base<=j) w w':=by
 have HP:J (aB _ _ _ _ _):=JjQ E hF jG c hc v1 v2 os hO t7 uL kM hS hl hA hL 7 (by omega);obtain⟨oa,oc,qM⟩:=hO.shape;obtain⟨sa,sc,kn⟩:=hS.shape;subst qM;subst kn;clear hF jG hO t7 hS;go_enter func3,ntmps3;go_wp2_with fail;refine HP.o.mono ?_;rintro _ w1⟨rfl,ht⟩;have HT:J (M (λj=>base<=j) w w1):=ht;clear ht HP;go_wp2;go_ret;exact⟨rfl,HT.o⟩
open Go.ChangeShapes Go.WideShapes Go.ChangeAt Go.RowKit Go.Deep

theorem cStr:prog.cellsOf 9=1:=by kernel_rfl
theorem Jpr:prog.cellsOf 49=2:=by kernel_rfl
theorem cTx:prog.cellsOf 98=2:=by kernel_rfl
theorem JpH:prog.cellsOf 96=1:=by kernel_rfl
theorem Jps:prog.cellsOf 22=1:=by kernel_rfl
theorem cTxs:prog.cellsOf 73=1:=by kernel_rfl
theorem cOp:prog.cellsOf 75=11:=by kernel_rfl
section
variable {H:Type}{enc:TypeId×aG->H}{W:aA}
theorem JdI(k:Nat)(l:List (DataW H))(h:∀d∈l,k<=Rows.uptoBulk d):k*l.length<=Rows.uptoBulkAll l:=by
 induction l with
 | nil=>simp[Rows.uptoBulkAll]
 | cons x r ih=>
  have h1:=h x (by simp);have h2:=ih (λd hd=>h d (by simp[hd]));simp only[Rows.uptoBulkAll,Qp,Nat.mul_add,Nat.mul_one];omega
set_option maxRecDepth 100000 in
theorem JbJ{tS tE:TypeId}{f0 f1:Field}{x:DataW H×List MemPlace}(ht:prog.underlying tS=Z (.slice tE))(he:prog.underlying tE=Z (.struct #[f0,f1]))(ce:prog.cellsOf tE=2)(o0:f0.offset=0)(o1:f1.offset=1)(c0:prog.cellsOf f0.type=1)(c1:prog.cellsOf f1.type=1)(h:DataW.trod enc N W 0 (λ_=>true) true fuel tS [v]=Z x):
  ∃(n:Nat)(V:Nat->VV),VR W.heap.size W v ((lE n).map V)/\3*n<=Rows.uptoBulk x.1/\∀i,i<n->∃k y0 y1,DataW.trod enc N W 0 (λ_=>true) true k f0.type [(V i).1]=Z y0/\DataW.trod enc N W 0 (λ_=>true) true k f1.type [(V i).2]=Z y1/\Rows.uptoBulk y0.1+Rows.uptoBulk y1.1<=Rows.uptoBulk x.1:=by
 rcases open_slice_pairs ht he ce o0 o1 c0 c1 h with⟨h0,h1⟩|⟨a,len,cap,m,n,V0,V1,D0,D1,P0,P1,h0,hb,hl,hm,zt,hx,hc⟩
 ·simp only[QH,and_true]at h0;exact⟨0,λ_=>zO,aM ⟨aM h0,rfl⟩,by simp,λi hi=>absurd hi (by omega)⟩
 ·simp only[QH,and_true]at h0;simp only[if_true]at zt;subst zt;have hb3:3*len<=Rows.uptoBulk x.1:=by
   have:=JdI 3 ((lE len).map λi=>DataW.agg [D0 i,D1 i]) (λd hd=>by
    obtain⟨i,_,rfl⟩:=QL.1 hd;have h1:=JaO (D0 i);have h2:=JaO (D1 i);simp only[Rows.uptoBulk,Rows.uptoBulkAll];omega)
   rw[QM,lG]at this;rw[hx];simp only[Rows.uptoBulk];omega
  refine⟨len,λi=>(V0 i,V1 i),?_,hb3,λi hi=>⟨n,_,_,(hc i (by omega)).2.2.1,(hc i (by omega)).2.2.2,?_⟩⟩
  ·rcases Nat.eq_zero_or_pos len with h00|xL
   ·subst h00;exact aM ⟨aN ⟨a,m,h0⟩,rfl⟩
   ·obtain⟨ea,H7⟩:=Jis (hc 0 (by omega)).1;simp only[Nat.zero_mul,Addr.add,if_true]at ea H7;rw[ea]at h0;refine aN ⟨a.block,a.off,m,by rw[h0];simp,H7,H7,λi hi=>?_⟩;simp only[QM,lG]at hi;obtain⟨w0,w1,_,_⟩:=hc i (by omega);have ad:∀j,a.add j=⟨a.block,a.off+j,Y⟩:=λj=>by
     rw[ea];unfold Addr.add;split
     ·rename_i hz;simp<;>omega
     ·simp
    rw[ad]at w0 w1;simp only[lJ,lP];exact⟨w0,by rw[Nat.add_assoc];exact w1⟩
  ·have hm:DataW.agg [D0 i,D1 i]∈(lE len).map λi=>DataW.agg [D0 i,D1 i]:=QL.2 ⟨i,lF.2 hi,rfl⟩;have:=JdH hm;rw[hx];simp only[Rows.uptoBulk,Rows.uptoBulkAll]at this ⊢;omega
theorem Jd5{x:DataW H×List MemPlace}(h:DataW.trod enc N W 0 (λ_=>true) true fuel 22 [v]=Z x):
  ∃l:List (Nat×Nat),YD W.heap.size W v l/\(∀o∈l,Jy o)/\3*l.length<=Rows.uptoBulk x.1:=by
 obtain⟨n,V,hv,hb,he⟩:=JbJ underlying22 underlying80 cOut rfl rfl cU64 cU8 h;have hp:∀i,i<n->∃q:Nat×Nat,V i=encO q/\Jy q:=λi hi=>by
  obtain⟨k,y0,y1,h2,h3,_⟩:=he i hi;obtain⟨z0,e0,_,b0⟩:=DataW.trod_int underlying78 h2;obtain⟨z1,e1,_,b1⟩:=DataW.trod_int underlying5 h3;simp only[QH,and_true]at e0 e1;have c0:=bounds_u64 b0;have c1:=bounds_u8 b1;refine⟨(z0.toNat,z1.toNat),?_,⟨by show z0.toNat<_;omega,by show z1.toNat<_;omega⟩⟩;have ee:V i=((V i).1,(V i).2):=rfl;rw[ee,e0,e1];unfold encO;simp only[Qw,Value.int.injEq,true_and];omega
 obtain⟨Q,hQ⟩:=choose_lt hp;refine⟨(lE n).map Q,?_,λo ho=>?_,by rw[QM,lG];exact hb⟩
 ·have e:(lE n).map V=((lE n).map Q).map encO:=by
   rw[List.map_map];exact lN (λi hi=>(hQ i (lF.1 hi)).1)
  rw[e]at hv
  rcases hv with⟨h1,h2⟩|⟨g,o,c,h1,h2,h3,h4⟩
  ·exact aM ⟨h1,lO.1 h2⟩
  ·rw[QM]at h1;exact aN ⟨g,o,c,h1,h2,h3,λi hi=>by have:=h4 i (by rw[QM];exact hi);rw[lJ]at this;exact this⟩
 ·obtain⟨i,hi,rfl⟩:=QL.1 ho;exact(hQ i (lF.1 hi)).2
theorem Jks{x:DataW H×List MemPlace}(h:DataW.trod enc N W 0 (λ_=>true) true fuel 96 [v]=Z x):
  ∃l:List (BA×Int),YH W.heap.size W v l/\(∀c∈l,(-9223372036854775808<=c.2/\c.2<9223372036854775808)/\c.1.size<=9223372036854775807)/\3*l.length<=Rows.uptoBulk x.1:=by
 obtain⟨n,V,hv,hb,he⟩:=JbJ underlying96 underlying49 Jpr rfl rfl cStr cInt h;have hp:∀i,i<n->∃q:BA×Int,V i=encC q/\(-9223372036854775808<=q.2/\q.2<9223372036854775808)/\q.1.size<=9223372036854775807:=λi hi=>by
  obtain⟨k,y0,y1,h2,h3,_⟩:=he i hi;obtain⟨z0,e0,_,b0⟩:=DataW.trod_string underlying9 h2;obtain⟨z1,e1,_,b1⟩:=DataW.trod_int underlying3 h3;simp only[QH,and_true]at e0 e1;have c1:=bounds_i64 b1;simp only[maxLen]at b0;refine⟨(z0,z1),?_,⟨c1.1,by show z1<_;omega⟩,by show z0.size<=_;omega⟩;have ee:V i=((V i).1,(V i).2):=rfl;rw[ee,e0,e1];rfl
 haveI:Inhabited (BA×Int):=⟨(⟨#[]⟩,0)⟩
 obtain⟨Q,hQ⟩:=choose_lt hp;refine⟨(lE n).map Q,?_,λo ho=>?_,by rw[QM,lG];exact hb⟩
 ·have e:(lE n).map V=((lE n).map Q).map encC:=by
   rw[List.map_map];exact lN (λi hi=>(hQ i (lF.1 hi)).1)
  rw[e]at hv
  rcases hv with⟨h1,h2⟩|⟨g,o,c,h1,h2,h3,h4⟩
  ·exact aM ⟨h1,lO.1 h2⟩
  ·rw[QM]at h1;exact aN ⟨g,o,c,h1,h2,h3,λi hi=>by have:=h4 i (by rw[QM];exact hi);rw[lJ]at this;exact this⟩
 ·obtain⟨i,hi,rfl⟩:=QL.1 ho;exact(hQ i (lF.1 hi)).2
theorem Jcg{t e:TypeId}{x:DataW H×List MemPlace}(ht:prog.underlying t=Z (.slice e))(h:DataW.trod enc N W 0 (λ_=>true) true fuel t [v]=Z x):∃s:Sl,v=R s.1 s.2.1 s.2.2:=by
 rcases open_slice ht h with⟨h0,_⟩|⟨a,len,cap,m,n,aV,Pl,h0,_⟩
 ·simp only[QH,and_true]at h0;exact⟨(Y,0,0),h0⟩
 ·simp only[QH,and_true]at h0;exact⟨(Z a,len,cap),h0⟩
def Jqx(W:aA)(s:Sl×Sl)(t:TxL)(b:Nat):Prop:=YH W.heap.size W (R s.1.1 s.1.2.1 s.1.2.2) t.1/\YD W.heap.size W (R s.2.1 s.2.2.1 s.2.2.2) t.2/\InR t/\(∀c∈t.1,c.1.size<=9223372036854775807)/\3*t.1.length<=b/\3*t.2.length<=b
theorem Jpd{x:DataW H×List MemPlace}(h:DataW.trod enc N W 0 (λ_=>true) true fuel 73 [v]=Z x):
  ∃(sl:List (Sl×Sl))(ts:List TxL),TxsR W.heap.size W v sl/\TxIs W.heap.size W ts sl/\(∀t∈ts,InR t/\(∀c∈t.1,c.1.size<=9223372036854775807)/\3*t.1.length<=Rows.uptoBulk x.1/\3*t.2.length<=Rows.uptoBulk x.1)/\3*ts.length<=Rows.uptoBulk x.1:=by
 obtain⟨n,V,hv,hb,he⟩:=JbJ underlying73 underlying98 cTx rfl rfl JpH Jps h;have hp:∀i,i<n->∃q:(Sl×Sl)×TxL,V i=encT q.1/\Jqx W q.1 q.2 (Rows.uptoBulk x.1):=λi hi=>by
  obtain⟨k,y0,y1,h2,h3,h4⟩:=he i hi;obtain⟨s0,e0⟩:=Jcg underlying96 h2;obtain⟨s1,e1⟩:=Jcg underlying22 h3;obtain⟨cs,k1,k2,k3⟩:=Jks h2;obtain⟨os,j1,j2,j3⟩:=Jd5 h3;refine⟨((s0,s1),(cs,os)),?_,?_⟩
  ·have ee:V i=((V i).1,(V i).2):=rfl;rw[ee,e0,e1];rfl
  ·rw[e0]at k1;rw[e1]at j1;exact⟨k1,j1,⟨λc hc=>(k2 c hc).1,j2⟩,λc hc=>(k2 c hc).2,by show 3*cs.length<=_;omega,by show 3*os.length<=_;omega⟩
 haveI:Inhabited ((Sl×Sl)×TxL):=⟨(dSl,([],[]))⟩
 obtain⟨Q,hQ⟩:=choose_lt hp;refine⟨(lE n).map λi=>(Q i).1,(lE n).map λi=>(Q i).2,?_,⟨by simp,λi h1 h2=>?_⟩,λt ht=>?_,by rw[QM,lG];exact hb⟩
 ·have e:(lE n).map V=((lE n).map λi=>(Q i).1).map encT:=by
   rw[List.map_map];exact lN (λi hi=>(hQ i (lF.1 hi)).1)
  rw[e]at hv
  rcases hv with⟨h1,h2⟩|⟨g,o,c,h1,h2,h3,h4⟩
  ·exact aM ⟨h1,lO.1 h2⟩
  ·rw[QM]at h1;exact aN ⟨g,o,c,h1,h2,h3,λi hi=>by have:=h4 i (by rw[QM];exact hi);rw[lJ]at this;exact this⟩
 ·simp only[QM,lG]at h1;simp only[lJ,lP];exact⟨(hQ i h1).2.1,(hQ i h1).2.2.1⟩
 ·obtain⟨i,hi,rfl⟩:=QL.1 ht;exact(hQ i (lF.1 hi)).2.2.2
end

section
variable {H:Type}{enc:TypeId×aG->H}{W:aA}
def opL(x:OpL):List aG:=[O I x.kind,O I x.a,O I x.b,O I x.which,L x.s,L x.t,L x.u,L x.cx,O I x.cn,R x.os.1 x.os.2.1 x.os.2.2,R x.ts.1 x.ts.2.1 x.ts.2.2]
theorem JoO{cs:List aG}{y:DataW H×List MemPlace}(h:DataW.trod enc N W 0 (λ_=>true) true n 75 cs=Z y):
  ∃x:OpL,cs=opL x/\3<=Rows.uptoBulk y.1/\(Rows.uptoBulk y.1<=1048576->∃os ts sl,OpOk W.heap.size W x os ts sl):=by
 obtain⟨xs,k,rfl,hy,Hq,zp,hf⟩:=DataW.trod_struct underlying75 h;rw[cOp]at Hq
 match cs,Hq with
 | [v0,v1,v2,v3,v4,v5,v6,v7,v8,v9,v10],_=>
  match xs,zp with
  | [y0,y1,y2,y3,y4,y5,y6,y7,y8,y9],_=>
   have g0:=hf 0 _ rfl;have g1:=hf 1 _ rfl;have g2:=hf 2 _ rfl;have g3:=hf 3 _ rfl;have g4:=hf 4 _ rfl;have g5:=hf 5 _ rfl;have g6:=hf 6 _ rfl;have g7:=hf 7 _ rfl;have g8:=hf 8 _ rfl;have g9:=hf 9 _ rfl;simp[cInt,cStr,Jpr,Jps,cTxs]at g0 g1 g2 g3 g4 g5 g6 g7 g8 g9;obtain⟨z0,e0,_,_⟩:=DataW.trod_int underlying3 g0;obtain⟨z1,e1,_,b1⟩:=DataW.trod_int underlying3 g1;obtain⟨z2,e2,_,b2⟩:=DataW.trod_int underlying3 g2;obtain⟨z3,e3,_,b3⟩:=DataW.trod_int underlying3 g3;obtain⟨z4,e4,x4,_⟩:=DataW.trod_string underlying9 g4;obtain⟨z5,e5,x5,_⟩:=DataW.trod_string underlying9 g5;obtain⟨z6,e6,x6,_⟩:=DataW.trod_string underlying9 g6;obtain⟨us,k7,_,hy7,_,nG,hg⟩:=DataW.trod_struct underlying49 g7
   match us,nG with
   | [u0,u1],_=>
    have j0:=hg 0 _ rfl;have j1:=hg 1 _ rfl;simp[cInt,cStr]at j0 j1;obtain⟨z7,e7,_,b7⟩:=DataW.trod_string underlying9 j0;obtain⟨z8,e8,_,b8'⟩:=DataW.trod_int underlying3 j1;obtain⟨s9,e9⟩:=Jcg underlying22 g8;obtain⟨s10,e10⟩:=Jcg underlying73 g9;obtain⟨os,o1,o2,o3⟩:=Jd5 g8;obtain⟨sl,ts,t1,t2,t3,t4⟩:=Jpd g9;have c1:=bounds_i64 b1;have c2:=bounds_i64 b2;have c3:=bounds_i64 b3;have c8:=bounds_i64 b8';simp only[maxLen]at b7;simp only[QH,and_true]at e0 e1 e2 e3 e4 e5 e6 e7 e8;rw[e9]at o1;rw[e10]at t1;refine⟨⟨z0,z1,z2,z3,z4,z5,z6,z7,z8,s9,s10⟩,by rw[e0,e1,e2,e3,e4,e5,e6,e7,e8,e9,e10];rfl,?_,λhk=>⟨os,ts,sl,?_⟩⟩
    ·have h0:=JaO y0.1;have h1:=JaO y1.1;have h2:=JaO y2.1;rw[hy];simp only[Rows.uptoBulk,Rows.uptoBulkAll,List.map_cons,List.map_nil];omega
    ·have hb:∀z∈[y0,y1,y2,y3,y4,y5,y6,y7,y8,y9].map (·.1),Rows.uptoBulk z<=1048575:=λz hz=>by
      have:=JdH hz;rw[hy]at hk;simp only[Rows.uptoBulk]at hk;omega
     have b4:=hb y4.1 (by simp);have b5:=hb y5.1 (by simp);have b6:=hb y6.1 (by simp);have b8:=hb y8.1 (by simp);have b9:=hb y9.1 (by simp);rw[x4]at b4;rw[x5]at b5;rw[x6]at b6;simp only[Rows.uptoBulk,QA]at b4 b5 b6;refine⟨⟨c1.1,by show z1<_;omega⟩,⟨c3.1,by show z3<_;omega⟩,by show z4.data.size<=_;omega,⟨c2.1,by show z2<_;omega⟩,⟨c8.1,by show z8<_;omega⟩,by show z7.size<=_;omega,by show z5.data.size<=_;omega,by show z6.data.size<=_;omega,o1,o2,by omega,t1,t2,λt ht=>(t3 t ht).1,by omega,λt ht=>?_⟩;obtain⟨_,q1,q2,q3⟩:=t3 t ht;exact⟨by omega,by omega,q1⟩
theorem Jhy{x:DataW H×List MemPlace}(hv:Value.okWide N W .any b 23 v)(h:DataW.trod enc N W 0 (λ_=>true) true fuel 23 [v]=Z x)(hk:Rows.uptoBulk x.1<=1048576):
  ∃l:List OpL,Je7 W.heap.size W v l/\l.length<=800000:=by
 rcases ZA underlying23 hv with rfl|⟨g,o,len0,cap0,rfl,hg⟩
 ·exact⟨[],⟨aM ⟨rfl,rfl⟩,λ_ h=>(QD h).elim⟩,by simp⟩
 rcases open_slice underlying23 h with⟨h0,h1⟩|⟨a,len,cap,m,n,aV,Pl,h0,hb,hl,hm,zt,hx,he⟩
 ·simp at h0
 ·simp only[QH,and_true,Qy,Qh]at h0;obtain⟨rfl,rfl,rfl⟩:=h0;simp only[if_true]at zt;subst zt;rw[cOp]at he;have hp:∀i,i<m->∃q:OpL,W.cells? 0 ((⟨g,o,Y⟩:Addr).add (i*11)) 11=Z (opL q)/\3<=Rows.uptoBulk (aV i)/\(Rows.uptoBulk (aV i)<=1048576->∃os ts sl,OpOk W.heap.size W q os ts sl):=λi hi=>by
   obtain⟨cs',h1,h2⟩:=he i hi;obtain⟨p,rfl,h4,h5⟩:=JoO h2;exact⟨p,h1,h4,h5⟩
  haveI:Inhabited OpL:=⟨⟨0,0,0,0,⟨#[]⟩,⟨#[]⟩,⟨#[]⟩,⟨#[]⟩,0,(Y,0,0),(Y,0,0)⟩⟩
  obtain⟨Q,hQ⟩:=choose_lt hp;rw[hx]at hk;simp only[Rows.uptoBulk]at hk;have hDi:∀i,i<len0->Rows.uptoBulk (aV i)<=1048576:=λi hi=>by
   have hm:aV i∈(lE len0).map aV:=QL.2 ⟨i,lF.2 hi,rfl⟩;have:=JdH hm;omega
  refine⟨(lE len0).map Q,⟨aN ⟨g,o,m,by simp,hg,hg,λi hi=>?_⟩,λs hs=>?_⟩,?_⟩
  ·simp only[QM,lG]at hi;obtain⟨_,_,hc⟩:=World.cells?_some (hQ i (by omega)).1;have ad:∀j,(((⟨g,o,Y⟩:Addr).add (i*11)).add j)=⟨g,o+i*11+j,Y⟩:=λj=>by
    rw[add_add];unfold Addr.add;split
    ·rename_i hz;simp<;>omega
    ·simp<;>omega
   simp only[lJ,lP];have w0:=hc 0 (by omega);have w1:=hc 1 (by omega);have w2:=hc 2 (by omega);have w3:=hc 3 (by omega);have w4:=hc 4 (by omega);have w5:=hc 5 (by omega);have w6:=hc 6 (by omega);have w7:=hc 7 (by omega);have w8:=hc 8 (by omega);have w9:=hc 9 (by omega);have qN:=hc 10 (by omega);rw[ad]at w0 w1 w2 w3 w4 w5 w6 w7 w8 w9 qN;exact⟨w0,w1,w2,w3,w4,w5,w6,w7,w8,w9,qN⟩
  ·rw[QL]at hs;obtain⟨i,hi,rfl⟩:=hs;have hi:=lF.1 hi;exact(hQ i (by omega)).2.2 (hDi i hi)
  ·have:=JdI 3 ((lE len0).map aV) (λd hd=>by
    obtain⟨i,hi,rfl⟩:=QL.1 hd;exact(hQ i (by have:=lF.1 hi;omega)).2.1)
   simp only[QM,lG]at this ⊢;omega
theorem JhB{x:DataW H×List MemPlace}(hv:Value.okWide N W .any b 22 v)(h:DataW.trod enc N W 0 (λ_=>true) true fuel 22 [v]=Z x)(hk:Rows.uptoBulk x.1<=1048576):
  ∃l:List (Nat×Nat),Jr W.heap.size W v l/\(∀o∈l,Jy o)/\l.length<1000000:=by
 obtain⟨l,h1,h2,h3⟩:=Jd5 h;refine⟨l,?_,h2,by omega⟩
 rcases h1 with⟨e,rfl⟩|h1
 ·rcases ZA underlying22 hv with rfl|⟨g,o,len0,cap0,rfl,hg⟩
  ·exact aM ⟨rfl,rfl⟩
  ·obtain⟨a,c,e⟩:=e.shape;simp only[Qy]at e;obtain⟨_,rfl,_⟩:=e;exact aN ⟨g,o,cap0,rfl,hg,hg,λi hi=>absurd hi (by simp)⟩
 ·exact aN h1
end
