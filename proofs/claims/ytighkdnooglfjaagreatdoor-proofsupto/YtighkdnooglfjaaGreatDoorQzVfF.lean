import Derived.Test.YtighkdnooglfjaaGreatDoorQzVfB
open Go renaming Calls->aB,Value->aG,World->aA
open Go.Ending renaming returned->aC
open Go.IntKind renaming i64->I,u64->aD,u8->aE
open Go.Obj renaming cells->T
open Go.Proofs.Tryz renaming prog->N
open Go.RowKit renaming Hid->J
open Go.Value renaming agg->aH,bool->aL,iface->aJ,int->O,nilIface->aK,pointer->X,slice->R,string->L,tuple->aI,string->lG
open Option renaming none->Y,some->Z
open Or renaming inl->aM,inr->aN
open Go.Act renaming put->lC
open Array renaming toList_extract->lF
open ByteArray renaming data_extract->lE
open List renaming extract_eq_take_drop->lD,cons_append->lI,length_drop->lJ
open Nat renaming reduceAdd->lH
set_option maxRecDepth 100000
set_option maxHeartbeats 4000000
namespace Go.Proofs.YtighkdnooglfjaaGreatDoor
open Go.RowKit

variable {ra rb:Array aG}{pre:List (BA×BA)}{A:List BA}{ts:List TxL}{s:List UInt8}{B Ba Bb base ca cb g ga gb n₀ wj:Nat}{P:Program}{aY ty:TypeId}{a b c d:aG}{W W' w:aA}
theorem WyAt.is{b:Nat}{g:Option Nat}{wy:Wy}{x:Option Addr×Nat×Nat}{m:Bool}{k:BA}{a o:Nat}(h:WyAt w B b g wy x m k a o):VAt w.heap.size w (R x.1 x.2.1 x.2.2) (wy.1.map encS)/\m=wy.2.isSome/\k=wyK wy/\a=(wyO wy).1/\o=(wyO wy).2:=by
 rcases h with⟨rfl,rfl,rfl,rfl,rfl,rfl⟩|⟨gp,rfl,_,_,_,hZ,rfl,he⟩
 ·exact⟨aM ⟨rfl,rfl⟩,rfl,rfl,rfl,rfl⟩
 ·have H5:=(Jb hZ)
  refine⟨aN ⟨gp,0,_,by rw[QM],H5,H5,λi hi=>?_⟩,by rw[he];rfl,?_,?_,?_⟩
  ·obtain⟨e0,e1⟩:=Yt (wy.1.map encS) i hi;simp only[Nat.zero_add];exact⟨(Ja hZ).trans e0,(Ja hZ).trans e1⟩
  ·unfold wyK;rw[he]
  ·unfold wyO;rw[he]
  ·unfold wyO;rw[he]
theorem Jbk(r:Option (Nat×Nat)):∃(x:Int)(y z:Nat),ZR r=aH #[O I x,O aD (y:Int),O aE (z:Int)]/\((r=Y/\x=2/\y=0/\z=0)\/(r=Z (y,z)/\x=1)):=by
 cases r with
 | none=>exact⟨2,0,0,rfl,aM ⟨rfl,rfl,rfl,rfl⟩⟩
 | some o=>exact⟨1,o.1,o.2,rfl,aN ⟨rfl,rfl⟩⟩
open Go.Proofs.Tryz

theorem XE{fn:Func}{p t:Tmp}(h:fn.results= #[.tmp t,.cell p ty])(tmps:Array aG)(w:aA)(g:Nat)(aY:TypeId)(cs:Array aG)(fr:Nat×Nat)(d:TypeDesc)
 (hp:tmps.getD p undef=X (Z ⟨g,0,Y⟩)) (hg:w.heap[g]? =Z (T cs aY fr))
 (hu:P.underlying ty=Z d) (hd:(match d with | .struct _ | .array _ _=>true|_=>false)=true) (hi:(P.info? ty).map (·.size)=Z cs.size):
  (results fn tmps).run P w=.ok (aI #[tmps.getD t undef,aH cs]) w:=by
 have yy:tmps[p]?.getD undef=X (Z ⟨g,0,Y⟩):=by simpa using hp
 simp[results,h,yy,asAddr,run_loadVar_row w g aY ty cs fr d hg hu hd hi]
theorem Jiv(wj:Nat)(hb pf:BA)(c:BA×Int)(r:Option (Nat×Nat))(h:∀W,M D w W->aB N 91 #[O I (wj:Int),L hb,aH #[L c.1,O I c.2],L pf] W λe w'=>M D W w'/\∃(x:Int)(y z:Nat),ZR r=aH #[O I x,O aD (y:Int),O aE (z:Int)]/\e=aC (aI #[aH #[O I x,O aD (y:Int),O aE (z:Int)],aK])):
  aB N 47 #[O I (wj:Int),L hb,aH #[L c.1,O I c.2],L pf] w λe w'=>M D w w'/\∃(x:Int)(y z:Nat),ZR r=aH #[O I x,O aD (y:Int),O aE (z:Int)]/\e=aC (aI #[O I x,aH #[O aD (y:Int),O aE (z:Int)]]):=by
 obtain⟨s,aZ⟩:=c;have H:J _:=h;dsimp only at H ⊢;obtain⟨W,(HW:J _)⟩:∃W,W=(w.alloc (T #[L s,O I aZ] 49)).alloc (T #[O aD 0,O aE 0] 80):=⟨_,rfl⟩
 have tA:=zG HW;have kj:=kX HW;have kD:=hnn HW;obtain⟨a0,a1⟩:=rows kj;have qD:J (∀V,M D W V->_):=λV hT=>(hT.block _ (Jb kD) (λh=>h)).trans kD;have HA:J _:=tA;clear tA kj kD;go_enter func47,ntmps47;go_upto_region 1 with fail;rw[<-HW.o];go_wp2_with fail;refine(H W HA).mono ?_;rintro _ w1⟨H6,x,y,z,(iG:J _),rfl⟩;obtain⟨W2,(gM:J _)⟩:∃W2,W2=w1.alloc (T #[O I x,O aD (y:Int),O aE (z:Int)] 179):=⟨_,rfl⟩
 have t2:=xu gM;have Hp:=qu gM;obtain⟨b0,b1,b2⟩:=rows Hp;have H4:J _:=H6.go t2;have kO:=qD W2 H4.o;obtain⟨e0,e1⟩:=rows kO;have fR:∀j,W2.frozen? ⟨w.heap.size+1,j,Y⟩=false:=λj=>Qg _ _ _ _ _ kO;have H5:w1.heap.size ≠ w.heap.size+1:=λe=>by rw[e,kO]at Hp;simp at Hp
 have R2:J _:=kO;clear H6 t2 Hp kO a0 a1 H;go_upto_region 4 with fail;rw[<-gM.o];go_region
 all_goals go_wp2;rw[set2 _ _ _ _ _ _ _ R2.o];refine QK (v:=aI #[O I x,aH #[O aD (y:Int),O aE (z:Int)]]) (XE results47 _ _ (w.heap.size+1) _ _ (0,0) _ rfl (show (W2.setRow (w.heap.size+1) #[O aD (y:Int),O aE (z:Int)]).heap[w.heap.size+1]? =_ from Qi _ _ _ _ _ _ R2) underlying80 rfl (by kernel_rfl)) rfl ?_;exact⟨((HA.go H4).trans (Ts W2 (w.heap.size+1) _) (λj hj=>aN (by omega))).go (Td _ _ 1),x,y,z,iG,rfl⟩
theorem JjW(wy:Wy)(k:Key):(if wy.2.isSome=true/\wyK wy=⟨k.toArray⟩ then Z (wyO wy) else Y)=wy.said k:=by
 obtain⟨l,e⟩:=wy
 cases e with
 | none=>simp[Wy.said]
 | some x=>
  obtain⟨k',o⟩:=x;unfold Wy.said wyK wyO;dsimp only
  by_cases h:k'=k
  ·rw[if_pos ⟨rfl,by rw[h]⟩,if_pos h]
  ·rw[if_neg (λe=>h (show k'=k from congrArg (λb:BA=>b.data.toList) e.2)),if_neg h]

open Classical in
noncomputable def chk(wj:Nat)(key:Key)(state:BA)(s:List UInt8):Option Wy:=match (PS.rd [] s).way wj [] false ⟨#[]⟩ (0,0) with
 | some (wy,.rd _ [])=>if (∀x∈wy.1,bt key x.1=bt (Xo wy) x.1)/\dgW wj ((wy.nodes (dgW wj)).headD [])=state then Z wy else Y
 | _=>Y
def Jqg(wj:Nat)(key:Key)(r:Option Wy)(e:Ending)(w':aA):Prop:=match r with
 | some wy=>∃(x:Int)(y z g cap:Nat),ZR (wy.said key)=aH #[O I x,O aD (y:Int),O aE (z:Int)]/\e=aC (aI #[aH #[O I x,O aD (y:Int),O aE (z:Int),R (Z ⟨g,0,Y⟩) (wy.1.length+1) cap],aK])/\g<w'.heap.size/\∀(j:Nat) t,(wy.nodes (dgW wj))[j]? =Z t->w'.cell? ⟨g,j,Y⟩=Z (L ⟨t.toArray⟩)
 | none=>∃t u,e=aC (aI #[aH #[O I 0,O aD 0,O aE 0,R Y 0 0],aJ t u])
theorem JfB(E:Nat->Addr)(b wj:Nat)(st:Option PS)(p5:∀p,st=Z p->∃q r,p=.rd q r)(Hd:∀q,st ≠ Z (.rd q []))(W:aA)(hE:Env E W)(g:Option Nat)(hp:Jg E W b g (wj:Int) st):
  aB N 88 #[X (Z ⟨b,0,Y⟩)] W λe w'=>M D W w'/\∃t u,e=aC (aJ t u):=by
 cases st with
 | none=>
  refine(Ja0 E b (wj:Int) Y (λp h=>by cases h) W hE g hp).mono ?_;rintro e w'⟨ht,t,u,he,_⟩;exact⟨ht,t,u,he⟩
 | some p=>
  obtain⟨q,r,rfl⟩:=p5 p rfl
  cases r with
  | nil=>exact absurd rfl (Hd q)
  | cons a r=>
   refine(Ja0 E b (wj:Int) (Z (.rd q (a::r))) (λp h=>⟨q,a::r,(Option.some.inj h).symm⟩) W hE g hp).mono ?_;rintro e w'⟨ht,t,u,he,_⟩;exact⟨ht,t,u,he⟩
theorem JcA(E:Nat->Addr)(wj:Nat)(Hf:1<=wj)(hw:wj<=32)(state:BA)(key:Key)(hk:key.length=wj+1)(s:BA)(hs:s.size<=2000000)(w:aA)(hE:Env E w)(hA:Ast w):
  aB N 144 #[qV wj state ⟨key.toArray⟩,L s] w λe w'=>M D w w'/\Jqg wj key (chk wj key state s.data.toList) e w':=by
 have Hi:=hE.size;obtain⟨C,hC⟩:∃C,C=chk wj key state s.data.toList:=⟨_,rfl⟩
 obtain⟨aW,hR⟩:∃aW,aW=(PS.rd [] s.data.toList).way wj [] false ⟨#[]⟩ (0,0):=⟨_,rfl⟩
 obtain⟨kb,pj⟩:∃kb:BA,kb=⟨key.toArray⟩:=⟨_,rfl⟩
 rw[<-hC,<-pj];unfold chk at hC;rw[<-hR]at hC;have p5:∀wy p,aW=Z (wy,p)->WyOk wj wy/\∃q r,p=.rd q r:=λwy p h=>Jie (hR.symm.trans h);have kX:(∀wy q,aW ≠ Z (wy,.rd q []))->C=Y:=λh=>by
  rw[hC]
  split
  ·exact absurd rfl (h _ _)
  ·rfl
 have Hl:(s.data.toList).length<=2000000:=by rw[QA];exact hs
 have ze:J (∀W b,M D w W->18<=b->Jd W b Y (wj:Int) aK (.rd [] s.data.toList)->aB N 146 #[X (Z ⟨b,0,Y⟩),aH #[R Y 0 0,aL false,L ⟨#[]⟩,O aD 0,O aE 0]] W λe w'=>∃v1 v2 v3 m k a o g',e=aC (wV v1 v2 v3 m k a o)/\Jg E w' b g' (wj:Int) (aW.map (·.2))/\M (λk=>k=b) W w'/\∀wy p,aW=Z (wy,p)->VAt w'.heap.size w' (R v1 v2 v3) (wy.1.map encS)/\m=wy.2.isSome/\k=wyK wy/\a=(wyO wy).1/\o=(wyO wy).2):=λW b hT hb hp=>by
  refine(JnC E b hb Y wj hw Y 0 0 [] false ⟨#[]⟩ 0 0 (by decide) (.rd [] s.data.toList) W (hE.tch hT noE) hp (aM ⟨rfl,rfl⟩) (JcX.nil _ _) (by simp) (by simp) (by simp[PS.takes]) (by simp only[PS.len,Qv];omega)).mono ?_;rintro e w'⟨x1,x2,x3,m,k,a,o,g',rfl,h1,_,h3,h4⟩;rw[<-hR]at h1 h4;exact⟨x1,x2,x3,m,k,a,o,g',rfl,h1,h3.mono (λj hj=>aM (by rcases hj with h|h;exact h;cases h)),λwy p h=>(h4 wy p h).is⟩
 have uB:J (∀W b g',M D w W->Jg E W b g' (wj:Int) (aW.map (·.2))->aB N 88 #[X (Z ⟨b,0,Y⟩)] W λe w'=>M D W w'/\((C=Y/\∃t u,e=aC (aJ t u))\/(∃wy q,aW=Z (wy,.rd q []))/\e=aC aK)):=λW b g' hT hp=>by
  by_cases hg:∃wy q,aW=Z (wy,.rd q [])
  ·obtain⟨wy,q,hq⟩:=hg;rw[hq]at hp;have hp:Jd W b g' (wj:Int) aK (.rd q []):=hp;obtain rfl:g'=Y:=hp.1;exact(Jeg b (wj:Int) q W hp).mono λe w' k=>⟨k.2,aN ⟨⟨wy,q,hq⟩,k.1⟩⟩
  ·refine(JfB E b wj (aW.map (·.2)) (λp h=>?_) (λq h=>?_) W (hE.tch hT noE) g' hp).mono λe w' k=>⟨k.1,aM ⟨kX λwy q h=>hg ⟨wy,q,h⟩,k.2⟩⟩
   all_goals
    cases hR':aW with
    | none=>rw[hR']at h;cases h
    | some x=>
     obtain⟨wy,p2⟩:=x;rw[hR']at h
     cases h
     first|exact(p5 wy _ hR').2|exact absurd ⟨wy,q,hR'⟩ hg
 have HE:J (Env E w):=hE;have um:J (∀W3,M D w W3->W3.cell? ⟨4,0,Y⟩=Z (eV E 4)):=λW hT=>(hE.tch hT noE).root;have HAS:J (Ast w):=hA;have HC:J (∀wy q,aW=Z (wy,.rd q [])->WyOk wj wy/\C=if (∀x∈wy.1,bt key x.1=bt (Xo wy) x.1)/\dgW wj ((wy.nodes (dgW wj)).headD [])=state then Z wy else Y):=λwy q h=>⟨(p5 wy _ h).1,by rw[hC,h]⟩
 have qE:J (kb=_):=pj;have xK:J (18<=w.heap.size):=Hi;clear hE p5 kX Hl hR hs hA hC pj;obtain⟨W,hW⟩:∃W,W=(w.alloc (T #[O I (wj:Int),L state,L kb] 248)).alloc (T #[O I 0,O aD 0,O aE 0,R Y 0 0] 252):=⟨_,rfl⟩
 have tA:M D w W:=by rw[hW];exact M.allocs _ _ _ _
 have kj:W.heap[w.heap.size]? =Z (T #[O I (wj:Int),L state,L kb] 248):=by rw[hW];exact heap_alloc2_old _ _ _
 have kD:W.heap[w.heap.size+1]? =Z (T #[O I 0,O aD 0,O aE 0,R Y 0 0] 252):=by rw[hW];exact heap_alloc2_new _ _ _
 have HWZ:J (W.heap.size=w.heap.size+2):=by show _=_;rw[hW];simp
 have qD:J (∀V,M D W V->V.heap[w.heap.size+1]? =Z (T #[O I 0,O aD 0,O aE 0,R Y 0 0] 252)):=λV hT=>(hT.block _ (Jb kD) (λh=>h)).trans kD;have ji:J (∀V,M D W V->rowP V w.heap.size [O I (wj:Int),L state,L kb]):=λV hT=>rows ((hT.block _ (Jb kj) (λh=>h)).trans kj);have HA:J (M _ w W):=tA;have HW:J (W=_):=hW;obtain⟨a0,a1,a2⟩:=ji.o W (Te _ _);clear tA kj kD hW Hi;go_enter func144,ntmps144;go_upto_region 1 with fail;rw[<-HW.o];go_wp2_with fail;refine(XT _ _ _).mono ?_;rintro _ w1⟨rfl,Hs,H6⟩;have H3:J (M D W w1):=H6;have Hq:J (Jd w1 W.heap.size Y (wj:Int) aK (.rd [] s.data.toList)):=Hs;clear H6 Hs a0 a1 a2;go_wp2_with fail;refine(ze.o w1 W.heap.size (HA.o.go H3.o) (by have:=xK.o;have:=HWZ.o;omega) Hq.o).mono ?_;rintro _ w2⟨v1,v2,v3,mm,wk,oa,oo,g',rfl,kJ,H7,nZ⟩;obtain⟨W3,qp⟩:∃W3,W3=w2.alloc (T #[R v1 v2 v3,aL mm,L wk,O aD (oa:Int),O aE (oo:Int)] 258):=⟨_,rfl⟩
 have t3:M D w2 W3:=by rw[qp];exact Ta _ _ _
 have kP:W3.heap[w2.heap.size]? =Z (T #[R v1 v2 v3,aL mm,L wk,O aD (oa:Int),O aE (oo:Int)] 258):=by rw[qp];exact Qf _ _
 have iH:J (∀V,M D W3 V->rowP V w2.heap.size [R v1 v2 v3,aL mm,L wk,O aD (oa:Int),O aE (oo:Int)]):=λV hT=>rows ((hT.block _ (Jb kP) (λh=>h)).trans kP);have H8:J (M D W W3):=(H3.o.trans H7 (λj hj=>aN (Nat.le_of_eq hj.symm))).go t3;have jy:J (Jg E W3 W.heap.size g' (wj:Int) (aW.map (·.2))):=kJ.next t3;have HV3:J (∀wy p,aW=Z (wy,p)->(∀V,M D W3 V->VAt V.heap.size V (R v1 v2 v3) (wy.1.map encS))/\wV v1 v2 v3 mm wk oa oo=wV v1 v2 v3 wy.2.isSome (wyK wy) (wyO wy).1 (wyO wy).2):=λwy p h=>by
  obtain⟨k1,rfl,rfl,rfl,rfl⟩:=nZ wy p h;exact⟨λV hT=>(k1.tch (t3.go hT) noE).up (t3.go hT).size,rfl⟩
 have jR:J (W3=_):=qp;clear kJ H7 t3 qp ze Hq H3 nZ kP;go_upto_region 3 with fail;rw[<-jR.o];go_wp2_with fail;refine(uB.o W3 W.heap.size g' (HA.o.go H8.o) jy.o).mono ?_;rintro _ w4⟨Ho,⟨rfl,t,u,rfl⟩|⟨⟨wy,q,hq⟩,rfl⟩⟩
 ·have HTN:J (M D W w4):=H8.o.go Ho;clear Ho;go_wp2_with fail;refine(Xk _ _ _ _).mono ?_;rintro _ w8⟨rfl,vQ⟩;have kR:J (M D W w8):=HTN.o.go (by rw[vQ];exact Ta _ _ _);have jF:=qD.o w8 kR.o;obtain⟨r0,r1,r2,r3⟩:=rows jF;have fR:∀j,w8.frozen? ⟨w.heap.size+1,j,Y⟩=false:=λj=>Qg _ _ _ _ _ jF;have R8:J (w8.heap[w.heap.size+1]? =_):=jF;clear vQ jF;go_wp2;rw[set4 _ _ _ _ _ _ _ _ _ _ _ R8.o];refine QK (v:=aI #[aH #[O I 0,O aD 0,O aE 0,R Y 0 0],_]) (Je results144 _ _ (w.heap.size+1) _ _ (0,0) _ rfl (Qi _ _ _ _ _ _ R8.o) underlying252 rfl (by kernel_rfl)) rfl ?_;exact⟨(HA.o.go kR.o).trans (Ts _ _ _) (λj hj=>aN (by omega)),_,_,rfl⟩
 ·obtain⟨Hb,iI⟩:=HC.o wy q hq;obtain⟨uJ,hwv⟩:=HV3.o wy _ hq;have He:J (M D W3 w4):=Ho;obtain⟨b0,b1,b2⟩:=ji.o w4 (H8.o.go Ho);obtain⟨d0,d1,d2,d3,d4⟩:=iH.o w4 Ho;have HCB:J (∀V,M D W3 V->aB N 213 #[qV wj state kb,wV v1 v2 v3 mm wk oa oo] V λe w'=>M D V w'/\((C=Y/\∃t u,e=aC (aJ t u))\/(∀x∈wy.1,bt key x.1=bt (Xo wy) x.1)/\e=aC aK)):=λV hT=>by
   have jr:=HA.o.go (H8.o.go hT);rw[hwv,qE.o];refine(JeO E wj hw state key hk wy Hb v1 v2 v3 _ _ _ V (HE.o.tch jr noE) (uJ V hT) (λ_=>HAS.o.tch jr (λh=>h))).mono ?_;rintro e w'⟨ht,⟨h,rfl⟩|⟨⟨x,hx,hn⟩,h⟩⟩
   ·exact⟨ht,aN ⟨h,rfl⟩⟩
   ·exact⟨ht,aM ⟨by rw[iI,if_neg (λk=>hn (k.1 x hx))],h⟩⟩
  have jH:(wy.nodes (dgW wj)).length=wy.1.length+1:=by simp[Wy.nodes,JZ]
  obtain⟨t0,hh0,ht0⟩:∃t0,(wy.nodes (dgW wj))[0]? =Z t0/\(wy.nodes (dgW wj)).headD []=t0:=by
   cases hn:wy.nodes (dgW wj) with
   | nil=>rw[hn]at jH;simp at jH
   | cons a l=>exact⟨a,rfl,rfl⟩
  have ht0l:t0.length<=1000:=by
   have h1:=ZF (dgW wj) (Xo wy) (Xb wy.2) wy.1 0 (Nat.zero_le _);have h2:(wy.nodes (dgW wj))[0]? =Z (Zu (dgW wj) (Xo wy) (Xb wy.2) wy.1 0):=h1;rw[hh0]at h2
   cases h2
   exact JcI wj hw _ _ (JaQ hw Hb) _ Hb.steps 0 (Nat.zero_le _)
  rw[ht0]at iI;have HND:J (∀V,M D W3 V->aB N 214 #[qV wj state kb,wV v1 v2 v3 mm wk oa oo] V λe w'=>M D V w'/\∃(g n cap:Nat),e=aC (aI #[R (Z ⟨g,0,Y⟩) (n+1) cap,aK])/\n<=1000/\n=wy.1.length/\g<w'.heap.size/\∀(j:Nat) t,(wy.nodes (dgW wj))[j]? =Z t->w'.cell? ⟨g,j,Y⟩=Z (L ⟨t.toArray⟩)):=λV hT=>by
   rw[hwv];refine(callsIn_wide.1 (Jmz E wj Hf hw state _ v1 v2 v3 wy Hb V (HE.o.tch (HA.o.go (H8.o.go hT)) noE) (uJ V hT))).mono ?_;rintro e w'⟨g,cap,rfl,_,hgl,hc,hB⟩;refine⟨(M.of_below hB).mono (λ_ hj=>aN hj),g,wy.1.length,cap,by rw[jH],by have:=Hb.len;omega,rfl,hgl,λj t ht=>?_⟩;obtain⟨hj,rfl⟩:=Qo.1 ht;exact hc j hj
  obtain⟨dg,nN⟩:∃dg,dg=dgW wj t0:=⟨_,rfl⟩
  obtain⟨tb,zW⟩:∃tb:BA,tb=⟨t0.toArray⟩:=⟨_,rfl⟩
  rw[<-nN]at iI;have xW:J (∀V,M D W3 V->aB N 130 #[O I (wj:Int),L tb] V λe w'=>e=aC (L dg)/\M D V w'):=λV hT=>by
   have:=JaX E wj ⟨t0.toArray⟩ V (HE.o.tch (HA.o.go (H8.o.go hT)) noE) Hf hw (by rw[Jh];omega);rw[Jjh,<-nN,<-zW]at this;exact this
  have iD:J (∀V,aB N 215 #[qV wj state kb,wV v1 v2 v3 mm wk oa oo] V λe w'=>e=aC (ZR (wy.said key))/\M D V w'):=λV=>by
   have:=Ji0 wj state ⟨key.toArray⟩ v1 v2 v3 wy.2.isSome (wyK wy) (wyO wy).1 (wyO wy).2 V;rw[hwv,qE.o];rw[show (((wyO wy).1,(wyO wy).2):Nat×Nat)=wyO wy from rfl,JjW]at this;exact this
  have HH0:J ((wy.nodes (dgW wj))[0]? =Z t0):=hh0;have HCY:J (C=_):=iI;have gE:J (tb=_):=zW;clear Ho uB jy hq Hb uJ hwv jH ht0 ht0l hh0 iI nN zW HC HV3 qE HE HAS;go_wp2_with fail;refine(HCB.o w4 He.o).mono ?_;rintro _ w5⟨kI,⟨rfl,t,u,rfl⟩|⟨n9,rfl⟩⟩
  ·have kR:J (M D W w5):=H8.o.go (He.o.go kI);have jF:=qD.o w5 kR.o;obtain⟨r0,r1,r2,r3⟩:=rows jF;have fR:∀j,w5.frozen? ⟨w.heap.size+1,j,Y⟩=false:=λj=>Qg _ _ _ _ _ jF;have R8:J (w5.heap[w.heap.size+1]? =_):=jF;clear kI jF b0 b1 b2 d0 d1 d2 d3 d4;go_wp2;rw[set4 _ _ _ _ _ _ _ _ _ _ _ R8.o];refine QK (v:=aI #[aH #[O I 0,O aD 0,O aE 0,R Y 0 0],_]) (Je results144 _ _ (w.heap.size+1) _ _ (0,0) _ rfl (Qi _ _ _ _ _ _ R8.o) underlying252 rfl (by kernel_rfl)) rfl ?_;exact⟨(HA.o.go kR.o).trans (Ts _ _ _) (λj hj=>aN (by omega)),_,_,rfl⟩
  ·have xY:J (∀x∈wy.1,bt key x.1=bt (Xo wy) x.1):=n9;have Hu:J (M D W3 w5):=He.o.go kI;clear kI He HCB b0 b1 b2 d0 d1 d2 d3 d4 n9;obtain⟨b0,b1,b2⟩:=ji.o w5 (H8.o.go Hu.o);obtain⟨d0,d1,d2,d3,d4⟩:=iH.o w5 Hu.o;go_wp2_with fail;refine(HND.o w5 Hu.o).mono ?_;rintro _ w6⟨gV,gn,nn,cap,rfl,hn6,jn,bH,hca⟩;have HNW:J (nn=wy.1.length):=jn;have yg:J (∀V,M D w6 V->gn<V.heap.size/\∀(j:Nat) t,(wy.nodes (dgW wj))[j]? =Z t->V.cell? ⟨gn,j,Y⟩=Z (L ⟨t.toArray⟩)):=λV hT=>⟨Qk bH hT.size,λj t ht=>(hT.cell (p:=⟨gn,j,Y⟩) bH (λh=>h)).trans (hca j t ht)⟩
   have k8:J (M D W3 w6):=Hu.o.go gV;clear gV Hu HND b0 b1 b2 d0 d1 d2 d3 d4 jn bH hca;obtain⟨b0,b1,b2⟩:=ji.o w6 (H8.o.go k8.o);have hc6:w6.cell? ⟨gn,0,Y⟩=Z (L tb):=(by rw[gE.o];exact(yg.o w6 (Te _ _)).2 0 t0 HH0.o);have vD:(0:Int)<((nn+1:Nat):Int):=(by omega);go_upto_region 12 with fail;go_cut [53] (λvb wx=>(∃bb:Bool,vb=aL bb/\J (bb=false↔dg.toList=state.toList))/\J (M D w6 wx))
   case first=>
    go_region_with (go_at_call 130;refine(xW.o _ (k8.o.go (Td _ _ 1))).mono ?_;rintro _ w7⟨rfl,ko⟩;have gG:J (M D w6 w7):=(Td D w6 1).go ko;obtain⟨e0,e1,e2⟩:=ji.o _ (H8.o.go (k8.o.go gG.o));clear ko)
    all_goals go_wp2;go_meet;exact⟨⟨_,rfl,by show _↔_;simp⟩,gG⟩
   case rest=>
   obtain⟨⟨bb,rfl,yI⟩,jz⟩:=hcut;obtain⟨wA,gH⟩:∃wA,wA=wc:=⟨wc,rfl⟩
   subst gH;have Hz:J (M D W3 wA):=k8.o.go jz.o;have HCA2:J (∀V,M D wA V->_):=λV (hT:M D wA V)=>yg.o V (jz.o.go hT);clear yg b0 b1 b2 xW hc6 k8 jz
   cases bb with
   | true=>
    have cY:C=Y:=(by rw[HCY.o];exact if_neg (λh=>absurd (yI.o.2 (by rw[h.2])) (by decide)));subst cY;have hrt:=um.o wA (HA.o.go (H8.o.go Hz.o));unfold eV at hrt;have HTN:J (M D W wA):=H8.o.go Hz.o;clear Hz;go_wp2_with fail;refine(Xk _ _ _ _).mono ?_;rintro _ w8⟨rfl,vQ⟩;have kR:J (M D W w8):=HTN.o.go (by rw[vQ];exact Ta _ _ _);have jF:=qD.o w8 kR.o;obtain⟨r0,r1,r2,r3⟩:=rows jF;have fR:∀j,w8.frozen? ⟨w.heap.size+1,j,Y⟩=false:=λj=>Qg _ _ _ _ _ jF;have R8:J (w8.heap[w.heap.size+1]? =_):=jF;clear vQ jF;go_wp2;rw[set4 _ _ _ _ _ _ _ _ _ _ _ R8.o];refine QK (v:=aI #[aH #[O I 0,O aD 0,O aE 0,R Y 0 0],_]) (Je results144 _ _ (w.heap.size+1) _ _ (0,0) _ rfl (Qi _ _ _ _ _ _ R8.o) underlying252 rfl (by kernel_rfl)) rfl ?_;exact⟨(HA.o.go kR.o).trans (Ts _ _ _) (λj hj=>aN (by omega)),_,_,rfl⟩
   | false=>
    obtain⟨b0,b1,b2⟩:=ji.o wA (H8.o.go Hz.o);obtain⟨d0,d1,d2,d3,d4⟩:=iH.o wA Hz.o;have uD:C=Z wy:=(by rw[HCY.o];exact if_pos ⟨xY.o,JbA (yI.o.1 rfl)⟩);subst uD;obtain⟨x,y,z,qB,_⟩:=Jbk (wy.said key);rw[qB]at iD;have iG:J (ZR _=_):=qB;clear qB;go_wp2_with fail;refine(iD.o wA).mono ?_;rintro _ w8⟨rfl,jV⟩;have kw:J (M D W w8):=(H8.o.go Hz.o).go jV;have HC8:J (_/\_):=HCA2.o w8 jV;have jF:=qD.o w8 kw.o;obtain⟨r0,r1,r2,r3⟩:=rows jF;have bH:gn ≠ w.heap.size+1:=λe=>by
     have:=HC8.o.2 0 t0 HH0.o;rw[e,r0]at this
     cases this
    have dX:J (gn ≠ w.heap.size+1):=bH;have fR:∀j,w8.frozen? ⟨w.heap.size+1,j,Y⟩=false:=λj=>Qg _ _ _ _ _ jF;have R8:J (w8.heap[w.heap.size+1]? =_):=jF;clear jV jF iD b0 b1 b2 d0 d1 d2 d3 d4 Hz bH;go_wp2;rw[set4 _ _ _ _ _ _ _ _ _ _ _ R8.o];refine QK (v:=aI #[aH #[O I x,O aD (y:Int),O aE (z:Int),R (Z ⟨gn,0,Y⟩) (nn+1) cap],aK]) (Je results144 _ _ (w.heap.size+1) _ _ (0,0) _ rfl (Qi _ _ _ _ _ _ R8.o) underlying252 rfl (by kernel_rfl)) rfl ?_;refine⟨(HA.o.go kw.o).trans (Ts _ _ _) (λj hj=>aN (by omega)),x,y,z,gn,cap,iG.o,by rw[HNW.o],by rw[setRow_size];exact HC8.o.1,λj t ht=>?_⟩;exact((Ts w8 (w.heap.size+1) _).cell (p:=⟨gn,j,Y⟩) HC8.o.1 dX.o).trans (HC8.o.2 j t ht)

theorem Jdf(E:Nat->Addr)(wj:Nat)(Hf:1<=wj)(hw:wj<=32)(h:HdL)(hh:HdOk wj h)(c:BA×Int)(hc:Ji wj c)(pf:BA)(P:Int->Nat->Nat->aG->Prop)(w:aA)(hE:Env E w)
 (ju:∀W,M D w W->aB N 144 #[qV wj h.2.2.2 ⟨(Jc c).toArray⟩,L pf] W λe w'=>M D W w'/\∃(x:Int)(y z:Nat)(ga:Option Addr)(gl gc:Nat)(ev:aG),P x y z ev/\e=aC (aI #[aH #[O I x,O aD (y:Int),O aE (z:Int),R ga gl gc],ev])):
  aB N 91 #[O I (wj:Int),L ⟨(Hn h).toArray⟩,aH #[L c.1,O I c.2],L pf] w λe w'=>M D w w'/\∃(x:Int)(y z:Nat)(ev:aG),P x y z ev/\e=aC (aI #[aH #[O I x,O aD (y:Int),O aE (z:Int)],ev]):=by
 have ky:J (∀W,M D w W->aB N 143 _ W _):=λW hT=>JfU E wj Hf hw h hh c hc W (hE.tch hT noE);have HCK:J (∀W,M D w W->_):=ju;clear hE hh hc ju;generalize h.2.2.2=st at *;generalize (⟨(Hn h).toArray⟩:BA)=hb at *;obtain⟨s,aZ⟩:=c;dsimp only at ky HCK ⊢;generalize (⟨(Jc (s,aZ)).toArray⟩:BA)=kb at *;obtain⟨W,hW⟩:∃W,W=(w.alloc (T #[L s,O I aZ] 49)).alloc (T #[O I 0,O aD 0,O aE 0] 179):=⟨_,rfl⟩
 have tA:M D w W:=by rw[hW];exact M.allocs _ _ _ _
 have kj:W.heap[w.heap.size]? =Z (T #[L s,O I aZ] 49):=by rw[hW];exact heap_alloc2_old _ _ _
 have kD:W.heap[w.heap.size+1]? =Z (T #[O I 0,O aD 0,O aE 0] 179):=by rw[hW];exact heap_alloc2_new _ _ _
 have a0:W.cell? ⟨w.heap.size,0,Y⟩=Z (L s):=Ja kj;have a1:W.cell? ⟨w.heap.size,1,Y⟩=Z (O I aZ):=Ja kj;have qD:J (∀V,M D W V->V.heap[w.heap.size+1]? =Z (T #[O I 0,O aD 0,O aE 0] 179)):=λV hT=>(hT.block _ (Jb kD) (λh=>h)).trans kD;have HA:J (M _ w W):=tA;have HW:J (W=_):=hW;clear tA kj kD hW;go_enter func91,ntmps91;go_upto_region 1 with fail;rw[<-HW.o];go_wp2_with fail;refine(ky.o W HA.o).mono ?_;rintro _ w1⟨rfl,H6⟩;obtain⟨W2,jm⟩:∃W2,W2=w1.alloc (T #[O I (wj:Int),L st,L kb] 248):=⟨_,rfl⟩
 have t2:M D w1 W2:=by rw[jm];exact Ta _ _ _
 have Hp:W2.heap[w1.heap.size]? =Z (T #[O I (wj:Int),L st,L kb] 248):=by rw[jm];exact Qf _ _
 have b0:W2.cell? ⟨w1.heap.size,0,Y⟩=Z (O I (wj:Int)):=Ja Hp;have b1:W2.cell? ⟨w1.heap.size,1,Y⟩=Z (L st):=Ja Hp;have b2:W2.cell? ⟨w1.heap.size,2,Y⟩=Z (L kb):=Ja Hp;have H4:J (M D W W2):=H6.go t2;have gM:J (W2=_):=jm;clear H6 t2 Hp jm a0 a1 ky;go_upto_region 2 with fail;rw[<-gM.o];go_wp2_with fail;refine(HCK.o W2 (HA.o.go H4.o)).mono ?_;rintro _ w3⟨Hm,x,y,z,ga,gl,gc,ev,qB,rfl⟩;obtain⟨W4,pR⟩:∃W4,W4=w3.alloc (T #[O I x,O aD (y:Int),O aE (z:Int),R ga gl gc] 252):=⟨_,rfl⟩
 have t4:M D w3 W4:=by rw[pR];exact Ta _ _ _
 have ge:W4.heap[w3.heap.size]? =Z (T #[O I x,O aD (y:Int),O aE (z:Int),R ga gl gc] 252):=by rw[pR];exact Qf _ _
 have He:J (M D W W4):=(H4.o.go Hm).go t4;have d0:W4.cell? ⟨w3.heap.size,0,Y⟩=Z (O I x):=Ja ge;have d1:W4.cell? ⟨w3.heap.size,1,Y⟩=Z (O aD (y:Int)):=Ja ge;have d2:W4.cell? ⟨w3.heap.size,2,Y⟩=Z (O aE (z:Int)):=Ja ge;have n6:=qD.o W4 He.o;have e0:W4.cell? ⟨w.heap.size+1,0,Y⟩=Z (O I 0):=Ja n6;have e1:W4.cell? ⟨w.heap.size+1,1,Y⟩=Z (O aD 0):=Ja n6;have e2:W4.cell? ⟨w.heap.size+1,2,Y⟩=Z (O aE 0):=Ja n6;have fR:∀j,W4.frozen? ⟨w.heap.size+1,j,Y⟩=false:=λj=>Qg _ _ _ _ _ n6;have R4:J (W4.heap[w.heap.size+1]? =_):=n6;have iG:J (P x y z ev):=qB;have tH:J (W4=_):=pR;clear Hm qB pR ge t4 n6 HCK b0 b1 b2;go_upto_region 5 with fail;rw[<-tH.o];go_wp2;rw[set3 _ _ _ _ _ _ _ _ _ R4.o];refine QK (v:=aI #[aH #[O I x,O aD (y:Int),O aE (z:Int)],ev]) (Je results91 _ _ (w.heap.size+1) _ _ (0,0) _ rfl (Qi _ _ _ _ _ _ R4.o) underlying179 rfl (by kernel_rfl)) rfl ?_;exact⟨(HA.o.go He.o).trans (Ts _ _ _) (λj hj=>aN (by omega)),x,y,z,ev,iG.o,rfl⟩
theorem JdM(wj:Int)(hb pf:BA)(c:BA×Int)(h:∀W,M D w W->aB N 91 #[O I (wj:Int),L hb,aH #[L c.1,O I c.2],L pf] W λe w'=>M D W w'/\∃(x:Int)(y z:Nat)(t:TypeId)(u:aG),e=aC (aI #[aH #[O I x,O aD (y:Int),O aE (z:Int)],aJ t u])):
  aB N 47 #[O I (wj:Int),L hb,aH #[L c.1,O I c.2],L pf] w λe w'=>M D w w'/\e=aC (aI #[O I 0,aH #[O aD 0,O aE 0]]):=by
 obtain⟨s,aZ⟩:=c;have H:J (∀W,M D w W->aB _ _ _ W _):=h;clear h;dsimp only at H ⊢;obtain⟨W,hW⟩:∃W,W=(w.alloc (T #[L s,O I aZ] 49)).alloc (T #[O aD 0,O aE 0] 80):=⟨_,rfl⟩
 have tA:M D w W:=by rw[hW];exact M.allocs _ _ _ _
 have kj:W.heap[w.heap.size]? =Z (T #[L s,O I aZ] 49):=by rw[hW];exact heap_alloc2_old _ _ _
 have kD:W.heap[w.heap.size+1]? =Z (T #[O aD 0,O aE 0] 80):=by rw[hW];exact heap_alloc2_new _ _ _
 have a0:W.cell? ⟨w.heap.size,0,Y⟩=Z (L s):=Ja kj;have a1:W.cell? ⟨w.heap.size,1,Y⟩=Z (O I aZ):=Ja kj;have qD:J (∀V,M D W V->V.heap[w.heap.size+1]? =Z (T #[O aD 0,O aE 0] 80)):=λV hT=>(hT.block _ (Jb kD) (λh=>h)).trans kD;have HA:J (M _ w W):=tA;have HW:J (W=_):=hW;clear tA kj kD hW;go_enter func47,ntmps47;go_upto_region 1 with fail;rw[<-HW.o];go_wp2_with fail;refine(H.out W HA.o).mono ?_;rintro _ w1⟨H6,x,y,z,t,u,rfl⟩;obtain⟨W2,jm⟩:∃W2,W2=w1.alloc (T #[O I x,O aD (y:Int),O aE (z:Int)] 179):=⟨_,rfl⟩
 have t2:M D w1 W2:=by rw[jm];exact Ta _ _ _
 have Hp:W2.heap[w1.heap.size]? =Z (T #[O I x,O aD (y:Int),O aE (z:Int)] 179):=by rw[jm];exact Qf _ _
 have b0:W2.cell? ⟨w1.heap.size,0,Y⟩=Z (O I x):=Ja Hp;have b1:W2.cell? ⟨w1.heap.size,1,Y⟩=Z (O aD (y:Int)):=Ja Hp;have b2:W2.cell? ⟨w1.heap.size,2,Y⟩=Z (O aE (z:Int)):=Ja Hp;have H4:J (M D W W2):=H6.go t2;have kO:=qD.o W2 H4.o;have e0:W2.cell? ⟨w.heap.size+1,0,Y⟩=Z (O aD 0):=Ja kO;have e1:W2.cell? ⟨w.heap.size+1,1,Y⟩=Z (O aE 0):=Ja kO;have fR:∀j,W2.frozen? ⟨w.heap.size+1,j,Y⟩=false:=λj=>Qg _ _ _ _ _ kO;have H5:w1.heap.size ≠ w.heap.size+1:=λe=>by rw[e,kO]at Hp;simp at Hp
 have R2:J (W2.heap[w.heap.size+1]? =_):=kO;have gM:J (W2=_):=jm;clear H6 t2 Hp kO jm a0 a1 H b0 b1 b2;go_upto_region 2 with fail;rw[<-gM.o];go_wp2;rw[set2 _ _ _ _ _ _ _ R2.o];refine QK (v:=aI #[O I 0,aH #[O aD 0,O aE 0]]) (XE results47 _ _ (w.heap.size+1) _ _ (0,0) _ rfl (Qi _ _ _ _ _ _ R2.o) underlying80 rfl (by kernel_rfl)) rfl ?_;exact⟨(HA.o.go H4.o).trans (Ts W2 (w.heap.size+1) _) (λj hj=>aN (by omega)),rfl⟩
def Xz(r:Option Wy)(k:Key):Int×(Nat×Nat):=match r with
 | none=>(0,(0,0))
 | some wy=>match wy.said k with
  | some o=>(1,o)
  | none=>(2,(0,0))
theorem Jjo(E:Nat->Addr)(wj:Nat)(Hf:1<=wj)(hw:wj<=32)(h:HdL)(hh:HdOk wj h)(c:BA×Int)(hc:Ji wj c)(s:BA)(hs:s.size<=2000000)(w:aA)(hE:Env E w)(hA:Ast w):
  aB N 47 #[O I (wj:Int),L ⟨(Hn h).toArray⟩,aH #[L c.1,O I c.2],L s] w λe w'=>M D w w'/\e=aC (aI #[O I (Xz (chk wj (Jc c) h.2.2.2 s.data.toList) (Jc c)).1,aH #[O aD ((Xz (chk wj (Jc c) h.2.2.2 s.data.toList) (Jc c)).2.1:Int),O aE ((Xz (chk wj (Jc c) h.2.2.2 s.data.toList) (Jc c)).2.2:Int)]]):=by
 have H:=λW (hT:M D w W)=>JcA E wj Hf hw h.2.2.2 (Jc c) (Xt hc) s hs W (hE.tch hT noE) (hA.tch hT (λh=>h))
 cases hr:chk wj (Jc c) h.2.2.2 s.data.toList with
 | none=>
  rw[hr]at H;refine JdM wj _ s c (λW hT=>?_);refine(Jdf E wj Hf hw h hh c hc s (λ_ _ _ ev=>∃t u,ev=aJ t u) W (hE.tch hT noE) (λV jr=>?_)).mono ?_
  ·refine(H V (hT.go jr)).mono ?_;rintro e w'⟨ht,t,u,he⟩;exact⟨ht,0,0,0,Y,0,0,aJ t u,⟨t,u,rfl⟩,he⟩
  ·rintro e w'⟨ht,x,y,z,ev,⟨t,u,rfl⟩,he⟩;exact⟨ht,x,y,z,t,u,he⟩
 | some wy=>
  rw[hr]at H;refine(Jiv wj _ s c (wy.said (Jc c)) (λW hT=>?_)).mono ?_
  ·refine(Jdf E wj Hf hw h hh c hc s (λx y z ev=>ZR (wy.said (Jc c))=aH #[O I x,O aD (y:Int),O aE (z:Int)]/\ev=aK) W (hE.tch hT noE) (λV jr=>?_)).mono ?_
   ·refine(H V (hT.go jr)).mono ?_;rintro e w'⟨ht,x,y,z,g,cap,qB,he,_⟩;exact⟨ht,x,y,z,_,_,_,aK,⟨qB,rfl⟩,he⟩
   ·rintro e w'⟨ht,x,y,z,ev,⟨qB,rfl⟩,he⟩;exact⟨ht,x,y,z,qB,he⟩
  ·rintro e w'⟨ht,x,y,z,qB,rfl⟩;refine⟨ht,?_⟩;unfold Xz;dsimp only
   cases hs:wy.said (Jc c) with
   | none=>
    rw[hs]at qB;simp only[ZR,Value.agg.injEq,Array.mk.injEq,QH,Value.int.injEq,true_and,and_true]at qB;obtain⟨rfl,hy,hz⟩:=qB;rw[<-hy,<-hz];rfl
   | some o=>
    rw[hs]at qB;simp only[ZR,Value.agg.injEq,Array.mk.injEq,QH,Value.int.injEq,true_and,and_true]at qB;obtain⟨rfl,hy,hz⟩:=qB;rw[<-hy,<-hz]
open Go.RowKit Go.Shelf

attribute [local go_sem] Oper.semAt_some

structure TgAt(n₀ Ba Bb ga ca gb cb:Nat)(A B:List BA)(W:aA):Prop where
 ra:W.heap[Ba]? =Z (T #[R (Z ⟨ga,0,Y⟩) A.length ca] 58)
 rb:W.heap[Bb]? =Z (T #[R (Z ⟨gb,0,Y⟩) B.length cb] 58)
 la:ga<n₀/\gb<n₀/\n₀<=W.heap.size
 xa:∀(j:Nat) t,A[j]? =Z t->W.cell? ⟨ga,j,Y⟩=Z (L t)
 xb:∀(j:Nat) t,B[j]? =Z t->W.cell? ⟨gb,j,Y⟩=Z (L t)
theorem TgAt.keep{B:List BA}(h:TgAt n₀ Ba Bb ga ca gb cb A B W)(k:JbQ n₀ Ba Bb W W'):TgAt n₀ Ba Bb ga ca gb cb A B W':=
 ⟨k.2.1 _ _ h.ra,k.2.2 _ _ h.rb,⟨h.la.1,h.la.2.1,Qm h.la.2.2 k.1.size⟩,λj t ht=>(k.1.cell (p:=⟨ga,j,Y⟩) h.la.1).trans (h.xa j t ht),λj t ht=>(k.1.cell (p:=⟨gb,j,Y⟩) h.la.2.1).trans (h.xb j t ht)⟩
theorem TgAt.next{B:List BA}(h:TgAt n₀ Ba Bb ga ca gb cb A B W)(k:M D W W'):TgAt n₀ Ba Bb ga ca gb cb A B W':=
 ⟨(k.block _ (Jb h.ra) (λe=>e)).trans h.ra,(k.block _ (Jb h.rb) (λe=>e)).trans h.rb,⟨h.la.1,h.la.2.1,Qm h.la.2.2 k.size⟩,λj t ht=>(k.cell (p:=⟨ga,j,Y⟩) (Qk h.la.1 h.la.2.2) (λe=>e)).trans (h.xa j t ht),λj t ht=>(k.cell (p:=⟨gb,j,Y⟩) (Qk h.la.2.1 h.la.2.2) (λe=>e)).trans (h.xb j t ht)⟩
theorem Jnq{P Q:Prop}{e:Ending}(h:(e=aC (aL true)/\P)\/(e=aC (aL false)/\Q)):∃bb:Bool,e=aC (aL bb)/\((bb=true->P)/\(bb=false->Q)):=by
 rcases h with⟨rfl,h⟩|⟨rfl,h⟩
 ·exact⟨true,rfl,λ_=>h,λe=>(by cases e)⟩
 ·exact⟨false,rfl,λe=>(by cases e),λ_=>h⟩
theorem JoX(n:Nat)(hn:2<=n)(l Ba Bb n₀ ga ca gb cb:Nat)(A B:List BA)(hA:A.length<=1000000)(aR Jx:List (BA×BA)->aA->Prop)
 (hJ:∀pre W W',aR pre W->M D W W'->aR pre W')
 (hY:∀pre x W,aR pre W->(A.zip B)[pre.length]? =Z x->YieldAt Fence.wide (n-1) N l #[L x.1,L x.2] W λe W'=>
 (e=aC (aL true)/\aR (pre++[x]) W'/\JbQ n₀ Ba Bb W W')\/(e=aC (aL false)/\Jx (pre++[x]) W'))
 (W:aA) (hU:TgAt n₀ Ba Bb ga ca gb cb A B W) (h0:aR [] W):
  CallsIn Fence.wide n N 297 #[.func (.yield l) #[] #[],X (Z ⟨Ba,0,Y⟩),X (Z ⟨Bb,0,Y⟩)] W λe W'=>(∃v,e=aC v)/\
   ((∃ys,ys=A.zip B/\aR ys W')\/(∃pre,pre <+:A.zip B/\Jx pre W')):=by
 have HU:J _:=hU;have a0:W.cell? ⟨Ba,0,Y⟩=Z (R (Z ⟨ga,0,Y⟩) A.length ca):=Ja hU.ra;have b0:W.cell? ⟨Bb,0,Y⟩=Z (R (Z ⟨gb,0,Y⟩) B.length cb):=Ja hU.rb;have HJ:J _:=hJ;have HY:J _:=hY;have HJ0:J _:=h0;clear hU hJ hY h0;refine callsIn_of_wp func297 rfl trivial ?_ rfl;simp only[ntmps297,List.size_toArray,Qp,Qv,lH,Nat.reduceSub,Array.replicate_succ,Array.replicate_zero,List.push_toArray,List.append_toArray,List.nil_append,lI];gi_wp2;obtain⟨m,hm⟩:∃m,m=min A.length B.length:=⟨_,rfl⟩
 have hM:min (A.length:Int) (B.length:Int)=(m:Int):=by omega
 rw[hM];have hzl:(A.zip B).length=m:=by rw[List.length_zip,hm]
 have hmA:m<=A.length:=by omega
 have hmB:m<=B.length:=by omega
 have HZL:J _:=hzl;have HMA:J (m<=A.length/\m<=B.length/\m<=1000000):=⟨hmA,hmB,by omega⟩
 clear hM hm hzl hmA hmB;gi_loopw [10] (λi wr=>∃p,p<=m/\i=O I (p:Int)/\J (TgAt n₀ Ba Bb ga ca gb cb A B wr)/\J (aR ((A.zip B).take p) wr)) (λi wr=>m-(intOf i).toNat)
 case atStart=>exact⟨0,Nat.zero_le _,rfl,HU,HJ0⟩
 case round=>
  obtain⟨p,hp,rfl,sI,n4⟩:=hrel
  by_cases cf:p<m
  ·have bI:p<A.length:=(by have:=HMA.o;omega);have hpB:p<B.length:=(by have:=HMA.o;omega);obtain⟨x,hx⟩:∃x,x=A[p]:=⟨_,rfl⟩
   obtain⟨y,hy⟩:∃y,y=B[p]:=⟨_,rfl⟩
   have vp:(A.zip B)[p]? =Z (x,y):=(by rw[Qd (by rw[HZL.o];exact cf),List.getElem_zip,hx,hy]);have n5:((A.zip B).take p).length=p:=(by rw[QB,HZL.o];omega);have zM:(A.zip B).take p++[(x,y)]=(A.zip B).take (p+1):=(by rw[List.take_add_one,vp];rfl);have a0:wr.cell? ⟨Ba,0,Y⟩=Z (R (Z ⟨ga,0,Y⟩) A.length ca):=Ja sI.o.ra;have b0:wr.cell? ⟨Bb,0,Y⟩=Z (R (Z ⟨gb,0,Y⟩) B.length cb):=Ja sI.o.rb;have a1:wr.cell? ⟨ga,p,Y⟩=Z (L x):=sI.o.xa p x (by rw[hx];exact Qd bI);have b1:wr.cell? ⟨gb,p,Y⟩=Z (L y):=sI.o.xb p y (by rw[hy];exact Qd hpB);have HYD:J (∀V,M D wr V->YieldAt Fence.wide (n-1) N l #[L x,L y] V λe W'=>(e=aC (aL true)/\aR ((A.zip B).take (p+1)) W'/\JbQ n₀ Ba Bb V W')\/(e=aC (aL false)/\Jx ((A.zip B).take (p+1)) W')):=λV hT=>by
    have:=HY.o _ (x,y) V (HJ.o _ _ _ n4.o hT) (by rw[n5];exact vp);rw[zM]at this;exact this
   have hpi:(p:Int)<(m:Int):=(by omega);have hpa:(p:Int)<(A.length:Int):=(by omega);have hpb:(p:Int)<(B.length:Int):=(by omega);have hp0:(0:Int)<=(p:Int):=(by omega);have HPM:J (p<m):=cf;clear vp n5 zM hx hy bI hpB cf hp;gi_wp2;obtain⟨fn,tmps,assign,body,hy,hR⟩:=HYD.o wr.drew (Td _ wr 1);gi_region_with ((refine⟨λ_=>by omega,hR.mono ?_⟩;rintro e W3 nf;obtain⟨bb,rfl,xz⟩:=Jnq nf;have kS:J ((bb=true->aR ((A.zip B).take (p+1)) W3/\JbQ n₀ Ba Bb wr.drew W3)/\(bb=false->Jx ((A.zip B).take (p+1)) W3)):=xz;clear nf xz))
   all_goals
    clear hR hy HYD
    cases bb
    ·have hJx:=kS.o.2 rfl;have HJX:J (Jx _ W3):=hJx;clear kS hJx;gi_wp2;refine QK (v:=aI #[]) (results_none results297 _ _ _) rfl ?_;exact⟨⟨_,rfl⟩,aN ⟨_,List.take_prefix _ _,HJX.o⟩⟩
    ·obtain⟨iB,yp⟩:=kS.o.1 rfl;have bE:J (aR _ W3):=iB;have bF:J (TgAt n₀ Ba Bb ga ca gb cb A B W3):=(sI.o.next (Td _ wr 1)).keep yp;clear kS iB yp;gi_wp2;go_roundw
     case rel=>exact⟨p+1,HPM.o,by go_num,bF,bE⟩
     case measure=>have:=HPM.o;simp[intOf];omega
  ·have gI:¬(p:Int)<(m:Int):=(by omega);have mt:J (p=m):=(by omega:p=m)
   clear cf hp;gi_wp2;refine bodyPost_end (v:=aI #[]) (results_none results297 _ _ _) rfl ?_;have dY:=n4.o;rw[QS (by rw[HZL.o,mt.o];exact Ql _)]at dY;refine⟨⟨_,rfl⟩,aM ?_⟩
   first
    | exact dY
    | exact⟨_,rfl,dY⟩
theorem Jji(n:Nat)(hn:2<=n)(Ba Bb n₀ ga ca gb cb:Nat)(A B:List BA)(hA:A.length<=1000000)(w:aA)(hU:TgAt n₀ Ba Bb ga ca gb cb A B w):
  SeqStopsK Fence.wide n N 297 #[X (Z ⟨Ba,0,Y⟩),X (Z ⟨Bb,0,Y⟩)] (λx:BA×BA=> #[L x.1,L x.2]) (JbQ n₀ Ba Bb) (λys=>ys=A.zip B) (λpre=>pre <+:A.zip B) (A.zip B).length w:=λl aR Jx W hW hJ _ hY h0=>
 JoX n hn l Ba Bb n₀ ga ca gb cb A B hA aR Jx (λpre W1 W2 h k=>hJ pre W1 W2 Y h ⟨k.os,k.tape,k.output,k.size,λj hj _=>k.block j hj (λe=>e)⟩ (λr e=>by cases e)) (λpre x W hJ hx=>hY pre x W hJ (Qo.1 hx).1) W (hU.next ((M.of_below hW).mono (λ_ hj=>aN hj))) h0

attribute [local go_sem] Oper.semAt_some

structure PtI(w:aA)(ra rb:Array aG)(pre:List (BA×BA))(W:aA):Prop where
 below:Below w.heap.size w W
 eqs:∀y∈pre,y.1=y.2
 r0:W.heap[w.heap.size]? =Z (T #[L ⟨#[]⟩] 9)
 r1:W.heap[w.heap.size+1]? =Z (T #[L ⟨#[]⟩] 9)
 r2:W.heap[w.heap.size+2]? =Z (T #[aK] 92)
 ba:W.heap[w.heap.size+3]? =Z (T ra 58)
 bb:W.heap[w.heap.size+4]? =Z (T rb 58)
structure PtX(w:aA)(pre:List (BA×BA))(W:aA):Prop where
 below:Below w.heap.size w W
 two:∃q y,pre=q++[y]/\(∀z∈q,z.1=z.2)/\y.1 ≠ y.2/\W.heap[w.heap.size]? =Z (T #[L y.1] 9)/\W.heap[w.heap.size+1]? =Z (T #[L y.2] 9)/\W.heap[w.heap.size+2]? =Z (T #[aK] 92)
theorem PtI.own(hB:w.heap.size+5<=B):OwnFrom B (PtI w ra rb):=by
 intro s W W' row h hg hr;have kL:∀r,row=Z r->∃o:Obj,W.heap[r]? =Z o/\o.isCells=false:=λr e=>(hr r e).2;exact⟨ownFrom_below (β:=List (BA×BA)) (w₀:=w) (n₀:=w.heap.size) (B:=B) (Ql _) (by omega) s W W' row h.below hg hr,h.eqs,Ju h.r0 hg kL,Ju h.r1 hg kL,Ju h.r2 hg kL,Ju h.ba hg kL,Ju h.bb hg kL⟩
theorem PtX.own(hB:w.heap.size+5<=B):OwnFrom B (PtX w):=by
 intro s W W' row h hg hr;have kL:∀r,row=Z r->∃o:Obj,W.heap[r]? =Z o/\o.isCells=false:=λr e=>(hr r e).2;obtain⟨q,y,e1,e2,e3,e4,e5,e6⟩:=h.two;exact⟨ownFrom_below (β:=List (BA×BA)) (w₀:=w) (n₀:=w.heap.size) (B:=B) (Ql _) (by omega) s W W' row h.below hg hr,q,y,e1,e2,e3,Ju e4 hg kL,Ju e5 hg kL,Ju e6 hg kL⟩
theorem PtI.two{y1 y2:BA}(HI:PtI w ra rb pre W)(Hd:y1 ≠ y2):
  KeepsOthers W (((W.setCell ⟨w.heap.size,0,Y⟩ (L y1)).setCell ⟨w.heap.size+1,0,Y⟩ (L y2)).setCell ⟨w.heap.size+1+1,0,Y⟩ aK)/\PtX w (pre++[(y1,y2)]) (((W.setCell ⟨w.heap.size,0,Y⟩ (L y1)).setCell ⟨w.heap.size+1,0,Y⟩ (L y2)).setCell ⟨w.heap.size+1+1,0,Y⟩ aK):=by
 have k1:(W.setRow w.heap.size #[L y1]).heap[w.heap.size+1]? =Z (T #[L ⟨#[]⟩] 9):=(setRow_other _ _ _ _ (by omega)).trans HI.r1;have k2:((W.setRow w.heap.size #[L y1]).setRow (w.heap.size+1) #[L y2]).heap[w.heap.size+2]? =Z (T #[aK] 92):=(setRow_other _ _ _ _ (by omega)).trans ((setRow_other _ _ _ _ (by omega)).trans HI.r2);have e:((W.setCell ⟨w.heap.size,0,Y⟩ (L y1)).setCell ⟨w.heap.size+1,0,Y⟩ (L y2)).setCell ⟨w.heap.size+1+1,0,Y⟩ aK=((W.setRow w.heap.size #[L y1]).setRow (w.heap.size+1) #[L y2]).setRow (w.heap.size+2) #[aK]:=by rw[Qj W w.heap.size 0 _ _ (0,0) _ HI.r0];rw[show (#[lG ⟨#[]⟩].setIfInBounds 0 (L y1))= #[L y1] from rfl];rw[Qj _ (w.heap.size+1) 0 _ _ (0,0) _ k1];rw[show (#[lG ⟨#[]⟩].setIfInBounds 0 (L y2))= #[L y2] from rfl];rw[Qj _ (w.heap.size+2) 0 _ _ (0,0) _ k2];rfl
 rw[e];have t:M (λj=>j=w.heap.size\/j=w.heap.size+1\/j=w.heap.size+2) W (((W.setRow w.heap.size #[L y1]).setRow (w.heap.size+1) #[L y2]).setRow (w.heap.size+2) #[aK]):=(((Ts W w.heap.size _).mono (λ_ h=>aM (aM h))).trans (Ts _ (w.heap.size+1) _) (λ_ h=>aM (aN (aM h)))).trans (Ts _ (w.heap.size+2) _) (λ_ h=>aM (aN (aN h)));refine⟨Jbd t (λj hj=>?_),HI.below.trans (t.below HI.below.size (λj hj=>by omega)),pre,(y1,y2),rfl,HI.eqs,Hd,?_,?_,?_⟩
 ·rcases hj with rfl|rfl|rfl
  ·exact⟨_,_,_,HI.r0⟩
  ·exact⟨_,_,_,HI.r1⟩
  ·exact⟨_,_,_,HI.r2⟩
 ·exact(setRow_other _ _ _ _ (by omega)).trans ((setRow_other _ _ _ _ (by omega)).trans (Qi _ _ _ _ _ _ HI.r0))
 ·exact(setRow_other _ _ _ _ (by omega)).trans (Qi _ _ _ _ _ _ k1)
 ·exact Qi _ _ _ _ _ _ k2
theorem Jen{fn:Func}{p p2 p3:Tmp}{ty2 ty3:TypeId}(h:fn.results= #[.cell p ty,.cell p2 ty2,.cell p3 ty3])(tmps:Array aG)(w:aA)(a a2 a3:Addr)(v v2 v3:aG)
 (hp:tmps.getD p undef=X (Z a)) (kJ:tmps.getD p2 undef=X (Z a2)) (mP:tmps.getD p3 undef=X (Z a3)) (ha:(isAgg ty).run P w=.ok false w) (zG:(isAgg ty2).run P w=.ok false w) (ha3:(isAgg ty3).run P w=.ok false w) (hc:w.cell? a=Z v) (hc2:w.cell? a2=Z v2) (hc3:w.cell? a3=Z v3):
  (results fn tmps).run P w=.ok (aI #[v,v2,v3]) w:=by
 have yy:tmps[p]?.getD undef=X (Z a):=by simpa using hp
 have sG:tmps[p2]?.getD undef=X (Z a2):=by simpa using kJ
 have hp3':tmps[p3]?.getD undef=X (Z a3):=by simpa using mP
 simp[results,h,yy,sG,hp3',asAddr,Jaf w ty a v ha hc,Jaf w ty2 a2 v2 zG hc2,Jaf w ty3 a3 v3 ha3 hc3]
theorem Jkt{l q post:List (BA×BA)}{x y:BA×BA}(hl:l=q++x::post)(hq:∀z∈q,z.1=z.2)(hx:x.1 ≠ x.2){q':List (BA×BA)}(hp:pre <+:l)(e1:pre=q'++[y])(e2:∀z∈q',z.1=z.2)(e3:y.1 ≠ y.2):y=x:=by
 obtain⟨r,hr⟩:=hp;rw[e1,hl]at hr;clear hl e1
 induction q generalizing q' with
 | nil=>
  cases q' with
  | nil=>simp at hr;exact hr.1
  | cons a q'=>
   simp at hr;exact absurd (by rw[<-hr.1];exact e2 a (by simp)) hx
 | cons b q ih=>
  cases q' with
  | nil=>
   simp at hr;exact absurd (by rw[hr.1];exact hq b (by simp)) e3
  | cons a q'=>
   simp only[lI,QH]at hr;exact ih (λz hz=>hq z (by simp[hz])) (λz hz=>e2 z (by simp[hz])) hr.2
theorem Jh4(v1 v2:Option Addr)(n1 c1 n2 c2:Nat)(w:aA):
  CallsIn Fence.wide 3 N 226 #[R v1 n1 c1,R v2 n2 c2] w λe w'=>e=aC (.func (.func 297) #[] #[X (Z ⟨w.heap.size,0,Y⟩),X (Z ⟨w.heap.size+1,0,Y⟩)])/\w'=(w.alloc (T #[R v1 n1 c1] 58)).alloc (T #[R v2 n2 c2] 58):=by
 refine callsIn_wide.2 ?_;have vF:∀(fn:Fn)(first cap:Array aG)(w:aA),(Instr.makeFunc fn first cap).run N w=.ok (.func fn first cap) w:=λ_ _ _ _=>rfl;go_enter func226,ntmps226;go_wp2;go_ret;exact⟨rfl,rfl⟩
theorem JiN(ga ca gb cb:Nat)(A B:List BA)(hA:A.length<=1000000)(q post:List (BA×BA))(x:BA×BA)(hl:A.zip B=q++x::post)(hq:∀z∈q,z.1=z.2)(hx:x.1 ≠ x.2)(w:aA)(hga:ga<w.heap.size)(dW:gb<w.heap.size)
 (xa:∀(j:Nat) t,A[j]? =Z t->w.cell? ⟨ga,j,Y⟩=Z (L t)) (xb:∀(j:Nat) t,B[j]? =Z t->w.cell? ⟨gb,j,Y⟩=Z (L t)):
  CallsIn Fence.wide 5 N 148 #[R (Z ⟨ga,0,Y⟩) A.length ca,R (Z ⟨gb,0,Y⟩) B.length cb] w λe W'=>e=aC (aI #[L x.1,L x.2,aK])/\Below w.heap.size w W':=by
 have h1:1<=5:=by omega
 have xH:Fence.wide.round=Y:=rfl;have HL:J _:=hl;have HQ:J _:=hq;have HX:J _:=hx;have HG:J (ga<w.heap.size/\gb<w.heap.size):=⟨hga,dW⟩
 have HXA:J _:=xa;have xB:J _:=xb;refine callsIn_of_wp_marks func148 rfl trivial ?_ xH;simp only[ntmps148,List.size_toArray,Qp,Qv,lH,Nat.reduceSub,Array.replicate_succ,Array.replicate_zero,List.push_toArray,List.append_toArray,List.nil_append,lI];gi_wp2;refine⟨trivial,(callsIn_wide.2 (callsIn_wide.1 (Jh4 _ _ _ _ _ _ _))).mono ?_⟩;rintro _ _⟨rfl,rfl⟩;gi_wp2;obtain⟨WD,jI⟩:∃WD,WD=((((w.alloc (T #[L ⟨#[]⟩] 9)).alloc (T #[L ⟨#[]⟩] 9)).alloc (T #[aK] 92)).alloc (T #[R (Z ⟨ga,0,Y⟩) A.length ca] 58)).alloc (T #[R (Z ⟨gb,0,Y⟩) B.length cb] 58):=⟨_,rfl⟩
 rw[<-jI];have qF:Below w.heap.size w WD:=by rw[jI];exact(((((Below.refl _ w).alloc (Ql _) _).alloc (by simp) _).alloc (by simp;omega) _).alloc (by simp;omega) _).alloc (by simp;omega) _
 have hz:WD.heap.size=w.heap.size+5:=by rw[jI];simp
 have gq:∀(V:aA)(o:Obj)(j:Nat)(x:Obj),V.heap[j]? =Z x->_:=λV o j x h=>(Below.heap_alloc V o j (Jb h)).trans h;have jn:∀(V:aA)(o:Obj)(j:Nat),V.heap.size=j->(V.alloc o).heap[j]? =Z o:=λV o j h=>by subst h;exact Qf V o
 have r0:WD.heap[w.heap.size]? =Z (T #[L ⟨#[]⟩] 9):=by rw[jI];exact gq _ _ _ _ (gq _ _ _ _ (gq _ _ _ _ (gq _ _ _ _ (jn _ _ _ (by simp)))))
 have r1:WD.heap[w.heap.size+1]? =Z (T #[L ⟨#[]⟩] 9):=by rw[jI];exact gq _ _ _ _ (gq _ _ _ _ (gq _ _ _ _ (jn _ _ _ (by simp))))
 have r2:WD.heap[w.heap.size+2]? =Z (T #[aK] 92):=by rw[jI];exact gq _ _ _ _ (gq _ _ _ _ (jn _ _ _ (by simp)))
 have r3:WD.heap[w.heap.size+3]? =Z (T #[R (Z ⟨ga,0,Y⟩) A.length ca] 58):=by rw[jI];exact gq _ _ _ _ (jn _ _ _ (by simp))
 have r4:WD.heap[w.heap.size+4]? =Z (T #[R (Z ⟨gb,0,Y⟩) B.length cb] 58):=by rw[jI];exact jn _ _ _ (by simp)
 have hU:TgAt w.heap.size (w.heap.size+3) (w.heap.size+4) ga ca gb cb A B WD:=⟨r3,r4,⟨HG.1,HG.2,by omega⟩,λj t ht=>(qF.cell (p:=⟨ga,j,Y⟩) HG.1).trans (HXA j t ht),λj t ht=>(qF.cell (p:=⟨gb,j,Y⟩) HG.2).trans (xB j t ht)⟩
 have rK:PtI w #[R (Z ⟨ga,0,Y⟩) A.length ca] #[R (Z ⟨gb,0,Y⟩) B.length cb] [] WD:=⟨qF,λy hy=>(by cases hy),r0,r1,r2,r3,r4⟩
 refine wpIn_rangeFunc_ownF xH h1 (gf:=297) (lb:= #[X (Z ⟨w.heap.size+1+1+1,0,Y⟩),X (Z ⟨w.heap.size+1+1+1+1,0,Y⟩)]) rfl trivial (enters_of func297 (by kernel_rfl) rfl)
  (Jji 4 (by omega) (w.heap.size+1+1+1) (w.heap.size+1+1+1+1) w.heap.size ga ca gb cb A B hA WD hU) (λh k=>⟨h.1.trans k.1,λcs aY hc=>k.2.1 cs aY (h.2.1 cs aY hc),λcs aY hc=>k.2.2 cs aY (h.2.2 cs aY hc)⟩)
  (λW l o o' hl ho hc yT=>⟨belowK_b (w:=w) (Ql _) W l o o' (by omega) ho hc yT,λcs aY h=>Ju h (grownBy_putObj' _ l o') (λr e=>by cases e;exact⟨o,ho,hc⟩),λcs aY h=>Ju h (grownBy_putObj' _ l o') (λr e=>by cases e;exact⟨o,ho,hc⟩)⟩) (Below.refl _ _) (λ_=>rfl)
  (PtI w #[R (Z ⟨ga,0,Y⟩) A.length ca] #[R (Z ⟨gb,0,Y⟩) B.length cb]) (λc pre W=>c=.ret/\PtX w pre W) (PtI.own (by omega)) (λc=>λs W W' row h hg hr=>⟨h.1,PtX.own (by omega) s W W' row h.2 hg hr⟩) rK
  (λx=>{ tmps:= #[R (Z ⟨ga,0,Y⟩) A.length ca,R (Z ⟨gb,0,Y⟩) B.length cb,undef,undef,X (Z ⟨w.heap.size,0,Y⟩),X (Z ⟨w.heap.size+1,0,Y⟩),X (Z ⟨w.heap.size+1+1,0,Y⟩),L x.1,L x.2,R (Z ⟨ga,0,Y⟩) A.length ca,R (Z ⟨gb,0,Y⟩) B.length cb,.func (.func 297) #[] #[X (Z ⟨w.heap.size+1+1+1,0,Y⟩),X (Z ⟨w.heap.size+1+1+1+1,0,Y⟩)],L x.1,L x.2,undef,undef,undef,undef,undef,undef,undef],defers:=[] }) ?assign ?body ?done ?stop
 case assign=>intro l x W K hK;gi_wp2;exact hK
 case body=>
  rintro l pre y W hI jw;obtain⟨y1,y2⟩:=y;have HI:J _:=hI;have c0:W.cell? ⟨w.heap.size,0,Y⟩=Z (L ⟨#[]⟩):=Ja hI.r0;have c1:W.cell? ⟨w.heap.size+1,0,Y⟩=Z (L ⟨#[]⟩):=Ja hI.r1;have c2:W.cell? ⟨w.heap.size+1+1,0,Y⟩=Z aK:=Ja hI.r2;have f0:W.frozen? ⟨w.heap.size,0,Y⟩=false:=Qg _ _ _ _ _ hI.r0;have f1:W.frozen? ⟨w.heap.size+1,0,Y⟩=false:=Qg _ _ _ _ _ hI.r1;have f2:W.frozen? ⟨w.heap.size+1+1,0,Y⟩=false:=Qg _ _ _ _ _ hI.r2
  by_cases he:y1=y2
  ·subst he;gi_wp2;refine⟨⟨Ql _,λk o hk ho=>hk⟩,⟨Below.refl _ _,λcs aY h=>h,λcs aY h=>h⟩,HI.below,λz hz=>?_,HI.r0,HI.r1,HI.r2,HI.ba,HI.bb⟩
   rcases QE.1 hz with hz|hz
   ·exact HI.eqs z hz
   ·simp only[Qt]at hz;rw[hz]
  ·have Hd:¬y1.toList=y2.toList:=λh=>he (JbA h);have yM:(y1.toList == y2.toList)=false:=(by simp[Hd]);have xw:J _:=he;gi_wp2;have ht:=HI.o.two xw.o;exact⟨ht.1,rfl,ht.2⟩
 case done=>rintro aV ys W hD zr hI hK;exfalso;refine HX (hI.eqs x ?_);rw[zr,HL.o];simp
 case stop=>
  rintro aV c pre W hD sK⟨rfl,hX⟩ hK;obtain⟨q',y,e1,e2,e3,(io:J _),(ui:J _),(HE6:J _)⟩:=hX.two;obtain rfl:=Jkt HL HQ HX sK e1 e2 e3;have s7:=hX.below;have vV:J _:=s7;clear e1 e2 e3 hX sK s7 rK hU qF;gi_wp2;have hg:=grownBy_putObj' W aV (.deferred Y);have kL:∀r,Z aV=Z r->∃o:Obj,W.heap[r]? =Z o/\o.isCells=false:=λr e=>by cases e;exact⟨_,hK,rfl⟩
  refine⟨by simp,aM ⟨_,_,rfl,run_takeDeferred hK,?_⟩⟩;refine⟨_,Jen results148 _ _ ⟨w.heap.size,0,Y⟩ ⟨w.heap.size+1,0,Y⟩ ⟨w.heap.size+1+1,0,Y⟩ (L y.1) (L y.2) aK rfl rfl rfl (isAgg9 _) (isAgg9 _) (isAgg92 _) (Ja (Ju io hg kL)) (Ja (Ju ui hg kL)) (Ja (Ju HE6 hg kL)),rfl,?_⟩;exact vV.trans (belowK_b (w:=w) (Ql _) W aV _ _ (by omega) hK rfl rfl)

def RTx(wj:Nat)(s:List UInt8)(i:Nat)(w:aA)(e:Ending)(w':aA):Prop:=
 M D w w'/\match Xq wj s i with
 | none=>∃x:Sl×Sl,e=aC (aI #[aH #[R x.1.1 x.1.2.1 x.1.2.2,R x.2.1 x.2.2.1 x.2.2.2],O I (-1)])
 | some (t,n)=>∃x:Sl×Sl,e=aC (aI #[aH #[R x.1.1 x.1.2.1 x.1.2.2,R x.2.1 x.2.2.1 x.2.2.2],O I (n:Int)])/\COwn w.heap.size w' (R x.1.1 x.1.2.1 x.1.2.2) t.1/\OOwn w.heap.size w' (R x.2.1 x.2.2.1 x.2.2.2) t.2
theorem r_tx(wj:Nat)(Hf:1<=wj)(hw:wj<=32)(s:BA)(i:Nat)(hi:i<=s.size)(hs:s.size<=10000000)(w:aA):
  aB N 254 #[O I (wj:Int),L s,O I (i:Int)] w (RTx wj s.data.toList i w):=by
 have Hi:s.data.toList.length=s.size:=by rw[QA];rfl
 by_cases h1:i<s.size
 ·have bd:(i:Int)<(s.size:Int):=by omega
  have h1n:¬(s.size:Int)<=(i:Int):=by omega
  have xe:=Zj s i h1;obtain⟨c,hc⟩:∃c:Nat,s[i].toNat=c:=⟨_,rfl⟩
  have yD:=UInt8.toNat_lt s[i];rw[hc]at xe yD;have wc:I.wrap (c:Int)=(c:Int):=w63 _ (by omega) (by omega)
  by_cases h2:1<=c/\c<=3
  ·have mq:¬3<(c:Int):=(by omega);have h2j:¬(c:Int)<1:=(by omega);have ww1:I.wrap ((wj:Int)+1)=(wj:Int)+1:=w63 _ (by omega) (by omega);have nH:(wj+1)*c<=99:=Qm (Nat.mul_le_mul (show wj+1<=33 by omega) h2.2) (by omega);obtain⟨wc',vq⟩:∃wc':Nat,(wj+1)*c=wc':=⟨_,rfl⟩
   have iJ:((wj:Int)+1)*(c:Int)=(wc':Int):=(by rw[<-vq];simp);have ww9:I.wrap (((wj:Int)+1)*(c:Int))=(wc':Int):=(by rw[iJ];exact w63 _ (by omega) (by omega));have wi:I.wrap ((i:Int)+1)=(i:Int)+1:=w63 _ (by omega) (by omega);have wt:I.wrap ((i:Int)+1+(wc':Int))=(i:Int)+1+(wc':Int):=w63 _ (by omega) (by omega)
   by_cases h3:i+1+wc'<=s.size
   ·have rk:¬(s.size:Int)<(i:Int)+1+(wc':Int):=(by omega);have HE:J (YJ wj s.data.toList (i+1) c->Xq wj s.data.toList i=(Xc s.data.toList (i+1+wc')).map λx=>((XW wj s.data.toList (i+1) c,x.1),x.2)):=λHb=>by
     unfold Xq;rw[xe,Hi,vq,if_pos ⟨h1,h2.1,h2.2,h3,Hb⟩]
    have HEN:J (¬YJ wj s.data.toList (i+1) c->Xq wj s.data.toList i=Y):=λHb=>by
     unfold Xq;rw[xe,Hi,vq,if_neg (λh=>Hb h.2.2.2.2)]
    have iH:J _:=vq;clear xe Hi vq iJ;go_enter func254,ntmps254;go_wp2;obtain⟨wA,gH⟩:∃wA,wA=(w.alloc (T #[R Y 0 0,R Y 0 0] 98)).alloc (T #[R Y 0 0,R Y 0 0] 98):=⟨_,rfl⟩
    have Hz:J (M D w wA):=(by rw[gH];exact(Ta D w _).trans (Ta D _ _) (λ_ h=>aM h));have j6:=kX gH;have kS:=hnn gH;rw[<-gH];clear gH;obtain⟨xb,(xB:J _)⟩:∃xb,xb=w.heap.size+1:=⟨_,rfl⟩
    rw[<-xB]at kS;rw[<-xB];have HSA:J (w.heap.size+2<=wA.heap.size):=by
     have:=(Jb kS)
     have:=xB.o;show w.heap.size+2<=wA.heap.size;omega
    go_loopw [9] (λvi wr=>∃(m:Nat)(v1:aG),m<=c/\vi=O I (m:Int)/\J (COwn (w.heap.size+2) wr v1 (XW wj s.data.toList (i+1) m))/\J (YJ wj s.data.toList (i+1) m)/\J (wr.heap[xb]? =Z (T #[v1,R Y 0 0] 98))/\J (wr.heap[w.heap.size]? =Z (T #[R Y 0 0,R Y 0 0] 98))/\J (M D w wr)/\J (w.heap.size+2<=wr.heap.size)) (λvi _=>c-(intOf vi).toNat)
    case atStart=>exact⟨0,R Y 0 0,by omega,rfl,COwn.nil _ _,λj hj=>absurd hj (by omega),kS,j6,Hz,HSA⟩
    case round=>
     clear j6 kS Hz HSA;obtain⟨m,v1,hm,rfl,kQ,xL,yN,ke,HT,xK⟩:=hrel;obtain⟨na,nm,nc,uF⟩:=kQ.shape3;subst uF;have HCX:J (∀V,M D wr V->V.cell? ⟨xb,0,Y⟩=Z (R na nm nc)):=λV hV=>Ja ((hV.block _ (Jb yN) (λh=>h)).trans yN)
     by_cases H5:m<c
     ·have uL:(m:Int)<(c:Int):=(by omega);have tO:(wj+1)*m+(wj+1)<=(wj+1)*c:=(by rw[<-Nat.mul_succ];exact Nat.mul_le_mul_left _ H5);rw[iH.o]at tO;obtain⟨wm,(iK:J _)⟩:∃wm:Nat,(wj+1)*m=wm:=⟨_,rfl⟩
      rw[iK]at tO;have w5:I.wrap (((wj:Int)+1)*(m:Int))=(wm:Int):=by have e:((wj:Int)+1)*(m:Int)=(wm:Int):=(by rw[<-iK];simp);rw[e];exact w63 _ (by omega) (by omega)
      have w6:I.wrap ((i:Int)+1+(wm:Int))=(i:Int)+1+(wm:Int):=w63 _ (by omega) (by omega);have p1:(0:Int)<=(i:Int)+1+(wm:Int):=(by omega);have p2:(i:Int)+1+(wm:Int)<=(s.size:Int):=(by omega);have p3:((i:Int)+1+(wm:Int)).toNat=i+1+wm:=(by omega);obtain⟨P,hP⟩:∃P:BA,s.extract (i+1+wm) s.size=P:=⟨_,rfl⟩
      have mr:P.data.toList=s.data.toList.drop (i+1+wm):=(by rw[<-hP,lE,lF,lD,QS];rw[lJ,QA];show s.size-_<=_;omega);have hPs:P.size=s.size-(i+1+wm):=(by rw[<-hP,ByteArray.size_extract];omega);have hPw:wj<P.size:=(by omega);have hPwi:(wj:Int)<(P.size:Int):=(by omega);have hPwl:(wj:Int)<=(P.size:Int):=(by omega);obtain⟨o8,ho8⟩:∃o8:Nat,P[wj].toNat=o8:=⟨_,rfl⟩
      have ms:J (Js s.data.toList (i+1+wm+wj)=o8):=(by show Js _ _=_;rw[<-ho8,<-Zj P wj hPw,mr];unfold Js;rw[Qn,Qn,List.getElem?_drop]);have h8:=UInt8.toNat_lt P[wj];rw[ho8]at h8;have w8:I.wrap (o8:Int)=(o8:Int):=w63 _ (by omega) (by omega)
      by_cases xg:o8<3
      ·have hcoi:¬3<=(o8:Int):=(by omega);obtain⟨T0,zt⟩:∃T0:BA,P.extract 0 wj=T0:=⟨_,rfl⟩
       have HCP:J (Jbo wj s.data.toList (i+1+(wj+1)*m)=(T0,(o8:Int))):=by
        show Jbo _ _ _=_;unfold Jbo;rw[iK.o,ms.o]
        congr 1
        refine Jb9 ?_;rw[<-zt,lE,lF,mr];simp[lD]
       have p7:J (XW wj s.data.toList (i+1) (m+1)=XW wj s.data.toList (i+1) m++[(T0,(o8:Int))]):=(by show XW _ _ _ _=_;rw[JgR,HCP.o]);have ry:J (YJ wj s.data.toList (i+1) (m+1)):=λj hj=>by
        rcases Nat.lt_succ_iff_lt_or_eq.1 hj with h|h
        ·exact xL j h
        ·subst h;rw[iK.o,ms.o];exact xg
       obtain⟨v3,w3,Hy,kM,xt⟩:=Jdk (w:=(wr.alloc (T #[L T0,O I (o8:Int)] 49)).drew) (kQ.tch (M.box wr _) (λ_ _ h=>h)) (R (Z ⟨wr.heap.size,0,Y⟩) 1 1) (wr.heap.size+1) [(T0,(o8:Int))] ((Jmx wr (T0,(o8:Int))).tch (Td D _ 1) noE) 96 (by simp[XW];omega) (Qm xK (M.box wr _).size);have H8:J _:=((M.box wr _).mono noE).trans (Tg xt) (λ_ h=>aM h);have dF:J (Z xb ≠ (Value.slice na nm nc).ownBlock):=λe=>by have:=(kQ.own _ e.symm).1;have:=xB.o;omega
       have kY:J _:=(H8.block _ (Jb yN) dF).trans yN.o;have iL:J _:=(H8.block _ (Jb ke) (λe=>by have:=(kQ.own _ e.symm).1;omega)).trans ke.o;have HC3:J (w3.cell? ⟨xb,0,Y⟩=Z (R na nm nc)):=Ja kY.o;have z3:w3.frozen? ⟨xb,0,Y⟩=false:=Qg _ _ _ _ _ kY.o;have c3:=HC3.o;have jR:J _:=HT.trans H8 (λj hj=>aN (by have:=(kQ.own j hj.symm).1;omega));have yf:J (w3.setCell ⟨xb,0,Y⟩ v3=w3.setRow xb #[v3,R Y 0 0]):=Qj w3 xb 0 _ _ _ _ kY.o;have gS:J (COwn _ w3 v3 _):=kM;obtain⟨va,vm,vc,qx⟩:=kM.shape3;subst qx;clear mr hPs ms xt kM;go_upto_region 10 with fail;clear hP;refine Xn (S:=λV=>V.cell? ⟨xb,0,Y⟩=Z (R na nm nc)) 20 (by simp) (by kernel_rfl) (by kernel_rfl) (HCX _ (Td _ _ 1)) ?_;intro hHeld l o hl ho;simp only[List.dropLast_cons_cons,List.dropLast_singleton]at hl;simp only[List.getLast_cons_cons,List.getLast_singleton]at ho;subst hl;subst ho;simp only[Qp,Qv,lH];refine tkL 0 ?_;simp only[lC,Qa,Qb,Qc];refine tkL 1 ?_;simp only[lC,Qa,Qb,Qc];refine tkL 2 ?_;simp only[lC,Qa,Qb,Qc];refine tkL 3 ?_;simp only[lC,Qa,Qb,Qc];refine tkL 4 ?_;simp only[lC,Qa,Qb,Qc];refine tkL 5 ?_;simp only[lC,Qa,Qb,Qc];refine tkL 6 ?_;simp only[lC,Qa,Qb,Qc];refine tkL 7 ?_;simp only[lC,Qa,Qb,Qc];refine tkL 8 ?_;simp only[lC,Qa,Qb,Qc];refine tkL 9 ?_;simp only[lC,Qa,Qb,Qc];refine JaI (i:=10) rfl (by kernel_rfl) (λK hK=>?_);go_simp;refine hK _ _ (by first|exact HCX _ (M.box wr _)|exact HCX _ (M.drewAlloc wr _)) (λ_=>?_);clear hK K
       try simp only[lC,Qa,Qb,Qc]
       refine JaI (i:=11) rfl (by kernel_rfl) (λK hK=>?_);refine JaB Hy (by rfl) _ _ (by rfl) (by rfl) (by rfl) ?_;refine hK _ _ HC3 (λ_=>?_);clear hK K
       try simp only[lC,Qa,Qb,Qc]
       refine tkL 12 ?_;simp only[lC,Qa,Qb,Qc];refine wpAnyH_done (by kernel_rfl) ?_ _;show wpList _ _ _ [_] _ _;go_wp2;go_roundw
       case rel=>
        have hx:=xB.o;refine⟨m+1,R va vm vc,by omega,by go_num,?_,ry,?_,?_,?_,?_⟩
        ·rw[p7.o,yf.o];exact gS.tch (Ts _ _ _) (λj hj e=>by have:=(gS.own j hj).1;omega)
        ·rw[yf.o];exact Qi _ _ _ _ _ _ kY.o
        ·rw[yf.o];exact((Ts w3 xb _).block _ (Jb iL) (λe=>by omega)).trans iL.o
        ·rw[yf.o];exact jR.trans (Ts _ _ _) (λx e=>aN (by omega))
        ·rw[yf.o];exact Qm xK (Qm H8.size (Ts w3 xb _).size)
       case measure=>simp[intOf];omega
      ·have hcoi:3<=(o8:Int):=(by omega);have vN:J _:=HEN (λh=>xg (by have:=h m H5;rw[iK.o,ms.o]at this;exact this));obtain⟨b0,b1⟩:=rows yN.o;obtain⟨r0,r1⟩:=rows ke.o;have fR:∀j,wr.frozen? ⟨w.heap.size,j,Y⟩=false:=λj=>Qg _ _ _ _ _ ke.o;clear mr hPs ms;go_wp2;obtain⟨p1,p2⟩:=Jd5 ke (R na nm nc) (R Y 0 0);refine QK (v:=aI #[aH #[R na nm nc,R Y 0 0],O I (-1)]) (Je results254 _ _ w.heap.size _ _ (0,0) _ rfl p1 underlying98 rfl (by kernel_rfl)) rfl ⟨?_,?_⟩
       ·exact HT.trans p2 (λx hx=>aN (by rw[hx];exact Ql _))
       ·rw[vN.o];exact⟨((na,nm,nc),(Y,0,0)),rfl⟩
     ·obtain rfl:m=c:=(by omega);have gI:¬(m:Int)<(m:Int):=(by omega);have vN:=HE xL.o;have kR:J _:=vN;have HOU:J (∀V,aB N 109 #[L s,O I ((i:Int)+1+(wc':Int))] V (Jo8 s.data.toList (i+1+wc') V)):=λV=>by
       have:=JpX s (i+1+wc') h3 hs V;rw[show ((i+1+wc':Nat):Int)=(i:Int)+1+(wc':Int) by omega]at this;exact this
      have dZ:J (∀V,M D wr V->V.heap[xb]? =Z (T #[R na nm nc,R Y 0 0] 98)/\V.heap[w.heap.size]? =Z (T #[R Y 0 0,R Y 0 0] 98)):=λV hV=>⟨(hV.block _ (Jb yN) (λh=>h)).trans yN,(hV.block _ (Jb ke) (λh=>h)).trans ke⟩
      clear HE HEN vN;have HAF:J (∀(w1:aA)(v2:aG),M D wr w1->∃w2,w1.setCell ⟨xb,1,Y⟩ v2=w2/\M (λx=>x=xb) w1 w2/\w2.heap[xb]? =Z (T #[R na nm nc,v2] 98)/\w2.heap[w.heap.size]? =Z (T #[R Y 0 0,R Y 0 0] 98)):=λw1 v2 hV=>by
       obtain⟨g1,g2⟩:=dZ w1 hV;refine⟨_,Qj w1 xb 1 _ _ _ _ g1,Ts _ _ _,Qi _ _ _ _ _ _ g1,((Ts w1 xb _).block _ (Jb g2) (λe=>by have:=xB.o;omega)).trans g2⟩
      cases hou:Xc s.data.toList (i+1+wc') with
      | none=>
       have da:J (∀V,aB N 109 #[L s,O I ((i:Int)+1+(wc':Int))] V λe w'=>e=aC (aI #[R Y 0 0,O I (-1)])/\M D V w'):=λV=>(HOU V).mono (by
        rintro e w'⟨g1,g2⟩;rw[hou]at g2;exact⟨g2,g1⟩)
       rw[hou]at kR;clear HOU hou;go_upto_region 13 with(go_at_call 109;refine(da _).mono ?_;rintro _ w1⟨rfl,H6⟩;have H3:J (M D wr w1):=H6;have g:=dZ w1 H6;have q1:w1.cell? ⟨xb,1,Y⟩=Z (R Y 0 0):=(Ja g.1);have z1:w1.frozen? ⟨xb,1,Y⟩=false:=(Qg _ _ _ _ _ g.1);clear H6 g);obtain⟨w2,e2,t2,g1,g2⟩:=HAF w1 (R Y 0 0) H3.o;rw[e2];obtain⟨b0,b1⟩:=rows g1;obtain⟨r0,r1⟩:=rows g2;have fR:∀j,w2.frozen? ⟨w.heap.size,j,Y⟩=false:=λj=>Qg _ _ _ _ _ g2;have tI:J (w2.heap[w.heap.size]? =_):=g2;have gM:J (M D w w2):=(HT.trans H3 (λ_ h=>aM h)).trans t2 (λx hx=>aN (by have:=xB.o;omega));clear e2 t2 g1 g2;go_wp2;obtain⟨p1,p2⟩:=Jd5 tI (R na nm nc) (R Y 0 0);refine QK (v:=aI #[aH #[R na nm nc,R Y 0 0],O I (-1)]) (Je results254 _ _ w.heap.size _ _ (0,0) _ rfl p1 underlying98 rfl (by kernel_rfl)) rfl ⟨?_,?_⟩
       ·exact gM.trans p2 (λx hx=>aN (by rw[hx];exact Ql _))
       ·rw[kR.o];exact⟨((na,nm,nc),(Y,0,0)),rfl⟩
      | some x=>
       obtain⟨l,n⟩:=x;have da:J (∀V,aB N 109 #[L s,O I ((i:Int)+1+(wc':Int))] V λe w'=>∃va vm vc,e=aC (aI #[R va vm vc,O I (n:Int)])/\OOwn V.heap.size w' (R va vm vc) l/\M D V w'):=λV=>(HOU V).mono (by
        rintro e w'⟨g1,g2⟩;rw[hou]at g2;obtain⟨v,he,ho⟩:=g2;obtain⟨va,vm,vc,qW⟩:=ho.shape3;subst qW;exact⟨va,vm,vc,he,ho,g1⟩)
       rw[hou]at kR;clear HOU hou;go_upto_region 13 with(go_at_call 109;refine(da _).mono ?_;rintro _ w1⟨va,vm,vc,rfl,se,H6⟩;have HO1:J (OOwn _ w1 _ l):=se;have H3:J (M D wr w1):=H6;have g:=dZ w1 H6;have q1:w1.cell? ⟨xb,1,Y⟩=Z (R Y 0 0):=(Ja g.1);have z1:w1.frozen? ⟨xb,1,Y⟩=false:=(Qg _ _ _ _ _ g.1);clear H6 g se);obtain⟨w2,e2,t2,g1,g2⟩:=HAF w1 (R va vm vc) H3.o;rw[e2];obtain⟨b0,b1⟩:=rows g1;obtain⟨r0,r1⟩:=rows g2;have fR:∀j,w2.frozen? ⟨w.heap.size,j,Y⟩=false:=λj=>Qg _ _ _ _ _ g2;have tI:J (w2.heap[w.heap.size]? =_):=g2;have H4:J (M (λx=>x=xb) w1 w2):=t2;have gM:J (M D w w2):=(HT.trans H3 (λ_ h=>aM h)).trans t2 (λx hx=>aN (by have:=xB.o;omega));clear e2 t2 g1 g2;go_wp2;obtain⟨p1,p2⟩:=Jd5 tI (R na nm nc) (R va vm vc);refine QK (v:=aI #[aH #[R na nm nc,R va vm vc],O I (n:Int)]) (Je results254 _ _ w.heap.size _ _ (0,0) _ rfl p1 underlying98 rfl (by kernel_rfl)) rfl ⟨?_,?_⟩
       ·exact gM.trans p2 (λx hx=>aN (by rw[hx];exact Ql _))
       ·rw[kR.o];have Hi:=xK.o;have hx:=xB.o;refine⟨((na,nm,nc),(va,vm,vc)),rfl,?_,?_⟩
        ·have h5:=((kQ.tch H3 (λ_ _ h=>h)).tch H4 (λj hj e=>by have:=(kQ.own j hj).1;omega)).tch p2 (λj hj e=>by have:=(kQ.own j hj).1;omega);obtain⟨k1,k2|⟨g,cap,cur,k2,k3,k4⟩⟩:=h5
         ·exact⟨k1,aM k2⟩
         ·exact⟨k1,aN ⟨g,cap,cur,k2,by omega,k4⟩⟩
        ·have h5:=(HO1.tch H4 (λj hj e=>by have:=(HO1.own j hj).1;omega)).tch p2 (λj hj e=>by have:=(HO1.own j hj).1;omega);obtain⟨k1,k2|⟨g,cap,cur,k2,k3,k4⟩⟩:=h5
         ·exact⟨k1,aM k2⟩
         ·exact⟨k1,aN ⟨g,cap,cur,k2,by omega,k4⟩⟩
   ·have rk:(s.size:Int)<(i:Int)+1+(wc':Int):=(by omega);have HE:J (Xq wj s.data.toList i=Y):=by
     show Xq _ _ _=_;unfold Xq;rw[xe,Hi,vq,if_neg (λh=>h3 h.2.2.2.1)]
    clear Hi;go_enter func254,ntmps254;go_wp2;refine QK (v:=aI #[aH #[R Y 0 0,R Y 0 0],O I (-1)]) (Je results254 _ _ w.heap.size _ _ (0,0) _ rfl (heap_alloc2_old _ _ _) underlying98 rfl (by kernel_rfl)) rfl ⟨?_,?_⟩
    ·exact(Ta D w _).trans (Ta D _ _) (λ_ h=>aM h)
    ·rw[HE.o];exact⟨((Y,0,0),(Y,0,0)),rfl⟩
  ·rcases Nat.lt_or_ge c 1 with h2l|h2l
   ·have h2j:(c:Int)<1:=(by omega);have HE:J (Xq wj s.data.toList i=Y):=by
     show Xq _ _ _=_;unfold Xq;rw[xe,if_neg (λh=>h2 ⟨h.2.1,h.2.2.1⟩)]
    clear Hi;go_enter func254,ntmps254;go_wp2;refine QK (v:=aI #[aH #[R Y 0 0,R Y 0 0],O I (-1)]) (Je results254 _ _ w.heap.size _ _ (0,0) _ rfl (heap_alloc2_old _ _ _) underlying98 rfl (by kernel_rfl)) rfl ⟨?_,?_⟩
    ·exact(Ta D w _).trans (Ta D _ _) (λ_ h=>aM h)
    ·rw[HE.o];exact⟨((Y,0,0),(Y,0,0)),rfl⟩
   ·have h2j:¬(c:Int)<1:=(by omega);have h2k:3<(c:Int):=(by omega);have HE:J (Xq wj s.data.toList i=Y):=by
     show Xq _ _ _=_;unfold Xq;rw[xe,if_neg (λh=>h2 ⟨h.2.1,h.2.2.1⟩)]
    clear Hi;go_enter func254,ntmps254;go_wp2;refine QK (v:=aI #[aH #[R Y 0 0,R Y 0 0],O I (-1)]) (Je results254 _ _ w.heap.size _ _ (0,0) _ rfl (heap_alloc2_old _ _ _) underlying98 rfl (by kernel_rfl)) rfl ⟨?_,?_⟩
    ·exact(Ta D w _).trans (Ta D _ _) (λ_ h=>aM h)
    ·rw[HE.o];exact⟨((Y,0,0),(Y,0,0)),rfl⟩
 ·have h1n:(s.size:Int)<=(i:Int):=by omega
  have HE:J (Xq wj s.data.toList i=Y):=by show Xq _ _ _=_;unfold Xq;rw[Hi,if_neg (λh=>h1 h.1)]
  clear Hi;go_enter func254,ntmps254;go_wp2;refine QK (v:=aI #[aH #[R Y 0 0,R Y 0 0],O I (-1)]) (Je results254 _ _ w.heap.size _ _ (0,0) _ rfl (heap_alloc2_old _ _ _) underlying98 rfl (by kernel_rfl)) rfl ⟨?_,?_⟩
  ·exact(Ta D w _).trans (Ta D _ _) (λ_ h=>aM h)
  ·rw[HE.o];exact⟨((Y,0,0),(Y,0,0)),rfl⟩

def Jde(ts:List TxL)(r:Option (List TxL×Nat)):Option (List TxL×Nat):=r.map λx=>(ts++x.1,x.2)
theorem Jjj(wj:Nat)(s:List UInt8)(ts:List TxL)(n i:Nat)(t:TxL)(j:Nat)(h:Xq wj s i=Z (t,j)):Jde ts (Xf wj s (n+1) i)=Jde (ts++[t]) (Xf wj s n j):=by
 simp only[Xf,h]
 cases Xf wj s n j with
 | none=>rfl
 | some y=>simp[Jde]
theorem Jjk(wj:Nat)(s:List UInt8)(ts:List TxL)(n i:Nat)(h:Xq wj s i=Y):Jde ts (Xf wj s (n+1) i)=Y:=by
 simp only[Xf,h];rfl
theorem Jox(W:aA)(o:Obj)(x:Sl×Sl):Xa (W.heap.size+1+1) ((W.alloc o).alloc (T #[R x.1.1 x.1.2.1 x.1.2.2,R x.2.1 x.2.2.1 x.2.2.2] 98)) (R (Z ⟨W.heap.size+1,0,Y⟩) 1 1) [x]:=by
 have:=JpN (W.alloc o) x;rw[show (W.alloc o).heap.size=W.heap.size+1 by simp]at this;exact this
def Jo7(wj:Nat)(s:List UInt8)(w:aA)(e:Ending)(w':aA):Prop:=
 M D w w'/\match Yl wj s with
 | none=>∃v:aG,e=aC (aI #[v,aL false])
 | some ts=>∃v,e=aC (aI #[v,aL true])/\Zo w.heap.size w' v ts
theorem JpV(wj:Nat)(Hf:1<=wj)(hw:wj<=32)(s:BA)(hs:s.size<=10000000)(w:aA):
  aB N 170 #[O I (wj:Int),L s] w (Jo7 wj s.data.toList w):=by
 have Hi:s.data.toList.length=s.size:=by rw[QA];rfl
 by_cases h1:0<s.size
 ·have bd:(0:Int)<(s.size:Int):=by omega
  have hem:s.toList.isEmpty=false:=by
   rw[ByteArray.toList_eq]
   cases hd:s.data.toList with
   | nil=>rw[hd]at Hi;simp at Hi;omega
   | cons a r=>rfl
  have xe:=Zj s 0 h1;obtain⟨c,hc⟩:∃c:Nat,s[0].toNat=c:=⟨_,rfl⟩
  have yD:=UInt8.toNat_lt s[0];rw[hc]at xe yD;have wc:I.wrap (c:Int)=(c:Int):=w63 _ (by omega) (by omega)
  by_cases h2:c<=3
  ·have mq:¬3<(c:Int):=(by omega);have HE:J (∀x,Xf wj s.data.toList c 1=x->Yl wj s.data.toList=match x with|none=>Y|some (ts,j)=>if j=s.size then Z ts else Y):=by
    rintro x rfl;unfold Yl;rw[xe,Hi,if_pos ⟨by omega,h2⟩];rfl
   go_enter func170,ntmps170;go_wp2;go_loopw [6,7,8] (λvl va vi wr=>∃(m j:Nat)(ts:List TxL),m<=c/\vi=O I (m:Int)/\va=O I (j:Int)/\j<=s.size/\J (ts.length=m)/\J (Zo w.heap.size wr vl ts)/\J (Xf wj s.data.toList c 1=Jde ts (Xf wj s.data.toList (c-m) j))/\J (M D w wr)) (λ_ _ vi _=>c-(intOf vi).toNat)
   case atStart=>
    refine⟨0,1,[],by omega,rfl,rfl,by omega,rfl,⟨[],TOwn.nil _ _,rfl,λj x t h=>by simp at h⟩,?_,Te _ _⟩;show Xf _ _ _ _=_
    cases h:Xf wj s.data.toList c 1<;>simp[Jde]
   case round=>
    obtain⟨m,j,ts,hm,rfl,rfl,hj,rx,kQ,kR,HT⟩:=hrel;have h0i:=bd
    by_cases H5:m<c
    ·have uL:(m:Int)<(c:Int):=(by omega);have HR:=λV=>r_tx wj Hf hw s j hj hs V;have um:J _:=HR;obtain⟨k,hk⟩:∃k,c-m=k+1:=⟨c-m-1,by omega⟩
     rw[hk]at kR;have HKK:J (c-(m+1)=k):=(by omega:c-(m+1)=k)
     cases vk:Xq wj s.data.toList j with
     | none=>
      have db:J (∀V,aB N 254 #[O I (wj:Int),L s,O I (j:Int)] V λe w'=>∃x:Sl×Sl,e=aC (aI #[aH #[R x.1.1 x.1.2.1 x.1.2.2,R x.2.1 x.2.2.1 x.2.2.2],O I (-1)])/\M D V w'):=λV=>(um V).mono (by
       rintro e w'⟨g1,g2⟩;rw[vk]at g2;obtain⟨x,he⟩:=g2;exact⟨x,he,g1⟩)
      have HEN:J (Yl wj s.data.toList=Y):=(by rw[Jjk wj s.data.toList ts k j vk]at kR;exact HE _ kR.o);go_wp2_with (go_at_call 254;refine(db _).mono ?_;rintro _ w1⟨x,rfl,(H3:J _)⟩);go_ret2;refine⟨(HT.trans H3 (λ_ h=>aM h)).trans (Ta D _ _) (λ_ h=>aM h),?_⟩;rw[HEN.o];exact⟨_,rfl⟩
     | some y=>
      obtain⟨t,n⟩:=y;have hn:=(Jco vk).1;have Hi:s.data.toList.length=s.size:=(by rw[QA];rfl);rw[Hi]at hn;simp only at hn;have db:J (∀V,M D w V->aB N 254 #[O I (wj:Int),L s,O I (j:Int)] V λe w'=>∃x:Sl×Sl,e=aC (aI #[aH #[R x.1.1 x.1.2.1 x.1.2.2,R x.2.1 x.2.2.1 x.2.2.2],O I (n:Int)])/\(COwn w.heap.size w' (R x.1.1 x.1.2.1 x.1.2.2) t.1/\OOwn w.heap.size w' (R x.2.1 x.2.2.1 x.2.2.2) t.2)/\M D V w'):=λV hV=>(um V).mono (by
       rintro e w'⟨g1,g2⟩;rw[vk]at g2;obtain⟨x,he,hc1,se⟩:=g2;refine⟨x,he,⟨?_,?_⟩,g1⟩
       ·obtain⟨k1,k2|⟨g,cap,cur,k2,k3,k4⟩⟩:=hc1
        ·exact⟨k1,aM k2⟩
        ·exact⟨k1,aN ⟨g,cap,cur,k2,Qm hV.size k3,k4⟩⟩
       ·obtain⟨k1,k2|⟨g,cap,cur,k2,k3,k4⟩⟩:=se
        ·exact⟨k1,aM k2⟩
        ·exact⟨k1,aN ⟨g,cap,cur,k2,Qm hV.size k3,k4⟩⟩)
      have yj:J (Xf wj s.data.toList c 1=Jde (ts++[t]) (Xf wj s.data.toList k n)):=(by show Xf _ _ _ _=_;rw[kR.o];exact Jjj wj s.data.toList ts k j t n vk);have hn0:¬(n:Int)<0:=(by omega);obtain⟨lt,rI,(qS:J _),(fI:J _)⟩:=kQ.o;obtain⟨ta,tm,tc,zU⟩:=rI.shape3;subst zU;have po:J (TOwn w.heap.size wr (R ta tm tc) lt):=rI;clear rI kQ;go_wp2_with (first
       | (go_at_call 254;refine(db _ HT).mono ?_;rintro _ w1⟨x,rfl,(pi:J _),(H3:J _)⟩)
       | (at_builtin;refine JcS rfl _ _ rfl rfl (po.tch ((H3.trans (Ta D w1 _) (λ_ h=>aM h)).trans (Ta D _ _) (λ_ h=>aM h)) (λ_ _ h=>h)) _ _ [x] rfl (Jox w1 _ x) (by rw[qS.o,rx.o];simp;omega) (Qm HT.size (Qm H3.size (Qm (Ta D w1 _).size (Ta D _ _).size))) ?_;intro v3 w3 (gS:J _) (yu:J _)))
      go_roundw
      case rel=>
       have t12:M D wr ((w1.alloc (T #[R x.1.1 x.1.2.1 x.1.2.2,R x.2.1 x.2.2.1 x.2.2.2] 98)).alloc (T #[R x.1.1 x.1.2.1 x.1.2.2,R x.2.1 x.2.2.1 x.2.2.2] 98)):=(H3.trans (Ta D w1 _) (λ_ h=>aM h)).trans (Ta D _ _) (λ_ h=>aM h);have t1:M D w1 ((w1.alloc (T #[R x.1.1 x.1.2.1 x.1.2.2,R x.2.1 x.2.2.1 x.2.2.2] 98)).alloc (T #[R x.1.1 x.1.2.1 x.1.2.2,R x.2.1 x.2.2.1 x.2.2.2] 98)):=(Ta D w1 _).trans (Ta D _ _) (λ_ h=>aM h);refine⟨m+1,n,ts++[t],by omega,by go_num,rfl,hn,by show (ts++[t]).length=m+1;rw[Qe,rx.o];rfl,?_,by show Xf _ _ _ _=_;rw[HKK.o];exact yj,?_⟩
       ·exact Zo.push (x:=x) (po.tch t12 (λ_ _ h=>h)) qS (λj x t hx ht=>⟨(fI j x t hx ht).1.tch t12 (λ_ _ h=>h),(fI j x t hx ht).2.tch t12 (λ_ _ h=>h)⟩) (pi.1.tch t1 (λ_ _ h=>h)) (pi.2.tch t1 (λ_ _ h=>h)) gS yu.o
       ·exact(HT.trans t12 (λ_ h=>aM h)).trans (Tg yu) (λj hj=>aN (po.own j hj.symm).1)
      case measure=>simp[intOf];omega
    ·obtain rfl:m=c:=(by omega);have gI:¬(m:Int)<(m:Int):=(by omega);have HB:=HE _ kR.o;rw[Nat.sub_self]at HB;simp only[Xf,Jde,Option.map_some,QC]at HB;have yI:J _:=HB;obtain⟨lt,rI,_⟩:=kQ.o;obtain⟨ta,tm,tc,zU⟩:=rI.shape3;subst zU
     by_cases he:j=s.size
     ·have i8:(j:Int)=(s.size:Int):=(by omega);have HF:J (Yl wj s.data.toList=Z ts):=(by show Yl _ _=_;rw[yI.o,if_pos he]);have HEB:J (((j:Int) == (s.size:Int))=true):=(by show _=true;simp[he]);go_wp2;go_ret2;refine⟨HT,?_⟩;rw[HF.o];refine⟨R ta tm tc,?_,kQ⟩
      first
       | rfl
       | (show Ending.returned (aI #[R ta tm tc,aL ((j:Int) == (s.size:Int))])=_;rw[HEB.o])
     ·have i8:¬(j:Int)=(s.size:Int):=(by omega);have HF:J (Yl wj s.data.toList=Y):=(by show Yl _ _=_;rw[yI.o,if_neg he]);have HEB:J (((j:Int) == (s.size:Int))=false):=(by show _=false;simp[i8]);go_wp2;go_ret2;refine⟨HT,?_⟩;rw[HF.o];refine⟨R ta tm tc,?_⟩
      first
       | rfl
       | (show Ending.returned (aI #[R ta tm tc,aL ((j:Int) == (s.size:Int))])=_;rw[HEB.o])
  ·have mq:3<(c:Int):=(by omega);have HE:J (Yl wj s.data.toList=Y):=by
    show Yl _ _=_;unfold Yl;rw[xe,if_neg (λh=>h2 h.2)]
   go_enter func170,ntmps170;go_wp2;go_ret2;exact⟨Te _ _,by rw[HE.o];exact⟨_,rfl⟩⟩
 ·have hem:s.toList.isEmpty=true:=by
   rw[ByteArray.toList_eq,QP (show s.data.toList.length=0 by omega)];rfl
  have HE:J (Yl wj s.data.toList=Y):=by show Yl _ _=_;unfold Yl;rw[Hi,if_neg (λh=>by omega)]
  go_enter func170,ntmps170;go_wp2;go_ret2;exact⟨Te _ _,by rw[HE.o];exact⟨_,rfl⟩⟩

theorem JlM(hw:wj<=32)(h:Yl wj s=Z ts):s.length<=385/\ts.length<=3/\∀t∈ts,TxOk wj t:=by
 rw[<-JdF wj []]at h
 cases hb:(PS.rd [] s).body wj [] with
 | none=>rw[hb]at h;cases h
 | some x=>
  obtain⟨us,p⟩:=x;rw[hb]at h;obtain⟨b,r',h1,h2,h3,h4⟩:=Jaj wj hw _ _ _ _ hb;subst h3
  cases r' with
  | cons a r=>cases h
  | nil=>
   cases h
   rw[h2,QC];exact⟨h1,h4⟩
theorem Jp7{v:aG}(h:Zo base w v ts):∃sl,TxsR w.heap.size w v sl/\TxIs w.heap.size w ts sl:=by
 obtain⟨l,h1,h2,h3⟩:=h;refine⟨l,h1.at.raw,h2.symm,λi hi xV=>?_⟩;have:=h3 i _ _ (Qd xV) (Qd hi);exact⟨this.1.at.raw,this.2.at.raw⟩
def RSub(wj base rb:Nat)(G:Nat->Prop)(ch:Ch)(t:List UInt8)(w:aA)(e:Ending)(w':aA):Prop:=
 match Xv wj ch t with
 | .error er=>e=aC (O I (Xr er))/\M D w w'
 | .ok ch'=>e=aC (O I 0)/\M G w w'/\∃G' vL lv b,RfAt wj base w' rb G' ch' vL lv b/\∀j,G' j->G j\/w.heap.size<=j
theorem JmR(hD:DgC)(Hf:1<=wj)(hw:wj<=32){rb:Nat}{G:Nat->Prop}{ch:Ch}{vL:aG}{lv:List Lv}{b:BA}(h:RfAt wj base w rb G ch vL lv b)(hl:ch.length<=1000000)(gX:base<=w.heap.size)(aY:BA)(hT:aY.size<=10000000):
  aB N 110 #[X (Z ⟨rb,0,Y⟩),L aY] w (RSub wj base rb G ch aY.data.toList w):=by
 have h1:=h.len.2;have Hd:lv ≠ []:=λe=>by have:=h.len;rw[e]at this;simp at this;omega
 obtain⟨g,cap,vO,hg,_⟩:=h.lvs.at Hd;rw[h.len.1]at vO;subst vO;have qA:J (∀V,M D w V->_):=λV hV=>h.tch hV (λ_ e=>e.elim);have HP:J (∀V,M D w V->V.cell? ⟨rb,0,Y⟩=Z (O I (wj:Int))/\V.cell? ⟨rb,1,Y⟩=Z (R (Z ⟨g,0,Y⟩) ch.length cap)):=λV hV=>by
  have hr:=(qA V hV).row;exact⟨Ja hr,Ja hr⟩
 have Hi:aY.data.toList.length=aY.size:=by rw[QA];rfl
 obtain⟨z0,z1⟩:=HP w (Te _ _);obtain⟨aZ,hN⟩:∃aZ:Nat,4+3*wj=aZ:=⟨_,rfl⟩
 have wn:I.wrap (3*(wj:Int))=3*(wj:Int):=w63 _ (by omega) (by omega);have wn2:I.wrap (4+3*(wj:Int))=(aZ:Int):=by rw[w63 _ (by omega) (by omega)];omega
 clear h Hd
 by_cases hshort:aY.size<aZ
 ·have ef:(aY.size:Int)<(aZ:Int):=by omega
  have HE:J (Xv wj ch aY.data.toList=.error .form):=by show Xv _ _ _=_;unfold Xv;rw[hN,Hi,if_pos hshort]
  clear Hi hN;go_enter func110,ntmps110;go_wp2;go_ret;show RSub _ _ _ _ _ _ _ _ _;unfold RSub;rw[HE.o];exact⟨rfl,Te _ _⟩
 ·have ef:¬(aY.size:Int)<(aZ:Int):=by omega
  have hNl:(aZ:Int)<=(aY.size:Int):=by omega
  obtain⟨S1,uw⟩:∃S1:BA,aY.extract aZ aY.size=S1:=⟨_,rfl⟩
  have ki:J (S1.data.toList=aY.data.toList.drop aZ):=by show _=_;rw[<-uw,lE,lF,lD,QS];rw[lJ,Hi];omega
  have hS1s:S1.size<=10000000:=by rw[<-uw,ByteArray.size_extract];omega
  have uQ:J (∀V,aB N 170 #[O I (wj:Int),L S1] V (Jo7 wj (aY.data.toList.drop aZ) V)):=λV=>by
   have:=JpV wj Hf hw S1 hS1s V;rw[ki.o]at this;exact this
  cases hb:Yl wj (aY.data.toList.drop aZ) with
  | none=>
   have pS:J (∀V,aB N 170 #[O I (wj:Int),L S1] V λe w'=>∃v,e=aC (aI #[v,aL false])/\M D V w'):=λV=>(uQ V).mono (by
    rintro e w'⟨g1,g2⟩;rw[hb]at g2;obtain⟨v,he⟩:=g2;exact⟨v,he,g1⟩)
   have HE:J (Xv wj ch aY.data.toList=.error .form):=(by show Xv _ _ _=_;unfold Xv;rw[hN,Hi,if_neg hshort,hb]);clear Hi hN hb uQ ki;go_enter func110,ntmps110;go_upto_region 4 with fail;go_cut [6,7] (λ_ v7 wx=>v7=aL false/\J (M D w wx))
   case first=>
    go_region_held3 (λV=>V.cell? ⟨rb,0,Y⟩=Z (O I (wj:Int))) (go_keep) ((go_at_call 170;refine(pS _).mono ?_;rintro _ w1⟨v,rfl,H6⟩;have H3:J _:=(Td D w 1).trans H6 (λ_ h=>aM h);have y0:=(HP w1 H3).1;clear H6))
    all_goals go_wp2;go_meet;exact⟨rfl,H3⟩
   case rest=>
   obtain⟨rfl,H3⟩:=hcut;go_wp2;go_ret;show RSub _ _ _ _ _ _ _ _ _;unfold RSub;rw[HE.o];exact⟨rfl,H3⟩
  | some ts=>
   obtain⟨qQ,h3,ho⟩:=JlM hw hb;have yI:J _:=JgO hb;have pS:J (∀V,aB N 170 #[O I (wj:Int),L S1] V λe w'=>∃va vm vc,e=aC (aI #[R va vm vc,aL true])/\Zo V.heap.size w' (R va vm vc) ts/\M D V w'):=λV=>(uQ V).mono (by
    rintro e w'⟨g1,g2⟩;rw[hb]at g2;obtain⟨v,he,hv⟩:=g2;obtain⟨l,jq,_⟩:=id hv;obtain⟨va,vm,vc,hs⟩:=jq.shape3;subst hs;exact⟨va,vm,vc,he,hv,g1⟩)
   have yU:=Jhk ch h1;obtain⟨m,hm⟩:∃m:Nat,ch.length=m+1:=⟨ch.length-1,by omega⟩
   rw[show ch.length-1=m by omega]at yU;have zl:J (∀V,M D w V->aB N 118 #[X (Z ⟨rb,0,Y⟩)] V λe w'=>e=aC (O I (m:Int))/\M D V w'):=λV hV=>by
    have:=JhE (qA V hV) (by omega);rw[show (ch.length:Int)-1=(m:Int) by omega]at this;exact this
   have HM:J _:=hm;obtain⟨D1,nC⟩:∃D1,dgW wj (72::ch.last.1.data.toList)=D1:=⟨_,rfl⟩
   have hD1s:D1.size=wj:=(by rw[<-nC];exact Jj wj hw _);have yz:J (∀V,M D w V->aB N 172 #[X (Z ⟨rb,0,Y⟩),O I (m:Int)] V λe w'=>e=aC (L D1)/\M D V w'):=λV hV=>by
    have:=r_id hD Hf hw (qA V hV) (by omega) m ch.last yU;rw[nC]at this;exact this
   have yH:J (∀V,_):=λV=>XU ch.length 4 V (by omega);have yq:IntKind.u64.wrap (ch.length:Int)=(ch.length:Int):=(by simp[IntKind.wrap,IntKind.bits,IntKind.signed];omega);have hS1l:S1.data.toList.length<=385:=(by rw[ki.o];exact qQ);have a1:=JO [66] S1.data.toList (by simp at hS1l ⊢;omega);simp only[Array.toArray_toList]at a1;have e1:∀y:BA,(⟨y.data⟩:BA)=y:=λy=>rfl;rw[e1]at a1;have a1':∀W,(Op.stringOp .add (⟨#[66]⟩:BA) S1).run N W=.ok (L ⟨(66::S1.data.toList).toArray⟩) W:=a1;obtain⟨D2,hD2⟩:∃D2,dgW wj (66::S1.data.toList)=D2:=⟨_,rfl⟩
   have hD2s:D2.size=wj:=(by rw[<-hD2];exact Jj wj hw _);have HDB:J (∀V,aB N 103 #[O I (wj:Int),L ⟨(66::S1.data.toList).toArray⟩] V λe w'=>e=aC (L D2)/\M D V w'):=λV=>by
    have:=hD wj ⟨(66::S1.data.toList).toArray⟩ V Hf hw (by rw[Jh,Qp];omega);rw[show (⟨(66::S1.data.toList).toArray⟩:BA).data.toList=66::S1.data.toList from rfl,hD2]at this;exact this
   obtain⟨X0,mG⟩:∃X0:BA,⟨(beL ch.length 4 4).toArray⟩=X0:=⟨_,rfl⟩
   have hX0s:X0.size=4:=(by rw[<-mG,Jh,Jf]);obtain⟨TP,hTP⟩:∃TP:BA,X0++D1++D2=TP:=⟨_,rfl⟩
   have iM:J (TP.data.toList=tipB wj ch (aY.data.toList.drop aZ)):=(by show _=_;rw[<-hTP,<-ki.o];unfold tipB;rw[nC,hD2,<-mG];simp);have b1:∀W,(Op.stringOp .add X0 D1).run N W=.ok (L (X0++D1)) W:=λW=>run_string_add_sum (P:=N) W X0 D1 (by omega);have b2:∀W,(Op.stringOp .add (X0++D1) D2).run N W=.ok (L (X0++D1++D2)) W:=λW=>run_string_add_sum (P:=N) W _ D2 (by rw[ByteArray.size_append];omega);rw[hTP]at b2;rw[mG]at yH;clear hTP mG hX0s nC hD2 hD1s hD2s a1 e1 hm yU uQ;generalize (⟨(66::S1.data.toList).toArray⟩:BA)=SB at *;generalize X0++D1=X1 at *;have jo:J (Xv wj ch aY.data.toList=if aY.data.toList.take (4+2*wj) ≠ tipB wj ch (aY.data.toList.drop aZ) then .error .tip else match JH (dgW wj) ch.last.2 ts with
     | .error e=>.error e
     | .ok st=>if (aY.data.toList.drop (4+2*wj)).take wj ≠ (Xh (dgW wj) st).data.toList then .error .root else .ok (ch++[(⟨(aY.data.toList.take aZ).toArray⟩,st)])):=by
    show Xv _ _ _=_;unfold Xv;rw[hN,Hi,if_neg hshort,hb];rfl
   have hwn:I.wrap ((aZ:Int)-(wj:Int))=((4+2*wj:Nat):Int):=(by rw[w63 _ (by omega) (by omega)];omega);have p1:((4+2*wj:Nat):Int)<=(aY.size:Int):=(by omega);have p2:((4+2*wj:Nat):Int)<=(aZ:Int):=(by omega);obtain⟨S2,uy⟩:∃S2:BA,aY.extract 0 (4+2*wj)=S2:=⟨_,rfl⟩
   have jL:J (S2.data.toList=aY.data.toList.take (4+2*wj)):=(by show _=_;rw[<-uy,lE,lF];simp[lD]);obtain⟨S3,hS3⟩:∃S3:BA,aY.extract (4+2*wj) aZ=S3:=⟨_,rfl⟩
   have yf:J (S3.data.toList=(aY.data.toList.drop (4+2*wj)).take wj):=(by show _=_;rw[<-hS3,lE,lF,lD,show aZ-(4+2*wj)=wj by omega]);have vA:J (4+3*wj=aZ/\aZ<=aY.size):=⟨hN,by omega⟩
   obtain⟨N1,mz⟩:∃N1:Nat,4+2*wj=N1:=⟨_,rfl⟩
   rw[mz]at hwn p1 p2 uy hS3 jo jL yf;have HN1:J (4+2*wj=N1):=mz;clear hb Hi hN mz;go_enter func110,ntmps110;go_upto_region 4 with fail;go_cut [6,7] (λv6 v7 wx=>v7=aL true/\∃va vm vc,v6=R va vm vc/\J (Zo w.heap.size wx (R va vm vc) ts)/\J (M D w wx))
   case first=>
    go_region_held3 (λV=>V.cell? ⟨rb,0,Y⟩=Z (O I (wj:Int))) (go_keep) ((go_at_call 170;refine(pS _).mono ?_;rintro _ w1⟨va,vm,vc,rfl,vk,H6⟩;have kR:J (Zo w.heap.size w1 _ ts):=vk;have H3:J (M D w w1):=(Td D w 1).trans H6 (λ_ h=>aM h);have y0:=(HP w1 H3).1;clear H6 vk))
    all_goals go_wp2;go_meet;exact⟨rfl,va,vm,vc,rfl,kR,H3⟩
   case rest=>
   obtain⟨rfl,va,vm,vc,rfl,kR,H3⟩:=hcut;obtain⟨wA,gH⟩:∃wA,wA=wc:=⟨wc,rfl⟩
   subst gH;clear z0 z1 pS;obtain⟨z0,z1⟩:=HP wA H3.o;go_upto_region 7 with fail;go_cut [8] (λv8 wx=>v8=L TP/\J (M D wA wx))
   case first=>
    go_region_held3 (λV=>V.cell? ⟨rb,0,Y⟩=Z (O I (wj:Int))/\V.cell? ⟨rb,1,Y⟩=Z (R (Z ⟨g,0,Y⟩) ch.length cap)) (go_keep) ((first
     | (go_at_call 171;refine(yH _).mono ?_;rintro _ w2⟨rfl,H7⟩;have H4:J (M D wA w2):=(Td D wA 1).trans H7 (λ_ h=>aM h);have y2:=HP w2 (H3.trans H4 (λ_ h=>aM h));obtain⟨y20,y21⟩:=y2;clear H7)
     | (go_at_call 118;refine(zl _ (H3.trans H4 (λ_ h=>aM h))).mono ?_;rintro _ w3⟨rfl,Hm⟩;have H8:J (M D wA w3):=H4.trans Hm (λ_ h=>aM h);have y3:=HP w3 (H3.trans H8 (λ_ h=>aM h));obtain⟨y30,y31⟩:=y3;clear Hm)
     | (go_at_call 172;refine(yz _ (H3.trans H8 (λ_ h=>aM h))).mono ?_;rintro _ w4⟨rfl,Ho⟩;have He:J (M D wA w4):=H8.trans Ho (λ_ h=>aM h);have y4:=HP w4 (H3.trans He (λ_ h=>aM h));obtain⟨y40,y41⟩:=y4;clear Ho)
     | (go_at_call 103;refine(HDB _).mono ?_;rintro _ w5⟨rfl,kI⟩;have Hu:J (M D wA w5):=He.trans kI (λ_ h=>aM h);have y5:=HP w5 (H3.trans Hu (λ_ h=>aM h));obtain⟨y50,y51⟩:=y5;clear kI)))
    all_goals go_wp2;go_meet;exact⟨rfl,Hu⟩
   case rest=>
   obtain⟨rfl,H4⟩:=hcut;obtain⟨wB,xq⟩:∃wB,wB=wc:=⟨wc,rfl⟩
   subst xq;clear z0 z1 yH zl yz HDB b1 b2 a1';have gE:J (M D w wB):=H3.trans H4 (λ_ h=>aM h);obtain⟨z0,z1⟩:=HP wB gE.o
   by_cases xG:aY.data.toList.take N1=tipB wj ch (aY.data.toList.drop aZ)
   ·have zK:(S2.toList == TP.toList)=true:=(by rw[ByteArray.toList_eq,ByteArray.toList_eq,jL.o,iM.o,xG];simp);rw[if_neg (λh=>h xG)]at jo;have jx:J (aY.data.toList.take N1=tipB wj ch (aY.data.toList.drop aZ)):=xG;clear xG;obtain⟨sl,hsA,hsI⟩:=Jp7 (kR.tch H4);have rZ:J (aB N 173 #[X (Z ⟨rb,0,Y⟩),R va vm vc] wB (RLv wj ch ts G wB)):=JjO hD Hf hw (qA wB gE) (by omega) _ _ ts sl h3 ho hsA hsI;clear hsA hsI
    cases hap:JH (dgW wj) ch.last.2 ts with
    | error er=>
     have yJ:J (aB N 173 #[X (Z ⟨rb,0,Y⟩),R va vm vc] wB λe w'=>e=aC (aI #[aH #[L ⟨#[]⟩,L ⟨#[]⟩,L ⟨#[]⟩,R Y 0 0],O I (Xr er)])/\M D wB w'):=rZ.mono (by
      rintro e w'⟨g1,g2⟩;rw[hap]at g2;exact⟨g2,g1⟩)
     rw[hap]at jo;simp only at jo;have Hd:¬Xr er=0:=(by cases er<;>decide);clear rZ hap;go_wp2_with (go_at_call 173;refine yJ.mono ?_;rintro _ w6⟨rfl,gV⟩;have k8:J (M D wB w6):=gV;clear gV);go_ret;show RSub _ _ _ _ _ _ _ _ _;unfold RSub;rw[jo.o];exact⟨rfl,(gE.trans k8 (λ_ h=>aM h)).trans (Ta D _ _) (λ_ h=>aM h)⟩
    | ok st=>
     have yJ:J (aB N 173 #[X (Z ⟨rb,0,Y⟩),R va vm vc] wB λe w'=>∃(E1 E2 E3:BA)(s:Sl),e=aC (aI #[aH #[L E1,L E2,L E3,R s.1 s.2.1 s.2.2],O I 0])/\(E1=dgW wj (72::ch.last.1.data.toList)/\E2=dgW wj (66::JL ts)/\E3=Xh (dgW wj) st)/\(∃l:List H9,RhAt w' (R s.1 s.2.1 s.2.2) l/\Book wj st l/\l.length<=9*(ch.length+1)/\∀j,(Value.slice s.1 s.2.1 s.2.2).ownBlock=Z j->G j\/wB.heap.size<=j)/\M D wB w'):=rZ.mono (by
      rintro e w'⟨g1,g2⟩;rw[hap]at g2;obtain⟨s,l,he,k1,k2,k3,k4⟩:=g2;exact⟨_,_,_,s,he,⟨rfl,rfl,rfl⟩,⟨l,k1,k2,k3,k4⟩,g1⟩)
     rw[hap]at jo;simp only at jo;clear rZ hap;go_upto_region 14 with(go_at_call 173;refine yJ.mono ?_;rintro _ w6⟨E1,E2,E3,s,rfl,hes,uD,gV⟩;have HES:J (_/\_):=hes;have sR:J (∃l:List H9,_):=uD;have k8:J (M D wB w6):=gV;clear gV hes uD);obtain⟨wC,rD⟩:∃wC,wC=w6.alloc (T #[L E1,L E2,L E3,R s.1 s.2.1 s.2.2] 205):=⟨_,rfl⟩
     have iN:=xu rD;have jz:J (M D w wC):=(gE.trans k8 (λ_ h=>aM h)).trans iN (λ_ h=>aM h);have kF:J (wC.heap[w6.heap.size]? =Z (T #[L E1,L E2,L E3,R s.1 s.2.1 s.2.2] 205)):=(by rw[rD];exact Qf _ _);rw[<-rD];clear rD z0 z1 yJ;have nj:J (w.heap.size<=w6.heap.size):=Qm gE.size k8.size;generalize w6.heap.size=xb at *;obtain⟨z0,z1⟩:=HP wC jz.o;have b2:wC.cell? ⟨xb,2,Y⟩=Z (L E3):=Ja kF.o;obtain⟨q,hq,hq2⟩:∃q:Bool,(E3.toList == S3.toList)=q/\(q=true↔(aY.data.toList.drop N1).take wj=(Xh (dgW wj) st).data.toList):=⟨_,rfl,by
      rw[beq_iff_eq,ByteArray.toList_eq,ByteArray.toList_eq,yf.o,HES.o.2.2];exact eq_comm⟩
     have j8:J (q=true↔_):=hq2;have hqn:(E3.toList != S3.toList)= !q:=(by rw[bne,hq]);clear hq2;go_cut [86] (λv wx=>v=aL (!q)/\J (M D wC wx))
     case first=>
      go_region_held3 (λV=>V.cell? ⟨rb,0,Y⟩=Z (O I (wj:Int))/\V.cell? ⟨xb,2,Y⟩=Z (L E3)) (go_keep) (fail)
      all_goals
       go_wp2;go_meet;refine⟨?_,Td _ _ 1⟩
       first
        | rfl
        | (rw[<-hqn])
        | (rw[<-hqn];rfl)
        | simp[hqn,hq]
     case rest=>
     obtain⟨rfl,pH⟩:=hcut;obtain⟨wD,ft⟩:∃wD,wD=wc:=⟨wc,rfl⟩
     subst ft;clear z0 z1 b2 hqn hq;have zf:J (M D w wD):=jz.trans pH (λ_ h=>aM h)
     cases q with
     | false=>
      rw[if_pos (λh=>by have:=j8.o.2 h;cases this)]at jo;go_wp2;go_ret;show RSub _ _ _ _ _ _ _ _ _;unfold RSub;rw[jo.o];exact⟨rfl,zf⟩
     | true=>
      rw[if_neg (λh=>h (j8.o.1 rfl))]at jo;have uQ:J (wD.heap[xb]? =Z (T #[L E1,L E2,L E3,R s.1 s.2.1 s.2.2] 205)):=(pH.block _ (Jb kF) (λh=>h)).trans kF.o;obtain⟨z0,z1⟩:=HP wD zf.o;obtain⟨b0,b1,b2,b3⟩:=rows uQ.o;have rT:J (∀V,M D wD V->(V.cell? ⟨rb,1,Y⟩=Z (R (Z ⟨g,0,Y⟩) ch.length cap))/\(V.cell? ⟨xb,0,Y⟩=Z (L E1)/\V.cell? ⟨xb,1,Y⟩=Z (L E2)/\V.cell? ⟨xb,2,Y⟩=Z (L E3)/\V.cell? ⟨xb,3,Y⟩=Z (R s.1 s.2.1 s.2.2))):=λV hV=>by
       have hr:=(hV.block _ (Jb uQ) (λh=>h)).trans uQ.o;exact⟨(HP V (zf.trans hV (λ_ h=>aM h))).2,Ja hr,Ja hr,Ja hr,Ja hr⟩
      have gC:J (RfAt wj base (wD.alloc (T #[L E1,L E2,L E3,R s.1 s.2.1 s.2.2] 205)).drew rb G ch (R (Z ⟨g,0,Y⟩) ch.length cap) lv b):=qA _ (zf.trans (M.box wD _) (λ_ h=>aM h));have jn:=Qf wD (T #[L E1,L E2,L E3,R s.1 s.2.1 s.2.2] 205);obtain⟨v3,w3,Hy,kM,xt,uJ⟩:=Jes (w:=(wD.alloc (T #[L E1,L E2,L E3,R s.1 s.2.1 s.2.2] 205)).drew) gC.lvs wD.heap.size ((E1,E2,E3),s) ⟨cell_of_row (wD.alloc _) _ _ _ _ _ jn,cell_of_row (wD.alloc _) _ _ _ _ _ jn,cell_of_row (wD.alloc _) _ _ _ _ _ jn,cell_of_row (wD.alloc _) _ _ _ _ _ jn⟩ 206 (by rw[gC.o.len.1];omega) (Qm (Qm gX zf.size) (M.box wD _).size);have H8:J (M (λj=>j=g) wD w3):=((M.box wD _).mono noE).trans (Tg xt) (λj hj=>aM (by cases hj;rfl));have hrg:rb ≠ g:=λe=>Jeo gC.row gC.lvs (by rw[e];rfl);have vp:xb ≠ g:=λe=>by
       have h5:=(gC.own g (gC.vG g rfl)).2;have h6:=((qA w (Te _ _)).own g ((qA w (Te _ _)).vG g rfl)).2;have h7:=nj.o;omega
      have sY:J (wD.heap[rb]? =Z (T #[O I (wj:Int),R (Z ⟨g,0,Y⟩) ch.length cap,O I 0,L b] 208)):=(qA wD zf).row;have kY:J (w3.heap[rb]? =Z (T #[O I (wj:Int),R (Z ⟨g,0,Y⟩) ch.length cap,O I 0,L b] 208)):=(H8.block _ (Jb sY) hrg).trans sY.o;have sL:=(H8.block _ (Jb uQ) vp).trans uQ.o;have iO:J ((w3.cell? ⟨rb,1,Y⟩=Z (R (Z ⟨g,0,Y⟩) ch.length cap))/\(w3.cell? ⟨xb,0,Y⟩=Z (L E1)/\w3.cell? ⟨xb,1,Y⟩=Z (L E2)/\w3.cell? ⟨xb,2,Y⟩=Z (L E3)/\w3.cell? ⟨xb,3,Y⟩=Z (R s.1 s.2.1 s.2.2))):=⟨Ja kY,Ja sL,Ja sL,Ja sL,Ja sL⟩
      have c3:=iO.o.1;have f3:w3.frozen? ⟨rb,1,Y⟩=false:=Qg _ _ _ _ _ kY.o;have HV3:J (∀j,v3.ownBlock=Z j->j=g\/wD.heap.size<=j):=λj hj=>by
       have h5:=(M.box wD (T #[L E1,L E2,L E3,R s.1 s.2.1 s.2.2] 205)).size
       rcases uJ with h|h
       ·rw[h]at hj;cases hj;exact aM rfl
       ·rw[h]at hj;cases hj;exact aN h5
      have gS:J (Zr base w3 v3 (lv++[((E1,E2,E3),s)])):=kM;obtain⟨ka,km,kc,yp⟩:∃ka km kc,v3=R ka km kc:=by
       obtain⟨_,⟨h,_⟩|⟨g',cap',cur,h,_⟩⟩:=kM
       ·exact⟨_,_,_,h⟩
       ·exact⟨_,_,_,h⟩
      subst yp;obtain⟨w4,qG⟩:∃w4,w3.setCell ⟨rb,1,Y⟩ (R ka km kc)=w4:=⟨_,rfl⟩
      have tH:J (w3.setCell ⟨rb,1,Y⟩ (R ka km kc)=w4):=qG;have e4:w4=w3.setRow rb #[O I (wj:Int),R ka km kc,O I 0,L b]:=(by rw[<-qG];exact Qj w3 rb 1 _ _ _ _ kY.o);have qI:J (w4.heap[rb]? =Z (T #[O I (wj:Int),R ka km kc,O I 0,L b] 208)):=(by rw[e4];exact Qi _ _ _ _ _ _ kY.o);have He:J (M (λj=>j=rb) w3 w4):=(by rw[e4];exact Ts _ _ _);have rx:J (aY.data.toList.length<=900):=(by have h5:(aY.data.toList.drop aZ).length<=385:=qQ;rw[lJ]at h5;show aY.data.toList.length<=900;have h6:=vA.o.1;omega);have s5:J (aB N 107 #[X (Z ⟨rb,0,Y⟩),L ⟨#[66]⟩,L aY] w4 λe w'=>e=aC (aI #[])/\M (λj=>j=rb) w4 w'/\∃aW:BA,aW.size<=b.size+1000/\w'.heap[rb]? =Z (T #[O I (wj:Int),R ka km kc,O I 0,L aW] 208)):=(by have kU:b.size<=1000*ch.length:=(qA w (Te _ _)).log;have h5:=JjP hD [66] aY.data.toList rfl (by have:=rx.o;omega) w4 rb _ _ _ b (by omega) qI.o;simp only[Array.toArray_toList]at h5;refine Calls.mono (h5) ?_;rintro _ w'⟨rfl,k2,k3⟩;refine⟨rfl,k2,_,?_,k3⟩;have e1:(⟨(recB [66] aY.data.toList).toArray⟩:BA).size=7+aY.data.toList.length:=(by rw[Jh,Jei [66] _ rfl]);rw[ByteArray.size_append,e1];have:=rx.o;omega);clear jn kM xt sL e4 qG uJ;go_upto_region 15 with fail;refine Xn (S:=λV=>(V.cell? ⟨rb,1,Y⟩=Z (R (Z ⟨g,0,Y⟩) ch.length cap))/\(V.cell? ⟨xb,0,Y⟩=Z (L E1)/\V.cell? ⟨xb,1,Y⟩=Z (L E2)/\V.cell? ⟨xb,2,Y⟩=Z (L E3)/\V.cell? ⟨xb,3,Y⟩=Z (R s.1 s.2.1 s.2.2))) 20 (by simp) (by kernel_rfl) (by kernel_rfl) (rT _ (Td _ _ 1)) ?_;intro hHeld l o hl ho;simp only[List.dropLast_cons_cons,List.dropLast_singleton]at hl;simp only[List.getLast_cons_cons,List.getLast_singleton]at ho;subst hl;subst ho;simp only[Qp,Qv,lH];refine tkL 0 ?_;simp only[lC,Qa,Qb,Qc];refine tkL 1 ?_;simp only[lC,Qa,Qb,Qc];refine tkL 2 ?_;simp only[lC,Qa,Qb,Qc];refine tkL 3 ?_;simp only[lC,Qa,Qb,Qc];refine tkL 4 ?_;simp only[lC,Qa,Qb,Qc];refine tkL 5 ?_;simp only[lC,Qa,Qb,Qc];refine JaI (i:=6) rfl (by kernel_rfl) (λK hK=>?_);go_simp;refine hK _ _ (by first|exact rT _ (M.box wD _)|exact rT _ (M.drewAlloc wD _)) (λ_=>?_);clear hK K
      try simp only[lC,Qa,Qb,Qc]
      refine JaI (i:=7) rfl (by kernel_rfl) (λK hK=>?_);refine JaB Hy (by rfl) _ _ (by rfl) (by rfl) (by rfl) ?_;refine hK _ _ iO (λ_=>?_);clear hK K
      try simp only[lC,Qa,Qb,Qc]
      refine tkL 8 ?_;simp only[lC,Qa,Qb,Qc];refine tkL 9 ?_;simp only[lC,Qa,Qb,Qc];refine wpAnyH_done (by kernel_rfl) ?_ _;show wpList _ _ _ [_] _ _;go_wp2_with (go_at_call 107;rw[tH.o];refine s5.mono ?_;rintro _ w5⟨rfl,kI,qT⟩;have Hu:J (M _ w4 w5):=kI;have jZ:J (∃aW:BA,_):=qT;clear kI qT);go_ret;show RSub _ _ _ _ _ _ _ _ _;unfold RSub;rw[jo.o];obtain⟨aW,cS,hR5⟩:=jZ.o;obtain⟨l,j5,jk,yL,hl4⟩:=sR.o;obtain⟨aj,u9,he3⟩:=HES.o;have t35:M (λj=>j=rb) w3 w5:=He.trans Hu (λ_ h=>aM h);have hN:=vA.o.1;have mz:=HN1.o;have sX:(⟨(aY.data.toList.take aZ).toArray⟩:BA)=⟨(Hn (lvH ch.length ((E1,E2,E3),s))).toArray⟩:=by have h5:=j8.o.1 (by first|rfl|trivial);rw[show aZ=N1+wj by omega,List.take_add,jx.o,h5];unfold Hn lvH tipB;rw[<-yI.o,<-aj,<-u9,<-he3];simp
      have Hb:HdOk wj (lvH ch.length ((E1,E2,E3),s)):=⟨by show ch.length<2 ^ 32;omega,by show E1.size=wj;rw[aj];exact Jj wj hw _,by show E2.size=wj;rw[u9];exact Jj wj hw _,by show E3.size=wj;rw[he3];exact Xw (dgW wj) wj (λl=>Jj wj hw l) st⟩
      have sH:=JoH (x:=((E1,E2,E3),s)) (st:=st) (qA w (Te _ _)) zf H8 t35 gS HV3 hR5 cS ⟨l,j5.tch0 (iN.trans pH (λ_ h=>aM h)),jk,yL,λj hj=>(hl4 j hj).imp id (λh=>Qm gE.size h)⟩ ⟨Hb,sX⟩ gX;exact⟨rfl,sH⟩
   ·have zK:(S2.toList == TP.toList)=false:=by
     rw[beq_eq_false_iff_ne,ByteArray.toList_eq,ByteArray.toList_eq,jL.o,iM.o];exact xG
    rw[if_pos xG]at jo;clear xG;go_wp2;go_ret;show RSub _ _ _ _ _ _ _ _ _;unfold RSub;rw[jo.o];exact⟨rfl,gE⟩

def Jaq(wj:Nat)(r:Option Wy)(w:aA)(e:Ending)(w':aA):Prop:=
 M D w w'/\match r with
 | some wy=>∃g m,e=aC (aI #[aH #[R (Z ⟨g,0,Y⟩) m m,L (wyK wy),O aD ((wyO wy).1:Int),O aE ((wyO wy).2:Int)],aL true])/\wy.1.length+1=m/\g<w'.heap.size/\∀(j:Nat) t,(wy.nodes (dgW wj))[j]? =Z t->w'.cell? ⟨g,j,Y⟩=Z (L ⟨t.toArray⟩)
 | none=>∃a n c k x y,e=aC (aI #[aH #[R a n c,L k,O aD x,O aE y],aL false])
abbrev zP:Array aG:= #[R Y 0 0,L ⟨#[]⟩,O aD 0,O aE 0]
theorem Jeq(h:w.heap[g]? =Z (T #[a,b,c,d] aY))(x0 x1 x2 x3:aG):
  ((((w.setCell ⟨g,0,Y⟩ x0).setCell ⟨g,1,Y⟩ x1).setCell ⟨g,2,Y⟩ x2).setCell ⟨g,3,Y⟩ x3).heap[g]? =Z (T #[x0,x1,x2,x3] aY)/\M (λj=>j=g) w ((((w.setCell ⟨g,0,Y⟩ x0).setCell ⟨g,1,Y⟩ x1).setCell ⟨g,2,Y⟩ x2).setCell ⟨g,3,Y⟩ x3):=by
 rw[Qj w g 0 _ _ (0,0) _ h,Qj _ g 1 _ _ (0,0) _ (Qi _ _ _ _ _ _ h),QI,Qj _ g 2 _ _ (0,0) _ (Qi _ _ _ _ _ _ h),QI,Qj _ g 3 _ _ (0,0) _ (Qi _ _ _ _ _ _ h),QI];exact⟨Qi _ _ _ _ _ _ h,Ts _ _ _⟩
structure Two(w W:aA)(a b c d:aG):Prop where
 r0:W.heap[w.heap.size]? =Z (T zP 302)
 r1:W.heap[w.heap.size+1]? =Z (T #[a,b,c,d] 302)
 tc:M D w W
def JaF(W:aA)(g:Nat)(a b c d:aG):Prop:=W.cell? ⟨g,0,Y⟩=Z a/\W.cell? ⟨g,1,Y⟩=Z b/\W.cell? ⟨g,2,Y⟩=Z c/\W.cell? ⟨g,3,Y⟩=Z d
theorem Jad(h:W.heap[g]? =Z (T #[a,b,c,d] aY)):JaF W g a b c d:=⟨Ja h,Ja h,Ja h,Ja h⟩
theorem Two.tch(h:Two w W a b c d)(t:M D W W'):Two w W' a b c d:=⟨(t.block _ (Jb h.r0) (λe=>e)).trans h.r0,(t.block _ (Jb h.r1) (λe=>e)).trans h.r1,h.tc.go t⟩
theorem JkX(wj:Nat)(hw:wj<=32)(k:BA)(aY:BA)(S:List UInt8)(xf:aY.data.toList=S)(hS:aY.size<=2000000)(Hd:S ≠ [0,0])(pT:aY.size<2\/¬JcU wj S)(w:aA):
  aB N 258 #[O I (wj:Int),L k,L aY] w λe w'=>M D w w'/\∃a n c k x y,e=aC (aI #[aH #[R a n c,L k,O aD x,O aE y],aL false]):=by
 have Hi:S.length=aY.size:=by rw[<-xf,QA];rfl
 have zK:(aY.toList == [0,0])=false:=by rw[beq_eq_false_iff_ne,ByteArray.toList_eq,xf];exact Hd
 obtain⟨W2,jm⟩:∃W2,W2=(w.alloc (T zP 302)).alloc (T zP 302):=⟨_,rfl⟩
 have gF:J (Two w W2 (R Y 0 0) (L ⟨#[]⟩) (O aD 0) (O aE 0)):=⟨by rw[jm];exact heap_alloc2_old _ _ _,by rw[jm];exact heap_alloc2_new _ _ _,by rw[jm];exact M.allocs _ _ _ _⟩
 have gM:J _:=jm;have gK:J (∀V,Two w V (R Y 0 0) (L ⟨#[]⟩) (O aD 0) (O aE 0)->JaF V w.heap.size (R Y 0 0) (L ⟨#[]⟩) (O aD 0) (O aE 0)/\JaF V (w.heap.size+1) (R Y 0 0) (L ⟨#[]⟩) (O aD 0) (O aE 0)/\(∀j,V.frozen? ⟨w.heap.size,j,Y⟩=false)/\((((V.setCell ⟨w.heap.size,0,Y⟩ (R Y 0 0)).setCell ⟨w.heap.size,1,Y⟩ (L ⟨#[]⟩)).setCell ⟨w.heap.size,2,Y⟩ (O aD 0)).setCell ⟨w.heap.size,3,Y⟩ (O aE 0)).heap[w.heap.size]? =Z (T zP 302)/\M D w ((((V.setCell ⟨w.heap.size,0,Y⟩ (R Y 0 0)).setCell ⟨w.heap.size,1,Y⟩ (L ⟨#[]⟩)).setCell ⟨w.heap.size,2,Y⟩ (O aD 0)).setCell ⟨w.heap.size,3,Y⟩ (O aE 0))):=λV h=>by
  obtain⟨p1,p2⟩:=Jeq h.r0 (R Y 0 0) (L ⟨#[]⟩) (O aD 0) (O aE 0);exact⟨Jad h.r0,Jad h.r1,λj=>Qg _ _ _ _ _ h.r0,p1,h.tc.trans p2 (λj hj=>aN (by rw[hj];exact Ql _))⟩
 unfold JaF at gK
 by_cases h2:aY.size<2
 ·have mq:(aY.size:Int)<2:=by omega
  clear pT Hd jm Hi xf;go_enter func258,ntmps258;go_upto_region 2 with fail;rw[<-gM.o];obtain⟨⟨x0,x1,x2,x3⟩,⟨y0,y1,y2,y3⟩,fz,(Hq:J _),(Hw:J _)⟩:=gK W2 gF.o;go_wp2;refine QK (v:=aI #[aH zP,aL false]) (Je results258 _ _ w.heap.size _ _ (0,0) _ rfl Hq underlying302 rfl (by kernel_rfl)) rfl ⟨Hw,_,_,_,_,_,_,rfl⟩
 ·have mq:¬(aY.size:Int)<2:=by omega
  obtain⟨n,hn⟩:∃n,numP S=n:=⟨_,rfl⟩
  have jT:n<65536:=by have:=Ys (S.take 2);rw[QB,Nat.min_eq_left (by omega)]at this;rw[<-hn];exact this
  have HNU:J (∀V,aB N 112 #[L aY,O I 2] V λe w'=>e=aC (O aD (n:Int))/\M D V w'):=λV=>by
   have:=JaZ aY 2 (by omega) (by omega) V;rw[xf]at this;rw[<-hn];exact this
  obtain⟨sz,jQ⟩:∃sz,2+wj=sz:=⟨_,rfl⟩
  obtain⟨E,hE⟩:∃E,2+n*sz=E:=⟨_,rfl⟩
  have hnE:n*sz<=65536*34:=Nat.mul_le_mul (by omega) (by omega);have tl:endP wj S=E:=by unfold endP;rw[hn,jQ,hE]
  have w0:I.wrap (n:Int)=(n:Int):=w63 _ (by omega) (by omega);have w1:I.wrap (2+(wj:Int))=(sz:Int):=by rw[w63 _ (by omega) (by omega)];omega
  have w2:I.wrap ((n:Int)*(sz:Int))=(n:Int)*(sz:Int):=by have:(n:Int)*(sz:Int)=((n*sz:Nat):Int):=(by simp);rw[this];exact w63 _ (by omega) (by omega)
  have w3:I.wrap (2+(n:Int)*(sz:Int))=(E:Int):=by have:2+(n:Int)*(sz:Int)=((2+n*sz:Nat):Int):=(by simp);rw[this,hE];exact w63 _ (by omega) (by omega)
  have w4:I.wrap ((E:Int)+(wj:Int))=(E:Int)+(wj:Int):=w63 _ (by omega) (by omega);have w5:I.wrap ((E:Int)+(wj:Int)+1)=(E:Int)+(wj:Int)+1:=w63 _ (by omega) (by omega);have w6:I.wrap ((E:Int)+(wj:Int)+1+9)=(E:Int)+(wj:Int)+10:=by rw[w63 _ (by omega) (by omega)];omega
  by_cases Hl:aY.size=E+wj+10
  ·have j5:(aY.size:Int)=(E:Int)+(wj:Int)+10:=(by omega);have hb:3<=Js S (E+wj):=by
    rcases pT with h|h
    ·omega
    ·unfold JcU at h;rw[tl,Hi]at h;omega
   obtain⟨c,hc⟩:∃c:Nat,(aY[E+wj]'(by omega)).toNat=c:=⟨_,rfl⟩
   have xe:=Zj aY (E+wj) (by omega);rw[hc,xf]at xe;have hc3:3<=(c:Int):=(by omega);obtain⟨EW,xh⟩:∃EW:Nat,E+wj=EW:=⟨_,rfl⟩
   have w4':I.wrap ((E:Int)+(wj:Int))=(EW:Int):=(by rw[w4];omega);have w5':I.wrap ((EW:Int)+1)=(EW:Int)+1:=w63 _ (by omega) (by omega);have w6':I.wrap ((EW:Int)+1+9)=(EW:Int)+10:=(by rw[w63 _ (by omega) (by omega)];omega);have jk:(aY.size:Int)=(EW:Int)+10:=(by omega);have rl:EW<aY.size:=(by omega);have hixi:(EW:Int)<(aY.size:Int):=(by omega);have uR:aY[EW].toNat=c:=(by subst xh;exact hc);clear pT Hd jm hn hE hnE tl jQ Hi xf Hl j5 hb hc xe xh w4 w5 w6;go_enter func258,ntmps258;go_upto_region 2 with fail;rw[<-gM.o];go_wp2_with (go_at_call 112;refine(HNU _).mono ?_;rintro _ w7⟨rfl,ko⟩;obtain⟨⟨x0,x1,x2,x3⟩,⟨y0,y1,y2,y3⟩,fz,(Hq:J _),(Hw:J _)⟩:=gK w7 (gF.tch ko);clear ko);refine QK (v:=aI #[aH zP,aL false]) (Je results258 _ _ w.heap.size _ _ (0,0) _ rfl Hq underlying302 rfl (by kernel_rfl)) rfl ⟨Hw,_,_,_,_,_,_,rfl⟩
  ·have j5:¬(aY.size:Int)=(E:Int)+(wj:Int)+10:=(by omega);clear pT Hd jm hn hE hnE tl jQ Hi xf;go_enter func258,ntmps258;go_upto_region 2 with fail;rw[<-gM.o];go_wp2_with (go_at_call 112;refine(HNU _).mono ?_;rintro _ w7⟨rfl,ko⟩;obtain⟨⟨x0,x1,x2,x3⟩,⟨y0,y1,y2,y3⟩,fz,(Hq:J _),(Hw:J _)⟩:=gK w7 (gF.tch ko);clear ko);refine QK (v:=aI #[aH zP,aL false]) (Je results258 _ _ w.heap.size _ _ (0,0) _ rfl Hq underlying302 rfl (by kernel_rfl)) rfl ⟨Hw,_,_,_,_,_,_,rfl⟩
theorem Jov(n:Nat)(hn:n<=70000)(w:aA):(Instr.makeSlice 58 (O I (n:Int)) (O I (n:Int))).run N w=.ok (R (Z ⟨w.heap.size,0,Y⟩) n n) (w.alloc (T (List.replicate n (lG ⟨#[]⟩)).toArray 9)):=by
 obtain⟨i,hi,hp⟩:=Option.map_eq_some_iff.1 (show (prog.info? 9).map (λi=>(i.zero,i.size,i.bytes))=Z (Z (L ⟨#[]⟩),1,16) by kernel_rfl);simp only[Qw]at hp;obtain⟨hz,Hi,gJ⟩:=hp;have:=run_makeSlice (P:=N) (w:=w) 58 9 i _ underlying58 hi hz I I (n:Int) (n:Int) (by omega) (by omega) (by rw[Hi];omega) (by rw[gJ];omega) (by omega);rw[this,Hi];have e:madeCells (lG ⟨#[]⟩).cells ((n:Int).toNat*1)=(List.replicate n (lG ⟨#[]⟩)).toArray:=by
  unfold madeCells;apply Array.ext
  ·simp
  ·intro i h1 h2;simp[Value.cells,Nat.mod_one]
 rw[e,Int.toNat_natCast]
theorem Jn4{key:Key}(Hd:s ≠ [0,0])(hg:JcU wj s):(RunP wj key s 0->refW wj key s=Z (wyP wj s))/\(¬RunP wj key s 0->refW wj key s=Y):=by
 unfold refW;rw[if_neg Hd];exact⟨λh=>if_pos ⟨hg,h⟩,λh=>if_neg (λe=>h e.2)⟩
