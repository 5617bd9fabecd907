import Derived.Test.YtighkdnooglfjaaGreatDoorQzChJ
import Derived.Test.YtighkdnooglfjaaGreatDoorQzOpC
open Go renaming Calls->aB,Value->aG,World->aA
open Go.Ending renaming returned->aC
open Go.IntKind renaming i64->I,u64->aD,u8->aE,signed->lM,wrap->lV,bits->lW
open Go.Obj renaming cells->T,cells->lP
open Go.Proofs.Tryz renaming prog->N
open Go.RowKit renaming Hid->J
open Go.Value renaming agg->aH,bool->aL,iface->aJ,int->O,nilIface->aK,pointer->X,slice->R,string->L,tuple->aI,string->lU
open Option renaming none->Y,some->Z
open Or renaming inl->aM,inr->aN
open Array renaming replicate_succ->lH,replicate_zero->lI
open Bool renaming and_eq_true->lS
open ByteArray renaming size_append->lC
open Int renaming eq_ofNat_of_zero_le->lE,toNat_natCast->lQ
open List renaming getElem?_cons_zero->lD,length_replicate->lF,nil_append->lJ,append_toArray->lK,size_toArray->lN,push_toArray->lO,cons_append->lR,all_eq_true->lT
open UInt8 renaming ofNat->lG
set_option maxRecDepth 100000
set_option maxHeartbeats 4000000
namespace Go.Proofs.YtighkdnooglfjaaGreatDoor
open Go.Proofs.Tryz
open Go.RowKit

variable {qc wc:Array aG}{b kb state:BA}{ch:Ch}{l:List BA}{lv:List Lv}{d:List UInt8}{Bq Bw base cb fl lb n₀ pn rb v2 v3 wj:Nat}{E:Nat->Addr}{F G S:Nat->Prop}{v1:Option Addr}{p:PS}{P:Program}{v v' vL:aG}{W W' w w':aA}{wy:Wy}
abbrev wV(v1:Option Addr)(v2 v3:Nat)(m:Bool)(k:BA)(a o:Nat):aG:=aH #[R v1 v2 v3,aL m,L k,O aD (a:Int),O aE (o:Int)]
theorem JbA{a:BA}(h:a.toList=b.toList):a=b:=by
 rw[ByteArray.toList_eq,ByteArray.toList_eq]at h;exact Jim (by simpa using h)
theorem Ji0(wj:Nat)(state kb:BA)(v1:Option Addr)(v2 v3:Nat)(m:Bool)(k:BA)(a o:Nat)(w:aA):
  aB N 215 #[qV wj state kb,wV v1 v2 v3 m k a o] w λe w'=>e=aC (ZR (if m=true/\k=kb then Z (a,o) else Y))/\M D w w':=by
 cases m with
 | false=>
  rw[if_neg (by simp)];go_enter func215,ntmps215;go_wp2;exact QK (v:=ZR Y) (Qq results215 _ _ (w.heap.size+1+1) _ _ (0,0) _ rfl (JE _ _ _ _) underlying179 rfl (by kernel_rfl)) rfl ⟨rfl,M.allocs3 _ _ _ _ _⟩
 | true=>
  by_cases hk:k=kb
  ·rw[if_pos ⟨rfl,hk⟩];have hd:(k.toList == kb.toList)=true:=(by rw[hk];simp);have qj:decide (k=kb)=true:=(by simp[hk]);go_enter func215,ntmps215;go_wp2;exact QK (v:=ZR (Z (a,o))) (Qq results215 _ _ (w.heap.size+1+1) _ _ (0,0) _ rfl (JE _ _ _ _) underlying179 rfl (by kernel_rfl)) rfl ⟨rfl,M.allocs3 _ _ _ _ _⟩
  ·rw[if_neg (λh=>hk h.2)];have hd:¬k.toList=kb.toList:=λh=>hk (JbA h);have rE:(k.toList == kb.toList)=false:=(by simp[hd]);have qj:decide (k.toList=kb.toList)=false:=(by simp[hd]);go_enter func215,ntmps215;go_wp2;exact QK (v:=ZR Y) (Qq results215 _ _ (w.heap.size+1+1) _ _ (0,0) _ rfl (JE _ _ _ _) underlying179 rfl (by kernel_rfl)) rfl ⟨rfl,M.allocs3 _ _ _ _ _⟩
theorem Jpx(E:Nat->Addr)(wj:Nat)(hw:wj<=32)(state kb:BA)(v1:Option Addr)(v2 v3:Nat)(wy:Wy)(Hb:WyOk wj wy)(w:aA)(hE:Env E w):
  aB N 342 #[qV wj state kb,wV v1 v2 v3 wy.2.isSome (wyK wy) (wyO wy).1 (wyO wy).2] w λe w'=>e=aC (aI #[L ⟨(Xb wy.2).toArray⟩,aK])/\M D w w':=by
 obtain⟨st,en⟩:=wy
 cases en with
 | none=>
  show aB _ _ #[_,wV v1 v2 v3 false ⟨#[]⟩ 0 0] _ _;go_enter func342,ntmps342;go_wp2;go_ret2;exact⟨rfl,M.allocs _ _ _ _⟩
 | some x=>
  obtain⟨k,a,o⟩:=x;show aB _ _ #[_,wV v1 v2 v3 true ⟨k.toArray⟩ a o] _ _;have jA:=Hb.key (k,a,o) rfl;have vk:=Jfp wj k (a,o) jA;have kR:J (∀W,M D w W->aB N 154 #[aH #[L ⟨#[76]⟩,L ⟨k.toArray⟩,O aD (a:Int),O aE (o:Int),O I 0,L ⟨#[]⟩,L ⟨#[]⟩],O I (wj:Int)] W λe w'=>M D W w'/\e=aC (aI #[L ⟨(76::(k++outB (a,o))).toArray⟩,aK])):=λW hT=>by
   have:=Jaw E wj (by omega) (⟨#[76]⟩,⟨k.toArray⟩,(a,o),0,⟨#[]⟩,⟨#[]⟩) jA.2.2.2 W (hE.tch hT noE);rw[vk]at this;exact this
  show aB _ _ _ _ λe w'=>e=aC (aI #[L ⟨(76::(k++outB (a,o))).toArray⟩,aK])/\_;generalize (⟨(76::(k++outB (a,o))).toArray⟩:BA)=txt at *;generalize (⟨k.toArray⟩:BA)=kk at *;obtain⟨W,(HW:J _)⟩:∃W,W=(w.alloc (T #[O I (wj:Int),L state,L kb] 248)).alloc (T #[R v1 v2 v3,aL true,L kk,O aD (a:Int),O aE (o:Int)] 258):=⟨_,rfl⟩
  have hA:M D w W:=by rw[HW];exact M.allocs _ _ _ _
  have kj:W.heap[w.heap.size]? =Z (T #[O I (wj:Int),L state,L kb] 248):=by rw[HW];exact heap_alloc2_old _ _ _
  have kD:W.heap[w.heap.size+1]? =Z (T #[R v1 v2 v3,aL true,L kk,O aD (a:Int),O aE (o:Int)] 258):=by rw[HW];exact heap_alloc2_new _ _ _
  have HC:J (∀V,M D W V->V.cell? ⟨w.heap.size,0,Y⟩=Z (O I (wj:Int))):=λV hT=>Ja ((hT.block _ (Jb kj) (λh=>h)).trans kj);have c0:=HC W (Te _ _);obtain⟨-,d1,d2,d3,d4⟩:=rows kD;have HA:J _:=hA;clear hA kj kD;go_enter func342,ntmps342;go_upto_region 1 with fail;rw[<-HW.o];go_wp2_with fail;go_region_with (first
   | (go_at_call 307;refine(Jav _ _ _ _).mono ?_;rintro _ w1⟨rfl,H6⟩;have H3:J _:=(Td D W 1).go H6;have c1:=HC _ H3.o)
   | (go_at_call 154;refine(kR _ (HA.go H3)).mono ?_;rintro _ w2⟨H7,rfl⟩;have H4:J _:=(HA.go H3).go H7))
  all_goals go_wp2;go_ret2;exact⟨rfl,H4⟩
theorem JlD(E:Nat->Addr)(wj:Nat)(Hf:1<=wj)(hw:wj<=32)(state kb txt:BA)(vk:txt.size<=1000)(s:Stp)(hs:Zt wj s)(key:Key)(hk:key.length=wj+1)(w:aA)(hE:Env E w):
  aB N 343 #[qV wj state kb,L txt,aH #[O I (s.1:Int),L s.2],L ⟨key.toArray⟩] w λe w'=>e=aC (aI #[L ⟨(78::(beL s.1 2 2++(if bt key s.1=0 then (dgW wj txt.data.toList).data.toList++s.2.data.toList else s.2.data.toList++(dgW wj txt.data.toList).data.toList))).toArray⟩,aK])/\M D w w':=by
 obtain⟨b,oth⟩:=s;obtain⟨hb,ho⟩:=hs;dsimp only at hb ho ⊢;have HB:J (∀W,_):=λW=>XL key b (by omega) (by omega) W;have xW:J (∀W,M D w W->_):=λW hT=>JaX E wj txt W (hE.tch hT noE) Hf hw (by omega);have hds:(dgW wj txt.data.toList).size=wj:=Jj wj hw _;generalize dgW wj txt.data.toList=dg at *;have kR:J (∀(x y:BA),x.size=wj->y.size=wj->∀W,M D w W->aB N 154 #[aH #[L ⟨#[78]⟩,L ⟨#[]⟩,O aD 0,O aE 0,O I (b:Int),L x,L y],O I (wj:Int)] W λe w'=>M D W w'/\e=aC (aI #[L ⟨(78::(beL b 2 2++(x.data.toList++y.data.toList))).toArray⟩,aK])):=λx y hx hy W hT=>by
  have:=Jaw E wj (by omega) (⟨#[78]⟩,⟨#[]⟩,(0,0),(b:Int),x,y) (show (0:Nat)<256 by decide) W (hE.tch hT noE);rw[Jjy wj b x y (by omega) hb hx hy]at this;exact this
 have zJ:=Yv key b;have hif:(if bt key b=0 then dg.data.toList++oth.data.toList else oth.data.toList++dg.data.toList)=(if bt key b=0 then dg else oth).data.toList++(if bt key b=0 then oth else dg).data.toList:=by split<;>rfl
 rw[hif];obtain⟨x,(HX:J _)⟩:∃x,x=(if bt key b=0 then dg else oth):=⟨_,rfl⟩
 obtain⟨y,(HY:J _)⟩:∃y,y=(if bt key b=0 then oth else dg):=⟨_,rfl⟩
 rw[<-HX,<-HY];have hxs:x.size=wj:=by rw[HX];split<;>assumption
 have zr:y.size=wj:=by rw[HY];split<;>assumption
 have HT:=kR x y hxs zr;have po:J _:=HT;generalize (⟨(78::(beL b 2 2++(x.data.toList++y.data.toList))).toArray⟩:BA)=res at *;generalize (⟨key.toArray⟩:BA)=kk at *;generalize bt key b=bb at *;obtain⟨W,(HW:J _)⟩:∃W,W=((w.alloc (T #[O I (wj:Int),L state,L kb] 248)).alloc (T #[O I (b:Int),L oth] 366)).alloc (T #[L oth,L oth] 277):=⟨_,rfl⟩
 have hA:M D w W:=by rw[HW];exact M.allocs3 _ _ _ _ _
 have kj:W.heap[w.heap.size]? =Z (T #[O I (wj:Int),L state,L kb] 248):=by rw[HW];exact JU _ _ _ _
 have kD:W.heap[w.heap.size+1]? =Z (T #[O I (b:Int),L oth] 366):=by rw[HW];exact JQ _ _ _ _
 have Hp:W.heap[w.heap.size+1+1]? =Z (T #[L oth,L oth] 277):=by rw[HW];exact JE _ _ _ _
 have qD:J (∀V,M D W V->V.heap[w.heap.size]? =Z (T #[O I (wj:Int),L state,L kb] 248)/\V.heap[w.heap.size+1]? =Z (T #[O I (b:Int),L oth] 366)/\V.heap[w.heap.size+1+1]? =Z (T #[L oth,L oth] 277)):=λV hT=>⟨(hT.block _ (Jb kj) (λh=>h)).trans kj,(hT.block _ (Jb kD) (λh=>h)).trans kD,(hT.block _ (Jb Hp) (λh=>h)).trans Hp⟩
 have HC:J (∀V,M D W V->V.cell? ⟨w.heap.size,0,Y⟩=Z (O I (wj:Int))/\V.cell? ⟨w.heap.size+1,0,Y⟩=Z (O I (b:Int))/\V.cell? ⟨w.heap.size+1+1,0,Y⟩=Z (L oth)/\V.cell? ⟨w.heap.size+1+1,1,Y⟩=Z (L oth)/\(∀j,V.frozen? ⟨w.heap.size+1+1,j,Y⟩=false)):=λV hT=>by
  obtain⟨q0,q1,q2⟩:=qD V hT;exact⟨Ja q0,Ja q1,Ja q2,Ja q2,λj=>Qg _ _ _ _ _ q2⟩
 have hwz:W.heap.size=w.heap.size+3:=by rw[HW];simp
 have HWZ:J _:=hwz;have HA:J _:=hA;clear hA kj kD Hp hwz;obtain⟨a0,a1,a2,a3,a4⟩:=HC W (Te _ _);go_enter func343,ntmps343;go_upto_region 2 with fail;rw[<-HW.o];go_cut [] (λwx=>∃V,wx=V.setRow (w.heap.size+1+1) #[L x,L y]/\J (M D W V))
 case first=>
  obtain rfl|rfl:bb=0\/bb=1:=by omega
  ·go_region_with (first
    | (go_at_call 288;refine(HB _).mono ?_;rintro _ _⟨rfl,rfl⟩)
    | (go_at_call 130;refine(xW _ (HA.go (Td _ _ 1))).mono ?_;rintro _ w2⟨rfl,H7⟩;have H4:J _:=(Td D W 1).go H7;obtain⟨b0,b1,b2,b3,b4⟩:=HC _ H4.o))
   all_goals go_wp2
   all_goals go_meet
   all_goals exact⟨w2,(Qj w2 _ 0 _ _ (0,0) _ (qD w2 H4).2.2).trans (by rw[HX.o,HY.o];rfl),H4⟩
  ·go_region_with (first
    | (go_at_call 288;refine(HB _).mono ?_;rintro _ _⟨rfl,rfl⟩)
    | (go_at_call 130;refine(xW _ (HA.go (Td _ _ 1))).mono ?_;rintro _ w2⟨rfl,H7⟩;have H4:J _:=(Td D W 1).go H7;obtain⟨b0,b1,b2,b3,b4⟩:=HC _ H4.o;clear H7))
   all_goals go_wp2
   all_goals go_meet
   all_goals exact⟨w2,(Qj w2 _ 1 _ _ (0,0) _ (qD w2 H4).2.2).trans (by rw[HX.o,HY.o];rfl),H4⟩
 case rest=>
 obtain⟨V,hV,HTV⟩:=hcut;obtain⟨wA,gH⟩:∃wA,wA=wc:=⟨wc,rfl⟩
 subst gH;have tA:M D w wA:=by rw[hV];exact(HA.go HTV).trans (Ts _ _ _) (λj hj=>aN (by omega))
 obtain⟨q0,q1,q2⟩:=qD V HTV.o;have p0:wA.heap[w.heap.size]? =Z (T #[O I (wj:Int),L state,L kb] 248):=by rw[hV];exact(setRow_other _ _ _ _ (by omega)).trans q0
 have p1:wA.heap[w.heap.size+1]? =Z (T #[O I (b:Int),L oth] 366):=by rw[hV];exact(setRow_other _ _ _ _ (by omega)).trans q1
 have p2:wA.heap[w.heap.size+1+1]? =Z (T #[L x,L y] 277):=by rw[hV];exact Qi _ _ _ _ _ _ q2
 have yg:J (∀U,M D wA U->U.cell? ⟨w.heap.size,0,Y⟩=Z (O I (wj:Int))/\U.cell? ⟨w.heap.size+1,0,Y⟩=Z (O I (b:Int))/\U.cell? ⟨w.heap.size+1+1,0,Y⟩=Z (L x)/\U.cell? ⟨w.heap.size+1+1,1,Y⟩=Z (L y)):=λU hT=>⟨Ja ((hT.block _ (Jb p0) (λh=>h)).trans p0),Ja ((hT.block _ (Jb p1) (λh=>h)).trans p1),Ja ((hT.block _ (Jb p2) (λh=>h)).trans p2),Ja ((hT.block _ (Jb p2) (λh=>h)).trans p2)⟩
 obtain⟨c0,c1,c2,c3⟩:=yg wA (Te _ _);have Hz:J _:=tA;clear tA q0 q1 q2 p0 p1 p2 hV HTV HC qD HB xW HX HY a0 a1 a2 a3 a4 HA HW zJ;go_upto_region 3 with fail;go_region_held3 (λU=>U.cell? ⟨w.heap.size,0,Y⟩=Z (O I (wj:Int))/\U.cell? ⟨w.heap.size+1,0,Y⟩=Z (O I (b:Int))/\U.cell? ⟨w.heap.size+1+1,0,Y⟩=Z (L x)/\U.cell? ⟨w.heap.size+1+1,1,Y⟩=Z (L y)) (go_keep) ((first
  | (go_at_call 309;refine(ZC _ _ _ _).mono ?_;rintro _ w3⟨rfl,Hm⟩;have H8:J _:=(Td D wA 1).go Hm;obtain⟨e0,e1,e2,e3⟩:=yg _ H8.o;clear Hm)
  | (go_at_call 154;refine(po _ (Hz.go H8)).mono ?_;rintro _ w4⟨Ho,rfl⟩;have He:J _:=(Hz.go H8).go Ho;obtain⟨g0,g1,g2,g3⟩:=yg _ (H8.go Ho);clear Ho)))
 all_goals go_wp2;go_ret2;exact⟨rfl,He⟩

def Ast(w:aA):Prop:=∃t u,w.cell? ⟨11,0,Y⟩=Z (aJ t u)
theorem Ast.tch(h:Ast w)(k:M S w w')(hs:¬S 11):Ast w':=by
 obtain⟨t,u,h⟩:=h;exact⟨t,u,(k.cell (Qr _ _ h) hs).trans h⟩
theorem JnT(aZ wj:Nat)(state:BA)(key kk:Key)(jg:key.length<=1000000)(kt:kk.length<=1000000)(b:Nat)(hb:b<8*key.length)(hb':b<8*kk.length)(oth:BA)(i:Int)(v1:Option Addr)(v2 v3:Nat)(m:Bool)(a o:Nat)(w:aA)
 (r0:w.heap[aZ]? =Z (T #[O I (wj:Int),L state,L ⟨key.toArray⟩] 248)) (r1:w.heap[aZ+1]? =Z (T #[R v1 v2 v3,aL m,L ⟨kk.toArray⟩,O aD (a:Int),O aE (o:Int)] 258)) (hA:bt key b ≠ bt kk b->Ast w):
  aB N 287 #[O I i,aH #[O I (b:Int),L oth],X (Z ⟨aZ,0,Y⟩),X (Z ⟨aZ+1,0,Y⟩)] w λe w'=>M D w w'/\((bt key b=bt kk b/\e=aC aK)\/(bt key b ≠ bt kk b/\∃t u,e=aC (aJ t u))):=by
 have kS:J (∀W,_):=λW=>XL key b hb jg W;have jM:J (∀W,_):=λW=>XL kk b hb' kt W;obtain⟨W,(HW:J _)⟩:∃W,W=w.alloc (T #[O I (b:Int),L oth] 366):=⟨_,rfl⟩
 have tA:M D w W:=by rw[HW];exact Ta _ _ _
 have q0:=(tA.block _ (Jb r0) (λh=>h)).trans r0;have q1:=(tA.block _ (Jb r1) (λh=>h)).trans r1;have q2:W.heap[w.heap.size]? =Z (T #[O I (b:Int),L oth] 366):=by rw[HW];exact Qf _ _
 obtain⟨-, -,c0⟩:=rows q0;obtain⟨-, -,c1⟩:=rows q1;obtain⟨c2, -⟩:=rows q2;have HA:J (bt key b ≠ bt kk b->Ast W):=λh=>(hA h).tch tA (λh=>h);have HT:J _:=tA;clear tA q0 q1 q2 r0 r1 hA;generalize (⟨key.toArray⟩:BA)=k1 at *;generalize (⟨kk.toArray⟩:BA)=k2 at *;generalize bt key b=x at *;generalize bt kk b=y at *
 by_cases hxy:x=y
 ·subst hxy;go_enter func287,ntmps287;go_upto_region 1 with fail;rw[<-HW.o];go_quiet (first|(go_at_call_of 288 (lU k1);exact Calls.quiet_of_same (kS _))|(go_at_call_of 288 (lU k2);exact Calls.quiet_of_same (jM _)));go_wp2;go_ret;exact⟨HT.go (Td _ _ _),aM ⟨trivial,rfl⟩⟩
 ·have Hd:¬(x:Int)=(y:Int):=by omega
  obtain⟨t,u,Hg⟩:=HA hxy;have cU:J _:=hxy;go_enter func287,ntmps287;go_upto_region 1 with fail;rw[<-HW.o];go_quiet (first|(go_at_call_of 288 (lU k1);exact Calls.quiet_of_same (kS _))|(go_at_call_of 288 (lU k2);exact Calls.quiet_of_same (jM _)));go_wp2;go_ret;exact⟨HT.go (Td _ _ _),aN ⟨cU,_,_,rfl⟩⟩
structure Jlq(w0:aA)(key:Key)(wy:Wy)(i:Nat)(w:aA):Prop where
 tch:M D w0 w
 eq:∀(j:Nat) s,j<i->wy.1[j]? =Z s->bt key s.1=bt (Xo wy) s.1
def Jlp(w0:aA)(key:Key)(wy:Wy)(v:aG)(w:aA):Prop:=M D w0 w/\(∃s∈wy.1,bt key s.1 ≠ bt (Xo wy) s.1)/\∃t u,v=aJ t u
theorem Jj4(wy:Wy):wyK wy=⟨(Xo wy).toArray⟩:=by
 obtain⟨l,e⟩:=wy
 cases e<;>rfl
theorem JfP(h:WyOk wj wy):(Xo wy).length=(if wy.1=[] then (Xo wy).length else wj+1):=by
 split
 ·rfl
 ·rename_i hn;obtain⟨l,e⟩:=wy
  cases e with
  | none=>exact absurd (h.bare rfl) hn
  | some x=>exact(h.key x rfl).1
theorem Jio(wj:Nat)(hw:wj<=32)(state:BA)(key:Key)(hk:key.length=wj+1)(wy:Wy)(Hb:WyOk wj wy)(w0:aA)(aZ:Nat)(g off:Nat)(hz:g<w0.heap.size)(v1:Option Addr)(v2 v3:Nat)(m:Bool)(a o:Nat)
 (r0:w0.heap[aZ]? =Z (T #[O I (wj:Int),L state,L ⟨key.toArray⟩] 248)) (r1:w0.heap[aZ+1]? =Z (T #[R v1 v2 v3,aL m,L (wyK wy),O aD (a:Int),O aE (o:Int)] 258))
 (hA:(∃s∈wy.1,bt key s.1 ≠ bt (Xo wy) s.1)->Ast w0)
 (hr:∀i (h:i<wy.1.length),w0.cell? ⟨g,off+i*2,Y⟩=Z (O I ((wy.1[i].1:Nat):Int))/\w0.cell? ⟨g,off+i*2+1,Y⟩=Z (L wy.1[i].2)):
  JcW 287 #[X (Z ⟨aZ,0,Y⟩),X (Z ⟨aZ+1,0,Y⟩)] g off wy.1.length (λi=>(wy.1.map encS).getD i zS) (Jlq w0 key wy) (Jlp w0 key wy):=by
 have hx:∀i (h:i<wy.1.length),(wy.1.map encS).getD i zS=encS wy.1[i]:=λi h=>by simp[List.getD_eq_getElem?_getD,h]
 refine⟨λ_ _=>rfl,?_,?_,?_⟩
 ·rintro i w hi aT;rw[hx i hi];have hc:∀o,w.cell? ⟨g,o,Y⟩=w0.cell? ⟨g,o,Y⟩:=λo=>aT.tch.cell (p:=⟨g,o,Y⟩) hz (λh=>h);rw[hc,hc];exact hr i hi
 ·rintro i w o aT;exact⟨aT.tch.go (Ta _ _ _),aT.eq⟩
 ·rintro i w hi aT;rw[hx i hi];have hs:=Hb.steps wy.1[i] (Qx hi);have hl:=JfP Hb;rw[if_neg (λe=>by rw[e]at hi;simp at hi)]at hl;rw[Jj4]at r1;refine(JnT aZ wj state key (Xo wy) (by omega) (by omega) wy.1[i].1 (by have:=hs.1;omega) (by have:=hs.1;omega) wy.1[i].2 (i:Int) v1 v2 v3 m a o w ((aT.tch.block _ (Jb r0) (λh=>h)).trans r0) ((aT.tch.block _ (Jb r1) (λh=>h)).trans r1) (λh=>(hA ⟨_,Qx hi,h⟩).tch aT.tch (λh=>h))).mono ?_;rintro e w'⟨ht,⟨he,rfl⟩|⟨he,t,u,rfl⟩⟩
  ·refine aM ⟨rfl,aT.tch.go ht,λj s hj kO=>?_⟩
   by_cases ru:j=i
   ·subst ru;rw[Qd hi]at kO
    cases kO
    exact he
   ·exact aT.eq j s (by omega) kO
  ·exact aN ⟨t,u,rfl,aT.tch.go ht,⟨_,Qx hi,he⟩,t,u,rfl⟩
theorem Jkm(fv:aG)(what:BA)(w:aA):aB N 286 #[L what,R Y 0 0,fv] w λe w'=>e=aC aK/\w=w':=by
 go_enter func286,ntmps286;go_wp2;go_loopw [12] (λi wr=>i=O I 0/\w=wr) (λi _=>0)
 case atStart=>exact⟨rfl,rfl⟩
 case round=>obtain⟨rfl,rfl⟩:=hrel;go_wp2;go_ret;exact⟨rfl,rfl⟩
theorem JeO(E:Nat->Addr)(wj:Nat)(hw:wj<=32)(state:BA)(key:Key)(hk:key.length=wj+1)(wy:Wy)(Hb:WyOk wj wy)(v1:Option Addr)(v2 v3:Nat)(m:Bool)(a o:Nat)(w:aA)(hE:Env E w)(hv:VAt w.heap.size w (R v1 v2 v3) (wy.1.map encS))(hA:(∃s∈wy.1,bt key s.1 ≠ bt (Xo wy) s.1)->Ast w):
  aB N 213 #[qV wj state ⟨key.toArray⟩,wV v1 v2 v3 m (wyK wy) a o] w λe w'=>M D w w'/\(((∀s∈wy.1,bt key s.1=bt (Xo wy) s.1)/\e=aC aK)\/((∃s∈wy.1,bt key s.1 ≠ bt (Xo wy) s.1)/\∃t u,e=aC (aJ t u))):=by
 obtain⟨W,(HW:J _)⟩:∃W,W=(w.alloc (T #[O I (wj:Int),L state,L ⟨key.toArray⟩] 248)).alloc (T #[R v1 v2 v3,aL m,L (wyK wy),O aD (a:Int),O aE (o:Int)] 258):=⟨_,rfl⟩
 have tA:=zG HW;have r0:=kX HW;have r1:=hnn HW;have xh:=hE.tch tA noE;have xI:J (∀what:BA,what.size<=1000->aB N 286 #[L what,R v1 v2 v3,.func (.func 287) #[] #[X (Z ⟨w.heap.size,0,Y⟩),X (Z ⟨w.heap.size+1,0,Y⟩)]] W λe w'=>ToE (Jlq W key wy) (Jlp W key wy) wy.1.length e w'):=λwhat kq=>by
  rcases hv with⟨e1,e2⟩|⟨gi,oi,c,e1,h1,h2,vu⟩
  ·have hnil:wy.1=[]:=(by simpa using e2);rw[e1];refine(Jkm _ _ _).mono ?_;rintro _ _⟨rfl,rfl⟩;exact aM ⟨rfl,Te _ _,λj s hj=>by rw[hnil]at hj;simp at hj⟩
  ·rw[e1,QM];refine Jqo _ _ _ _ _ _ _ _ (λi hi=>?_) _ _ (Jio wj hw state key hk wy Hb W w.heap.size gi oi (Qk h2 tA.size) v1 v2 v3 m a o r0 r1 (λh=>(hA h).tch tA (λh=>h)) (λi hi=>?_)) (by have:=Hb.len;omega) (λv V hb i hi=>JdP (xh.tch hb.1 noE) i (by have:=Hb.len;omega)) kq W ⟨Te _ _,λj s hj=>absurd hj (Nat.not_lt_zero _)⟩
   ·simp only[Qn,List.getElem?_map,Qd hi];exact⟨_,_,rfl⟩
   ·have hc:∀o,_:=λo=>tA.cell (p:=⟨gi,o,Y⟩) h2 (λh=>h);have:=vu i (by simpa using hi);rw[hc,hc];simpa [encS]using this
 obtain⟨hc, -⟩:=rows r1;have HT:J _:=tA;have vF:∀(fn:Fn)(first cap:Array aG)(w:aA),(Instr.makeFunc fn first cap).run N w=.ok (.func fn first cap) w:=λ_ _ _ _=>rfl;clear tA r0 r1 xh hv hE hA Hb hk;go_enter func213,ntmps213;go_upto_region 1 with fail;rw[<-HW.o];go_wp2_with fail;refine(xI _ (by decide)).mono ?_;rintro e w2 (⟨rfl,aT⟩|⟨p,sx,vx,w1,rfl,hp,⟨ht,(uQ:J _),hv⟩,qQ⟩)
 ·have H4:J _:=HT.go aT.tch;have HEQ:J (∀s∈wy.1,bt key s.1=bt (Xo wy) s.1):=λs hs=>by
   obtain⟨j,hj,rfl⟩:=List.getElem_of_mem hs;exact aT.eq j _ hj (Qd hj)
  go_wp2;go_ret;exact⟨H4,aM ⟨HEQ,rfl⟩⟩
 ·have H4:J _:=(HT.go ht).go ((M.of_below qQ).mono (λ_ hj=>aN hj));clear ht hv qQ hp;go_wp2;go_ret;exact⟨H4,aN ⟨uQ,_,_,rfl⟩⟩

attribute [local go_sem] Oper.semAt_some

def Zu(d:List UInt8->BA)(key:Key)(e:List UInt8)(l:List Stp)(j:Nat):List UInt8:=(JM d key e (l.drop j)).headD []
theorem ZF(d:List UInt8->BA)(key:Key)(e:List UInt8):∀(l:List Stp)(j:Nat),j<=l.length->(JM d key e l)[j]? =Z (Zu d key e l j)
 | [],j,h=>by
  obtain rfl:j=0:=by simpa using h
  rfl
 | s::r,0,_=>rfl
 | s::r,j+1,h=>by
  have:=ZF d key e r j (by simpa using h);obtain⟨b,oth⟩:=s;simpa [JM,Zu]using this
theorem JcH(d:List UInt8->BA)(key:Key)(e:List UInt8)(l:List Stp):Zu d key e l l.length=e:=by simp[Zu,JM]
theorem JbF(d:List UInt8->BA)(key:Key)(e:List UInt8)(l:List Stp)(j:Nat)(h:j<l.length):Zu d key e l j=78::(beL l[j].1 2 2++(if bt key l[j].1=0 then (d (Zu d key e l (j+1))).data.toList++l[j].2.data.toList else l[j].2.data.toList++(d (Zu d key e l (j+1))).data.toList)):=by
 unfold Zu;rw[List.drop_eq_getElem_cons h];generalize l[j]=s;obtain⟨b,oth⟩:=s;rfl
theorem JcI(wj:Nat)(hw:wj<=32)(key:Key)(e:List UInt8)(he:e.length<=1000)(l:List Stp)(hl:∀s∈l,Zt wj s)(j:Nat)(h:j<=l.length):(Zu (dgW wj) key e l j).length<=1000:=by
 by_cases hj:j<l.length
 ·rw[JbF _ _ _ _ _ hj];have hs:=(hl _ (Qx hj)).2;have hd:=Jj wj hw (Zu (dgW wj) key e l (j+1));have e1:(dgW wj (Zu (dgW wj) key e l (j+1))).data.toList.length=wj:=by simpa using hd
  have e2:l[j].2.data.toList.length=wj:=by simpa using hs
  split<;>simp only[Qp,Qe,Jf,e1,e2]<;>omega
 ·obtain rfl:j=l.length:=by omega
  rw[JcH];exact he
def upsT(d:List UInt8->BA)(wy:Wy):List BA:=(wy.nodes d).reverse.map λt=>⟨t.toArray⟩
theorem ZS(d:List UInt8->BA)(wy:Wy):(upsT d wy).length=wy.1.length+1:=by simp[upsT,Wy.nodes,JZ]
theorem Jny(d:List UInt8->BA)(wy:Wy)(p:Nat)(hp:p<=wy.1.length):(upsT d wy)[p]? =Z ⟨(Zu d (Xo wy) (Xb wy.2) wy.1 (wy.1.length-p)).toArray⟩:=by
 unfold upsT;rw[List.getElem?_map,List.getElem?_reverse (by simp[Wy.nodes,JZ];omega)];have hl:(wy.nodes d).length=wy.1.length+1:=by simp[Wy.nodes,JZ]
 rw[hl,show wy.1.length+1-1-p=wy.1.length-p by omega];unfold Wy.nodes;rw[ZF d _ _ _ _ (by omega)];rfl
theorem JaQ(hw:wj<=32)(h:WyOk wj wy):(Xb wy.2).length<=1000:=by
 obtain⟨l,e⟩:=wy
 cases e with
 | none=>simp[Xb]
 | some x=>
  obtain⟨k,o⟩:=x;have:=(h.key _ rfl).1;simp only[Xb,outB,Qp,Qe,Jf];dsimp only at this;omega
structure UpAt(E:Nat->Addr)(n₀ Bq Bw wj:Nat)(state kb:BA)(v1:Option Addr)(v2 v3:Nat)(wy:Wy)(W:aA):Prop where
 env:Env E W
 low:18<=n₀
 q:W.heap[Bq]? =Z (T #[O I (wj:Int),L state,L kb] 248)
 way:W.heap[Bw]? =Z (T #[R v1 v2 v3,aL wy.2.isSome,L (wyK wy),O aD ((wyO wy).1:Int),O aE ((wyO wy).2:Int)] 258)
 st:VAt n₀ W (R v1 v2 v3) (wy.1.map encS)
def JbQ(n₀ Bq Bw:Nat)(W W':aA):Prop:=Below n₀ W W'/\(∀cs aY,W.heap[Bq]? =Z (T cs aY)->W'.heap[Bq]? =Z (T cs aY))/\(∀cs aY,W.heap[Bw]? =Z (T cs aY)->W'.heap[Bw]? =Z (T cs aY))
theorem UpAt.keep(h:UpAt E n₀ Bq Bw wj state kb v1 v2 v3 wy W)(k:JbQ n₀ Bq Bw W W'):UpAt E n₀ Bq Bw wj state kb v1 v2 v3 wy W':=
 ⟨h.env.tch (M.of_below k.1) (λ_ hj=>Qm h.low hj),h.low,k.2.1 _ _ h.q,k.2.2 _ _ h.way,h.st.tch (M.of_below k.1) (λ_ hj=>hj)⟩
theorem UpAt.next(h:UpAt E n₀ Bq Bw wj state kb v1 v2 v3 wy W)(k:M D W W'):UpAt E n₀ Bq Bw wj state kb v1 v2 v3 wy W':=
 ⟨h.env.tch k (λ_ hj=>hj.elim),h.low,(k.block _ (Jb h.q) (λe=>e)).trans h.q,(k.block _ (Jb h.way) (λe=>e)).trans h.way,h.st.tch k (λ_ hj=>hj.elim)⟩
theorem UpAt.step(h:UpAt E n₀ Bq Bw wj state kb v1 v2 v3 wy W)(Hd:0<wy.1.length):∃gi oi,v1=Z ⟨gi,oi,Y⟩/\v2=wy.1.length:=by
 rcases h.st with⟨e,e2⟩|⟨gi,oi,c,e,_⟩
 ·have:wy.1=[]:=by simpa using e2
  rw[this]at Hd;simp at Hd
 ·simp only[Qy,QM]at e;exact⟨gi,oi,e.1,e.2.1⟩
theorem UpAt.len(h:UpAt E n₀ Bq Bw wj state kb v1 v2 v3 wy W):v2=wy.1.length:=by
 obtain⟨a,c,e⟩:=h.st.shape;simp only[Qy,QM]at e;exact e.2.1
theorem UpAt.cells{gi oi:Nat}(h:UpAt E n₀ Bq Bw wj state kb (Z ⟨gi,oi,Y⟩) v2 v3 wy W)(j:Nat)(hj:j<wy.1.length):W.cell? ⟨gi,oi+j*2,Y⟩=Z (O I (wy.1[j].1:Int))/\W.cell? ⟨gi,oi+j*2+1,Y⟩=Z (L wy.1[j].2):=by
 rcases h.st with⟨e,e2⟩|⟨gi',oi',c,e,_,_,hc⟩
 ·cases e
 ·simp only[Qy,Qh,Addr.mk.injEq]at e;obtain⟨⟨rfl,rfl,_⟩,_,_⟩:=e;have:=hc j (by simpa using hj);simpa [encS]using this
def Jjm(v:aG):Nat:=match v with
 | O _ z=>(z+1).toNat
 | _=>0
theorem Jqa(E:Nat->Addr)(n:Nat)(hn:2<=n)(l Bq Bw n₀:Nat)(wj:Nat)(Hf:1<=wj)(hw:wj<=32)(state kb:BA)(v1:Option Addr)(v2 v3:Nat)(wy:Wy)(Hb:WyOk wj wy)(aR Jx:List BA->aA->Prop)
 (hJ:∀pre W W',aR pre W->M D W W'->aR pre W')
 (hY:∀pre x W,aR pre W->(upsT (dgW wj) wy)[pre.length]? =Z x->YieldAt Fence.wide (n-1) N l #[L x,aK] W λe W'=>
 (e=aC (aL true)/\aR (pre++[x]) W'/\JbQ n₀ Bq Bw W W')\/(e=aC (aL false)/\Jx (pre++[x]) W'))
 (W:aA) (hU:UpAt E n₀ Bq Bw wj state kb v1 v2 v3 wy W) (h0:aR [] W):
  CallsIn Fence.wide n N 341 #[.func (.yield l) #[] #[],X (Z ⟨Bq,0,Y⟩),X (Z ⟨Bw,0,Y⟩)] W λe W'=>(∃v,e=aC v)/\
   ((∃ys,ys=upsT (dgW wj) wy/\aR ys W')\/(∃pre,pre <+:upsT (dgW wj) wy/\Jx pre W')):=by
 have xL:J _:=Hb;have gK:J (∀V,UpAt E n₀ Bq Bw wj state kb v1 v2 v3 wy V->_):=λV hV=>Jpx E wj hw state kb v1 v2 v3 wy Hb V hV.env;have kW:=hU.len;obtain⟨q0,q1,q2⟩:=rows hU.q;obtain⟨a0,a1,a2,a3,a4⟩:=rows hU.way;have HU:J _:=hU;obtain⟨aX,hX⟩:∃aX:Nat->BA,aX=λp=>⟨(Zu (dgW wj) (Xo wy) (Xb wy.2) wy.1 (wy.1.length-p)).toArray⟩:=⟨_,rfl⟩
 have cJ:J (⟨(Xb wy.2).toArray⟩=aX 0):=by show _=aX 0;rw[hX];dsimp only;rw[Nat.sub_zero,JcH]
 have HXG:J (∀p,p<=wy.1.length->(upsT (dgW wj) wy)[p]? =Z (aX p)):=λp hp=>by rw[hX];exact Jny (dgW wj) wy p hp
 have HAB:J (∀p j (hj:j<wy.1.length),p+j+1=wy.1.length->∀V,Env E V->aB N 343 #[qV wj state kb,L (aX p),aH #[O I (wy.1[j].1:Int),L wy.1[j].2],L (wyK wy)] V λe w'=>e=aC (aI #[L (aX (p+1)),aK])/\M D V w'):=λp j hj hpj V hE=>by
  have jW:=JfP Hb;rw[if_neg (λe=>by rw[e]at hj;simp at hj)]at jW;have yw:(aX p).size<=1000:=by rw[hX];dsimp only;rw[Jh];exact JcI wj hw _ _ (JaQ hw Hb) _ Hb.steps _ (by omega)
  have:=JlD E wj Hf hw state kb (aX p) yw wy.1[j] (Hb.steps _ (Qx hj)) (Xo wy) jW V hE;rw[<-Jj4]at this;refine this.mono λe w' h=>⟨?_,h.2⟩
  rw[h.1,hX];dsimp only;rw[show wy.1.length-(p+1)=j by omega,show wy.1.length-p=j+1 by omega,JbF _ _ _ _ _ hj]
 clear hX;have kz:J _:=kW;have Hl:=Hb.len;have hv2b:v2<=264:=by omega
 clear hU Hb kW Hl;generalize hwk:wyK wy=wk at *;have HWK:J _:=hwk;clear hwk
 by_cases hz:v2=0
 ·have HZ:J _:=hz;clear hz;refine callsIn_of_wp func341 rfl trivial ?_ rfl;simp only[ntmps341,lN,Qp,Qv,Nat.reduceAdd,Nat.reduceSub,lH,lI,lO,lK,lJ,lR];gi_wp2;refine⟨trivial,λ_=>by omega,(callsIn_wide.2 (gK W HU)).mono ?_⟩;rintro _ W1⟨rfl,(H3:J _)⟩;have a0:W1.cell? ⟨Bw,0,Y⟩=Z (R v1 v2 v3):=Ja (HU.next H3).way;clear gK q0 q1 q2 a1 a2 a3 a4;have dR:=hJ [] W W1 h0 H3.o;have HU1:J _:=HU.next H3.o;have HJ:J _:=hJ;have HY:J _:=hY;have HJ1:J _:=dR;clear HU H3 hJ hY dR h0;rw[cJ.o];gi_wp2;gi_loopw [4,5,6] (λt e i wr=>∃p,p<=v2/\t=L (aX p)/\e=aK/\i=O I ((v2:Int)-1-(p:Int))/\J (UpAt E n₀ Bq Bw wj state kb v1 v2 v3 wy wr)/\J (aR ((upsT (dgW wj) wy).take p) wr))
   (λt e i wr=>Jjm i)
  case atStart=>exact⟨0,Nat.zero_le _,rfl,rfl,by simp,HU1,HJ1⟩
  case round=>
   obtain⟨p,hp,rfl,rfl,rfl,sI,n4⟩:=hrel;have pN:=ZS (dgW wj) wy;have vp:=HXG p (by rw[<-kz.o];exact hp);have n5:((upsT (dgW wj) wy).take p).length=p:=(by rw[QB,pN,<-kz.o];omega);have zM:(upsT (dgW wj) wy).take p++[aX p]=(upsT (dgW wj) wy).take (p+1):=(by rw[List.take_add_one,vp];rfl);obtain⟨fn,tmps,assign,body,hy,hR⟩:=HY _ (aX p) wr n4 (by rw[n5];exact vp);rw[zM]at hR;have rC:J ((upsT (dgW wj) wy).length=v2+1):=(by rw[pN,kz.o]:(upsT (dgW wj) wy).length=v2+1)
   clear pN vp n5 zM;gi_wp2;refine⟨λ_=>by omega,hR.mono ?_⟩;clear hR hy;rintro e W3 (⟨rfl,(bE:J _),yp⟩|⟨rfl,sE⟩)
   ·have bF:J _:=sI.keep yp;clear yp sI n4
    by_cases jw:p<v2
    ·exact absurd jw (by have:=HZ.o;omega)
    ·have Hd:¬(0:Int)<=(v2:Int)-1-(p:Int):=(by omega);have uN:p=v2:=(by omega);have mt:J _:=uN;clear jw hp uN;gi_wp2;refine bodyPost_end (v:=aI #[]) (results_none results341 _ _ _) rfl ?_;refine⟨⟨_,rfl⟩,aM ⟨_,?_,bE⟩⟩;exact QS (by rw[rC.o,mt.o];exact Ql _)
   ·gi_wp2;refine bodyPost_end (v:=aI #[]) (results_none results341 _ _ _) rfl ?_;exact⟨⟨_,rfl⟩,aN ⟨_,List.take_prefix _ _,sE⟩⟩
 ·obtain⟨gi,oi,rfl,hv2'⟩:=HU.step (by rw[<-kz.o];omega);clear hv2' hz;refine callsIn_of_wp func341 rfl trivial ?_ rfl;simp only[ntmps341,lN,Qp,Qv,Nat.reduceAdd,Nat.reduceSub,lH,lI,lO,lK,lJ,lR];gi_wp2;refine⟨trivial,λ_=>by omega,(callsIn_wide.2 (gK W HU)).mono ?_⟩;rintro _ W1⟨rfl,(H3:J _)⟩;have a0:W1.cell? ⟨Bw,0,Y⟩=Z (R (Z ⟨gi,oi,Y⟩) v2 v3):=Ja (HU.next H3).way;clear gK q0 q1 q2 a1 a2 a3 a4;have dR:=hJ [] W W1 h0 H3.o;have HU1:J _:=HU.next H3.o;have HJ:J _:=hJ;have HY:J _:=hY;have HJ1:J _:=dR;clear HU H3 hJ hY dR h0;rw[cJ.o];gi_wp2;gi_loopw [4,5,6] (λt e i wr=>∃p,p<=v2/\t=L (aX p)/\e=aK/\i=O I ((v2:Int)-1-(p:Int))/\J (UpAt E n₀ Bq Bw wj state kb (Z ⟨gi,oi,Y⟩) v2 v3 wy wr)/\J (aR ((upsT (dgW wj) wy).take p) wr))
   (λt e i wr=>Jjm i)
  case atStart=>exact⟨0,Nat.zero_le _,rfl,rfl,by simp,HU1,HJ1⟩
  case round=>
   obtain⟨p,hp,rfl,rfl,rfl,sI,n4⟩:=hrel;have pN:=ZS (dgW wj) wy;have vp:=HXG p (by rw[<-kz.o];exact hp);have n5:((upsT (dgW wj) wy).take p).length=p:=(by rw[QB,pN,<-kz.o];omega);have zM:(upsT (dgW wj) wy).take p++[aX p]=(upsT (dgW wj) wy).take (p+1):=(by rw[List.take_add_one,vp];rfl);obtain⟨fn,tmps,assign,body,hy,hR⟩:=HY _ (aX p) wr n4 (by rw[n5];exact vp);rw[zM]at hR;have rC:J ((upsT (dgW wj) wy).length=v2+1):=(by rw[pN,kz.o]:(upsT (dgW wj) wy).length=v2+1)
   clear pN vp n5 zM;gi_wp2;refine⟨λ_=>by omega,hR.mono ?_⟩;clear hR hy;rintro e W3 (⟨rfl,(bE:J _),yp⟩|⟨rfl,sE⟩)
   ·have bF:J _:=sI.keep yp;clear yp sI n4
    by_cases jw:p<v2
    ·obtain⟨j,hj⟩:∃j,p+j+1=v2:=⟨v2-1-p,by omega⟩
     have ei:(v2:Int)-1-(p:Int)=(j:Int):=(by omega);rw[ei];have hjl:j<wy.1.length:=(by rw[<-kz.o];omega);have HC:J (∀V,M D W3 V->(V.cell? ⟨Bq,0,Y⟩=Z (O I (wj:Int))/\V.cell? ⟨Bq,1,Y⟩=Z (L state)/\V.cell? ⟨Bq,2,Y⟩=Z (L kb)/\V.cell? ⟨Bw,0,Y⟩=Z (R (Z ⟨gi,oi,Y⟩) v2 v3)/\V.cell? ⟨Bw,2,Y⟩=Z (L wk)/\V.cell? ⟨gi,oi+j*2,Y⟩=Z (O I (wy.1[j].1:Int))/\V.cell? ⟨gi,oi+j*2+1,Y⟩=Z (L wy.1[j].2))):=λV hT=>by
      have hV:=bF.o.next hT;exact⟨Ja hV.q,Ja hV.q,Ja hV.q,Ja hV.way,(by rw[<-HWK.o];exact Ja hV.way),(hV.cells j hjl).1,(hV.cells j hjl).2⟩
     have dV:J (∀V,M D W3 V->_):=λV hT=>HAB p j hjl (by rw[<-kz.o];exact hj) V (bF.next hT).env;have HPJ:J _:=hj;have hj0:(0:Int)<=(j:Int):=(by omega);have hj1:(j:Int)<(v2:Int):=(by omega);obtain⟨sb,so,hsj⟩:∃sb so,wy.1[j]=(sb,so):=⟨_,_,rfl⟩
     rw[hsj]at HC dV;dsimp only at HC dV;clear hsj hjl;obtain⟨b0,b1,b2,b3,b4,b5,b6⟩:=HC W3 (Te _ _);clear hj ei jw hp;gi_wp2;refine wpIn_wide.2 ?_;go_region_held3 (λV=>V.cell? ⟨Bq,0,Y⟩=Z (O I (wj:Int))/\V.cell? ⟨Bq,1,Y⟩=Z (L state)/\V.cell? ⟨Bq,2,Y⟩=Z (L kb)/\V.cell? ⟨Bw,0,Y⟩=Z (R (Z ⟨gi,oi,Y⟩) v2 v3)/\V.cell? ⟨Bw,2,Y⟩=Z (L wk)/\V.cell? ⟨gi,oi+j*2,Y⟩=Z (O I (sb:Int))/\V.cell? ⟨gi,oi+j*2+1,Y⟩=Z (L so)) (go_keep) ((go_at_call 343;refine(dV _ (Td _ _ 1)).mono ?_;rintro _ w4⟨rfl,Ho⟩;have He:J _:=(Td D W3 1).go Ho;obtain⟨d0,d1,d2,d3,d4,d5,d6⟩:=HC _ He.o;clear Ho))
     all_goals gi_wp2;go_roundw
     case rel=>
      refine⟨p+1,by have:=HPJ.o;omega,rfl,rfl,?_,bF.next He,HJ _ _ _ bE He⟩;have:=HPJ.o
      congr 1
      omega
     case measure=>have:=HPJ.o;simp only[Jjm];omega
    ·have Hd:¬(0:Int)<=(v2:Int)-1-(p:Int):=(by omega);have uN:p=v2:=(by omega);have mt:J _:=uN;clear jw hp uN;gi_wp2;refine bodyPost_end (v:=aI #[]) (results_none results341 _ _ _) rfl ?_;refine⟨⟨_,rfl⟩,aM ⟨_,?_,bE⟩⟩;exact QS (by rw[rC.o,mt.o];exact Ql _)
   ·gi_wp2;refine bodyPost_end (v:=aI #[]) (results_none results341 _ _ _) rfl ?_;exact⟨⟨_,rfl⟩,aN ⟨_,List.take_prefix _ _,sE⟩⟩
theorem Jll(E:Nat->Addr)(n:Nat)(hn:2<=n)(Bq Bw n₀:Nat)(wj:Nat)(Hf:1<=wj)(hw:wj<=32)(state kb:BA)(v1:Option Addr)(v2 v3:Nat)(wy:Wy)(Hb:WyOk wj wy)(w:aA)(hU:UpAt E n₀ Bq Bw wj state kb v1 v2 v3 wy w):
  SeqStopsK Fence.wide n N 341 #[X (Z ⟨Bq,0,Y⟩),X (Z ⟨Bw,0,Y⟩)] (λx:BA=> #[L x,aK]) (JbQ n₀ Bq Bw) (λys=>ys=upsT (dgW wj) wy) (λpre=>pre <+:upsT (dgW wj) wy) (upsT (dgW wj) wy).length w:=λl aR Jx W hW hJ _ hY h0=>
 Jqa E n hn l Bq Bw n₀ wj Hf hw state kb v1 v2 v3 wy Hb aR Jx (λpre W1 W2 h k=>hJ pre W1 W2 Y h ⟨k.os,k.tape,k.output,k.size,λj hj _=>k.block j hj (λe=>e)⟩ (λr e=>by cases e)) (λpre x W hJ hx=>hY pre x W hJ (Qo.1 hx).1) W (hU.next ((M.of_below hW).mono (λ_ hj=>aN hj))) h0
open Go.RowKit Go.Shelf

attribute [local go_sem] Oper.semAt_some

def nV(l:List BA):List aG:=l.map L
def NOwn(base:Nat)(w:aA)(v:aG)(l:List BA):Prop:=w.ownsRow base 9 1 v l.length (nV l)
theorem NOwn.nil(base:Nat)(w:aA):NOwn base w (R Y 0 0) []:=⟨rfl,aM ⟨rfl,rfl⟩⟩
theorem NOwn.own(h:NOwn base w v l):∀k,v.ownBlock=Z k->base<=k/\∃cs m,w.heap[k]? =Z (T cs 9 m):=by
 obtain⟨_,⟨rfl,h0⟩|⟨g,cap,cur,rfl,hb,hZ,_⟩⟩:=h
 ·intro k hk;cases hk
 ·intro k hk;cases hk;exact⟨hb,_,_,hZ⟩
theorem NOwn.tch(h:NOwn base w v l)(k:M S w w')(hs:∀j,v.ownBlock=Z j->¬S j):NOwn base w' v l:=by
 obtain⟨h1,⟨rfl,h0⟩|⟨g,cap,cur,rfl,hb,hZ,h2⟩⟩:=h
 ·exact⟨h1,aM ⟨rfl,h0⟩⟩
 ·exact⟨h1,aN ⟨g,cap,cur,rfl,hb,(k.block g (Jb hZ) (hs g rfl)).trans hZ,h2⟩⟩
theorem NOwn.kept{row:Option Nat}(h:NOwn base W v l)(hg:W.grownBy W' row)(hr:∀r,row=Z r->∃o:Obj,W.heap[r]? =Z o/\o.isCells=false):NOwn base W' v l:=by
 obtain⟨h1,⟨rfl,h0⟩|⟨g,cap,cur,rfl,hb,hZ,h2⟩⟩:=h
 ·exact⟨h1,aM ⟨rfl,h0⟩⟩
 ·exact⟨h1,aN ⟨g,cap,cur,rfl,hb,Ju hZ hg hr,h2⟩⟩
theorem NOwn.at(h:NOwn base w v l)(hl:l ≠ []):∃g cap,v=R (Z ⟨g,0,Y⟩) l.length cap/\base<=g/\g<w.heap.size/\(∃cs m,w.heap[g]? =Z (T cs 9 m))/\∀i (hi:i<l.length),w.cell? ⟨g,i,Y⟩=Z (L l[i])/\w.frozen? ⟨g,i,Y⟩=false:=by
 obtain⟨_,⟨rfl,h0⟩|⟨g,cap,cur,rfl,hb,hZ,_,_,Hi,kK⟩⟩:=h
 ·exact absurd (QP h0) hl
 ·refine⟨g,cap,rfl,hb,(Jb hZ),⟨_,_,hZ⟩,λi hi=>⟨?_,Qg _ _ _ _ _ hZ⟩⟩;rw[Ja hZ,<-Array.getElem?_toList];have e:(nV l)[i]? =Z (L l[i]):=by simp[nV,hi]
  rw[<-kK,List.getElem?_take_of_lt (by omega)]at e;exact e
theorem NOwn.shape(h:NOwn base w v l):∃a c,v=R a l.length c:=by
 obtain⟨_,⟨rfl,h0⟩|⟨g,cap,cur,rfl,hb,hZ,_⟩⟩:=h
 ·exact⟨Y,0,by rw[h0]⟩
 ·exact⟨_,_,rfl⟩
theorem Jaf(w:aA)(ty:TypeId)(a:Addr)(v:aG)(ha:(isAgg ty).run P w=.ok false w)(hc:w.cell? a=Z v):(loadVar ty a).run P w=.ok v w:=by
 simp only[loadVar,Sem.run_bind,ha,Result.andThen];simp[hc]
theorem Jem{fn:Func}{p p2:Tmp}{ty ty2:TypeId}(h:fn.results= #[.cell p ty,.cell p2 ty2])(tmps:Array aG)(w:aA)(a a2:Addr)(v v2:aG)
 (hp:tmps.getD p undef=X (Z a)) (kJ:tmps.getD p2 undef=X (Z a2)) (ha:(isAgg ty).run P w=.ok false w) (zG:(isAgg ty2).run P w=.ok false w) (hc:w.cell? a=Z v) (hc2:w.cell? a2=Z v2):
  (results fn tmps).run P w=.ok (aI #[v,v2]) w:=by
 have yy:tmps[p]?.getD undef=X (Z a):=by simpa using hp
 have sG:tmps[p2]?.getD undef=X (Z a2):=by simpa using kJ
 simp[results,h,yy,sG,asAddr,Jaf w ty a v ha hc,Jaf w ty2 a2 v2 zG hc2]
theorem Jmd:(prog.info? 9).map (λi=>(i.zero,i.size,i.bytes))=Z (Z (L ⟨#[]⟩),1,16):=by kernel_rfl
theorem Jet(h:NOwn base w v l)(k:Nat)(x:BA)(hx:w.cell? ⟨k,0,Y⟩=Z (L x))(ty:TypeId)(hb:l.length<=10000000000)(Ha:base<=w.heap.size):
  ∃v' w',(Builtin.append_ #[58,58] ty #[v,R (Z ⟨k,0,Y⟩) 1 1]).run N w=.ok v' w'/\NOwn base w' v' (l++[x])/\w.grownBy w' v.ownBlock:=by
 obtain⟨i,hi,hp⟩:=Option.map_eq_some_iff.1 Jmd;simp only[Qw]at hp;obtain⟨hz,Hi,gJ⟩:=hp;obtain⟨v',w',hr,h2,h3,h4⟩:=run_append_own (P:=N) w base 58 ty 9 i _ 1 16 underlying58 hi hz Hi gJ rfl (by omega) v l.length (nV l) h ⟨k,0,Y⟩ 1 1 (nV [x]) rfl (λj u hu=>by
  cases j with
  | zero=>simp only[nV,List.map_cons,List.map_nil,lD,Qh]at hu;rw[<-hu,Addr.add_lit];exact hx
  | succ j=>simp[nV]at hu) (λu hu=>by simp only[nV,List.map_cons,List.map_nil,Qt]at hu;rw[hu];rfl) (by simp only[maxLen];omega) (by omega) Ha
 exact⟨v',w',hr,by unfold NOwn;rw[Qe,show nV (l++[x])=nV l++nV [x] by simp[nV]];exact h2,h3⟩
theorem JeV{ops:Array Oper}{l n:Nat}{o:Oper}{rest:List Oper}{a:Act}{Q:Exit->Act->aA->Prop}{xv:aG}(jd:o.guard=Y)(s x:Operand)(aY:TypeId)(ho:o.op=.call { callee:=.builtin .append,args:= #[s,x],argTypes:= #[aY,aY] })
 (hv:a.eval s=v) (hx:a.eval x=xv) (hr:(Builtin.append_ #[aY,aY] o.type #[v,xv]).run P w=.ok v' w') (hK:wpListIn (Fence.wide.inRound l) n P ops Q rest (a.put o.dst v') w'):wpListIn (Fence.wide.inRound l) n P ops Q (o::rest) a w:=by
 have hw:Region.wanted o (yielded ops a.tmps)=true:=by simp[Region.wanted,jd]
 unfold wpListIn;rw[if_pos hw];refine JjL (K:=λa w=>wpListIn (Fence.wide.inRound l) n P ops Q rest a w) (λc e=>by rw[ho]at e;cases e) (λ_ _ h=>h) ?_;unfold Oper.wp;simp[execOp,ho,resolve,invoke,builtin,hv,hx,hr,Result.andThen];exact hK
structure NodI(w:aA)(qc wc:Array aG)(pre:List BA)(W:aA):Prop where
 below:Below w.heap.size w W
 row:∃v,W.heap[w.heap.size+4]? =Z (T #[v] 58)/\NOwn w.heap.size W v pre
 r2:W.heap[w.heap.size+2]? =Z (T #[R Y 0 0] 58)
 r3:W.heap[w.heap.size+3]? =Z (T #[aK] 92)
 bq:W.heap[w.heap.size+5]? =Z (T qc 248)
 bw:W.heap[w.heap.size+6]? =Z (T wc 258)
theorem NodI.own{B:Nat}(hB:w.heap.size+7<=B):OwnFrom B (NodI w qc wc):=by
 intro s W W' row h hg hr;have kL:∀r,row=Z r->∃o:Obj,W.heap[r]? =Z o/\o.isCells=false:=λr e=>(hr r e).2;obtain⟨v,h1,h2⟩:=h.row;exact⟨ownFrom_below (β:=List BA) (w₀:=w) (n₀:=w.heap.size) (B:=B) (Ql _) (by omega) s W W' row h.below hg hr,⟨v,Ju h1 hg kL,h2.kept hg kL⟩,Ju h.r2 hg kL,Ju h.r3 hg kL,Ju h.bq hg kL,Ju h.bw hg kL⟩
theorem NodI.add{w3:aA}{pre:List BA}{x:BA}(HI:NodI w qc wc pre W)(jJ:NOwn w.heap.size W v pre)(hT:M (λj=>Z j=v.ownBlock) W w3)(jG:NOwn w.heap.size w3 v' (pre++[x]))(hZ:w3.heap[w.heap.size+4]? =Z (T #[v] 58)):
  KeepsOthers W (w3.setCell ⟨w.heap.size+4,0,Y⟩ v')/\JbQ w.heap.size (w.heap.size+5) (w.heap.size+6) W (w3.setCell ⟨w.heap.size+4,0,Y⟩ v')/\NodI w qc wc (pre++[x]) (w3.setCell ⟨w.heap.size+4,0,Y⟩ v'):=by
 have jE:w3.setCell ⟨w.heap.size+4,0,Y⟩ v'=w3.setRow (w.heap.size+4) #[v']:=Qj w3 (w.heap.size+4) 0 _ _ (0,0) v' hZ;rw[jE];obtain⟨v0,sg,_⟩:=HI.row;have qN:M (λj=>Z j=v.ownBlock\/j=w.heap.size+4) W (w3.setRow (w.heap.size+4) #[v']):=(hT.mono (λ_ h=>aM (aM h))).trans (Ts _ _ _) (λ_ h=>aM (aN h));have kZ:∀{j:Nat} {cs:Array aG} {aY:TypeId},aY ≠ 9->j ≠ w.heap.size+4->W.heap[j]? =Z (T cs aY)->_:=λHd hj h=>(qN.block _ (Jb h) (λe=>by
  rcases e with e|e
  ·obtain⟨_,cs,m,hc⟩:=jJ.own _ e.symm;rw[h]at hc;simp only[Qh,lP.injEq]at hc;exact Hd hc.2.1
  ·exact hj e)).trans h
 have hz:=HI.below.size;have gI:∀j,(Z j=v.ownBlock\/j=w.heap.size+4)->w.heap.size<=j:=λj e=>by
  rcases e with e|e
  ·exact(jJ.own _ e.symm).1
  ·omega
 have hB:=qN.below hz gI;have hq:=kZ (by decide) (by omega) HI.bq;have yT:=kZ (by decide) (by omega) HI.bw;refine⟨Jbd qN (λj e=>?_),⟨hB,λcs aY h=>?_,λcs aY h=>?_⟩,HI.below.trans hB,⟨v',Qi _ _ _ _ _ _ hZ,?_⟩,kZ (by decide) (by omega) HI.r2,kZ (by decide) (by omega) HI.r3,hq,yT⟩
 ·rcases e with e|e
  ·obtain⟨_,cs,m,hc⟩:=jJ.own _ e.symm;exact⟨cs,_,m,hc⟩
  ·subst e;exact⟨_,_,_,sg⟩
 ·rw[HI.bq]at h;rw[hq,h]
 ·rw[HI.bw]at h;rw[yT,h]
 ·refine jG.tch (Ts _ _ _) (λj hj e=>?_);obtain⟨_,cs,m,hc⟩:=jG.own _ hj;rw[e,hZ]at hc;simp only[Qh,lP.injEq]at hc;exact absurd hc.2.1 (by decide)
theorem JqO(qc wc:Array aG)(wj:Int)(state kb:BA)(v1:Option Addr)(v2 v3:Nat)(m:Bool)(k:BA)(a o:Int)(hq:qc= #[O I wj,L state,L kb])(nH:wc= #[R v1 v2 v3,aL m,L k,O aD a,O aE o])(w:aA):
  CallsIn Fence.wide 3 N 289 #[aH qc,aH wc] w λe w'=>e=aC (.func (.func 341) #[] #[X (Z ⟨w.heap.size,0,Y⟩),X (Z ⟨w.heap.size+1,0,Y⟩)])/\w'=(w.alloc (T qc 248)).alloc (T wc 258):=by
 refine callsIn_wide.2 ?_;subst hq nH;have vF:∀(fn:Fn)(first cap:Array aG)(w:aA),(Instr.makeFunc fn first cap).run N w=.ok (.func fn first cap) w:=λ_ _ _ _=>rfl;go_enter func289,ntmps289;go_wp2;go_ret;exact⟨rfl,rfl⟩
def JnM(w:aA)(l:List (List UInt8))(e:Ending)(w':aA):Prop:=∃g cap,e=aC (aI #[R (Z ⟨g,0,Y⟩) l.length cap,aK])/\w.heap.size<=g/\g<w'.heap.size/\(∀j (h:j<l.length),w'.cell? ⟨g,j,Y⟩=Z (L ⟨l[j].toArray⟩))/\Below w.heap.size w w'
theorem Jmz(E:Nat->Addr)(wj:Nat)(Hf:1<=wj)(hw:wj<=32)(state kb:BA)(v1:Option Addr)(v2 v3:Nat)(wy:Wy)(Hb:WyOk wj wy)(w:aA)(hE:Env E w)(hv:VAt w.heap.size w (R v1 v2 v3) (wy.1.map encS)):
  CallsIn Fence.wide 5 N 214 #[qV wj state kb,wV v1 v2 v3 wy.2.isSome (wyK wy) (wyO wy).1 (wyO wy).2] w λe W'=>JnM w (wy.nodes (dgW wj)) e W':=by
 have h1:1<=5:=by omega
 have xH:Fence.wide.round=Y:=rfl;have xL:J _:=Hb;have HE:J (Env E w):=hE;have HV:J (VAt w.heap.size w (R v1 v2 v3) (wy.1.map encS)):=hv;refine callsIn_of_wp_marks func214 rfl trivial ?_ xH;simp only[ntmps214,lN,Qp,Qv,Nat.reduceAdd,Nat.reduceSub,lH,lI,lO,lK,lJ,lR];gi_wp2;refine⟨trivial,(callsIn_wide.2 (callsIn_wide.1 (JqO _ _ _ _ _ _ _ _ _ _ _ _ rfl rfl _))).mono ?_⟩;rintro _ _⟨rfl,rfl⟩;gi_wp2;obtain⟨qc,hqc⟩:∃qc:Array aG,qc= #[O I (wj:Int),L state,L kb]:=⟨_,rfl⟩
 obtain⟨wc,nH⟩:∃wc:Array aG,wc= #[R v1 v2 v3,aL wy.2.isSome,L (wyK wy),O aD ((wyO wy).1:Int),O aE ((wyO wy).2:Int)]:=⟨_,rfl⟩
 obtain⟨WD,jI⟩:∃WD,WD=((((((w.alloc (T qc 248)).alloc (T wc 258)).alloc (T #[R Y 0 0] 58)).alloc (T #[aK] 92)).alloc (T #[R Y 0 0] 58)).alloc (T qc 248)).alloc (T wc 258):=⟨_,rfl⟩
 rw[<-hqc,<-nH,<-jI];have qF:Below w.heap.size w WD:=by rw[jI];exact(((((((Below.refl _ w).alloc (Ql _) _).alloc (by simp) _).alloc (by simp;omega) _).alloc (by simp;omega) _).alloc (by simp;omega) _).alloc (by simp;omega) _).alloc (by simp;omega) _
 have hz:WD.heap.size=w.heap.size+7:=by rw[jI];simp
 have gq:∀(V:aA)(o:Obj)(j:Nat)(x:Obj),V.heap[j]? =Z x->_:=λV o j x h=>(Below.heap_alloc V o j (Jb h)).trans h;have jn:∀(V:aA)(o:Obj)(j:Nat),V.heap.size=j->(V.alloc o).heap[j]? =Z o:=λV o j h=>by subst h;exact Qf V o
 have r2:WD.heap[w.heap.size+2]? =Z (T #[R Y 0 0] 58):=by rw[jI];exact gq _ _ _ _ (gq _ _ _ _ (gq _ _ _ _ (gq _ _ _ _ (jn _ _ _ (by simp)))))
 have r3:WD.heap[w.heap.size+3]? =Z (T #[aK] 92):=by rw[jI];exact gq _ _ _ _ (gq _ _ _ _ (gq _ _ _ _ (jn _ _ _ (by simp))))
 have r4:WD.heap[w.heap.size+4]? =Z (T #[R Y 0 0] 58):=by rw[jI];exact gq _ _ _ _ (gq _ _ _ _ (jn _ _ _ (by simp)))
 have r5:WD.heap[w.heap.size+5]? =Z (T qc 248):=by rw[jI];exact gq _ _ _ _ (jn _ _ _ (by simp))
 have r6:WD.heap[w.heap.size+6]? =Z (T wc 258):=by rw[jI];exact jn _ _ _ (by simp)
 have zt:M D w WD:=(M.of_below qF).mono (λ_ hj=>aN hj);have hU:UpAt E w.heap.size (w.heap.size+5) (w.heap.size+6) wj state kb v1 v2 v3 wy WD:=⟨HE.tch zt noE,HE.size,by rw[r5,hqc],by rw[r6,nH],HV.tch zt noE⟩
 have rK:NodI w qc wc [] WD:=⟨qF,⟨R Y 0 0,r4,NOwn.nil _ _⟩,r2,r3,r5,r6⟩
 have hqa:(Value.agg #[O I (wj:Int),L state,L kb])=aH qc:=by rw[hqc]
 have hwa:(Value.agg #[R v1 v2 v3,aL wy.2.isSome,L (wyK wy),O aD ((wyO wy).1:Int),O aE ((wyO wy).2:Int)])=aH wc:=by rw[nH]
 show Code.wpIn _ _ _ _ _ { tmps:= #[aH #[O I (wj:Int),L state,L kb],aH #[R v1 v2 v3,aL wy.2.isSome,L (wyK wy),O aD ((wyO wy).1:Int),O aE ((wyO wy).2:Int)],_,_,_,_,_,_,_,_,_,_,_,_,_,_,_,_,_,_,_,_,_,_],defers:=_ } _;rw[hqa,hwa];refine wpIn_rangeFunc_ownF xH h1 (gf:=341) (lb:= #[X (Z ⟨w.heap.size+1+1+1+1+1,0,Y⟩),X (Z ⟨w.heap.size+1+1+1+1+1+1,0,Y⟩)]) rfl trivial (enters_of func341 (by kernel_rfl) rfl)
  (Jll E 4 (by omega) (w.heap.size+1+1+1+1+1) (w.heap.size+1+1+1+1+1+1) w.heap.size wj Hf hw state kb v1 v2 v3 wy xL WD hU) (λh k=>⟨h.1.trans k.1,λcs aY hc=>k.2.1 cs aY (h.2.1 cs aY hc),λcs aY hc=>k.2.2 cs aY (h.2.2 cs aY hc)⟩)
  (λW l o o' hl ho hc yT=>⟨belowK_b (w:=w) (Ql _) W l o o' (by omega) ho hc yT,λcs aY h=>Ju h (grownBy_putObj' _ l o') (λr e=>by cases e;exact⟨o,ho,hc⟩),λcs aY h=>Ju h (grownBy_putObj' _ l o') (λr e=>by cases e;exact⟨o,ho,hc⟩)⟩) (Below.refl _ _) (λ_=>rfl)
  (NodI w qc wc) (λ_ _ _=>False) (NodI.own (by omega)) (λ_ _ _ _ _ hs _ _=>hs) rK
  (λx=>{ tmps:= #[aH qc,aH wc,X (Z ⟨w.heap.size,0,Y⟩),X (Z ⟨w.heap.size+1,0,Y⟩),X (Z ⟨w.heap.size+1+1,0,Y⟩),X (Z ⟨w.heap.size+1+1+1,0,Y⟩),X (Z ⟨w.heap.size+1+1+1+1,0,Y⟩),L x,aK,aH qc,aH wc,.func (.func 341) #[] #[X (Z ⟨w.heap.size+1+1+1+1+1,0,Y⟩),X (Z ⟨w.heap.size+1+1+1+1+1+1,0,Y⟩)],L x,aK,undef,undef,undef,undef,undef,undef,undef,undef,undef,undef],defers:=[] }) ?assign ?body ?done ?stop
 case assign=>intro l x W K hK;gi_wp2;exact hK
 case body=>
  rintro l pre x W hI jw;obtain⟨v,hZ,jJ⟩:=hI.row;have c0:W.cell? ⟨w.heap.size+1+1+1+1,0,Y⟩=Z v:=Ja hZ;have HI:J _:=hI;have kp:J _:=hZ;have xU:J _:=jJ;have tA:=Ta D W (T #[L x] 9);have hpl2:pre.length<=10000:=by have h1:=ZS (dgW wj) wy;have h2:=xL.o.len;omega
  obtain⟨v',w3,Hy,jG,hg⟩:=Jet (jJ.tch tA (λ_ _ h=>h)) W.heap.size x (Ja (Qf W _)) 58 (by omega) (Qm hI.below.size tA.size);have zg:=(tA.mono noE).trans (Tg hg) (λ_ h=>aM h);have e3:=(zg.block _ (Jb hZ) (λe=>by
   obtain⟨_,cs,m,hc⟩:=jJ.own _ e.symm;rw[hZ]at hc;simp only[Qh,lP.injEq]at hc;exact absurd hc.2.1 (by decide))).trans hZ
  have d0:w3.cell? ⟨w.heap.size+1+1+1+1,0,Y⟩=Z v:=Ja e3;have f0:w3.frozen? ⟨w.heap.size+1+1+1+1,0,Y⟩=false:=Qg _ _ _ _ _ e3;obtain⟨a',c',Hx⟩:=jG.shape;generalize (pre++[x]).length=n' at Hx;subst Hx;have kQ:J _:=jG;have H8:J _:=zg;have E3:J _:=e3;gi_wp2_with (gi_at_builtin;refine JeV rfl _ _ 58 rfl rfl rfl Hy ?_);exact HI.add xU H8 kQ E3.out
 case done=>
  rintro aV ys W hD (HYS:J _) hI (HDK:J _);obtain⟨v,hZ,jJ⟩:=hI.row;have ut:ys.length=wy.1.length+1:=by rw[HYS,ZS]
  have Hl:=xL.o.len;obtain⟨g,cap,hv,dW,hgl,⟨gc,gm,(vj:J _)⟩,sJ⟩:=jJ.at (λe=>by rw[e]at ut;simp at ut);subst hv;have iE:J (aB N 290 #[R (Z ⟨g,0,Y⟩) ys.length cap] W λe w'=>e=aC (aI #[])/\M (λj=>j=g) W w'/\∀j (h:j<ys.reverse.length),w'.cell? ⟨g,j,Y⟩=Z (L ys.reverse[j])):=reverse_any g cap ys W sJ (by omega);have c0:W.cell? ⟨w.heap.size+1+1+1+1,0,Y⟩=Z (R (Z ⟨g,0,Y⟩) ys.length cap):=Ja hZ;have HI:J _:=hI;have kp:J _:=hZ;have iF:g ≠ w.heap.size+4/\g ≠ w.heap.size+2/\g ≠ w.heap.size+3:=by
   refine⟨λe=>?_,λe=>?_,λe=>?_⟩
   ·rw[e,hZ]at vj;simp only[Qh,lP.injEq]at vj;exact absurd vj.2.1 (by decide)
   ·rw[e,hI.r2]at vj;simp only[Qh,lP.injEq]at vj;exact absurd vj.2.1 (by decide)
   ·rw[e,hI.r3]at vj;simp only[Qh,lP.injEq]at vj;exact absurd vj.2.1 (by decide)
  have dX:J _:=iF;have pI:J (w.heap.size<=g/\g<W.heap.size):=⟨dW,hgl⟩
  clear hI hZ jJ iF dW hgl sJ ut Hl rK hU r5 r6 qF;gi_wp2;refine⟨trivial,(callsIn_wide.2 iE.o).mono ?_⟩;rintro _ W2⟨rfl,(H4:J _),(vS:J _)⟩;have hk:∀{j:Nat} {o:Obj},W.heap[j]? =Z o->j ≠ g->_:=λh hj=>(H4.block _ (Jb h) hj).trans h;have ge:=hk kp (λe=>dX.1 e.symm);have Hp:=hk HI.r2 (λe=>dX.2.1 e.symm);have kP:=hk HI.r3 (λe=>dX.2.2 e.symm);have bG:=hk HDK (λe=>by rw[e,vj.o]at HDK;have:=HDK.o;simp at this);have c0:W2.cell? ⟨w.heap.size+1+1+1+1,0,Y⟩=Z (R (Z ⟨g,0,Y⟩) ys.length cap):=Ja ge;have d2:W2.cell? ⟨w.heap.size+1+1,0,Y⟩=Z (R Y 0 0):=Ja Hp;have d3:W2.cell? ⟨w.heap.size+1+1+1,0,Y⟩=Z aK:=Ja kP;have f2:W2.frozen? ⟨w.heap.size+1+1,0,Y⟩=false:=Qg _ _ _ _ _ Hp;have f3:W2.frozen? ⟨w.heap.size+1+1+1,0,Y⟩=false:=Qg _ _ _ _ _ kP;have R2:J _:=Hp;have R3:J _:=kP;have KD:J _:=bG;clear hk ge Hp kP bG iE;gi_wp2;obtain⟨W4,pR⟩:∃W4,W4=(W2.setRow (w.heap.size+2) #[R (Z ⟨g,0,Y⟩) ys.length cap]).setRow (w.heap.size+3) #[aK]:=⟨_,rfl⟩
  have n6:(W2.setCell ⟨w.heap.size+1+1,0,Y⟩ (R (Z ⟨g,0,Y⟩) ys.length cap)).setCell ⟨w.heap.size+1+1+1,0,Y⟩ aK=W4:=by rw[pR,Qj W2 (w.heap.size+2) 0 _ _ (0,0) _ R2.o,Qj _ (w.heap.size+3) 0 _ _ (0,0) _ ((setRow_other _ _ _ _ (by omega)).trans R3.o)];rfl
  rw[n6];have t4:M (λj=>j=w.heap.size+2\/j=w.heap.size+3) W2 W4:=by rw[pR];exact((Ts W2 (w.heap.size+2) _).mono (λ_ h=>aM (aM h))).trans (Ts _ (w.heap.size+3) _) (λ_ h=>aM (aN h))
  have q2:W4.heap[w.heap.size+2]? =Z (T #[R (Z ⟨g,0,Y⟩) ys.length cap] 58):=by rw[pR];exact(setRow_other _ _ _ _ (by omega)).trans (Qi _ _ _ _ _ _ R2)
  have q3:W4.heap[w.heap.size+3]? =Z (T #[aK] 92):=by rw[pR];exact Qi _ _ _ _ _ _ ((setRow_other _ _ _ _ (by omega)).trans R3)
  have bG:=(t4.block _ (Jb KD) (λe=>by
   rcases e with e|e
   ·have:=KD.out;rw[e,R2.o]at this;simp at this
   ·have:=KD.out;rw[e,R3.o]at this;simp at this)).trans KD.out
  have hg:=grownBy_putObj' W4 aV (.deferred Y);have kL:∀r,Z aV=Z r->∃o:Obj,W4.heap[r]? =Z o/\o.isCells=false:=λr e=>by cases e;exact⟨_,bG,rfl⟩
  refine⟨by simp,aM ⟨_,_,rfl,run_takeDeferred bG,?_⟩⟩;refine⟨_,Jem results214 _ _ ⟨w.heap.size+1+1,0,Y⟩ ⟨w.heap.size+1+1+1,0,Y⟩ (R (Z ⟨g,0,Y⟩) ys.length cap) aK rfl rfl (isAgg58 _) (isAgg92 _) (Ja (Ju q2 hg kL)) (Ja (Ju q3 hg kL)),?_⟩;have hyn:ys.reverse=(wy.nodes (dgW wj)).map λt=>⟨t.toArray⟩:=by rw[HYS.o,upsT,<-List.map_reverse,List.reverse_reverse]
  have ut:ys.length=(wy.nodes (dgW wj)).length:=by have:=congrArg List.length hyn;simpa using this
  have hDg:aV ≠ g:=λe=>by have:=HDK.o;rw[e,vj.o]at this;simp at this
  refine⟨g,cap,by rw[ut],pI.1,?_,λj h=>?_,?_⟩
  ·have:=H4.o.size;have:=t4.size;have:=pI.o.2;have:=hg.size;omega
  ·have h':j<ys.reverse.length:=(by rw[List.length_reverse,ut];exact h);have e1:=vS j h';have e2:(W4.putObj aV (.deferred Y)).cell? ⟨g,j,Y⟩=W2.cell? ⟨g,j,Y⟩:=by
    rw[show (W4.putObj aV (.deferred Y)).cell? ⟨g,j,Y⟩=W4.cell? ⟨g,j,Y⟩ from World.cell?_of_block (hg.block g (by have:=H4.o.size;have:=t4.size;have:=pI.o.2;omega) (λe=>hDg (by cases e;rfl)))];exact t4.cell (p:=⟨g,j,Y⟩) (by have:=H4.o.size;have:=pI.o.2;show g<_;omega) (λe=>by
     rcases e with e|e
     ·exact dX.2.1 e
     ·exact dX.2.2 e)
   rw[e2,e1];simp only[hyn,List.getElem_map]
  ·have b1:=HI.below;have b2:=H4.below b1.size (λj e=>by rw[e];exact pI.1);have b3:=t4.below (Qm b1.size b2.size) (λj e=>by omega);exact((b1.trans b2).trans b3).trans (belowK_b (w:=w) (Ql _) _ aV _ _ (by omega) bG rfl rfl)
 case stop=>rintro aV c pre W _ _ h _;exact h.elim

theorem JfH{m:Nat}{bh:BA}{st:Option Tr}{text:List UInt8}(hw:wj<=32){hd:BA}{st':Option Tr}(h:subP (dgW wj) wj m bh st text=.ok (hd,st')):hd.size<=1000/\text.length<=1000:=by
 unfold subP at h
 cases hh:(PS.rd [] text).hdr wj (0,⟨#[]⟩,⟨#[]⟩,⟨#[]⟩) with
 | none=>rw[hh]at h;cases h
 | some x=>
  obtain⟨y,p⟩:=x;obtain⟨pre,body,l1,e1,e2,_⟩:=JhH wj hw _ _ _ _ _ hh;rw[lJ]at e2;subst e2;rw[hh]at h;dsimp only at h
  split at h
  ·rename_i hb;obtain⟨b,r',h1,h2,h3,_⟩:=Jaj wj hw _ _ _ _ hb;have vu:=congrArg (λp=>match p with|PS.rd _ r=>r|PS.wr r=>r) h3;simp only at vu;subst vu
   split at h
   ·cases h
   ·split at h
    ·cases h
    ·split at h
     ·cases h
     ·simp only[Except.ok.injEq,Qw]at h;refine⟨?_,?_⟩
      ·rw[<-h.1,Jh,QB,e1,Qe];omega
      ·rw[e1,h2,QC,Qe];omega
  ·cases h
def LAt(wj base pn:Nat)(w:aA)(lb:Nat)(F:Nat->Prop)(fl:Nat)(ch:Ch):Prop:=(1<=wj/\wj<=32)/\Jqh wj base pn w lb F fl ch
theorem LAt.keep(h:LAt wj base pn w lb F fl ch)(k:M S w w')(hs:∀j,S j->¬F j):LAt wj base pn w' lb F fl ch:=by
 obtain⟨h0,lg,cb,r,bs,lv,h1⟩:=h;exact⟨h0,lg,cb,r,bs,lv,h1.keep k hs⟩
theorem JiE(E:Nat->Addr)(wj base:Nat)(h:Int)(hA:LAt wj base pn w lb F fl ch)(hF:Xx E base w):
  aB N 16 #[X (Z ⟨lb,0,Y⟩),O I h] w λe w'=>e=aC (aI #[L (ZD ch h),O I (if 0<=h/\h<(ch.length:Int) then 0 else 7)])/\M D w w':=by
 obtain⟨_,lg,cb,r,bs,lv,C⟩:=hA;have hl:=rows C.led;have H:=JfX E hF.env C.row h
 by_cases hh:0<=h/\h<(ch.length:Int)
 ·rw[if_pos hh];obtain⟨n,rfl⟩:=lE hh.1;have hn:n<ch.length:=by omega
  have hb:bs[n]? =Z (bs[n]'(by rw[C.len];exact hn)):=Qd _;have hc:ch[n]? =Z (ch[n]'hn):=Qd _;refine Jit hl _ _ (H.mono λe w' k=>⟨k.1,?_⟩)
  rcases k.2 with⟨n',b,e1,e2,e3⟩|⟨e1,_⟩
  ·have:n=n':=(by omega);subst this;have hh1:=(C.hdr n _ _ e2 hc).1;rw[e3,hh1];unfold ZD;rw[if_pos (by omega),lQ,Qn,hc];rfl
  ·exact absurd ⟨hh.1,by rw[C.len];exact hh.2⟩ e1
 ·rw[if_neg hh];have e0:ZD ch h=⟨#[]⟩:=by
   unfold ZD
   split
   ·rename_i h0;rw[Qn,List.getElem?_eq_none (by omega)];rfl
   ·rfl
  rw[e0];refine Jg7 (λw' k=>hF.next k) .range hl _ (H.mono λe w' k=>⟨k.1,?_⟩)
  rcases k.2 with⟨n',b,e1,e2,e3⟩|⟨_,e2⟩
  ·exact absurd ⟨by omega,by have:=(Qo.1 e2).1;rw[C.len]at this;omega⟩ hh
  ·exact e2
theorem JkC(E:Nat->Addr)(wj base:Nat)(v:aG)(ts:List TxL)(hA:LAt wj base pn w lb F fl ch)(hF:Xx E base w)(hv:Jlx w v ts)(qH:∀t∈ts,TxOk wj t)(h3:ts.length<=3)(hc:ch.length<2 ^ 27):
  aB N 18 #[X (Z ⟨lb,0,Y⟩),v] w λe w'=>M D w w'/\match Jm6 (dgW wj) wj ch ts with
   | .ok b=>e=aC (aI #[L ⟨b.toArray⟩,O I 0])
   | .error er=>e=aC (aI #[L ⟨#[]⟩,O I (Xr er)]):=by
 obtain⟨⟨Hf,hw⟩,lg,cb,r,bs,lv,C⟩:=hA;have hl:=rows C.led;obtain⟨m,bh,q,st,hm,bZ,hb,hcm,kU,kE,Hb,jt⟩:=C.last;obtain⟨l,k1,k2,k3⟩:=hv;obtain⟨ia,ic,Hx⟩:=k1.shape;have H:=Jir E hF.env Hf hw C.row m bZ (by omega) bh q st hb kU (λj=>F j\/w.heap.size<=j) (λj hj=>aN hj) (kE.mono (λj hj=>aM hj)) Hb v l ts qH h3 k1 ⟨k2,k3⟩;rw[JjX (dgW wj) wj (Jj wj hw) ch (by omega) ts qH h3,jt];subst Hx
 cases ha:JH (dgW wj) st ts with
 | error er=>
  rw[ha]at H;exact Jfe (λw' k=>hF.next k) er hl _ _ _ H
 | ok st'=>
  rw[ha]at H;dsimp only;have e:Jar (dgW wj) ch ts st'=Hn (m+1,dgW wj (72::bh.data.toList),dgW wj (66::JL ts),Xh (dgW wj) st')++JL ts:=by unfold Jar Jbr;rw[hm,jt]
  rw[e];exact Jl2 hl _ _ _ _ H
theorem Jhl(E:Nat->Addr)(wj base:Nat)(s:BA)(hA:LAt wj base pn w lb F fl ch)(hF:Xx E base w)(hs:s.size<=1100000)(hc:ch.length<2 ^ 27):
  aB N 19 #[X (Z ⟨lb,0,Y⟩),L s] w λe w'=>M F w w'/\∃F':Nat->Prop,(∀j,F' j->F j\/w.heap.size<=j)/\match Jcl (dgW wj) wj ch s.data.toList with
   | .ok ch'=>e=aC (O I 0)/\LAt wj base pn w' lb F' fl ch'
   | .error er=>e=aC (O I (Xr er))/\LAt wj base pn w' lb F' fl ch:=by
 have qP:=hA;obtain⟨⟨Hf,hw⟩,lg,cb,r,bs,lv,C⟩:=hA;have hl:=rows C.led;obtain⟨m,bh,q,st,hm,bZ,hb,hcm,kU,kE,Hb,jt⟩:=C.last;have gX:base<=w.heap.size:=by have:=C.low lb C.ownL;omega
 have hst2:StAt (dgW wj) (λj=>(F j/\¬Z j=lv.ownBlock)\/w.heap.size<=j) w q st:=kE.refine (λj hj hc=>aM ⟨hj,λe=>by
  obtain⟨cc,hc⟩:=hc;obtain⟨cu,mm,hr⟩:=C.log.kind j e.symm;rw[hc]at hr;simp at hr⟩)
 have qW:=C.short;have hfw:=C.few;have H:=JfY E hF.env Hf hw C.row m bZ (by omega) bh q st hb kU (λj=>(F j/\¬Z j=lv.ownBlock)\/w.heap.size<=j) (λj hj=>aN hj) hst2 Hb base gX lg C.log (by omega) s hs;rw[Ji9 (dgW wj) wj m bh st ch hm jt]
 cases hp:subP (dgW wj) wj m bh st s.data.toList with
 | error er=>
  rw[hp]at H;refine(Jg8 (λw' k=>hF.next k) er hl s H).mono λe w' k=>⟨k.2.mono noE,F,λj hj=>aM hj,k.1,qP.keep k.2 noE⟩
 | ok x=>
  obtain⟨hd,st'⟩:=x;rw[hp]at H;refine(Jiu hl s _ H).mono λe w' k=>?_;obtain⟨k0,q',lv',k1,k2,k3,k4,k5,k6⟩:=k;have hx:(recB [66] s.data.toList).length<=1000100:=by have:=(JfH hw hp).2;rw[Jeh];simp only[Qp,Qv];omega
  obtain⟨F',cF,C'⟩:=C.more (by omega) hx k1 k2 k3 k4 k5 k6 (JfH hw hp).1 gX;refine⟨k5.mono (λj hj=>aM ?_),F',cF,k0,⟨Hf,hw⟩,_,cb,r,_,lv',C'⟩
  rcases hj with rfl|rfl|e
  ·exact C.ownC
  ·exact C.ownR
  ·exact C.ownG j e.symm
theorem Jof(wj base:Nat)(hA:LAt wj base pn w lb F fl ch):
  aB N 15 #[X (Z ⟨lb,0,Y⟩)] w λe w'=>e=aC (O I ((ch.length:Int)-1))/\M D w w':=by
 obtain⟨_,lg,cb,r,bs,lv,C⟩:=hA;have hl:=rows C.led;have hm:=C.most;refine(fTip hl _ (Jcn C.row (by rw[C.len];omega))).mono λe w' k=>⟨?_,by rw[<-k.2];exact Te _ _⟩
 rw[k.1,C.len]
theorem Jak(id:BA)(outs:List (Nat×Nat))(ho:∀o∈outs,JC o)(h3:outs.length<=3):∃st,Jz id 0 outs Y=.ok st:=by
 have B0:Book id.size Y []:=by
  refine⟨?_,?_,?_,?_⟩
  ·intro t ht;cases ht
  ·intro h hh;exact(QD hh).elim
  ·exact List.nodup_nil
  ·intro k o;simp[JX]
 have:=Jcd id.size id rfl outs ho 0 (by omega) Y [] 0 false B0;obtain⟨o',b',e⟩:=Jbs id outs outs 0 rfl (by omega) 0 false;have e0:XK id outs 0=[]:=rfl;rw[e0]at e;rw[show (0:Nat) % M64=0 from rfl,e]at this;obtain⟨st',e1,_,_⟩:=this;exact⟨st',e1⟩
def HdIs(wj:Nat)(c:BA×Option Tr):Prop:=∃h:HdL,c.1=⟨(Hn h).toArray⟩/\HdOk wj h/\h.2.2.2=Xh (dgW wj) c.2
theorem Jks(wj:Nat)(hw:wj<=32)(outs:List (Nat×Nat))(st:Option Tr):HdIs wj (⟨(Hn (Yh wj outs st)).toArray⟩,st):=by
 refine⟨Yh wj outs st,rfl,?_,rfl⟩;unfold Yh Zg;exact⟨by show (0:Nat)<_;decide,by show ByteArray.size _=_;rw[Jh,lF],Jj wj hw _,Xw (dgW wj) wj (Jj wj hw) _⟩
theorem JkA(E:Nat->Addr)(base wj:Nat)(v:aG)(outs:List (Nat×Nat))(Hf:1<=wj)(hw:wj<=32)(hF:Xx E base w)(gX:base<=w.heap.size)(hv:Jr w.heap.size w v outs)(h1:1<=outs.length)(h3:outs.length<=3)(ho:∀o∈outs,JC o):
  aB N 37 #[O I (wj:Int),v] w λe w'=>M D w w'/\∃lb F h st,e=aC (aI #[X (Z ⟨lb,0,Y⟩),O I 0])/\LAt wj base 0 w' lb F 0 [(h,st)]/\Jz (dgW wj (71::Jy outs)) 0 outs Y=.ok st/\HdIs wj (h,st)/\h=⟨(Hn (Yh wj outs st)).toArray⟩/\∀j,F j->w.heap.size<=j:=by
 obtain⟨st,kE⟩:=Jak (dgW wj (71::Jy outs)) outs ho h3;have H:=Jkb E wj Hf hw v outs ho h1 h3 w hF.env hv base gX st kE;obtain⟨ia,ic,Hx⟩:=hv.shape;subst Hx;have H2:=fNew (wj:Int) ia outs.length ic (λw' cb=>M D w w'/\∃r q lv,w.heap.size<=cb/\w.heap.size<=r/\JR w' cb wj 0 r [(⟨(Hn (Yh wj outs st)).toArray⟩,wj,q)] lv/\StAt (dgW wj) (λj=>w.heap.size<=j) w' q st/\StOk wj st/\Xy base w' lv (recB [71] (XN wj outs))/\∀k,lv.ownBlock=Z k->w.heap.size<=k) (H.mono λe w' k=>by
  obtain⟨k0,cb,r,q,lv,k1,k2⟩:=k;exact⟨cb,k1,k0,r,q,lv,k2⟩)
 refine H2.mono λe w' k=>?_;obtain⟨w1,cb,⟨k0,r,q,lv,k1,k2,k3,k4,k5,k6,k7⟩,rfl,rfl⟩:=k;have tA:=Ta D w1 (T #[X (Z ⟨cb,0,Y⟩)] 90);have hs:=k0.size;have hlow:∀j,j=w1.heap.size\/(w.heap.size<=j/\(j=cb\/j=r\/(∃c,w1.heap[j]? =Z (T c 243))\/lv.ownBlock=Z j))->base<=j/\(j=w1.heap.size\/j<w1.heap.size):=λj hj=>by
  rcases hj with rfl|⟨hj,rfl|rfl|⟨c,hc⟩|hc⟩
  ·exact⟨by omega,aM rfl⟩
  ·exact⟨by omega,aN (Jb k3.row)⟩
  ·exact⟨by omega,aN (Jb k3.map)⟩
  ·exact⟨by omega,aN (Jb hc)⟩
  ·exact⟨by omega,aN (k6.bs.own j hc).2⟩
 refine⟨k0.go tA,w1.heap.size,λj=>j=w1.heap.size\/(w.heap.size<=j/\(j=cb\/j=r\/(∃c,w1.heap[j]? =Z (T c 243))\/lv.ownBlock=Z j)),⟨(Hn (Yh wj outs st)).toArray⟩,st,rfl,⟨⟨Hf,hw⟩,recB [71] (XN wj outs),cb,r,[(⟨(Hn (Yh wj outs st)).toArray⟩,wj,q)],lv,?_⟩,kE,Jks wj hw outs st,rfl,λj hj=>by
  rcases hj with rfl|hj
  ·omega
  ·exact hj.1⟩
 have hhl:(Hn (Yh wj outs st)).length<=1000:=by unfold Hn Yh;simp only[Qe,Jf,Yw,Jj wj hw,Xw (dgW wj) wj (Jj wj hw)];unfold Zg;rw[Jh,lF];omega
 exact {
  led:=Qf _ _
  row:=k3.next tA
  log:=k6.next tA
  len:=rfl
  pos:=by simp
  most:=by simp
  short:=by
   have:∀l:List (Nat×Nat),(l.flatMap outB).length=l.length*9:=by
    intro l
    induction l with
    | nil=>rfl
    | cons x r ih=>rw[QG,Qe,ih];unfold outB;simp only[Qe,Jf,Qp];omega
   rw[Jeh];unfold XN Jy;rw[Qe,Qe,Jf,Jf,this];simp only[Qp,Qv];omega
  few:=by omega
  hdr:=λi b c h1 h2=>by
   cases i with
   | zero=>
    simp only[lD,Qh]at h1 h2;subst h1 h2;exact⟨rfl,by rw[Jh];exact hhl⟩
   | succ i=>simp at h1
  st:=λi b c h1 h2 _=>by
   cases i with
   | zero=>
    simp only[lD,Qh]at h1 h2;subst h1 h2;exact⟨rfl,(k4.refine (λj hj hc=>aN ⟨hj,aN (aN (aM hc))⟩)).next tA,k5⟩
   | succ i=>simp at h1
  gone:=λi b _ h2=>absurd h2 (by omega)
  ownL:=aM rfl
  ownC:=aN ⟨k1,aM rfl⟩
  ownR:=aN ⟨k2,aN (aM rfl)⟩
  ownG:=λk hk=>aN ⟨k7 k hk,aN (aN (aN hk))⟩
  low:=λj hj=>by
   obtain⟨h1,h2⟩:=hlow j hj;exact⟨h1,by rw[World.size_alloc];omega⟩
  kind:=λj hj cur aY m hr=>by
   rcases hj with rfl|⟨hj,hk⟩
   ·rw[Qf]at hr;simp at hr;exact aM hr.2.1.symm
   ·have jP:j<w1.heap.size->w1.heap[j]? =Z (T cur aY m):=λH5=>(tA.block j H5 (λe=>e)).symm.trans hr
    rcases hk with rfl|rfl|⟨c,hc⟩|hc
    ·have:=jP (Jb k3.row);rw[k3.row]at this;simp at this;exact aN (aM this.2.1.symm)
    ·have:=jP (Jb k3.map);rw[k3.map]at this;simp at this
    ·have:=jP (Jb hc);rw[hc]at this;simp at this;exact aN (aN (aM this.2.1.symm))
    ·have:=jP (k6.bs.own j hc).2;obtain⟨cu,mm,Hp⟩:=k6.kind j hc;rw[Hp]at this;simp at this;exact aN (aN (aN this.2.1.symm)) }

def XZ(wj:Nat)(c:BA×Int):Bool:=decide (c.1.size=wj) && (decide (0<=c.2) && decide (c.2<3))
theorem Yc(wj:Nat)(c:BA×Int):XZ wj c=true↔Ji wj c:=by
 unfold XZ Ji;simp
theorem Jeb(wj:Nat)(c:BA×Int)(hc:c.1.size<=9223372036854775807)(w:aA):
  aB N 257 #[O I (wj:Int),aH #[L c.1,O I c.2]] w λe w'=>e=aC (aL (XZ wj c))/\M D w w':=by
 obtain⟨s,n⟩:=c;simp only at hc;have HX:J (XZ wj (s,n)=(decide (s.size=wj) && (decide (0<=n) && decide (n<3)))):=rfl;generalize XZ wj (s,n)=aX at *
 by_cases h1:s.size=wj
 ·have bd:(s.size:Int)=(wj:Int):=by omega
  by_cases h2:0<=n
  ·by_cases h3:n<3
   ·have HY:J (aX=true):=(by show aX=true;rw[HX.o];simp[h1,h2,h3]);clear h1;go_enter func257,ntmps257;go_wp2;go_ret;exact⟨by rw[HY.o];rfl,Ta _ _ _⟩
   ·have HY:J (aX=false):=(by show aX=false;rw[HX.o];simp[h3]);clear h1;go_enter func257,ntmps257;go_wp2;go_ret;exact⟨by rw[HY.o];rfl,Ta _ _ _⟩
  ·have HY:J (aX=false):=(by show aX=false;rw[HX.o];simp[h2]);clear h1;go_enter func257,ntmps257;go_wp2;go_ret;exact⟨by rw[HY.o];rfl,Ta _ _ _⟩
 ·have bd:¬(s.size:Int)=(wj:Int):=by omega
  have HY:J (aX=false):=by show aX=false;rw[HX.o];simp[h1]
  clear h1;go_enter func257,ntmps257;go_wp2;go_ret;exact⟨by rw[HY.o];rfl,Ta _ _ _⟩
def Yf(t:TxL):Bool:=decide (1<=t.1.length) && (decide (t.1.length<=3) && decide (t.2.length<=3))
def Jhd(wj:Nat)(t:TxL):Bool:=Yf t && t.1.all (XZ wj)
def mayB(wj:Nat)(ts:List TxL):Bool:=decide (ts.length<=3) && ts.all (Jhd wj)
def mayA(wj:Nat)(ts:List TxL)(i:Nat):Bool:=decide (ts.length<=3) && (ts.take i).all (Jhd wj)
theorem JkJ(wj:Nat)(ts:List TxL)(i:Nat)(h:i<ts.length):mayA wj ts (i+1)=(mayA wj ts i && (Yf ts[i] && ts[i].1.all (XZ wj))):=by
 unfold mayA;rw[QR h,List.all_append,Bool.and_assoc];simp[Jhd]
theorem Jb2(wj:Nat)(ts:List TxL)(ho:∀t∈ts,∀o∈t.2,JC o):mayB wj ts=true↔ts.length<=3/\∀t∈ts,TxOk wj t:=by
 unfold mayB;rw[lS,decide_eq_true_eq,lT];refine and_congr Iff.rfl ⟨λh t ht=>?_,λh t ht=>?_⟩
 ·have:=h t ht;unfold Jhd Yf at this;simp only[lS,decide_eq_true_eq,lT,Yc]at this;exact⟨this.2,ho t ht,this.1.1,this.1.2.1,this.1.2.2⟩
 ·have:=h t ht;unfold Jhd Yf;simp only[lS,decide_eq_true_eq,lT,Yc];exact⟨⟨this.one,this.ins,this.made⟩,this.coins⟩
theorem JqC(wj:Nat)(B:Nat)(v:aG)(ts:List TxL)(sl:List (Sl×Sl))(w:aA)(hv:TxsR B w v sl)(hs:TxIs B w ts sl)(hl:ts.length<=1000000000)(hc:∀t∈ts,t.1.length<=1000000000/\t.2.length<=1000000000/\∀c∈t.1,c.1.size<=9223372036854775807):
  aB N 266 #[O I (wj:Int),v] w λe w'=>e=aC (aL (mayB wj ts))/\M D w w':=by
 have HV:J _:=hv;have ul:J _:=hs;have HL:J _:=hs.1;have HC:J _:=hc;obtain⟨va,vc,qx⟩:=hv.shape;subst qx;have hls:sl.length<=1000000000:=by rw[<-hs.1];exact hl
 have HM0:J (decide ((sl.length:Int)<=3)=mayA wj ts 0):=by show _=mayA wj ts 0;unfold mayA;rw[HL.o];simp;omega
 go_enter func266,ntmps266;go_wp2;go_loopw [5,6] (λok i wr=>∃k:Nat,k<=sl.length/\i=O I k/\ok=aL (mayA wj ts k)/\J (M D w wr)) (λ_ i _=>sl.length-(intOf i).toNat)
 case atStart=>exact⟨0,by omega,rfl,by rw[<-HM0.o],Te _ _⟩
 case round=>
  obtain⟨k,hk,rfl,rfl,HT⟩:=hrel
  by_cases H5:k<sl.length
  ·have gY:k<ts.length:=by rw[HL.o];exact H5
   rcases HV with⟨e,e2⟩|⟨gi,oi,cc,e,_,kV,Hg⟩
   ·rw[e2]at H5;simp at H5
   simp only[Qy,true_and]at e;obtain⟨rfl,rfl⟩:=e;obtain⟨f0,f1⟩:=Hg k H5;have q0:=(HT.cell (p:=⟨gi,oi+k*2,Y⟩) kV (λh=>h)).trans f0;have q1:=(HT.cell (p:=⟨gi,oi+k*2+1,Y⟩) kV (λh=>h)).trans f1;have kT:(k:Int)<(sl.length:Int):=(by omega);obtain⟨p1,p2⟩:=ul.2 k gY H5;obtain⟨l1,l2,(zF:J _)⟩:=HC _ (Qx gY);have HSU:=JkJ wj ts k gY;have HS:J _:=HSU;generalize ts[k]=t at *;obtain⟨y1,y3,rY⟩:=p1.shape;simp only[Qy]at rY;obtain⟨z1,z3,gQ⟩:=p2.shape;simp only[Qy]at gQ;obtain⟨rY,hy2,hy3⟩:=rY;obtain⟨gQ,jj,hz3⟩:=gQ;rw[rY,hy2,hy3]at p1 q0;rw[gQ,jj,hz3]at p2 q1;have Hq:J _:=p1;clear p1 p2;obtain⟨aU,hM⟩:∃aU,mayA wj ts k=aU:=⟨_,rfl⟩
   rw[hM]at HS;rw[hM];have mF:J (Yf t=(decide (1<=t.1.length) && (decide (t.1.length<=3) && decide (t.2.length<=3)))):=rfl;go_upto_region 6 with fail;obtain⟨wA,gH⟩:∃wA,wA=wr.alloc (T #[R y1 t.1.length y3,R z1 t.2.length z3] 98):=⟨_,rfl⟩
   have Hz:J (M D w wA):=(by rw[gH];exact HT.trans (Ta D _ _) (λ_ h=>aM h));have gu:=qu gH;have kF:J _:=gu;rw[<-gH];clear gH q0 q1;obtain⟨b0,b1⟩:=rows gu;generalize wr.heap.size=xb at *;go_cut [5] (λvo wx=>vo=aL (aU && Yf t)/\J (M D wA wx))
   case first=>
    cases aU
    ·go_wp2;go_meet;exact⟨by simp,Te _ _⟩
    ·by_cases c1:1<=t.1.length
     ·have c1i:(1:Int)<=(t.1.length:Int):=by omega
      by_cases c2:t.1.length<=3
      ·have c2i:(t.1.length:Int)<=3:=by omega
       by_cases c3:t.2.length<=3
       ·have c3i:(t.2.length:Int)<=3:=(by omega);have HR:J (Yf t=true):=(by show Yf t=true;rw[mF.o];simp[c1,c2,c3]);go_wp2;go_meet;exact⟨by rw[HR.o];rfl,Te _ _⟩
       ·have c3i:¬(t.2.length:Int)<=3:=(by omega);have HR:J (Yf t=false):=(by show Yf t=false;rw[mF.o];simp[c3]);go_wp2;go_meet;exact⟨by rw[HR.o];rfl,Te _ _⟩
      ·have c2i:¬(t.1.length:Int)<=3:=(by omega);have HR:J (Yf t=false):=(by show Yf t=false;rw[mF.o];simp[c2]);go_wp2;go_meet;exact⟨by rw[HR.o];rfl,Te _ _⟩
     ·have c1i:¬(1:Int)<=(t.1.length:Int):=(by omega);have HR:J (Yf t=false):=(by show Yf t=false;rw[mF.o];simp[c1]);go_wp2;go_meet;exact⟨by rw[HR.o];rfl,Te _ _⟩
   case rest=>
   obtain⟨rfl,gE⟩:=hcut;obtain⟨wB,xq⟩:∃wB,wB=wc:=⟨wc,rfl⟩
   subst xq;have yI:J _:=(gE.block _ (Jb kF) (λh=>h)).trans kF.o;have HE0:J ((aU && Yf t)=(aU && Yf t && (t.1.take 0).all (XZ wj))):=(by show _=_;simp);go_wp2;go_loopw [5,8] (λvo j wx=>∃m:Nat,m<=t.1.length/\j=O I m/\vo=aL (aU && Yf t && (t.1.take m).all (XZ wj))/\J (M D wB wx)) (λ_ j _=>t.1.length-(intOf j).toNat)
   case atStart=>exact⟨0,by omega,rfl,by rw[<-HE0.o],Te _ _⟩
   case round=>
    obtain⟨m,hm,rfl,rfl,kR⟩:=hrel;rename_i wq _;have gu:=(kR.block _ (Jb yI) (λh=>h)).trans yI.o;obtain⟨b0, -⟩:=rows gu;have gF:J _:=(Hz.trans gE (λ_ h=>aM h)).trans kR (λ_ h=>aM h)
    by_cases qy:m<t.1.length
    ·have rM:(m:Int)<(t.1.length:Int):=by omega
     rcases Hq with⟨e,e2⟩|⟨gj,oj,cj,e,_,hgj,hcj⟩
     ·rw[e2]at qy;simp at qy
     simp only[Qy,true_and]at e;obtain⟨rfl,rfl⟩:=e;obtain⟨f0,f1⟩:=hcj m qy;have r0:=(gF.cell (p:=⟨gj,oj+m*2,Y⟩) hgj (λh=>h)).trans f0;have r1:=(gF.cell (p:=⟨gj,oj+m*2+1,Y⟩) hgj (λh=>h)).trans f1;have qK:J (∀V,_):=λV=>Jeb wj t.1[m] (zF _ (Qx qy)) V;have yj:J ((aU && Yf t && (t.1.take (m+1)).all (XZ wj))=(aU && Yf t && (t.1.take m).all (XZ wj) && XZ wj t.1[m])):=by show _=_;rw[QR qy,List.all_append];simp[Bool.and_assoc]
     generalize XZ wj t.1[m]=cd at *;generalize t.1[m]=c at *;generalize (aU && Yf t && (t.1.take m).all (XZ wj))=ok at *
     cases ok
     all_goals
      go_wp2_with (go_at_call 257;refine(qK _).mono ?_;rintro _ w5⟨rfl,(Hu:J _)⟩);go_roundw
      case rel=>exact⟨m+1,by omega,by go_num,by rw[yj.o];simp,kR.trans Hu (λ_ h=>aM h)⟩
      case measure=>simp[intOf];omega
    ·have rM:¬(m:Int)<(t.1.length:Int):=(by omega);have HEX:J ((aU && Yf t && (t.1.take m).all (XZ wj))=mayA wj ts (k+1)):=by
      show _=mayA wj ts (k+1);rw[HS.o,QS (by omega),Bool.and_assoc]
     generalize (aU && Yf t && (t.1.take m).all (XZ wj))=ok at *;go_wp2;go_roundw
     case rel=>exact⟨k+1,by omega,by go_num,by rw[HEX.o],gF⟩
     case measure=>simp[intOf];omega
  ·have gI:¬(k:Int)<(sl.length:Int):=(by omega);have HE:J (mayA wj ts k=mayB wj ts):=by
    show mayA wj ts k=_;unfold mayA mayB;rw[QS (by rw[HL.o];omega)]
   generalize mayA wj ts k=aX at *;go_wp2;go_ret;exact⟨by rw[<-HE.o];rfl,HT⟩

theorem JcT{x k y:Nat}(h:(PS.wr d).num x k=Z (y,p)):y=x/\x<2 ^ (8*k)/\∃d',p=.wr d':=by
 simp only[PS.num]at h
 split at h
 ·rename_i hx;simp only[Qh,Qw]at h;exact⟨h.1.symm,(Nat.div_eq_zero_iff.1 hx).resolve_left (Nat.ne_of_gt (Nat.two_pow_pos _)),_,h.2.symm⟩
 ·cases h
theorem Jo3{c y:BA×Int}(qu: -9223372036854775808<=c.2)(jT:c.2<9223372036854775808)(h:(PS.wr d).coin wj c=Z (y,p)):Ji wj c/\∃d',p=.wr d':=by
 unfold PS.coin at h;simp only[PS.txt]at h
 split at h
 ·cases h
 ·rename_i t p1 he
  split at he
  ·rename_i hl;simp only[Qh,Qw]at he;obtain⟨rfl,rfl⟩:=he
   split at h
   ·cases h
   ·rename_i m p2 hm;obtain⟨h1,h2,d',h3⟩:=JcT hm
    split at h
    ·rename_i h4;simp only[Qh,Qw]at h;refine⟨⟨?_,?_,?_⟩,d',by rw[<-h.2,h3]⟩
     ·rw[QA]at hl;exact hl
     ·unfold JD at h1;rw[h1]at h4;omega
     ·unfold JD at h1;rw[h1]at h4;omega
    ·cases h
  ·cases he
theorem JnG:∀(l:List (BA×Int))(d:List UInt8)(ys:List (BA×Int))(p:PS),(∀c∈l, -9223372036854775808<=c.2/\c.2<9223372036854775808)->PS.coins wj l (.wr d)=Z (ys,p)->(∀c∈l,Ji wj c)/\∃d',p=.wr d':=by
 intro l
 induction l with
 | nil=>
  intro d ys p _ h;simp only[PS.coins,Qh,Qw]at h;exact⟨λ_ h=>(QD h).elim,d,h.2.symm⟩
 | cons x r ih=>
  intro d ys p hr h;simp only[PS.coins]at h
  split at h
  ·cases h
  ·rename_i y p1 h1;obtain⟨k1,d1,rfl⟩:=Jo3 (hr x (by simp)).1 (hr x (by simp)).2 h1
   split at h
   ·cases h
   ·rename_i zs p2 h2;obtain⟨k2,d2,rfl⟩:=ih d1 zs p2 (λc hc=>hr c (by simp[hc])) h2;simp only[Qh,Qw]at h;exact⟨λc hc=>by rcases List.mem_cons.1 hc with rfl|hc;exact k1;exact k2 c hc,d2,h.2.symm⟩
theorem Jo4:∀(l:List (Nat×Nat))(d:List UInt8)(ys:List (Nat×Nat))(p:PS),PS.outs l (.wr d)=Z (ys,p)->∃d',p=.wr d':=by
 intro l
 induction l with
 | nil=>
  intro d ys p h;simp only[PS.outs,Qh,Qw]at h;exact⟨d,h.2.symm⟩
 | cons x r ih=>
  intro d ys p h;simp only[PS.outs]at h
  split at h
  ·cases h
  ·rename_i y p1 h1;obtain⟨d1,rfl⟩:∃d1,p1=.wr d1:=by
    unfold PS.out at h1
    split at h1
    ·cases h1
    ·rename_i a' q1 g1;obtain⟨_,_,e1,rfl⟩:=JcT g1
     split at h1
     ·cases h1
     ·rename_i b' q2 g2;obtain⟨_,_,e2,rfl⟩:=JcT g2;simp only[Qh,Qw]at h1;exact⟨_,h1.2.symm⟩
   split at h
   ·cases h
   ·rename_i zs p2 h2;obtain⟨d2,rfl⟩:=ih d1 zs p2 h2;simp only[Qh,Qw]at h;exact⟨d2,h.2.symm⟩
theorem Jih{least most:Nat}{l ys:List (Nat×Nat)}(h:(PS.wr d).listO least most l=Z (ys,p)):least<=l.length/\l.length<=most/\∃d',p=.wr d':=by
 unfold PS.listO at h
 split at h
 ·cases h
 ·rename_i cnt p1 h1;obtain⟨e1,_,d1,rfl⟩:=JcT h1
  split at h
  ·cases h
  ·rename_i h2;obtain⟨d2,rfl⟩:=Jo4 _ _ _ _ h;exact⟨by omega,by omega,d2,rfl⟩
def InR(t:TxL):Prop:=(∀c∈t.1, -9223372036854775808<=c.2/\c.2<9223372036854775808)/\∀o∈t.2,JC o
theorem JqP{t y:TxL}(hr:InR t)(h:(PS.wr d).tx wj t=Z (y,p)):TxOk wj t/\∃d',p=.wr d':=by
 unfold PS.tx at h
 split at h
 ·cases h
 ·rename_i ys p1 h1;unfold PS.listC at h1
  split at h1
  ·cases h1
  ·rename_i cnt q1 g1;obtain⟨e1,_,d1,rfl⟩:=JcT g1
   split at h1
   ·cases h1
   ·rename_i g2;have hs:Yy t.1 cnt=t.1:=(by unfold Yy;rw[if_neg];intro e;rw[e]at e1;simp at e1;omega);rw[hs]at h1;obtain⟨k1,d2,rfl⟩:=JnG _ _ _ _ hr.1 h1
    split at h
    ·cases h
    ·rename_i zs p2 h2;obtain⟨_,k2,d3,rfl⟩:=Jih h2;simp only[Qh,Qw]at h;exact⟨⟨k1,hr.2,by omega,by omega,k2⟩,d3,h.2.symm⟩
theorem Jqe:∀(l:List TxL)(d:List UInt8)(ys:List TxL)(p:PS),(∀t∈l,InR t)->PS.txs wj l (.wr d)=Z (ys,p)->∀t∈l,TxOk wj t:=by
 intro l
 induction l with
 | nil=>intro _ _ _ _ _ t h;exact(QD h).elim
 | cons x r ih=>
  intro d ys p hr h;simp only[PS.txs]at h
  split at h
  ·cases h
  ·rename_i y p1 h1;obtain⟨k1,d1,rfl⟩:=JqP (hr x (by simp)) h1
   split at h
   ·cases h
   ·rename_i zs p2 h2;have k2:=ih d1 zs p2 (λc hc=>hr c (by simp[hc])) h2;intro t ht
    rcases List.mem_cons.1 ht with rfl|ht
    ·exact k1
    ·exact k2 t ht
theorem Jjp{ts:List TxL}(hr:∀t∈ts,InR t)(h:mayB wj ts=false):(PS.wr []).body wj ts=Y:=by
 cases hb:(PS.wr []).body wj ts with
 | none=>rfl
 | some x=>
  exfalso;obtain⟨ys,p⟩:=x;unfold PS.body at hb
  split at hb
  ·cases hb
  ·rename_i cnt p1 h1;obtain⟨e1,_,d1,rfl⟩:=JcT h1
   split at hb
   ·cases hb
   ·rename_i h3;have hs:Zq ts cnt=ts:=by
     unfold Zq
     split
     ·rename_i e;rw[e]at e1;rw[e,e1];rfl
     ·rfl
    rw[hs]at hb;have:=(Jb2 wj ts (λt ht=>(hr t ht).2)).2 ⟨by omega,Jqe ts d1 ys p hr hb⟩;rw[h]at this
    cases this
theorem outsB?_no{l:List (Nat×Nat)}(h:¬(1<=l.length/\l.length<=3)):outsB? l=Y:=by
 unfold outsB?
 cases hq:(PS.wr []).listO 1 3 l with
 | none=>rfl
 | some r=>
  obtain⟨ys,p⟩:=r;obtain⟨h1,h2,_⟩:=Jih hq;exact absurd ⟨h1,h2⟩ h

theorem ZU(E:Nat->Addr)(n:Int)(w:aA)(hE:Env E w)(hn:¬(1<=n/\n<=32)):
  aB N 124 #[O I n] w λe w'=>(∃t u,e=aC (aJ t u)/\Jn E 7 w' (aJ t u))/\M D w w':=by
 have hf:=hE.form;have Hi:7<w.heap.size:=Qk (by decide) hE.size;clear hE
 by_cases h1:n<1
 ·clear hn;go_enter func124,ntmps124;go_wp2_with fail;refine(Xk _ _ _ _).mono ?_;rintro _ w1⟨rfl,rfl⟩;go_wp2;go_ret;exact⟨⟨_,_,rfl,.wrap _ _ _ (Qf _ _) .base⟩,Ta _ _ _⟩
 ·have h2:(32:Int)<n:=by omega
  clear hn;go_enter func124,ntmps124;go_wp2_with fail;refine(Xk _ _ _ _).mono ?_;rintro _ w1⟨rfl,rfl⟩;go_wp2;go_ret;exact⟨⟨_,_,rfl,.wrap _ _ _ (Qf _ _) .base⟩,Ta _ _ _⟩
theorem Jhu(E:Nat->Addr)(n:Int)(s:BA)(w:aA)(hF:Xx E base w)(hn:¬(1<=n/\n<=32)):
  aB N 73 #[O I n,L s] w λe w'=>e=aC (aI #[L ⟨#[]⟩,O I 1])/\M D w w':=by
 have HC:J (aB _ _ _ _ _):=ZU E n w hF.env hn;have HS:J (∀w',M D w w'->_):=λw' k=>hF.next k;go_enter func73,ntmps73;go_wp2_with fail;refine HC.o.mono ?_;rintro _ w1⟨⟨t,u,rfl,he⟩,ht⟩;have HT:J _:=ht;have HR:J (aB _ _ _ _ _):=Jae .form (HS w1 ht).1 (HS w1 ht).2 t u he;go_wp2_with fail;refine HR.o.mono ?_;rintro _ w2⟨rfl,H7⟩;have H4:J _:=H7;go_wp2;go_ret2;exact⟨rfl,HT.go H4⟩
theorem JmH(E:Nat->Addr)(n:Int)(s:BA)(w:aA)(hF:Xx E base w)(hs:s.size<1152921504606846976):
  aB N 73 #[O I n,L s] w λe w'=>M D w w'/\e=if 1<=n/\n<=32 then aC (aI #[L (dgW n.toNat s.data.toList),O I 0]) else aC (aI #[L ⟨#[]⟩,O I 1]):=by
 by_cases hn:1<=n/\n<=32
 ·rw[if_pos hn];obtain⟨m,rfl⟩:=lE (show 0<=n by omega);exact(Jki m s w (by omega) (by omega) hs (Qk (by decide) hF.env.size) hF.env.table).mono λe w' ⟨k1,k2⟩=>⟨(M.of_below k2).mono (λj hj=>aN hj),k1⟩
 ·rw[if_neg hn];exact(Jhu E n s w hF hn).mono λe w' k=>⟨k.2,k.1⟩
theorem JlT(E:Nat->Addr)(n:Int)(v:aG)(outs:List (Nat×Nat))(w:aA)(hE:Env E w)(hv:Jr w.heap.size w v outs)(hl:outs.length<1000000)(ho:∀o∈outs,JC o)(kX:¬(1<=n/\n<=32/\1<=outs.length/\outs.length<=3)):
  aB N 72 #[O I n,v] w λe w'=>(∃t u,e=aC (aI #[X Y,aJ t u])/\Jn E 7 w' (aJ t u))/\M D w w':=by
 by_cases hn:1<=n/\n<=32
 ·obtain⟨m,rfl⟩:=lE (show 0<=n by omega);have uj:J (aB N 124 #[O I (m:Int)] w λe w'=>e=aC aK/\w=w'):=Ym m w (by omega) (by omega);have yz:J (aB N 125 #[O I (m:Int),v] w λe w'=>M D w w'/\∃t u,e=aC (aI #[L ⟨#[]⟩,aJ t u])/\Jn E 7 w' (aJ t u)):=by
   have:=Jc0 E m (by omega) (by omega) _ outs w hE hv (by omega) (λx hx=>(ho x hx).2);rw[outsB?_no (by omega)]at this;exact this
  obtain⟨ia,ic,Hx⟩:=hv.shape;subst Hx;go_enter func72,ntmps72;go_wp2_with fail;refine uj.o.mono ?_;rintro _ _⟨rfl,rfl⟩;go_wp2_with fail;refine yz.mono ?_;rintro _ w1⟨(HT:J _),t,u,rfl,(HE:J _)⟩;clear yz;go_wp2;go_ret2;exact⟨⟨t,u,rfl,HE⟩,HT⟩
 ·have HC:J (aB _ _ _ _ _):=ZU E n w hE hn;obtain⟨ia,ic,Hx⟩:=hv.shape;subst Hx;go_enter func72,ntmps72;go_wp2_with fail;refine HC.o.mono ?_;rintro _ w1⟨⟨t,u,rfl,he⟩,ht⟩;have HT:J _:=ht;have HE:J _:=he;go_wp2;go_ret2;exact⟨⟨t,u,rfl,HE⟩,HT⟩
theorem JmI(E:Nat->Addr)(n:Int)(v:aG)(outs:List (Nat×Nat))(w:aA)(hF:Xx E base w)(hv:Jr w.heap.size w v outs)(hl:outs.length<1000000)(ho:∀o∈outs,JC o)(kX:¬(1<=n/\n<=32/\1<=outs.length/\outs.length<=3)):
  aB N 37 #[O I n,v] w λe w'=>e=aC (aI #[X Y,O I 1])/\M D w w':=by
 have HC:J (aB _ _ _ _ _):=JlT E n v outs w hF.env hv hl ho kX;have HS:J (∀w',M D w w'->_):=λw' k=>hF.next k;obtain⟨ia,ic,Hx⟩:=hv.shape;subst Hx;go_enter func37,ntmps37;go_wp2_with fail;refine HC.o.mono ?_;rintro _ w1⟨⟨t,u,rfl,he⟩,ht⟩;have HT:J _:=ht;have HR:J (aB _ _ _ _ _):=Jae .form (HS w1 ht).1 (HS w1 ht).2 t u he;go_wp2_with fail;refine HR.o.mono ?_;rintro _ w2⟨rfl,H7⟩;have H4:J _:=H7;go_wp2;go_ret2;exact⟨rfl,HT.go H4⟩

def XQ(wj:Nat)(ch:Ch)(ts:List TxL):BA×Int:=
 if mayB wj ts=true then match JH (dgW wj) ch.last.2 ts with
  | .ok st=>(⟨(Jar (dgW wj) ch ts st).toArray⟩,0)
  | .error er=>(⟨#[]⟩,Xr er)
 else (⟨#[]⟩,1)
theorem JpU(hD:DgC)(Hf:1<=wj)(hw:wj<=32)(h:RfAt wj base w rb G ch vL lv b)(hl:ch.length<=10000000)(B:Nat)(v:aG)(ts:List TxL)(sl:List (Sl×Sl))(hv:TxsR B w v sl)(hs:TxIs B w ts sl)(jh:ts.length<=1000000000)(hc:∀t∈ts,t.1.length<=1000000000/\t.2.length<=1000000000/\∀c∈t.1,c.1.size<=9223372036854775807)(be:∀t∈ts,∀o∈t.2,JC o):
  aB N 180 #[X (Z ⟨rb,0,Y⟩),v] w λe w'=>e=aC (aI #[L (XQ wj ch ts).1,O I (XQ wj ch ts).2])/\M D w w':=by
 have h1:=h.len.2;have Hd:lv ≠ []:=λe=>by have:=h.len;rw[e]at this;simp at this;omega
 obtain⟨g,cap,vO,hg,_⟩:=h.lvs.at Hd;rw[h.len.1]at vO;subst vO;have qA:J (∀V,M D w V->_):=λV hV=>h.tch hV (λ_ e=>e.elim);have kR:J (∀V,M D w V->TxsR B V v sl/\TxIs B V ts sl):=λV hV=>⟨hv.tch hV (λ_ e=>e.elim),hs.1,λi h1 h2=>⟨(hs.2 i h1 h2).1.tch hV (λ_ e=>e.elim),(hs.2 i h1 h2).2.tch hV (λ_ e=>e.elim)⟩⟩
 have bg:J (∀V,M D w V->_):=λV hV=>JqC wj B v ts sl V (kR V hV).1 (kR V hV).2 jh hc;have HP:J (∀V,M D w V->V.cell? ⟨rb,0,Y⟩=Z (O I (wj:Int))/\V.cell? ⟨rb,1,Y⟩=Z (R (Z ⟨g,0,Y⟩) ch.length cap)):=λV hV=>by
  have hr:=(qA V hV).row;exact⟨Ja hr,Ja hr⟩
 have HMI:J _:=(Jb2 wj ts be).1;obtain⟨va,vc,qx⟩:=hv.shape;subst qx;obtain⟨z0,z1⟩:=HP w (Te _ _)
 cases hmy:mayB wj ts with
 | false=>
  have HR:J ((XQ wj ch ts).1=⟨#[]⟩/\(XQ wj ch ts).2=1):=by unfold XQ;rw[hmy];exact⟨rfl,rfl⟩
  rw[hmy]at bg;generalize (XQ wj ch ts).1=r1 at *;generalize (XQ wj ch ts).2=r2 at *;go_enter func180,ntmps180;go_wp2_with (go_at_call 266;refine(bg _ (Te _ _)).mono ?_;rintro _ w1⟨rfl,(H3:J _)⟩);go_ret2;exact⟨by rw[HR.o.1,HR.o.2];rfl,H3⟩
 | true=>
  obtain⟨h3,ho⟩:=HMI hmy;have rZ:J (∀V,M D w V->_):=λV hV=>JjO hD Hf hw (qA V hV) hl B _ ts sl h3 ho (kR V hV).1 (kR V hV).2;rw[hmy]at bg
  cases hap:JH (dgW wj) ch.last.2 ts with
  | error er=>
   have HR:J ((XQ wj ch ts).1=⟨#[]⟩/\(XQ wj ch ts).2=Xr er):=(by unfold XQ;rw[if_pos hmy,hap];exact⟨rfl,rfl⟩);have yJ:J (∀V,M D w V->aB N 173 #[X (Z ⟨rb,0,Y⟩),R va sl.length vc] V λe w'=>e=aC (aI #[aH #[L ⟨#[]⟩,L ⟨#[]⟩,L ⟨#[]⟩,R Y 0 0],O I (Xr er)])/\M D V w'):=λV hV=>(rZ V hV).mono (by
    rintro e w'⟨h1,h2⟩;rw[hap]at h2;exact⟨h2,h1⟩)
   have Hd:¬Xr er=0:=(by cases er<;>decide);generalize (XQ wj ch ts).1=r1 at *;generalize (XQ wj ch ts).2=r2 at *;go_enter func180,ntmps180;go_wp2_with (first|(go_at_call 266;refine(bg _ (Te _ _)).mono ?_;rintro _ w1⟨rfl,(H3:J _)⟩)|(go_at_call 173;refine(yJ _ (by first|exact H3|exact H3.trans (Ta _ _ _) (λ_ h=>aM h))).mono ?_;rintro _ w2⟨rfl,(H4:J _)⟩));go_ret2;exact⟨by rw[HR.o.1,HR.o.2];rfl,(H3.trans H4 (λ_ h=>aM h)).trans (Ta D _ _) (λ_ h=>aM h)⟩
  | ok st=>
   have HR:J ((XQ wj ch ts).1=⟨(Jar (dgW wj) ch ts st).toArray⟩/\(XQ wj ch ts).2=0):=(by unfold XQ;rw[if_pos hmy,hap];exact⟨rfl,rfl⟩);have yJ:J (∀V,M D w V->aB N 173 #[X (Z ⟨rb,0,Y⟩),R va sl.length vc] V λe w'=>∃(D1 D2 D3:BA)(s:Sl),e=aC (aI #[aH #[L D1,L D2,L D3,R s.1 s.2.1 s.2.2],O I 0])/\(D1=dgW wj (72::ch.last.1.data.toList)/\D2=dgW wj (66::JL ts)/\D3=Xh (dgW wj) st)/\M D V w'):=λV hV=>(rZ V hV).mono (by
    rintro e w'⟨h1,h2⟩;rw[hap]at h2;obtain⟨s,l,he,_⟩:=h2;exact⟨_,_,_,s,he,⟨rfl,rfl,rfl⟩,h1⟩)
   have xY:J (∀V,M D w V->_):=λV hV=>Jd8 wj hw B _ ts sl h3 ho V (kR V hV).1 (kR V hV).2;have yH:J (∀V,_):=λV=>XU ch.length 4 V (by omega);have yq:IntKind.u64.wrap (ch.length:Int)=(ch.length:Int):=(by simp[lV,lW,lM];omega);have cH:=Je7 wj hw ts ho h3;have vK:=Xw (dgW wj) wj (λl=>Jj wj hw l) st;have HFN:J (∀D1 D2 D3:BA,D1=dgW wj (72::ch.last.1.data.toList)/\D2=dgW wj (66::JL ts)/\D3=Xh (dgW wj) st->((⟨(beL ch.length 4 4).toArray⟩:BA)++D1++D2++D3++⟨(JL ts).toArray⟩=⟨(Jar (dgW wj) ch ts st).toArray⟩)/\D1.size=wj/\D2.size=wj/\D3.size=wj):=(by rintro D1 D2 D3⟨rfl,rfl,rfl⟩;refine⟨Jb9 ?_,Jj wj hw _,Jj wj hw _,vK⟩;simp[Jar,Hn,Jbr]);have HXS:J ((⟨(beL ch.length 4 4).toArray⟩:BA).size=4/\(⟨(JL ts).toArray⟩:BA).size<=601):=⟨by rw[Jh,Jf],by rw[Jh];exact cH⟩
   generalize (⟨(Jar (dgW wj) ch ts st).toArray⟩:BA)=BB at *;generalize (⟨(beL ch.length 4 4).toArray⟩:BA)=X0 at *;generalize (⟨(JL ts).toArray⟩:BA)=X5 at *;generalize (XQ wj ch ts).1=r1 at *;generalize (XQ wj ch ts).2=r2 at *;go_enter func180,ntmps180;go_wp2_with (first|(go_at_call 266;refine(bg _ (Te _ _)).mono ?_;rintro _ w1⟨rfl,(H3:J _)⟩)|(go_at_call 173;refine(yJ _ H3).mono ?_;rintro _ w2⟨D1,D2,D3,s,rfl,(HDD:J _),H7⟩;have H4:J _:=H3.trans H7 (λ_ h=>aM h);clear H7));obtain⟨wA,gH⟩:∃wA,wA=w2.alloc (T #[L D1,L D2,L D3,R s.1 s.2.1 s.2.2] 205):=⟨_,rfl⟩
   have Hz:J (M D w wA):=(by rw[gH];exact H4.trans (Ta D _ _) (λ_ h=>aM h));have zm:J (wA.heap[w2.heap.size]? =Z (T #[L D1,L D2,L D3,R s.1 s.2.1 s.2.2] 205)):=(by rw[gH];exact Qf _ _);rw[<-gH];clear gH z0 z1;generalize w2.heap.size=xb at *;have kF:J (∀V,M D wA V->V.cell? ⟨rb,1,Y⟩=Z (R (Z ⟨g,0,Y⟩) ch.length cap)/\V.cell? ⟨xb,0,Y⟩=Z (L D1)/\V.cell? ⟨xb,1,Y⟩=Z (L D2)/\V.cell? ⟨xb,2,Y⟩=Z (L D3)):=λV hV=>by
    have hr:=(hV.block _ (Jb zm.o) (λh=>h)).trans zm.o;exact⟨(HP V (Hz.trans hV (λ_ h=>aM h))).2,Ja hr,Ja hr,Ja hr⟩
   obtain⟨hfn,d1,d2,d3⟩:=HFN D1 D2 D3 HDD.o;obtain⟨x0s,x5s⟩:=HXS.o;have a1:∀W,_:=λW=>run_string_add_sum (P:=N) W X0 D1 (by omega);have a2:∀W,(Op.stringOp .add (X0++D1) D2).run N W=.ok (L (X0++D1++D2)) W:=λW=>run_string_add_sum (P:=N) W _ D2 (by rw[lC];omega);have a3:∀W,(Op.stringOp .add (X0++D1++D2) D3).run N W=.ok (L (X0++D1++D2++D3)) W:=λW=>run_string_add_sum (P:=N) W _ D3 (by rw[lC,lC];omega);have a4:∀W,(Op.stringOp .add (X0++D1++D2++D3) X5).run N W=.ok (L (X0++D1++D2++D3++X5)) W:=λW=>run_string_add_sum (P:=N) W _ X5 (by rw[lC,lC,lC];omega);rw[hfn]at a4;generalize X0++D1++D2++D3=X4 at *;generalize X0++D1++D2=X3 at *;generalize X0++D1=X2 at *;obtain⟨z1,b0,b1,b2⟩:=kF wA (Te _ _);go_region_held3 (λV=>V.cell? ⟨rb,1,Y⟩=Z (R (Z ⟨g,0,Y⟩) ch.length cap)/\V.cell? ⟨xb,0,Y⟩=Z (L D1)/\V.cell? ⟨xb,1,Y⟩=Z (L D2)/\V.cell? ⟨xb,2,Y⟩=Z (L D3)) (go_keep) ((first
    | (go_at_call 171;refine(yH _).mono ?_;rintro _ w4⟨rfl,Ho⟩;have He:J _:=(Td D wA 1).trans Ho (λ_ h=>aM h);obtain⟨y1,c0,c1,c2⟩:=kF w4 He.o)
    | (go_at_call 256;refine(xY _ (Hz.trans He (λ_ h=>aM h))).mono ?_;rintro _ w5⟨rfl,kI⟩;have Hu:J _:=He.trans kI (λ_ h=>aM h);obtain⟨x1,e0,e1,e2⟩:=kF w5 Hu.o)))
   all_goals go_wp2;go_ret2;exact⟨by rw[HR.o.1,HR.o.2];rfl,Hz.trans Hu (λ_ h=>aM h)⟩

theorem Jkc(E:Nat->Addr)(hE:Env E w){r:Nat}(hw:wj<=32){bs:List BV}{lv:aG}(h:JR w cb wj fl r bs lv)(v:aG)(l:List (Sl×Sl))(ts:List TxL)(hv:Xa w.heap.size w v l)(hl:l.length=ts.length)(ku:∀(j:Nat) x t,l[j]? =Z x->ts[j]? =Z t->JG w.heap.size w (R x.1.1 x.1.2.1 x.1.2.2) t.1/\Jr w.heap.size w (R x.2.1 x.2.2.1 x.2.2.2) t.2)
 (vP:ts.length<1000000) (yK:∀t∈ts,t.1.length<1000000/\t.2.length<1000000) (hr:∀t∈ts,InR t) (kX:mayB wj ts=false):
  aB N 45 #[X (Z ⟨cb,0,Y⟩),v] w λe w'=>M D w w'/\∃t u,e=aC (aI #[L ⟨#[]⟩,aJ t u])/\Jn E (erG .form) w' (aJ t u):=by
 have Hi:=hE.size;have yi:J (∀W,M D w W->Jd W w.heap.size Y (wj:Int) aK (.wr [])->aB N 78 #[X (Z ⟨w.heap.size,0,Y⟩),v] W λe w'=>ToB E W w.heap.size Y wj Y e w'):=λW hT hp=>by
  have:=JdE E w.heap.size Hi Y wj hw v l ts (.wr []) W (hE.tch hT noE) hp (hv.tch hT noE) hl vP (XS _ _) (λj x t h1 h2=>by
   obtain⟨k1,k2⟩:=ku j x t h1 h2;have ht:=QT h2;exact⟨k1.tch hT noE,k2.tch hT noE,(yK t ht).1,(yK t ht).2,XS _ _,XS _ _,λo ho=>((hr t ht).2 o ho).2⟩) (by show 0<=_;omega)
  rw[Jjp hr kX]at this;exact this
 obtain⟨c0, -⟩:=rows h.row;have gC:J (∀W',M D w W'->W'.cell? ⟨cb,0,Y⟩=Z (O I (wj:Int))):=λW' hT=>Ja (h.next hT).row;obtain⟨ia,ic,Hx⟩:=hv.shape;clear hE h hv ku hr kX yK hl vP Hi;subst Hx;go_enter func45,ntmps45;go_wp2_with fail;refine(JY _ _).mono ?_;rintro _ w1⟨rfl,(Hq:J _),(H3:J _)⟩;clear c0;go_wp2_with fail;refine(yi w1 H3 Hq).mono ?_;rintro _ w2⟨x2,g2,rfl,(Hw:J _),nq,H7,_⟩;have H4:J _:=XD (b:=w.heap.size) (Ql _) H3 H7;clear H7 Hq H3 nq yi;go_wp2_with fail;refine(Jap E w.heap.size g2 wj Y (λp hp=>by cases hp) w2 Hw).mono ?_;rintro _ w3⟨Hm,t,u,rfl,(HE:J _)⟩;have H8:J _:=H4.go Hm;clear Hm Hw H4;go_wp2_with fail;refine(Xk _ _ _ _).mono ?_;rintro _ w4⟨rfl,rfl⟩;go_wp2;go_ret2;exact⟨H8.go (Ta _ _ _),_,_,rfl,.wrap _ _ _ (Qf _ _) (HE.next (Ta _ _ _))⟩
theorem JkB(E:Nat->Addr)(wj base:Nat)(v:aG)(ts:List TxL)(hA:LAt wj base pn w lb F fl ch)(hF:Xx E base w)(hv:Jlx w v ts)(hc:ch.length<2 ^ 27)
 (vP:ts.length<1000000) (yK:∀t∈ts,t.1.length<1000000/\t.2.length<1000000) (hr:∀t∈ts,InR t):
  aB N 18 #[X (Z ⟨lb,0,Y⟩),v] w λe w'=>M D w w'/\e=aC (aI #[L (XQ wj ch ts).1,O I (XQ wj ch ts).2]):=by
 by_cases hm:mayB wj ts=true
 ·obtain⟨h3,qH⟩:=(Jb2 wj ts (λt ht=>(hr t ht).2)).1 hm;have hp:1<=ch.length:=by obtain⟨_,lg,cb,r,bs,lv,C⟩:=hA;have:=C.pos;omega
  refine(JkC E wj base v ts hA hF hv qH h3 hc).mono λe w' k=>⟨k.1,?_⟩
  have k2:=k.2;rw[JjX (dgW wj) wj (Jj wj hA.1.2) ch (by omega) ts qH h3]at k2;unfold XQ;rw[if_pos hm]
  cases ha:JH (dgW wj) ch.last.2 ts with
  | error er=>rw[ha]at k2;exact k2
  | ok st'=>rw[ha]at k2;exact k2
 ·have kX:mayB wj ts=false:=by simpa using hm
  obtain⟨⟨Hf,hw⟩,lg,cb,r,bs,lv,C⟩:=hA;have hl:=rows C.led;obtain⟨l,k1,k2,k3⟩:=hv;obtain⟨ia,ic,Hx⟩:=k1.shape;have H:=Jkc E hF.env hw C.row v l ts k1 k2 k3 vP yK hr kX;subst Hx;refine(Jfe (λw' k=>hF.next k) .form hl _ _ _ H).mono λe w' k=>⟨k.1,?_⟩
  rw[k.2];unfold XQ;rw[if_neg hm];rfl

def zB(n:Nat):Array aG:=(List.replicate n (Value.int aE 0)).toArray
theorem Jmw(n:Nat)(hn:n<=1000)(w:aA):(Instr.makeSlice 52 (O I (n:Int)) (O I (n:Int))).run N w=.ok (R (Z ⟨w.heap.size,0,Y⟩) n n) (w.alloc (T (zB n) 5)):=by
 obtain⟨i0,hi,q9,gQ,jj⟩:=info_parts JbZ;have:=run_make (P:=N) w 52 5 i0 _ underlying52 hi q9 I I (n:Int) (n:Int) (by omega) (by omega) (by rw[jj];omega) (by omega);rw[this,gQ];have e:madeCells (Value.int aE 0).cells ((n:Int).toNat*1)=zB n:=by
  unfold madeCells zB;apply Array.ext
  ·simp
  ·intro i h1 h2;simp[Value.cells,Nat.mod_one]
 rw[e,lQ]
theorem JlY(n:Nat)(w:aA)(g:Nat)(hg:w.heap[g]? =Z (T (zB n) 5)):(convert 52 9 (R (Z ⟨g,0,Y⟩) n n)).run N w=.ok (L (Zg n)) w:=by
 have:=run_convert_bytes_back (P:=N) w 52 9 5 ⟨g,0,Y⟩ n (List.replicate n 0) underlying52 underlying5 underlying9 (λj hj=>by
  rw[Addr.add_lit,Nat.zero_add,Ja hg];have qn:j<n:=by simpa using hj
  simp[zB,qn])
 rw[lF]at this;exact this
def RNew(wj base:Nat)(outs:List (Nat×Nat))(st:Option Tr)(w:aA)(e:Ending)(w':aA):Prop:=
 M D w w'/\∃rb G vL lv b,e=aC (aI #[X (Z ⟨rb,0,Y⟩),O I 0])/\RfAt wj base w' rb G [(⟨(Hn (Yh wj outs st)).toArray⟩,st)] vL lv b/\∀j,G j->w.heap.size<=j
theorem JmQ(n:Int)(v:aG)(outs:List (Nat×Nat))(B:Nat)(w:aA)(h:Yz B w v outs)(hl:outs.length<=1000000000)(kX:¬(1<=n/\n<=32/\1<=outs.length/\outs.length<=3)):
  aB N 63 #[O I n,v] w λe w'=>e=aC (aI #[X Y,O I 1])/\M D w w':=by
 obtain⟨a,c,rfl⟩:=h.shape;clear h
 by_cases c1:n<1
 ·clear kX;go_enter func63,ntmps63;go_wp2;go_ret2;exact⟨rfl,Te _ _⟩
 ·by_cases c2:32<n
  ·clear kX;go_enter func63,ntmps63;go_wp2;go_ret2;exact⟨rfl,Te _ _⟩
  ·by_cases c3:outs.length<1
   ·have c3i:(outs.length:Int)<1:=(by omega);clear kX c3;go_enter func63,ntmps63;go_wp2;go_ret2;exact⟨rfl,Te _ _⟩
   ·have c4i:3<(outs.length:Int):=(by omega);have c3i:¬(outs.length:Int)<1:=(by omega);clear kX c3;go_enter func63,ntmps63;go_wp2;go_ret2;exact⟨rfl,Te _ _⟩
theorem JqA(hD:DgC)(wj:Nat)(Hf:1<=wj)(hw:wj<=32)(v:aG)(outs:List (Nat×Nat))(ho:∀o∈outs,JC o)(h1:1<=outs.length)(h3:outs.length<=3)(B:Nat)(w:aA)(hv:Yz B w v outs)(base:Nat)(Ha:base<=w.heap.size)(st:Option Tr)(qt:Jz (dgW wj (71::Jy outs)) 0 outs Y=.ok st):
  aB N 63 #[O I (wj:Int),v] w (RNew wj base outs st w):=by
 have zo:J (∀V,M D w V->_):=λV hV=>Jec B v outs h3 ho V (hv.tch hV noE);obtain⟨id,(zI:J _)⟩:∃id,dgW wj (71::Jy outs)=id:=⟨_,rfl⟩
 have zH:id.size=wj:=by rw[<-zI];exact Jj wj hw _
 have cI:J _:=Jiw wj outs ho h3 id zH st (by rw[<-zI];exact qt);have zj:=JiG outs h3;have gd:J (∀V,aB N 103 #[O I (wj:Int),L ⟨(71::Jy outs).toArray⟩] V λe w'=>e=aC (L id)/\M D V w'):=λV=>by
  have:=hD wj ⟨(71::Jy outs).toArray⟩ V Hf hw (by rw[Jh,Qp];omega);rw[show (⟨(71::Jy outs).toArray⟩:BA).data.toList=71::Jy outs from rfl,zI]at this;exact this
 have a1:=JO [71] (Jy outs) (by simp;omega);have a1':∀W,(Op.stringOp .add (⟨#[71]⟩:BA) ⟨(Jy outs).toArray⟩).run N W=.ok (L ⟨(71::Jy outs).toArray⟩) W:=a1;have r9:J _:=zH;have HO:J _:=ho;have HV:J _:=hv;obtain⟨va,vc,qx⟩:=hv.shape;subst qx;have c1:¬(wj:Int)<1:=by omega
 have c2:¬32<(wj:Int):=by omega
 have c3:¬(outs.length:Int)<1:=by omega
 have c4:¬3<(outs.length:Int):=by omega
 clear a1 zH ho hv qt;generalize (⟨(71::Jy outs).toArray⟩:BA)=XG at *;generalize mG:(⟨(Jy outs).toArray⟩:BA)=X0 at *;have cJ:J (_=X0):=mG;clear mG;go_enter func63,ntmps63;go_wp2_with (first|(go_at_call 104;refine(zo _ (Te _ _)).mono ?_;rintro _ w1⟨rfl,H6⟩;have H3:J (M D w w1):=H6;clear H6)|(go_at_call 103;refine(gd _).mono ?_;rintro _ wA⟨rfl,H7⟩;have Hz:J (M D w wA):=H3.trans H7 (λ_ h=>aM h);clear H7));go_loopw [7,8] (λvn i wr=>∃k:Nat,k<=outs.length/\i=O I k/\J (ROwn w.heap.size wr vn (XK id outs k))/\J (M D w wr)) (λ_ i _=>outs.length-(intOf i).toNat)
 case atStart=>exact⟨0,by omega,rfl,ROwn.nil _ _,Hz⟩
 case round=>
  obtain⟨k,hk,rfl,kQ,HT⟩:=hrel;have HFL:J ((XK id outs k).length=k):=by show List.length _=k;simp[XK]
  by_cases H5:k<outs.length
  ·rcases HV with⟨e,e2⟩|⟨gi,oi,cc,e,_,kV,Hg⟩
   ·rw[e2]at H5;simp at H5
   simp only[Qy,true_and]at e;obtain⟨rfl,rfl⟩:=e;obtain⟨f0,f1⟩:=Hg k H5;have kT:(k:Int)<(outs.length:Int):=(by omega);obtain⟨⟨oa,oo⟩,hoe⟩:∃o,outs[k]=o:=⟨_,rfl⟩
   rw[hoe]at f0 f1;have HFS:J (XK id outs (k+1)=XK id outs k++[((id,(k:Int)),(oa,oo))]):=by show XK id outs (k+1)=_;rw[Jc1,Qn,Qd H5,hoe];rfl
   have ju:Ji wj (id,(k:Int)):=⟨r9,by omega,by show (k:Int)<3;omega⟩
   have jU:J (∀V,aB N 105 #[aH #[L id,O I (k:Int)]] V λe w'=>e=aC (L (keyS (id,(k:Int))))/\M D V w'):=λV=>Za (id,(k:Int)) V ju.2.1 (by have:=ju.2.2;omega) (by rw[ju.1];omega);have kN:J (∀V,M (λj=>w.heap.size<=j) w V->V.cell? ⟨gi,oi+k*2,Y⟩=Z (O aD (oa:Int))/\V.cell? ⟨gi,oi+k*2+1,Y⟩=Z (O aE (oo:Int))):=λV hV=>⟨(hV.cell (p:=⟨gi,oi+k*2,Y⟩) kV (λh=>absurd h (Nat.not_le.2 kV))).trans f0,(hV.cell (p:=⟨gi,oi+k*2+1,Y⟩) kV (λh=>absurd h (Nat.not_le.2 kV))).trans f1⟩
   have mH:J (∀W:aA,RhAt (W.alloc (T #[L (keyS (id,(k:Int))),O aD (oa:Int),O aE (oo:Int)] 202)) (R (Z ⟨W.heap.size,0,Y⟩) 1 1) [((id,(k:Int)),(oa,oo))]):=λW=>JiY W ((id,(k:Int)),(oa,oo));obtain⟨na,nm,nc,uF⟩:∃na nm nc,u7=R na nm nc:=(by obtain⟨a,c,e⟩:=kQ.shape;exact⟨_,_,_,e⟩);subst uF;obtain⟨q0,q1⟩:=kN wr (HT.mono noE);clear Hg f0 f1 ju hoe;generalize keyS (id,(k:Int))=ks at *;go_upto_region 8 with fail;go_region_held3 (λV=>V.cell? ⟨gi,oi+k*2,Y⟩=Z (O aD (oa:Int))/\V.cell? ⟨gi,oi+k*2+1,Y⟩=Z (O aE (oo:Int))) (go_keep) ((first
     | (go_at_call 105;refine(jU _).mono ?_;rintro _ w1⟨rfl,H6⟩;have H3:J (M D wr w1):=(Td D wr 1).trans H6 (λ_ h=>aM h);have y:=kN w1 ((HT.trans H3 (λ_ h=>aM h)).mono noE);obtain⟨y0,y1⟩:=y;clear H6)
     | (refine JeE rfl _ _ rfl rfl (kQ.tch (H3.trans (Ta D w1 _) (λ_ h=>aM h)) (λ_ _ h=>h)) _ [((id,(k:Int)),(oa,oo))] rfl (mH w1) (by rw[HFL.o];simp;omega) (Qm HT.size (Qm H3.size (Ta D w1 _).size)) ?_;intro v3 w3 kM xt;have gS:J (ROwn _ w3 v3 _):=kM;have H8:J (M D w w3):=(kQ.tch (H3.trans (Ta D w1 _) (λ_ h=>aM h)) (λ_ _ h=>h)).grow xt (Ql _) (HT.trans (H3.trans (Ta D w1 _) (λ_ h=>aM h)) (λ_ h=>aM h));have y3:=kN w3 (H8.mono noE);obtain⟨y4,y5⟩:=y3;clear kM xt)))
   all_goals
    go_wp2;go_roundw
    case rel=>exact⟨k+1,by omega,by go_num,by rw[HFS.o];exact gS,H8⟩
    case measure=>simp[intOf];omega
  ·obtain rfl:k=outs.length:=(by omega);have gI:¬(outs.length:Int)<(outs.length:Int):=(by omega);have jp:=Jmw wj (by omega) wr;obtain⟨wZ,hwZ⟩:∃wZ,wZ=wr.alloc (T (zB wj) 5):=⟨_,rfl⟩
   rw[<-hwZ]at jp;have bi:=JlY wj wZ wr.heap.size (by rw[hwZ];exact Qf _ _);have bj:=xu hwZ;clear hwZ;obtain⟨na,nc,uF⟩:=kQ.shape;rw[HFL.o]at uF;subst uF;have um:J (∀V,M D wr V->aB N 106 #[O I (wj:Int),R na outs.length nc] V λe w'=>∃S,e=aC (L S)/\(dgW wj S.data.toList=Xh (dgW wj) st/\S.size<=1000)/\M D V w'):=λV hV=>(JiR hD wj Hf hw (XK id outs outs.length).length (XK id outs outs.length) V _ (Ql _) cI.ok cI.nodup (kQ.at.tch0 hV) (by rw[HFL.o];omega)).mono (by
    rintro e w'⟨s,he,hr,ht⟩;refine⟨⟨s.toArray⟩,he,⟨?_,by rw[Jh];exact hr.rlen hw (λx hx=>(cI.ok x hx).1)⟩,ht⟩;rw[Jev,<-JcO cI.o hr])
   have bl:J (∀(S:BA)(V:aA),S.size<=1000->aB N 103 #[O I (wj:Int),L S] V λe w'=>∃aV,e=aC (L aV)/\aV=dgW wj S.data.toList/\M D V w'):=λS V hs=>(hD wj S V Hf hw (by omega)).mono (by rintro _ _⟨rfl,h⟩;exact⟨_,rfl,rfl,h⟩);have vQ:IntKind.u8.wrap (wj:Int)=(wj:Int):=(by simp[lV,lW,lM];omega);go_wp2_with (first
    | (go_at_call 106;refine(um _ bj).mono ?_;rintro _ w5⟨S,rfl,uX,kI⟩;have yC:J (_/\_):=uX;have Hu:J (M D wr w5):=bj.trans kI (λ_ h=>aM h);clear kI uX)
    | (go_at_call 103;refine(bl S _ yC.2).mono ?_;rintro _ w6⟨aV,rfl,hd6,gV⟩;have HD6:J (aV=_):=hd6;have k8:J (M D wr w6):=Hu.trans gV (λ_ h=>aM h);clear gV hd6))
   obtain⟨wB,xq⟩:∃wB,wB=(w6.alloc (T #[L (Zg wj),L id,L aV,R na outs.length nc] 205)).alloc (T #[O I (wj:Int),R (Z ⟨w6.heap.size,0,Y⟩) 1 1,O I 0,L ⟨#[]⟩] 208):=⟨_,rfl⟩
   have gE:J (M D wr wB):=(by rw[xq];exact(k8.trans (Ta D _ _) (λ_ h=>aM h)).trans (Ta D _ _) (λ_ h=>aM h));have sZ:=hnn xq;have mF:J (wB.heap[w6.heap.size]? =Z (T #[L (Zg wj),L id,L aV,R na outs.length nc] 205)):=(by rw[xq];exact heap_alloc2_old _ _ _);rw[<-xq];clear xq jp bi;have bL:J (wr.heap.size<=w6.heap.size):=k8.size;generalize w6.heap.size=lb at *;obtain⟨rb,cK⟩:∃rb,rb=lb+1:=⟨_,rfl⟩
   rw[<-cK]at sZ;rw[<-cK];have HRBE:J (rb=lb+1):=cK;clear cK;have gJ:=λW=>JiC wj W (by omega);have zJ:=Jb0 wj (wB.alloc (T #[O aE (wj:Int)] 5)).drew wB.heap.size (by omega) (cell_of_row (wB.alloc _) _ _ _ _ _ (Qf _ _));have gW:=JO [lG wj] (Jy outs) (by simp;omega);have un:∀W,(Op.stringOp .add (⟨#[lG wj]⟩:BA) X0).run N W=.ok (L ⟨([lG wj]++Jy outs).toArray⟩) W:=(by rw[<-cJ.o];exact gW);have s5:J (∀V:aA,V.heap[rb]? =Z (T #[O I (wj:Int),R (Z ⟨lb,0,Y⟩) 1 1,O I 0,L ⟨#[]⟩] 208)->aB N 107 #[X (Z ⟨rb,0,Y⟩),L ⟨#[71]⟩,L ⟨([lG wj]++Jy outs).toArray⟩] V λe w'=>e=aC (aI #[])/\M (λj=>j=rb) V w'/\∃aW:BA,aW.size<=1000/\w'.heap[rb]? =Z (T #[O I (wj:Int),R (Z ⟨lb,0,Y⟩) 1 1,O I 0,L aW] 208)):=λV hV=>by
    refine(JjP hD [71] ([lG wj]++Jy outs) rfl (by simp;omega) V rb _ _ _ ⟨#[]⟩ (by decide) hV).mono ?_;rintro _ w'⟨rfl,h2,h3⟩;refine⟨rfl,h2,_,?_,h3⟩;have e1:(⟨(recB [71] ([lG wj]++Jy outs)).toArray⟩:BA).size=7+([lG wj]++Jy outs).length:=(by rw[Jh,Jei [71] _ rfl]);rw[lC,e1];show 0+_<=1000;simp;omega
   clear gW;generalize (⟨([lG wj]++Jy outs).toArray⟩:BA)=XC at *;have HOB:J (∀V,M D wB V->aB N 104 #[R va outs.length vc] V λe w'=>e=aC (L X0)/\M D V w'):=λV hV=>zo V ((HT.trans gE (λ_ h=>aM h)).trans hV (λ_ h=>aM h));have gK:J (∀V w8:aA,M D wB V->M (λj=>j=rb) V w8->(∃aW:BA,aW.size<=1000/\w8.heap[rb]? =Z (T #[O I (wj:Int),R (Z ⟨lb,0,Y⟩) 1 1,O I 0,L aW] 208))->RNew wj base outs st w (aC (aI #[X (Z ⟨rb,0,Y⟩),O I 0])) w8):=by
    rintro V w8 hV h8⟨aW,hR,hZ⟩;have Hi:w.heap.size<=wr.heap.size:=HT.size;have hg6:=bL.o;have hre:=HRBE.o;have h08:M (λj=>j=rb) wB w8:=(hV.mono noE).trans h8 (λ_ h=>aM h);refine⟨(HT.trans gE (λ_ h=>aM h)).trans h08 (λx hx=>aN (by omega)),rb,λj=>j=rb\/j=lb\/(Value.slice na outs.length nc).ownBlock=Z j,R (Z ⟨lb,0,Y⟩) 1 1,[((Zg wj,id,aV),(na,outs.length,nc))],aW,rfl,?_,?_⟩
    ·have mI:=(h08.block lb (Jb mF.o) (λe=>by omega)).trans mF.o;have hD3:aV=Xh (dgW wj) st:=(by rw[HD6.o];exact yC.1);refine⟨hZ,⟨rfl,aN ⟨lb,1,_,rfl,by omega,mI,Ql _,by simp[maxLen],rfl,rfl⟩⟩,aM rfl,λj hj=>aN (aM ?_),λx hx j hj=>?_,λj hj=>?_,⟨rfl,Ql _⟩,λi x c hx hc=>?_,λi x c hx hc=>?_,by show aW.size<=1000*1;omega⟩
     ·cases hj;rfl
     ·obtain rfl:x=((Zg wj,id,aV),(na,outs.length,nc)):=(by simpa using hx);exact aN (aN hj)
     ·have hs8:=h08.size;have h1:=(Jb sZ)
      rcases hj with rfl|rfl|hj
      ·exact⟨by omega,by omega⟩
      ·exact⟨by omega,by omega⟩
      ·have:=kQ.o.own j hj;have:=gE.o.size;exact⟨by omega,by omega⟩
     ·match i,hx,hc with
      | 0,hx,hc=>
       simp only[lD,Qh]at hx hc;subst hx;subst hc;have e:lvH 0 ((Zg wj,id,aV),(na,outs.length,nc))=Yh wj outs st:=by unfold lvH Yh;rw[zI.o,hD3]
       refine⟨?_,by rw[e]⟩;refine⟨by show 0<2 ^ 32;decide,?_,r9,?_⟩
       ·show (Zg wj).size=wj;unfold Zg;rw[Jh,lF]
       ·show aV.size=wj;rw[hD3];exact Xw (dgW wj) wj (λl=>Jj wj hw l) st
      | i+1,hx,hc=>simp at hx
     ·match i,hx,hc with
      | 0,hx,hc=>
       simp only[lD,Qh]at hx hc;subst hx;subst hc;refine⟨XK id outs outs.length,?_,cI,by rw[HFL.o];omega⟩;refine(kQ.at.tch0 gE).tch h08 (λj hj e=>?_);have:=(kQ.own j hj).2;omega
      | i+1,hx,hc=>simp at hx
    ·intro j hj
     rcases hj with rfl|rfl|hj
     ·omega
     ·omega
     ·exact(kQ.own j hj).1
   clear bj Hu yC HD6 cI kQ um bl;go_region_with (first
    | (go_at_call 104;refine(HOB _ (by first|exact Td _ _ 1|exact M.box wB _)).mono ?_;rintro _ w7⟨rfl,ko⟩;have gG:J (M D wB w7):=(by first|exact(Td D wB 1).trans ko (λ_ h=>aM h)|exact(M.box wB _).trans ko (λ_ h=>aM h));(try (have q1:w7.heap[wB.heap.size]? =Z (T #[O aE (wj:Int)] 5):=(ko.block _ (by simp) (λh=>h)).trans (Qf wB _);have q2:=Jb0 wj w7 wB.heap.size (by omega) (Ja q1)));clear ko)
    | (go_at_call 107;refine(s5 _ (by first|exact(gG.block _ (Jb sZ) (λh=>h)).trans sZ|exact((gG.trans (Ta D w7 _) (λ_ h=>aM h)).block _ (Jb sZ) (λh=>h)).trans sZ)).mono ?_;rintro _ w8⟨rfl,jV,jF⟩;have ij:J (_:Prop):=jF;have kw:J (M _ _ w8):=jV;clear jV jF))
   all_goals
    go_wp2;go_ret2
    first
     | exact gK _ _ gG kw ij.o
     | exact gK _ _ (gG.trans (Ta D w7 _) (λ_ h=>aM h)) kw ij.o

theorem Jkq(hl:w.cell? ⟨lb,0,Y⟩=Z (X (Z ⟨cb,0,Y⟩)))(k:Int)(c:BA×Int)(s:BA)(h:∀W,M D w W->aB N 50 #[X (Z ⟨cb,0,Y⟩),O I k,aH #[L c.1,O I c.2]] W λe w'=>M D W w'/\e=aC (aI #[L s,aK])):
  aB N 24 #[X (Z ⟨lb,0,Y⟩),O I k,aH #[L c.1,O I c.2]] w λe w'=>e=aC (aI #[L s,O I 0])/\M D w w':=by
 obtain⟨cs,cN⟩:=c;have H:J _:=h;dsimp only at H ⊢;have mI:lb<w.heap.size:=by
  by_cases h:lb<w.heap.size
  ·exact h
  ·exfalso;have:w.heap[lb]? =Y:=Array.getElem?_eq_none (by omega);simp[World.cell?,this]at hl
 obtain⟨W,(HW:J _)⟩:∃W,W=w.alloc (T #[L cs,O I cN] 49):=⟨_,rfl⟩
 have hA:M D w W:=by rw[HW];exact Ta _ _ _
 have hr:W.heap[w.heap.size]? =Z (T #[L cs,O I cN] 49):=by rw[HW];exact Qf _ _
 obtain⟨c0,c1⟩:=rows hr;have c2:=(hA.cell (p:=⟨lb,0,Y⟩) mI (λh=>h)).trans hl;have HA:J _:=hA;clear hA hr hl mI;go_enter func24,ntmps24;go_upto_region 1 with fail;rw[<-HW.o];go_region_with (go_at_call 50;refine(H _ (HA.go (Td _ W 1))).mono ?_;rintro _ w1⟨ht,rfl⟩;have HT:J _:=(HA.go (Td _ W 1)).go ht)
 all_goals go_wp2_with fail;refine(Jbb _).mono ?_;rintro _ _⟨rfl,rfl⟩;go_wp2;go_ret2;exact⟨rfl,HT⟩
theorem JdL(hS:∀w',M D w w'->Env E w'/\Sent E w')(er:Er)(hl:w.cell? ⟨lb,0,Y⟩=Z (X (Z ⟨cb,0,Y⟩)))(k:Int)(c:BA×Int)(h:∀W,M D w W->aB N 50 #[X (Z ⟨cb,0,Y⟩),O I k,aH #[L c.1,O I c.2]] W λe w'=>M D W w'/\∃t u,e=aC (aI #[L ⟨#[]⟩,aJ t u])/\Jn E (erG er) w' (aJ t u)):
  aB N 24 #[X (Z ⟨lb,0,Y⟩),O I k,aH #[L c.1,O I c.2]] w λe w'=>e=aC (aI #[L ⟨#[]⟩,O I (Xr er)])/\M D w w':=by
 obtain⟨cs,cN⟩:=c;have H:J _:=h;have HS:J _:=hS;dsimp only at H ⊢;have mI:lb<w.heap.size:=by
  by_cases h:lb<w.heap.size
  ·exact h
  ·exfalso;have:w.heap[lb]? =Y:=Array.getElem?_eq_none (by omega);simp[World.cell?,this]at hl
 obtain⟨W,(HW:J _)⟩:∃W,W=w.alloc (T #[L cs,O I cN] 49):=⟨_,rfl⟩
 have hA:M D w W:=by rw[HW];exact Ta _ _ _
 have hr:W.heap[w.heap.size]? =Z (T #[L cs,O I cN] 49):=by rw[HW];exact Qf _ _
 obtain⟨c0,c1⟩:=rows hr;have c2:=(hA.cell (p:=⟨lb,0,Y⟩) mI (λh=>h)).trans hl;have HA:J _:=hA;clear hA hr hl mI;go_enter func24,ntmps24;go_upto_region 1 with fail;rw[<-HW.o];go_region_with (go_at_call 50;refine(H _ (HA.go (Td _ W 1))).mono ?_;rintro _ w1⟨ht,t,u,rfl,he⟩;have HT:J _:=(HA.go (Td _ W 1)).go ht;have HR:J (aB _ _ _ _ _):=Jae er (HS w1 HT).1 (HS w1 HT).2 t u he)
 all_goals go_wp2_with fail;refine HR.o.mono ?_;rintro _ w2⟨rfl,H7⟩;have H4:J _:=H7;go_wp2;go_ret2;exact⟨rfl,HT.go H4⟩

theorem JmT(h:RfAt wj base w rb G ch vL lv b)(hl:ch.length<=1000000000)(n:Int)(hn: -9223372036854775808<=n/\n<9223372036854775808):
  aB N 174 #[X (Z ⟨rb,0,Y⟩),O I n] w λe w'=>e=aC (aL (decide (0<=n/\n<(ch.length:Int))))/\M D w w':=by
 have zl:J (∀V,M D w V->_):=λV hV=>JhE (h.tch hV (λ_ e=>e.elim)) hl;obtain⟨-, -,c2⟩:=rows h.row;have h1:=h.len.2;obtain⟨aV,(HD:J _)⟩:∃aV,decide (0<=n/\n<(ch.length:Int))=aV:=⟨_,rfl⟩
 rw[HD];clear h
 by_cases h0:0<=n
 ·have HE:J (decide (n<=(ch.length:Int)-1)=aV):=by show _=_;rw[<-HD.o];apply decide_eq_decide.2;omega
  generalize (ch.length:Int)-1=aY at *;go_enter func174,ntmps174;go_wp2_with fail;refine(zl w (Te _ _)).mono ?_;rintro _ w1⟨rfl,(HT:J _)⟩;clear zl c2;go_wp2;go_ret;exact⟨by rw[<-HE.o];rfl,HT⟩
 ·have HE:J (aV=false):=by show aV=_;rw[<-HD.o];simp;omega
  go_enter func174,ntmps174;go_wp2;go_ret;exact⟨by rw[HE.o];rfl,Te _ _⟩
def Zp(wj:Nat)(ch:Ch)(n:Int)(c:BA×Int):BA×Int:=
 if 0<=n/\n<(ch.length:Int) then if XZ wj c=true then (⟨(wayB (YQ (dgW wj) (Jc c) (ch.getD n.toNat (⟨#[]⟩,Y)).2)).toArray⟩,0) else (⟨#[]⟩,1) else (⟨#[]⟩,7)
def Jpj:aG->Nat
 | R _ n _=>n
 | _=>0
theorem JnB{b:Nat}{lt rt:Tr}{l:List H9}(d:List UInt8->BA)(k:Key)(B:Book wj (Z (.br b lt rt)) l):∃tv tw,Book wj (Z tv) (sidL l b (bt k b))/\Book wj (Z tw) (sidL l b (1-bt k b))/\(Tr.br b lt rt).way d k=((b,tw.dig d)::(tv.way d k).1,(tv.way d k).2):=by
 obtain⟨_,B0,B1⟩:=Jds B;have h2:=Yv k b
 by_cases h:bt k b=0
 ·refine⟨lt,rt,by rw[h];exact B0,by rw[h];exact B1,?_⟩;simp only[Tr.way,if_pos h]
 ·have h1:bt k b=1:=by omega
  refine⟨rt,lt,by rw[h1];exact B1,by rw[h1];exact B0,?_⟩;simp only[Tr.way,if_neg h]
theorem Jkv(pre:List Stp)(s:Stp):(pre++[s]).flatMap Xe=pre.flatMap Xe++beL s.1 2 2++s.2.data.toList:=by
 rw[List.flatMap_append,QG,List.flatMap_nil,QC,Qs];rfl
theorem JjM(hD:DgC)(Hf:1<=wj)(hw:wj<=32)(h:RfAt wj base w rb G ch vL lv b)(hl:ch.length<=10000000)(n:Int)(hn: -9223372036854775808<=n/\n<9223372036854775808)(c:BA×Int)(hc:c.1.size<=9223372036854775807):
  aB N 184 #[X (Z ⟨rb,0,Y⟩),O I n,aH #[L c.1,O I c.2]] w λe w'=>e=aC (aI #[L (Zp wj ch n c).1,O I (Zp wj ch n c).2])/\M D w w':=by
 obtain⟨W,hW⟩:∃W,W=w.alloc (T #[L c.1,O I c.2] 49):=⟨_,rfl⟩
 have t0:=xu hW;have rW:=qu hW;have re:J (∀V,M D W V->_):=λV hV=>JmT (h.tch (t0.go hV) (λ_ e=>e.elim)) (by omega) n hn;have qK:J (∀V,_):=λV=>Jeb wj c hc V;have kN:J (∀V,M D W V->V.cell? ⟨w.heap.size,0,Y⟩=Z (L c.1)/\V.cell? ⟨w.heap.size,1,Y⟩=Z (O I c.2)/\V.cell? ⟨rb,0,Y⟩=Z (O I (wj:Int))/\V.cell? ⟨rb,1,Y⟩=Z vL):=λV hV=>by
  have h1:=(hV.block _ (Jb rW) (λe=>e)).trans rW;have h2:=(h.tch (t0.go hV) (λ_ e=>e.elim)).row;exact⟨Ja h1,Ja h1,Ja h2,Ja h2⟩
 have HW:J _:=hW;have kC:J _:=t0;obtain⟨QA,QB,(HQ:J _)⟩:∃QA QB,Zp wj ch n c=(QA,QB):=⟨_,_,rfl⟩
 rw[HQ]
 by_cases hk:0<=n/\n<(ch.length:Int)
 ·have bm:=decide_eq_true hk;rw[bm]at re
  by_cases hcd:XZ wj c=true
  ·have gL:=(Yc wj c).1 hcd;rw[hcd]at qK;obtain⟨m,rfl⟩:=lE hk.1;have hm:m<ch.length:=(by omega);have kn:m<lv.length:=(by rw[h.len.1];exact hm);have Hd:lv ≠ []:=λe=>by rw[e]at kn;simp at kn
   obtain⟨g,cap,vO,hg,mJ⟩:=h.lvs.at Hd;rw[h.len.1]at vO;subst vO;obtain⟨l0,s6,(j6:J _),yl⟩:=h.coins m _ _ (Qd kn) (Qd hm);have kE:(ch.getD m (⟨#[]⟩,Y)).2=(ch[m]).2:=(by simp[hm]);obtain⟨st,bn⟩:∃st,(ch[m]).2=st:=⟨_,rfl⟩
   rw[bn]at j6 kE;have j8:J (QA=⟨(wayB (YQ (dgW wj) (Jc c) st)).toArray⟩/\QB=0):=by
    have:=HQ.o;unfold Zp at this;rw[if_pos hk,if_pos hcd,lQ,kE]at this
    cases this
    exact⟨rfl,rfl⟩
   obtain⟨-, -, -,uo⟩:=mJ m kn;obtain⟨na,nc,qW⟩:=s6.shape;rw[qW]at uo s6;have rZ:J (∀V,M D W V->_):=λV hV=>((t0.go hV).cell (p:=⟨g,m*4+3,Y⟩) hg (λe=>e)).trans uo;have ke:J (∀V,M D W V->_):=λV hV=>s6.tch0 (t0.go hV);have jU:J (∀V,_):=λV=>Za c V gL.2.1 (by have:=gL.2.2;omega) (by have:=gL.1;omega);have uG:J _:=Xt gL;have hl0':l0.length<=900000000:=(by omega);have rM:(m:Int)<(ch.length:Int):=(by omega);obtain⟨s,aZ⟩:=c;obtain⟨key,jA⟩:∃key,Jc (s,aZ)=key:=⟨_,rfl⟩
   rw[jA]at j8 jU uG;simp only at qK kN HW jU ⊢;clear h HQ hc t0 rW hW s6 yl qW uo mJ Hd kn kE bn jA gL bm;go_enter func184,ntmps184;go_upto_region 1 with fail;rw[<-HW.o];go_wp2_with fail;refine(re W (Te _ _)).mono ?_;rintro _ w1⟨rfl,H6⟩;have H3:J _:=H6;obtain⟨c0,c1,c2,c3⟩:=kN w1 H6;clear H6;go_upto_region 4 with fail;go_cut [8] (λv8 wx=>v8=aL true/\J (M D w1 wx))
   case first=>
    go_region_held3 (λV=>V.cell? ⟨w.heap.size,0,Y⟩=Z (L s)/\V.cell? ⟨w.heap.size,1,Y⟩=Z (O I aZ)/\V.cell? ⟨rb,0,Y⟩=Z (O I (wj:Int))) (go_keep) ((go_at_call 257;refine(qK _).mono ?_;rintro _ w2⟨rfl,H7⟩;have H4:J _:=(Td D w1 1).go H7;obtain⟨d0,d1,d2,_⟩:=kN w2 (H3.go H4);clear H7))
    all_goals go_wp2;go_meet;exact⟨rfl,H4⟩
   case rest=>
   obtain⟨rfl,H4⟩:=hcut;obtain⟨w2,ql⟩:∃w2,w2=wc:=⟨wc,rfl⟩
   subst ql;have Hz:J _:=H3.go H4.o;clear c0 c1 c2 c3;obtain⟨c0,c1,c2,c3⟩:=kN w2 Hz.o;have c4:=rZ w2 Hz.o
   cases l0 with
   | nil=>
    have p7:J _:=JbV j6.o;simp only[Qv]at *;go_wp2;go_ret2;have e0:(⟨(wayB (YQ (dgW wj) key Y)).toArray⟩:BA)=⟨#[0,0]⟩:=(by rw[show YQ (dgW wj) key Y=([],Y) from rfl];decide);exact⟨by rw[j8.o.1,j8.o.2,p7.o,e0];rfl,kC.go Hz⟩
   | cons h0 r0=>
    obtain⟨t1,mK⟩:=Jj9 j6 (by simp);subst mK;have yr:J (WyOk wj (YQ (dgW wj) key (Z t1))):=(by exact Jci (dgW wj) wj (Jj wj hw) key (Z t1) (λt e=>by cases e;exact⟨j6.wf _ rfl,Jac _ _ j6⟩));generalize Hl:(h0::r0).length=len at *;have zp:¬(len:Int)=0:=(by rw[<-Hl];simp;omega);have hlen1:((len:Int) == 0)=false:=(by simpa using zp);clear zp;have HLE:J _:=Hl;clear Hl;go_wp2;go_loopw [9,10,11,12,13,14] (λv9 v10 v11 _ _ _ wr=>∃(a:Option Addr)(k cc:Nat)(l:List H9)(t:Tr)(pre:List Stp)(PF:List UInt8)(pn:Nat),v9=R a k cc/\v10=L ⟨PF.toArray⟩/\v11=O I (pn:Int)/\k<=900000000/\J (PF=pre.flatMap Xe/\pre.length=pn)/\J (l.length=k)/\J (RhAt wr (R a k cc) l)/\J (Book wj (Z t) l)/\J (t1.way (dgW wj) key=(pre++(t.way (dgW wj) key).1,(t.way (dgW wj) key).2))/\J (M D W wr)) (λv9 _ _ _ _ _ _=>Jpj v9)
    case atStart=>exact⟨na,len,nc,h0::r0,t1,[],[],0,rfl,rfl,rfl,hl0',⟨rfl,rfl⟩,HLE,ke w2 Hz,j6,by show _=_;simp,Hz⟩
    case round=>
     clear c0 c1 c2 c3 c4;obtain⟨a,k,cc,l,t,pre,PF,pn,rfl,rfl,rfl,vI,mL,gD,cL,qz,zq,HT⟩:=hrel;have jw:pre.length<=8*(wj+1):=by have h1:=yr.o.len;have h2:(YQ (dgW wj) key (Z t1)).1=pre++(t.way (dgW wj) key).1:=congrArg Prod.fst zq.o;rw[h2,Qe]at h1;omega
     have dt:=Jhb pre (λz hz=>yr.steps z (by
      have h2:(YQ (dgW wj) key (Z t1)).1=pre++(t.way (dgW wj) key).1:=congrArg Prod.fst zq.o;rw[h2];simp[hz]))
     have hfb:PF.length<=34*264:=(by rw[mL.o.1,dt];exact Nat.mul_le_mul (by omega) (by omega));have hpn:pn<=264:=(by have:=mL.o.2;omega);clear dt jw
     by_cases kt:1<k
     ·obtain⟨b1,lt,rt,rfl⟩:=JlO qz (by rw[gD.o];exact kt);obtain⟨tv,tw,(HBV:J _),rg,bo⟩:=JnB (dgW wj) key qz.o;obtain⟨hb1,HFK⟩:b1<8*(wj+1)/\J (∀V,M D wr V->aB N 166 #[R a k cc] V λe w'=>e=aC (O I (b1:Int))/\M D V w'):=by
       match l,gD.o,cL.o,qz.o with
       | x0::x1::r,e,hR,hB=>
        obtain⟨f1,f2,f3⟩:=Je8 hB;exact⟨f1,λV hV=>JmS wj b1 hw _ x0 (x1::r) V (hR.tch0 hV) (λh hh=>(hB.ok h hh).1) (by simp at e;simp;omega) f1 f2 f3⟩
       | [x0],e,_,_=>simp at e;omega
       | [],e,_,_=>simp at e;omega
      obtain⟨v,hv⟩:∃v,bt key b1=v:=⟨_,rfl⟩
      have kW:v<2:=(by rw[<-hv];exact Yv _ _);have xY:J (∀V,aB N 253 #[L ⟨key.toArray⟩,O I (b1:Int)] V λe w'=>e=aC (O I (v:Int))/\M D V w'):=λV=>by rw[<-hv];exact JhB key b1 (by rw[uG.o];omega) (by rw[uG.o];omega) V
      rw[hv]at HBV rg;obtain⟨u,hu⟩:∃u,1-v=u:=⟨_,rfl⟩
      rw[hu]at rg;have hui:I.wrap (1-(v:Int))=(u:Int):=(by rw[w63 _ (by omega) (by omega)];omega);have vK:J (∀V (y:Nat),M D wr V->aB N 167 #[R a k cc,O I (b1:Int),O I (y:Int)] V λe w'=>∃a' k' c',e=aC (R a' k' c')/\((sidL l b1 y).length=k'/\RhAt w' (R a' k' c') (sidL l b1 y))/\M D V w'):=λV y hV=>(JmX wj b1 y hw _ l V (cL.o.tch0 hV) (λh hh=>(qz.o.ok h hh).1) (by rw[gD.o];omega) hb1).mono λe w' q=>by
       obtain⟨v',q1,q2,q3⟩:=q;obtain⟨a',c',rfl⟩:=q2.shape;exact⟨a',_,c',q1,⟨rfl,q2.at⟩,q3⟩
      have ul:J ((sidL l b1 v).length<k/\(sidL l b1 u).length<k):=by
       have h1:=JhP l b1;have h2:sidL l b1 v ≠ []:=λe=>by rw[e]at HBV;exact absurd (JbV HBV) (by simp)
       have h3:sidL l b1 u ≠ []:=λe=>by rw[e]at rg;exact absurd (JbV rg) (by simp)
       have h4:=List.length_pos_iff.2 h2;have h5:=List.length_pos_iff.2 h3;have h6:=gD.o;have h7:(v=0/\u=1)\/(v=1/\u=0):=by omega
       rcases h7 with⟨rfl,rfl⟩|⟨rfl,rfl⟩<;>exact⟨by omega,by omega⟩
      have um:J (∀V v',RhAt V v' (sidL l b1 u)->aB N 106 #[O I (wj:Int),v'] V λe w'=>e=aC (L ⟨(tw.text (dgW wj)).toArray⟩)/\M D V w'):=λV v' hR=>(JiR hD wj Hf hw _ _ V v' (Ql _) rg.ok rg.nodup hR (by have:=ul.o.2;omega)).mono λe w' q=>by
       obtain⟨z,q1,q2,q3⟩:=q;rw[q1,JcO rg q2];exact⟨rfl,q3⟩
      have kR:J ((tw.text (dgW wj)).length<=1000):=Jnp hw (Jac _ _ rg);have gd:J (∀V,aB N 103 #[O I (wj:Int),L ⟨(tw.text (dgW wj)).toArray⟩] V λe w'=>e=aC (L ⟨(tw.dig (dgW wj)).data.toList.toArray⟩)/\M D V w'):=λV=>by
       have:=hD wj ⟨(tw.text (dgW wj)).toArray⟩ V Hf hw (by rw[Jh];have:=kR.o;omega);rw[show (⟨(tw.text (dgW wj)).toArray⟩:BA).data.toList=tw.text (dgW wj) from rfl,<-Tr.dig_text (dgW wj) tw]at this;rw[Zw];exact this
      have bp:J (∀V,_):=λV=>XU b1 2 V (by omega);have HDL:J ((tw.dig (dgW wj)).data.toList.length=wj):=(by show List.length _=_;rw[Array.length_toList,Tr.dig_text];exact Jj wj hw _);have hdl:(tw.dig (dgW wj)).data.toList.length<=32:=(by rw[HDL.o];exact hw);have HWN:J (t1.way (dgW wj) key=((pre++[(b1,tw.dig (dgW wj))])++(tv.way (dgW wj) key).1,(tv.way (dgW wj) key).2)):=(by show _=_;rw[zq.o,bo];simp);have HFN:J ((pre++[(b1,tw.dig (dgW wj))]).flatMap Xe=pre.flatMap Xe++beL b1 2 2++(tw.dig (dgW wj)).data.toList):=Jkv _ _;have hb64:IntKind.u64.wrap (b1:Int)=(b1:Int):=(by simp[lV,lW,lM];omega);have hk2i:1<(k:Int):=(by omega);have s7:(beL b1 2 2).length=2:=Jf _ _ _;generalize tw.text (dgW wj)=TX at *;generalize (tw.dig (dgW wj)).data.toList=DG at *;have a1:=JO PF (beL b1 2 2) (by omega);have a2:=JO (PF++beL b1 2 2) DG (by rw[Qe];omega);clear bo rg hv hu s7 hdl;obtain⟨c0,c1,c2,c3⟩:=kN.o wr HT.o;go_upto_region 15 with(first
       | (go_at_call 166;refine(HFK.o _ (Te _ _)).mono ?_;rintro _ w3⟨rfl,Hm⟩;have H8:J (M D wr w3):=Hm;clear c0 c1 c2 c3;obtain⟨c0,c1,c2,c3⟩:=kN.o w3 (HT.o.go Hm);clear Hm)
       | (go_at_call 105;refine(jU.o _).mono ?_;rintro _ w4⟨rfl,Ho⟩;have He:J (M D wr w4):=H8.o.go Ho;clear Ho)
       | (go_at_call 253;refine(xY.o _).mono ?_;rintro _ w5⟨rfl,kI⟩;have Hu:J (M D wr w5):=He.o.go kI;clear kI))
      clear c0 c1 c2 c3;obtain⟨c0,c1,c2,c3⟩:=kN.o w5 (HT.o.go Hu.o);go_cut [14] (λv14 wx=>v14=L ⟨TX.toArray⟩/\J (M D wr wx))
      case first=>
       go_region_held3 (λV=>V.cell? ⟨rb,0,Y⟩=Z (O I (wj:Int))) (go_keep) ((first
        | (go_at_call 167;refine(vK.o _ u (Hu.o.go (Td _ w5 1))).mono ?_;rintro _ w6⟨a',k',c',rfl,hR6,gV⟩;have cM:J (RhAt w6 (R a' k' c') _):=hR6.2;have k8:J (M D wr w6):=Hu.o.go ((Td D w5 1).go gV);obtain⟨_,_,d2,_⟩:=kN.o w6 (HT.o.go k8.o);clear hR6 gV)
        | (go_at_call 106;refine(um.o _ _ cM.o).mono ?_;rintro _ w7⟨rfl,ko⟩;have gG:J (M D wr w7):=k8.o.go ko;obtain⟨_,_,e2,_⟩:=kN.o w7 (HT.o.go gG.o);clear ko)))
       all_goals go_wp2;go_meet;exact⟨rfl,gG⟩
      case rest=>
      obtain⟨rfl,gG⟩:=hcut;obtain⟨w7,uk⟩:∃w7,w7=wc:=⟨wc,rfl⟩
      subst uk;clear c0 c1 c2 c3;obtain⟨c0,c1,c2,c3⟩:=kN.o w7 (HT.o.go gG.o);go_upto_region 16 with fail;go_cut [10] (λv10 wx=>v10=L ⟨(PF++beL b1 2 2++DG).toArray⟩/\J (M D wr wx))
      case first=>
       go_region_held3 (λV=>V.cell? ⟨rb,0,Y⟩=Z (O I (wj:Int))) (go_keep) ((first
        | (go_at_call 171;refine(bp.o _).mono ?_;rintro _ w8⟨rfl,jV⟩;have kw:J (M D wr w8):=(by first|exact gG.o.go ((Td D w7 1).go jV)|exact jD.o.go jV);obtain⟨_,_,d2,_⟩:=kN.o w8 (HT.o.go kw.o);clear jV)
        | (go_at_call 103;refine(gd.o _).mono ?_;rintro _ w9⟨rfl,gx⟩;have jD:J (M D wr w9):=(by first|exact gG.o.go ((Td D w7 1).go gx)|exact kw.o.go gx);obtain⟨_,_,e2,_⟩:=kN.o w9 (HT.o.go jD.o);clear gx)))
       all_goals go_wp2;go_meet;exact⟨by first|rfl|rw[Qs],by first|exact jD.o|exact kw.o⟩
      case rest=>
      obtain⟨rfl,jD⟩:=hcut;obtain⟨w9,bv⟩:∃w9,w9=wc:=⟨wc,rfl⟩
      subst bv;clear c0 c1 c2 c3;go_wp2_with (go_at_call 167;refine(vK.o _ v jD.o).mono ?_;rintro _ w10⟨a',k',c',rfl,a7,j9⟩;have gZ:J (_/\_):=a7;have rh:J (M D wr w10):=jD.o.go j9;clear a7 j9);go_roundw
      case rel=>exact⟨a',k',c',sidL l b1 v,tv,pre++[(b1,tw.dig (dgW wj))],_,pn+1,rfl,rfl,by go_num,by have:=ul.o.1;have:=gZ.o.1;omega,⟨by rw[HFN.o,mL.o.1,Qs],by rw[Qe,mL.o.2];rfl⟩,gZ.o.1,gZ.o.2,HBV.o,HWN.o,HT.o.go rh.o⟩
      case measure=>simp[Jpj];have:=ul.o.1;have:=gZ.o.1;omega
     ·obtain⟨h1,j5⟩:∃h1,l=[h1]:=by
       match l,gD.o,qz.o with
       | [x],_,_=>exact⟨x,rfl⟩
       | [],_,B=>exact absurd (JbV B) (by simp)
       | x::y::r,e,_=>simp at e;omega
      subst j5;obtain⟨k1,o1,rfl⟩:∃k1 o1,t=.leaf k1 o1:=by
       cases t with
       | leaf k1 o1=>exact⟨k1,o1,rfl⟩
       | br b1 lt rt=>exact absurd (Jds qz.o).1.two (by simp[koR])
      obtain⟨h2,e2,e3,e4⟩:=Jcz qz.o
      cases e2
      have xL:=qz.o.ok h1 (by simp);have jg:k=1:=(by have:=gD.o;simp at this;omega);subst jg
      rcases cL.o with⟨_,e⟩|⟨gi,oi,c',e,⟨kV,_⟩,Hg⟩
      ·cases e
      simp only[Qy]at e;obtain⟨rfl,e9,rfl⟩:=e;have xA:J (∀V,M D wr V->V.cell? ⟨gi,oi,Y⟩=Z (L (keyS h1.1))/\V.cell? ⟨gi,oi+1,Y⟩=Z (O aD ((h1.2.1:Nat):Int))/\V.cell? ⟨gi,oi+2,Y⟩=Z (O aE ((h1.2.2:Nat):Int))):=λV hV=>by
       have:=(Hg 0 (by simp)).tch hV kV (λe=>e);simp only[Nat.zero_mul,Nat.add_zero,List.getElem_cons_zero]at this;exact this
      have bp:J (∀V,_):=λV=>XU pn 2 V (by omega);have zo:J (∀V,_):=λV=>JcM h1.2.1 h1.2.2 V xL.2.2;have gK:J (wayB (YQ (dgW wj) key (Z t1))=beL pn 2 2++PF++Jc h1.1++outB (h1.2.1,h1.2.2)):=by
       show _=_;have h5:YQ (dgW wj) key (Z t1)=(pre,Z (k1,o1)):=by unfold YQ;simp only[zq.o,Tr.way,QC]
       rw[h5,<-e3,<-e4];unfold wayB endB;simp only[mL.o.1,mL.o.2,Qs]
      have jW:(Jc h1.1).length=wj+1:=Xt xL.1;have hp64:IntKind.u64.wrap (pn:Int)=(pn:Int):=(by simp[lV,lW,lM];omega);have a1:=JO (beL pn 2 2) PF (by rw[Jf];omega);have a2:=JO (beL pn 2 2++PF) (Jc h1.1) (by rw[Qe,Jf,jW];omega);have a3:=JO (beL pn 2 2++PF++Jc h1.1) (outB (h1.2.1,h1.2.2)) (by rw[Qe,Qe,Jf,jW,Jb7];omega);obtain⟨d0,d1,d2⟩:=xA.o wr (Te _ _);unfold keyS at d0 xA;generalize Jc h1.1=CB at *;generalize outB (h1.2.1,h1.2.2)=OB at *;generalize beL pn 2 2++PF++CB++OB=P3 at *;generalize beL pn 2 2++PF++CB=P2 at *;generalize beL pn 2 2++PF=P1 at *;clear Hg e3 e4 jW mL e9 xL;generalize h1.2.1=oa at *;generalize h1.2.2=oo at *;go_upto_region 19 with fail;go_region_held3 (λV=>V.cell? ⟨gi,oi,Y⟩=Z (L ⟨CB.toArray⟩)/\V.cell? ⟨gi,oi+1,Y⟩=Z (O aD (oa:Int))/\V.cell? ⟨gi,oi+2,Y⟩=Z (O aE (oo:Int))) (go_keep) ((first
       | (go_at_call 171;refine(bp.o _).mono ?_;rintro _ w8⟨rfl,jV⟩;have kw:J (M D wr w8):=(by first|exact(Td D wr 1).go jV|exact jD.o.go jV);obtain⟨x0,x1,x2⟩:=xA.o w8 kw.o;clear jV)
       | (go_at_call 164;refine(zo.o _).mono ?_;rintro _ w9⟨rfl,gx⟩;have jD:J (M D wr w9):=(by first|exact(Td D wr 1).go gx|exact kw.o.go gx);obtain⟨y0,y1,y2⟩:=xA.o w9 jD.o;clear gx)))
      all_goals go_wp2;go_ret2;exact⟨by rw[j8.o.1,j8.o.2,gK.o];rfl,kC.o.go (HT.o.go (by first|exact jD.o|exact kw.o))⟩
  ·have hcf:XZ wj c=false:=(by simpa using hcd);rw[hcf]at qK;have j8:J (QA=⟨#[]⟩/\QB=1):=by
    have:=HQ.o;unfold Zp at this;rw[if_pos hk,if_neg hcd]at this
    cases this
    exact⟨rfl,rfl⟩
   obtain⟨s,aZ⟩:=c;simp only at qK kN HW ⊢;obtain⟨va,vc,vO⟩:∃a c,vL=R a lv.length c:=(h.lvs.at (λe=>by have:=h.len;rw[e]at this;simp at this;omega)).elim λg ⟨cap,e,_⟩=>⟨_,_,e⟩
   subst vO;clear h HQ hc t0 rW hW;go_enter func184,ntmps184;go_upto_region 1 with fail;rw[<-HW.o];go_wp2_with fail;refine(re.o W (Te _ _)).mono ?_;rintro _ w1⟨rfl,H6⟩;have H3:J (M D W w1):=H6;obtain⟨c0,c1,c2,_⟩:=kN.o w1 H6;clear H6;go_upto_region 4 with fail;go_cut [8] (λv8 wx=>v8=aL false/\J (M D w1 wx))
   case first=>
    go_region_held3 (λV=>V.cell? ⟨w.heap.size,0,Y⟩=Z (L s)/\V.cell? ⟨w.heap.size,1,Y⟩=Z (O I aZ)/\V.cell? ⟨rb,0,Y⟩=Z (O I (wj:Int))) (go_keep) ((go_at_call 257;refine(qK.o _).mono ?_;rintro _ w2⟨rfl,H7⟩;have H4:J (M D w1 w2):=(Td D w1 1).go H7;obtain⟨d0,d1,d2,_⟩:=kN.o w2 (H3.o.go H4.o);clear H7))
    all_goals go_wp2;go_meet;exact⟨rfl,H4⟩
   case rest=>
   obtain⟨rfl,H4⟩:=hcut;obtain⟨w2,ql⟩:∃w2,w2=wc:=⟨wc,rfl⟩
   subst ql;clear c0 c1 c2;go_wp2;go_ret2;exact⟨by rw[j8.o.1,j8.o.2];rfl,kC.o.go (H3.o.go H4.o)⟩
 ·have bm:decide (0<=n/\n<(ch.length:Int))=false:=decide_eq_false hk;rw[bm]at re;have j8:J (QA=⟨#[]⟩/\QB=7):=by
   have:=HQ.o;unfold Zp at this;rw[if_neg hk]at this
   cases this
   exact⟨rfl,rfl⟩
  obtain⟨s,aZ⟩:=c;simp only at qK kN HW ⊢;clear h HQ hc t0 rW hW;go_enter func184,ntmps184;go_upto_region 1 with fail;rw[<-HW.o];go_wp2_with fail;refine(re.o W (Te _ _)).mono ?_;rintro _ w1⟨rfl,H6⟩;have H3:J (M D W w1):=H6;clear H6;go_wp2;go_ret2;exact⟨by rw[j8.o.1,j8.o.2];rfl,kC.o.go H3.o⟩
