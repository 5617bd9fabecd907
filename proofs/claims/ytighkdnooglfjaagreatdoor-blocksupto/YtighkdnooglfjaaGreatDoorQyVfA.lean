import Derived.Test.YtighkdnooglfjaaGreatDoorQyPRd
import Derived.Shelf.SlicesE.Reverse
open Go renaming Calls->aB,Value->aG,World->aA
open Go.Ending renaming returned->aC
open Go.IntKind renaming i64->I,u32->aF,u64->aD,u8->aE
open Go.Obj renaming cells->T,cells->lU
open Go.Proofs.Tryz renaming prog->N
open Go.RowKit renaming Hid->J
open Go.Value renaming agg->aH,bool->aL,iface->aJ,int->O,nilIface->aK,pointer->X,slice->R,string->L,tuple->aI,string->lC
open Option renaming none->Y,some->Z,map_some->lP
open Or renaming inl->aM,inr->aN
open Array renaming replicate_succ->lD,replicate_zero->lE
open List renaming append_toArray->lF,cons_append->lG,nil_append->lH,size_toArray->lI,push_toArray->lJ,replicate->lK,length_drop->lM,replicate_succ->lQ,take_add_one->lS,map_cons->lT,take_add->lV,take_prefix->lW
open Nat renaming reduceAdd->lN,reduceSub->lO,zero_le->lR,zero_add->lX
set_option maxRecDepth 100000
set_option maxHeartbeats 4000000
namespace Go.Proofs.YtighkdnooglfjaaGreatDoor
open Go.Proofs.Tryz
open Go.RowKit

variable {kb H8:BA}{Bq Bw n₀ v2 v3 wj:Nat}{E:Nat->Addr}{v1:Option Addr}{W W':aA}{wy:Wy}
theorem Jjr(l:List UInt8):(⟨l.toArray⟩:BA).data.toList=l:=rfl
theorem JeD(E:Nat->Addr)(wj:Nat)(hw:wj<=32)(h:HdL)(hh:HdOk wj h)(w:aA)(hE:Env E w):
  aB N 212 #[O I (wj:Int),L ⟨(Ht h).toArray⟩] w λe w'=>e=aC (aI #[L h.2.2.2,aK])/\M D w w':=by
 have Hq:(Ht h).length<=1000:=by obtain⟨h1,h2,h3,h4⟩:=hh;unfold Ht;simp only[Qe,Jf,QA];have e2:h.2.1.data.size=wj:=h2;have e3:h.2.2.1.data.size=wj:=h3;have e4:h.2.2.2.data.size=wj:=h4;omega
 have m8:(PS.rd [] (Ht h)).hdr wj (0,⟨#[]⟩,⟨#[]⟩,⟨#[]⟩)=Z (h,.rd (Ht h) []):=by have:=(Ji9 wj h (0,⟨#[]⟩,⟨#[]⟩,⟨#[]⟩) hh).rd [] [];rw[QC]at this;exact this
 have zw:J (∀W,M D w W->Jd W w.heap.size Y (wj:Int) aK (.rd [] (Ht h))->aB N 86 #[X (Z ⟨w.heap.size,0,Y⟩),aH #[O aD 0,L ⟨#[]⟩,L ⟨#[]⟩,L ⟨#[]⟩]] W λe w'=>e=aC (aH #[O aD (h.1:Int),L h.2.1,L h.2.2.1,L h.2.2.2])/\RdTo E W w' w.heap.size (wj:Int) (Z (.rd (Ht h) []))):=λW hT hp=>Jji E hE wj hw ⟨(Ht h).toArray⟩ (by rw[Ji];omega) h _ m8 hT hp;obtain⟨n,s1,s2,s3⟩:=h;dsimp only at zw ⊢;clear hE hh Hq m8;have HL:J (∀hb,hb=Ht (n,s1,s2,s3)->_):=λhb (_:hb=Ht (n,s1,s2,s3))=>trivial;clear HL;generalize hhb:Ht (n,s1,s2,s3)=hb at *;clear hhb;go_enter func212,ntmps212;go_wp2_with fail;refine(XT _ _ _).mono ?_;rintro _ w1⟨rfl,Hy,(H5:J _)⟩;have Hx:J (Jd w1 w.heap.size Y (wj:Int) aK (.rd [] hb)):=Hy;clear Hy;go_wp2_with fail;refine(zw w1 H5 Hx).mono ?_;rintro _ w2⟨rfl,⟨kV,_⟩,Ha⟩;obtain⟨W3,(jv:J _)⟩:∃W3,W3=w2.alloc (T #[O aD (n:Int),L s1,L s2,L s3] 167):=⟨_,rfl⟩
 have hA:M D w2 W3:=by rw[jv];exact Ta _ _ _
 have H6:J _:=(H5.trans Ha (λj hj=>aN (Nat.le_of_eq hj.symm))).go hA;have kF:J (Jd W3 w.heap.size Y (wj:Int) aK (.rd hb [])):=kV.tch hA (λh=>h) (λ_ _ h=>h);have k8:W3.heap[w2.heap.size]? =Z (T #[O aD (n:Int),L s1,L s2,L s3] 167):=by rw[jv];exact Qf _ _
 obtain⟨-, -, -,c3⟩:=rows k8;have C3:J _:=k8;have tQ:J (∀W,M D W3 W->aB N 88 #[X (Z ⟨w.heap.size,0,Y⟩)] W λe w'=>e=aC aK/\M D W w'):=λW hT=>Jeh w.heap.size (wj:Int) hb W (kF.tch hT (λh=>h) (λ_ _ h=>h));clear kV Ha zw Hx H5 hA k8 kF;go_upto_region 3 with fail;rw[<-jv.o];have HC:J (∀W,M D W3 W->W.cell? ⟨w2.heap.size,3,Y⟩=Z (L s3)):=λW hT=>Ja ((hT.block _ (Jb C3) (λh=>h)).trans C3);go_region_with (go_at_call 88;refine(tQ _ (Td _ _ 1)).mono ?_;rintro _ w4⟨rfl,Hu⟩;have Hm:J _:=(Td D W3 1).go Hu;have c4:=HC _ Hm.o;clear Hu)
 all_goals go_wp2;go_ret2;exact⟨rfl,H6.go Hm⟩
abbrev qV(wj:Nat)(H8 kb:BA):aG:=aH #[O I (wj:Int),L H8,L kb]
theorem JfY(E:Nat->Addr)(wj:Nat)(h1:1<=wj)(hw:wj<=32)(h:HdL)(hh:HdOk wj h)(c:BA×Int)(hc:Jj wj c)(w:aA)(hE:Env E w):
  aB N 143 #[O I (wj:Int),L ⟨(Ht h).toArray⟩,aH #[L c.1,O I c.2]] w λe w'=>e=aC (aI #[qV wj h.2.2.2 ⟨(Jc c).toArray⟩,aK])/\M D w w':=by
 have jW:J (∀W,M D w W->_):=λW hT=>JeD E wj hw h hh W (hE.tch hT noE);have HK:J (∀W,M D w W->_):=λW hT=>Jbg E wj hw c hc W (hE.tch hT noE);have tj:J (∀W,_):=λW=>Yn wj W h1 hw;generalize h.2.2.2=st at *;generalize (⟨(Ht h).toArray⟩:BA)=hb at *;obtain⟨s,aZ⟩:=c;dsimp only at HK ⊢;generalize (⟨(Jc (s,aZ)).toArray⟩:BA)=kb at *;obtain⟨W,(HW:J _)⟩:∃W,W=(w.alloc (T #[L s,O I aZ] 49)).alloc (T #[O I 0,L ⟨#[]⟩,L ⟨#[]⟩] 248):=⟨_,rfl⟩
 have hA:=vM HW;have gG:=kt HW;have kK:=hnn HW;have HB:J (∀V,M D W V->V.heap[w.heap.size]? =Z (T #[L s,O I aZ] 49)/\V.heap[w.heap.size+1]? =Z (T #[O I 0,L ⟨#[]⟩,L ⟨#[]⟩] 248)):=λV hT=>⟨(hT.block _ (Jb gG) (λh=>h)).trans gG,(hT.block _ (Jb kK) (λh=>h)).trans kK⟩
 have HA:J _:=hA;clear hA gG kK;go_enter func143,ntmps143;go_upto_region 1 with fail;rw[<-HW.o];go_wp2_with fail;refine(tj W).mono ?_;rintro _ w1⟨rfl,rfl⟩;have H5:J (M D W W):=Te _ _;go_wp2_with fail;refine(jW W (HA.go H5)).mono ?_;rintro _ w2⟨rfl,Ha⟩;have H6:J _:=H5.go Ha;obtain⟨b0,b1⟩:=HB w2 H6.o;obtain⟨c0,c1⟩:=rows b0;go_wp2_with fail;refine(HK w2 (HA.go H6)).mono ?_;rintro _ w3⟨rfl,Hs⟩;have Hb:J _:=H6.go Hs;obtain⟨_,(R3:J _)⟩:=HB w3 Hb.o;obtain⟨r0,r1,r2⟩:=rows R3;have fR:∀j,w3.frozen? ⟨w.heap.size+1,j,Y⟩=false:=λj=>Qg _ _ _ _ _ R3;clear Hs HK H6 c0 c1;go_wp2;rw[set3 _ _ _ _ _ _ _ _ _ R3.o];refine QK (v:=aI #[qV wj st kb,aK]) (Je results143 _ _ (w.heap.size+1) _ _ (0,0) _ rfl (Qi _ _ _ _ _ _ R3) underlying248 rfl (by kernel_rfl)) rfl ⟨rfl,?_⟩;exact(HA.go Hb).trans (Ts _ _ _) (λj hj=>aN (by omega))
def ZT(o:Option (Nat×Nat)):aG:=match o with
 | some o=>aH #[O I 1,O aD (o.1:Int),O aE (o.2:Int)]
 | none=>aH #[O I 2,O aD 0,O aE 0]

abbrev wV(v1:Option Addr)(v2 v3:Nat)(m:Bool)(k:BA)(a o:Nat):aG:=aH #[R v1 v2 v3,aL m,L k,O aD (a:Int),O aE (o:Int)]
theorem JbC{a b:BA}(h:a.toList=b.toList):a=b:=by
 rw[ByteArray.toList_eq,ByteArray.toList_eq]at h;exact Jit (by simpa using h)
theorem Jja(wj:Nat)(H8 kb:BA)(v1:Option Addr)(v2 v3:Nat)(m:Bool)(k:BA)(a o:Nat)(w:aA):
  aB N 215 #[qV wj H8 kb,wV v1 v2 v3 m k a o] w λe w'=>e=aC (ZT (if m=true/\k=kb then Z (a,o) else Y))/\M D w w':=by
 cases m with
 | false=>
  rw[if_neg (by simp)];go_enter func215,ntmps215;go_wp2;exact QK (v:=ZT Y) (Qq results215 _ _ (w.heap.size+1+1) _ _ (0,0) _ rfl (JE _ _ _ _) underlying179 rfl (by kernel_rfl)) rfl ⟨rfl,M.allocs3 _ _ _ _ _⟩
 | true=>
  by_cases hk:k=kb
  ·rw[if_pos ⟨rfl,hk⟩];have hd:(k.toList == kb.toList)=true:=(by rw[hk];simp);have xe:decide (k=kb)=true:=(by simp[hk]);go_enter func215,ntmps215;go_wp2;exact QK (v:=ZT (Z (a,o))) (Qq results215 _ _ (w.heap.size+1+1) _ _ (0,0) _ rfl (JE _ _ _ _) underlying179 rfl (by kernel_rfl)) rfl ⟨rfl,M.allocs3 _ _ _ _ _⟩
  ·rw[if_neg (λh=>hk h.2)];have hd:¬k.toList=kb.toList:=λh=>hk (JbC h);have pI:(k.toList == kb.toList)=false:=(by simp[hd]);have xe:decide (k.toList=kb.toList)=false:=(by simp[hd]);go_enter func215,ntmps215;go_wp2;exact QK (v:=ZT Y) (Qq results215 _ _ (w.heap.size+1+1) _ _ (0,0) _ rfl (JE _ _ _ _) underlying179 rfl (by kernel_rfl)) rfl ⟨rfl,M.allocs3 _ _ _ _ _⟩
theorem JpL(E:Nat->Addr)(wj:Nat)(hw:wj<=32)(H8 kb:BA)(v1:Option Addr)(v2 v3:Nat)(wy:Wy)(Hg:WyOk wj wy)(w:aA)(hE:Env E w):
  aB N 342 #[qV wj H8 kb,wV v1 v2 v3 wy.2.isSome (ji wy) (gE wy).1 (gE wy).2] w λe w'=>e=aC (aI #[L ⟨(Xb wy.2).toArray⟩,aK])/\M D w w':=by
 obtain⟨st,en⟩:=wy
 cases en with
 | none=>
  show aB _ _ #[_,wV v1 v2 v3 false ⟨#[]⟩ 0 0] _ _;go_enter func342,ntmps342;go_wp2;go_ret2;exact⟨rfl,M.allocs _ _ _ _⟩
 | some x=>
  obtain⟨k,a,o⟩:=x;show aB _ _ #[_,wV v1 v2 v3 true ⟨k.toArray⟩ a o] _ _;have jY:=Hg.key (k,a,o) rfl;have uP:=Jfs wj k (a,o) jY;have ki:J (∀W,M D w W->aB N 154 #[aH #[L ⟨#[76]⟩,L ⟨k.toArray⟩,O aD (a:Int),O aE (o:Int),O I 0,L ⟨#[]⟩,L ⟨#[]⟩],O I (wj:Int)] W λe w'=>M D W w'/\e=aC (aI #[L ⟨(76::(k++outB (a,o))).toArray⟩,aK])):=λW hT=>by
   have:=JaA E wj (by omega) (⟨#[76]⟩,⟨k.toArray⟩,(a,o),0,⟨#[]⟩,⟨#[]⟩) jY.2.2.2 W (hE.tch hT noE);rw[uP]at this;exact this
  show aB _ _ _ _ λe w'=>e=aC (aI #[L ⟨(76::(k++outB (a,o))).toArray⟩,aK])/\_;generalize (⟨(76::(k++outB (a,o))).toArray⟩:BA)=txt at *;generalize (⟨k.toArray⟩:BA)=kk at *;obtain⟨W,(HW:J _)⟩:∃W,W=(w.alloc (T #[O I (wj:Int),L H8,L kb] 248)).alloc (T #[R v1 v2 v3,aL true,L kk,O aD (a:Int),O aE (o:Int)] 258):=⟨_,rfl⟩
  have hA:M D w W:=by rw[HW];exact M.allocs _ _ _ _
  have gG:W.heap[w.heap.size]? =Z (T #[O I (wj:Int),L H8,L kb] 248):=by rw[HW];exact heap_alloc2_old _ _ _
  have kK:W.heap[w.heap.size+1]? =Z (T #[R v1 v2 v3,aL true,L kk,O aD (a:Int),O aE (o:Int)] 258):=by rw[HW];exact heap_alloc2_new _ _ _
  have HC:J (∀V,M D W V->V.cell? ⟨w.heap.size,0,Y⟩=Z (O I (wj:Int))):=λV hT=>Ja ((hT.block _ (Jb gG) (λh=>h)).trans gG);have c0:=HC W (Te _ _);obtain⟨-,d1,d2,d3,d4⟩:=rows kK;have HA:J _:=hA;clear hA gG kK;go_enter func342,ntmps342;go_upto_region 1 with fail;rw[<-HW.o];go_wp2_with fail;go_region_with (first
   | (go_at_call 307;refine(Jaz _ _ _ _).mono ?_;rintro _ w1⟨rfl,H9⟩;have H5:J _:=(Td D W 1).go H9;have c1:=HC _ H5.o)
   | (go_at_call 154;refine(ki _ (HA.go H5)).mono ?_;rintro _ w2⟨Ha,rfl⟩;have H6:J _:=(HA.go H5).go Ha))
  all_goals go_wp2;go_ret2;exact⟨rfl,H6⟩
theorem JlQ(E:Nat->Addr)(wj:Nat)(Hn:1<=wj)(hw:wj<=32)(H8 kb txt:BA)(uP:txt.size<=1000)(s:Stp)(hs:Zu wj s)(key:Key)(hk:key.length=wj+1)(w:aA)(hE:Env E w):
  aB N 343 #[qV wj H8 kb,L txt,aH #[O I (s.1:Int),L s.2],L ⟨key.toArray⟩] w λe w'=>e=aC (aI #[L ⟨(78::(Hf s.1 2 2++(if bt key s.1=0 then (H3 wj txt.data.toList).data.toList++s.2.data.toList else s.2.data.toList++(H3 wj txt.data.toList).data.toList))).toArray⟩,aK])/\M D w w':=by
 obtain⟨b,jq⟩:=s;obtain⟨hb,ho⟩:=hs;dsimp only at hb ho ⊢;have HB:J (∀W,_):=λW=>XL key b (by omega) (by omega) W;have yU:J (∀W,M D w W->_):=λW hT=>JaZ E wj txt W (hE.tch hT noE) Hn hw (by omega);have hds:(H3 wj txt.data.toList).size=wj:=Jk wj hw _;generalize H3 wj txt.data.toList=dg at *;have ki:J (∀(x y:BA),x.size=wj->y.size=wj->∀W,M D w W->aB N 154 #[aH #[L ⟨#[78]⟩,L ⟨#[]⟩,O aD 0,O aE 0,O I (b:Int),L x,L y],O I (wj:Int)] W λe w'=>M D W w'/\e=aC (aI #[L ⟨(78::(Hf b 2 2++(x.data.toList++y.data.toList))).toArray⟩,aK])):=λx y hx hy W hT=>by
  have:=JaA E wj (by omega) (⟨#[78]⟩,⟨#[]⟩,(0,0),(b:Int),x,y) (show (0:Nat)<256 by decide) W (hE.tch hT noE);rw[JjI wj b x y (by omega) hb hx hy]at this;exact this
 have vB:=Yx key b;have hif:(if bt key b=0 then dg.data.toList++jq.data.toList else jq.data.toList++dg.data.toList)=(if bt key b=0 then dg else jq).data.toList++(if bt key b=0 then jq else dg).data.toList:=by split<;>rfl
 rw[hif];obtain⟨x,(HX:J _)⟩:∃x,x=(if bt key b=0 then dg else jq):=⟨_,rfl⟩
 obtain⟨y,(HY:J _)⟩:∃y,y=(if bt key b=0 then jq else dg):=⟨_,rfl⟩
 rw[<-HX,<-HY];have hxs:x.size=wj:=by rw[HX];split<;>assumption
 have uC:y.size=wj:=by rw[HY];split<;>assumption
 have HT:=ki x y hxs uC;have n4:J _:=HT;generalize (⟨(78::(Hf b 2 2++(x.data.toList++y.data.toList))).toArray⟩:BA)=res at *;generalize (⟨key.toArray⟩:BA)=kk at *;generalize bt key b=bb at *;obtain⟨W,(HW:J _)⟩:∃W,W=((w.alloc (T #[O I (wj:Int),L H8,L kb] 248)).alloc (T #[O I (b:Int),L jq] 366)).alloc (T #[L jq,L jq] 277):=⟨_,rfl⟩
 have hA:M D w W:=by rw[HW];exact M.allocs3 _ _ _ _ _
 have gG:W.heap[w.heap.size]? =Z (T #[O I (wj:Int),L H8,L kb] 248):=by rw[HW];exact JU _ _ _ _
 have kK:W.heap[w.heap.size+1]? =Z (T #[O I (b:Int),L jq] 366):=by rw[HW];exact JQ _ _ _ _
 have Hw:W.heap[w.heap.size+1+1]? =Z (T #[L jq,L jq] 277):=by rw[HW];exact JE _ _ _ _
 have qu:J (∀V,M D W V->V.heap[w.heap.size]? =Z (T #[O I (wj:Int),L H8,L kb] 248)/\V.heap[w.heap.size+1]? =Z (T #[O I (b:Int),L jq] 366)/\V.heap[w.heap.size+1+1]? =Z (T #[L jq,L jq] 277)):=λV hT=>⟨(hT.block _ (Jb gG) (λh=>h)).trans gG,(hT.block _ (Jb kK) (λh=>h)).trans kK,(hT.block _ (Jb Hw) (λh=>h)).trans Hw⟩
 have HC:J (∀V,M D W V->V.cell? ⟨w.heap.size,0,Y⟩=Z (O I (wj:Int))/\V.cell? ⟨w.heap.size+1,0,Y⟩=Z (O I (b:Int))/\V.cell? ⟨w.heap.size+1+1,0,Y⟩=Z (L jq)/\V.cell? ⟨w.heap.size+1+1,1,Y⟩=Z (L jq)/\(∀j,V.frozen? ⟨w.heap.size+1+1,j,Y⟩=false)):=λV hT=>by
  obtain⟨q0,q1,q2⟩:=qu V hT;exact⟨Ja q0,Ja q1,Ja q2,Ja q2,λj=>Qg _ _ _ _ _ q2⟩
 have hwz:W.heap.size=w.heap.size+3:=by rw[HW];simp
 have HWZ:J _:=hwz;have HA:J _:=hA;clear hA gG kK Hw hwz;obtain⟨a0,a1,a2,a3,a4⟩:=HC W (Te _ _);go_enter func343,ntmps343;go_upto_region 2 with fail;rw[<-HW.o];go_cut [] (λwx=>∃V,wx=V.setRow (w.heap.size+1+1) #[L x,L y]/\J (M D W V))
 case first=>
  obtain rfl|rfl:bb=0\/bb=1:=by omega
  ·go_region_with (first
    | (go_at_call 288;refine(HB _).mono ?_;rintro _ _⟨rfl,rfl⟩)
    | (go_at_call 130;refine(yU _ (HA.go (Td _ _ 1))).mono ?_;rintro _ w2⟨rfl,Ha⟩;have H6:J _:=(Td D W 1).go Ha;obtain⟨b0,b1,b2,b3,b4⟩:=HC _ H6.o))
   all_goals go_wp2
   all_goals go_meet
   all_goals exact⟨w2,(Qj w2 _ 0 _ _ (0,0) _ (qu w2 H6).2.2).trans (by rw[HX.o,HY.o];rfl),H6⟩
  ·go_region_with (first
    | (go_at_call 288;refine(HB _).mono ?_;rintro _ _⟨rfl,rfl⟩)
    | (go_at_call 130;refine(yU _ (HA.go (Td _ _ 1))).mono ?_;rintro _ w2⟨rfl,Ha⟩;have H6:J _:=(Td D W 1).go Ha;obtain⟨b0,b1,b2,b3,b4⟩:=HC _ H6.o;clear Ha))
   all_goals go_wp2
   all_goals go_meet
   all_goals exact⟨w2,(Qj w2 _ 1 _ _ (0,0) _ (qu w2 H6).2.2).trans (by rw[HX.o,HY.o];rfl),H6⟩
 case rest=>
 obtain⟨V,hV,HTV⟩:=hcut;obtain⟨wA,jC⟩:∃wA,wA=wc:=⟨wc,rfl⟩
 subst jC;have tA:M D w wA:=by rw[hV];exact(HA.go HTV).trans (Ts _ _ _) (λj hj=>aN (by omega))
 obtain⟨q0,q1,q2⟩:=qu V HTV.o;have p0:wA.heap[w.heap.size]? =Z (T #[O I (wj:Int),L H8,L kb] 248):=by rw[hV];exact(setRow_other _ _ _ _ (by omega)).trans q0
 have p1:wA.heap[w.heap.size+1]? =Z (T #[O I (b:Int),L jq] 366):=by rw[hV];exact(setRow_other _ _ _ _ (by omega)).trans q1
 have p2:wA.heap[w.heap.size+1+1]? =Z (T #[L x,L y] 277):=by rw[hV];exact Qi _ _ _ _ _ _ q2
 have zq:J (∀U,M D wA U->U.cell? ⟨w.heap.size,0,Y⟩=Z (O I (wj:Int))/\U.cell? ⟨w.heap.size+1,0,Y⟩=Z (O I (b:Int))/\U.cell? ⟨w.heap.size+1+1,0,Y⟩=Z (L x)/\U.cell? ⟨w.heap.size+1+1,1,Y⟩=Z (L y)):=λU hT=>⟨Ja ((hT.block _ (Jb p0) (λh=>h)).trans p0),Ja ((hT.block _ (Jb p1) (λh=>h)).trans p1),Ja ((hT.block _ (Jb p2) (λh=>h)).trans p2),Ja ((hT.block _ (Jb p2) (λh=>h)).trans p2)⟩
 obtain⟨c0,c1,c2,c3⟩:=zq wA (Te _ _);have kI:J _:=tA;clear tA q0 q1 q2 p0 p1 p2 hV HTV HC qu HB yU HX HY a0 a1 a2 a3 a4 HA HW vB;go_upto_region 3 with fail;go_region_held3 (λU=>U.cell? ⟨w.heap.size,0,Y⟩=Z (O I (wj:Int))/\U.cell? ⟨w.heap.size+1,0,Y⟩=Z (O I (b:Int))/\U.cell? ⟨w.heap.size+1+1,0,Y⟩=Z (L x)/\U.cell? ⟨w.heap.size+1+1,1,Y⟩=Z (L y)) (go_keep) ((first
  | (go_at_call 309;refine(ZE _ _ _ _).mono ?_;rintro _ w3⟨rfl,Hs⟩;have Hb:J _:=(Td D wA 1).go Hs;obtain⟨e0,e1,e2,e3⟩:=zq _ Hb.o;clear Hs)
  | (go_at_call 154;refine(n4 _ (kI.go Hb)).mono ?_;rintro _ w4⟨Hu,rfl⟩;have Hm:J _:=(kI.go Hb).go Hu;obtain⟨g0,g1,g2,g3⟩:=zq _ (Hb.go Hu);clear Hu)))
 all_goals go_wp2;go_ret2;exact⟨rfl,Hm⟩

def Ast(w:aA):Prop:=∃t u,w.cell? ⟨11,0,Y⟩=Z (aJ t u)
theorem Ast.tch{S:Nat->Prop}{w w':aA}(h:Ast w)(k:M S w w')(hs:¬S 11):Ast w':=by
 obtain⟨t,u,h⟩:=h;exact⟨t,u,(k.cell (Qr _ _ h) hs).trans h⟩
theorem Jn8(aZ wj:Nat)(H8:BA)(key kk:Key)(qL:key.length<=1000000)(gS:kk.length<=1000000)(b:Nat)(hb:b<8*key.length)(hb':b<8*kk.length)(jq:BA)(i:Int)(v1:Option Addr)(v2 v3:Nat)(m:Bool)(a o:Nat)(w:aA)
 (r0:w.heap[aZ]? =Z (T #[O I (wj:Int),L H8,L ⟨key.toArray⟩] 248)) (r1:w.heap[aZ+1]? =Z (T #[R v1 v2 v3,aL m,L ⟨kk.toArray⟩,O aD (a:Int),O aE (o:Int)] 258)) (hA:bt key b ≠ bt kk b->Ast w):
  aB N 287 #[O I i,aH #[O I (b:Int),L jq],X (Z ⟨aZ,0,Y⟩),X (Z ⟨aZ+1,0,Y⟩)] w λe w'=>M D w w'/\((bt key b=bt kk b/\e=aC aK)\/(bt key b ≠ bt kk b/\∃t u,e=aC (aJ t u))):=by
 have kf:J (∀W,_):=λW=>XL key b hb qL W;have jo:J (∀W,_):=λW=>XL kk b hb' gS W;obtain⟨W,(HW:J _)⟩:∃W,W=w.alloc (T #[O I (b:Int),L jq] 366):=⟨_,rfl⟩
 have tA:M D w W:=by rw[HW];exact Ta _ _ _
 have q0:=(tA.block _ (Jb r0) (λh=>h)).trans r0;have q1:=(tA.block _ (Jb r1) (λh=>h)).trans r1;have q2:W.heap[w.heap.size]? =Z (T #[O I (b:Int),L jq] 366):=by rw[HW];exact Qf _ _
 obtain⟨-, -,c0⟩:=rows q0;obtain⟨-, -,c1⟩:=rows q1;obtain⟨c2, -⟩:=rows q2;have HA:J (bt key b ≠ bt kk b->Ast W):=λh=>(hA h).tch tA (λh=>h);have HT:J _:=tA;clear tA q0 q1 q2 r0 r1 hA;generalize (⟨key.toArray⟩:BA)=k1 at *;generalize (⟨kk.toArray⟩:BA)=k2 at *;generalize bt key b=x at *;generalize bt kk b=y at *
 by_cases hxy:x=y
 ·subst hxy;go_enter func287,ntmps287;go_upto_region 1 with fail;rw[<-HW.o];go_quiet (first|(go_at_call_of 288 (lC k1);exact Calls.quiet_of_same (kf _))|(go_at_call_of 288 (lC k2);exact Calls.quiet_of_same (jo _)));go_wp2;go_ret;exact⟨HT.go (Td _ _ _),aM ⟨trivial,rfl⟩⟩
 ·have Hl:¬(x:Int)=(y:Int):=by omega
  obtain⟨t,u,Ho⟩:=HA hxy;have bK:J _:=hxy;go_enter func287,ntmps287;go_upto_region 1 with fail;rw[<-HW.o];go_quiet (first|(go_at_call_of 288 (lC k1);exact Calls.quiet_of_same (kf _))|(go_at_call_of 288 (lC k2);exact Calls.quiet_of_same (jo _)));go_wp2;go_ret;exact⟨HT.go (Td _ _ _),aN ⟨bK,_,_,rfl⟩⟩
structure JlC(w0:aA)(key:Key)(wy:Wy)(i:Nat)(w:aA):Prop where
 tch:M D w0 w
 eq:∀(j:Nat) s,j<i->wy.1[j]? =Z s->bt key s.1=bt (Xn wy) s.1
def JlB(w0:aA)(key:Key)(wy:Wy)(v:aG)(w:aA):Prop:=M D w0 w/\(∃s∈wy.1,bt key s.1 ≠ bt (Xn wy) s.1)/\∃t u,v=aJ t u
theorem Jkg(wy:Wy):ji wy=⟨(Xn wy).toArray⟩:=by
 obtain⟨l,e⟩:=wy
 cases e<;>rfl
theorem JfS(h:WyOk wj wy):(Xn wy).length=(if wy.1=[] then (Xn wy).length else wj+1):=by
 split
 ·rfl
 ·rename_i hn;obtain⟨l,e⟩:=wy
  cases e with
  | none=>exact absurd (h.bare rfl) hn
  | some x=>exact(h.key x rfl).1
theorem Jiv(wj:Nat)(hw:wj<=32)(H8:BA)(key:Key)(hk:key.length=wj+1)(wy:Wy)(Hg:WyOk wj wy)(w0:aA)(aZ:Nat)(g off:Nat)(hz:g<w0.heap.size)(v1:Option Addr)(v2 v3:Nat)(m:Bool)(a o:Nat)
 (r0:w0.heap[aZ]? =Z (T #[O I (wj:Int),L H8,L ⟨key.toArray⟩] 248)) (r1:w0.heap[aZ+1]? =Z (T #[R v1 v2 v3,aL m,L (ji wy),O aD (a:Int),O aE (o:Int)] 258))
 (hA:(∃s∈wy.1,bt key s.1 ≠ bt (Xn wy) s.1)->Ast w0)
 (hr:∀i (h:i<wy.1.length),w0.cell? ⟨g,off+i*2,Y⟩=Z (O I ((wy.1[i].1:Nat):Int))/\w0.cell? ⟨g,off+i*2+1,Y⟩=Z (L wy.1[i].2)):
  JcW 287 #[X (Z ⟨aZ,0,Y⟩),X (Z ⟨aZ+1,0,Y⟩)] g off wy.1.length (λi=>(wy.1.map encS).getD i zS) (JlC w0 key wy) (JlB w0 key wy):=by
 have hx:∀i (h:i<wy.1.length),(wy.1.map encS).getD i zS=encS wy.1[i]:=λi h=>by simp[List.getD_eq_getElem?_getD,h]
 refine⟨λ_ _=>rfl,?_,?_,?_⟩
 ·rintro i w hi aT;rw[hx i hi];have hc:∀o,w.cell? ⟨g,o,Y⟩=w0.cell? ⟨g,o,Y⟩:=λo=>aT.tch.cell (p:=⟨g,o,Y⟩) hz (λh=>h);rw[hc,hc];exact hr i hi
 ·rintro i w o aT;exact⟨aT.tch.go (Ta _ _ _),aT.eq⟩
 ·rintro i w hi aT;rw[hx i hi];have hs:=Hg.steps wy.1[i] (Qx hi);have hl:=JfS Hg;rw[if_neg (λe=>by rw[e]at hi;simp at hi)]at hl;rw[Jkg]at r1;refine(Jn8 aZ wj H8 key (Xn wy) (by omega) (by omega) wy.1[i].1 (by have:=hs.1;omega) (by have:=hs.1;omega) wy.1[i].2 (i:Int) v1 v2 v3 m a o w ((aT.tch.block _ (Jb r0) (λh=>h)).trans r0) ((aT.tch.block _ (Jb r1) (λh=>h)).trans r1) (λh=>(hA ⟨_,Qx hi,h⟩).tch aT.tch (λh=>h))).mono ?_;rintro e w'⟨ht,⟨he,rfl⟩|⟨he,t,u,rfl⟩⟩
  ·refine aM ⟨rfl,aT.tch.go ht,λj s hj kZ=>?_⟩
   by_cases pW:j=i
   ·subst pW;rw[Qd hi]at kZ
    cases kZ
    exact he
   ·exact aT.eq j s (by omega) kZ
  ·exact aN ⟨t,u,rfl,aT.tch.go ht,⟨_,Qx hi,he⟩,t,u,rfl⟩
theorem Jky(fv:aG)(what:BA)(w:aA):aB N 286 #[L what,R Y 0 0,fv] w λe w'=>e=aC aK/\w=w':=by
 go_enter func286,ntmps286;go_wp2;go_loopw [12] (λi wr=>i=O I 0/\w=wr) (λi _=>0)
 case atStart=>exact⟨rfl,rfl⟩
 case round=>obtain⟨rfl,rfl⟩:=hrel;go_wp2;go_ret;exact⟨rfl,rfl⟩
theorem JeR(E:Nat->Addr)(wj:Nat)(hw:wj<=32)(H8:BA)(key:Key)(hk:key.length=wj+1)(wy:Wy)(Hg:WyOk wj wy)(v1:Option Addr)(v2 v3:Nat)(m:Bool)(a o:Nat)(w:aA)(hE:Env E w)(hv:VAt w.heap.size w (R v1 v2 v3) (wy.1.map encS))(hA:(∃s∈wy.1,bt key s.1 ≠ bt (Xn wy) s.1)->Ast w):
  aB N 213 #[qV wj H8 ⟨key.toArray⟩,wV v1 v2 v3 m (ji wy) a o] w λe w'=>M D w w'/\(((∀s∈wy.1,bt key s.1=bt (Xn wy) s.1)/\e=aC aK)\/((∃s∈wy.1,bt key s.1 ≠ bt (Xn wy) s.1)/\∃t u,e=aC (aJ t u))):=by
 obtain⟨W,(HW:J _)⟩:∃W,W=(w.alloc (T #[O I (wj:Int),L H8,L ⟨key.toArray⟩] 248)).alloc (T #[R v1 v2 v3,aL m,L (ji wy),O aD (a:Int),O aE (o:Int)] 258):=⟨_,rfl⟩
 have tA:=vM HW;have r0:=kt HW;have r1:=hnn HW;have yq:=hE.tch tA noE;have yM:J (∀what:BA,what.size<=1000->aB N 286 #[L what,R v1 v2 v3,.func (.func 287) #[] #[X (Z ⟨w.heap.size,0,Y⟩),X (Z ⟨w.heap.size+1,0,Y⟩)]] W λe w'=>ToE (JlC W key wy) (JlB W key wy) wy.1.length e w'):=λwhat gU=>by
  rcases hv with⟨e1,e2⟩|⟨gi,oi,c,e1,h1,h2,tC⟩
  ·have hnil:wy.1=[]:=(by simpa using e2);rw[e1];refine(Jky _ _ _).mono ?_;rintro _ _⟨rfl,rfl⟩;exact aM ⟨rfl,Te _ _,λj s hj=>by rw[hnil]at hj;simp at hj⟩
  ·rw[e1,QM];refine JqC _ _ _ _ _ _ _ _ (λi hi=>?_) _ _ (Jiv wj hw H8 key hk wy Hg W w.heap.size gi oi (Qk h2 tA.size) v1 v2 v3 m a o r0 r1 (λh=>(hA h).tch tA (λh=>h)) (λi hi=>?_)) (by have:=Hg.len;omega) (λv V hb i hi=>JdQ (yq.tch hb.1 noE) i (by have:=Hg.len;omega)) gU W ⟨Te _ _,λj s hj=>absurd hj (Nat.not_lt_zero _)⟩
   ·simp only[Qn,List.getElem?_map,Qd hi];exact⟨_,_,rfl⟩
   ·have hc:∀o,_:=λo=>tA.cell (p:=⟨gi,o,Y⟩) h2 (λh=>h);have:=tC i (by simpa using hi);rw[hc,hc];simpa [encS]using this
 obtain⟨hc, -⟩:=rows r1;have HT:J _:=tA;have uQ:∀(fn:Fn)(first cap:Array aG)(w:aA),(Instr.makeFunc fn first cap).run N w=.ok (.func fn first cap) w:=λ_ _ _ _=>rfl;clear tA r0 r1 yq hv hE hA Hg hk;go_enter func213,ntmps213;go_upto_region 1 with fail;rw[<-HW.o];go_wp2_with fail;refine(yM _ (by decide)).mono ?_;rintro e w2 (⟨rfl,aT⟩|⟨p,sx,vx,w1,rfl,hp,⟨ht,(tY:J _),hv⟩,xU⟩)
 ·have H6:J _:=HT.go aT.tch;have HEQ:J (∀s∈wy.1,bt key s.1=bt (Xn wy) s.1):=λs hs=>by
   obtain⟨j,hj,rfl⟩:=List.getElem_of_mem hs;exact aT.eq j _ hj (Qd hj)
  go_wp2;go_ret;exact⟨H6,aM ⟨HEQ,rfl⟩⟩
 ·have H6:J _:=(HT.go ht).go ((M.of_below xU).mono (λ_ hj=>aN hj));clear ht hv xU hp;go_wp2;go_ret;exact⟨H6,aN ⟨tY,_,_,rfl⟩⟩

attribute [local go_sem] Oper.semAt_some

def Zv(d:List UInt8->BA)(key:Key)(e:List UInt8)(l:List Stp)(j:Nat):List UInt8:=(JM d key e (l.drop j)).headD []
theorem ZH(d:List UInt8->BA)(key:Key)(e:List UInt8):∀(l:List Stp)(j:Nat),j<=l.length->(JM d key e l)[j]? =Z (Zv d key e l j)
 | [],j,h=>by
  obtain rfl:j=0:=by simpa using h
  rfl
 | s::r,0,_=>rfl
 | s::r,j+1,h=>by
  have:=ZH d key e r j (by simpa using h);obtain⟨b,jq⟩:=s;simpa [JM,Zv]using this
theorem JcI(d:List UInt8->BA)(key:Key)(e:List UInt8)(l:List Stp):Zv d key e l l.length=e:=by simp[Zv,JM]
theorem JbH(d:List UInt8->BA)(key:Key)(e:List UInt8)(l:List Stp)(j:Nat)(h:j<l.length):Zv d key e l j=78::(Hf l[j].1 2 2++(if bt key l[j].1=0 then (d (Zv d key e l (j+1))).data.toList++l[j].2.data.toList else l[j].2.data.toList++(d (Zv d key e l (j+1))).data.toList)):=by
 unfold Zv;rw[List.drop_eq_getElem_cons h];generalize l[j]=s;obtain⟨b,jq⟩:=s;rfl
theorem JcJ(wj:Nat)(hw:wj<=32)(key:Key)(e:List UInt8)(he:e.length<=1000)(l:List Stp)(hl:∀s∈l,Zu wj s)(j:Nat)(h:j<=l.length):(Zv (H3 wj) key e l j).length<=1000:=by
 by_cases hj:j<l.length
 ·rw[JbH _ _ _ _ _ hj];have hs:=(hl _ (Qx hj)).2;have hd:=Jk wj hw (Zv (H3 wj) key e l (j+1));have e1:(H3 wj (Zv (H3 wj) key e l (j+1))).data.toList.length=wj:=by simpa using hd
  have e2:l[j].2.data.toList.length=wj:=by simpa using hs
  split<;>simp only[Qp,Qe,Jf,e1,e2]<;>omega
 ·obtain rfl:j=l.length:=by omega
  rw[JcI];exact he
def upsT(d:List UInt8->BA)(wy:Wy):List BA:=(wy.nodes d).reverse.map λt=>⟨t.toArray⟩
theorem ZU(d:List UInt8->BA)(wy:Wy):(upsT d wy).length=wy.1.length+1:=by simp[upsT,Wy.nodes,JZ]
theorem JnN(d:List UInt8->BA)(wy:Wy)(p:Nat)(hp:p<=wy.1.length):(upsT d wy)[p]? =Z ⟨(Zv d (Xn wy) (Xb wy.2) wy.1 (wy.1.length-p)).toArray⟩:=by
 unfold upsT;rw[List.getElem?_map,List.getElem?_reverse (by simp[Wy.nodes,JZ];omega)];have hl:(wy.nodes d).length=wy.1.length+1:=by simp[Wy.nodes,JZ]
 rw[hl,show wy.1.length+1-1-p=wy.1.length-p by omega];unfold Wy.nodes;rw[ZH d _ _ _ _ (by omega)];rfl
theorem JaS(hw:wj<=32)(h:WyOk wj wy):(Xb wy.2).length<=1000:=by
 obtain⟨l,e⟩:=wy
 cases e with
 | none=>simp[Xb]
 | some x=>
  obtain⟨k,o⟩:=x;have:=(h.key _ rfl).1;simp only[Xb,outB,Qp,Qe,Jf];dsimp only at this;omega
structure UpAt(E:Nat->Addr)(n₀ Bq Bw wj:Nat)(H8 kb:BA)(v1:Option Addr)(v2 v3:Nat)(wy:Wy)(W:aA):Prop where
 env:Env E W
 low:18<=n₀
 q:W.heap[Bq]? =Z (T #[O I (wj:Int),L H8,L kb] 248)
 way:W.heap[Bw]? =Z (T #[R v1 v2 v3,aL wy.2.isSome,L (ji wy),O aD ((gE wy).1:Int),O aE ((gE wy).2:Int)] 258)
 st:VAt n₀ W (R v1 v2 v3) (wy.1.map encS)
def JbR(n₀ Bq Bw:Nat)(W W':aA):Prop:=Below n₀ W W'/\(∀cs aY,W.heap[Bq]? =Z (T cs aY)->W'.heap[Bq]? =Z (T cs aY))/\(∀cs aY,W.heap[Bw]? =Z (T cs aY)->W'.heap[Bw]? =Z (T cs aY))
theorem UpAt.keep(h:UpAt E n₀ Bq Bw wj H8 kb v1 v2 v3 wy W)(k:JbR n₀ Bq Bw W W'):UpAt E n₀ Bq Bw wj H8 kb v1 v2 v3 wy W':=
 ⟨h.env.tch (M.of_below k.1) (λ_ hj=>Qm h.low hj),h.low,k.2.1 _ _ h.q,k.2.2 _ _ h.way,h.st.tch (M.of_below k.1) (λ_ hj=>hj)⟩
theorem UpAt.next(h:UpAt E n₀ Bq Bw wj H8 kb v1 v2 v3 wy W)(k:M D W W'):UpAt E n₀ Bq Bw wj H8 kb v1 v2 v3 wy W':=
 ⟨h.env.tch k (λ_ hj=>hj.elim),h.low,(k.block _ (Jb h.q) (λe=>e)).trans h.q,(k.block _ (Jb h.way) (λe=>e)).trans h.way,h.st.tch k (λ_ hj=>hj.elim)⟩
theorem UpAt.step(h:UpAt E n₀ Bq Bw wj H8 kb v1 v2 v3 wy W)(Hl:0<wy.1.length):∃gi oi,v1=Z ⟨gi,oi,Y⟩/\v2=wy.1.length:=by
 rcases h.st with⟨e,e2⟩|⟨gi,oi,c,e,_⟩
 ·have:wy.1=[]:=by simpa using e2
  rw[this]at Hl;simp at Hl
 ·simp only[Qy,QM]at e;exact⟨gi,oi,e.1,e.2.1⟩
theorem UpAt.len(h:UpAt E n₀ Bq Bw wj H8 kb v1 v2 v3 wy W):v2=wy.1.length:=by
 obtain⟨a,c,e⟩:=h.st.shape;simp only[Qy,QM]at e;exact e.2.1
theorem UpAt.cells{gi oi:Nat}(h:UpAt E n₀ Bq Bw wj H8 kb (Z ⟨gi,oi,Y⟩) v2 v3 wy W)(j:Nat)(hj:j<wy.1.length):W.cell? ⟨gi,oi+j*2,Y⟩=Z (O I (wy.1[j].1:Int))/\W.cell? ⟨gi,oi+j*2+1,Y⟩=Z (L wy.1[j].2):=by
 rcases h.st with⟨e,e2⟩|⟨gi',oi',c,e,_,_,hc⟩
 ·cases e
 ·simp only[Qy,Qh,Addr.mk.injEq]at e;obtain⟨⟨rfl,rfl,_⟩,_,_⟩:=e;have:=hc j (by simpa using hj);simpa [encS]using this
def Jjw(v:aG):Nat:=match v with
 | O _ z=>(z+1).toNat
 | _=>0
theorem Jqo(E:Nat->Addr)(n:Nat)(hn:2<=n)(l Bq Bw n₀:Nat)(wj:Nat)(Hn:1<=wj)(hw:wj<=32)(H8 kb:BA)(v1:Option Addr)(v2 v3:Nat)(wy:Wy)(Hg:WyOk wj wy)(aR Jx:List BA->aA->Prop)
 (hJ:∀H4 W W',aR H4 W->M D W W'->aR H4 W')
 (hY:∀H4 x W,aR H4 W->(upsT (H3 wj) wy)[H4.length]? =Z x->YieldAt Fence.wide (n-1) N l #[L x,aK] W λe W'=>
 (e=aC (aL true)/\aR (H4++[x]) W'/\JbR n₀ Bq Bw W W')\/(e=aC (aL false)/\Jx (H4++[x]) W'))
 (W:aA) (hU:UpAt E n₀ Bq Bw wj H8 kb v1 v2 v3 wy W) (h0:aR [] W):
  CallsIn Fence.wide n N 341 #[.func (.yield l) #[] #[],X (Z ⟨Bq,0,Y⟩),X (Z ⟨Bw,0,Y⟩)] W λe W'=>(∃v,e=aC v)/\
   ((∃ys,ys=upsT (H3 wj) wy/\aR ys W')\/(∃H4,H4 <+:upsT (H3 wj) wy/\Jx H4 W')):=by
 have yF:J _:=Hg;have jB:J (∀V,UpAt E n₀ Bq Bw wj H8 kb v1 v2 v3 wy V->_):=λV hV=>JpL E wj hw H8 kb v1 v2 v3 wy Hg V hV.env;have kn:=hU.len;obtain⟨q0,q1,q2⟩:=rows hU.q;obtain⟨a0,a1,a2,a3,a4⟩:=rows hU.way;have HU:J _:=hU;obtain⟨aX,hX⟩:∃aX:Nat->BA,aX=λp=>⟨(Zv (H3 wj) (Xn wy) (Xb wy.2) wy.1 (wy.1.length-p)).toArray⟩:=⟨_,rfl⟩
 have bo:J (⟨(Xb wy.2).toArray⟩=aX 0):=by show _=aX 0;rw[hX];dsimp only;rw[Nat.sub_zero,JcI]
 have HXG:J (∀p,p<=wy.1.length->(upsT (H3 wj) wy)[p]? =Z (aX p)):=λp hp=>by rw[hX];exact JnN (H3 wj) wy p hp
 have HAB:J (∀p j (hj:j<wy.1.length),p+j+1=wy.1.length->∀V,Env E V->aB N 343 #[qV wj H8 kb,L (aX p),aH #[O I (wy.1[j].1:Int),L wy.1[j].2],L (ji wy)] V λe w'=>e=aC (aI #[L (aX (p+1)),aK])/\M D V w'):=λp j hj hpj V hE=>by
  have ju:=JfS Hg;rw[if_neg (λe=>by rw[e]at hj;simp at hj)]at ju;have zp:(aX p).size<=1000:=by rw[hX];dsimp only;rw[Ji];exact JcJ wj hw _ _ (JaS hw Hg) _ Hg.steps _ (by omega)
  have:=JlQ E wj Hn hw H8 kb (aX p) zp wy.1[j] (Hg.steps _ (Qx hj)) (Xn wy) ju V hE;rw[<-Jkg]at this;refine this.mono λe w' h=>⟨?_,h.2⟩
  rw[h.1,hX];dsimp only;rw[show wy.1.length-(p+1)=j by omega,show wy.1.length-p=j+1 by omega,JbH _ _ _ _ _ hj]
 clear hX;have gq:J _:=kn;have Hq:=Hg.len;have hv2b:v2<=264:=by omega
 clear hU Hg kn Hq;generalize hwk:ji wy=wk at *;have HWK:J _:=hwk;clear hwk
 by_cases hz:v2=0
 ·have HZ:J _:=hz;clear hz;refine callsIn_of_wp func341 rfl trivial ?_ rfl;simp only[ntmps341,lI,Qp,Qv,lN,lO,lD,lE,lJ,lF,lH,lG];gi_wp2;refine⟨trivial,λ_=>by omega,(callsIn_wide.2 (jB W HU)).mono ?_⟩;rintro _ W1⟨rfl,(H5:J _)⟩;have a0:W1.cell? ⟨Bw,0,Y⟩=Z (R v1 v2 v3):=Ja (HU.next H5).way;clear jB q0 q1 q2 a1 a2 a3 a4;have de:=hJ [] W W1 h0 H5.o;have HU1:J _:=HU.next H5.o;have HJ:J _:=hJ;have HY:J _:=hY;have HJ1:J _:=de;clear HU H5 hJ hY de h0;rw[bo.o];gi_wp2;gi_loopw [4,5,6] (λt e i wr=>∃p,p<=v2/\t=L (aX p)/\e=aK/\i=O I ((v2:Int)-1-(p:Int))/\J (UpAt E n₀ Bq Bw wj H8 kb v1 v2 v3 wy wr)/\J (aR ((upsT (H3 wj) wy).take p) wr))
   (λt e i wr=>Jjw i)
  case atStart=>exact⟨0,lR _,rfl,rfl,by simp,HU1,HJ1⟩
  case round=>
   obtain⟨p,hp,rfl,rfl,rfl,rX,m9⟩:=hrel;have nG:=ZU (H3 wj) wy;have ur:=HXG p (by rw[<-gq.o];exact hp);have mc:((upsT (H3 wj) wy).take p).length=p:=(by rw[QB,nG,<-gq.o];omega);have vI:(upsT (H3 wj) wy).take p++[aX p]=(upsT (H3 wj) wy).take (p+1):=(by rw[lS,ur];rfl);obtain⟨fn,tmps,assign,body,hy,hR⟩:=HY _ (aX p) wr m9 (by rw[mc];exact ur);rw[vI]at hR;have pO:J ((upsT (H3 wj) wy).length=v2+1):=(by rw[nG,gq.o]:(upsT (H3 wj) wy).length=v2+1)
   clear nG ur mc vI;gi_wp2;refine⟨λ_=>by omega,hR.mono ?_⟩;clear hR hy;rintro e W3 (⟨rfl,(al:J _),zg⟩|⟨rfl,sE⟩)
   ·have am:J _:=rX.keep zg;clear zg rX m9
    by_cases qq:p<v2
    ·exact absurd qq (by have:=HZ.o;omega)
    ·have Hl:¬(0:Int)<=(v2:Int)-1-(p:Int):=(by omega);have tK:p=v2:=(by omega);have cY:J _:=tK;clear qq hp tK;gi_wp2;refine bodyPost_end (v:=aI #[]) (results_none results341 _ _ _) rfl ?_;refine⟨⟨_,rfl⟩,aM ⟨_,?_,al⟩⟩;exact QS (by rw[pO.o,cY.o];exact Ql _)
   ·gi_wp2;refine bodyPost_end (v:=aI #[]) (results_none results341 _ _ _) rfl ?_;exact⟨⟨_,rfl⟩,aN ⟨_,lW _ _,sE⟩⟩
 ·obtain⟨gi,oi,rfl,hv2'⟩:=HU.step (by rw[<-gq.o];omega);clear hv2' hz;refine callsIn_of_wp func341 rfl trivial ?_ rfl;simp only[ntmps341,lI,Qp,Qv,lN,lO,lD,lE,lJ,lF,lH,lG];gi_wp2;refine⟨trivial,λ_=>by omega,(callsIn_wide.2 (jB W HU)).mono ?_⟩;rintro _ W1⟨rfl,(H5:J _)⟩;have a0:W1.cell? ⟨Bw,0,Y⟩=Z (R (Z ⟨gi,oi,Y⟩) v2 v3):=Ja (HU.next H5).way;clear jB q0 q1 q2 a1 a2 a3 a4;have de:=hJ [] W W1 h0 H5.o;have HU1:J _:=HU.next H5.o;have HJ:J _:=hJ;have HY:J _:=hY;have HJ1:J _:=de;clear HU H5 hJ hY de h0;rw[bo.o];gi_wp2;gi_loopw [4,5,6] (λt e i wr=>∃p,p<=v2/\t=L (aX p)/\e=aK/\i=O I ((v2:Int)-1-(p:Int))/\J (UpAt E n₀ Bq Bw wj H8 kb (Z ⟨gi,oi,Y⟩) v2 v3 wy wr)/\J (aR ((upsT (H3 wj) wy).take p) wr))
   (λt e i wr=>Jjw i)
  case atStart=>exact⟨0,lR _,rfl,rfl,by simp,HU1,HJ1⟩
  case round=>
   obtain⟨p,hp,rfl,rfl,rfl,rX,m9⟩:=hrel;have nG:=ZU (H3 wj) wy;have ur:=HXG p (by rw[<-gq.o];exact hp);have mc:((upsT (H3 wj) wy).take p).length=p:=(by rw[QB,nG,<-gq.o];omega);have vI:(upsT (H3 wj) wy).take p++[aX p]=(upsT (H3 wj) wy).take (p+1):=(by rw[lS,ur];rfl);obtain⟨fn,tmps,assign,body,hy,hR⟩:=HY _ (aX p) wr m9 (by rw[mc];exact ur);rw[vI]at hR;have pO:J ((upsT (H3 wj) wy).length=v2+1):=(by rw[nG,gq.o]:(upsT (H3 wj) wy).length=v2+1)
   clear nG ur mc vI;gi_wp2;refine⟨λ_=>by omega,hR.mono ?_⟩;clear hR hy;rintro e W3 (⟨rfl,(al:J _),zg⟩|⟨rfl,sE⟩)
   ·have am:J _:=rX.keep zg;clear zg rX m9
    by_cases qq:p<v2
    ·obtain⟨j,hj⟩:∃j,p+j+1=v2:=⟨v2-1-p,by omega⟩
     have ei:(v2:Int)-1-(p:Int)=(j:Int):=(by omega);rw[ei];have hjl:j<wy.1.length:=(by rw[<-gq.o];omega);have HC:J (∀V,M D W3 V->(V.cell? ⟨Bq,0,Y⟩=Z (O I (wj:Int))/\V.cell? ⟨Bq,1,Y⟩=Z (L H8)/\V.cell? ⟨Bq,2,Y⟩=Z (L kb)/\V.cell? ⟨Bw,0,Y⟩=Z (R (Z ⟨gi,oi,Y⟩) v2 v3)/\V.cell? ⟨Bw,2,Y⟩=Z (L wk)/\V.cell? ⟨gi,oi+j*2,Y⟩=Z (O I (wy.1[j].1:Int))/\V.cell? ⟨gi,oi+j*2+1,Y⟩=Z (L wy.1[j].2))):=λV hT=>by
      have hV:=am.o.next hT;exact⟨Ja hV.q,Ja hV.q,Ja hV.q,Ja hV.way,(by rw[<-HWK.o];exact Ja hV.way),(hV.cells j hjl).1,(hV.cells j hjl).2⟩
     have bB:J (∀V,M D W3 V->_):=λV hT=>HAB p j hjl (by rw[<-gq.o];exact hj) V (am.next hT).env;have HPJ:J _:=hj;have hj0:(0:Int)<=(j:Int):=(by omega);have hj1:(j:Int)<(v2:Int):=(by omega);obtain⟨sb,so,hsj⟩:∃sb so,wy.1[j]=(sb,so):=⟨_,_,rfl⟩
     rw[hsj]at HC bB;dsimp only at HC bB;clear hsj hjl;obtain⟨b0,b1,b2,b3,b4,b5,b6⟩:=HC W3 (Te _ _);clear hj ei qq hp;gi_wp2;refine wpIn_wide.2 ?_;go_region_held3 (λV=>V.cell? ⟨Bq,0,Y⟩=Z (O I (wj:Int))/\V.cell? ⟨Bq,1,Y⟩=Z (L H8)/\V.cell? ⟨Bq,2,Y⟩=Z (L kb)/\V.cell? ⟨Bw,0,Y⟩=Z (R (Z ⟨gi,oi,Y⟩) v2 v3)/\V.cell? ⟨Bw,2,Y⟩=Z (L wk)/\V.cell? ⟨gi,oi+j*2,Y⟩=Z (O I (sb:Int))/\V.cell? ⟨gi,oi+j*2+1,Y⟩=Z (L so)) (go_keep) ((go_at_call 343;refine(bB _ (Td _ _ 1)).mono ?_;rintro _ w4⟨rfl,Hu⟩;have Hm:J _:=(Td D W3 1).go Hu;obtain⟨d0,d1,d2,d3,d4,d5,d6⟩:=HC _ Hm.o;clear Hu))
     all_goals gi_wp2;go_roundw
     case rel=>
      refine⟨p+1,by have:=HPJ.o;omega,rfl,rfl,?_,am.next Hm,HJ _ _ _ al Hm⟩;have:=HPJ.o
      congr 1
      omega
     case measure=>have:=HPJ.o;simp only[Jjw];omega
    ·have Hl:¬(0:Int)<=(v2:Int)-1-(p:Int):=(by omega);have tK:p=v2:=(by omega);have cY:J _:=tK;clear qq hp tK;gi_wp2;refine bodyPost_end (v:=aI #[]) (results_none results341 _ _ _) rfl ?_;refine⟨⟨_,rfl⟩,aM ⟨_,?_,al⟩⟩;exact QS (by rw[pO.o,cY.o];exact Ql _)
   ·gi_wp2;refine bodyPost_end (v:=aI #[]) (results_none results341 _ _ _) rfl ?_;exact⟨⟨_,rfl⟩,aN ⟨_,lW _ _,sE⟩⟩
theorem Jlx(E:Nat->Addr)(n:Nat)(hn:2<=n)(Bq Bw n₀:Nat)(wj:Nat)(Hn:1<=wj)(hw:wj<=32)(H8 kb:BA)(v1:Option Addr)(v2 v3:Nat)(wy:Wy)(Hg:WyOk wj wy)(w:aA)(hU:UpAt E n₀ Bq Bw wj H8 kb v1 v2 v3 wy w):
  SeqStopsK Fence.wide n N 341 #[X (Z ⟨Bq,0,Y⟩),X (Z ⟨Bw,0,Y⟩)] (λx:BA=> #[L x,aK]) (JbR n₀ Bq Bw) (λys=>ys=upsT (H3 wj) wy) (λH4=>H4 <+:upsT (H3 wj) wy) (upsT (H3 wj) wy).length w:=λl aR Jx W hW hJ _ hY h0=>
 Jqo E n hn l Bq Bw n₀ wj Hn hw H8 kb v1 v2 v3 wy Hg aR Jx (λH4 W1 W2 h k=>hJ H4 W1 W2 Y h ⟨k.os,k.tape,k.output,k.size,λj hj _=>k.block j hj (λe=>e)⟩ (λr e=>by cases e)) (λH4 x W hJ hx=>hY H4 x W hJ (Qo.1 hx).1) W (hU.next ((M.of_below hW).mono (λ_ hj=>aN hj))) h0
end Go.Proofs.YtighkdnooglfjaaGreatDoor
namespace Go.Proofs
open Go.Proofs.Tryz
open Go.Shelf
def JeX:Go.Shelf.Ren:=⟨fun|35=>290|n=>n,fun|22=>58|23=>9|3=>3|4=>4|0=>0|n=>n,fun|n=>n⟩
theorem JkL:SlLaysE.n35 N JeX:={
 mixed:=by kernel_rfl
 f35:=Exists.intro "slices.Reverse[[]string,string]" ⟨by decide,func290.trans (congrArg Z (by kernel_rfl))⟩
 t0:=underlying0
 a0:=isAgg0
 z0:=sizeOf0
 v0:=zeroValue0
 t3:=underlying3
 a3:=isAgg3
 z3:=sizeOf3
 v3:=zeroValue3
 t4:=underlying4
 a4:=isAgg4
 z4:=sizeOf4
 v4:=zeroValue4
 t22:=underlying58
 a22:=isAgg58
 z22:=sizeOf58
 v22:=zeroValue58
 a23:=isAgg9
 z23:=sizeOf9 }
theorem YtighkdnooglfjaaGreatDoor.tch_putRow(w:aA)(n blk off:Nat)(d:Array ByteArray):YtighkdnooglfjaaGreatDoor.M (λj=>j=blk) w (Go.Sort.putRow lC (Go.Sort.ahead w n) blk off d):=by
 refine⟨rfl,rfl,rfl,by simp[Go.Sort.ahead],λk _ hk=>?_⟩;simp only[Go.Sort.putRow,Go.Sort.mapBlock,Go.Sort.ahead];rw[Array.getElem?_modify,if_neg (λe=>hk e.symm)]
theorem YtighkdnooglfjaaGreatDoor.reverse_any(blk cap:Nat)(zs:List ByteArray)(w:aA)(hc:∀j (h:j<zs.length),w.cell? ⟨blk,j,Y⟩=Z (L zs[j])/\w.frozen? ⟨blk,j,Y⟩=false)(hz:zs.length<=1000000):
  aB N 290 #[R (Z ⟨blk,0,Y⟩) zs.length cap] w λe w'=>e=aC (aI #[])/\YtighkdnooglfjaaGreatDoor.M (λj=>j=blk) w w'/\∀j (h:j<zs.reverse.length),w'.cell? ⟨blk,j,Y⟩=Z (L zs.reverse[j]):=by
 have hH:Go.Sort.Holds lC w blk 0 zs.toArray:=λj hj=>by
  have xg:j<zs.length:=by simpa using hj
  obtain⟨h1,h2⟩:=hc j xg;rw[lX];refine⟨?_,h2⟩;rw[h1];simp[xg]
 refine(AnyE.slices_Reverse JkL lC (λ_=>rfl) blk 0 cap zs w hH (by omega)).mono ?_;rintro e w'⟨rfl,n,rfl⟩;refine⟨rfl,YtighkdnooglfjaaGreatDoor.tch_putRow _ _ _ _ _,λj h=>?_⟩;have h0:Go.Sort.Holds lC (Go.Sort.ahead w n) blk 0 zs.toArray:=hH;have:=Go.Sort.cell?_putRow lC (Go.Sort.ahead w n) blk 0 zs.toArray zs.reverse.toArray h0 (by simp) j (by simpa using h);rw[lX]at this;rw[this];have xg:j<zs.length:=by simpa using h
 simp[xg]
end Go.Proofs
namespace Go.Proofs.YtighkdnooglfjaaGreatDoor
open Go.Proofs.Tryz
open Go.RowKit Go.Shelf

attribute [local go_sem] Oper.semAt_some

def nV(l:List BA):List aG:=l.map L
def NOwn(base:Nat)(w:aA)(v:aG)(l:List BA):Prop:=w.ownsRow base 9 1 v l.length (nV l)
theorem NOwn.nil(base:Nat)(w:aA):NOwn base w (R Y 0 0) []:=⟨rfl,aM ⟨rfl,rfl⟩⟩
theorem NOwn.own{base:Nat}{w:aA}{v:aG}{l:List BA}(h:NOwn base w v l):∀k,v.ownBlock=Z k->base<=k/\∃cs m,w.heap[k]? =Z (T cs 9 m):=by
 obtain⟨_,⟨rfl,h0⟩|⟨g,cap,cur,rfl,hb,hZ,_⟩⟩:=h
 ·intro k hk;cases hk
 ·intro k hk;cases hk;exact⟨hb,_,_,hZ⟩
theorem NOwn.tch{base:Nat}{w w':aA}{v:aG}{l:List BA}{S:Nat->Prop}(h:NOwn base w v l)(k:M S w w')(hs:∀j,v.ownBlock=Z j->¬S j):NOwn base w' v l:=by
 obtain⟨h1,⟨rfl,h0⟩|⟨g,cap,cur,rfl,hb,hZ,h2⟩⟩:=h
 ·exact⟨h1,aM ⟨rfl,h0⟩⟩
 ·exact⟨h1,aN ⟨g,cap,cur,rfl,hb,(k.block g (Jb hZ) (hs g rfl)).trans hZ,h2⟩⟩
theorem NOwn.kept{base:Nat}{W W':aA}{v:aG}{l:List BA}{row:Option Nat}(h:NOwn base W v l)(hg:W.grownBy W' row)(hr:∀r,row=Z r->∃o:Obj,W.heap[r]? =Z o/\o.isCells=false):NOwn base W' v l:=by
 obtain⟨h1,⟨rfl,h0⟩|⟨g,cap,cur,rfl,hb,hZ,h2⟩⟩:=h
 ·exact⟨h1,aM ⟨rfl,h0⟩⟩
 ·exact⟨h1,aN ⟨g,cap,cur,rfl,hb,Ju hZ hg hr,h2⟩⟩
theorem NOwn.at{base:Nat}{w:aA}{v:aG}{l:List BA}(h:NOwn base w v l)(hl:l ≠ []):∃g cap,v=R (Z ⟨g,0,Y⟩) l.length cap/\base<=g/\g<w.heap.size/\(∃cs m,w.heap[g]? =Z (T cs 9 m))/\∀i (hi:i<l.length),w.cell? ⟨g,i,Y⟩=Z (L l[i])/\w.frozen? ⟨g,i,Y⟩=false:=by
 obtain⟨_,⟨rfl,h0⟩|⟨g,cap,cur,rfl,hb,hZ,_,_,Hp,kU⟩⟩:=h
 ·exact absurd (QP h0) hl
 ·refine⟨g,cap,rfl,hb,(Jb hZ),⟨_,_,hZ⟩,λi hi=>⟨?_,Qg _ _ _ _ _ hZ⟩⟩;rw[Ja hZ,<-Array.getElem?_toList];have e:(nV l)[i]? =Z (L l[i]):=by simp[nV,hi]
  rw[<-kU,List.getElem?_take_of_lt (by omega)]at e;exact e
theorem NOwn.shape{base:Nat}{w:aA}{v:aG}{l:List BA}(h:NOwn base w v l):∃a c,v=R a l.length c:=by
 obtain⟨_,⟨rfl,h0⟩|⟨g,cap,cur,rfl,hb,hZ,_⟩⟩:=h
 ·exact⟨Y,0,by rw[h0]⟩
 ·exact⟨_,_,rfl⟩
theorem Jai{P:Program}(w:aA)(ty:TypeId)(a:Addr)(v:aG)(ha:(isAgg ty).run P w=.ok false w)(hc:w.cell? a=Z v):(loadVar ty a).run P w=.ok v w:=by
 simp only[loadVar,Sem.run_bind,ha,Result.andThen];simp[hc]
theorem Jen{P:Program}{fn:Func}{p p2:Tmp}{ty ty2:TypeId}(h:fn.results= #[.cell p ty,.cell p2 ty2])(tmps:Array aG)(w:aA)(a a2:Addr)(v v2:aG)
  (hp:tmps.getD p undef=X (Z a)) (kV:tmps.getD p2 undef=X (Z a2)) (ha:(isAgg ty).run P w=.ok false w) (vM:(isAgg ty2).run P w=.ok false w) (hc:w.cell? a=Z v) (hc2:w.cell? a2=Z v2):
  (results fn tmps).run P w=.ok (aI #[v,v2]) w:=by
 have vF:tmps[p]?.getD undef=X (Z a):=by simpa using hp
 have rT:tmps[p2]?.getD undef=X (Z a2):=by simpa using kV
 simp[results,h,vF,rT,asAddr,Jai w ty a v ha hc,Jai w ty2 a2 v2 vM hc2]
theorem Jmr:(prog.info? 9).map (λi=>(i.zero,i.size,i.bytes))=Z (Z (L ⟨#[]⟩),1,16):=by kernel_rfl
theorem Jeu{base:Nat}{w:aA}{v:aG}{l:List BA}(h:NOwn base w v l)(k:Nat)(x:BA)(hx:w.cell? ⟨k,0,Y⟩=Z (L x))(ty:TypeId)(hb:l.length<=10000000000)(He:base<=w.heap.size):
  ∃v' w',(Builtin.append_ #[58,58] ty #[v,R (Z ⟨k,0,Y⟩) 1 1]).run N w=.ok v' w'/\NOwn base w' v' (l++[x])/\w.grownBy w' v.ownBlock:=by
 obtain⟨i,hi,hp⟩:=Option.map_eq_some_iff.1 Jmr;simp only[Qw]at hp;obtain⟨hz,Hp,gy⟩:=hp;obtain⟨v',w',hr,h2,h3,h4⟩:=run_append_own (P:=N) w base 58 ty 9 i _ 1 16 underlying58 hi hz Hp gy rfl (by omega) v l.length (nV l) h ⟨k,0,Y⟩ 1 1 (nV [x]) rfl (λj u hu=>by
  cases j with
  | zero=>simp only[nV,lT,List.map_nil,List.getElem?_cons_zero,Qh]at hu;rw[<-hu,Addr.add_lit];exact hx
  | succ j=>simp[nV]at hu) (λu hu=>by simp only[nV,lT,List.map_nil,Qt]at hu;rw[hu];rfl) (by simp only[maxLen];omega) (by omega) He
 exact⟨v',w',hr,by unfold NOwn;rw[Qe,show nV (l++[x])=nV l++nV [x] by simp[nV]];exact h2,h3⟩
theorem JeY{P:Program}{ops:Array Oper}{l n:Nat}{o:Oper}{rest:List Oper}{a:Act}{w w':aA}{Q:Exit->Act->aA->Prop}{v xv v':aG}(jz:o.guard=Y)(s x:Operand)(aY:TypeId)(ho:o.op=.call { callee:=.builtin .append,args:= #[s,x],argTypes:= #[aY,aY] })
  (hv:a.eval s=v) (hx:a.eval x=xv) (hr:(Builtin.append_ #[aY,aY] o.type #[v,xv]).run P w=.ok v' w') (hK:wpListIn (Fence.wide.inRound l) n P ops Q rest (a.put o.dst v') w'):wpListIn (Fence.wide.inRound l) n P ops Q (o::rest) a w:=by
 have hw:Region.wanted o (yielded ops a.tmps)=true:=by simp[Region.wanted,jz]
 unfold wpListIn;rw[if_pos hw];refine JjX (K:=λa w=>wpListIn (Fence.wide.inRound l) n P ops Q rest a w) (λc e=>by rw[ho]at e;cases e) (λ_ _ h=>h) ?_;unfold Oper.wp;simp[execOp,ho,resolve,invoke,builtin,hv,hx,hr,Result.andThen];exact hK
structure NodI(w:aA)(qc wc:Array aG)(H4:List BA)(W:aA):Prop where
 below:Below w.heap.size w W
 row:∃v,W.heap[w.heap.size+4]? =Z (T #[v] 58)/\NOwn w.heap.size W v H4
 r2:W.heap[w.heap.size+2]? =Z (T #[R Y 0 0] 58)
 r3:W.heap[w.heap.size+3]? =Z (T #[aK] 92)
 bq:W.heap[w.heap.size+5]? =Z (T qc 248)
 bw:W.heap[w.heap.size+6]? =Z (T wc 258)
theorem NodI.own{w:aA}{qc wc:Array aG}{B:Nat}(hB:w.heap.size+7<=B):OwnFrom B (NodI w qc wc):=by
 intro s W W' row h hg hr;have kS:∀r,row=Z r->∃o:Obj,W.heap[r]? =Z o/\o.isCells=false:=λr e=>(hr r e).2;obtain⟨v,h1,h2⟩:=h.row;exact⟨ownFrom_below (β:=List BA) (w₀:=w) (n₀:=w.heap.size) (B:=B) (Ql _) (by omega) s W W' row h.below hg hr,⟨v,Ju h1 hg kS,h2.kept hg kS⟩,Ju h.r2 hg kS,Ju h.r3 hg kS,Ju h.bq hg kS,Ju h.bw hg kS⟩
theorem NodI.add{w W w3:aA}{qc wc:Array aG}{H4:List BA}{v v':aG}{x:BA}(HI:NodI w qc wc H4 W)(jj:NOwn w.heap.size W v H4)(hT:M (λj=>Z j=v.ownBlock) W w3)(qT:NOwn w.heap.size w3 v' (H4++[x]))(hZ:w3.heap[w.heap.size+4]? =Z (T #[v] 58)):
  KeepsOthers W (w3.setCell ⟨w.heap.size+4,0,Y⟩ v')/\JbR w.heap.size (w.heap.size+5) (w.heap.size+6) W (w3.setCell ⟨w.heap.size+4,0,Y⟩ v')/\NodI w qc wc (H4++[x]) (w3.setCell ⟨w.heap.size+4,0,Y⟩ v'):=by
 have jg:w3.setCell ⟨w.heap.size+4,0,Y⟩ v'=w3.setRow (w.heap.size+4) #[v']:=Qj w3 (w.heap.size+4) 0 _ _ (0,0) v' hZ;rw[jg];obtain⟨v0,rg,_⟩:=HI.row;have xD:M (λj=>Z j=v.ownBlock\/j=w.heap.size+4) W (w3.setRow (w.heap.size+4) #[v']):=(hT.mono (λ_ h=>aM (aM h))).trans (Ts _ _ _) (λ_ h=>aM (aN h));have ky:∀{j:Nat} {cs:Array aG} {aY:TypeId},aY ≠ 9->j ≠ w.heap.size+4->W.heap[j]? =Z (T cs aY)->_:=λHl hj h=>(xD.block _ (Jb h) (λe=>by
  rcases e with e|e
  ·obtain⟨_,cs,m,hc⟩:=jj.own _ e.symm;rw[h]at hc;simp only[Qh,lU.injEq]at hc;exact Hl hc.2.1
  ·exact hj e)).trans h
 have hz:=HI.below.size;have jA:∀j,(Z j=v.ownBlock\/j=w.heap.size+4)->w.heap.size<=j:=λj e=>by
  rcases e with e|e
  ·exact(jj.own _ e.symm).1
  ·omega
 have hB:=xD.below hz jA;have hq:=ky (by decide) (by omega) HI.bq;have zD:=ky (by decide) (by omega) HI.bw;refine⟨Jbf xD (λj e=>?_),⟨hB,λcs aY h=>?_,λcs aY h=>?_⟩,HI.below.trans hB,⟨v',Qi _ _ _ _ _ _ hZ,?_⟩,ky (by decide) (by omega) HI.r2,ky (by decide) (by omega) HI.r3,hq,zD⟩
 ·rcases e with e|e
  ·obtain⟨_,cs,m,hc⟩:=jj.own _ e.symm;exact⟨cs,_,m,hc⟩
  ·subst e;exact⟨_,_,_,rg⟩
 ·rw[HI.bq]at h;rw[hq,h]
 ·rw[HI.bw]at h;rw[zD,h]
 ·refine qT.tch (Ts _ _ _) (λj hj e=>?_);obtain⟨_,cs,m,hc⟩:=qT.own _ hj;rw[e,hZ]at hc;simp only[Qh,lU.injEq]at hc;exact absurd hc.2.1 (by decide)
theorem Jq0(qc wc:Array aG)(wj:Int)(H8 kb:BA)(v1:Option Addr)(v2 v3:Nat)(m:Bool)(k:BA)(a o:Int)(hq:qc= #[O I wj,L H8,L kb])(mN:wc= #[R v1 v2 v3,aL m,L k,O aD a,O aE o])(w:aA):
  CallsIn Fence.wide 3 N 289 #[aH qc,aH wc] w λe w'=>e=aC (.func (.func 341) #[] #[X (Z ⟨w.heap.size,0,Y⟩),X (Z ⟨w.heap.size+1,0,Y⟩)])/\w'=(w.alloc (T qc 248)).alloc (T wc 258):=by
 refine callsIn_wide.2 ?_;subst hq mN;have uQ:∀(fn:Fn)(first cap:Array aG)(w:aA),(Instr.makeFunc fn first cap).run N w=.ok (.func fn first cap) w:=λ_ _ _ _=>rfl;go_enter func289,ntmps289;go_wp2;go_ret;exact⟨rfl,rfl⟩
def Jn1(w:aA)(l:List (List UInt8))(e:Ending)(w':aA):Prop:=∃g cap,e=aC (aI #[R (Z ⟨g,0,Y⟩) l.length cap,aK])/\w.heap.size<=g/\g<w'.heap.size/\(∀j (h:j<l.length),w'.cell? ⟨g,j,Y⟩=Z (L ⟨l[j].toArray⟩))/\Below w.heap.size w w'
theorem JmP(E:Nat->Addr)(wj:Nat)(Hn:1<=wj)(hw:wj<=32)(H8 kb:BA)(v1:Option Addr)(v2 v3:Nat)(wy:Wy)(Hg:WyOk wj wy)(w:aA)(hE:Env E w)(hv:VAt w.heap.size w (R v1 v2 v3) (wy.1.map encS)):
  CallsIn Fence.wide 5 N 214 #[qV wj H8 kb,wV v1 v2 v3 wy.2.isSome (ji wy) (gE wy).1 (gE wy).2] w λe W'=>Jn1 w (wy.nodes (H3 wj)) e W':=by
 have h1:1<=5:=by omega
 have yJ:Fence.wide.round=Y:=rfl;have yF:J _:=Hg;have HE:J (Env E w):=hE;have HV:J (VAt w.heap.size w (R v1 v2 v3) (wy.1.map encS)):=hv;refine callsIn_of_wp_marks func214 rfl trivial ?_ yJ;simp only[ntmps214,lI,Qp,Qv,lN,lO,lD,lE,lJ,lF,lH,lG];gi_wp2;refine⟨trivial,(callsIn_wide.2 (callsIn_wide.1 (Jq0 _ _ _ _ _ _ _ _ _ _ _ _ rfl rfl _))).mono ?_⟩;rintro _ _⟨rfl,rfl⟩;gi_wp2;obtain⟨qc,hqc⟩:∃qc:Array aG,qc= #[O I (wj:Int),L H8,L kb]:=⟨_,rfl⟩
 obtain⟨wc,mN⟩:∃wc:Array aG,wc= #[R v1 v2 v3,aL wy.2.isSome,L (ji wy),O aD ((gE wy).1:Int),O aE ((gE wy).2:Int)]:=⟨_,rfl⟩
 obtain⟨WD,jd⟩:∃WD,WD=((((((w.alloc (T qc 248)).alloc (T wc 258)).alloc (T #[R Y 0 0] 58)).alloc (T #[aK] 92)).alloc (T #[R Y 0 0] 58)).alloc (T qc 248)).alloc (T wc 258):=⟨_,rfl⟩
 rw[<-hqc,<-mN,<-jd];have qr:Below w.heap.size w WD:=by rw[jd];exact(((((((Below.refl _ w).alloc (Ql _) _).alloc (by simp) _).alloc (by simp;omega) _).alloc (by simp;omega) _).alloc (by simp;omega) _).alloc (by simp;omega) _).alloc (by simp;omega) _
 have hz:WD.heap.size=w.heap.size+7:=by rw[jd];simp
 have jT:∀(V:aA)(o:Obj)(j:Nat)(x:Obj),V.heap[j]? =Z x->_:=λV o j x h=>(Below.heap_alloc V o j (Jb h)).trans h;have qU:∀(V:aA)(o:Obj)(j:Nat),V.heap.size=j->(V.alloc o).heap[j]? =Z o:=λV o j h=>by subst h;exact Qf V o
 have r2:WD.heap[w.heap.size+2]? =Z (T #[R Y 0 0] 58):=by rw[jd];exact jT _ _ _ _ (jT _ _ _ _ (jT _ _ _ _ (jT _ _ _ _ (qU _ _ _ (by simp)))))
 have r3:WD.heap[w.heap.size+3]? =Z (T #[aK] 92):=by rw[jd];exact jT _ _ _ _ (jT _ _ _ _ (jT _ _ _ _ (qU _ _ _ (by simp))))
 have r4:WD.heap[w.heap.size+4]? =Z (T #[R Y 0 0] 58):=by rw[jd];exact jT _ _ _ _ (jT _ _ _ _ (qU _ _ _ (by simp)))
 have r5:WD.heap[w.heap.size+5]? =Z (T qc 248):=by rw[jd];exact jT _ _ _ _ (qU _ _ _ (by simp))
 have r6:WD.heap[w.heap.size+6]? =Z (T wc 258):=by rw[jd];exact qU _ _ _ (by simp)
 have vt:M D w WD:=(M.of_below qr).mono (λ_ hj=>aN hj);have hU:UpAt E w.heap.size (w.heap.size+5) (w.heap.size+6) wj H8 kb v1 v2 v3 wy WD:=⟨HE.tch vt noE,HE.size,by rw[r5,hqc],by rw[r6,mN],HV.tch vt noE⟩
 have pD:NodI w qc wc [] WD:=⟨qr,⟨R Y 0 0,r4,NOwn.nil _ _⟩,r2,r3,r5,r6⟩
 have hqa:(Value.agg #[O I (wj:Int),L H8,L kb])=aH qc:=by rw[hqc]
 have hwa:(Value.agg #[R v1 v2 v3,aL wy.2.isSome,L (ji wy),O aD ((gE wy).1:Int),O aE ((gE wy).2:Int)])=aH wc:=by rw[mN]
 show Code.wpIn _ _ _ _ _ { tmps:= #[aH #[O I (wj:Int),L H8,L kb],aH #[R v1 v2 v3,aL wy.2.isSome,L (ji wy),O aD ((gE wy).1:Int),O aE ((gE wy).2:Int)],_,_,_,_,_,_,_,_,_,_,_,_,_,_,_,_,_,_,_,_,_,_],defers:=_ } _;rw[hqa,hwa];refine wpIn_rangeFunc_ownF yJ h1 (gf:=341) (lb:= #[X (Z ⟨w.heap.size+1+1+1+1+1,0,Y⟩),X (Z ⟨w.heap.size+1+1+1+1+1+1,0,Y⟩)]) rfl trivial (enters_of func341 (by kernel_rfl) rfl)
  (Jlx E 4 (by omega) (w.heap.size+1+1+1+1+1) (w.heap.size+1+1+1+1+1+1) w.heap.size wj Hn hw H8 kb v1 v2 v3 wy yF WD hU) (λh k=>⟨h.1.trans k.1,λcs aY hc=>k.2.1 cs aY (h.2.1 cs aY hc),λcs aY hc=>k.2.2 cs aY (h.2.2 cs aY hc)⟩)
  (λW l o o' hl ho hc zD=>⟨belowK_b (w:=w) (Ql _) W l o o' (by omega) ho hc zD,λcs aY h=>Ju h (grownBy_putObj' _ l o') (λr e=>by cases e;exact⟨o,ho,hc⟩),λcs aY h=>Ju h (grownBy_putObj' _ l o') (λr e=>by cases e;exact⟨o,ho,hc⟩)⟩) (Below.refl _ _) (λ_=>rfl)
  (NodI w qc wc) (λ_ _ _=>False) (NodI.own (by omega)) (λ_ _ _ _ _ hs _ _=>hs) pD
  (λx=>{ tmps:= #[aH qc,aH wc,X (Z ⟨w.heap.size,0,Y⟩),X (Z ⟨w.heap.size+1,0,Y⟩),X (Z ⟨w.heap.size+1+1,0,Y⟩),X (Z ⟨w.heap.size+1+1+1,0,Y⟩),X (Z ⟨w.heap.size+1+1+1+1,0,Y⟩),L x,aK,aH qc,aH wc,.func (.func 341) #[] #[X (Z ⟨w.heap.size+1+1+1+1+1,0,Y⟩),X (Z ⟨w.heap.size+1+1+1+1+1+1,0,Y⟩)],L x,aK,undef,undef,undef,undef,undef,undef,undef,undef,undef,undef],defers:=[] }) ?assign ?body ?done ?stop
 case assign=>intro l x W K hK;gi_wp2;exact hK
 case body=>
  rintro l H4 x W hI qq;obtain⟨v,hZ,jj⟩:=hI.row;have c0:W.cell? ⟨w.heap.size+1+1+1+1,0,Y⟩=Z v:=Ja hZ;have HI:J _:=hI;have gL:J _:=hZ;have yP:J _:=jj;have tA:=Ta D W (T #[L x] 9);have hpl2:H4.length<=10000:=by have h1:=ZU (H3 wj) wy;have h2:=yF.o.len;omega
  obtain⟨v',w3,kH,qT,hg⟩:=Jeu (jj.tch tA (λ_ _ h=>h)) W.heap.size x (Ja (Qf W _)) 58 (by omega) (Qm hI.below.size tA.size);have vq:=(tA.mono noE).trans (Tg hg) (λ_ h=>aM h);have e3:=(vq.block _ (Jb hZ) (λe=>by
   obtain⟨_,cs,m,hc⟩:=jj.own _ e.symm;rw[hZ]at hc;simp only[Qh,lU.injEq]at hc;exact absurd hc.2.1 (by decide))).trans hZ
  have d0:w3.cell? ⟨w.heap.size+1+1+1+1,0,Y⟩=Z v:=Ja e3;have f0:w3.frozen? ⟨w.heap.size+1+1+1+1,0,Y⟩=false:=Qg _ _ _ _ _ e3;obtain⟨a',c',kG⟩:=qT.shape;generalize (H4++[x]).length=n' at kG;subst kG;have kY:J _:=qT;have Hb:J _:=vq;have E3:J _:=e3;gi_wp2_with (gi_at_builtin;refine JeY rfl _ _ 58 rfl rfl rfl kH ?_);exact HI.add yP Hb kY E3.out
 case done=>
  rintro aV ys W hD (HYS:J _) hI (HDK:J _);obtain⟨v,hZ,jj⟩:=hI.row;have sJ:ys.length=wy.1.length+1:=by rw[HYS,ZU]
  have Hq:=yF.o.len;obtain⟨g,cap,hv,da,hgl,⟨gc,gm,(uR:J _)⟩,rY⟩:=jj.at (λe=>by rw[e]at sJ;simp at sJ);subst hv;have HREV:J (aB N 290 #[R (Z ⟨g,0,Y⟩) ys.length cap] W λe w'=>e=aC (aI #[])/\M (λj=>j=g) W w'/\∀j (h:j<ys.reverse.length),w'.cell? ⟨g,j,Y⟩=Z (L ys.reverse[j])):=reverse_any g cap ys W rY (by omega);have c0:W.cell? ⟨w.heap.size+1+1+1+1,0,Y⟩=Z (R (Z ⟨g,0,Y⟩) ys.length cap):=Ja hZ;have HI:J _:=hI;have gL:J _:=hZ;have hgne:g ≠ w.heap.size+4/\g ≠ w.heap.size+2/\g ≠ w.heap.size+3:=by
   refine⟨λe=>?_,λe=>?_,λe=>?_⟩
   ·rw[e,hZ]at uR;simp only[Qh,lU.injEq]at uR;exact absurd uR.2.1 (by decide)
   ·rw[e,hI.r2]at uR;simp only[Qh,lU.injEq]at uR;exact absurd uR.2.1 (by decide)
   ·rw[e,hI.r3]at uR;simp only[Qh,lU.injEq]at uR;exact absurd uR.2.1 (by decide)
  have bC:J _:=hgne;have nK:J (w.heap.size<=g/\g<W.heap.size):=⟨da,hgl⟩
  clear hI hZ jj hgne da hgl rY sJ Hq pD hU r5 r6 qr;gi_wp2;refine⟨trivial,(callsIn_wide.2 HREV.o).mono ?_⟩;rintro _ W2⟨rfl,(H6:J _),(uU:J _)⟩;have hk:∀{j:Nat} {o:Obj},W.heap[j]? =Z o->j ≠ g->_:=λh hj=>(H6.block _ (Jb h) hj).trans h;have jS:=hk gL (λe=>bC.1 e.symm);have Hw:=hk HI.r2 (λe=>bC.2.1 e.symm);have k8:=hk HI.r3 (λe=>bC.2.2 e.symm);have an:=hk HDK (λe=>by rw[e,uR.o]at HDK;have:=HDK.o;simp at this);have c0:W2.cell? ⟨w.heap.size+1+1+1+1,0,Y⟩=Z (R (Z ⟨g,0,Y⟩) ys.length cap):=Ja jS;have d2:W2.cell? ⟨w.heap.size+1+1,0,Y⟩=Z (R Y 0 0):=Ja Hw;have d3:W2.cell? ⟨w.heap.size+1+1+1,0,Y⟩=Z aK:=Ja k8;have f2:W2.frozen? ⟨w.heap.size+1+1,0,Y⟩=false:=Qg _ _ _ _ _ Hw;have f3:W2.frozen? ⟨w.heap.size+1+1+1,0,Y⟩=false:=Qg _ _ _ _ _ k8;have R2:J _:=Hw;have R3:J _:=k8;have KD:J _:=an;clear hk jS Hw k8 an HREV;gi_wp2;obtain⟨W4,nR⟩:∃W4,W4=(W2.setRow (w.heap.size+2) #[R (Z ⟨g,0,Y⟩) ys.length cap]).setRow (w.heap.size+3) #[aK]:=⟨_,rfl⟩
  have me:(W2.setCell ⟨w.heap.size+1+1,0,Y⟩ (R (Z ⟨g,0,Y⟩) ys.length cap)).setCell ⟨w.heap.size+1+1+1,0,Y⟩ aK=W4:=by rw[nR,Qj W2 (w.heap.size+2) 0 _ _ (0,0) _ R2.o,Qj _ (w.heap.size+3) 0 _ _ (0,0) _ ((setRow_other _ _ _ _ (by omega)).trans R3.o)];rfl
  rw[me];have t4:M (λj=>j=w.heap.size+2\/j=w.heap.size+3) W2 W4:=by rw[nR];exact((Ts W2 (w.heap.size+2) _).mono (λ_ h=>aM (aM h))).trans (Ts _ (w.heap.size+3) _) (λ_ h=>aM (aN h))
  have q2:W4.heap[w.heap.size+2]? =Z (T #[R (Z ⟨g,0,Y⟩) ys.length cap] 58):=by rw[nR];exact(setRow_other _ _ _ _ (by omega)).trans (Qi _ _ _ _ _ _ R2)
  have q3:W4.heap[w.heap.size+3]? =Z (T #[aK] 92):=by rw[nR];exact Qi _ _ _ _ _ _ ((setRow_other _ _ _ _ (by omega)).trans R3)
  have an:=(t4.block _ (Jb KD) (λe=>by
   rcases e with e|e
   ·have:=KD.out;rw[e,R2.o]at this;simp at this
   ·have:=KD.out;rw[e,R3.o]at this;simp at this)).trans KD.out
  have hg:=grownBy_putObj' W4 aV (.deferred Y);have kS:∀r,Z aV=Z r->∃o:Obj,W4.heap[r]? =Z o/\o.isCells=false:=λr e=>by cases e;exact⟨_,an,rfl⟩
  refine⟨by simp,aM ⟨_,_,rfl,run_takeDeferred an,?_⟩⟩;refine⟨_,Jen results214 _ _ ⟨w.heap.size+1+1,0,Y⟩ ⟨w.heap.size+1+1+1,0,Y⟩ (R (Z ⟨g,0,Y⟩) ys.length cap) aK rfl rfl (isAgg58 _) (isAgg92 _) (Ja (Ju q2 hg kS)) (Ja (Ju q3 hg kS)),?_⟩;have hyn:ys.reverse=(wy.nodes (H3 wj)).map λt=>⟨t.toArray⟩:=by rw[HYS.o,upsT,<-List.map_reverse,List.reverse_reverse]
  have sJ:ys.length=(wy.nodes (H3 wj)).length:=by have:=congrArg List.length hyn;simpa using this
  have hDg:aV ≠ g:=λe=>by have:=HDK.o;rw[e,uR.o]at this;simp at this
  refine⟨g,cap,by rw[sJ],nK.1,?_,λj h=>?_,?_⟩
  ·have:=H6.o.size;have:=t4.size;have:=nK.o.2;have:=hg.size;omega
  ·have h':j<ys.reverse.length:=(by rw[List.length_reverse,sJ];exact h);have e1:=uU j h';have e2:(W4.putObj aV (.deferred Y)).cell? ⟨g,j,Y⟩=W2.cell? ⟨g,j,Y⟩:=by
    rw[show (W4.putObj aV (.deferred Y)).cell? ⟨g,j,Y⟩=W4.cell? ⟨g,j,Y⟩ from World.cell?_of_block (hg.block g (by have:=H6.o.size;have:=t4.size;have:=nK.o.2;omega) (λe=>hDg (by cases e;rfl)))];exact t4.cell (p:=⟨g,j,Y⟩) (by have:=H6.o.size;have:=nK.o.2;show g<_;omega) (λe=>by
     rcases e with e|e
     ·exact bC.2.1 e
     ·exact bC.2.2 e)
   rw[e2,e1];simp only[hyn,List.getElem_map]
  ·have b1:=HI.below;have b2:=H6.below b1.size (λj e=>by rw[e];exact nK.1);have b3:=t4.below (Qm b1.size b2.size) (λj e=>by omega);exact((b1.trans b2).trans b3).trans (belowK_b (w:=w) (Ql _) _ aV _ _ (by omega) an rfl rfl)
 case stop=>rintro aV c H4 W _ _ h _;exact h.elim
open Go.RowKit

theorem WyAt.is{w:aA}{B b:Nat}{g:Option Nat}{wy:Wy}{x:Option Addr×Nat×Nat}{m:Bool}{k:BA}{a o:Nat}(h:WyAt w B b g wy x m k a o):VAt w.heap.size w (R x.1 x.2.1 x.2.2) (wy.1.map encS)/\m=wy.2.isSome/\k=ji wy/\a=(gE wy).1/\o=(gE wy).2:=by
 rcases h with⟨rfl,rfl,rfl,rfl,rfl,rfl⟩|⟨gp,rfl,_,_,_,hZ,rfl,he⟩
 ·exact⟨aM ⟨rfl,rfl⟩,rfl,rfl,rfl,rfl⟩
 ·have H7:=(Jb hZ)
  refine⟨aN ⟨gp,0,_,by rw[QM],H7,H7,λi hi=>?_⟩,by rw[he];rfl,?_,?_,?_⟩
  ·obtain⟨e0,e1⟩:=Yu (wy.1.map encS) i hi;simp only[lX];exact⟨(Ja hZ).trans e0,(Ja hZ).trans e1⟩
  ·unfold ji;rw[he]
  ·unfold gE;rw[he]
  ·unfold gE;rw[he]
theorem Jbm(r:Option (Nat×Nat)):∃(x:Int)(y z:Nat),ZT r=aH #[O I x,O aD (y:Int),O aE (z:Int)]/\((r=Y/\x=2/\y=0/\z=0)\/(r=Z (y,z)/\x=1)):=by
 cases r with
 | none=>exact⟨2,0,0,rfl,aM ⟨rfl,rfl,rfl,rfl⟩⟩
 | some o=>exact⟨1,o.1,o.2,rfl,aN ⟨rfl,rfl⟩⟩

def rdAt(q s:List UInt8)(i:Nat):PS:=.rd (q++s.take i) (s.drop i)
theorem ZJ(q s:List UInt8)(i x k:Nat)(hi:i<=s.length):(rdAt q s i).num x k=if i+k<=s.length then Z (kC ((s.drop i).take k),rdAt q s (i+k)) else Y:=by
 unfold rdAt;simp only[PS.num,lM,List.drop_drop,Qs]
 by_cases h:i+k<=s.length
 ·rw[if_pos h,if_pos (by omega),lV]
 ·rw[if_neg h,if_neg (by omega)]
theorem Jcc(q s x:List UInt8)(i k:Nat)(hi:i<=s.length):(rdAt q s i).txt x k=if i+k<=s.length then Z ((s.drop i).take k,rdAt q s (i+k)) else Y:=by
 unfold rdAt;simp only[PS.txt,lM,List.drop_drop,Qs]
 by_cases h:i+k<=s.length
 ·rw[if_pos h,if_pos (by omega),lV]
 ·rw[if_neg h,if_neg (by omega)]
def Js(s:List UInt8)(i:Nat):Nat:=(s.getD i 0).toNat
theorem Jbj(s:List UInt8)(i:Nat)(h:i<s.length):kC ((s.drop i).take 1)=Js s i:=by
 rw[List.drop_eq_getElem_cons h,List.take_succ_cons,List.take_zero];unfold Js;rw[Qn,Qd h];simp[kC]
def jQ(s:List UInt8)(i:Nat):Nat×Nat:=(kC ((s.drop i).take 8),Js s (i+8))
def YX(s:List UInt8)(i n:Nat):List (Nat×Nat):=(List.range n).map λj=>jQ s (i+9*j)
theorem Jd3(s:List UInt8)(i n:Nat):YX s i (n+1)=jQ s i::YX s (i+9) n:=by
 unfold YX;rw[List.range_succ_eq_map,lT,List.map_map]
 congr 1
 refine List.map_congr_left λj _=>?_;show jQ s (i+9*(j+1))=jQ s (i+9+9*j)
 congr 1
 omega
theorem JiV(s:List UInt8)(i n:Nat):YX s i (n+1)=YX s i n++[jQ s (i+9*n)]:=by
 unfold YX;rw[List.range_succ,List.map_append];rfl
theorem JfC(q s:List UInt8):∀(n i:Nat),i<=s.length->PS.outs (lK n (0,0)) (rdAt q s i)=if i+9*n<=s.length then Z (YX s i n,rdAt q s (i+9*n)) else Y
 | 0,i,hi=>by rw[if_pos (by omega)];rfl
 | n+1,i,hi=>by
  rw[lQ];simp only[PS.outs,PS.out];rw[ZJ q s i 0 8 hi]
  by_cases h8:i+8<=s.length
  ·rw[if_pos h8];simp only;rw[ZJ q s (i+8) 0 1 h8]
   by_cases h9:i+8+1<=s.length
   ·rw[if_pos h9];simp only;rw[JfC q s n (i+8+1) h9,Jd3,Jbj s (i+8) (by omega)]
    by_cases hn:i+9*(n+1)<=s.length
    ·rw[if_pos hn,if_pos (by omega)];simp only[jQ];rw[show i+8+1+9*n=i+9*(n+1) by omega]
    ·rw[if_neg hn,if_neg (by omega)]
   ·rw[if_neg h9,if_neg (by omega)]
  ·rw[if_neg h8,if_neg (by omega)]
def Xc(s:List UInt8)(i:Nat):Option (List (Nat×Nat)×Nat):=
 if i<s.length/\Js s i<=3/\i+1+9*Js s i<=s.length then Z (YX s (i+1) (Js s i),i+1+9*Js s i) else Y
theorem Ji2(q s:List UInt8)(i:Nat)(hi:i<=s.length):(rdAt q s i).listO 0 3 []=(Xc s i).map λx=>(x.1,rdAt q s x.2):=by
 unfold PS.listO Xc;rw[ZJ q s i _ 1 hi]
 by_cases h1:i<s.length
 ·rw[if_pos (by omega)];simp only;rw[Jbj s i h1]
  by_cases h2:Js s i<=3
  ·rw[if_neg (by omega),show Ze [] (Js s i)=lK (Js s i) (0,0) from if_pos rfl,JfC q s _ (i+1) (by omega)]
   by_cases h3:i+1+9*Js s i<=s.length
   ·rw[if_pos h3,if_pos ⟨h1,h2,h3⟩];rfl
   ·rw[if_neg h3,if_neg (λh=>h3 h.2.2)];rfl
  ·rw[if_pos (by omega),if_neg (λh=>h2 h.2.1)];rfl
 ·rw[if_neg (by omega),if_neg (λh=>h1 h.1)];rfl
def Jbq(wj:Nat)(s:List UInt8)(i:Nat):BA×Int:=(⟨((s.drop i).take wj).toArray⟩,(Js s (i+wj):Int))
def XW(wj:Nat)(s:List UInt8)(i n:Nat):List (BA×Int):=(List.range n).map λj=>Jbq wj s (i+(wj+1)*j)
theorem JcY(wj:Nat)(s:List UInt8)(i n:Nat):XW wj s i (n+1)=Jbq wj s i::XW wj s (i+(wj+1)) n:=by
 unfold XW;rw[List.range_succ_eq_map,lT,List.map_map]
 congr 1
 refine List.map_congr_left λj _=>?_;show Jbq wj s (i+(wj+1)*(j+1))=Jbq wj s (i+(wj+1)+(wj+1)*j)
 congr 1
 rw[Nat.mul_add];omega
theorem JgX(wj:Nat)(s:List UInt8)(i n:Nat):XW wj s i (n+1)=XW wj s i n++[Jbq wj s (i+(wj+1)*n)]:=by
 unfold XW;rw[List.range_succ,List.map_append];rfl
def Yd(wj:Nat)(s:List UInt8)(i n:Nat):Prop:=∀j,j<n->Js s (i+(wj+1)*j+wj)<3
theorem Jaw(wj:Nat)(s:List UInt8)(i n:Nat):Yd wj s i (n+1)↔Js s (i+wj)<3/\Yd wj s (i+(wj+1)) n:=by
 unfold Yd;constructor
 ·intro h;refine⟨by simpa using h 0 (by omega),λj hj=>?_⟩;have:=h (j+1) (by omega)
  rwa [show i+(wj+1)*(j+1)+wj=i+(wj+1)+(wj+1)*j+wj by rw[Nat.mul_add];omega]at this
 ·rintro⟨h0,h⟩ j hj
  cases j with
  | zero=>simpa using h0
  | succ j=>
   have:=h j (by omega)
   rwa [show i+(wj+1)*(j+1)+wj=i+(wj+1)+(wj+1)*j+wj by rw[Nat.mul_add];omega]
open Classical in
theorem Jee(wj:Nat)(q s:List UInt8):∀(n i:Nat),i<=s.length->PS.coins wj (lK n (⟨#[]⟩,0)) (rdAt q s i)=if i+(wj+1)*n<=s.length/\Yd wj s i n then Z (XW wj s i n,rdAt q s (i+(wj+1)*n)) else Y
 | 0,i,hi=>by rw[if_pos ⟨by omega,λj hj=>absurd hj (by omega)⟩];rfl
 | n+1,i,hi=>by
  rw[lQ];simp only[PS.coins,PS.coin];have rN:(wj+1)*(n+1)=(wj+1)+(wj+1)*n:=by rw[Nat.mul_add];omega
  rw[Jcc q s _ i wj hi]
  by_cases hw:i+wj<=s.length
  ·rw[if_pos hw];simp only;rw[ZJ q s (i+wj) _ 1 hw]
   by_cases h9:i+wj+1<=s.length
   ·rw[if_pos h9];simp only;rw[Jbj s (i+wj) (by omega)]
    by_cases hc:Js s (i+wj)<3
    ·rw[if_pos hc];simp only;rw[show i+wj+1=i+(wj+1) by omega,Jee wj q s n (i+(wj+1)) (by omega),JcY]
     by_cases hn:i+(wj+1)+(wj+1)*n<=s.length/\Yd wj s (i+(wj+1)) n
     ·rw[if_pos hn,if_pos ⟨by omega,(Jaw wj s i n).2 ⟨hc,hn.2⟩⟩];simp only;rw[show i+(wj+1)+(wj+1)*n=i+(wj+1)*(n+1) by omega];rfl
     ·rw[if_neg hn,if_neg (λh=>hn ⟨by omega,((Jaw wj s i n).1 h.2).2⟩)]
    ·rw[if_neg hc,if_neg (λh=>hc ((Jaw wj s i n).1 h.2).1)]
   ·rw[if_neg h9,if_neg (λh=>h9 (by omega))]
  ·rw[if_neg hw,if_neg (λh=>hw (by omega))]
def Jl8(wj:Nat)(s:List UInt8)(i n:Nat):Decidable (Yd wj s i n):=by unfold Yd;infer_instance
def Xq(wj:Nat)(s:List UInt8)(i:Nat):Option (TxL×Nat):=
 haveI:=Jl8 wj s (i+1) (Js s i)
 if i<s.length/\1<=Js s i/\Js s i<=3/\i+1+(wj+1)*Js s i<=s.length/\Yd wj s (i+1) (Js s i) then
  (Xc s (i+1+(wj+1)*Js s i)).map λx=>((XW wj s (i+1) (Js s i),x.1),x.2)
 else Y
open Classical in
theorem JoR(wj:Nat)(q s:List UInt8)(i:Nat)(hi:i<=s.length):(rdAt q s i).tx wj ([],[])=(Xq wj s i).map λx=>(x.1,rdAt q s x.2):=by
 unfold PS.tx PS.listC Xq;simp only;rw[ZJ q s i _ 1 hi]
 by_cases h1:i<s.length
 ·rw[if_pos (by omega)];simp only;rw[Jbj s i h1]
  by_cases h2:1<=Js s i/\Js s i<=3
  ·rw[if_neg (by omega),show YC [] (Js s i)=lK (Js s i) (⟨#[]⟩,0) from if_pos rfl,Jee wj q s _ (i+1) (by omega)]
   by_cases h3:i+1+(wj+1)*Js s i<=s.length/\Yd wj s (i+1) (Js s i)
   ·rw[if_pos h3,if_pos ⟨h1,h2.1,h2.2,h3.1,h3.2⟩];simp only;rw[Ji2 q s _ h3.1]
    cases Xc s (i+1+(wj+1)*Js s i)<;>rfl
   ·rw[if_neg h3,if_neg (λh=>h3 ⟨h.2.2.2.1,h.2.2.2.2⟩)];rfl
  ·rw[if_pos (by omega),if_neg (λh=>h2 ⟨h.2.1,h.2.2.1⟩)];rfl
 ·rw[if_neg (by omega),if_neg (λh=>h1 h.1)];rfl
theorem Jd2{s:List UInt8}{i:Nat}{x:List (Nat×Nat)×Nat}(h:Xc s i=Z x):x.2<=s.length/\i<x.2:=by
 unfold Xc at h
 split at h
 ·rename_i hc
  cases h
  exact⟨hc.2.2,by show i<i+1+_;omega⟩
 ·cases h
theorem Jcp{wj:Nat}{s:List UInt8}{i:Nat}{x:TxL×Nat}(h:Xq wj s i=Z x):x.2<=s.length/\i<x.2:=by
 unfold Xq at h
 split at h
 ·obtain⟨y,hy,rfl⟩:=Option.map_eq_some_iff.1 h;have:=Jd2 hy;exact⟨this.1,by show i<y.2;omega⟩
 ·cases h
def Xf(wj:Nat)(s:List UInt8):Nat->Nat->Option (List TxL×Nat)
 | 0,i=>Z ([],i)
 | n+1,i=>match Xq wj s i with
  | none=>Y
  | some (t,j)=>match Xf wj s n j with
   | none=>Y
   | some (ts,k)=>Z (t::ts,k)
theorem JhO(wj:Nat)(q s:List UInt8):∀(n i:Nat),i<=s.length->PS.txs wj (lK n ([],[])) (rdAt q s i)=(Xf wj s n i).map λx=>(x.1,rdAt q s x.2)
 | 0,i,_=>rfl
 | n+1,i,hi=>by
  rw[lQ];simp only[PS.txs,Xf];rw[JoR wj q s i hi]
  cases ht:Xq wj s i with
  | none=>rfl
  | some x=>
   obtain⟨t,j⟩:=x;simp only[lP];rw[JhO wj q s n j (Jcp ht).1]
   cases Xf wj s n j with
   | none=>rfl
   | some y=>rfl
def Ym(wj:Nat)(s:List UInt8):Option (List TxL):=
 if 1<=s.length/\Js s 0<=3 then match Xf wj s (Js s 0) 1 with
  | none=>Y
  | some (ts,j)=>if j=s.length then Z ts else Y
 else Y

theorem Jhx:∀(n:Nat)(a b:List UInt8),a.length=n->b.length=n->kC a=kC b->a=b
 | 0,a,b,ha,hb,_=>by rw[QP ha,QP hb]
 | n+1,a,b,ha,hb,h=>by
  have tW:a ≠ []:=λe=>by rw[e]at ha;simp at ha
  have tM:b ≠ []:=λe=>by rw[e]at hb;simp at hb
  have ea:=List.dropLast_concat_getLast tW;have eb:=List.dropLast_concat_getLast tM;rw[<-ea,<-eb,Jaj,Jaj]at h;have h1:=UInt8.toNat_lt (a.getLast tW);have h2:=UInt8.toNat_lt (b.getLast tM);have e1:kC a.dropLast=kC b.dropLast:=by omega
  have e2:(a.getLast tW).toNat=(b.getLast tM).toNat:=by omega
  have i1:=Jhx n a.dropLast b.dropLast (by simp[ha]) (by simp[hb]) e1;rw[<-ea,<-eb,i1,UInt8.toNat_inj.1 e2]
theorem ZD(l:List UInt8)(k:Nat)(h:l.length=k):Hf (kC l) k k=l:=by
 refine Jhx k _ _ (Jf _ _ _) h ?_;have H7:=Yt l;rw[h]at H7;have h2:kC l<2 ^ (8*k):=by rw[Nat.pow_mul];exact H7
 rw[YK (kC l) k h2 k (Ql _),Nat.sub_self];simp
theorem JfD(q s:List UInt8):rdAt q s 0=.rd q s:=by simp[rdAt]
theorem Jnc(wj:Nat)(s:List UInt8)(z:HdL):(PS.rd [] s).hdr wj z=if 4+3*wj<=s.length then Z ((kC (s.take 4),⟨((s.drop 4).take wj).toArray⟩,⟨((s.drop (4+wj)).take wj).toArray⟩,⟨((s.drop (4+wj+wj)).take wj).toArray⟩),.rd (s.take (4+3*wj)) (s.drop (4+3*wj))) else Y:=by
 rw[<-JfD];unfold PS.hdr;rw[ZJ [] s 0 _ 4 (by omega)]
 by_cases h1:0+4<=s.length
 ·rw[if_pos h1];simp only;rw[Jcc [] s _ (0+4) wj h1]
  by_cases h2:0+4+wj<=s.length
  ·rw[if_pos h2];simp only;rw[Jcc [] s _ (0+4+wj) wj h2]
   by_cases h3:0+4+wj+wj<=s.length
   ·rw[if_pos h3];simp only;rw[Jcc [] s _ (0+4+wj+wj) wj h3]
    by_cases h4:0+4+wj+wj+wj<=s.length
    ·rw[if_pos h4,if_pos (by omega)];simp only[rdAt,List.drop_zero,lH,lX];rw[show 4+wj+wj+wj=4+3*wj by omega]
    ·rw[if_neg h4,if_neg (by omega)]
   ·rw[if_neg h3,if_neg (by omega)]
  ·rw[if_neg h2,if_neg (by omega)]
 ·rw[if_neg h1,if_neg (by omega)]
theorem JfP{wj:Nat}{s:List UInt8}:∀(n i:Nat){x:List TxL×Nat},i<=s.length->Xf wj s n i=Z x->x.2<=s.length
 | 0,i,x,hi,h=>by cases h;exact hi
 | n+1,i,x,hi,h=>by
  simp only[Xf]at h
  cases ht:Xq wj s i with
  | none=>rw[ht]at h;cases h
  | some y=>
   obtain⟨t,j⟩:=y;rw[ht]at h;simp only at h
   cases hr:Xf wj s n j with
   | none=>rw[hr]at h;cases h
   | some z=>
    obtain⟨ts,k⟩:=z;rw[hr]at h
    cases h
    have:=JfP (x:=(ts,k)) n j (Jcp ht).1 hr;exact this
theorem JdG(wj:Nat)(q s:List UInt8):(match (PS.rd q s).body wj [] with|some (ts,⟨Sum.inl (_,[])⟩)=>Z ts|_=>Y)=Ym wj s:=by
 rw[<-JfD];unfold PS.body Ym;rw[ZJ q s 0 _ 1 (by omega)]
 by_cases h1:1<=s.length
 ·rw[if_pos (by omega)];simp only;rw[Jbj s 0 (by omega)]
  by_cases h2:Js s 0<=3
  ·rw[if_neg (by omega),if_pos ⟨h1,h2⟩,show Zr [] (Js s 0)=lK (Js s 0) ([],[]) from if_pos rfl,JhO wj q s _ (0+1) (by omega)]
   cases ht:Xf wj s (Js s 0) (0+1) with
   | none=>rfl
   | some x=>
    obtain⟨ts,j⟩:=x;have hj:=JfP _ _ (by omega) ht;simp only[lP,rdAt]at hj ⊢
    by_cases he:j=s.length
    ·rw[if_pos he,he,List.drop_length]
    ·rw[if_neg he]
     cases hd:s.drop j with
     | nil=>
      have:=congrArg List.length hd;rw[lM]at this;simp at this;omega
     | cons a r=>rfl
  ·rw[if_pos (by omega),if_neg (λh=>h2 h.2)]
 ·rw[if_neg (by omega),if_neg (λh=>h1 h.1)]
def tipB(wj:Nat)(ch:Ch)(s:List UInt8):List UInt8:=Hf ch.length 4 4++(H3 wj (72::ch.last.1.data.toList)).data.toList++(H3 wj (66::s)).data.toList
def Xw(wj:Nat)(ch:Ch)(text:List UInt8):Except Er Ch:=
 if text.length<4+3*wj then .error .form else match Ym wj (text.drop (4+3*wj)) with
  | none=>.error .form
  | some ts=>if text.take (4+2*wj) ≠ tipB wj ch (text.drop (4+3*wj)) then .error .tip else match JH (H3 wj) ch.last.2 ts with
   | .error e=>.error e
   | .ok st=>if (text.drop (4+2*wj)).take wj ≠ (Xh (H3 wj) st).data.toList then .error .root else .ok (ch++[(⟨(text.take (4+3*wj)).toArray⟩,st)])
theorem JbV{a:List UInt8}{b:BA}:(⟨a.toArray⟩:BA)=b↔a=b.data.toList:=by
 constructor
 ·rintro rfl;rfl
 ·rintro rfl;simp
theorem Jjk(wj:Nat)(hw:wj<=32)(ch:Ch)(hc:ch.length<2 ^ 32)(text:List UInt8):Jcm (H3 wj) wj ch text=Xw wj ch text:=by
 unfold Jcm Xw;rw[Jnc]
 by_cases hn:4+3*wj<=text.length
 ·rw[if_pos hn,if_neg (by omega)];simp only;have hb:=JdG wj (text.take (4+3*wj)) (text.drop (4+3*wj));have Hq:text.length-(text.drop (4+3*wj)).length=4+3*wj:=by rw[lM];omega
  have yE:((kC (text.take 4),(⟨((text.drop 4).take wj).toArray⟩:BA),(⟨((text.drop (4+wj)).take wj).toArray⟩:BA),(⟨((text.drop (4+wj+wj)).take wj).toArray⟩:BA))=Jbt (H3 wj) ch (text.drop (4+3*wj)) ⟨((text.drop (4+wj+wj)).take wj).toArray⟩)↔text.take (4+2*wj)=tipB wj ch (text.drop (4+3*wj)):=by
   unfold Jbt tipB;have zr:(H3 wj (72::ch.last.1.data.toList)).data.toList.length=wj:=(by rw[QA];exact Jk wj hw _);have xe:(H3 wj (66::text.drop (4+3*wj))).data.toList.length=wj:=(by rw[QA];exact Jk wj hw _);have tL:text.take (4+2*wj)=text.take 4++(text.drop 4).take wj++(text.drop (4+wj)).take wj:=(by rw[show 4+2*wj=4+wj+wj by omega,lV,lV]);rw[tL,Qw,Qw,Qw];constructor
   ·rintro⟨e1,e2,e3,_⟩;rw[JbV]at e2 e3;rw[e2,e3]
    congr 2
    rw[<-e1];exact(ZD _ 4 (by rw[QB];omega)).symm
   ·intro e;have l1:(text.take 4++(text.drop 4).take wj).length=(Hf ch.length 4 4++(H3 wj (72::ch.last.1.data.toList)).data.toList).length:=(by simp only[Qe,QB,lM,Jf,zr];omega);obtain⟨e12,e3⟩:=List.append_inj e l1;obtain⟨e1,e2⟩:=List.append_inj e12 (by simp only[QB,Jf];omega);refine⟨?_,JbV.2 e2,JbV.2 e3,rfl⟩;rw[e1,YK ch.length 4 (by omega) 4 (Ql _),Nat.sub_self];simp
  cases mH:(PS.rd (text.take (4+3*wj)) (text.drop (4+3*wj))).body wj [] with
  | none=>rw[mH]at hb;simp only at hb ⊢;rw[<-hb]
  | some x=>
   obtain⟨ts,p⟩:=x;rw[mH]at hb
   cases p using PS.on with
   | wr d=>simp only at hb ⊢;rw[<-hb]
   | rd H4 rest=>
    cases rest with
    | cons a r=>simp only at hb ⊢;rw[<-hb]
    | nil=>
     simp only at hb ⊢;rw[<-hb];simp only
     by_cases ht:text.take (4+2*wj)=tipB wj ch (text.drop (4+3*wj))
     ·rw[if_neg (λh=>h (yE.2 ht)),if_neg (λh=>h ht)]
      cases JH (H3 wj) ch.last.2 ts with
      | error e=>rfl
      | ok st=>
       simp only;rw[show 4+2*wj=4+wj+wj by omega,Hq]
       by_cases hr:(text.drop (4+wj+wj)).take wj=(Xh (H3 wj) st).data.toList
       ·rw[if_neg (λh=>h (JbV.2 hr)),if_neg (λh=>h hr)]
       ·rw[if_pos (λh=>hr (JbV.1 h)),if_pos hr]
     ·rw[if_pos (λh=>ht (yE.1 h)),if_pos ht]
 ·rw[if_neg hn,if_pos (by omega)]

theorem Jd1{x k m:Nat}{q r:List UInt8}{p:PS}(h:(PS.rd q r).num x k=Z (m,p)):m<256 ^ k/\∃r',r=Hf m k k++r'/\p=.rd (q++Hf m k k) r':=by
 unfold PS.num at h;dsimp only at h
 split at h
 ·rename_i hk;simp only[Qh,Qw]at h;obtain⟨rfl,rfl⟩:=h;have hl:(r.take k).length=k:=by rw[QB];omega
  refine⟨by have:=Yt (r.take k);rw[hl]at this;exact this,r.drop k,?_⟩;rw[ZD _ k hl,List.take_append_drop];exact⟨rfl,rfl⟩
 ·cases h
theorem Jig{s t:List UInt8}{k:Nat}{q r:List UInt8}{p:PS}(h:(PS.rd q r).txt s k=Z (t,p)):t.length=k/\∃r',r=t++r'/\p=.rd (q++t) r':=by
 unfold PS.txt at h;dsimp only at h
 split at h
 ·rename_i hk;simp only[Qh,Qw]at h;obtain⟨rfl,rfl⟩:=h;exact⟨by rw[QB];omega,r.drop k,(List.take_append_drop _ _).symm,rfl⟩
 ·cases h
theorem Jlq{wj:Nat}{z y:Stp}{q r:List UInt8}{p:PS}(h:PS.step wj z (.rd q r)=Z (y,p)):Zu wj y/\∃q' r',p=.rd q' r'/\r=Xe y++r':=by
 unfold PS.step at h
 cases h1:(PS.rd q r).num z.1 2 with
 | none=>rw[h1]at h;cases h
 | some x=>
  obtain⟨m,p1⟩:=x;rw[h1]at h;dsimp only at h;obtain⟨_,r1,rfl,rfl⟩:=Jd1 h1
  split at h
  ·cases h
  ·rename_i hm
   cases h2:(PS.rd (q++Hf m 2 2) r1).txt z.2.data.toList wj with
   | none=>rw[h2]at h;cases h
   | some x=>
    obtain⟨t,p2⟩:=x;rw[h2]at h;simp only[Qh,Qw]at h;obtain⟨rfl,rfl⟩:=h;obtain⟨ht,r2,rfl,rfl⟩:=Jig h2;exact⟨⟨by show m<_;omega,by show ByteArray.size _=_;rw[Ji];exact ht⟩,_,_,rfl,by unfold Xe;rw[Qs]⟩
theorem Jfv{wj:Nat}:∀(l ys:List Stp)(q r:List UInt8)(p:PS),PS.many (JaM wj).f l (.rd q r)=Z (ys,p)->(ys.length=l.length/\∀s∈ys,Zu wj s)/\∃q' r',p=.rd q' r'/\r=ys.flatMap Xe++r'
 | [],ys,q,r,p,h=>by
  simp only[PS.many,Qh,Qw]at h;obtain⟨rfl,rfl⟩:=h;exact⟨⟨rfl,λs hs=>by cases hs⟩,q,r,rfl,rfl⟩
 | z::l,ys,q,r,p,h=>by
  unfold PS.many at h
  cases h1:(JaM wj).f z (.rd q r) with
  | none=>rw[h1]at h;cases h
  | some x=>
   obtain⟨y,p1⟩:=x;rw[h1]at h;obtain⟨hy,q1,r1,rfl,rfl⟩:=Jlq (show PS.step wj z (.rd q r)=Z (y,p1) from h1);dsimp only at h
   cases h2:PS.many (JaM wj).f l (.rd q1 r1) with
   | none=>rw[h2]at h;cases h
   | some x=>
    obtain⟨ys',p2⟩:=x;rw[h2]at h;simp only[Qh,Qw]at h;obtain⟨rfl,rfl⟩:=h;obtain⟨⟨e1,e2⟩,q2,r2,hp,rfl⟩:=Jfv l ys' q1 r1 p2 h2;refine⟨⟨by simp[e1],λs hs=>?_⟩,q2,r2,hp,by simp⟩
    rcases List.mem_cons.1 hs with rfl|hs
    ·exact hy
    ·exact e2 s hs
theorem JkR{wj:Nat}{ys:List Stp}{q r:List UInt8}{p:PS}(h:PS.lstS wj [] (.rd q r)=Z (ys,p)):(ys.length<=8*(wj+1)/\∀s∈ys,Zu wj s)/\∃q' r',p=.rd q' r'/\r=Hf ys.length 2 2++(ys.flatMap Xe++r'):=by
 unfold PS.lstS PS.lst at h
 cases h1:(PS.rd q r).num ([]:List Stp).length 2 with
 | none=>rw[h1]at h;cases h
 | some x=>
  obtain⟨cnt,p1⟩:=x;rw[h1]at h;dsimp only at h;obtain⟨_,r1,rfl,rfl⟩:=Jd1 h1
  split at h
  ·cases h
  ·rename_i hc;obtain⟨⟨e1,e2⟩,q2,r2,hp,rfl⟩:=Jfv _ _ _ _ _ h;have hs:(Jw ((0,⟨#[]⟩):Stp) [] cnt).length=cnt:=(by simp[Jw]);rw[hs]at e1;exact⟨⟨by omega,e2⟩,q2,r2,hp,by rw[e1]⟩
theorem Jey{x k:Nat}{q r:List UInt8}{p:PS}(h:(JF x k (Z (.rd q r))).2=Z p):(JF x k (Z (.rd q r))).1<256 ^ k/\∃q' r',p=.rd q' r'/\r=Hf (JF x k (Z (.rd q r))).1 k k++r':=by
 cases h1:(PS.rd q r).num x k with
 | none=>rw[ZN h1]at h;cases h
 | some y=>
  obtain⟨m,p1⟩:=y;rw[JS h1]at h ⊢;obtain⟨hm,r',hr,rfl⟩:=Jd1 h1;simp only[Qh]at h;exact⟨hm,_,_,h.symm,hr⟩
theorem Jjg{s:List UInt8}{k:Nat}{q r:List UInt8}{p:PS}(h:(Jm s k (Z (.rd q r))).2=Z p):(Jm s k (Z (.rd q r))).1.length=k/\∃q' r',p=.rd q' r'/\r=(Jm s k (Z (.rd q r))).1++r':=by
 cases h1:(PS.rd q r).txt s k with
 | none=>rw[Yb h1]at h;cases h
 | some y=>
  obtain⟨m,p1⟩:=y;rw[JN h1]at h ⊢;obtain⟨hm,r',hr,rfl⟩:=Jig h1;simp only[Qh]at h;exact⟨hm,_,_,h.symm,hr⟩
theorem Jh0{wj:Nat}{k:BA}{o:Nat×Nat}{q r:List UInt8}{p:PS}(h:(Jv wj k o (Z (.rd q r))).2=Z p):((Jv wj k o (Z (.rd q r))).1.1.length=wj+1/\((Jv wj k o (Z (.rd q r))).1.1.getD wj 0).toNat<3/\Jy (Jv wj k o (Z (.rd q r))).1.2)/\∃q' r',p=.rd q' r'/\r=(Jv wj k o (Z (.rd q r))).1.1++(outB (Jv wj k o (Z (.rd q r))).1.2++r'):=by
 unfold Jv YY at h ⊢;dsimp only at h ⊢
 cases h1:(Jm k.data.toList (wj+1) (Z (.rd q r))).2 with
 | none=>rw[h1]at h;simp[stO,JF]at h
 | some p1=>
  obtain⟨hl,q1,r1,rfl,kK⟩:=Jjg h1;rw[h1]at h;dsimp only at h ⊢
  by_cases h3:3<=((Jm k.data.toList (wj+1) (Z (.rd q r))).1.getD wj 0).toNat
  ·rw[if_pos h3]at h;simp[stO,JF]at h
  ·rw[if_neg h3]at h ⊢;unfold stO at h ⊢;dsimp only at h ⊢
   cases h4:(JF o.1 8 (Z (.rd q1 r1))).2 with
   | none=>rw[h4]at h;simp[JF]at h
   | some p2=>
    obtain⟨ha,q2,r2,rfl,Hw⟩:=Jey h4;rw[h4]at h;obtain⟨hb,q3,r3,hp,k8⟩:=Jey h;refine⟨⟨hl,by omega,by show _<2 ^ 64;exact ha,by show _<256;exact hb⟩,q3,r3,hp,?_⟩;refine kK.trans ?_
    congr 1
    unfold outB;rw[Qs,<-k8,<-Hw]
theorem Jil{wj:Nat}{m:Bool}{k:BA}{o:Nat×Nat}{q r:List UInt8}{wy:Wy}{p:PS}(h:(PS.rd q r).way wj [] m k o=Z (wy,p)):WyOk wj wy/\∃q' r',p=.rd q' r'/\r=kT wy++r':=by
 unfold PS.way at h
 cases h1:(PS.rd q r).lstS wj [] with
 | none=>rw[h1]at h;cases h
 | some x=>
  obtain⟨ys,p1⟩:=x;rw[h1]at h;obtain⟨⟨e1,e2⟩,q1,r1,rfl,kK⟩:=JkR h1;dsimp only at h
  by_cases hr:YJ ys ys.length
  ·have hs:Xl ys (Z (.rd q1 r1))=Z (.rd q1 r1):=(by unfold Xl;rw[if_pos hr]);rw[hs]at h
   split at h
   ·rename_i hz;simp only[lP,Qh,Qw]at h;obtain⟨rfl,rfl⟩:=h;rw[List.length_eq_zero_iff.1 hz.1]at kK;exact⟨⟨λs hs=>(by cases hs),λi h1 h2=>(by simp at h2),by simp,λ_=>rfl,λx hx=>(by cases hx)⟩,_,_,rfl,kK⟩
   ·cases h2:(Jv wj k o (Z (.rd q1 r1))).2 with
    | none=>rw[h2]at h;cases h
    | some p2=>
     rw[h2]at h;simp only[lP,Qh,Qw]at h;obtain⟨rfl,rfl⟩:=h;obtain⟨hl,q2,r2,hp,Hw⟩:=Jh0 h2;refine⟨⟨e2,hr,e1,λh=>(by cases h),λx hx=>(by cases hx;exact hl)⟩,q2,r2,hp,?_⟩;rw[kK];unfold kT endB;simp only[Qs];exact congrArg (λz=>Hf ys.length 2 2++(ys.flatMap Xe++z)) Hw
  ·have hs:Xl ys (Z (.rd q1 r1))=Y:=(by unfold Xl;rw[if_neg hr]);rw[hs]at h
   split at h
   ·cases h
   ·rw[Jjd]at h
    cases h
theorem Jim{wj:Nat}{m:Bool}{k:BA}{o:Nat×Nat}{q r:List UInt8}{wy:Wy}{p:PS}(h:(PS.rd q r).way wj [] m k o=Z (wy,p)):WyOk wj wy/\∃q' r',p=.rd q' r':=by
 obtain⟨h1,q',r',h2,_⟩:=Jil h;exact⟨h1,q',r',h2⟩

theorem XE{P:Program}{fn:Func}{p t:Tmp}{ty:TypeId}(h:fn.results= #[.tmp t,.cell p ty])(tmps:Array aG)(w:aA)(g:Nat)(aY:TypeId)(cs:Array aG)(fr:Nat×Nat)(d:TypeDesc)
  (hp:tmps.getD p undef=X (Z ⟨g,0,Y⟩)) (hg:w.heap[g]? =Z (T cs aY fr))
  (hu:P.underlying ty=Z d) (hd:(match d with | .struct _ | .array _ _=>true|_=>false)=true) (hi:(P.info? ty).map (·.size)=Z cs.size):
  (results fn tmps).run P w=.ok (aI #[tmps.getD t undef,aH cs]) w:=by
 have vF:tmps[p]?.getD undef=X (Z ⟨g,0,Y⟩):=by simpa using hp
 simp[results,h,vF,asAddr,run_loadVar_row w g aY ty cs fr d hg hu hd hi]
theorem JiD{w:aA}(wj:Nat)(hb pf:BA)(c:BA×Int)(r:Option (Nat×Nat))(h:∀W,M D w W->aB N 91 #[O I (wj:Int),L hb,aH #[L c.1,O I c.2],L pf] W λe w'=>M D W w'/\∃(x:Int)(y z:Nat),ZT r=aH #[O I x,O aD (y:Int),O aE (z:Int)]/\e=aC (aI #[aH #[O I x,O aD (y:Int),O aE (z:Int)],aK])):
  aB N 47 #[O I (wj:Int),L hb,aH #[L c.1,O I c.2],L pf] w λe w'=>M D w w'/\∃(x:Int)(y z:Nat),ZT r=aH #[O I x,O aD (y:Int),O aE (z:Int)]/\e=aC (aI #[O I x,aH #[O aD (y:Int),O aE (z:Int)]]):=by
 obtain⟨s,aZ⟩:=c;have H:J _:=h;dsimp only at H ⊢;obtain⟨W,(HW:J _)⟩:∃W,W=(w.alloc (T #[L s,O I aZ] 49)).alloc (T #[O aD 0,O aE 0] 80):=⟨_,rfl⟩
 have tA:=vM HW;have gG:=kt HW;have kK:=hnn HW;obtain⟨a0,a1⟩:=rows gG;have qu:J (∀V,M D W V->_):=λV hT=>(hT.block _ (Jb kK) (λh=>h)).trans kK;have HA:J _:=tA;clear tA gG kK;go_enter func47,ntmps47;go_upto_region 1 with fail;rw[<-HW.o];go_wp2_with fail;refine(H W HA).mono ?_;rintro _ w1⟨H9,x,y,z,(HSV:J _),rfl⟩;obtain⟨W2,(jD:J _)⟩:∃W2,W2=w1.alloc (T #[O I x,O aD (y:Int),O aE (z:Int)] 179):=⟨_,rfl⟩
 have t2:=yh jD;have Hw:=xw jD;obtain⟨b0,b1,b2⟩:=rows Hw;have H6:J _:=H9.go t2;have kZ:=qu W2 H6.o;obtain⟨e0,e1⟩:=rows kZ;have fR:∀j,W2.frozen? ⟨w.heap.size+1,j,Y⟩=false:=λj=>Qg _ _ _ _ _ kZ;have H7:w1.heap.size ≠ w.heap.size+1:=λe=>by rw[e,kZ]at Hw;simp at Hw
 have R2:J _:=kZ;clear H9 t2 Hw kZ a0 a1 H;go_upto_region 4 with fail;rw[<-jD.o];go_region
 all_goals go_wp2;rw[set2 _ _ _ _ _ _ _ R2.o];refine QK (v:=aI #[O I x,aH #[O aD (y:Int),O aE (z:Int)]]) (XE results47 _ _ (w.heap.size+1) _ _ (0,0) _ rfl (show (W2.setRow (w.heap.size+1) #[O aD (y:Int),O aE (z:Int)]).heap[w.heap.size+1]? =_ from Qi _ _ _ _ _ _ R2) underlying80 rfl (by kernel_rfl)) rfl ?_;exact⟨((HA.go H6).trans (Ts W2 (w.heap.size+1) _) (λj hj=>aN (by omega))).go (Td _ _ 1),x,y,z,HSV,rfl⟩
theorem Jj8(wy:Wy)(k:Key):(if wy.2.isSome=true/\ji wy=⟨k.toArray⟩ then Z (gE wy) else Y)=wy.said k:=by
 obtain⟨l,e⟩:=wy
 cases e with
 | none=>simp[Wy.said]
 | some x=>
  obtain⟨k',o⟩:=x;unfold Wy.said ji gE;dsimp only
  by_cases h:k'=k
  ·rw[if_pos ⟨rfl,by rw[h]⟩,if_pos h]
  ·rw[if_neg (λe=>h (show k'=k from congrArg (λb:BA=>b.data.toList) e.2)),if_neg h]

def yQ(wj:Nat)(key:Key)(H8:BA)(s:List UInt8):Option Wy:=match (PS.rd [] s).way wj [] false ⟨#[]⟩ (0,0) with
 | some (wy,⟨Sum.inl (_,[])⟩)=>if (∀x∈wy.1,bt key x.1=bt (Xn wy) x.1)/\H3 wj ((wy.nodes (H3 wj)).headD [])=H8 then Z wy else Y
 | _=>Y
def Jqu(wj:Nat)(key:Key)(r:Option Wy)(e:Ending)(w':aA):Prop:=match r with
 | some wy=>∃(x:Int)(y z g cap:Nat),ZT (wy.said key)=aH #[O I x,O aD (y:Int),O aE (z:Int)]/\e=aC (aI #[aH #[O I x,O aD (y:Int),O aE (z:Int),R (Z ⟨g,0,Y⟩) (wy.1.length+1) cap],aK])/\g<w'.heap.size/\∀(j:Nat) t,(wy.nodes (H3 wj))[j]? =Z t->w'.cell? ⟨g,j,Y⟩=Z (L ⟨t.toArray⟩)
 | none=>∃t u,e=aC (aI #[aH #[O I 0,O aD 0,O aE 0,R Y 0 0],aJ t u])
theorem JfE(E:Nat->Addr)(b wj:Nat)(st:Option PS)(m8:∀p,st=Z p->∃q r,p=.rd q r)(Hl:∀q,st ≠ Z (.rd q []))(W:aA)(hE:Env E W)(g:Option Nat)(hp:Jg E W b g (wj:Int) st):
  aB N 88 #[X (Z ⟨b,0,Y⟩)] W λe w'=>M D W w'/\∃t u,e=aC (aJ t u):=by
 cases st with
 | none=>
  refine(Ja2 E b (wj:Int) Y (λp h=>by cases h) W hE g hp).mono ?_;rintro e w'⟨ht,t,u,he,_⟩;exact⟨ht,t,u,he⟩
 | some p=>
  obtain⟨q,r,rfl⟩:=m8 p rfl
  cases r with
  | nil=>exact absurd rfl (Hl q)
  | cons a r=>
   refine(Ja2 E b (wj:Int) (Z (.rd q (a::r))) (λp h=>⟨q,a::r,(Option.some.inj h).symm⟩) W hE g hp).mono ?_;rintro e w'⟨ht,t,u,he,_⟩;exact⟨ht,t,u,he⟩
theorem JcB(E:Nat->Addr)(wj:Nat)(Hn:1<=wj)(hw:wj<=32)(H8:BA)(key:Key)(hk:key.length=wj+1)(s:BA)(hs:s.size<=2000000)(w:aA)(hE:Env E w)(hA:Ast w):
  aB N 144 #[qV wj H8 ⟨key.toArray⟩,L s] w λe w'=>M D w w'/\Jqu wj key (yQ wj key H8 s.data.toList) e w':=by
 have Hp:=hE.size;obtain⟨C,hC⟩:∃C,C=yQ wj key H8 s.data.toList:=⟨_,rfl⟩
 obtain⟨aW,hR⟩:∃aW,aW=(PS.rd [] s.data.toList).way wj [] false ⟨#[]⟩ (0,0):=⟨_,rfl⟩
 obtain⟨kb,nY⟩:∃kb:BA,kb=⟨key.toArray⟩:=⟨_,rfl⟩
 rw[<-hC,<-nY];unfold yQ at hC;rw[<-hR]at hC;have m8:∀wy p,aW=Z (wy,p)->WyOk wj wy/\∃q r,p=.rd q r:=λwy p h=>Jim (hR.symm.trans h);have kt:(∀wy q,aW ≠ Z (wy,.rd q []))->C=Y:=λh=>by
  rw[hC]
  split
  ·exact absurd rfl (h _ _)
  ·rfl
 have Hq:(s.data.toList).length<=2000000:=by rw[QA];exact hs
 have vR:J (∀W b,M D w W->18<=b->Jd W b Y (wj:Int) aK (.rd [] s.data.toList)->aB N 146 #[X (Z ⟨b,0,Y⟩),aH #[R Y 0 0,aL false,L ⟨#[]⟩,O aD 0,O aE 0]] W λe w'=>∃v1 v2 v3 m k a o g',e=aC (wV v1 v2 v3 m k a o)/\Jg E w' b g' (wj:Int) (aW.map (·.2))/\M (λk=>k=b) W w'/\∀wy p,aW=Z (wy,p)->VAt w'.heap.size w' (R v1 v2 v3) (wy.1.map encS)/\m=wy.2.isSome/\k=ji wy/\a=(gE wy).1/\o=(gE wy).2):=λW b hT hb hp=>by
  refine(JnR E b hb Y wj hw Y 0 0 [] false ⟨#[]⟩ 0 0 (by decide) (.rd [] s.data.toList) W (hE.tch hT noE) hp (aM ⟨rfl,rfl⟩) (JcX.nil _ _) (by simp) (by simp) (by simp[PS.takes]) (by simp only[PS.len,Qv];omega)).mono ?_;rintro e w'⟨x1,x2,x3,m,k,a,o,g',rfl,h1,_,h3,h4⟩;rw[<-hR]at h1 h4;exact⟨x1,x2,x3,m,k,a,o,g',rfl,h1,h3.mono (λj hj=>aM (by rcases hj with h|h;exact h;cases h)),λwy p h=>(h4 wy p h).is⟩
 have tQ:J (∀W b g',M D w W->Jg E W b g' (wj:Int) (aW.map (·.2))->aB N 88 #[X (Z ⟨b,0,Y⟩)] W λe w'=>M D W w'/\((C=Y/\∃t u,e=aC (aJ t u))\/(∃wy q,aW=Z (wy,.rd q []))/\e=aC aK)):=λW b g' hT hp=>by
  by_cases hg:∃wy q,aW=Z (wy,.rd q [])
  ·obtain⟨wy,q,hq⟩:=hg;rw[hq]at hp;have hp:Jd W b g' (wj:Int) aK (.rd q []):=hp;obtain rfl:g'=Y:=hp.1;exact(Jeh b (wj:Int) q W hp).mono λe w' k=>⟨k.2,aN ⟨⟨wy,q,hq⟩,k.1⟩⟩
  ·refine(JfE E b wj (aW.map (·.2)) (λp h=>?_) (λq h=>?_) W (hE.tch hT noE) g' hp).mono λe w' k=>⟨k.1,aM ⟨kt λwy q h=>hg ⟨wy,q,h⟩,k.2⟩⟩
   all_goals
    cases hR':aW with
    | none=>rw[hR']at h;cases h
    | some x=>
     obtain⟨wy,p2⟩:=x;rw[hR']at h
     cases h
     first|exact(m8 wy _ hR').2|exact absurd ⟨wy,q,hR'⟩ hg
 have HE:J (Env E w):=hE;have sw:J (∀W3,M D w W3->W3.cell? ⟨4,0,Y⟩=Z (eV E 4)):=λW hT=>(hE.tch hT noE).root;have HAS:J (Ast w):=hA;have HC:J (∀wy q,aW=Z (wy,.rd q [])->WyOk wj wy/\C=if (∀x∈wy.1,bt key x.1=bt (Xn wy) x.1)/\H3 wj ((wy.nodes (H3 wj)).headD [])=H8 then Z wy else Y):=λwy q h=>⟨(m8 wy _ h).1,by rw[hC,h]⟩
 have qp:J (kb=_):=nY;have yG:J (18<=w.heap.size):=Hp;clear hE m8 kt Hq hR hs hA hC nY;obtain⟨W,hW⟩:∃W,W=(w.alloc (T #[O I (wj:Int),L H8,L kb] 248)).alloc (T #[O I 0,O aD 0,O aE 0,R Y 0 0] 252):=⟨_,rfl⟩
 have tA:M D w W:=by rw[hW];exact M.allocs _ _ _ _
 have gG:W.heap[w.heap.size]? =Z (T #[O I (wj:Int),L H8,L kb] 248):=by rw[hW];exact heap_alloc2_old _ _ _
 have kK:W.heap[w.heap.size+1]? =Z (T #[O I 0,O aD 0,O aE 0,R Y 0 0] 252):=by rw[hW];exact heap_alloc2_new _ _ _
 have HWZ:J (W.heap.size=w.heap.size+2):=by show _=_;rw[hW];simp
 have qu:J (∀V,M D W V->V.heap[w.heap.size+1]? =Z (T #[O I 0,O aD 0,O aE 0,R Y 0 0] 252)):=λV hT=>(hT.block _ (Jb kK) (λh=>h)).trans kK;have qJ:J (∀V,M D W V->rowP V w.heap.size [O I (wj:Int),L H8,L kb]):=λV hT=>rows ((hT.block _ (Jb gG) (λh=>h)).trans gG);have HA:J (M _ w W):=tA;have HW:J (W=_):=hW;obtain⟨a0,a1,a2⟩:=qJ.o W (Te _ _);clear tA gG kK hW Hp;go_enter func144,ntmps144;go_upto_region 1 with fail;rw[<-HW.o];go_wp2_with fail;refine(XT _ _ _).mono ?_;rintro _ w1⟨rfl,Hy,H9⟩;have H5:J (M D W w1):=H9;have Hx:J (Jd w1 W.heap.size Y (wj:Int) aK (.rd [] s.data.toList)):=Hy;clear H9 Hy a0 a1 a2;go_wp2_with fail;refine(vR.o w1 W.heap.size (HA.o.go H5.o) (by have:=yG.o;have:=HWZ.o;omega) Hx.o).mono ?_;rintro _ w2⟨v1,v2,v3,mm,wk,oa,oo,g',rfl,kV,Ha,mL⟩;obtain⟨W3,xZ⟩:∃W3,W3=w2.alloc (T #[R v1 v2 v3,aL mm,L wk,O aD (oa:Int),O aE (oo:Int)] 258):=⟨_,rfl⟩
 have t3:M D w2 W3:=by rw[xZ];exact Ta _ _ _
 have k8:W3.heap[w2.heap.size]? =Z (T #[R v1 v2 v3,aL mm,L wk,O aD (oa:Int),O aE (oo:Int)] 258):=by rw[xZ];exact Qf _ _
 have HWC:J (∀V,M D W3 V->rowP V w2.heap.size [R v1 v2 v3,aL mm,L wk,O aD (oa:Int),O aE (oo:Int)]):=λV hT=>rows ((hT.block _ (Jb k8) (λh=>h)).trans k8);have Hb:J (M D W W3):=(H5.o.trans Ha (λj hj=>aN (Nat.le_of_eq hj.symm))).go t3;have qs:J (Jg E W3 W.heap.size g' (wj:Int) (aW.map (·.2))):=kV.next t3;have HV3:J (∀wy p,aW=Z (wy,p)->(∀V,M D W3 V->VAt V.heap.size V (R v1 v2 v3) (wy.1.map encS))/\wV v1 v2 v3 mm wk oa oo=wV v1 v2 v3 wy.2.isSome (ji wy) (gE wy).1 (gE wy).2):=λwy p h=>by
  obtain⟨k1,rfl,rfl,rfl,rfl⟩:=mL wy p h;exact⟨λV hT=>(k1.tch (t3.go hT) noE).up (t3.go hT).size,rfl⟩
 have jv:J (W3=_):=xZ;clear kV Ha t3 xZ vR Hx H5 mL k8;go_upto_region 3 with fail;rw[<-jv.o];go_wp2_with fail;refine(tQ.o W3 W.heap.size g' (HA.o.go Hb.o) qs.o).mono ?_;rintro _ w4⟨Hu,⟨rfl,t,u,rfl⟩|⟨⟨wy,q,hq⟩,rfl⟩⟩
 ·have HTN:J (M D W w4):=Hb.o.go Hu;clear Hu;go_wp2_with fail;refine(Xk _ _ _ _).mono ?_;rintro _ w8⟨rfl,uN⟩;have ki:J (M D W w8):=HTN.o.go (by rw[uN];exact Ta _ _ _);have jh:=qu.o w8 ki.o;obtain⟨r0,r1,r2,r3⟩:=rows jh;have fR:∀j,w8.frozen? ⟨w.heap.size+1,j,Y⟩=false:=λj=>Qg _ _ _ _ _ jh;have R8:J (w8.heap[w.heap.size+1]? =_):=jh;clear uN jh;go_wp2;rw[set4 _ _ _ _ _ _ _ _ _ _ _ R8.o];refine QK (v:=aI #[aH #[O I 0,O aD 0,O aE 0,R Y 0 0],_]) (Je results144 _ _ (w.heap.size+1) _ _ (0,0) _ rfl (Qi _ _ _ _ _ _ R8.o) underlying252 rfl (by kernel_rfl)) rfl ?_;exact⟨(HA.o.go ki.o).trans (Ts _ _ _) (λj hj=>aN (by omega)),_,_,rfl⟩
 ·obtain⟨Hg,hcy⟩:=HC.o wy q hq;obtain⟨tV,hwv⟩:=HV3.o wy _ hq;have Hm:J (M D W3 w4):=Hu;obtain⟨b0,b1,b2⟩:=qJ.o w4 (Hb.o.go Hu);obtain⟨d0,d1,d2,d3,d4⟩:=HWC.o w4 Hu;have HCB:J (∀V,M D W3 V->aB N 213 #[qV wj H8 kb,wV v1 v2 v3 mm wk oa oo] V λe w'=>M D V w'/\((C=Y/\∃t u,e=aC (aJ t u))\/(∀x∈wy.1,bt key x.1=bt (Xn wy) x.1)/\e=aC aK)):=λV hT=>by
   have qm:=HA.o.go (Hb.o.go hT);rw[hwv,qp.o];refine(JeR E wj hw H8 key hk wy Hg v1 v2 v3 _ _ _ V (HE.o.tch qm noE) (tV V hT) (λ_=>HAS.o.tch qm (λh=>h))).mono ?_;rintro e w'⟨ht,⟨h,rfl⟩|⟨⟨x,hx,hn⟩,h⟩⟩
   ·exact⟨ht,aN ⟨h,rfl⟩⟩
   ·exact⟨ht,aM ⟨by rw[hcy,if_neg (λk=>hn (k.1 x hx))],h⟩⟩
  have jb:(wy.nodes (H3 wj)).length=wy.1.length+1:=by simp[Wy.nodes,JZ]
  obtain⟨t0,hh0,ht0⟩:∃t0,(wy.nodes (H3 wj))[0]? =Z t0/\(wy.nodes (H3 wj)).headD []=t0:=by
   cases hn:wy.nodes (H3 wj) with
   | nil=>rw[hn]at jb;simp at jb
   | cons a l=>exact⟨a,rfl,rfl⟩
  have ht0l:t0.length<=1000:=by
   have h1:=ZH (H3 wj) (Xn wy) (Xb wy.2) wy.1 0 (lR _);have h2:(wy.nodes (H3 wj))[0]? =Z (Zv (H3 wj) (Xn wy) (Xb wy.2) wy.1 0):=h1;rw[hh0]at h2
   cases h2
   exact JcJ wj hw _ _ (JaS hw Hg) _ Hg.steps 0 (lR _)
  rw[ht0]at hcy;have HND:J (∀V,M D W3 V->aB N 214 #[qV wj H8 kb,wV v1 v2 v3 mm wk oa oo] V λe w'=>M D V w'/\∃(g n cap:Nat),e=aC (aI #[R (Z ⟨g,0,Y⟩) (n+1) cap,aK])/\n<=1000/\n=wy.1.length/\g<w'.heap.size/\∀(j:Nat) t,(wy.nodes (H3 wj))[j]? =Z t->w'.cell? ⟨g,j,Y⟩=Z (L ⟨t.toArray⟩)):=λV hT=>by
   rw[hwv];refine(callsIn_wide.1 (JmP E wj Hn hw H8 _ v1 v2 v3 wy Hg V (HE.o.tch (HA.o.go (Hb.o.go hT)) noE) (tV V hT))).mono ?_;rintro e w'⟨g,cap,rfl,_,hgl,hc,hB⟩;refine⟨(M.of_below hB).mono (λ_ hj=>aN hj),g,wy.1.length,cap,by rw[jb],by have:=Hg.len;omega,rfl,hgl,λj t ht=>?_⟩;obtain⟨hj,rfl⟩:=Qo.1 ht;exact hc j hj
  obtain⟨dg,mS⟩:∃dg,dg=H3 wj t0:=⟨_,rfl⟩
  obtain⟨tb,vU⟩:∃tb:BA,tb=⟨t0.toArray⟩:=⟨_,rfl⟩
  rw[<-mS]at hcy;have yU:J (∀V,M D W3 V->aB N 130 #[O I (wj:Int),L tb] V λe w'=>e=aC (L dg)/\M D V w'):=λV hT=>by
   have:=JaZ E wj ⟨t0.toArray⟩ V (HE.o.tch (HA.o.go (Hb.o.go hT)) noE) Hn hw (by rw[Ji];omega);rw[Jjr,<-mS,<-vU]at this;exact this
  have fM:J (∀V,aB N 215 #[qV wj H8 kb,wV v1 v2 v3 mm wk oa oo] V λe w'=>e=aC (ZT (wy.said key))/\M D V w'):=λV=>by
   have:=Jja wj H8 ⟨key.toArray⟩ v1 v2 v3 wy.2.isSome (ji wy) (gE wy).1 (gE wy).2 V;rw[hwv,qp.o];rw[show (((gE wy).1,(gE wy).2):Nat×Nat)=gE wy from rfl,Jj8]at this;exact this
  have HH0:J ((wy.nodes (H3 wj))[0]? =Z t0):=hh0;have HCY:J (C=_):=hcy;have gZ:J (tb=_):=vU;clear Hu tQ qs hq Hg tV hwv jb ht0 ht0l hh0 hcy mS vU HC HV3 qp HE HAS;go_wp2_with fail;refine(HCB.o w4 Hm.o).mono ?_;rintro _ w5⟨kR,⟨rfl,t,u,rfl⟩|⟨mf,rfl⟩⟩
  ·have ki:J (M D W w5):=Hb.o.go (Hm.o.go kR);have jh:=qu.o w5 ki.o;obtain⟨r0,r1,r2,r3⟩:=rows jh;have fR:∀j,w5.frozen? ⟨w.heap.size+1,j,Y⟩=false:=λj=>Qg _ _ _ _ _ jh;have R8:J (w5.heap[w.heap.size+1]? =_):=jh;clear kR jh b0 b1 b2 d0 d1 d2 d3 d4;go_wp2;rw[set4 _ _ _ _ _ _ _ _ _ _ _ R8.o];refine QK (v:=aI #[aH #[O I 0,O aD 0,O aE 0,R Y 0 0],_]) (Je results144 _ _ (w.heap.size+1) _ _ (0,0) _ rfl (Qi _ _ _ _ _ _ R8.o) underlying252 rfl (by kernel_rfl)) rfl ?_;exact⟨(HA.o.go ki.o).trans (Ts _ _ _) (λj hj=>aN (by omega)),_,_,rfl⟩
  ·have yS:J (∀x∈wy.1,bt key x.1=bt (Xn wy) x.1):=mf;have kD:J (M D W3 w5):=Hm.o.go kR;clear kR Hm HCB b0 b1 b2 d0 d1 d2 d3 d4 mf;obtain⟨b0,b1,b2⟩:=qJ.o w5 (Hb.o.go kD.o);obtain⟨d0,d1,d2,d3,d4⟩:=HWC.o w5 kD.o;go_wp2_with fail;refine(HND.o w5 kD.o).mono ?_;rintro _ w6⟨jN,gn,nn,cap,rfl,hn6,qU,ao,hca⟩;have HNW:J (nn=wy.1.length):=qU;have zq:J (∀V,M D w6 V->gn<V.heap.size/\∀(j:Nat) t,(wy.nodes (H3 wj))[j]? =Z t->V.cell? ⟨gn,j,Y⟩=Z (L ⟨t.toArray⟩)):=λV hT=>⟨Qk ao hT.size,λj t ht=>(hT.cell (p:=⟨gn,j,Y⟩) ao (λh=>h)).trans (hca j t ht)⟩
   have kz:J (M D W3 w6):=kD.o.go jN;clear jN kD HND b0 b1 b2 d0 d1 d2 d3 d4 qU ao hca;obtain⟨b0,b1,b2⟩:=qJ.o w6 (Hb.o.go kz.o);have hc6:w6.cell? ⟨gn,0,Y⟩=Z (L tb):=(by rw[gZ.o];exact(zq.o w6 (Te _ _)).2 0 t0 HH0.o);have uw:(0:Int)<((nn+1:Nat):Int):=(by omega);go_upto_region 12 with fail;go_cut [53] (λvb wx=>(∃bb:Bool,vb=aL bb/\J (bb=false↔dg.toList=H8.toList))/\J (M D w6 wx))
   case first=>
    go_region_with (go_at_call 130;refine(yU.o _ (kz.o.go (Td _ _ 1))).mono ?_;rintro _ w7⟨rfl,gJ⟩;have gx:J (M D w6 w7):=(Td D w6 1).go gJ;obtain⟨e0,e1,e2⟩:=qJ.o _ (Hb.o.go (kz.o.go gx.o));clear gJ)
    all_goals go_wp2;go_meet;exact⟨⟨_,rfl,by show _↔_;simp⟩,gx⟩
   case rest=>
   obtain⟨⟨bb,rfl,zJ⟩,qo⟩:=hcut;obtain⟨wA,jC⟩:∃wA,wA=wc:=⟨wc,rfl⟩
   subst jC;have kI:J (M D W3 wA):=kz.o.go qo.o;have HCA2:J (∀V,M D wA V->_):=λV (hT:M D wA V)=>zq.o V (qo.o.go hT);clear zq b0 b1 b2 yU hc6 kz qo
   cases bb with
   | true=>
    have bT:C=Y:=(by rw[HCY.o];exact if_neg (λh=>absurd (zJ.o.2 (by rw[h.2])) (by decide)));subst bT;have hrt:=sw.o wA (HA.o.go (Hb.o.go kI.o));unfold eV at hrt;have HTN:J (M D W wA):=Hb.o.go kI.o;clear kI;go_wp2_with fail;refine(Xk _ _ _ _).mono ?_;rintro _ w8⟨rfl,uN⟩;have ki:J (M D W w8):=HTN.o.go (by rw[uN];exact Ta _ _ _);have jh:=qu.o w8 ki.o;obtain⟨r0,r1,r2,r3⟩:=rows jh;have fR:∀j,w8.frozen? ⟨w.heap.size+1,j,Y⟩=false:=λj=>Qg _ _ _ _ _ jh;have R8:J (w8.heap[w.heap.size+1]? =_):=jh;clear uN jh;go_wp2;rw[set4 _ _ _ _ _ _ _ _ _ _ _ R8.o];refine QK (v:=aI #[aH #[O I 0,O aD 0,O aE 0,R Y 0 0],_]) (Je results144 _ _ (w.heap.size+1) _ _ (0,0) _ rfl (Qi _ _ _ _ _ _ R8.o) underlying252 rfl (by kernel_rfl)) rfl ?_;exact⟨(HA.o.go ki.o).trans (Ts _ _ _) (λj hj=>aN (by omega)),_,_,rfl⟩
   | false=>
    obtain⟨b0,b1,b2⟩:=qJ.o wA (Hb.o.go kI.o);obtain⟨d0,d1,d2,d3,d4⟩:=HWC.o wA kI.o;have tX:C=Z wy:=(by rw[HCY.o];exact if_pos ⟨yS.o,JbC (zJ.o.1 rfl)⟩);subst tX;obtain⟨x,y,z,qx,_⟩:=Jbm (wy.said key);rw[qx]at fM;have HSV:J (ZT _=_):=qx;clear qx;go_wp2_with fail;refine(fM.o wA).mono ?_;rintro _ w8⟨rfl,jt⟩;have gW:J (M D W w8):=(Hb.o.go kI.o).go jt;have HC8:J (_/\_):=HCA2.o w8 jt;have jh:=qu.o w8 gW.o;obtain⟨r0,r1,r2,r3⟩:=rows jh;have ao:gn ≠ w.heap.size+1:=λe=>by
     have:=HC8.o.2 0 t0 HH0.o;rw[e,r0]at this
     cases this
    have bC:J (gn ≠ w.heap.size+1):=ao;have fR:∀j,w8.frozen? ⟨w.heap.size+1,j,Y⟩=false:=λj=>Qg _ _ _ _ _ jh;have R8:J (w8.heap[w.heap.size+1]? =_):=jh;clear jt jh fM b0 b1 b2 d0 d1 d2 d3 d4 kI ao;go_wp2;rw[set4 _ _ _ _ _ _ _ _ _ _ _ R8.o];refine QK (v:=aI #[aH #[O I x,O aD (y:Int),O aE (z:Int),R (Z ⟨gn,0,Y⟩) (nn+1) cap],aK]) (Je results144 _ _ (w.heap.size+1) _ _ (0,0) _ rfl (Qi _ _ _ _ _ _ R8.o) underlying252 rfl (by kernel_rfl)) rfl ?_;refine⟨(HA.o.go gW.o).trans (Ts _ _ _) (λj hj=>aN (by omega)),x,y,z,gn,cap,HSV.o,by rw[HNW.o],by rw[setRow_size];exact HC8.o.1,λj t ht=>?_⟩;exact((Ts w8 (w.heap.size+1) _).cell (p:=⟨gn,j,Y⟩) HC8.o.1 bC.o).trans (HC8.o.2 j t ht)

theorem Jdf(E:Nat->Addr)(wj:Nat)(Hn:1<=wj)(hw:wj<=32)(h:HdL)(hh:HdOk wj h)(c:BA×Int)(hc:Jj wj c)(pf:BA)(P:Int->Nat->Nat->aG->Prop)(w:aA)(hE:Env E w)
  (q9:∀W,M D w W->aB N 144 #[qV wj h.2.2.2 ⟨(Jc c).toArray⟩,L pf] W λe w'=>M D W w'/\∃(x:Int)(y z:Nat)(ga:Option Addr)(gl gc:Nat)(ev:aG),P x y z ev/\e=aC (aI #[aH #[O I x,O aD (y:Int),O aE (z:Int),R ga gl gc],ev])):
  aB N 91 #[O I (wj:Int),L ⟨(Ht h).toArray⟩,aH #[L c.1,O I c.2],L pf] w λe w'=>M D w w'/\∃(x:Int)(y z:Nat)(ev:aG),P x y z ev/\e=aC (aI #[aH #[O I x,O aD (y:Int),O aE (z:Int)],ev]):=by
 have gY:J (∀W,M D w W->aB N 143 _ W _):=λW hT=>JfY E wj Hn hw h hh c hc W (hE.tch hT noE);have HCK:J (∀W,M D w W->_):=q9;clear hE hh hc q9;generalize h.2.2.2=st at *;generalize (⟨(Ht h).toArray⟩:BA)=hb at *;obtain⟨s,aZ⟩:=c;dsimp only at gY HCK ⊢;generalize (⟨(Jc (s,aZ)).toArray⟩:BA)=kb at *;obtain⟨W,hW⟩:∃W,W=(w.alloc (T #[L s,O I aZ] 49)).alloc (T #[O I 0,O aD 0,O aE 0] 179):=⟨_,rfl⟩
 have tA:M D w W:=by rw[hW];exact M.allocs _ _ _ _
 have gG:W.heap[w.heap.size]? =Z (T #[L s,O I aZ] 49):=by rw[hW];exact heap_alloc2_old _ _ _
 have kK:W.heap[w.heap.size+1]? =Z (T #[O I 0,O aD 0,O aE 0] 179):=by rw[hW];exact heap_alloc2_new _ _ _
 have a0:W.cell? ⟨w.heap.size,0,Y⟩=Z (L s):=Ja gG;have a1:W.cell? ⟨w.heap.size,1,Y⟩=Z (O I aZ):=Ja gG;have qu:J (∀V,M D W V->V.heap[w.heap.size+1]? =Z (T #[O I 0,O aD 0,O aE 0] 179)):=λV hT=>(hT.block _ (Jb kK) (λh=>h)).trans kK;have HA:J (M _ w W):=tA;have HW:J (W=_):=hW;clear tA gG kK hW;go_enter func91,ntmps91;go_upto_region 1 with fail;rw[<-HW.o];go_wp2_with fail;refine(gY.o W HA.o).mono ?_;rintro _ w1⟨rfl,H9⟩;obtain⟨W2,qW⟩:∃W2,W2=w1.alloc (T #[O I (wj:Int),L st,L kb] 248):=⟨_,rfl⟩
 have t2:M D w1 W2:=by rw[qW];exact Ta _ _ _
 have Hw:W2.heap[w1.heap.size]? =Z (T #[O I (wj:Int),L st,L kb] 248):=by rw[qW];exact Qf _ _
 have b0:W2.cell? ⟨w1.heap.size,0,Y⟩=Z (O I (wj:Int)):=Ja Hw;have b1:W2.cell? ⟨w1.heap.size,1,Y⟩=Z (L st):=Ja Hw;have b2:W2.cell? ⟨w1.heap.size,2,Y⟩=Z (L kb):=Ja Hw;have H6:J (M D W W2):=H9.go t2;have jD:J (W2=_):=qW;clear H9 t2 Hw qW a0 a1 gY;go_upto_region 2 with fail;rw[<-jD.o];go_wp2_with fail;refine(HCK.o W2 (HA.o.go H6.o)).mono ?_;rintro _ w3⟨Hs,x,y,z,ga,gl,gc,ev,qx,rfl⟩;obtain⟨W4,nR⟩:∃W4,W4=w3.alloc (T #[O I x,O aD (y:Int),O aE (z:Int),R ga gl gc] 252):=⟨_,rfl⟩
 have t4:M D w3 W4:=by rw[nR];exact Ta _ _ _
 have jS:W4.heap[w3.heap.size]? =Z (T #[O I x,O aD (y:Int),O aE (z:Int),R ga gl gc] 252):=by rw[nR];exact Qf _ _
 have Hm:J (M D W W4):=(H6.o.go Hs).go t4;have d0:W4.cell? ⟨w3.heap.size,0,Y⟩=Z (O I x):=Ja jS;have d1:W4.cell? ⟨w3.heap.size,1,Y⟩=Z (O aD (y:Int)):=Ja jS;have d2:W4.cell? ⟨w3.heap.size,2,Y⟩=Z (O aE (z:Int)):=Ja jS;have me:=qu.o W4 Hm.o;have e0:W4.cell? ⟨w.heap.size+1,0,Y⟩=Z (O I 0):=Ja me;have e1:W4.cell? ⟨w.heap.size+1,1,Y⟩=Z (O aD 0):=Ja me;have e2:W4.cell? ⟨w.heap.size+1,2,Y⟩=Z (O aE 0):=Ja me;have fR:∀j,W4.frozen? ⟨w.heap.size+1,j,Y⟩=false:=λj=>Qg _ _ _ _ _ me;have R4:J (W4.heap[w.heap.size+1]? =_):=me;have HSV:J (P x y z ev):=qx;have sC:J (W4=_):=nR;clear Hs qx nR jS t4 me HCK b0 b1 b2;go_upto_region 5 with fail;rw[<-sC.o];go_wp2;rw[set3 _ _ _ _ _ _ _ _ _ R4.o];refine QK (v:=aI #[aH #[O I x,O aD (y:Int),O aE (z:Int)],ev]) (Je results91 _ _ (w.heap.size+1) _ _ (0,0) _ rfl (Qi _ _ _ _ _ _ R4.o) underlying179 rfl (by kernel_rfl)) rfl ?_;exact⟨(HA.o.go Hm.o).trans (Ts _ _ _) (λj hj=>aN (by omega)),x,y,z,ev,HSV.o,rfl⟩
theorem JdN{w:aA}(wj:Int)(hb pf:BA)(c:BA×Int)(h:∀W,M D w W->aB N 91 #[O I (wj:Int),L hb,aH #[L c.1,O I c.2],L pf] W λe w'=>M D W w'/\∃(x:Int)(y z:Nat)(t:TypeId)(u:aG),e=aC (aI #[aH #[O I x,O aD (y:Int),O aE (z:Int)],aJ t u])):
  aB N 47 #[O I (wj:Int),L hb,aH #[L c.1,O I c.2],L pf] w λe w'=>M D w w'/\e=aC (aI #[O I 0,aH #[O aD 0,O aE 0]]):=by
 obtain⟨s,aZ⟩:=c;have H:J (∀W,M D w W->aB _ _ _ W _):=h;clear h;dsimp only at H ⊢;obtain⟨W,hW⟩:∃W,W=(w.alloc (T #[L s,O I aZ] 49)).alloc (T #[O aD 0,O aE 0] 80):=⟨_,rfl⟩
 have tA:M D w W:=by rw[hW];exact M.allocs _ _ _ _
 have gG:W.heap[w.heap.size]? =Z (T #[L s,O I aZ] 49):=by rw[hW];exact heap_alloc2_old _ _ _
 have kK:W.heap[w.heap.size+1]? =Z (T #[O aD 0,O aE 0] 80):=by rw[hW];exact heap_alloc2_new _ _ _
 have a0:W.cell? ⟨w.heap.size,0,Y⟩=Z (L s):=Ja gG;have a1:W.cell? ⟨w.heap.size,1,Y⟩=Z (O I aZ):=Ja gG;have qu:J (∀V,M D W V->V.heap[w.heap.size+1]? =Z (T #[O aD 0,O aE 0] 80)):=λV hT=>(hT.block _ (Jb kK) (λh=>h)).trans kK;have HA:J (M _ w W):=tA;have HW:J (W=_):=hW;clear tA gG kK hW;go_enter func47,ntmps47;go_upto_region 1 with fail;rw[<-HW.o];go_wp2_with fail;refine(H.out W HA.o).mono ?_;rintro _ w1⟨H9,x,y,z,t,u,rfl⟩;obtain⟨W2,qW⟩:∃W2,W2=w1.alloc (T #[O I x,O aD (y:Int),O aE (z:Int)] 179):=⟨_,rfl⟩
 have t2:M D w1 W2:=by rw[qW];exact Ta _ _ _
 have Hw:W2.heap[w1.heap.size]? =Z (T #[O I x,O aD (y:Int),O aE (z:Int)] 179):=by rw[qW];exact Qf _ _
 have b0:W2.cell? ⟨w1.heap.size,0,Y⟩=Z (O I x):=Ja Hw;have b1:W2.cell? ⟨w1.heap.size,1,Y⟩=Z (O aD (y:Int)):=Ja Hw;have b2:W2.cell? ⟨w1.heap.size,2,Y⟩=Z (O aE (z:Int)):=Ja Hw;have H6:J (M D W W2):=H9.go t2;have kZ:=qu.o W2 H6.o;have e0:W2.cell? ⟨w.heap.size+1,0,Y⟩=Z (O aD 0):=Ja kZ;have e1:W2.cell? ⟨w.heap.size+1,1,Y⟩=Z (O aE 0):=Ja kZ;have fR:∀j,W2.frozen? ⟨w.heap.size+1,j,Y⟩=false:=λj=>Qg _ _ _ _ _ kZ;have H7:w1.heap.size ≠ w.heap.size+1:=λe=>by rw[e,kZ]at Hw;simp at Hw
 have R2:J (W2.heap[w.heap.size+1]? =_):=kZ;have jD:J (W2=_):=qW;clear H9 t2 Hw kZ qW a0 a1 H b0 b1 b2;go_upto_region 2 with fail;rw[<-jD.o];go_wp2;rw[set2 _ _ _ _ _ _ _ R2.o];refine QK (v:=aI #[O I 0,aH #[O aD 0,O aE 0]]) (XE results47 _ _ (w.heap.size+1) _ _ (0,0) _ rfl (Qi _ _ _ _ _ _ R2.o) underlying80 rfl (by kernel_rfl)) rfl ?_;exact⟨(HA.o.go H6.o).trans (Ts W2 (w.heap.size+1) _) (λj hj=>aN (by omega)),rfl⟩
def Xz(r:Option Wy)(k:Key):Int×(Nat×Nat):=match r with
 | none=>(0,(0,0))
 | some wy=>match wy.said k with
  | some o=>(1,o)
  | none=>(2,(0,0))
theorem Jjy(E:Nat->Addr)(wj:Nat)(Hn:1<=wj)(hw:wj<=32)(h:HdL)(hh:HdOk wj h)(c:BA×Int)(hc:Jj wj c)(s:BA)(hs:s.size<=2000000)(w:aA)(hE:Env E w)(hA:Ast w):
  aB N 47 #[O I (wj:Int),L ⟨(Ht h).toArray⟩,aH #[L c.1,O I c.2],L s] w λe w'=>M D w w'/\e=aC (aI #[O I (Xz (yQ wj (Jc c) h.2.2.2 s.data.toList) (Jc c)).1,aH #[O aD ((Xz (yQ wj (Jc c) h.2.2.2 s.data.toList) (Jc c)).2.1:Int),O aE ((Xz (yQ wj (Jc c) h.2.2.2 s.data.toList) (Jc c)).2.2:Int)]]):=by
 have H:=λW (hT:M D w W)=>JcB E wj Hn hw h.2.2.2 (Jc c) (Xu hc) s hs W (hE.tch hT noE) (hA.tch hT (λh=>h))
 cases hr:yQ wj (Jc c) h.2.2.2 s.data.toList with
 | none=>
  rw[hr]at H;refine JdN wj _ s c (λW hT=>?_);refine(Jdf E wj Hn hw h hh c hc s (λ_ _ _ ev=>∃t u,ev=aJ t u) W (hE.tch hT noE) (λV qm=>?_)).mono ?_
  ·refine(H V (hT.go qm)).mono ?_;rintro e w'⟨ht,t,u,he⟩;exact⟨ht,0,0,0,Y,0,0,aJ t u,⟨t,u,rfl⟩,he⟩
  ·rintro e w'⟨ht,x,y,z,ev,⟨t,u,rfl⟩,he⟩;exact⟨ht,x,y,z,t,u,he⟩
 | some wy=>
  rw[hr]at H;refine(JiD wj _ s c (wy.said (Jc c)) (λW hT=>?_)).mono ?_
  ·refine(Jdf E wj Hn hw h hh c hc s (λx y z ev=>ZT (wy.said (Jc c))=aH #[O I x,O aD (y:Int),O aE (z:Int)]/\ev=aK) W (hE.tch hT noE) (λV qm=>?_)).mono ?_
   ·refine(H V (hT.go qm)).mono ?_;rintro e w'⟨ht,x,y,z,g,cap,qx,he,_⟩;exact⟨ht,x,y,z,_,_,_,aK,⟨qx,rfl⟩,he⟩
   ·rintro e w'⟨ht,x,y,z,ev,⟨qx,rfl⟩,he⟩;exact⟨ht,x,y,z,qx,he⟩
  ·rintro e w'⟨ht,x,y,z,qx,rfl⟩;refine⟨ht,?_⟩;unfold Xz;dsimp only
   cases hs:wy.said (Jc c) with
   | none=>
    rw[hs]at qx;simp only[ZT,Value.agg.injEq,Array.mk.injEq,QH,Value.int.injEq,true_and,and_true]at qx;obtain⟨rfl,hy,hz⟩:=qx;rw[<-hy,<-hz];rfl
   | some o=>
    rw[hs]at qx;simp only[ZT,Value.agg.injEq,Array.mk.injEq,QH,Value.int.injEq,true_and,and_true]at qx;obtain⟨rfl,hy,hz⟩:=qx;rw[<-hy,<-hz]

attribute [local go_sem] Oper.semAt_some

structure TgAt(n₀ Ba Bb ga ca gb cb:Nat)(A B:List BA)(W:aA):Prop where
 ra:W.heap[Ba]? =Z (T #[R (Z ⟨ga,0,Y⟩) A.length ca] 58)
 rb:W.heap[Bb]? =Z (T #[R (Z ⟨gb,0,Y⟩) B.length cb] 58)
 la:ga<n₀/\gb<n₀/\n₀<=W.heap.size
 xa:∀(j:Nat) t,A[j]? =Z t->W.cell? ⟨ga,j,Y⟩=Z (L t)
 xb:∀(j:Nat) t,B[j]? =Z t->W.cell? ⟨gb,j,Y⟩=Z (L t)
theorem TgAt.keep{n₀ Ba Bb ga ca gb cb:Nat}{A B:List BA}{W W':aA}(h:TgAt n₀ Ba Bb ga ca gb cb A B W)(k:JbR n₀ Ba Bb W W'):TgAt n₀ Ba Bb ga ca gb cb A B W':=
 ⟨k.2.1 _ _ h.ra,k.2.2 _ _ h.rb,⟨h.la.1,h.la.2.1,Qm h.la.2.2 k.1.size⟩,λj t ht=>(k.1.cell (p:=⟨ga,j,Y⟩) h.la.1).trans (h.xa j t ht),λj t ht=>(k.1.cell (p:=⟨gb,j,Y⟩) h.la.2.1).trans (h.xb j t ht)⟩
theorem TgAt.next{n₀ Ba Bb ga ca gb cb:Nat}{A B:List BA}{W W':aA}(h:TgAt n₀ Ba Bb ga ca gb cb A B W)(k:M D W W'):TgAt n₀ Ba Bb ga ca gb cb A B W':=
 ⟨(k.block _ (Jb h.ra) (λe=>e)).trans h.ra,(k.block _ (Jb h.rb) (λe=>e)).trans h.rb,⟨h.la.1,h.la.2.1,Qm h.la.2.2 k.size⟩,λj t ht=>(k.cell (p:=⟨ga,j,Y⟩) (Qk h.la.1 h.la.2.2) (λe=>e)).trans (h.xa j t ht),λj t ht=>(k.cell (p:=⟨gb,j,Y⟩) (Qk h.la.2.1 h.la.2.2) (λe=>e)).trans (h.xb j t ht)⟩
theorem JnF{P Q:Prop}{e:Ending}(h:(e=aC (aL true)/\P)\/(e=aC (aL false)/\Q)):∃bb:Bool,e=aC (aL bb)/\((bb=true->P)/\(bb=false->Q)):=by
 rcases h with⟨rfl,h⟩|⟨rfl,h⟩
 ·exact⟨true,rfl,λ_=>h,λe=>(by cases e)⟩
 ·exact⟨false,rfl,λe=>(by cases e),λ_=>h⟩
theorem Jpa(n:Nat)(hn:2<=n)(l Ba Bb n₀ ga ca gb cb:Nat)(A B:List BA)(hA:A.length<=1000000)(aR Jx:List (BA×BA)->aA->Prop)
  (hJ:∀H4 W W',aR H4 W->M D W W'->aR H4 W')
  (hY:∀H4 x W,aR H4 W->(A.zip B)[H4.length]? =Z x->YieldAt Fence.wide (n-1) N l #[L x.1,L x.2] W λe W'=>
   (e=aC (aL true)/\aR (H4++[x]) W'/\JbR n₀ Ba Bb W W')\/(e=aC (aL false)/\Jx (H4++[x]) W'))
  (W:aA) (hU:TgAt n₀ Ba Bb ga ca gb cb A B W) (h0:aR [] W):
  CallsIn Fence.wide n N 297 #[.func (.yield l) #[] #[],X (Z ⟨Ba,0,Y⟩),X (Z ⟨Bb,0,Y⟩)] W λe W'=>(∃v,e=aC v)/\
   ((∃ys,ys=A.zip B/\aR ys W')\/(∃H4,H4 <+:A.zip B/\Jx H4 W')):=by
 have HU:J _:=hU;have a0:W.cell? ⟨Ba,0,Y⟩=Z (R (Z ⟨ga,0,Y⟩) A.length ca):=Ja hU.ra;have b0:W.cell? ⟨Bb,0,Y⟩=Z (R (Z ⟨gb,0,Y⟩) B.length cb):=Ja hU.rb;have HJ:J _:=hJ;have HY:J _:=hY;have HJ0:J _:=h0;clear hU hJ hY h0;refine callsIn_of_wp func297 rfl trivial ?_ rfl;simp only[ntmps297,lI,Qp,Qv,lN,lO,lD,lE,lJ,lF,lH,lG];gi_wp2;obtain⟨m,hm⟩:∃m,m=min A.length B.length:=⟨_,rfl⟩
 have hM:min (A.length:Int) (B.length:Int)=(m:Int):=by omega
 rw[hM];have hzl:(A.zip B).length=m:=by rw[List.length_zip,hm]
 have hmA:m<=A.length:=by omega
 have hmB:m<=B.length:=by omega
 have HZL:J _:=hzl;have HMA:J (m<=A.length/\m<=B.length/\m<=1000000):=⟨hmA,hmB,by omega⟩
 clear hM hm hzl hmA hmB;gi_loopw [10] (λi wr=>∃p,p<=m/\i=O I (p:Int)/\J (TgAt n₀ Ba Bb ga ca gb cb A B wr)/\J (aR ((A.zip B).take p) wr)) (λi wr=>m-(intOf i).toNat)
 case atStart=>exact⟨0,lR _,rfl,HU,HJ0⟩
 case round=>
  obtain⟨p,hp,rfl,rX,m9⟩:=hrel
  by_cases bZ:p<m
  ·have bn:p<A.length:=(by have:=HMA.o;omega);have hpB:p<B.length:=(by have:=HMA.o;omega);obtain⟨x,hx⟩:∃x,x=A[p]:=⟨_,rfl⟩
   obtain⟨y,hy⟩:∃y,y=B[p]:=⟨_,rfl⟩
   have ur:(A.zip B)[p]? =Z (x,y):=(by rw[Qd (by rw[HZL.o];exact bZ),List.getElem_zip,hx,hy]);have mc:((A.zip B).take p).length=p:=(by rw[QB,HZL.o];omega);have vI:(A.zip B).take p++[(x,y)]=(A.zip B).take (p+1):=(by rw[lS,ur];rfl);have a0:wr.cell? ⟨Ba,0,Y⟩=Z (R (Z ⟨ga,0,Y⟩) A.length ca):=Ja rX.o.ra;have b0:wr.cell? ⟨Bb,0,Y⟩=Z (R (Z ⟨gb,0,Y⟩) B.length cb):=Ja rX.o.rb;have a1:wr.cell? ⟨ga,p,Y⟩=Z (L x):=rX.o.xa p x (by rw[hx];exact Qd bn);have b1:wr.cell? ⟨gb,p,Y⟩=Z (L y):=rX.o.xb p y (by rw[hy];exact Qd hpB);have HYD:J (∀V,M D wr V->YieldAt Fence.wide (n-1) N l #[L x,L y] V λe W'=>(e=aC (aL true)/\aR ((A.zip B).take (p+1)) W'/\JbR n₀ Ba Bb V W')\/(e=aC (aL false)/\Jx ((A.zip B).take (p+1)) W')):=λV hT=>by
    have:=HY.o _ (x,y) V (HJ.o _ _ _ m9.o hT) (by rw[mc];exact ur);rw[vI]at this;exact this
   have hpi:(p:Int)<(m:Int):=(by omega);have hpa:(p:Int)<(A.length:Int):=(by omega);have hpb:(p:Int)<(B.length:Int):=(by omega);have hp0:(0:Int)<=(p:Int):=(by omega);have HPM:J (p<m):=bZ;clear ur mc vI hx hy bn hpB bZ hp;gi_wp2;obtain⟨fn,tmps,assign,body,hy,hR⟩:=HYD.o wr.drew (Td _ wr 1);gi_region_with ((refine⟨λ_=>by omega,hR.mono ?_⟩;rintro e W3 mh;obtain⟨bb,rfl,yu⟩:=JnF mh;have kf:J ((bb=true->aR ((A.zip B).take (p+1)) W3/\JbR n₀ Ba Bb wr.drew W3)/\(bb=false->Jx ((A.zip B).take (p+1)) W3)):=yu;clear mh yu))
   all_goals
    clear hR hy HYD
    cases bb
    ·have hJx:=kf.o.2 rfl;have HJX:J (Jx _ W3):=hJx;clear kf hJx;gi_wp2;refine QK (v:=aI #[]) (results_none results297 _ _ _) rfl ?_;exact⟨⟨_,rfl⟩,aN ⟨_,lW _ _,HJX.o⟩⟩
    ·obtain⟨fW,zg⟩:=kf.o.1 rfl;have al:J (aR _ W3):=fW;have am:J (TgAt n₀ Ba Bb ga ca gb cb A B W3):=(rX.o.next (Td _ wr 1)).keep zg;clear kf fW zg;gi_wp2;go_roundw
     case rel=>exact⟨p+1,HPM.o,by go_num,am,al⟩
     case measure=>have:=HPM.o;simp[intOf];omega
  ·have jA:¬(p:Int)<(m:Int):=(by omega);have cY:J (p=m):=(by omega:p=m)
   clear bZ hp;gi_wp2;refine bodyPost_end (v:=aI #[]) (results_none results297 _ _ _) rfl ?_;have bD:=m9.o;rw[QS (by rw[HZL.o,cY.o];exact Ql _)]at bD;refine⟨⟨_,rfl⟩,aM ?_⟩
   first
    | exact bD
    | exact⟨_,rfl,bD⟩
theorem Jjs(n:Nat)(hn:2<=n)(Ba Bb n₀ ga ca gb cb:Nat)(A B:List BA)(hA:A.length<=1000000)(w:aA)(hU:TgAt n₀ Ba Bb ga ca gb cb A B w):
  SeqStopsK Fence.wide n N 297 #[X (Z ⟨Ba,0,Y⟩),X (Z ⟨Bb,0,Y⟩)] (λx:BA×BA=> #[L x.1,L x.2]) (JbR n₀ Ba Bb) (λys=>ys=A.zip B) (λH4=>H4 <+:A.zip B) (A.zip B).length w:=λl aR Jx W hW hJ _ hY h0=>
 Jpa n hn l Ba Bb n₀ ga ca gb cb A B hA aR Jx (λH4 W1 W2 h k=>hJ H4 W1 W2 Y h ⟨k.os,k.tape,k.output,k.size,λj hj _=>k.block j hj (λe=>e)⟩ (λr e=>by cases e)) (λH4 x W hJ hx=>hY H4 x W hJ (Qo.1 hx).1) W (hU.next ((M.of_below hW).mono (λ_ hj=>aN hj))) h0

attribute [local go_sem] Oper.semAt_some

structure PtI(w:aA)(ra rb:Array aG)(H4:List (BA×BA))(W:aA):Prop where
 below:Below w.heap.size w W
 eqs:∀y∈H4,y.1=y.2
 r0:W.heap[w.heap.size]? =Z (T #[L ⟨#[]⟩] 9)
 r1:W.heap[w.heap.size+1]? =Z (T #[L ⟨#[]⟩] 9)
 r2:W.heap[w.heap.size+2]? =Z (T #[aK] 92)
 ba:W.heap[w.heap.size+3]? =Z (T ra 58)
 bb:W.heap[w.heap.size+4]? =Z (T rb 58)
structure PtX(w:aA)(H4:List (BA×BA))(W:aA):Prop where
 below:Below w.heap.size w W
 two:∃q y,H4=q++[y]/\(∀z∈q,z.1=z.2)/\y.1 ≠ y.2/\W.heap[w.heap.size]? =Z (T #[L y.1] 9)/\W.heap[w.heap.size+1]? =Z (T #[L y.2] 9)/\W.heap[w.heap.size+2]? =Z (T #[aK] 92)
theorem PtI.own{w:aA}{ra rb:Array aG}{B:Nat}(hB:w.heap.size+5<=B):OwnFrom B (PtI w ra rb):=by
 intro s W W' row h hg hr;have kS:∀r,row=Z r->∃o:Obj,W.heap[r]? =Z o/\o.isCells=false:=λr e=>(hr r e).2;exact⟨ownFrom_below (β:=List (BA×BA)) (w₀:=w) (n₀:=w.heap.size) (B:=B) (Ql _) (by omega) s W W' row h.below hg hr,h.eqs,Ju h.r0 hg kS,Ju h.r1 hg kS,Ju h.r2 hg kS,Ju h.ba hg kS,Ju h.bb hg kS⟩
theorem PtX.own{w:aA}{B:Nat}(hB:w.heap.size+5<=B):OwnFrom B (PtX w):=by
 intro s W W' row h hg hr;have kS:∀r,row=Z r->∃o:Obj,W.heap[r]? =Z o/\o.isCells=false:=λr e=>(hr r e).2;obtain⟨q,y,e1,e2,e3,e4,e5,e6⟩:=h.two;exact⟨ownFrom_below (β:=List (BA×BA)) (w₀:=w) (n₀:=w.heap.size) (B:=B) (Ql _) (by omega) s W W' row h.below hg hr,q,y,e1,e2,e3,Ju e4 hg kS,Ju e5 hg kS,Ju e6 hg kS⟩
theorem PtI.two{w W:aA}{ra rb:Array aG}{H4:List (BA×BA)}{y1 y2:BA}(HI:PtI w ra rb H4 W)(Hl:y1 ≠ y2):
  KeepsOthers W (((W.setCell ⟨w.heap.size,0,Y⟩ (L y1)).setCell ⟨w.heap.size+1,0,Y⟩ (L y2)).setCell ⟨w.heap.size+1+1,0,Y⟩ aK)/\PtX w (H4++[(y1,y2)]) (((W.setCell ⟨w.heap.size,0,Y⟩ (L y1)).setCell ⟨w.heap.size+1,0,Y⟩ (L y2)).setCell ⟨w.heap.size+1+1,0,Y⟩ aK):=by
 have k1:(W.setRow w.heap.size #[L y1]).heap[w.heap.size+1]? =Z (T #[L ⟨#[]⟩] 9):=(setRow_other _ _ _ _ (by omega)).trans HI.r1;have k2:((W.setRow w.heap.size #[L y1]).setRow (w.heap.size+1) #[L y2]).heap[w.heap.size+2]? =Z (T #[aK] 92):=(setRow_other _ _ _ _ (by omega)).trans ((setRow_other _ _ _ _ (by omega)).trans HI.r2);have e:((W.setCell ⟨w.heap.size,0,Y⟩ (L y1)).setCell ⟨w.heap.size+1,0,Y⟩ (L y2)).setCell ⟨w.heap.size+1+1,0,Y⟩ aK=((W.setRow w.heap.size #[L y1]).setRow (w.heap.size+1) #[L y2]).setRow (w.heap.size+2) #[aK]:=by rw[Qj W w.heap.size 0 _ _ (0,0) _ HI.r0];rw[show (#[lC ⟨#[]⟩].setIfInBounds 0 (L y1))= #[L y1] from rfl];rw[Qj _ (w.heap.size+1) 0 _ _ (0,0) _ k1];rw[show (#[lC ⟨#[]⟩].setIfInBounds 0 (L y2))= #[L y2] from rfl];rw[Qj _ (w.heap.size+2) 0 _ _ (0,0) _ k2];rfl
 rw[e];have t:M (λj=>j=w.heap.size\/j=w.heap.size+1\/j=w.heap.size+2) W (((W.setRow w.heap.size #[L y1]).setRow (w.heap.size+1) #[L y2]).setRow (w.heap.size+2) #[aK]):=(((Ts W w.heap.size _).mono (λ_ h=>aM (aM h))).trans (Ts _ (w.heap.size+1) _) (λ_ h=>aM (aN (aM h)))).trans (Ts _ (w.heap.size+2) _) (λ_ h=>aM (aN (aN h)));refine⟨Jbf t (λj hj=>?_),HI.below.trans (t.below HI.below.size (λj hj=>by omega)),H4,(y1,y2),rfl,HI.eqs,Hl,?_,?_,?_⟩
 ·rcases hj with rfl|rfl|rfl
  ·exact⟨_,_,_,HI.r0⟩
  ·exact⟨_,_,_,HI.r1⟩
  ·exact⟨_,_,_,HI.r2⟩
 ·exact(setRow_other _ _ _ _ (by omega)).trans ((setRow_other _ _ _ _ (by omega)).trans (Qi _ _ _ _ _ _ HI.r0))
 ·exact(setRow_other _ _ _ _ (by omega)).trans (Qi _ _ _ _ _ _ k1)
 ·exact Qi _ _ _ _ _ _ k2
theorem Jeo{P:Program}{fn:Func}{p p2 p3:Tmp}{ty ty2 ty3:TypeId}(h:fn.results= #[.cell p ty,.cell p2 ty2,.cell p3 ty3])(tmps:Array aG)(w:aA)(a a2 a3:Addr)(v v2 v3:aG)
  (hp:tmps.getD p undef=X (Z a)) (kV:tmps.getD p2 undef=X (Z a2)) (dJ:tmps.getD p3 undef=X (Z a3)) (ha:(isAgg ty).run P w=.ok false w) (vM:(isAgg ty2).run P w=.ok false w) (ha3:(isAgg ty3).run P w=.ok false w) (hc:w.cell? a=Z v) (hc2:w.cell? a2=Z v2) (hc3:w.cell? a3=Z v3):
  (results fn tmps).run P w=.ok (aI #[v,v2,v3]) w:=by
 have vF:tmps[p]?.getD undef=X (Z a):=by simpa using hp
 have rT:tmps[p2]?.getD undef=X (Z a2):=by simpa using kV
 have hp3':tmps[p3]?.getD undef=X (Z a3):=by simpa using dJ
 simp[results,h,vF,rT,hp3',asAddr,Jai w ty a v ha hc,Jai w ty2 a2 v2 vM hc2,Jai w ty3 a3 v3 ha3 hc3]
theorem JkF{l H4 q post:List (BA×BA)}{x y:BA×BA}(hl:l=q++x::post)(hq:∀z∈q,z.1=z.2)(hx:x.1 ≠ x.2){q':List (BA×BA)}(hp:H4 <+:l)(e1:H4=q'++[y])(e2:∀z∈q',z.1=z.2)(e3:y.1 ≠ y.2):y=x:=by
 obtain⟨r,hr⟩:=hp;rw[e1,hl]at hr;clear hl e1
 induction q generalizing q' with
 | nil=>
  cases q' with
  | nil=>simp at hr;exact hr.1
  | cons a q'=>
   simp at hr;exact absurd (by rw[<-hr.1];exact e2 a (by simp)) hx
 | cons b q ih=>
  cases q' with
  | nil=>
   simp at hr;exact absurd (by rw[hr.1];exact hq b (by simp)) e3
  | cons a q'=>
   simp only[lG,QH]at hr;exact ih (λz hz=>hq z (by simp[hz])) (λz hz=>e2 z (by simp[hz])) hr.2
theorem Jic(v1 v2:Option Addr)(n1 c1 n2 c2:Nat)(w:aA):
  CallsIn Fence.wide 3 N 226 #[R v1 n1 c1,R v2 n2 c2] w λe w'=>e=aC (.func (.func 297) #[] #[X (Z ⟨w.heap.size,0,Y⟩),X (Z ⟨w.heap.size+1,0,Y⟩)])/\w'=(w.alloc (T #[R v1 n1 c1] 58)).alloc (T #[R v2 n2 c2] 58):=by
 refine callsIn_wide.2 ?_;have uQ:∀(fn:Fn)(first cap:Array aG)(w:aA),(Instr.makeFunc fn first cap).run N w=.ok (.func fn first cap) w:=λ_ _ _ _=>rfl;go_enter func226,ntmps226;go_wp2;go_ret;exact⟨rfl,rfl⟩
theorem JiW(ga ca gb cb:Nat)(A B:List BA)(hA:A.length<=1000000)(q post:List (BA×BA))(x:BA×BA)(hl:A.zip B=q++x::post)(hq:∀z∈q,z.1=z.2)(hx:x.1 ≠ x.2)(w:aA)(hga:ga<w.heap.size)(da:gb<w.heap.size)
  (xa:∀(j:Nat) t,A[j]? =Z t->w.cell? ⟨ga,j,Y⟩=Z (L t)) (xb:∀(j:Nat) t,B[j]? =Z t->w.cell? ⟨gb,j,Y⟩=Z (L t)):
  CallsIn Fence.wide 5 N 148 #[R (Z ⟨ga,0,Y⟩) A.length ca,R (Z ⟨gb,0,Y⟩) B.length cb] w λe W'=>e=aC (aI #[L x.1,L x.2,aK])/\Below w.heap.size w W':=by
 have h1:1<=5:=by omega
 have yJ:Fence.wide.round=Y:=rfl;have HL:J _:=hl;have HQ:J _:=hq;have HX:J _:=hx;have HG:J (ga<w.heap.size/\gb<w.heap.size):=⟨hga,da⟩
 have HXA:J _:=xa;have xz:J _:=xb;refine callsIn_of_wp_marks func148 rfl trivial ?_ yJ;simp only[ntmps148,lI,Qp,Qv,lN,lO,lD,lE,lJ,lF,lH,lG];gi_wp2;refine⟨trivial,(callsIn_wide.2 (callsIn_wide.1 (Jic _ _ _ _ _ _ _))).mono ?_⟩;rintro _ _⟨rfl,rfl⟩;gi_wp2;obtain⟨WD,jd⟩:∃WD,WD=((((w.alloc (T #[L ⟨#[]⟩] 9)).alloc (T #[L ⟨#[]⟩] 9)).alloc (T #[aK] 92)).alloc (T #[R (Z ⟨ga,0,Y⟩) A.length ca] 58)).alloc (T #[R (Z ⟨gb,0,Y⟩) B.length cb] 58):=⟨_,rfl⟩
 rw[<-jd];have qr:Below w.heap.size w WD:=by rw[jd];exact(((((Below.refl _ w).alloc (Ql _) _).alloc (by simp) _).alloc (by simp;omega) _).alloc (by simp;omega) _).alloc (by simp;omega) _
 have hz:WD.heap.size=w.heap.size+5:=by rw[jd];simp
 have jT:∀(V:aA)(o:Obj)(j:Nat)(x:Obj),V.heap[j]? =Z x->_:=λV o j x h=>(Below.heap_alloc V o j (Jb h)).trans h;have qU:∀(V:aA)(o:Obj)(j:Nat),V.heap.size=j->(V.alloc o).heap[j]? =Z o:=λV o j h=>by subst h;exact Qf V o
 have r0:WD.heap[w.heap.size]? =Z (T #[L ⟨#[]⟩] 9):=by rw[jd];exact jT _ _ _ _ (jT _ _ _ _ (jT _ _ _ _ (jT _ _ _ _ (qU _ _ _ (by simp)))))
 have r1:WD.heap[w.heap.size+1]? =Z (T #[L ⟨#[]⟩] 9):=by rw[jd];exact jT _ _ _ _ (jT _ _ _ _ (jT _ _ _ _ (qU _ _ _ (by simp))))
 have r2:WD.heap[w.heap.size+2]? =Z (T #[aK] 92):=by rw[jd];exact jT _ _ _ _ (jT _ _ _ _ (qU _ _ _ (by simp)))
 have r3:WD.heap[w.heap.size+3]? =Z (T #[R (Z ⟨ga,0,Y⟩) A.length ca] 58):=by rw[jd];exact jT _ _ _ _ (qU _ _ _ (by simp))
 have r4:WD.heap[w.heap.size+4]? =Z (T #[R (Z ⟨gb,0,Y⟩) B.length cb] 58):=by rw[jd];exact qU _ _ _ (by simp)
 have hU:TgAt w.heap.size (w.heap.size+3) (w.heap.size+4) ga ca gb cb A B WD:=⟨r3,r4,⟨HG.1,HG.2,by omega⟩,λj t ht=>(qr.cell (p:=⟨ga,j,Y⟩) HG.1).trans (HXA j t ht),λj t ht=>(qr.cell (p:=⟨gb,j,Y⟩) HG.2).trans (xz j t ht)⟩
 have pD:PtI w #[R (Z ⟨ga,0,Y⟩) A.length ca] #[R (Z ⟨gb,0,Y⟩) B.length cb] [] WD:=⟨qr,λy hy=>(by cases hy),r0,r1,r2,r3,r4⟩
 refine wpIn_rangeFunc_ownF yJ h1 (gf:=297) (lb:= #[X (Z ⟨w.heap.size+1+1+1,0,Y⟩),X (Z ⟨w.heap.size+1+1+1+1,0,Y⟩)]) rfl trivial (enters_of func297 (by kernel_rfl) rfl)
  (Jjs 4 (by omega) (w.heap.size+1+1+1) (w.heap.size+1+1+1+1) w.heap.size ga ca gb cb A B hA WD hU) (λh k=>⟨h.1.trans k.1,λcs aY hc=>k.2.1 cs aY (h.2.1 cs aY hc),λcs aY hc=>k.2.2 cs aY (h.2.2 cs aY hc)⟩)
  (λW l o o' hl ho hc zD=>⟨belowK_b (w:=w) (Ql _) W l o o' (by omega) ho hc zD,λcs aY h=>Ju h (grownBy_putObj' _ l o') (λr e=>by cases e;exact⟨o,ho,hc⟩),λcs aY h=>Ju h (grownBy_putObj' _ l o') (λr e=>by cases e;exact⟨o,ho,hc⟩)⟩) (Below.refl _ _) (λ_=>rfl)
  (PtI w #[R (Z ⟨ga,0,Y⟩) A.length ca] #[R (Z ⟨gb,0,Y⟩) B.length cb]) (λc H4 W=>c=.ret/\PtX w H4 W) (PtI.own (by omega)) (λc=>λs W W' row h hg hr=>⟨h.1,PtX.own (by omega) s W W' row h.2 hg hr⟩) pD
  (λx=>{ tmps:= #[R (Z ⟨ga,0,Y⟩) A.length ca,R (Z ⟨gb,0,Y⟩) B.length cb,undef,undef,X (Z ⟨w.heap.size,0,Y⟩),X (Z ⟨w.heap.size+1,0,Y⟩),X (Z ⟨w.heap.size+1+1,0,Y⟩),L x.1,L x.2,R (Z ⟨ga,0,Y⟩) A.length ca,R (Z ⟨gb,0,Y⟩) B.length cb,.func (.func 297) #[] #[X (Z ⟨w.heap.size+1+1+1,0,Y⟩),X (Z ⟨w.heap.size+1+1+1+1,0,Y⟩)],L x.1,L x.2,undef,undef,undef,undef,undef,undef,undef],defers:=[] }) ?assign ?body ?done ?stop
 case assign=>intro l x W K hK;gi_wp2;exact hK
 case body=>
  rintro l H4 y W hI qq;obtain⟨y1,y2⟩:=y;have HI:J _:=hI;have c0:W.cell? ⟨w.heap.size,0,Y⟩=Z (L ⟨#[]⟩):=Ja hI.r0;have c1:W.cell? ⟨w.heap.size+1,0,Y⟩=Z (L ⟨#[]⟩):=Ja hI.r1;have c2:W.cell? ⟨w.heap.size+1+1,0,Y⟩=Z aK:=Ja hI.r2;have f0:W.frozen? ⟨w.heap.size,0,Y⟩=false:=Qg _ _ _ _ _ hI.r0;have f1:W.frozen? ⟨w.heap.size+1,0,Y⟩=false:=Qg _ _ _ _ _ hI.r1;have f2:W.frozen? ⟨w.heap.size+1+1,0,Y⟩=false:=Qg _ _ _ _ _ hI.r2
  by_cases he:y1=y2
  ·subst he;gi_wp2;refine⟨⟨Ql _,λk o hk ho=>hk⟩,⟨Below.refl _ _,λcs aY h=>h,λcs aY h=>h⟩,HI.below,λz hz=>?_,HI.r0,HI.r1,HI.r2,HI.ba,HI.bb⟩
   rcases QE.1 hz with hz|hz
   ·exact HI.eqs z hz
   ·simp only[Qt]at hz;rw[hz]
  ·have Hl:¬y1.toList=y2.toList:=λh=>he (JbC h);have zW:(y1.toList == y2.toList)=false:=(by simp[Hl]);have ym:J _:=he;gi_wp2;have ht:=HI.o.two ym.o;exact⟨ht.1,rfl,ht.2⟩
 case done=>rintro aV ys W hD uC hI hK;exfalso;refine HX (hI.eqs x ?_);rw[uC,HL.o];simp
 case stop=>
  rintro aV c H4 W hD sq⟨rfl,hX⟩ hK;obtain⟨q',y,e1,e2,e3,(HE4:J _),(sM:J _),(HE6:J _)⟩:=hX.two;obtain rfl:=JkF HL HQ HX sq e1 e2 e3;have pE:=hX.below;have ul:J _:=pE;clear e1 e2 e3 hX sq pE pD hU qr;gi_wp2;have hg:=grownBy_putObj' W aV (.deferred Y);have kS:∀r,Z aV=Z r->∃o:Obj,W.heap[r]? =Z o/\o.isCells=false:=λr e=>by cases e;exact⟨_,hK,rfl⟩
  refine⟨by simp,aM ⟨_,_,rfl,run_takeDeferred hK,?_⟩⟩;refine⟨_,Jeo results148 _ _ ⟨w.heap.size,0,Y⟩ ⟨w.heap.size+1,0,Y⟩ ⟨w.heap.size+1+1,0,Y⟩ (L y.1) (L y.2) aK rfl rfl rfl (isAgg9 _) (isAgg9 _) (isAgg92 _) (Ja (Ju HE4 hg kS)) (Ja (Ju sM hg kS)) (Ja (Ju HE6 hg kS)),rfl,?_⟩;exact ul.trans (belowK_b (w:=w) (Ql _) W aV _ _ (by omega) hK rfl rfl)

def Alk(w:aA):Prop:=∃t u,w.cell? ⟨8,0,Y⟩=Z (aJ t u)
theorem Alk.tch{S:Nat->Prop}{w w':aA}(h:Alk w)(k:M S w w')(hs:¬S 8):Alk w':=by
 obtain⟨t,u,h⟩:=h;exact⟨t,u,(k.cell (Qr _ _ h) hs).trans h⟩
def JbQ(e:Ending)(x:Int)(y z:Nat)(ga:Option Addr)(gl gc:Nat)(ev:aG):Prop:=e=aC (aI #[aH #[O I x,O aD (y:Int),O aE (z:Int),R ga gl gc],ev])
def XTwo(same:Prop)(aW:Ending->aA->Prop)(e:Ending)(w':aA):Prop:=(same->∃t u,e=aC (aI #[L ⟨#[]⟩,L ⟨#[]⟩,aJ t u]))/\(¬same->aW e w')
def XBad(w:aA)(e:Ending)(w':aA):Prop:=M D w w'/\∃t u,e=aC (aI #[L ⟨#[]⟩,L ⟨#[]⟩,aJ t u])
theorem Jg9(E:Nat->Addr)(wj:Nat)(Hn:1<=wj)(hw:wj<=32)(h:HdL)(hh:HdOk wj h)(c:BA×Int)(hc:Jj wj c)(s1 s2:BA)(w:aA)(hE:Env E w)
  (h1:∀W,M D w W->aB N 144 #[qV wj h.2.2.2 ⟨(Jc c).toArray⟩,L s1] W λe w'=>M D W w'/\∃x y z ga gl gc t u,JbQ e x y z ga gl gc (aJ t u)):
  aB N 94 #[O I (wj:Int),L ⟨(Ht h).toArray⟩,aH #[L c.1,O I c.2],L s1,L s2] w (XBad w):=by
 have gY:J (∀W,M D w W->_):=λW hT=>JfY E wj Hn hw h hh c hc W (hE.tch hT noE);have yV:J _:=h1;generalize h.2.2.2=st at *;generalize (⟨(Ht h).toArray⟩:BA)=hb at *;obtain⟨s,aZ⟩:=c;dsimp only at gY yV ⊢;generalize (⟨(Jc (s,aZ)).toArray⟩:BA)=kb at *;go_enter func94,ntmps94;go_wp2_with fail;refine(gY _ (Ta _ _ _)).mono ?_;rintro _ w1⟨rfl,H9⟩;have H5:J _:=(Ta D w _).go H9;go_wp2_with fail;refine(yV _ (H5.go (Ta _ _ _))).mono ?_;rintro _ w2⟨Ha,x,y,z,ga,gl,gc,t,u,rfl⟩;have H6:J _:=(H5.go (Ta _ _ _)).go Ha;go_wp2_with fail;refine(Xk _ _ _ _).mono ?_;rintro _ w3⟨rfl,jw⟩;have Hb:J (M D w w3):=by rw[jw];exact(H6.go (Ta _ _ _)).go (Ta _ _ _)
 clear jw;go_wp2;refine QK (v:=aI #[L ⟨#[]⟩,L ⟨#[]⟩,_]) (results_tmp3 results94 _ _ _) rfl ?_;exact⟨Hb,_,_,rfl⟩
theorem Jha(E:Nat->Addr)(wj:Nat)(Hn:1<=wj)(hw:wj<=32)(h:HdL)(hh:HdOk wj h)(c:BA×Int)(hc:Jj wj c)(s1 s2:BA)(w:aA)(hE:Env E w)
  (h1:∀W,M D w W->aB N 144 #[qV wj h.2.2.2 ⟨(Jc c).toArray⟩,L s1] W λe w'=>M D W w'/\∃x y z ga gl gc,JbQ e x y z ga gl gc aK)
  (h2:∀W,M D w W->aB N 144 #[qV wj h.2.2.2 ⟨(Jc c).toArray⟩,L s2] W λe w'=>M D W w'/\∃x y z ga gl gc t u,JbQ e x y z ga gl gc (aJ t u)):
  aB N 94 #[O I (wj:Int),L ⟨(Ht h).toArray⟩,aH #[L c.1,O I c.2],L s1,L s2] w (XBad w):=by
 have gY:J (∀W,M D w W->_):=λW hT=>JfY E wj Hn hw h hh c hc W (hE.tch hT noE);have yV:J _:=h1;have uU:J _:=h2;generalize h.2.2.2=st at *;generalize (⟨(Ht h).toArray⟩:BA)=hb at *;obtain⟨s,aZ⟩:=c;dsimp only at gY yV uU ⊢;generalize (⟨(Jc (s,aZ)).toArray⟩:BA)=kb at *;go_enter func94,ntmps94;go_wp2_with fail;refine(gY _ (Ta _ _ _)).mono ?_;rintro _ w1⟨rfl,H9⟩;obtain⟨W2,(jD:J _)⟩:∃W2,W2=w1.alloc (T #[O I (wj:Int),L st,L kb] 248):=⟨_,rfl⟩
 have t2:M D w1 W2:=by rw[jD];exact Ta _ _ _
 have Hw:W2.heap[w1.heap.size]? =Z (T #[O I (wj:Int),L st,L kb] 248):=by rw[jD];exact Qf _ _
 have pG:J (∀V,M D W2 V->V.cell? ⟨w1.heap.size,0,Y⟩=Z (O I (wj:Int))/\V.cell? ⟨w1.heap.size,1,Y⟩=Z (L st)/\V.cell? ⟨w1.heap.size,2,Y⟩=Z (L kb)):=λV hT=>by
  have:=(hT.block _ (Jb Hw) (λh=>h)).trans Hw;exact⟨Ja this,Ja this,Ja this⟩
 have H6:J _:=((Ta D w _).go H9).go t2;obtain⟨q0,q1,q2⟩:=pG W2 (Te _ _);clear H9 gY t2 Hw;go_upto_region 2 with fail;rw[<-jD.o];go_wp2_with fail;refine(yV _ H6).mono ?_;rintro _ w3⟨Hs,x,y,z,ga,gl,gc,rfl⟩;have Hb:J (M D W2 (w3.alloc (T #[O I x,O aD (y:Int),O aE (z:Int),R ga gl gc] 252))):=Hs.go (Ta _ _ _);obtain⟨q0,q1,q2⟩:=pG _ Hb.o;go_wp2_with fail;refine(uU _ (H6.go Hb)).mono ?_;rintro _ w4⟨Hu,x',y',z',ga',gl',gc',t,u,rfl⟩;have Hm:J _:=(H6.go Hb).go Hu;go_wp2_with fail;refine(Xk _ _ _ _).mono ?_;rintro _ w5⟨rfl,xi⟩;have kD:J (M D w w5):=by rw[xi];exact(Hm.go (Ta _ _ _)).go (Ta _ _ _)
 clear xi;go_wp2;refine QK (v:=aI #[L ⟨#[]⟩,L ⟨#[]⟩,_]) (results_tmp3 results94 _ _ _) rfl ?_;exact⟨kD,_,_,rfl⟩
theorem Jhb(E:Nat->Addr)(wj:Nat)(Hn:1<=wj)(hw:wj<=32)(h:HdL)(hh:HdOk wj h)(c:BA×Int)(hc:Jj wj c)(s1 s2:BA)(w:aA)(hE:Env E w)
  (x:Int) (y z:Nat) (gl:Nat) (x':Int) (y' z':Nat) (gl':Nat) (P1 P2:Nat->aA->Prop) (aW:Ending->aA->Prop)
  (hP1:∀g V V',P1 g V->M D V V'->P1 g V')
  (h1:∀W,M D w W->aB N 144 #[qV wj h.2.2.2 ⟨(Jc c).toArray⟩,L s1] W λe w'=>M D W w'/\∃g cap,JbQ e x y z (Z ⟨g,0,Y⟩) gl cap aK/\P1 g w')
  (h2:∀W,M D w W->aB N 144 #[qV wj h.2.2.2 ⟨(Jc c).toArray⟩,L s2] W λe w'=>M D W w'/\∃g cap,JbQ e x' y' z' (Z ⟨g,0,Y⟩) gl' cap aK/\P2 g w')
  (jT:∀W,M D w W->Alk W)
  (hpart:¬(x=x'/\y=y'/\z=z')->∀W g g' cap cap',M D w W->P1 g W->P2 g' W->aB N 148 #[R (Z ⟨g,0,Y⟩) gl cap,R (Z ⟨g',0,Y⟩) gl' cap'] W λe w'=>M D W w'/\∃sx sy:BA,aW (aC (aI #[L sx,L sy,aK])) w'/\e=aC (aI #[L sx,L sy,aK]))
  (iA:∀g V V',P2 g V->M D V V'->P2 g V'):
  aB N 94 #[O I (wj:Int),L ⟨(Ht h).toArray⟩,aH #[L c.1,O I c.2],L s1,L s2] w λe w'=>M D w w'/\XTwo (x=x'/\y=y'/\z=z') aW e w':=by
 have gY:J (∀W,M D w W->_):=λW hT=>JfY E wj Hn hw h hh c hc W (hE.tch hT noE);have yV:J _:=h1;have uU:J _:=h2;have cD:J _:=jT;have HPA:J _:=hpart;have Hx:J _:=hP1;have kF:J _:=iA;generalize h.2.2.2=st at *;generalize (⟨(Ht h).toArray⟩:BA)=hb at *;obtain⟨s,aZ⟩:=c;dsimp only at gY yV uU ⊢;generalize (⟨(Jc (s,aZ)).toArray⟩:BA)=kb at *;go_enter func94,ntmps94;go_wp2_with fail;refine(gY _ (Ta _ _ _)).mono ?_;rintro _ w1⟨rfl,H9⟩;obtain⟨W2,(jD:J _)⟩:∃W2,W2=w1.alloc (T #[O I (wj:Int),L st,L kb] 248):=⟨_,rfl⟩
 have t2:=yh jD;have Hw:=xw jD;have pG:J (∀V,M D W2 V->V.cell? ⟨w1.heap.size,0,Y⟩=Z (O I (wj:Int))/\V.cell? ⟨w1.heap.size,1,Y⟩=Z (L st)/\V.cell? ⟨w1.heap.size,2,Y⟩=Z (L kb)):=λV hT=>by
  have:=(hT.block _ (Jb Hw) (λh=>h)).trans Hw;exact⟨Ja this,Ja this,Ja this⟩
 have H6:J _:=((Ta D w _).go H9).go t2;obtain⟨q0,q1,q2⟩:=pG W2 (Te _ _);clear H9 gY t2 Hw;go_upto_region 2 with fail;rw[<-jD.o];go_wp2_with fail;refine(yV _ H6).mono ?_;rintro _ w3⟨Hs,g,cap,rfl,dJ⟩;obtain⟨W3,(jv:J _)⟩:∃W3,W3=w3.alloc (T #[O I x,O aD (y:Int),O aE (z:Int),R (Z ⟨g,0,Y⟩) gl cap] 252):=⟨_,rfl⟩
 have t3:=yh jv;have k8:=xw jv;have mI:J (∀V,M D W3 V->V.cell? ⟨w3.heap.size,0,Y⟩=Z (O I x)/\V.cell? ⟨w3.heap.size,1,Y⟩=Z (O aD (y:Int))/\V.cell? ⟨w3.heap.size,2,Y⟩=Z (O aE (z:Int))/\V.cell? ⟨w3.heap.size,3,Y⟩=Z (R (Z ⟨g,0,Y⟩) gl cap)):=λV hT=>by
  have:=(hT.block _ (Jb k8) (λh=>h)).trans k8;exact⟨Ja this,Ja this,Ja this,Ja this⟩
 have Hb:J _:=Hs.go t3;have bY:J _:=Hx _ _ _ dJ t3;clear Hs yV q0 q1 q2 dJ t3 k8;obtain⟨q0,q1,q2⟩:=pG _ Hb.o;go_upto_region 5 with fail;rw[<-jv.o];go_wp2_with fail;refine(uU _ (H6.go Hb)).mono ?_;rintro _ w4⟨Hu,g',cap',rfl,yj⟩;obtain⟨W4,(sC:J _)⟩:∃W4,W4=w4.alloc (T #[O I x',O aD (y':Int),O aE (z':Int),R (Z ⟨g',0,Y⟩) gl' cap'] 252):=⟨_,rfl⟩
 have t4:=yh sC;have jS:=xw sC;have Hm:J _:=((H6.go Hb).go Hu).go t4;have sW:J _:=kF _ _ _ yj t4;have zj:J _:=Hx _ _ _ bY (Hu.go t4);obtain⟨a0,a1,a2,a3⟩:=mI W4 (Hu.go t4);obtain⟨b0,b1,b2,b3⟩:=rows jS;obtain⟨t,u,jT⟩:=cD W4 Hm.o;clear Hu yj t4 jS uU q0 q1 q2 Hb bY mI pG;go_upto_region 8 with fail;rw[<-sC.o]
 by_cases qD:x=x'/\y=y'/\z=z'
 ·obtain⟨rfl,rfl,rfl⟩:=qD;go_wp2_with fail;refine(Xk _ _ _ _).mono ?_;rintro _ w5⟨rfl,xi⟩;have kD:J (M D w w5):=by rw[xi];exact Hm.go (Ta _ _ _)
  clear xi;go_wp2;refine QK (v:=aI #[L ⟨#[]⟩,L ⟨#[]⟩,_]) (results_tmp3 results94 _ _ _) rfl ?_;exact⟨kD,λ_=>⟨_,_,rfl⟩,λh=>(h (by simp)).elim⟩
 ·have ap:J _:=HPA qD;have ym:J _:=qD
  by_cases hx:x=x'
  ·by_cases hy:y=y'
   ·have hz:¬(z:Int)=(z':Int):=λh=>qD ⟨hx,hy,by omega⟩;subst hx hy;go_wp2_with fail;refine(ap _ _ _ _ _ Hm zj sW).mono ?_;rintro _ w5⟨kR,sx,sy,(HR:J _),rfl⟩;have kD:J _:=Hm.go kR;clear kR ap;go_wp2;refine QK (v:=aI #[L sx,L sy,aK]) (results_tmp3 results94 _ _ _) rfl ?_;exact⟨kD.o,λh=>absurd h (by simpa using ym.o),λ_=>HR.o⟩
   ·have hy2:¬(y:Int)=(y':Int):=λh=>hy (by omega);subst hx;clear qD hy;go_wp2_with fail;refine(ap _ _ _ _ _ Hm zj sW).mono ?_;rintro _ w5⟨kR,sx,sy,(HR:J _),rfl⟩;have kD:J _:=Hm.go kR;clear kR ap;go_wp2;refine QK (v:=aI #[L sx,L sy,aK]) (results_tmp3 results94 _ _ _) rfl ?_;exact⟨kD.o,λh=>absurd h (by simpa using ym.o),λ_=>HR.o⟩
  ·clear qD;go_wp2_with fail;refine(ap _ _ _ _ _ Hm zj sW).mono ?_;rintro _ w5⟨kR,sx,sy,(HR:J _),rfl⟩;have kD:J _:=Hm.go kR;clear kR ap;go_wp2;refine QK (v:=aI #[L sx,L sy,aK]) (results_tmp3 results94 _ _ _) rfl ?_;exact⟨kD.o,λh=>absurd h (by simpa using ym.o),λ_=>HR.o⟩
theorem Jhc{w:aA}(wj:Int)(hb s1 s2:BA)(c:BA×Int)(P:BA->BA->Bool->Prop)(h:∀W,M D w W->aB N 94 #[O I (wj:Int),L hb,aH #[L c.1,O I c.2],L s1,L s2] W λe w'=>M D W w'/\∃sx sy ev,e=aC (aI #[L sx,L sy,ev])/\((ev=aK/\P sx sy true)\/(∃t u,ev=aJ t u)/\P sx sy false)):
  aB N 51 #[O I (wj:Int),L hb,aH #[L c.1,O I c.2],L s1,L s2] w λe w'=>M D w w'/\∃sx sy b,P sx sy b/\e=aC (aI #[L sx,L sy,aL b]):=by
 obtain⟨s,aZ⟩:=c;have H:J _:=h;dsimp only at H ⊢;go_enter func51,ntmps51;go_wp2_with fail;refine(H _ (Ta _ _ _)).mono ?_;rintro _ w1⟨H9,sx,sy,ev,rfl,sB⟩;have H5:J _:=(Ta D w _).go H9
 rcases sB with⟨rfl,hP⟩|⟨⟨t,u,rfl⟩,hP⟩
 ·have HP:J _:=hP;go_upto_region 2 with fail;go_quiet (fail);go_wp2;refine QK (v:=aI #[L sx,L sy,aL true]) (results_tmp3 results51 _ _ _) rfl ?_;exact⟨H5.go (Td _ _ _),sx,sy,true,HP,rfl⟩
 ·have HP:J _:=hP;go_upto_region 2 with fail;go_quiet (fail);go_wp2;refine QK (v:=aI #[L sx,L sy,aL false]) (results_tmp3 results51 _ _ _) rfl ?_;exact⟨H5.go (Td _ _ _),sx,sy,false,HP,rfl⟩
open Go.ChangeShapes Go.WideShapes Go.ChangeAt Go.RowKit

theorem JjR{W:aA}(h:laidMetH N Rows.blocksUptoRow.laid W):(∃E:Nat->Addr,Env E W/\Sent E W/\∀g∈Ss,(E g).block<W.heap.size)/\Ast W/\Alk W:=by
 rw[MakeChecks.laidMetH_plain _ _ _ (by kernel_rfl)]at h;have h3:=h.tail.tail.tail;have hs:∀g∈Ss,JdA W g (tx g):=by
  intro g hg;simp only[Ss,List.mem_cons,QD,or_false]at hg
  rcases hg with rfl|rfl|rfl|rfl|rfl|rfl|rfl|rfl
  ·exact XV h3.tail (by kernel_rfl) (by kernel_rfl)
  ·exact XV h3.tail.tail (by kernel_rfl) (by kernel_rfl)
  ·exact XV h3.tail.tail.tail (by kernel_rfl) (by kernel_rfl)
  ·exact XV h3.tail.tail.tail.tail (by kernel_rfl) (by kernel_rfl)
  ·exact XV h3.tail.tail.tail.tail.tail (by kernel_rfl) (by kernel_rfl)
  ·exact XV h3.tail.tail.tail.tail.tail.tail (by kernel_rfl) (by kernel_rfl)
  ·exact XV h3.tail.tail.tail.tail.tail.tail.tail (by kernel_rfl) (by kernel_rfl)
  ·exact XV h3 (by kernel_rfl) (by kernel_rfl)
 have ht:laidMet N [("trove/digest.roundConstants",Lib.tabData aF Ks)] W:=h3.tail.tail.tail.tail.tail.tail.tail.tail.tail.tail.tail.tail.tail;have hast:JdA W 11 (txOf Rows.laid_trove_fault_Astray):=XV h3.tail.tail.tail.tail.tail.tail.tail.tail (by kernel_rfl) (by kernel_rfl);have halk:JdA W 8 (txOf Rows.laid_trove_fault_Alike):=XV h3.tail.tail.tail.tail.tail.tail.tail.tail.tail (by kernel_rfl) (by kernel_rfl);have sK:=Lib.tabIs_of_head gTab Jmm underlying486 underlying429 JpK JpJ ht;have hp:laidMet N (("internal/strconv.uint64pow10",Lib.tabData aD Lib.pow10Tab)::_) W:=h.tail.tail;have rS:=Lib.tabIs_of_head gPow Jml underlying503 underlying78 Jl5 JpI hp;refine⟨JpM hs ?_ rS (λi hi=>sK.cell gTab i hi),by obtain⟨a,_,_,_,h1,_⟩:=hast;exact⟨_,_,h1⟩,by obtain⟨a,_,_,_,h1,_⟩:=halk;exact⟨_,_,h1⟩⟩;obtain⟨ps,hv,_⟩:=h.tail;obtain⟨g,t,cs,fuel,p,q,hg,_,hvv,_⟩:=hv;obtain rfl:g=17:=Option.some.inj (hg.symm.trans (show prog.globalNamed "math/bits.deBruijn64tab" =Z 17 by kernel_rfl));unfold World.var? at hvv;rw[hg]at hvv;simp only[Qu]at hvv
 split at hvv
 ·rename_i hh;exact(Jb hh)
 ·cases hvv
