import Derived.Test.YtighkdnooglfjaaGreatDoorQzTxS
import Derived.Test.YtighkdnooglfjaaGreatDoorQzRgI
open Go renaming Calls->aB,Value->aG,World->aA
open Go.Ending renaming returned->aC
open Go.IntKind renaming i64->I,u64->aD,u8->aE,signed->lI,wrap->lO,bits->lP,u64->lY
open Go.Obj renaming cells->T
open Go.Proofs.Tryz renaming prog->N
open Go.RowKit renaming Hid->J
open Go.Value renaming agg->aH,bool->aL,int->O,pointer->X,slice->R,string->L,tuple->aI,slice->lR,string->lW
open Option renaming none->Y,some->Z,map_eq_some_iff->lM
open Or renaming inl->aM,inr->aN
open List renaming replicate->lC,getElem?_cons_zero->lD,getElem?_cons_succ->lE,length_replicate->lF,set_append_right->lG,drop_eq_getElem_cons->lH,flatMap_nil->lJ,length_set->lQ,set_eq_take_append_cons_drop->lS,length->lT,take_length->lU,take_append_drop->lV,replicate_zero->lX
open Nat renaming sub_self->lK,add_zero->lN,zero_add->lZ
set_option maxRecDepth 100000
set_option maxHeartbeats 4000000
namespace Go.Proofs.YtighkdnooglfjaaGreatDoor
open Go.RowKit

variable {a:Act}{ops:Array Oper}{Q:Exit->Act->aA->Prop}{l:List H9}{rest:List Oper}{s:List UInt8}{B base g i wj:Nat}{S:Nat->Prop}{o:Oper}{v:aG}{w w':aA}
abbrev qO:VV:=(O aD 99,O aE 99)
theorem JdS(w:aA)(g:Nat)(v:aG)(l:List VV)(hl:l.length<=1000000)(hv:VR B w v l)(hg:B<=g)(hs:∀x∈l,ShO x)(hZ:w.heap[g]? =Z (T (vvA (l++YI)) 80)):
  aB Tryz.prog 64 #[R (Z ⟨g,0,Y⟩) (l.length+8) (l.length+8),v] w λe w'=>e=aC (aL true)/\w'.heap[g]? =Z (T (vvA (lC (l.length+8) qO)) 80)/\M (λk=>k=g) w w':=by
 have cO:J (∀x∈l++YI,ShO x):=λx hx=>by
  rcases QE.1 hx with h|h
  ·exact hs x h
  ·obtain⟨k,_,rfl⟩:=QL.1 h;exact⟨_,_,rfl⟩
 have qS:J ((l++YI).length=l.length+8):=by show lT _=_;rw[Qe];rfl
 obtain⟨ia,ic,Hx⟩:=hv.shape;subst Hx;generalize jh:l.length=n at *;generalize yv:n+8=m at *;have gD:J (l.length=n/\n+8=m):=⟨jh,yv⟩
 have kn:(n:Int)+8<=(m:Int):=by omega
 have qY:(m:Int)<=1000008:=by omega
 have HV:J _:=hv;have HG:J _:=hg;have ke:J _:=hZ;go_enter Tryz.func64,Tryz.ntmps64;go_wp2;go_loopw [5,6] (λok i wr=>∃k:Nat,k<=m/\ok=aL true/\i=O I k/\J (wr.heap[g]? =Z (T (vvA (lC k qO++(l++YI).drop k)) 80))/\J (M (λk=>k=g) w wr)) (λ_ i _=>m-(intOf i).toNat)
 case atStart=>exact⟨0,by omega,rfl,rfl,by show _=_;rw[lX,List.nil_append,List.drop_zero];exact ke,Te _ _⟩
 case round=>
  obtain⟨k,hk,rfl,rfl,HR,HT⟩:=hrel
  by_cases H5:k<m
  ·have kT:(k:Int)<(m:Int):=(by omega);have uG:J (k<(l++YI).length):=(by show k<lT _;rw[qS.o];exact H5);obtain⟨x,hx⟩:∃x,(l++YI)[k]? =Z x:=⟨_,Qd uG⟩
   obtain⟨xa,xo,rfl⟩:=cO.o x (QT hx);have HX:J _:=hx;have qJ:J ((lC k qO++(l++YI).drop k)[k]? =Z (O aD xa,O aE xo)):=(by show _=_;rw[Qz (by simp),lF,lK,List.getElem?_drop,lN];exact hx);obtain mW|mW:=Nat.lt_or_ge k n
   case' inl=>
    have tL:(k:Int)<(n:Int):=(by omega);obtain⟨gi,oi,rfl,kV,kN⟩:∃gi oi,ia=Z ⟨gi,oi,Y⟩/\gi ≠ g/\J (∀V,M (λk=>k=g) w V->V.cell? ⟨gi,oi+k*2,Y⟩=Z (O aD xa)/\V.cell? ⟨gi,oi+k*2+1,Y⟩=Z (O aE xo)):=by
     rcases HV with⟨e,e2⟩|⟨gi,oi,c,e,mX,kV,Hg⟩
     ·rw[e2]at gD;have:=gD.o.1;simp at this;omega
     ·simp only[Qy]at e;have h2:k<l.length:=(by rw[gD.o.1];exact mW);have h3:l[k]=(O aD xa,O aE xo):=by
       have:=HX.o;rw[QF h2,Qd h2]at this;exact Option.some.inj this
      have h4:=Hg k h2;rw[h3]at h4;have vT:gi ≠ g:=(by have:=HG.o;omega);refine⟨gi,oi,e.1,vT,λV hV=>?_⟩;rw[hV.cell (p:=⟨gi,oi+k*2,Y⟩) kV vT,hV.cell (p:=⟨gi,oi+k*2+1,Y⟩) kV vT];exact h4
    go_upto_region 7 with(go_at_call 102;refine(JaS _ _).mono ?_;rintro _ w2⟨rfl,(H4:J _)⟩);generalize lY.wrap (wrap64 (77+((k:Int)-(n:Int))))=p;obtain⟨w3,jX⟩:∃w3,w3=w2.alloc (T #[O aD p,O aE 77] 80):=⟨_,rfl⟩
    have h3:=qu jX;have H8:J (M D wr w3):=H4.trans (by rw[jX];exact Ta D _ _) (λ_ h=>aM h);have xB:J _:=H4.size;rw[<-jX];clear jX;generalize w2.heap.size=xb at *;obtain⟨(kF:J _),p2⟩:=Jd5 h3 (O aD xa) (O aE xo);obtain⟨b0,b1⟩:=rows h3;have bf:∀j,w3.frozen? ⟨xb,j,Y⟩=false:=λj=>Qg _ _ _ _ _ h3;obtain⟨q0,q1⟩:=kN w3 (HT.trans H8 noE);have kR:J _:=H8.trans p2 (λj hj=>aN (by rw[hj];exact xB));clear p2 h3;go_upto_region 8 with fail;generalize (w3.setCell ⟨xb,0,Y⟩ (O aD xa)).setCell ⟨xb,1,Y⟩ (O aE xo)=wx at *
   case' inr=>
    have tL:¬(k:Int)<(n:Int):=(by omega);obtain⟨ap,(HXO:J _)⟩:xa=((77+(k-n):Nat):Int)/\xo=77:=by
     have h2:=HX.o;rw[Qz (by rw[gD.o.1];exact mW),gD.o.1]at h2;have h4:=gD.o.2;have h3:YI[k-n]? =Z (behO (k-n)):=(by unfold YI;rw[List.getElem?_map,List.getElem?_range (by omega)];rfl);rw[h3]at h2;simp only[behO,Qh,Qw,Value.int.injEq,true_and]at h2;exact⟨h2.1.symm,h2.2.symm⟩
    have yq:lY.wrap (wrap64 (77+((k:Int)-(n:Int))))=xa:=(by rw[ap,show wrap64 (77+((k:Int)-(n:Int)))=((77+(k-n):Nat):Int) by unfold wrap64;omega];simp[lO,lP,lI];omega);clear ap;go_upto_region 8 with(go_at_call 102;refine(JaS _ _).mono ?_;rintro _ w2⟨rfl,(H4:J _)⟩);obtain⟨wx,jX⟩:∃w3,w3=w2.alloc (T #[O aD xa,O aE 77] 80):=⟨_,rfl⟩
    have kF:J (wx.heap[w2.heap.size]? =Z (T #[O aD xa,O aE xo] 80)):=(by rw[jX,HXO.o];exact Qf _ _);have kR:J (M D wr wx):=H4.trans (by rw[jX];exact Ta D _ _) (λ_ h=>aM h);have xB:J _:=H4.size;rw[<-jX];clear jX yq tL;generalize w2.heap.size=xb at *
   all_goals
    have yN:J _:=(kR.block _ (Jb HR) (λh=>h)).trans HR.o;obtain⟨s0,s1⟩:=Xp yN _ qJ.o;have b0:=cell_of_row wx xb 0 _ _ _ kF.o;have b1:=cell_of_row wx xb 1 _ _ _ kF.o;simp only[List.getElem?_toArray,lD,lE]at b0 b1;go_cut [5] (λv5 wy=>v5=aL true/\J (M D wx wy))
    case first=>
     go_region_held3 (λV=>V.cell? ⟨g,k*2,Y⟩=Z (O aD xa)/\V.cell? ⟨g,k*2+1,Y⟩=Z (O aE xo)/\V.cell? ⟨xb,0,Y⟩=Z (O aD xa)/\V.cell? ⟨xb,1,Y⟩=Z (O aE xo)) (go_keep) (fail)
     all_goals go_wp2;go_meet;exact⟨rfl,Td _ _ 1⟩
    case rest=>
    obtain⟨rfl,su⟩:=hcut;obtain⟨wy,uK⟩:∃wy,wy=wc:=⟨wc,rfl⟩
    subst uK;clear s0 s1 b0 b1;have mY:J _:=(su.block _ (Jb yN) (λh=>h)).trans yN.o;obtain⟨s0,s1⟩:=Xp mY _ qJ.o;have fz:=Ze mY.o;obtain⟨(Hq:J _),(Hw:J _)⟩:=JcR mY (Qo.1 qJ).1 (O aD 99) (O aE 99);go_wp2;go_roundw
    case rel=>
     refine⟨k+1,by omega,rfl,by go_num,?_,?_⟩
     ·show _=_;rw[Hq.o]
      congr 2
      have h1:=uG.o;rw[lG _ _ (by simp),lF,lK,lH h1,Qb,List.replicate_succ',Qs];rfl
     ·exact((HT.trans kR noE).trans su noE).trans Hw (λj hj=>aM hj)
    case measure=>simp[intOf];omega
  ·obtain rfl:k=m:=(by omega);have gI:¬(k:Int)<(k:Int):=(by omega);go_wp2;go_ret;refine⟨rfl,?_,HT⟩;have h1:=HR.o;rw[List.drop_eq_nil_of_le (by rw[qS.o];exact Ql _),QC]at h1;exact h1
open Tryz

abbrev behB:BA:=⟨#[98,101,104,105,110,100]⟩
theorem YM(i:Int)(w:aA):aB N 265 #[O I i] w λe w'=>e=aC (aH #[L behB,O I (wrap64 (wrap64 (-i)-1))])/\M D w w':=by
 generalize hz:wrap64 (wrap64 (-i)-1)=z;go_enter func265,ntmps265;go_wp2;refine QK (v:=aH #[L behB,O I _]) (Qq results265 _ _ w.heap.size _ _ (0,0) _ rfl (Qf _ _) underlying49 rfl (by kernel_rfl)) rfl ⟨?_,Ta _ _ _⟩;rw[<-hz]
def behC(i:Nat):VV:=(L behB,O I (-(i:Int)-1))
def Jab:List VV:=(List.range 8).map behC
theorem Jhj(w:aA)(v:aG)(l:List VV)(hl:l.length<=1000000)(hv:VR B w v l)(hs:∀x∈l,ShC x):
  aB N 264 #[v] w λe w'=>∃g,e=aC (R (Z ⟨g,0,Y⟩) (l.length+8) (l.length+8))/\w.heap.size<=g/\w'.heap[g]? =Z (T (vvA (l++Jab)) 49)/\M D w w':=by
 obtain⟨ia,ic,Hx⟩:=hv.shape;have jp:=mkV isC (l.length+8) (by omega) w;have yO:=Qf w (T (vvA (lC (l.length+8) zC)) 49);obtain⟨r,uI⟩:=JjA isC (k:=8) hs (hv.tch (Ta D w (T (vvA (lC (l.length+8) zC)) 49)) noE) yO;have wn:I.wrap ((l.length:Int)+8)=((l.length+8:Nat):Int):=by rw[w63 _ (by omega) (by omega)];omega
 obtain⟨L0,(aq:J _)⟩:∃L0,l++lC 8 zC=L0:=⟨_,rfl⟩
 have hcp':∀ty,(Builtin.copy_ #[96,96] ty #[R (Z ⟨w.heap.size,0,Y⟩) (l.length+8) (l.length+8),v]).run N (w.alloc (T (vvA (lC (l.length+8) zC)) 49))=.ok (O I r) ((w.alloc (T (vvA (lC (l.length+8) zC)) 49)).setRow w.heap.size (vvA L0)):=by rw[<-aq];exact uI
 clear uI;subst Hx;generalize jh:l.length=n at *;generalize yv:n+8=m at *;have ke:J _:=yO;have gD:J (l.length=n/\n+8=m):=⟨jh,yv⟩
 have kn:(n:Int)+8<=(m:Int):=by omega
 have qY:(m:Int)<=1000008:=by omega
 go_enter func264,ntmps264;go_wp2;have HB:J (∀(k:Nat) V,k<8->aB N 265 #[O I (k:Int)] V λe w'=>e=aC (aH #[L behB,O I (-(k:Int)-1)])/\M D V w'):=λk V hk=>by
  have:=YM (k:Int) V;rw[show wrap64 (wrap64 (-(k:Int))-1)= -(k:Int)-1 by unfold wrap64;omega]at this;exact this
 go_loopw [4] (λi wr=>∃k:Nat,k<=8/\i=O I k/\J (wr.heap[w.heap.size]? =Z (T (vvA (l++(List.range k).map behC++lC (8-k) zC)) 49))/\J (M D w wr)) (λi _=>8-(intOf i).toNat)
 case atStart=>refine⟨0,by omega,rfl,by show _=_;rw[show l++List.map behC (List.range 0)++lC (8-0) zC=L0 by rw[<-aq.o];simp];exact Qi _ _ _ _ _ _ ke,?_⟩;exact(Ta D w _).trans (Ts _ _ _) (λj hj=>aN (by rw[hj];exact Ql _))
 case round=>
  obtain⟨k,hk,rfl,HR,HT⟩:=hrel
  by_cases H5:k<8
  ·have kT:(k:Int)<8:=(by omega);obtain⟨q,hq⟩:∃q:Nat,n+k=q:=⟨_,rfl⟩
   have wq:I.wrap ((n:Int)+(k:Int))=(q:Int):=(by rw[w63 _ (by omega) (by omega)];omega);have hqm:(q:Int)<(m:Int):=(by omega);have HQ:J _:=hq;have tM:J (∀V,_):=λV=>HB k V H5;have qS:J (q<(l++(List.range k).map behC++lC (8-k) zC).length):=(by show q<lT _;simp only[Qe,QM,List.length_range,lF];have:=gD.o.1;omega);obtain⟨z,(HZ:J _)⟩:∃z:Int, -(k:Int)-1=z:=⟨_,rfl⟩
   rw[HZ]at tM;clear hq;go_wp2_with (go_at_call 265;refine(tM _).mono ?_;rintro _ w2⟨rfl,(H4:J _)⟩;have gU:J _:=(H4.block _ (Jb HR) (λh=>h)).trans HR.o;obtain⟨f0,f1⟩:=Xp gU _ (Qd qS);have fz:=Ze gU.o);obtain⟨p1,p2⟩:=JcR gU qS (L behB) (O I z);go_roundw
   case rel=>
    refine⟨k+1,by omega,by go_num,?_,?_⟩
    ·show _=_;rw[p1]
     congr 2
     have h1:=gD.o.1;have h2:=HQ.o;have h3:=HZ.o;rw[<-h2,<-h1,Qs,lG _ _ (by omega),Qs,lG _ _ (by simp)];rw[show 8-k=(8-(k+1))+1 by omega,List.replicate_succ,List.range_succ,List.map_append,Qs];simp only[QM,List.length_range,Nat.add_sub_cancel_left,lK,Qb,List.map_cons,List.map_nil,List.cons_append,List.nil_append];rw[<-h3];rfl
    ·exact(HT.trans H4 (λ_ h=>aM h)).trans p2 (λj hj=>aN (by rw[hj];exact Ql _))
   case measure=>simp[intOf];omega
  ·obtain rfl:k=8:=(by omega);have gI:¬((8:Nat):Int)<8:=(by omega);go_wp2;go_ret;refine⟨w.heap.size,rfl,Ql _,?_,HT⟩;have:=HR.o;simp only[lK,lX,QC]at this;exact this
abbrev othB:BA:=⟨#[111,116,104,101,114]⟩
abbrev qC:VV:=(L othB,O I 99)
theorem Jhi(w:aA)(g:Nat)(v:aG)(l:List VV)(hl:l.length<=1000000)(hv:VR B w v l)(hg:B<=g)(hs:∀x∈l,ShC x)(hZ:w.heap[g]? =Z (T (vvA (l++Jab)) 49)):
  aB N 267 #[R (Z ⟨g,0,Y⟩) (l.length+8) (l.length+8),v] w λe w'=>e=aC (aL true)/\w'.heap[g]? =Z (T (vvA (lC (l.length+8) qC)) 49)/\M (λk=>k=g) w w':=by
 have cO:J (∀x∈l++Jab,ShC x):=λx hx=>by
  rcases QE.1 hx with h|h
  ·exact hs x h
  ·obtain⟨k,_,rfl⟩:=QL.1 h;exact⟨_,_,rfl⟩
 have qS:J ((l++Jab).length=l.length+8):=by show lT _=_;rw[Qe];rfl
 obtain⟨ia,ic,Hx⟩:=hv.shape;subst Hx;generalize jh:l.length=n at *;generalize yv:n+8=m at *;have gD:J (l.length=n/\n+8=m):=⟨jh,yv⟩
 have kn:(n:Int)+8<=(m:Int):=by omega
 have qY:(m:Int)<=1000008:=by omega
 have HV:J _:=hv;have HG:J _:=hg;have ke:J _:=hZ;go_enter func267,ntmps267;go_wp2;go_loopw [5,6] (λok i wr=>∃k:Nat,k<=m/\ok=aL true/\i=O I k/\J (wr.heap[g]? =Z (T (vvA (lC k qC++(l++Jab).drop k)) 49))/\J (M (λk=>k=g) w wr)) (λ_ i _=>m-(intOf i).toNat)
 case atStart=>exact⟨0,by omega,rfl,rfl,by show _=_;rw[lX,List.nil_append,List.drop_zero];exact ke,Te _ _⟩
 case round=>
  obtain⟨k,hk,rfl,rfl,HR,HT⟩:=hrel
  by_cases H5:k<m
  ·have kT:(k:Int)<(m:Int):=(by omega);have uG:J (k<(l++Jab).length):=(by show k<lT _;rw[qS.o];exact H5);obtain⟨x,hx⟩:∃x,(l++Jab)[k]? =Z x:=⟨_,Qd uG⟩
   obtain⟨xa,xo,rfl⟩:=cO.o x (QT hx);have HX:J _:=hx;have qJ:J ((lC k qC++(l++Jab).drop k)[k]? =Z (L xa,O I xo)):=(by show _=_;rw[Qz (by simp),lF,lK,List.getElem?_drop,lN];exact hx);obtain mW|mW:=Nat.lt_or_ge k n
   case' inl=>
    have tL:(k:Int)<(n:Int):=(by omega);obtain⟨gi,oi,rfl,kV,kN⟩:∃gi oi,ia=Z ⟨gi,oi,Y⟩/\gi ≠ g/\J (∀V,M (λk=>k=g) w V->V.cell? ⟨gi,oi+k*2,Y⟩=Z (L xa)/\V.cell? ⟨gi,oi+k*2+1,Y⟩=Z (O I xo)):=by
     rcases HV with⟨e,e2⟩|⟨gi,oi,c,e,mX,kV,Hg⟩
     ·rw[e2]at gD;have:=gD.o.1;simp at this;omega
     ·simp only[Qy]at e;have h2:k<l.length:=(by rw[gD.o.1];exact mW);have h3:l[k]=(L xa,O I xo):=by
       have:=HX.o;rw[QF h2,Qd h2]at this;exact Option.some.inj this
      have h4:=Hg k h2;rw[h3]at h4;have vT:gi ≠ g:=(by have:=HG.o;omega);refine⟨gi,oi,e.1,vT,λV hV=>?_⟩;rw[hV.cell (p:=⟨gi,oi+k*2,Y⟩) kV vT,hV.cell (p:=⟨gi,oi+k*2+1,Y⟩) kV vT];exact h4
    go_upto_region 7 with(go_at_call 265;refine(YM _ _).mono ?_;rintro _ w2⟨rfl,(H4:J _)⟩);generalize wrap64 (wrap64 (-((k:Int)-(n:Int)))-1)=p;obtain⟨w3,jX⟩:∃w3,w3=w2.alloc (T #[L behB,O I p] 49):=⟨_,rfl⟩
    have h3:=qu jX;have H8:J (M D wr w3):=H4.trans (by rw[jX];exact Ta D _ _) (λ_ h=>aM h);have xB:J _:=H4.size;rw[<-jX];clear jX;generalize w2.heap.size=xb at *;obtain⟨(kF:J _),p2⟩:=Jd5 h3 (L xa) (O I xo);obtain⟨b0,b1⟩:=rows h3;have bf:∀j,w3.frozen? ⟨xb,j,Y⟩=false:=λj=>Qg _ _ _ _ _ h3;obtain⟨q0,q1⟩:=kN w3 (HT.trans H8 noE);have kR:J _:=H8.trans p2 (λj hj=>aN (by rw[hj];exact xB));clear p2 h3;go_upto_region 8 with fail;generalize (w3.setCell ⟨xb,0,Y⟩ (L xa)).setCell ⟨xb,1,Y⟩ (O I xo)=wx at *
   case' inr=>
    have tL:¬(k:Int)<(n:Int):=(by omega);obtain⟨ap,(HXO:J _)⟩:xo= -((k-n:Nat):Int)-1/\xa=behB:=by
     have h2:=HX.o;rw[Qz (by rw[gD.o.1];exact mW),gD.o.1]at h2;have h4:=gD.o.2;have h3:Jab[k-n]? =Z (behC (k-n)):=(by unfold Jab;rw[List.getElem?_map,List.getElem?_range (by omega)];rfl);rw[h3]at h2;simp only[behC,Qh,Qw,Value.int.injEq,lW.injEq,true_and]at h2;exact⟨h2.2.symm,h2.1.symm⟩
    have yq:wrap64 (wrap64 (-((k:Int)-(n:Int)))-1)=xo:=(by rw[ap];unfold wrap64;omega);clear ap;go_upto_region 8 with(go_at_call 265;refine(YM _ _).mono ?_;rintro _ w2⟨rfl,(H4:J _)⟩);obtain⟨wx,jX⟩:∃w3,w3=w2.alloc (T #[L behB,O I xo] 49):=⟨_,rfl⟩
    have kF:J (wx.heap[w2.heap.size]? =Z (T #[L xa,O I xo] 49)):=(by rw[jX,HXO.o];exact Qf _ _);have kR:J (M D wr wx):=H4.trans (by rw[jX];exact Ta D _ _) (λ_ h=>aM h);have xB:J _:=H4.size;rw[<-jX];clear jX yq tL;generalize w2.heap.size=xb at *
   all_goals
    have yN:J _:=(kR.block _ (Jb HR) (λh=>h)).trans HR.o;obtain⟨s0,s1⟩:=Xp yN _ qJ.o;have b0:=cell_of_row wx xb 0 _ _ _ kF.o;have b1:=cell_of_row wx xb 1 _ _ _ kF.o;simp only[List.getElem?_toArray,lD,lE]at b0 b1;go_cut [5] (λv5 wy=>v5=aL true/\J (M D wx wy))
    case first=>
     go_region_held3 (λV=>V.cell? ⟨g,k*2,Y⟩=Z (L xa)/\V.cell? ⟨g,k*2+1,Y⟩=Z (O I xo)/\V.cell? ⟨xb,0,Y⟩=Z (L xa)/\V.cell? ⟨xb,1,Y⟩=Z (O I xo)) (go_keep) (fail)
     all_goals go_wp2;go_meet;exact⟨rfl,Td _ _ 1⟩
    case rest=>
    obtain⟨rfl,su⟩:=hcut;obtain⟨wy,uK⟩:∃wy,wy=wc:=⟨wc,rfl⟩
    subst uK;clear s0 s1 b0 b1;have mY:J _:=(su.block _ (Jb yN) (λh=>h)).trans yN.o;obtain⟨s0,s1⟩:=Xp mY _ qJ.o;have fz:=Ze mY.o;obtain⟨(Hq:J _),(Hw:J _)⟩:=JcR mY (Qo.1 qJ).1 (L othB) (O I 99);go_wp2;go_roundw
    case rel=>
     refine⟨k+1,by omega,rfl,by go_num,?_,?_⟩
     ·show _=_;rw[Hq.o]
      congr 2
      have h1:=uG.o;rw[lG _ _ (by simp),lF,lK,lH h1,Qb,List.replicate_succ',Qs];rfl
     ·exact((HT.trans kR noE).trans su noE).trans Hw (λj hj=>aM hj)
    case measure=>simp[intOf];omega
  ·obtain rfl:k=m:=(by omega);have gI:¬(k:Int)<(k:Int):=(by omega);go_wp2;go_ret;refine⟨rfl,?_,HT⟩;have h1:=HR.o;rw[List.drop_eq_nil_of_le (by rw[qS.o];exact Ql _),QC]at h1;exact h1

def ZG(l:List (Nat×Nat))(i:Nat):List UInt8:=beL l.length 1 1++(l.take i).flatMap outB
theorem JiL(l:List (Nat×Nat))(i:Nat)(h:i<l.length):ZG l (i+1)=ZG l i++outB l[i]:=by
 unfold ZG;rw[QR h,List.flatMap_append,QG,lJ,QC,Qs]
theorem JcJ(l:List (Nat×Nat)):ZG l l.length=Jy l:=by unfold ZG Jy;rw[lU]
theorem JcK(l:List (Nat×Nat))(h:l.length<=3)(i:Nat):(ZG l i).length<=28:=by
 unfold ZG;rw[Qe,Jf,Jff,QB];omega
theorem Jec(B:Nat)(v:aG)(l:List (Nat×Nat))(hl:l.length<=3)(ho:∀o∈l,JC o)(w:aA)(h:Yz B w v l):
  aB N 104 #[v] w λe w'=>e=aC (L ⟨(Jy l).toArray⟩)/\M D w w':=by
 obtain⟨a1,c1,rfl⟩:=h.shape;have H:J _:=h;have HO:J _:=ho;have Hf:IntKind.u8.wrap (l.length:Int)=(l.length:Int):=by simp[lO,lP,lI];omega
 have gJ:=JiC l.length w (by omega);go_enter func104,ntmps104;go_wp2;go_loopw [3,4] (λs i wr=>∃k:Nat,k<=l.length/\i=O I k/\s=L ⟨(ZG l k).toArray⟩/\J (M D w wr)) (λ_ i _=>l.length-(intOf i).toNat)
 case atStart=>exact⟨0,by omega,rfl,by rw[ZG,beL1];simp,Ta _ _ _⟩
 case round=>
  obtain⟨k,hk,rfl,rfl,hT⟩:=hrel
  by_cases H5:k<l.length
  ·rcases H with⟨e,e2⟩|⟨gi,oi,cc,e,_,kV,Hg⟩
   ·rw[e2]at H5;simp at H5
   simp only[Qy,true_and]at e;obtain⟨rfl,rfl⟩:=e;obtain⟨f0,f1⟩:=Hg k H5;have Hb:=HO _ (Qx H5);have q0:=(hT.cell (p:=⟨gi,oi+k*2,Y⟩) kV (λh=>h)).trans f0;have q1:=(hT.cell (p:=⟨gi,oi+k*2+1,Y⟩) kV (λh=>h)).trans f1;have kT:(k:Int)<(l.length:Int):=(by omega);have gW:=JO (ZG l k) (outB l[k]) (by have:=JcK l hl k;rw[Jb7];omega);rw[<-JiL l k H5]at gW;have jU:J (∀V,_):=λV=>JcM l[k].1 l[k].2 V Hb.2;generalize hc:l[k]=c at *;obtain⟨ca,co⟩:=c;simp only at q0 q1;generalize hX1:ZG l (k+1)=X1 at *;generalize ZG l k=X0 at *;have yP:J _:=hX1;generalize outB (ca,co)=cb at *;go_wp2_with (go_at_call 164;refine(jU _).mono ?_;rintro _ w1⟨rfl,(H3:J _)⟩);go_roundw
   case rel=>exact⟨k+1,by omega,by go_num,by rw[yP.o],hT.trans H3 noE⟩
   case measure=>simp[intOf];omega
  ·have zD:J (k=l.length):=(by omega:k=l.length)
   have gI:¬(k:Int)<(l.length:Int):=(by omega);have HE:J (ZG l k=Jy l):=(by rw[zD.o];exact JcJ l:ZG l k=Jy l)
   generalize ZG l k=aX at *;go_wp2;go_ret;exact⟨by rw[<-HE.o];rfl,hT⟩
theorem JhF(wj:Nat)(hw:wj<=32)(B:Nat)(v1 v2:aG)(t:TxL)(hk:TxOk wj t)(w:aA)(h1:YE B w v1 t.1)(h2:Yz B w v2 t.2):
  aB N 327 #[aH #[v1,v2]] w λe w'=>e=aC (L ⟨(txB t).toArray⟩)/\M D w w':=by
 have zo:J (∀V,M D w V->_):=λV hV=>Jec B v2 t.2 hk.made hk.outs V (h2.tch hV noE);obtain⟨a1,c1,rfl⟩:=h1.shape;obtain⟨a2,c2,rfl⟩:=h2.shape;have l1:=hk.ins;have l2:=hk.made;have HK:J _:=hk;have H1:J _:=h1;have Hf:IntKind.u8.wrap (t.1.length:Int)=(t.1.length:Int):=by simp[lO,lP,lI];omega
 have gJ:=Jb0 t.1.length ((w.alloc (T #[R a1 t.1.length c1,R a2 t.2.length c2] 98)).alloc (T #[O aE (t.1.length:Int)] 5)) (w.heap.size+1) (by omega) (Ja (heap_alloc2_new _ _ _));have T2:J (M D w ((w.alloc (T #[R a1 t.1.length c1,R a2 t.2.length c2] 98)).alloc (T #[O aE (t.1.length:Int)] 5))):=(Ta D w _).trans (Ta D _ _) (λ_ h=>aM h);have R2:J (((w.alloc (T #[R a1 t.1.length c1,R a2 t.2.length c2] 98)).alloc (T #[O aE (t.1.length:Int)] 5)).heap[w.heap.size]? =Z (T #[R a1 t.1.length c1,R a2 t.2.length c2] 98)):=heap_alloc2_old _ _ _;go_enter func327,ntmps327;go_wp2;go_loopw [3,4] (λs i wr=>∃k:Nat,k<=t.1.length/\i=O I k/\s=L ⟨(txA1 t k).toArray⟩/\J (M D w wr)/\J (wr.heap[w.heap.size]? =Z (T #[R a1 t.1.length c1,R a2 t.2.length c2] 98))) (λ_ i _=>t.1.length-(intOf i).toNat)
 case atStart=>exact⟨0,by omega,rfl,by rw[txA1,beL1];simp,T2,R2⟩
 case round=>
  obtain⟨k,hk,rfl,rfl,hT,hR⟩:=hrel;obtain⟨d0, -⟩:=rows hR.out
  by_cases H5:k<t.1.length
  ·rcases H1 with⟨e,e2⟩|⟨gi,oi,cc,e,_,kV,Hg⟩
   ·rw[e2]at H5;simp at H5
   simp only[Qy,true_and]at e;obtain⟨rfl,rfl⟩:=e;obtain⟨f0,f1⟩:=Hg k H5;have ju:=HK.o.coins _ (Qx H5);have q0:=(hT.cell (p:=⟨gi,oi+k*2,Y⟩) kV (λh=>h)).trans f0;have q1:=(hT.cell (p:=⟨gi,oi+k*2+1,Y⟩) kV (λh=>h)).trans f1;have kT:(k:Int)<(t.1.length:Int):=(by omega);have yD:=Xg ju;have gW:=JO (txA1 t k) (Jc t.1[k]) (by have:=JeI wj t HK hw k;omega);rw[<-Jlk t k H5]at gW;have jU:J (aB _ _ _ wr _):=Za t.1[k] wr ju.2.1 (by have:=ju.2.2;omega) (by rw[ju.1];omega);generalize t.1[k]=c at *;generalize hX1:txA1 t (k+1)=X1 at *;generalize txA1 t k=X0 at *;have yP:J (_=X1):=hX1;generalize Jc c=cb at *;go_wp2_with (go_at_call 105;refine jU.mono ?_;rintro _ w1⟨rfl,H6⟩;have H3:J (M _ wr w1):=H6);go_roundw
   case rel=>exact⟨k+1,by omega,by go_num,by rw[yP.o],hT.out.trans H3.o noE,(H3.o.block _ (Jb hR.out) (λh=>h)).trans hR.out⟩
   case measure=>simp[intOf];omega
  ·have dm:J (k=t.1.length):=(by omega:k=t.1.length)
   have gI:¬(k:Int)<(t.1.length:Int):=(by omega);obtain⟨-,d1⟩:=rows hR.out;have hadd0:=JO (txA1 t k) (Jy t.2) (by have:=JeI wj t HK hw k;have h5:=JcK t.2 l2 t.2.length;rw[JcJ]at h5;omega);have HX:J (txA1 t k++Jy t.2=txB t):=(by show txA1 t k++Jy t.2=txB t;rw[dm.o,txA1,lU];rfl);have HOT2:=zo wr hT.out;have HOT3:J (aB _ _ _ wr _):=HOT2;generalize txA1 t k++Jy t.2=aX at *;generalize txA1 t k=X0 at *;go_wp2_with (go_at_call 104;refine HOT3.mono ?_;rintro _ w1⟨rfl,(H3:J _)⟩);go_ret;exact⟨by rw[<-HX.o];rfl,hT.trans H3 noE⟩
def TxIs(B:Nat)(w:aA)(ts:List TxL)(sl:List (Sl×Sl)):Prop:=
 ts.length=sl.length/\∀i (h:i<ts.length) (h':i<sl.length),YE B w (R sl[i].1.1 sl[i].1.2.1 sl[i].1.2.2) ts[i].1/\Yz B w (R sl[i].2.1 sl[i].2.2.1 sl[i].2.2.2) ts[i].2
def YU(ts:List TxL)(i:Nat):List UInt8:=beL ts.length 1 1++(ts.take i).flatMap txB
theorem JdD(l:List TxL)(i:Nat)(h:i<l.length):YU l (i+1)=YU l i++txB l[i]:=by
 unfold YU;rw[QR h,List.flatMap_append,QG,lJ,QC,Qs]
theorem Jcx(l:List TxL):YU l l.length=JL l:=by unfold YU JL;rw[lU]
theorem JiG(l:List (Nat×Nat))(h:l.length<=3):(Jy l).length<=28:=by have:=JcK l h l.length;rw[JcJ]at this;exact this
theorem JeJ(wj:Nat)(hw:wj<=32)(t:TxL)(h:TxOk wj t):(txB t).length<=200:=by have:=Jns wj t h hw t.2.length;rw[Jnr]at this;exact this
theorem Jcy(wj:Nat)(hw:wj<=32)(ts:List TxL)(h:∀t∈ts,TxOk wj t)(i:Nat):(YU ts i).length<=1+200*i:=by
 induction i with
 | zero=>simp[YU,Jf]
 | succ i ih=>
  by_cases hi:i<ts.length
  ·rw[JdD _ _ hi,Qe];have:=JeJ wj hw _ (h _ (Qx hi));omega
  ·have e:YU ts (i+1)=YU ts i:=by
    unfold YU;rw[QS (by omega),QS (by omega)]
   rw[e];omega
theorem Jd8(wj:Nat)(hw:wj<=32)(B:Nat)(v:aG)(ts:List TxL)(sl:List (Sl×Sl))(hl:ts.length<=3)(ho:∀t∈ts,TxOk wj t)(w:aA)(h:TxsR B w v sl)(hs:TxIs B w ts sl):
  aB N 256 #[v] w λe w'=>e=aC (L ⟨(JL ts).toArray⟩)/\M D w w':=by
 obtain⟨a1,c1,rfl⟩:=h.shape;have H:J _:=h;have HO:J _:=ho;have HS:J _:=hs;have pg:=hs.1;have Hf:IntKind.u8.wrap (sl.length:Int)=(sl.length:Int):=by simp[lO,lP,lI];omega
 have gJ:=JiC sl.length w (by omega);go_enter func256,ntmps256;go_wp2;go_loopw [3,4] (λs i wr=>∃k:Nat,k<=sl.length/\i=O I k/\s=L ⟨(YU ts k).toArray⟩/\J (M D w wr)) (λ_ i _=>sl.length-(intOf i).toNat)
 case atStart=>exact⟨0,by omega,rfl,by rw[YU,beL1,pg];simp,Ta _ _ _⟩
 case round=>
  obtain⟨k,hk,rfl,rfl,hT⟩:=hrel
  by_cases H5:k<sl.length
  ·have gY:k<ts.length:=by omega
   rcases H with⟨e,e2⟩|⟨gi,oi,cc,e,_,kV,Hg⟩
   ·rw[e2]at H5;simp at H5
   simp only[Qy,true_and]at e;obtain⟨rfl,rfl⟩:=e;obtain⟨f0,f1⟩:=Hg k H5;have Hb:=HO _ (Qx gY);have q0:=(hT.cell (p:=⟨gi,oi+k*2,Y⟩) kV (λh=>h)).trans f0;have q1:=(hT.cell (p:=⟨gi,oi+k*2+1,Y⟩) kV (λh=>h)).trans f1;have kT:(k:Int)<(sl.length:Int):=(by omega);have gW:=JO (YU ts k) (txB ts[k]) (by have:=Jcy wj hw ts HO k;have:=JeJ wj hw _ Hb;omega);rw[<-JdD ts k gY]at gW;obtain⟨hc,hot⟩:=HS.2 k gY H5;have jU:J (∀V,M D w V->_):=λV hV=>JhF wj hw B _ _ ts[k] Hb V (hc.tch hV noE) (hot.tch hV noE);have HKW:J (∀V,M D wr V->_):=λV hV=>hT.trans hV noE;generalize sl[k].1.1=y1 at *;generalize sl[k].1.2.1=y2 at *;generalize sl[k].1.2.2=y3 at *;generalize sl[k].2.1=y4 at *;generalize sl[k].2.2.1=y5 at *;generalize sl[k].2.2.2=y6 at *;generalize hX1:YU ts (k+1)=X1 at *;generalize YU ts k=X0 at *;have yP:J _:=hX1;generalize txB ts[k]=cb at *;go_wp2_with (go_at_call 327;refine(jU _ (HKW _ (by first|exact Te _ _|exact Td _ _ 1))).mono ?_;rintro _ w1⟨rfl,(H3:J _)⟩);go_roundw
   case rel=>exact⟨k+1,by omega,by go_num,by rw[yP.o],hT.trans H3 noE⟩
   case measure=>simp[intOf];omega
  ·have zD:J (k=ts.length):=(by omega:k=ts.length)
   have gI:¬(k:Int)<(sl.length:Int):=(by omega);have HE:J (YU ts k=JL ts):=(by rw[zD.o];exact Jcx ts:YU ts k=JL ts)
   generalize YU ts k=aX at *;go_wp2;go_ret;exact⟨by rw[<-HE.o];rfl,hT⟩

def keyS(c:BA×Int):BA:=⟨(Jc c).toArray⟩
def rhC(h:H9):List aG:=[L (keyS h.1),O aD ((h.2.1:Nat):Int),O aE ((h.2.2:Nat):Int)]
def rhA(l:List H9):List aG:=l.flatMap rhC
def ZT(w:aA)(g k:Nat)(h:H9):Prop:=w.cell? ⟨g,k,Y⟩=Z (L (keyS h.1))/\w.cell? ⟨g,k+1,Y⟩=Z (O aD ((h.2.1:Nat):Int))/\w.cell? ⟨g,k+2,Y⟩=Z (O aE ((h.2.2:Nat):Int))
theorem ZT.tch{k:Nat}{h:H9}(hc:ZT w g k h)(t:M S w w')(hg:g<w.heap.size)(hs:¬S g):ZT w' g k h:=by
 have e:∀o,w'.cell? ⟨g,o,Y⟩=w.cell? ⟨g,o,Y⟩:=λo=>t.cell (p:=⟨g,o,Y⟩) hg hs;unfold ZT;rw[e,e,e];exact hc
theorem Zb(l:List H9):(rhA l).length=l.length*3:=by
 induction l with
 | nil=>rfl
 | cons x r ih=>simp only[rhA,QG,Qe]at ih ⊢;rw[ih];simp[rhC];omega
theorem JjS(l:List H9):∀u∈rhA l,u.oneCell'=true:=by
 intro u hu;simp only[rhA,List.mem_flatMap,rhC]at hu;obtain⟨x,_,hu⟩:=hu;simp only[List.mem_cons,QD,or_false]at hu
 rcases hu with rfl|rfl|rfl<;>rfl
theorem JaA(l l':List H9):rhA (l++l')=rhA l++rhA l':=by simp[rhA]
theorem JjR(l:List H9):∀(i:Nat)(h:i<l.length),(rhA l)[i*3]? =Z (L (keyS l[i].1))/\(rhA l)[i*3+1]? =Z (O aD ((l[i].2.1:Nat):Int))/\(rhA l)[i*3+2]? =Z (O aE ((l[i].2.2:Nat):Int)):=by
 induction l with
 | nil=>intro i h;simp at h
 | cons x r ih=>
  intro i h
  cases i with
  | zero=>simp[rhA,rhC]
  | succ i=>
   have e:∀j,(rhA (x::r))[(i+1)*3+j]? =(rhA r)[i*3+j]? :=by
    intro j;show (rhC x++rhA r)[(i+1)*3+j]? =_;rw[Qz (by simp[rhC];omega)]
    congr 1;simp[rhC];omega
   refine⟨?_,?_,?_⟩
   ·have:=e 0;rw[lN,lN]at this;rw[this];simpa using (ih i (by simpa using h)).1
   ·rw[e 1];simpa using (ih i (by simpa using h)).2.1
   ·rw[e 2];simpa using (ih i (by simpa using h)).2.2
def RhAt(w:aA)(v:aG)(l:List H9):Prop:=
 (v=R Y 0 0/\l=[])\/∃g o c,v=R (Z ⟨g,o,Y⟩) l.length c/\(g<w.heap.size/\∃cs m,w.heap[g]? =Z (T cs 202 m))/\∀i (h:i<l.length),ZT w g (o+i*3) l[i]
theorem RhAt.tch(h:RhAt w v l)(k:M S w w')(hs:∀j,v.ownBlock=Z j->¬S j):RhAt w' v l:=by
 rcases h with h|⟨gi,oi,c,rfl,⟨h2,cs,m,h4⟩,h3⟩
 ·exact aM h
 ·exact aN ⟨gi,oi,c,rfl,⟨Qk h2 k.size,cs,m,(k.block gi h2 (hs gi rfl)).trans h4⟩,λi hi=>(h3 i hi).tch k h2 (hs gi rfl)⟩
theorem RhAt.tch0(h:RhAt w v l)(k:M D w w'):RhAt w' v l:=h.tch k (λ_ _ h=>h)
theorem RhAt.own(h:RhAt w v l):∀j,v.ownBlock=Z j->j<w.heap.size/\∃cs m,w.heap[j]? =Z (T cs 202 m):=by
 rcases h with⟨rfl,_⟩|⟨g,o,c,rfl,hg,_⟩
 ·intro j hj;cases hj
 ·intro j hj;cases hj;exact hg
theorem RhAt.shape(h:RhAt w v l):∃a c,v=R a l.length c:=by
 rcases h with⟨rfl,rfl⟩|⟨gi,oi,c,rfl,_⟩
 ·exact⟨Y,0,rfl⟩
 ·exact⟨_,_,rfl⟩
theorem RhAt.cells{o:Nat}(h:∀i (h:i<l.length),ZT w g (o+i*3) l[i]):
  ∀j u,(rhA l)[j]? =Z u->w.cell? (Addr.add ⟨g,o,Y⟩ j)=Z u:=by
 intro j u hu;have hj:j<l.length*3:=by have:=(Qo.1 hu).1;rw[Zb]at this;exact this
 obtain⟨e0,e1,e2⟩:=JjR l (j/3) (by omega);obtain⟨f0,f1,f2⟩:=h (j/3) (by omega);rw[Addr.add_lit];obtain hm|hm|hm:j % 3=0\/j % 3=1\/j % 3=2:=by omega
 ·rw[show j/3*3=j by omega]at e0;rw[show o+j/3*3=o+j by omega]at f0;rw[f0,<-e0,hu]
 ·rw[show j/3*3+1=j by omega]at e1;rw[show o+j/3*3+1=o+j by omega]at f1;rw[f1,<-e1,hu]
 ·rw[show j/3*3+2=j by omega]at e2;rw[show o+j/3*3+2=o+j by omega]at f2;rw[f2,<-e2,hu]
def ROwn(base:Nat)(w:aA)(v:aG)(l:List H9):Prop:=w.ownsRow base 202 3 v l.length (rhA l)
theorem ROwn.nil(base:Nat)(w:aA):ROwn base w (R Y 0 0) []:=⟨rfl,aM ⟨rfl,rfl⟩⟩
theorem ROwn.at(h:ROwn base w v l):RhAt w v l:=by
 obtain⟨_,⟨rfl,h0⟩|⟨g,cap,cur,rfl,_,hZ,_,_,Hi,kK⟩⟩:=h
 ·exact aM ⟨rfl,QP h0⟩
 ·refine aN ⟨g,0,cap,rfl,⟨(Jb hZ),_,_,hZ⟩,λi hi=>?_⟩;obtain⟨e0,e1,e2⟩:=JjR l i hi;have hc:∀j u,(rhA l)[j]? =Z u->w.cell? ⟨g,0+j,Y⟩=Z u:=by
   intro j u hu;rw[<-kK]at hu;have hj:=(Qo.1 hu).1;rw[List.getElem?_take_of_lt (by rw[QB]at hj;omega)]at hu;rw[Ja hZ,lZ,<-Array.getElem?_toList];exact hu
  exact⟨hc _ _ e0,hc _ _ e1,hc _ _ e2⟩
theorem ROwn.own(h:ROwn base w v l):∀k,v.ownBlock=Z k->base<=k/\k<w.heap.size:=by
 obtain⟨_,⟨rfl,h0⟩|⟨g,cap,cur,rfl,hb,hZ,_⟩⟩:=h
 ·intro k hk;cases hk
 ·intro k hk;cases hk;exact⟨hb,(Jb hZ)⟩
theorem ROwn.tch(h:ROwn base w v l)(k:M S w w')(hs:∀j,v.ownBlock=Z j->¬S j):ROwn base w' v l:=by
 obtain⟨h1,⟨rfl,h0⟩|⟨g,cap,cur,rfl,hb,hZ,h2⟩⟩:=h
 ·exact⟨h1,aM ⟨rfl,h0⟩⟩
 ·exact⟨h1,aN ⟨g,cap,cur,rfl,hb,(k.block g (Jb hZ) (hs g rfl)).trans hZ,h2⟩⟩
theorem ROwn.grow{W:aA}(h:ROwn base w v l)(hg:w.grownBy w' v.ownBlock)(hW:W.heap.size<=base)(k:M D W w):M D W w':=
 k.trans (Tg hg) (λj hj=>by
  have:=(h.own j hj.symm).1;exact aN (by omega))
theorem ROwn.shape(h:ROwn base w v l):∃a c,v=R a l.length c:=h.at.shape
theorem JjF:(prog.info? 202).map (λi=>(i.zero,i.size,i.bytes))=Z (Z (aH #[L ⟨#[]⟩,O aD 0,O aE 0]),3,32):=by kernel_rfl
theorem Jbu(h:ROwn base w v l)(x:aG)(l2:List H9)(hx:RhAt w x l2)(ty:TypeId)(hb:l.length+l2.length<=1000000000)(Ha:base<=w.heap.size):
  ∃v' w',(Builtin.append_ #[200,200] ty #[v,x]).run N w=.ok v' w'/\ROwn base w' v' (l++l2)/\w.grownBy w' v.ownBlock:=by
 obtain⟨i,hi,hp⟩:=lM.1 JjF;simp only[Qw]at hp;obtain⟨hz,Hi,gJ⟩:=hp
 rcases hx with⟨rfl,rfl⟩|⟨g,o,c,rfl,⟨hg,_⟩,Hg⟩
 ·exact⟨v,w,run_append_owned_none (P:=N) (w:=w) base 200 ty 202 i 3 underlying200 hi v l.length (rhA l) h,by rw[QC];exact h,World.grownBy.refl _ _⟩
 ·obtain⟨v',w',hr,h2,h3,h4⟩:=run_append_own (P:=N) w base 200 ty 202 i _ 3 32 underlying200 hi hz Hi gJ rfl (by omega) v l.length (rhA l) h ⟨g,o,Y⟩ l2.length c (rhA l2) (Zb l2) (RhAt.cells Hg) (JjS l2) (by simp only[maxLen];omega) (by omega) Ha;exact⟨v',w',hr,by unfold ROwn;rw[Qe,JaA];exact h2,h3⟩
theorem Zf(jd:o.guard=Y)(s x:Operand)
 (ho:o.op=.call { callee:=.builtin .append,args:= #[s,x],argTypes:= #[200,200] })
 (hv:a.eval s=v) (h:ROwn base w v l) (xv:aG) (l2:List H9) (hx:a.eval x=xv) (hs:RhAt w xv l2) (hb:l.length+l2.length<=1000000000) (Ha:base<=w.heap.size)
 (hK:∀v' w',ROwn base w' v' (l++l2)->w.grownBy w' v.ownBlock->wpList N ops Q rest (a.put o.dst v') w'):wpList N ops Q (o::rest) a w:=by
 refine wpList_plain jd λK zN=>?_;obtain⟨v',w',Hy,r,r2⟩:=Jbu h xv l2 hs o.type hb Ha;unfold Oper.wp;simp[execOp,ho,resolve,invoke,builtin,hv,hx,Hy,Result.andThen];exact zN _ _ (hK v' w' r r2)
theorem JeE{K:Act->aA->Prop}{E:Prop}
 (jd:o.guard=Y) (s x:Operand) (ho:o.op=.call { callee:=.builtin .append,args:= #[s,x],argTypes:= #[200,200] })
 (hv:a.eval s=v) (h:ROwn base w v l) (xv:aG) (l2:List H9) (hx:a.eval x=xv) (hs:RhAt w xv l2) (hb:l.length+l2.length<=1000000000) (Ha:base<=w.heap.size)
 (hK:∀v' w',ROwn base w' v' (l++l2)->w.grownBy w' v.ownBlock->K (a.put o.dst v') w'):
  if Region.wanted o (yielded ops a.tmps)=true then Oper.wp N o a w K Q else E:=by
 have hw:Region.wanted o (yielded ops a.tmps)=true:=by simp[Region.wanted,jd]
 rw[if_pos hw];obtain⟨v',w',Hy,r,r2⟩:=Jbu h xv l2 hs o.type hb Ha;unfold Oper.wp;simp[execOp,ho,resolve,invoke,builtin,hv,hx,Hy,Result.andThen];exact hK v' w' r r2
theorem JiY(W:aA)(h:H9):RhAt (W.alloc (T #[L (keyS h.1),O aD ((h.2.1:Nat):Int),O aE ((h.2.2:Nat):Int)] 202)) (R (Z ⟨W.heap.size,0,Y⟩) 1 1) [h]:=by
 refine aN ⟨_,0,1,rfl,⟨by simp,_,_,Qf W _⟩,λi hi=>?_⟩;obtain rfl:i=0:=by simpa using hi
 have hr:=Qf W (T #[L (keyS h.1),O aD ((h.2.1:Nat):Int),O aE ((h.2.2:Nat):Int)] 202);exact⟨Ja hr,Ja hr,Ja hr⟩
theorem JhJ(l:List H9)(k:Nat)(hk:k<=l.length):rhA (l.take k)=(rhA l).take (k*3):=by
 conv=>rhs;rw[<-lV k l,JaA]
 rw[List.take_left' (by rw[Zb,QB];omega)]
theorem Jm3(l:List H9)(k:Nat)(hk:k<=l.length):rhA (l.drop k)=(rhA l).drop (k*3):=by
 conv=>rhs;rw[<-lV k l,JaA]
 rw[List.drop_left' (by rw[Zb,QB];omega)]
theorem JoI(l:List H9)(j:Nat)(hj:j<l.length)(y:H9):rhA (l.set j y)=(rhA l).take (j*3)++rhC y++(rhA l).drop (j*3+3):=by
 rw[lS,if_pos hj,JaA,JhJ l j (by omega),show rhA (y::l.drop (j+1))=rhC y++rhA (l.drop (j+1)) from rfl,Jm3 l (j+1) (by omega),Qs,show (j+1)*3=j*3+3 by omega]
theorem ROwn.take{a:Option Addr}{n c:Nat}(h:ROwn base w (R a n c) l)(k:Nat)(hk:k<=n):ROwn base w (R a k c) (l.take k):=by
 obtain⟨h1,⟨hv,h0⟩|⟨g,cap,cur,hv,hb,hZ,yQ,hm,Hi,kK⟩⟩:=h
 ·cases hv
  obtain rfl:k=0:=by omega
  exact⟨by simp[rhA],aM ⟨rfl,by simp⟩⟩
 ·cases hv
  have hl:(l.take k).length=k:=by rw[QB];omega
  refine⟨Zb _,aN ⟨g,c,cur,by rw[hl],hb,hZ,by rw[hl];omega,hm,Hi,?_⟩⟩;rw[hl,JhJ l k hk,<-kK,List.take_take,Nat.min_eq_left (Nat.mul_le_mul_right _ hk)]
theorem Jdo{cap:Nat}{op:Oper}(jd:op.guard=Y)(x y:Operand)(ho:op.op=.store 202 x y)
 (h:ROwn base w (R (Z ⟨g,0,Y⟩) l.length cap) l) (j:Nat) (hj:j<l.length) (z:H9) (hx:a.eval x=X (Z ⟨g,j*3,Y⟩)) (hy:a.eval y=aH #[L (keyS z.1),O aD ((z.2.1:Nat):Int),O aE ((z.2.2:Nat):Int)])
 (hK:∀w',ROwn base w' (R (Z ⟨g,0,Y⟩) l.length cap) (l.set j z)->M (λx=>x=g) w w'->wpList N ops Q rest (a.put op.dst undef) w'):wpList N ops Q (op::rest) a w:=by
 obtain⟨i,hi,hp⟩:=lM.1 JjF;simp only[Qw]at hp;obtain⟨_,jQ,_⟩:=hp;obtain⟨h1,⟨hv,h0⟩|⟨g',cap',cur,hv,hb,hZ,yQ,hm,Hi,kK⟩⟩:=h
 ·cases hv
 ·cases hv
  have kE:(storeCells ⟨g,j*3,Y⟩ [L (keyS z.1),O aD ((z.2.1:Nat):Int),O aE ((z.2.2:Nat):Int)]).run N w=_:=run_storeCells_at N g (j*3) 202 (rhC z) 0 cur w hZ (by simp[rhC];omega) (λu hu=>JjS [z] u (by simpa [rhA]using hu));refine wpList_plain jd λK zN=>?_;unfold Oper.wp execOp;simp[ho,hx,hy,Instr.storeAt,Instr.sureAddr,storeVar,sizeOf,typeInfo,hi,jQ,Value.cells,kE];refine zN _ _ (hK _ ⟨?_,aN ⟨g,cap,_,by rw[lQ],hb,Qi w g cur _ _ _ hZ,by rw[lQ];exact yQ,hm,?_,?_⟩⟩ (Ts _ _ _))
  ·rw[Zb]
  ·have:cap*3=cur.size:=Hi.symm;simp[rhC];omega
  ·rw[lQ,JoI l j hj z,<-kK];simp only[List.take_take];rw[Nat.min_eq_left (by omega),List.drop_take,show (rhC z).length=3 from rfl];have Hl:(cur.toList.take (j*3)).length=j*3:=(by rw[QB,QA];omega);have e1:(cur.toList.take (j*3)).take (l.length*3)=cur.toList.take (j*3):=QS (by rw[Hl];omega);have e2:(rhC z).take (l.length*3-j*3)=rhC z:=QS (by show 3<=_;omega);rw[Qs,List.take_append,Hl,e1,List.take_append,e2,show (rhC z).length=3 from rfl,Nat.sub_sub]

theorem JfJ(l:List (Nat×Nat))(k:Nat)(h:k<l.length):Jt l (k+1)=Jt l k+l[k].1:=by
 unfold Jt;rw[QR h];simp only[List.map_append,List.sum_append,List.map_cons,List.map_nil,List.sum_cons,List.sum_nil];omega
theorem JoV(l:List (Nat×Nat))(k:Nat):Jt l k<=Jt l l.length:=by
 unfold Jt;rw[lU]
 conv=>rhs;rw[<-lV k l]
 rw[List.map_append,List.sum_append];omega

theorem JhB(k:List UInt8)(i:Nat)(hi:i<8*k.length)(hl:k.length<=1000000)(w:aA):
  aB N 253 #[L ⟨k.toArray⟩,O I (i:Int)] w λe w'=>e=aC (O I (bt k i:Int))/\M D w w':=by
 have Hi:=Jh k;have rl:i/8<(⟨k.toArray⟩:BA).size:=by omega
 have HB:J ((⟨k.toArray⟩:BA)[i/8].toNat=(k.getD (i/8) 0).toNat):=by
  show UInt8.toNat _=_
  congr 1
  simp[List.getD_eq_getElem?_getD,show i/8<k.length by omega];rfl
 have H5:=UInt8.toNat_lt (⟨k.toArray⟩:BA)[i/8];have xY:J (bt k i=(k.getD (i/8) 0).toNat/2 ^ (7-i % 8) % 2):=rfl;generalize (⟨k.toArray⟩:BA)=tb at *;have hq:((i:Int)/8).toNat=i/8:=by omega
 obtain⟨x,hx⟩:∃x:Nat,tb[i/8].toNat=x:=⟨_,rfl⟩
 rw[hx]at H5 HB;have hwx:I.wrap (x:Int)=(x:Int):=Jo _ (by omega) (by omega);go_enter func253,ntmps253;go_wp2;go_loopw [5,6] (λn j wr=>∃m:Nat,m<=7-i % 8/\n=O I ((x/2 ^ m:Nat):Int)/\j=O I ((i % 8+m:Nat):Int)/\J (M D w wr)) (λ_ j _=>7-(intOf j).toNat)
 case atStart=>exact⟨0,by omega,by simp,by simp,Te _ _⟩
 case round=>
  obtain⟨m,hm,rfl,rfl,HT⟩:=hrel;have tN:i % 8<8:=Nat.mod_lt _ (by omega);have zi:x/2 ^ m<=x:=Nat.div_le_self _ _;have HS:J (x/2 ^ (m+1)=x/2 ^ m/2):=by show x/2 ^ (m+1)=_;rw[Nat.pow_succ,Nat.div_div_eq_div_mul]
  by_cases gY:i % 8+m<7
  ·have uL:((i % 8+m:Nat):Int)<7:=(by omega);have HI:J _:=gY;generalize hy:x/2 ^ m=y at *;generalize hz:i % 8+m=z at *;have HZ:J _:=hz;go_wp2;go_roundw
   case rel=>exact⟨m+1,by have:=HI.o;have:=HZ.o;omega,by rw[HS.o];congr 1,by have:=HZ.o;go_num,HT⟩
   case measure=>have:=HI.o;simp[intOf];omega
  ·have uL:¬((i % 8+m:Nat):Int)<7:=(by omega);have HM:J (m=7-i % 8):=(by omega:m=7-i % 8)
   have HE:J (x/2 ^ m % 2=bt k i):=(by show x/2 ^ m % 2=bt k i;rw[xY.o,HM.o,<-HB.o]);generalize hy:x/2 ^ m=y at *;generalize i % 8+m=z at *;go_wp2;go_ret;exact⟨congrArg (λn=>Ending.returned (O I n)) (by rw[<-HE.o];omega),HT⟩
theorem Jmf{c d:BA×Int}(h1:Ji wj c)(h2:Ji wj d)(h:(keyS c).toList=(keyS d).toList):c=d:=by
 rw[ByteArray.toList_eq,ByteArray.toList_eq]at h;exact Zx h1 h2 (by simpa [keyS]using h)
theorem JjQ(wj:Nat)(v:aG)(l:List H9)(c:BA×Int)(w:aA)(h:RhAt w v l)(hl:l.length<1000000000)(Hb:∀h∈l,Ji wj h.1)(hc:Ji wj c):
  aB N 263 #[v,L (keyS c)] w λe w'=>e=aC (O I (Yi l c))/\M D w w':=by
 obtain⟨a,cc,rfl⟩:=h.shape;have H:J _:=h;have xL:J ((∀h∈l,Ji wj h.1)/\Ji wj c):=⟨Hb,hc⟩
 go_enter func263,ntmps263;go_wp2;go_loopw [5] (λi wr=>∃k:Nat,k<=l.length/\i=O I k/\J (M D w wr)/\J (∀j (hj:j<l.length),j<k->l[j].1 ≠ c)) (λi _=>l.length-(intOf i).toNat)
 case atStart=>exact⟨0,by omega,rfl,Te _ _,λj _ h=>absurd h (by omega)⟩
 case round=>
  obtain⟨k,hk,rfl,HT,HN⟩:=hrel
  by_cases H5:k<l.length
  ·rcases H with⟨e,e2⟩|⟨gi,oi,c2,e,⟨kV,_⟩,Hg⟩
   ·rw[e2]at H5;simp at H5
   simp only[Qy,true_and]at e;obtain⟨rfl,rfl⟩:=e;obtain⟨q0,_,_⟩:=(Hg k H5).tch HT kV (λh=>h);have kT:(k:Int)<(l.length:Int):=by omega
   by_cases he:l[k].1=c
   ·have hs:((keyS l[k].1).toList == (keyS c).toList)=true:=(by rw[he];simp);have HF:J _:=Jg9 H5 he HN.o;generalize keyS l[k].1=y at *;generalize keyS c=z at *;go_wp2;go_ret;exact⟨by unfold Yi;rw[HF.o];rfl,HT⟩
   ·have hs:((keyS l[k].1).toList == (keyS c).toList)=false:=by
     rw[beq_eq_false_iff_ne];exact λe=>he (Jmf (xL.1 _ (Qx H5)) xL.2 e)
    have ar:J (∀j (hj:j<l.length),j<k+1->l[j].1 ≠ c):=λj hj ph=>by
     rcases Nat.lt_succ_iff_lt_or_eq.1 ph with h|h
     ·exact HN j hj h
     ·subst h;exact he
    generalize keyS l[k].1=y at *;generalize keyS c=z at *;go_wp2;go_roundw
    case rel=>exact⟨k+1,by omega,by go_num,HT,ar⟩
    case measure=>simp[intOf];omega
  ·have gI:¬(k:Int)<(l.length:Int):=(by omega);have HF:J _:=Jl3 λj hj=>HN j hj (by omega);generalize keyS c=z at *;go_wp2;go_ret;exact⟨by unfold Yi;rw[HF.o];rfl,HT⟩
theorem JmU(B:Nat)(v:aG)(l:List (Nat×Nat))(w:aA)(h:Yz B w v l)(hl:l.length<1000000000):
  aB N 328 #[v] w λe w'=>e=aC (aL (decide (18446744073709551616<=Jt l l.length)))/\M D w w':=by
 obtain⟨a,cc,rfl⟩:=h.shape;have H:J _:=h;go_enter func328,ntmps328;go_wp2;go_loopw [3,4] (λs i wr=>∃k:Nat,k<=l.length/\i=O I k/\s=O aD ((18446744073709551615-Jt l k:Nat):Int)/\J (Jt l k<=18446744073709551615)/\J (M D w wr)) (λ_ i _=>l.length-(intOf i).toNat)
 case atStart=>exact⟨0,by omega,rfl,rfl,(by simp[Jt]:Jt l 0<=_),Te _ _⟩
 case round=>
  obtain⟨k,hk,rfl,rfl,HS,HT⟩:=hrel
  by_cases H5:k<l.length
  ·rcases H with⟨e,e2⟩|⟨gi,oi,c2,e,_,kV,Hg⟩
   ·rw[e2]at H5;simp at H5
   simp only[Qy,true_and]at e;obtain⟨rfl,rfl⟩:=e;have q0:=(HT.cell (p:=⟨gi,oi+k*2,Y⟩) kV (λh=>h)).trans (Hg k H5).1;have kT:(k:Int)<(l.length:Int):=(by omega);have HN:J _:=JfJ l k H5;have HM:=JoV l (k+1);have HM':J _:=HM;generalize l[k].1=y at *;obtain⟨f,hf⟩:∃f:Nat,f=18446744073709551615-Jt l k:=⟨_,rfl⟩
   have HF:J _:=hf;rw[<-hf]
   by_cases hy:f<y
   ·have hyi:(f:Int)<(y:Int):=(by omega);have HY:J _:=hy;clear hf hy;go_wp2;go_ret;refine⟨?_,HT⟩;have h1:=HY.o;have h2:=HF.o;have h3:=HN.o;have h4:=HM'.out;have h5:=HS.o;rw[decide_eq_true (by omega)];rfl
   ·have hyi:¬(f:Int)<(y:Int):=(by omega);have yq:lY.wrap ((f:Int)-(y:Int))=((f-y:Nat):Int):=by
     have:f<18446744073709551616:=(by omega);simp[lO,lP,lI];omega
    have HY:J _:=hy;go_wp2;go_roundw
    case rel=>exact⟨k+1,by omega,by go_num,by have h1:=HY.o;have h2:=HF.o;have h3:=HN.o;have h5:=HS.o;congr 1;omega,by have h1:=HY.o;have h2:=HF.o;have h3:=HN.o;have h5:=HS.o;show Jt l (k+1)<=_;omega,HT⟩
    case measure=>simp[intOf];omega
  ·have gI:¬(k:Int)<(l.length:Int):=(by omega);have HK:J (k=l.length):=(by omega:k=l.length)
   obtain⟨f,hf⟩:∃f:Nat,f=18446744073709551615-Jt l k:=⟨_,rfl⟩
   rw[<-hf];go_wp2;go_ret;refine⟨?_,HT⟩;have h1:=HS.o;rw[HK.o]at h1;rw[decide_eq_false (by omega)];rfl
theorem JjN(B:Nat)(v:aG)(l:List (Nat×Nat))(w:aA)(h:Yz B w v l)(hl:l.length<1000000000):
  aB N 329 #[v] w λe w'=>e=aC (O aD ((Jt l l.length % 18446744073709551616:Nat):Int))/\M D w w':=by
 obtain⟨a,cc,rfl⟩:=h.shape;have H:J _:=h;go_enter func329,ntmps329;go_wp2;go_loopw [3,4] (λs i wr=>∃k:Nat,k<=l.length/\i=O I k/\s=O aD ((Jt l k % 18446744073709551616:Nat):Int)/\J (M D w wr)) (λ_ i _=>l.length-(intOf i).toNat)
 case atStart=>exact⟨0,by omega,rfl,rfl,Te _ _⟩
 case round=>
  obtain⟨k,hk,rfl,rfl,HT⟩:=hrel
  by_cases H5:k<l.length
  ·rcases H with⟨e,e2⟩|⟨gi,oi,c2,e,_,kV,Hg⟩
   ·rw[e2]at H5;simp at H5
   simp only[Qy,true_and]at e;obtain⟨rfl,rfl⟩:=e;have q0:=(HT.cell (p:=⟨gi,oi+k*2,Y⟩) kV (λh=>h)).trans (Hg k H5).1;have kT:(k:Int)<(l.length:Int):=(by omega);have HN:J _:=JfJ l k H5;generalize l[k].1=y at *;obtain⟨f,(HF:J _)⟩:∃f:Nat,f=Jt l k % 18446744073709551616:=⟨_,rfl⟩
   rw[<-HF];have yq:lY.wrap ((f:Int)+(y:Int))=(((f+y) % 18446744073709551616:Nat):Int):=(by simp[lO,lP,lI]);go_wp2;go_roundw
   case rel=>exact⟨k+1,by omega,by go_num,by rw[HN.o,HF.o];congr 1;omega,HT⟩
   case measure=>simp[intOf];omega
  ·have gI:¬(k:Int)<(l.length:Int):=(by omega);have HK:J (k=l.length):=(by omega:k=l.length)
   obtain⟨f,(HF:J _)⟩:∃f:Nat,f=Jt l k % 18446744073709551616:=⟨_,rfl⟩
   rw[<-HF];go_wp2;go_ret;exact⟨by rw[HF.o,HK.o];rfl,HT⟩

theorem JiQ(h:H9)(w:aA)(ho:h.2.2<256)(hk:(Jc h.1).length<=1000000):
  aB N 165 #[aH #[L (keyS h.1),O aD ((h.2.1:Nat):Int),O aE ((h.2.2:Nat):Int)]] w λe w'=>e=aC (L ⟨(76::(Jc h.1++outB h.2)).toArray⟩)/\M D w w':=by
 obtain⟨c,a,o⟩:=h;simp only at ho hk ⊢;have zo:J (∀V,aB N 164 #[aH #[O aD (a:Int),O aE (o:Int)]] V λe w'=>e=aC (L ⟨(outB (a,o)).toArray⟩)/\M D V w'):=λV=>JcM a o V ho;have h1:=JO [76] (Jc c) (by simp;omega);have h2:=JO ([76]++Jc c) (outB (a,o)) (by rw[Jb7];simp;omega);have HX:J ([76]++Jc c++outB (a,o)=76::(Jc c++outB (a,o))):=rfl;have h1':∀W,(Op.stringOp .add (⟨#[76]⟩:BA) (keyS c)).run N W=.ok (L ⟨([76]++Jc c).toArray⟩) W:=h1;generalize [76]++Jc c++outB (a,o)=aX at *;generalize [76]++Jc c=aP at *;generalize outB (a,o)=aO at *;generalize keyS c=ks at *;go_enter func165,ntmps165;go_wp2;go_region_with (go_at_call 164;refine(zo.o _).mono ?_;rintro _ w1⟨rfl,H6⟩;have r1:w1.heap[w.heap.size]? =Z (T #[L ks,O aD (a:Int),O aE (o:Int)] 202):=(H6.block _ (by first|(simp;done)|(simp;omega)) (λh=>h)).trans (Qf _ _);have c1:w1.cell? ⟨w.heap.size,0,Y⟩=Z (L ks):=Ja r1;have H3:J (M _ _ w1):=H6)
 all_goals go_wp2;go_ret;exact⟨by rw[<-HX.o];rfl,(M.box w _).trans H3 noE⟩
theorem Jea(b:Nat)(x y:List UInt8)(w:aA)(hb:b<65536)(hx:x.length<=1000000)(hy:y.length<=1000000):
  aB N 168 #[O I (b:Int),L ⟨x.toArray⟩,L ⟨y.toArray⟩] w λe w'=>e=aC (L ⟨(78::(beL b 2 2++(x++y))).toArray⟩)/\M D w w':=by
 have yH:J (∀V,_):=λV=>XU b 2 V (by omega);have yq:lY.wrap (b:Int)=(b:Int):=by simp[lO,lP,lI];omega
 have h1:=JO [78] (beL b 2 2) (by simp[Jf]);have h2:=JO ([78]++beL b 2 2) x (by simp[Jf];omega);have h3:=JO ([78]++beL b 2 2++x) y (by simp[Jf];omega);have HX:J ([78]++beL b 2 2++x++y=78::(beL b 2 2++(x++y))):=by show _=_;simp
 have h1':=h1;generalize [78]++beL b 2 2++x++y=aX at *;generalize [78]++beL b 2 2++x=aP at *;generalize [78]++beL b 2 2=aO at *;generalize beL b 2 2=B at *;go_enter func168,ntmps168;go_wp2_with (go_at_call 171;refine(yH.o _).mono ?_;rintro _ w1⟨rfl,H6⟩;have H3:J _:=H6);go_ret;exact⟨by rw[<-HX.o];rfl,H3.o⟩

theorem JmS(wj b0:Nat)(hw:wj<=32)(v:aG)(h0:H9)(r:List H9)(w:aA)(hv:RhAt w v (h0::r))(xg:∀h∈h0::r,Ji wj h.1)(Hl:r.length<=900000000)(hb:b0<8*(wj+1))(kX:alkB (h0::r) b0=false)(yR:∀i,i<b0->alkB (h0::r) i=true):
  aB N 166 #[v] w λe w'=>e=aC (O I (b0:Int))/\M D w w':=by
 rcases hv with⟨_,e⟩|⟨g,o,c,rfl,⟨hg,_⟩,Hg⟩
 ·cases e
 have xY:J (∀V (c:BA×Int) (b:Nat),Ji wj c->b<8*(wj+1)->aB N 253 #[L (keyS c),O I (b:Int)] V λe w'=>e=aC (O I (bt (Jc c) b:Int))/\M D V w'):=λV c b hc hb=>by
  have hl:=Xg hc;exact JhB (Jc c) b (by rw[hl];exact hb) (by rw[hl];omega) V
 have HC:J (∀(i:Nat)(h:i<(h0::r).length),Ji wj (h0::r)[i].1/\∀V,M D w V->V.cell? ⟨g,o+i*3,Y⟩=Z (L (keyS (h0::r)[i].1))):=λi h=>⟨xg _ (Qx h),λV hV=>((Hg i h).tch hV hg (λh=>h)).1⟩
 have xK:J ((keyS h0.1).size=wj+1):=by show ByteArray.size _=_;unfold keyS;rw[Jh,Xg (xg h0 (by simp))]
 have au:J _:=kX;have rp:J _:=yR;have HK0:J (∀V,M D w V->V.cell? ⟨g,o,Y⟩=Z (L (keyS h0.1))):=λV hV=>by
  have:=(HC 0 (by simp)).2 V hV;simpa using this
 have pi:J _:=xg h0 (by simp);have hn:(h0::r).length=r.length+1:=rfl;rw[hn];go_enter func166,ntmps166;go_wp2;go_loopw [3] (λi wr=>∃k:Nat,k<=b0/\i=O I (k:Int)/\J (M D w wr)) (λi _=>b0+1-(intOf i).toNat)
 case atStart=>exact⟨0,Nat.zero_le _,rfl,Te _ _⟩
 case round=>
  obtain⟨k,hk,rfl,HT⟩:=hrel;have z0:=HK0 wr HT.o;have Hi:=xK.o;have vQ:I.wrap (8*((keyS h0.1).size:Int))=8*((wj:Int)+1):=by rw[Hi,Jo _ (by omega) (by omega)];omega
  have H5:(k:Int)<8*((wj:Int)+1):=by omega
  go_upto_region 4 with fail;go_wp2;go_loopw [4] (λi wx=>∃m:Nat,m<=r.length/\i=O I ((m:Int)+1)/\J (∀j (hj:j<r.length),j<m->bt (Jc r[j].1) k=bt (Jc h0.1) k)/\J (M D w wx)) (λi _=>r.length+1-(intOf i).toNat)
  case atStart=>exact⟨0,Nat.zero_le _,rfl,λj _ h=>absurd h (by omega),HT⟩
  case round=>
   obtain⟨m,hm,rfl,HA,HT⟩:=hrel
   by_cases hgo:m<r.length
   ·have hki:(m:Int)+1<((r.length+1:Nat):Int):=(by omega);obtain⟨okk,ck⟩:=HC (m+1) (by simp;omega);have hxe:(h0::r)[m+1]'(by simp;omega)=r[m]:=rfl;rw[hxe]at okk ck;obtain⟨x,hx⟩:∃x:H9,x=r[m]:=⟨_,rfl⟩
    rw[<-hx]at okk ck;have HO:J (Ji wj h0.1/\Ji wj x.1):=⟨pi,okk⟩
    have pj:k<8*(wj+1):=(by omega);have kF:J (∀V,_):=λV=>xY V x.1 k okk pj;have j6:J (∀V,_):=λV=>xY V h0.1 k pi pj;have ji:J (∀V,M D w V->V.cell? ⟨g,o,Y⟩=Z (L (keyS h0.1))/\V.cell? ⟨g,o+(m+1)*3,Y⟩=Z (L (keyS x.1))):=λV hV=>⟨HK0 V hV,ck V hV⟩
    have yj:J (bt (Jc x.1) k=bt (Jc h0.1) k->∀j (hj:j<r.length),j<m+1->bt (Jc r[j].1) k=bt (Jc h0.1) k):=λe j hj av=>by
     rcases Nat.lt_succ_iff_lt_or_eq.1 av with h|h
     ·exact HA j hj h
     ·subst h;rw[<-hx];exact e
    have qE:J (¬bt (Jc x.1) k=bt (Jc h0.1) k->k=b0):=λe=>by
     rcases Nat.lt_or_eq_of_le hk with h|h
     ·exact absurd ((ZZ h0 r k).1 (rp k h) x (by rw[hx];exact QQ _ (Qx hgo))) e
     ·exact h
    obtain⟨x0,xk⟩:=ji wr HT.o;have hk0:(0:Int)<=(m:Int)+1:=(by omega);have aw:J _:=hgo;clear okk ck hxe hx hgo HA;go_upto_region 7 with fail;go_cut [34] (λv wx=>v=aL (decide (¬bt (Jc x.1) k=bt (Jc h0.1) k))/\J (M D w wx))
    case first=>
     have hkt:((m:Int)+1).toNat=m+1:=(by omega);have mZ:J _:=HT.trans (Td _ wr 1) (λ_ h=>aM h);generalize keyS x.1=kx at *;generalize keyS h0.1=kh at *;go_region_held3 (λV=>V.cell? ⟨g,o,Y⟩=Z (L kh)/\V.cell? ⟨g,o+(m+1)*3,Y⟩=Z (L kx)) (go_keep) ((first|(go_at_call_of 253 (lW kx);refine(kF _).mono ?_;rintro _ w5⟨rfl,kI⟩;have Hu:J _:=mZ.trans kI (λ_ h=>aM h);obtain⟨y0,yk⟩:=ji w5 Hu.o)|(go_at_call_of 253 (lW kh);refine(j6 _).mono ?_;rintro _ w6⟨rfl,gV⟩;have k8:J _:=Hu.trans gV (λ_ h=>aM h);obtain⟨z0,zk⟩:=ji w6 k8.o)))
     all_goals go_wp2;go_meet;refine⟨?_,k8⟩;rw[Value.bool.injEq,Bool.eq_iff_iff];simp only[bne_iff_ne,ne_eq,decide_eq_true_eq];omega
    case rest=>
    obtain⟨rfl,k8⟩:=hcut;obtain⟨w6,sU⟩:∃w6,w6=wc:=⟨wc,rfl⟩
    subst sU
    by_cases Hd:bt (Jc x.1) k=bt (Jc h0.1) k
    ·have hd:(decide (¬bt (Jc x.1) k=bt (Jc h0.1) k))=false:=(by simp[Hd]);rw[hd];have HN:=yj Hd;have ar:J _:=HN;go_wp2;go_roundw
     case rel=>exact⟨m+1,aw,by have:=aw.o;go_num,ar,k8⟩
     case measure=>have:=aw.o;simp[intOf];omega
    ·have hd:(decide (¬bt (Jc x.1) k=bt (Jc h0.1) k))=true:=(by simp[Hd]);rw[hd];have HN:J _:=qE Hd;go_wp2;go_ret;exact⟨by rw[<-HN.o];rfl,k8⟩
   ·have gI:¬(m:Int)+1<((r.length+1:Nat):Int):=(by omega);have uG:J (k<b0):=by
     rcases Nat.lt_or_eq_of_le hk with h|h
     ·exact h
     ·subst h;have h2:=(ZZ h0 r k).2 λx hx=>by
       rcases List.mem_cons.1 hx with rfl|hx
       ·rfl
       ·obtain⟨j,hj,rfl⟩:=List.getElem_of_mem hx;exact HA j hj (by omega)
      rw[au.o]at h2
      cases h2
    go_wp2;go_roundw
    case rel=>exact⟨k+1,uG,by go_num,HT⟩
    case measure=>have:=uG.o;simp[intOf];omega
theorem JmX(wj b u:Nat)(hw:wj<=32)(v:aG)(l:List H9)(w:aA)(hv:RhAt w v l)(xg:∀h∈l,Ji wj h.1)(Hl:l.length<=900000000)(hb:b<8*(wj+1)):
  aB N 167 #[v,O I (b:Int),O I (u:Int)] w λe w'=>∃v',e=aC v'/\ROwn w.heap.size w' v' (sidL l b u)/\M D w w':=by
 obtain⟨a,cc,rfl⟩:=hv.shape;have H:J _:=hv;have xY:J (∀V (c:BA×Int),Ji wj c->aB N 253 #[L (keyS c),O I (b:Int)] V λe w'=>e=aC (O I (bt (Jc c) b:Int))/\M D V w'):=λV c hc=>by
  have hl:=Xg hc;exact JhB (Jc c) b (by rw[hl];exact hb) (by rw[hl];omega) V
 have pi:J _:=xg;go_enter func167,ntmps167;go_wp2;go_loopw [7,8] (λvo i wr=>∃k:Nat,k<=l.length/\i=O I (k:Int)/\J (ROwn w.heap.size wr vo (sidL (l.take k) b u))/\J (M D w wr)) (λ_ i _=>l.length-(intOf i).toNat)
 case atStart=>exact⟨0,Nat.zero_le _,rfl,ROwn.nil _ _,Te _ _⟩
 case round=>
  obtain⟨k,hk,rfl,kQ,HT⟩:=hrel
  by_cases H5:k<l.length
  ·rcases H with⟨e,e2⟩|⟨gi,oi,c2,e,⟨kV,_⟩,Hg⟩
   ·rw[e2]at H5;simp at H5
   simp only[Qy,true_and]at e;obtain⟨rfl,rfl⟩:=e;obtain⟨x,hx⟩:∃x:H9,l[k]=x:=⟨_,rfl⟩
   have xA:J (∀V,M D w V->ZT V gi (oi+k*3) x):=λV hV=>by have:=(Hg k H5).tch hV kV (λh=>h);rw[hx]at this;exact this
   have kF:=λV=>xY V x.1 (pi x (by rw[<-hx];exact Qx H5));have ax:J _:=kF;have HS:J (sidL (l.take (k+1)) b u=if bt (Jc x.1) b=u then sidL (l.take k) b u++[x] else sidL (l.take k) b u):=(by show sidL _ _ _=_;rw[QR H5,hx,Jk5]);have gD:J ((sidL (l.take k) b u).length+1<=1000000000):=(by show lT _+1<=_;have h1:(sidL (l.take k) b u).length<=(l.take k).length:=List.length_filter_le _ _;rw[QB]at h1;omega);have kT:(k:Int)<(l.length:Int):=(by omega);obtain⟨q0,q1,q2⟩:=xA wr HT.o;obtain⟨va,vm,vc,qx⟩:∃va vm vc,u7=R va vm vc:=(by obtain⟨a,c,e⟩:=kQ.shape;exact⟨_,_,_,e⟩);subst qx;have yN:J (∀W:aA,_):=λW=>JiY W x
   by_cases hbu:bt (Jc x.1) b=u
   ·have hbi:(bt (Jc x.1) b:Int)=(u:Int):=(by omega);rw[if_pos hbu]at HS;generalize bt (Jc x.1) b=bx at *;go_wp2_with (first|(go_at_call 253;refine(ax _).mono ?_;rintro _ w1⟨rfl,H6⟩;have H3:J _:=H6;obtain⟨y0,y1,y2⟩:=xA w1 (HT.trans H6 (λ_ h=>aM h)))|(at_builtin;refine Zf rfl _ _ rfl rfl (kQ.tch (H3.trans (Ta D w1 _) (λ_ h=>aM h)) (λ_ _ h=>h)) _ [x] rfl (yN w1) gD (Qm HT.size (Qm H3.size (Ta D w1 _).size)) ?_;intro v3 w3 kM (yu:J _);have gS:J _:=kM));go_roundw
    case rel=>exact⟨k+1,by omega,by go_num,by rw[HS.o];exact gS,kQ.tch (H3.trans (Ta D w1 _) (λ_ h=>aM h)) (λ_ _ h=>h) |>.grow yu (Ql _) (HT.trans (H3.trans (Ta D w1 _) (λ_ h=>aM h)) (λ_ h=>aM h))⟩
    case measure=>simp[intOf];omega
   ·have hbi:¬(bt (Jc x.1) b:Int)=(u:Int):=(by omega);rw[if_neg hbu]at HS;generalize bt (Jc x.1) b=bx at *;go_wp2_with (first|(go_at_call 253;refine(ax _).mono ?_;rintro _ w1⟨rfl,(H3:J _)⟩));go_roundw
    case rel=>exact⟨k+1,by omega,by go_num,by rw[HS.o];exact kQ.tch H3 (λ_ _ h=>h),HT.trans H3 (λ_ h=>aM h)⟩
    case measure=>simp[intOf];omega
  ·have gI:¬(k:Int)<(l.length:Int):=(by omega);have HE:J (l.take k=l):=QS (by omega);go_wp2;go_ret;exact⟨_,rfl,by have:=kQ.o;rw[HE.o]at this;exact this,HT.o⟩

def DgC:Prop:=∀(n:Nat)(s:BA)(V:aA),1<=n->n<=32->s.size<1152921504606846976->aB N 103 #[O I (n:Int),L s] V λe w'=>e=aC (L (dgW n s.data.toList))/\M D V w'
def Jcm(l:List H9)(j:Nat)(x:H9):List H9:=(l.set j x).dropLast
theorem Jgu(l:List H9)(j:Nat)(hj:j<l.length)(x:H9)(hx:l.getLast? =Z x):(Jcm l j x).Perm (l.eraseIdx j):=by
 unfold Jcm;have Hd:l ≠ []:=by rintro rfl;simp at hj
 have hl:l=l.dropLast++[x]:=by rw[List.getLast?_eq_some_getLast Hd]at hx;have:=(List.dropLast_concat_getLast Hd).symm;rw[Option.some.inj hx]at this;exact this
 generalize l.dropLast=m at hl;subst hl
 by_cases av:j<m.length
 ·rw[List.set_append_left _ _ av,List.dropLast_concat,List.eraseIdx_append_of_lt_length av,lS,if_pos av,List.eraseIdx_eq_take_drop_succ,Qs];exact List.Perm.append_left _ (List.perm_append_singleton _ _).symm
 ·obtain rfl:j=m.length:=by simp at hj;omega
  rw[lG _ _ (Ql _),lK,List.eraseIdx_append_of_length_le (Ql _),lK];simp
theorem Book.perm{st:Option Tr}{l':List H9}(B:Book wj st l)(h:l.Perm l'):Book wj st l':=
 ⟨B.wf,λx hx=>B.ok x (h.mem_iff.2 hx),(h.map _).nodup_iff.1 B.nodup,λk o=>by rw[B.mem];exact⟨λ⟨x,hx,h2⟩=>⟨x,h.mem_iff.1 hx,h2⟩,λ⟨x,hx,h2⟩=>⟨x,h.mem_iff.2 hx,h2⟩⟩⟩
def Jcg(os:List (Nat×Nat)):Except Er (Option Tr×List (Nat×Nat))->Except Er (Option Tr×List (Nat×Nat))
 | .error e=>.error e
 | .ok (s,q)=>.ok (s,os++q)
theorem Ji2(os:List (Nat×Nat))(c:BA×Int)(r:List (BA×Int))(st st':Option Tr)(o:Nat×Nat)(h:JW st (Jc c)=.ok (st',o)):Jcg os (Xd (c::r) st)=Jcg (os++[o]) (Xd r st'):=by
 simp only[Xd,h]
 cases Xd r st' with
 | error e=>rfl
 | ok p=>simp[Jcg]
theorem Jep{b1 b2:Nat}{v':aG}{l':List (Nat×Nat)}(h:ROwn b1 w v l)(h':OOwn b2 w v' l'):∀j,v.ownBlock=Z j->v'.ownBlock ≠ Z j:=by
 intro j h1 h2;obtain⟨_,⟨rfl,_⟩|⟨g,cap,cur,rfl,_,hZ,_⟩⟩:=h
 ·cases h1
 obtain⟨_,⟨rfl,_⟩|⟨g',cap',cur',rfl,_,jv,_⟩⟩:=h'
 ·cases h2
 cases h1
 cases h2
 rw[hZ]at jv;simp at jv
def RAp(wj:Nat)(st:Option Tr)(l:List H9)(t:TxL)(w:aA)(e:Ending)(w':aA):Prop:=
 M D w w'/\match JI (dgW wj) st t with
 | .error er=>e=aC (aI #[R Y 0 0,O I (Xr er)])
 | .ok st'=>∃v' l',e=aC (aI #[v',O I 0])/\ROwn w.heap.size w' v' l'/\Book wj st' l'/\l'.length<=l.length+3
theorem JkV(hD:DgC)(wj:Nat)(Hf:1<=wj)(hw:wj<=32)(v:aG)(l:List H9)(st:Option Tr)(B:Nat)(v1 v2:aG)(t:TxL)(w:aA)(h:RhAt w v l)(hB:Book wj st l)(hk:TxOk wj t)(h1:YE B w v1 t.1)(h2:Yz B w v2 t.2)(hl:l.length<=900000000):
  aB N 255 #[O I (wj:Int),v,aH #[v1,v2]] w (RAp wj st l t w):=by
 obtain⟨a0,c0,rfl⟩:=h.shape;obtain⟨a1,c1,rfl⟩:=h1.shape;obtain⟨a2,c2,rfl⟩:=h2.shape;have l1:=hk.ins;have l2:=hk.made;have HK:J _:=hk;have H:J (RhAt _ _ _):=h;have H1:J (YE _ _ _ _):=h1;have H2:J (Yz _ _ _ _):=h2;have qz:J _:=hB;have HD:J DgC:=hD;clear hk h1 h2 h hB hD;have TB:J (M D w (w.alloc (T #[R a1 t.1.length c1,R a2 t.2.length c2] 98))):=Ta D w _;go_enter func255,ntmps255;go_wp2_with (at_builtin;refine Zf rfl _ _ rfl rfl (ROwn.nil (w.heap.size+1) _) _ l rfl (H.tch0 TB) (by simp;omega) (by simp) ?_;intro vn w1 jG hg;have kQ:J (ROwn _ w1 vn l):=jG;have HG:J (World.grownBy _ w1 _):=hg;clear jG hg);have T1:J (M D w w1):=ROwn.grow (ROwn.nil (w.heap.size+1) _) HG (by omega) TB.out;have R1:J (w1.heap[w.heap.size]? =Z (T #[R a1 t.1.length c1,R a2 t.2.length c2] 98)):=(HG.block _ (by simp) (λe=>by cases e)).trans (Qf _ _);go_loopw [8,9,10] (λvn vi i wr=>∃(k:Nat)(lk:List H9)(sk:Option Tr)(os:List (Nat×Nat)),k<=t.1.length/\i=O I k/\J (os.length=k)/\J (ROwn (w.heap.size+1) wr vn lk)/\J (OOwn (w.heap.size+1) wr vi os)/\J (Book wj sk lk)/\J (Xd t.1 st=Jcg os (Xd (t.1.drop k) sk))/\lk.length<=l.length/\J (M D w wr)/\J (wr.heap[w.heap.size]? =Z (T #[R a1 t.1.length c1,R a2 t.2.length c2] 98))) (λ_ _ i _=>t.1.length-(intOf i).toNat)
 case atStart=>exact⟨0,l,st,[],by omega,rfl,rfl,kQ,OOwn.nil _ _,qz,(by cases h:Xd t.1 st<;>simp[Jcg,h]:Xd t.1 st=Jcg [] (Xd (t.1.drop 0) st)),Ql _,T1,R1⟩
 case round=>
  clear kQ HG T1 R1 TB;obtain⟨k,lk,sk,os,hk,rfl,m6,kQ,zQ,rq,HS,xJ,HT,HR⟩:=hrel;obtain⟨d0, -⟩:=rows HR.o
  by_cases H5:k<t.1.length
  ·rcases H1 with⟨e,e2⟩|⟨gi,oi,cc,e,_,kV,Hg⟩
   ·rw[e2]at H5;simp at H5
   simp only[Qy,true_and]at e;obtain⟨rfl,rfl⟩:=e;obtain⟨f0,f1⟩:=Hg k H5;have q0:=(HT.cell (p:=⟨gi,oi+k*2,Y⟩) kV (λh=>h)).trans f0;have q1:=(HT.cell (p:=⟨gi,oi+k*2+1,Y⟩) kV (λh=>h)).trans f1;have kT:(k:Int)<(t.1.length:Int):=(by omega);have xy:J _:=lH H5;have ju:=HK.o.coins _ (Qx H5);have jU:J (∀V,aB N 105 #[aH #[L t.1[k].1,O I t.1[k].2]] V λe w'=>e=aC (L (keyS t.1[k]))/\M D V w'):=λV=>Za t.1[k] V ju.2.1 (by have:=ju.2.2;omega) (by rw[ju.1];omega);have HF:J (∀V,M D wr V->_):=λV hV=>JjQ wj u8 lk t.1[k] V (kQ.at.tch0 hV) (by omega) (λx hx=>(rq.ok x hx).1) ju;have yr:=rq.o.without ju;clear Hg f0 f1 ju
   cases hf:XX lk t.1[k] with
   | none=>
    rw[hf]at yr;simp only at yr;have HZ:J (Yi lk t.1[k]= -1):=(by show Yi _ _=_;unfold Yi;rw[hf]);have HN:J (JI (dgW wj) st t=.error .input):=by show JI _ _ _=_;unfold JI;rw[HS.o,xy.o];simp only[Xd,yr,Jcg]
    clear yr hf xy HS;obtain⟨va,vc,rfl⟩:=kQ.shape;obtain⟨vb,vd,qL⟩:=zQ.shape;rw[m6.o]at qL;subst qL;rw[HZ.o]at HF;generalize keyS t.1[k]=ks at *;generalize t.1[k]=c at *;go_wp2_with (first|(go_at_call 105;refine(jU _).mono ?_;rintro _ w1⟨rfl,(H3:J _)⟩)|(go_at_call 263;refine(HF _ H3).mono ?_;rintro _ w2⟨rfl,H7⟩;have H4:J _:=H3.trans H7 noE;clear H7));go_ret2;refine⟨HT.trans H4 noE,?_⟩;rw[HN.o];rfl
   | some j=>
    obtain⟨hj,_⟩:=JbB hf;have HZ:J (Yi lk t.1[k]=(j:Int)):=(by show Yi _ _=_;unfold Yi;rw[hf]);rw[hf]at yr;simp only at yr;obtain⟨sk1,m7,(kS:J _)⟩:=yr;rw[Qn,Qd hj,Option.getD_some]at m7;have HN:J (Xd t.1 st=Jcg (os++[lk[j].2]) (Xd (t.1.drop (k+1)) sk1)):=(by show Xd t.1 st=_;rw[HS.o,xy.o];exact Ji2 _ _ _ _ _ _ m7);clear m7 hf xy HS;obtain⟨g,cap,hvn,yQ⟩:∃g cap,u8=R (Z ⟨g,0,Y⟩) lk.length cap/\lk.length<=cap:=by
     obtain⟨_,⟨_,h0⟩|⟨g,cap,cur,rfl,_,_,hc,_⟩⟩:=kQ.o
     ·omega
     ·exact⟨g,cap,rfl,hc⟩
    subst hvn;obtain⟨vb,vd,qL⟩:=zQ.shape;rw[m6.o]at qL;subst qL;rw[HZ.o]at HF;generalize keyS t.1[k]=ks at *;generalize t.1[k]=c at *;have hj0:¬(j:Int)<0:=(by omega);have ru:(j:Int)<(lk.length:Int):=(by omega);obtain⟨m,hm⟩:∃m:Nat,lk.length=m+1:=⟨lk.length-1,by omega⟩
    have hll1:I.wrap ((lk.length:Int)-1)=(m:Int):=(by rw[w63 _ (by omega) (by omega)];omega);have rM:(m:Int)<(lk.length:Int):=(by omega);have HLM:J _:=hm;have hmc:(m:Int)<=(cap:Int):=(by omega);obtain⟨x,hx⟩:∃x:H9,lk[j]=x:=⟨_,rfl⟩
    obtain⟨y,hy⟩:∃y:H9,lk[m]=y:=⟨_,rfl⟩
    have HA:J (∀V,M D wr V->ZT V g (j*3) x/\ZT V g (m*3) y):=by
     intro V hV
     rcases kQ.at.tch0 hV with⟨e,_⟩|⟨g',o,c',e,hg,hc⟩
     ·cases e
     ·cases e
      have h1:=hc j hj;have h2:=hc m (by omega);rw[lZ]at h1 h2;rw[hx]at h1;rw[hy]at h2;exact⟨h1,h2⟩
    rw[hx]at HN;have cU:J (lk[j]? =Z x/\lk[m]? =Z y):=⟨by rw[Qd hj,hx],by rw[Qd (by omega),hy]⟩
    clear hx hy hm;obtain⟨⟨xk⟩,xa,xo⟩:=x;have xK:J _:=(Jb HR)
    have uM:J (os.length+1<=1000000000):=(by show os.length+1<=_;rw[m6.o];omega);go_upto_region 11 with(first|(go_at_call 105;refine(jU _).mono ?_;rintro _ w1⟨rfl,(H3:J _)⟩)|(go_at_call 263;refine(HF _ H3).mono ?_;rintro _ w2⟨rfl,H7⟩;have H4:J _:=H3.trans H7 noE;have cx:=(HA w2 H4).1;obtain⟨cx0,cx1,cx2⟩:=cx;clear H7)|(at_builtin;refine Jct rfl _ _ rfl rfl (zQ.tch (H4.trans (Ta D w2 _) (λ_ h=>aM h)) (λ_ _ h=>h)) _ _ [(xa,xo)] rfl (JjK w2 (xa,xo)) uM (Qm xK (Qm H4.size (Ta D w2 _).size)) ?_;intro v3 w3 kM (yu:J _);have ay:J (OOwn _ w3 v3 _):=kM;clear kM));have T23:J _:=((H4.trans (Ta D w2 _) (λ_ h=>aM h)).mono noE).trans (Tg yu) (λ_ h=>aM h);have gS:J (ROwn (w.heap.size+1) w3 (R (Z ⟨g,0,Y⟩) lk.length cap) lk):=kQ.tch T23 (λj hj e=>Jep kQ zQ j hj e.symm);have H8:J (M D w w3):=HT.trans T23 (λj hj=>aN (by have:=(zQ.own j hj.symm).1;omega));have kY:J (w3.heap[w.heap.size]? =Z (T #[R (Z ⟨gi,oi,Y⟩) t.1.length c1,R a2 t.2.length c2] 98)):=(T23.block _ xK (λe=>by have:=(zQ.own _ e.symm).1;omega)).trans HR.o;have HAP3:J (v3.ownBlock ≠ Z g):=Jep gS ay g rfl;have HCY:J (ZT w3 g (m*3) y):=by
     rcases gS.at with⟨e,_⟩|⟨g',o,c',e,hg,hc⟩
     ·cases e
     ·cases e
      have h2:=hc m (by have:=HLM.o;omega);have h3:=cU.o.2;rw[Qd (by have:=HLM.o;omega),Qh]at h3;rw[lZ,h3]at h2;exact h2
    obtain⟨cy0,cy1,cy2⟩:=HCY.o;have HJ:J _:=hj;clear HT HR kQ HF jU T23 yu H3 H4 zQ HA q0 q1 d0 cx0 cx1 cx2;go_wp2_with (first|(refine Jdo rfl _ _ rfl gS j HJ y rfl rfl ?_;intro w4 pm Ho;have HOW4:J (ROwn _ w4 _ _):=pm;have He:J (M _ w3 w4):=Ho;clear pm Ho));have HBG:J (w.heap.size+1<=g):=(gS.own g rfl).1;go_roundw
    case rel=>
     refine⟨k+1,Jcm lk j y,sk1,os++[(xa,xo)],by omega,by go_num,(by simp[m6.o]:(os++[(xa,xo)]).length=k+1),?_,ay.tch He (λi hi e=>HAP3 (by rw[hi,e])),?_,HN,?_,?_,?_⟩
     ·have:=HOW4.o.take m (by omega);unfold Jcm;rw[List.dropLast_eq_take,lQ,HLM.o];exact this
     ·have h3:=cU.o.2;refine kS.perm (Jgu lk j HJ y ?_).symm;rw[List.getLast?_eq_getElem?,HLM.o];exact h3
     ·unfold Jcm;rw[List.length_dropLast,lQ];omega
     ·exact H8.trans He (λi hi=>aN (by have:=HBG.o;subst hi;omega))
     ·exact(He.block _ (Jb kY) (λe=>by have:=HBG.o;omega)).trans kY.o
    case measure=>simp[intOf];omega
  ·have dm:J (k=t.1.length):=(by omega:k=t.1.length)
   have gI:¬(k:Int)<(t.1.length:Int):=(by omega);have sQ:J (Xd t.1 st=.ok (sk,os)):=(by show Xd t.1 st=_;rw[HS.o,dm.o,List.drop_length];simp[Xd,Jcg]);have po:J (∀W,M D wr W->aB N 327 #[aH #[R a1 t.1.length c1,R a2 t.2.length c2]] W λe w'=>e=aC (L ⟨(txB t).toArray⟩)/\M D W w'):=λW hW=>JhF wj hw B _ _ t HK W ((H1.tch HT noE).tch hW noE) ((H2.tch HT noE).tch hW noE);have rx:J ((txB t).length<=200):=JeJ wj hw t HK.o;obtain⟨-,d1⟩:=rows HR.o;generalize hX:txB t=aX at *;have HXX:J (txB t=aX):=hX;clear hX HS;have gW:=JO [84] aX (by have:=rx.o;simp;omega);have un:∀W,(Op.stringOp .add (⟨#[84]⟩:BA) ⟨aX.toArray⟩).run N W=.ok (L ⟨(84::aX).toArray⟩) W:=gW;have gd:J (∀W,aB N 103 #[O I (wj:Int),L ⟨(84::aX).toArray⟩] W λe w'=>e=aC (L (dgW wj (84::aX)))/\M D W w'):=λW=>HD wj ⟨(84::aX).toArray⟩ W Hf hw (by rw[Jh];have:=rx.o;simp;omega);clear gW;obtain⟨S,hS⟩:∃S:BA,S=⟨(84::aX).toArray⟩:=⟨_,rfl⟩
   rw[<-hS]at un gd;obtain⟨id,jS⟩:∃id,dgW wj (84::aX)=id:=⟨_,rfl⟩
   have r9:J (id.size=wj):=(by rw[<-jS];exact Jj wj hw _:id.size=wj)
   have zI:J (dgW wj (84::aX)=id):=jS;rw[jS]at gd;clear jS hS;obtain⟨vb,vd,qL⟩:=zQ.shape;rw[m6.o]at qL;subst qL;have jl:J (∀W,M D wr W->W.heap[w.heap.size]? =Z (T #[R a1 t.1.length c1,R a2 t.2.length c2] 98)):=λW hW=>(hW.block _ (Jb HR) (λh=>h)).trans HR.o;go_upto_region 14 with(first|(go_at_call 327;refine(po _ (Te _ _)).mono ?_;rintro _ w1⟨rfl,H6⟩;have H3:J (M D wr w1):=H6;clear H6)|(go_at_call 103;refine(gd _).mono ?_;rintro _ wA⟨rfl,H7⟩;have H4:J (M D wr wA):=H3.trans H7 noE;clear H7));have Hz:J (M D w wA):=HT.trans H4 noE;have HRA:J (wA.heap[w.heap.size]? =Z (T #[R a1 t.1.length c1,R a2 t.2.length c2] 98)):=jl wA H4.o;have az:J (ROwn (w.heap.size+1) wA u8 lk):=kQ.tch H4 (λ_ _ h=>h);have fA:J (OOwn (w.heap.size+1) wA (R vb k vd) os):=zQ.tch H4 (λ_ _ h=>h);clear po gd un rx HT H4 HR jl H3 kQ zQ d0 d1 gI;go_wp2;go_loopw [8,13] (λvn i wr=>∃(q:Nat)(lj:List H9)(sj:Option Tr),q<=t.2.length/\i=O I q/\J (ROwn (w.heap.size+1) wr vn lj)/\J (OOwn (w.heap.size+1) wr (R vb k vd) os)/\J (Book wj sj lj)/\J (Jz id 0 t.2 sk=Jz id q (t.2.drop q) sj)/\lj.length<=lk.length+q/\J (M D w wr)/\J (wr.heap[w.heap.size]? =Z (T #[R a1 t.1.length c1,R a2 t.2.length c2] 98))) (λ_ i _=>t.2.length-(intOf i).toNat)
   case atStart=>exact⟨0,lk,sk,by omega,rfl,az,fA,rq,rfl,by omega,Hz,HRA⟩
   case round=>
    clear az Hz HRA fA rq;obtain⟨q,lj,sj,hq,rfl,kQ,zQ,HBJ,qi,hlj,HT,HR⟩:=hrel;obtain⟨-,d1⟩:=rows HR.o
    by_cases H5:q<t.2.length
    ·rcases H2 with⟨e,e2⟩|⟨gi,oi,cc,e,_,kV,Hg⟩
     ·rw[e2]at H5;simp at H5
     simp only[Qy,true_and]at e;obtain⟨rfl,rfl⟩:=e;obtain⟨f0,f1⟩:=Hg q H5;have xy:J (t.2.drop q=t.2[q]::t.2.drop (q+1)):=lH H5;have ry:=HK.o.outs _ (Qx H5);have kT:(q:Int)<(t.2.length:Int):=(by omega);have ju:Ji wj (id,(q:Int)):=⟨r9,by omega,by show (q:Int)<3;omega⟩
     have jU:J (∀V,aB N 105 #[aH #[L id,O I (q:Int)]] V λe w'=>e=aC (L (keyS (id,(q:Int))))/\M D V w'):=λV=>Za (id,(q:Int)) V ju.2.1 (by have:=ju.2.2;omega) (by rw[ju.1];omega);have HF:J (∀V,M D wr V->aB N 263 #[u8,L (keyS (id,(q:Int)))] V λe w'=>e=aC (O I (Yi lj (id,(q:Int))))/\M D V w'):=λV hV=>JjQ wj u8 lj (id,(q:Int)) V (kQ.at.tch0 hV) (by omega) (λx hx=>(HBJ.ok x hx).1) ju;have pq:=HBJ.o.with ju ry;have pt:J (∀V,M D wr V->V.cell? ⟨w.heap.size,1,Y⟩=Z (R (Z ⟨gi,oi,Y⟩) t.2.length c2)/\V.cell? ⟨gi,oi+q*2,Y⟩=Z (O aD ((t.2[q].1:Nat):Int))/\V.cell? ⟨gi,oi+q*2+1,Y⟩=Z (O aE ((t.2[q].2:Nat):Int))):=λV hV=>by
      have hVw:M D w V:=HT.trans hV noE;exact⟨Ja ((hV.block _ (Jb HR) (λh=>h)).trans HR),(hVw.cell (p:=⟨gi,oi+q*2,Y⟩) kV (λh=>h)).trans f0,(hVw.cell (p:=⟨gi,oi+q*2+1,Y⟩) kV (λh=>h)).trans f1⟩
     clear Hg f0 f1 ry ju;obtain⟨⟨oa,oo⟩,ho⟩:∃o,t.2[q]=o:=⟨_,rfl⟩
     rw[ho]at pt pq xy;clear ho
     cases hf:XX lj (id,(q:Int)) with
     | some j=>
      rw[hf]at pq;simp only at pq;have HZ:J (Yi lj (id,(q:Int))=(j:Int)):=(by show Yi _ _=_;unfold Yi;rw[hf]);have HN:J (JI (dgW wj) st t=.error .exist):=by show JI _ _ _=_;unfold JI;rw[sQ.o,HXX.o,zI.o];simp only[qi.o,xy.o,Jz,pq]
      have hj0:(0:Int)<=(j:Int):=(by omega);clear pq hf xy qi;obtain⟨va,vc,rfl⟩:=kQ.shape;rw[HZ.o]at HF;generalize keyS (id,(q:Int))=ks at *;go_wp2_with (first|(go_at_call 105;refine(jU _).mono ?_;rintro _ w1⟨rfl,H6⟩;have H3:J (M _ wr w1):=H6;clear H6)|(go_at_call 263;refine(HF _ H3).mono ?_;rintro _ w2⟨rfl,H7⟩;have H4:J (M D wr w2):=H3.trans H7 noE;clear H7));go_ret2;refine⟨HT.trans H4 noE,?_⟩;rw[HN.o];rfl
     | none=>
      rw[hf]at pq;simp only at pq;obtain⟨sj1,hwi,fB⟩:=pq;have HZ:J (Yi lj (id,(q:Int))= -1):=(by show Yi _ _=_;unfold Yi;rw[hf]);have HN:J (Jz id 0 t.2 sk=Jz id (q+1) (t.2.drop (q+1)) sj1):=by show Jz _ _ _ _=_;rw[qi.o,xy.o];simp only[Jz,hwi]
      have kS:J (Book wj sj1 (lj++[((id,(q:Int)),(oa,oo))])):=fB;clear hwi fB hf xy qi;obtain⟨va,vc,qx⟩:=kQ.shape;subst qx;rw[HZ.o]at HF;have xK:J (w.heap.size+1<=wr.heap.size):=(Jb HR)
      have qS:J (lj.length+1<=1000000000):=(by omega:lj.length+1<=1000000000)
      have mH:J (∀W:aA,RhAt (W.alloc (T #[L (keyS (id,(q:Int))),O aD (oa:Int),O aE (oo:Int)] 202)) (R (Z ⟨W.heap.size,0,Y⟩) 1 1) [((id,(q:Int)),(oa,oo))]):=λW=>JiY W ((id,(q:Int)),(oa,oo));generalize keyS (id,(q:Int))=ks at *;go_wp2_with (first|(go_at_call 105;refine(jU _).mono ?_;rintro _ w1⟨rfl,H6⟩;have H3:J (M _ wr w1):=H6;clear H6)|(go_at_call 263;refine(HF _ H3).mono ?_;rintro _ w2⟨rfl,H7⟩;have H4:J (M D wr w2):=H3.trans H7 noE;obtain⟨y0,y1,y2⟩:=pt w2 H4.o;clear H7)|(at_builtin;refine Zf rfl _ _ rfl rfl (kQ.tch (H4.trans (Ta D w2 _) (λ_ h=>aM h)) (λ_ _ h=>h)) _ [((id,(q:Int)),(oa,oo))] rfl (mH w2) qS (Qm xK (Qm H4.size (Ta D w2 _).size)) ?_;intro v3 w3 kM xt;have gS:J (ROwn _ w3 v3 _):=kM;have yu:J (World.grownBy _ w3 _):=xt;clear kM xt));go_roundw
      case rel=>have T23:M (λj=>Z j=(lR va lj.length vc).ownBlock) wr w3:=((H4.trans (Ta D w2 _) (λ_ h=>aM h)).mono noE).trans (Tg yu) (λ_ h=>aM h);refine⟨q+1,lj++[((id,(q:Int)),(oa,oo))],sj1,by omega,by go_num,gS,zQ.tch T23 (λi hi e=>Jep kQ zQ i e.symm hi),kS,HN,by simp;omega,HT.trans T23 (λj hj=>aN (by have:=(kQ.own j hj.symm).1;omega)),(T23.block _ xK (λe=>by have:=(kQ.own _ e.symm).1;omega)).trans HR⟩
      case measure=>simp[intOf];omega
    ·have HQ:J (q=t.2.length):=(by omega:q=t.2.length)
     have gI:¬(q:Int)<(t.2.length:Int):=(by omega);have jY:J (Jz id 0 t.2 sk=.ok sj):=(by show Jz _ _ _ _=_;rw[qi.o,HQ.o,List.drop_length];rfl);have m8:J (JI (dgW wj) st t=if Xm os t.2 then .error .sum else .ok sj):=(by show JI _ _ _=_;unfold JI;rw[sQ.o,HXX.o,zI.o];simp only[jY.o]);have cV:J (∀V,M D wr V->aB N 328 #[R vb k vd] V λe w'=>e=aC (aL (decide (18446744073709551616<=Jt os os.length)))/\M D V w'):=λV hV=>JmU _ _ os V (zQ.tch hV (λ_ _ h=>h)).at.raw (by rw[m6.o];omega);have zo:J (∀V,M D wr V->aB N 328 #[R a2 t.2.length c2] V λe w'=>e=aC (aL (decide (18446744073709551616<=Jt t.2 t.2.length)))/\M D V w'):=λV hV=>JmU _ _ t.2 V (H2.tch (HT.trans hV noE) noE) (by omega);have HAI:J (∀V,M D wr V->aB N 329 #[R vb k vd] V λe w'=>e=aC (O aD ((Jt os os.length % 18446744073709551616:Nat):Int))/\M D V w'):=λV hV=>JjN _ _ os V (zQ.tch hV (λ_ _ h=>h)).at.raw (by rw[m6.o];omega);have qr:J (∀V,M D wr V->aB N 329 #[R a2 t.2.length c2] V λe w'=>e=aC (O aD ((Jt t.2 t.2.length % 18446744073709551616:Nat):Int))/\M D V w'):=λV hV=>JjN _ _ t.2 V (H2.tch (HT.trans hV noE) noE) (by omega);have pt:J (∀V,M D wr V->V.cell? ⟨w.heap.size,1,Y⟩=Z (R a2 t.2.length c2)):=λV hV=>Ja ((hV.block _ (Jb HR) (λh=>h)).trans HR);obtain⟨va,vc,qx⟩:=kQ.shape;subst qx;have HBS:J (Xm os t.2↔(18446744073709551616<=Jt os os.length\/18446744073709551616<=Jt t.2 t.2.length\/Jt os os.length<Jt t.2 t.2.length)):=Iff.rfl;have gK:J (∀V,M D wr V->¬Xm os t.2->RAp wj st l t w (aC (aI #[R va lj.length vc,O I 0])) V):=λV hV hb=>by
      refine⟨HT.trans hV noE,?_⟩;rw[m8.o,if_neg hb];have h5:=kQ.o.tch hV (λ_ _ h=>h);refine⟨_,lj,rfl,?_,HBJ,by omega⟩;obtain⟨p1,p2|⟨g,cap,cur,p2,p3,p4⟩⟩:=h5
      ·exact⟨p1,aM p2⟩
      ·exact⟨p1,aN ⟨g,cap,cur,p2,by omega,p4⟩⟩
     have m9:J (∀V,M D wr V->Xm os t.2->RAp wj st l t w (aC (aI #[R Y 0 0,O I 5])) V):=λV hV hb=>by
      refine⟨HT.trans hV noE,?_⟩;rw[m8.o,if_pos hb];rfl
     clear m8 jY qi;generalize Jt os os.length=S1 at *;generalize Jt t.2 t.2.length=S2 at *
     by_cases b1:18446744073709551616<=S1
     ·rw[decide_eq_true b1]at cV;have HB:J (Xm os t.2):=HBS.2 (aM b1);go_wp2_with (first|(go_at_call 328;refine(cV _ (Te _ _)).mono ?_;rintro _ w1⟨rfl,H6⟩;have H3:J (M D wr w1):=H6;clear H6));go_ret2;exact m9 _ H3 HB.o
     ·rw[decide_eq_false b1]at cV
      by_cases b2:18446744073709551616<=S2
      ·rw[decide_eq_true b2]at zo;have HB:J (Xm os t.2):=HBS.2 (aN (aM b2));go_wp2_with (first|(go_at_call_of 328 (lR vb k vd);refine(cV _ (Te _ _)).mono ?_;rintro _ w1⟨rfl,H6⟩;have H3:J (M D wr w1):=H6;have y1:=pt w1 H6;clear H6)|(go_at_call 328;refine(zo _ H3).mono ?_;rintro _ w2⟨rfl,H7⟩;have H4:J (M D wr w2):=H3.trans H7 noE;clear H7));go_ret2;exact m9 _ H4 HB.o
      ·rw[decide_eq_false b2]at zo;rw[Nat.mod_eq_of_lt (by omega)]at HAI qr
       by_cases b3:S1<S2
       ·have b3i:(S1:Int)<(S2:Int):=(by omega);have HB:J (Xm os t.2):=HBS.2 (aN (aN b3));go_wp2_with (first|(go_at_call_of 328 (lR vb k vd);refine(cV _ (Te _ _)).mono ?_;rintro _ w1⟨rfl,H6⟩;have H3:J (M D wr w1):=H6;have y1:=pt w1 H6;clear H6)|(go_at_call 328;refine(zo _ H3).mono ?_;rintro _ w2⟨rfl,H7⟩;have H4:J (M D wr w2):=H3.trans H7 noE;have y2:=pt w2 H4.o;clear H7)|(go_at_call_of 329 (lR vb k vd);refine(HAI _ H8).mono ?_;rintro _ w4⟨rfl,Ho⟩;have He:J (M D wr w4):=H8.trans Ho noE;clear Ho)|(go_at_call 329;refine(qr _ H4).mono ?_;rintro _ w3⟨rfl,Hm⟩;have H8:J (M D wr w3):=H4.trans Hm noE;clear Hm));go_ret2;exact m9 _ He HB.o
       ·have b3i:¬(S1:Int)<(S2:Int):=(by omega);have HB:J (¬Xm os t.2):=λh=>by rcases HBS.1 h with h|h|h<;>omega
        go_wp2_with (first|(go_at_call_of 328 (lR vb k vd);refine(cV _ (Te _ _)).mono ?_;rintro _ w1⟨rfl,H6⟩;have H3:J (M D wr w1):=H6;have y1:=pt w1 H6;clear H6)|(go_at_call 328;refine(zo _ H3).mono ?_;rintro _ w2⟨rfl,H7⟩;have H4:J (M D wr w2):=H3.trans H7 noE;have y2:=pt w2 H4.o;clear H7)|(go_at_call_of 329 (lR vb k vd);refine(HAI _ H8).mono ?_;rintro _ w4⟨rfl,Ho⟩;have He:J (M D wr w4):=H8.trans Ho noE;clear Ho)|(go_at_call 329;refine(qr _ H4).mono ?_;rintro _ w3⟨rfl,Hm⟩;have H8:J (M D wr w3):=H4.trans Hm noE;clear Hm));go_ret2;exact gK _ He HB.o

theorem JiR(hD:DgC)(wj:Nat)(Hf:1<=wj)(hw:wj<=32):∀(n:Nat)(l:List H9)(w:aA)(v:aG),l.length<=n->(∀h∈l,Ji wj h.1/\JC h.2)->(l.map (·.1)).Nodup->RhAt w v l->l.length<=900000000->
  aB N 106 #[O I (wj:Int),v] w λe w'=>∃s:List UInt8,e=aC (L ⟨s.toArray⟩)/\Root (dgW wj) (koR l) s/\M D w w':=by
 intro n
 induction n with
 | zero=>
  intro l w v hl Hb jK hv Hl;obtain rfl:l=[]:=QP (by omega);obtain⟨a,c,Hx⟩:=hv.shape;have Hx:=Hx;subst Hx;go_enter func106,ntmps106;go_wp2;go_ret;exact⟨[69],rfl,.none,Te _ _⟩
 | succ n ih=>
  intro l w v hl Hb jK hv Hl
  match l,hl,Hb,jK,hv,Hl with
  | [],hl,Hb,jK,hv,Hl=>
   obtain⟨a,c,Hx⟩:=hv.shape;have Hx:=Hx;subst Hx;go_enter func106,ntmps106;go_wp2;go_ret;exact⟨[69],rfl,.none,Te _ _⟩
  | [x],hl,Hb,jK,hv,Hl=>
   rcases hv with⟨_,e⟩|⟨g,o,c,Hx,⟨hg,_⟩,Hg⟩
   ·cases e
   have Hx:=Hx;subst Hx;obtain⟨f0,f1,f2⟩:=Hg 0 (by simp);simp only[Nat.zero_mul,lN,List.getElem_cons_zero]at f0 f1 f2;obtain⟨k1,k2⟩:=Hb x (by simp);have fC:J (∀V,_):=λV=>JiQ x V k2.2 (by rw[Xg k1];omega);have HR:J (Root (dgW wj) (koR [x]) (76::(Jc x.1++outB x.2))):=Root.one _ _;generalize 76::(Jc x.1++outB x.2)=aX at *;generalize keyS x.1=kx at *;go_enter func106,ntmps106;go_wp2_with (go_at_call 165;refine(fC _).mono ?_;rintro _ w1⟨rfl,(H3:J _)⟩);go_ret;exact⟨aX,rfl,HR,H3⟩
  | h0::x::r,hl,Hb,jK,hv,Hl=>
   obtain⟨b,hb,kX,yR⟩:=Jc2 h0 x r (λh hh=>(Hb h hh).1) jK;obtain⟨s1,s2⟩:=JoO h0 (x::r) b kX;obtain⟨a,c,Hx⟩:=hv.shape;have hls:(h0::x::r).length=r.length+2:=rfl;rw[hls]at Hx hl Hl s1 s2;subst Hx;have HF:J (∀V,M D w V->_):=λV hV=>JmS wj b hw _ h0 (x::r) V (hv.tch0 hV) (λh hh=>(Hb h hh).1) (by simp;omega) hb kX yR;have vK:J (∀V (u:Nat),M D w V->_):=λV u hV=>JmX wj b u hw _ (h0::x::r) V (hv.tch0 hV) (λh hh=>(Hb h hh).1) (by rw[hls];omega) hb;have HSD0:=λV hV=>vK V 0 hV;have HSD1:=λV hV=>vK V 1 hV;have rz:J _:=HSD0;have ki:J _:=HSD1;have cW:J (∀(u:Nat)(V:aA)(v:aG),(sidL (h0::x::r) b u).length<r.length+2->RhAt V v (sidL (h0::x::r) b u)->aB N 106 #[O I (wj:Int),v] V λe w'=>∃S:BA,e=aC (L S)/\(Root (dgW wj) (koR (sidL (h0::x::r) b u)) S.data.toList/\S.size<=1000)/\M D V w'):=λu V v H5 hv=>(ih (sidL (h0::x::r) b u) V v (by omega) (Jdv _ b u Hb) (JbK _ b u jK) hv (by omega)).mono (by
    rintro e w'⟨s,he,hr,ht⟩;exact⟨⟨s.toArray⟩,he,⟨hr,by rw[Jh];exact hr.rlen hw (λh hh=>(Jdv _ b u Hb h hh).1)⟩,ht⟩)
   have gd:J (∀(S:BA)(V:aA),S.size<=1000->aB N 103 #[O I (wj:Int),L S] V λe w'=>∃aV,e=aC (L aV)/\aV=dgW wj S.data.toList/\M D V w'):=λS V hs=>(hD wj S V Hf hw (by omega)).mono (by rintro _ _⟨rfl,h⟩;exact⟨_,rfl,rfl,h⟩);have HFT:J (∀(p q:BA)(V:aA),p.size=wj->q.size=wj->aB N 168 #[O I (b:Int),L p,L q] V λe w'=>e=aC (L ⟨(78::(beL b 2 2++(p.data.toList++q.data.toList))).toArray⟩)/\M D V w'):=λp q V hp hq=>by
    have yy:p.data.toList.length=wj:=(by rw[QA];exact hp);have hq':q.data.toList.length=wj:=(by rw[QA];exact hq);have:=Jea b p.data.toList q.data.toList V (by omega) (by omega) (by omega);simpa using this
   have gK:J (∀s t:List UInt8,Root (dgW wj) (koR (sidL (h0::x::r) b 0)) s->Root (dgW wj) (koR (sidL (h0::x::r) b 1)) t->_):=λs t hs ht=>Jk2 h0 (x::r) b kX yR hs ht;have hlen':r.length<=900000000:=(by omega);have HL:J ((sidL (h0::x::r) b 0).length<r.length+2/\(sidL (h0::x::r) b 1).length<r.length+2):=⟨s1,s2⟩
   have n0:¬((r.length+2:Nat):Int)=0:=(by omega);have n1:¬((r.length+2:Nat):Int)=1:=(by omega);go_enter func106,ntmps106;go_wp2_with (first
    | (go_at_call 166;refine(HF _ (Te _ _)).mono ?_;rintro _ w1⟨rfl,(H3:J _)⟩)
    | (go_at_call_of 167 (Value.int I 0);refine(rz _ H3).mono ?_;rintro _ w2⟨va,rfl,hoa,H7⟩;have H4:J _:=H3.trans H7 (λ_ h=>aM h);have HRA:J _:=hoa.at)
    | (go_at_call_of 167 (Value.int I 1);refine(ki _ H8).mono ?_;rintro _ w4⟨vb,rfl,hob,Ho⟩;have He:J _:=H8.trans Ho (λ_ h=>aM h);have sZ:J _:=hob.at)
    | (go_at_call_of 106 va;refine(cW 0 _ va HL.1 HRA).mono ?_;rintro _ w3⟨p,rfl,(HP:J _),Hm⟩;have H8:J _:=H4.trans Hm (λ_ h=>aM h))
    | (go_at_call_of 106 vb;refine(cW 1 _ vb HL.2 sZ).mono ?_;rintro _ w5⟨q,rfl,(HQ:J _),kI⟩;have Hu:J _:=He.trans kI (λ_ h=>aM h))
    | (go_at_call_of 103 (lW p);refine(gd p _ HP.2).mono ?_;rintro _ w6⟨dp,rfl,(xy:J _),gV⟩;have k8:J _:=Hu.trans gV (λ_ h=>aM h))
    | (go_at_call_of 103 (lW q);refine(gd q _ HQ.2).mono ?_;rintro _ w7⟨dq,rfl,(HDQ:J _),ko⟩;have gG:J _:=k8.trans ko (λ_ h=>aM h))
    | (go_at_call 168;refine(HFT _ _ _ (by rw[xy.o];exact Jj wj hw _) (by rw[HDQ.o];exact Jj wj hw _)).mono ?_;rintro _ w8⟨rfl,jV⟩;have kw:J _:=gG.trans jV (λ_ h=>aM h)))
   go_ret;exact⟨_,rfl,by have:=gK _ _ HP.1 HQ.1;rw[<-xy.o,<-HDQ.o]at this;exact this,kw⟩

abbrev Lv:=(BA×BA×BA)×Sl
def lvC(x:Lv):List aG:=[L x.1.1,L x.1.2.1,L x.1.2.2,R x.2.1 x.2.2.1 x.2.2.2]
def lvA(l:List Lv):List aG:=l.flatMap lvC
theorem Jou(l:List Lv):∀u∈lvA l,u.oneCell'=true:=by
 intro u hu;simp only[lvA,List.mem_flatMap,lvC]at hu;obtain⟨x,_,hu⟩:=hu;simp only[List.mem_cons,QD,or_false]at hu
 rcases hu with rfl|rfl|rfl|rfl<;>rfl
theorem JiI(l l':List Lv):lvA (l++l')=lvA l++lvA l':=by simp[lvA]
theorem Jot(l:List Lv):∀(i:Nat)(h:i<l.length),(lvA l)[i*4]? =Z (L l[i].1.1)/\(lvA l)[i*4+1]? =Z (L l[i].1.2.1)/\(lvA l)[i*4+2]? =Z (L l[i].1.2.2)/\(lvA l)[i*4+3]? =Z (R l[i].2.1 l[i].2.2.1 l[i].2.2.2):=by
 induction l with
 | nil=>intro i h;simp at h
 | cons x r ih=>
  intro i h
  cases i with
  | zero=>simp[lvA,lvC]
  | succ i=>
   have e:∀j,(lvA (x::r))[(i+1)*4+j]? =(lvA r)[i*4+j]? :=by
    intro j;show (lvC x++lvA r)[(i+1)*4+j]? =_;rw[Qz (by simp[lvC];omega)]
    congr 1;simp[lvC];omega
   refine⟨?_,?_,?_,?_⟩
   ·have:=e 0;rw[lN,lN]at this;rw[this];simpa using (ih i (by simpa using h)).1
   ·rw[e 1];simpa using (ih i (by simpa using h)).2.1
   ·rw[e 2];simpa using (ih i (by simpa using h)).2.2.1
   ·rw[e 3];simpa using (ih i (by simpa using h)).2.2.2
def Jls(w:aA)(g k:Nat)(x:Lv):Prop:=w.cell? ⟨g,k,Y⟩=Z (L x.1.1)/\w.cell? ⟨g,k+1,Y⟩=Z (L x.1.2.1)/\w.cell? ⟨g,k+2,Y⟩=Z (L x.1.2.2)/\w.cell? ⟨g,k+3,Y⟩=Z (R x.2.1 x.2.2.1 x.2.2.2)
def Zr(base:Nat)(w:aA)(v:aG)(l:List Lv):Prop:=w.ownsRow base 205 4 v l.length (lvA l)
theorem Zr.own{l:List Lv}(h:Zr base w v l):∀k,v.ownBlock=Z k->base<=k/\k<w.heap.size:=by
 obtain⟨_,⟨rfl,h0⟩|⟨g,cap,cur,rfl,hb,hZ,_⟩⟩:=h
 ·intro k hk;cases hk
 ·intro k hk;cases hk;exact⟨hb,(Jb hZ)⟩
theorem Zr.tch{l:List Lv}(h:Zr base w v l)(k:M S w w')(hs:∀j,v.ownBlock=Z j->¬S j):Zr base w' v l:=by
 obtain⟨h1,⟨rfl,h0⟩|⟨g,cap,cur,rfl,hb,hZ,h2⟩⟩:=h
 ·exact⟨h1,aM ⟨rfl,h0⟩⟩
 ·exact⟨h1,aN ⟨g,cap,cur,rfl,hb,(k.block g (Jb hZ) (hs g rfl)).trans hZ,h2⟩⟩
theorem Zr.at{l:List Lv}(h:Zr base w v l)(hl:l ≠ []):∃g cap,v=R (Z ⟨g,0,Y⟩) l.length cap/\g<w.heap.size/\∀i (hi:i<l.length),Jls w g (i*4) l[i]:=by
 obtain⟨_,⟨rfl,h0⟩|⟨g,cap,cur,rfl,_,hZ,_,_,Hi,kK⟩⟩:=h
 ·exact absurd (QP h0) hl
 ·refine⟨g,cap,rfl,(Jb hZ),λi hi=>?_⟩;obtain⟨e0,e1,e2,e3⟩:=Jot l i hi;have hc:∀j u,(lvA l)[j]? =Z u->w.cell? ⟨g,j,Y⟩=Z u:=by
   intro j u hu;rw[<-kK]at hu;have hj:=(Qo.1 hu).1;rw[List.getElem?_take_of_lt (by rw[QB]at hj;omega)]at hu;rw[Ja hZ,<-Array.getElem?_toList];exact hu
  exact⟨hc _ _ e0,hc _ _ e1,hc _ _ e2,hc _ _ e3⟩
theorem Jn5:(prog.info? 205).map (λi=>(i.zero,i.size,i.bytes))=Z (Z (aH #[L ⟨#[]⟩,L ⟨#[]⟩,L ⟨#[]⟩,R Y 0 0]),4,72):=by kernel_rfl
theorem Jes{l:List Lv}(h:Zr base w v l)(k:Nat)(x:Lv)(hx:Jls w k 0 x)(ty:TypeId)(hb:l.length<=1000000000)(Ha:base<=w.heap.size):
  ∃v' w',(Builtin.append_ #[206,206] ty #[v,R (Z ⟨k,0,Y⟩) 1 1]).run N w=.ok v' w'/\Zr base w' v' (l++[x])/\w.grownBy w' v.ownBlock/\(v'.ownBlock=v.ownBlock\/v'.ownBlock=Z w.heap.size):=by
 obtain⟨i,hi,hp⟩:=lM.1 Jn5;simp only[Qw]at hp;obtain⟨hz,Hi,gJ⟩:=hp;obtain⟨v',w',hr,h2,h3,_,h4⟩:=run_append_own_at (P:=N) w base 206 ty 205 i _ 4 72 underlying206 hi hz Hi gJ rfl (by omega) v l.length (lvA l) h ⟨k,0,Y⟩ 1 1 (lvA [x]) rfl (λj u hu=>by
  rw[Addr.add_lit,lZ];obtain⟨c0,c1,c2,c3⟩:=hx
  match j with
  | 0=>simp only[lvA,lvC,QG,lJ,QC,lD,Qh]at hu;rw[<-hu];exact c0
  | 1=>simp only[lvA,lvC,QG,lJ,QC,lD,lE,Qh]at hu;rw[<-hu];exact c1
  | 2=>simp only[lvA,lvC,QG,lJ,QC,lD,lE,Qh]at hu;rw[<-hu];exact c2
  | 3=>simp only[lvA,lvC,QG,lJ,QC,lD,lE,Qh]at hu;rw[<-hu];exact c3
  | j+4=>simp[lvA,lvC]at hu) (Jou _) (by simp only[maxLen];omega) (by omega) Ha
 exact⟨v',w',hr,by unfold Zr;rw[Qe,JiI];exact h2,h3,h4⟩
def lvH(i:Nat)(x:Lv):HdL:=(i,x.1.1,x.1.2.1,x.1.2.2)
structure RfAt(wj base:Nat)(w:aA)(rb:Nat)(G:Nat->Prop)(ch:Ch)(vL:aG)(lv:List Lv)(by':BA):Prop where
 row:w.heap[rb]? =Z (T #[O I (wj:Int),vL,O I 0,L by'] 208)
 lvs:Zr base w vL lv
 rbG:G rb
 vG:∀j,vL.ownBlock=Z j->G j
 cG:∀x∈lv,∀j,(lR x.2.1 x.2.2.1 x.2.2.2).ownBlock=Z j->G j
 own:∀j,G j->base<=j/\j<w.heap.size
 len:lv.length=ch.length/\1<=ch.length
 hdr:∀(i:Nat) x c,lv[i]? =Z x->ch[i]? =Z c->HdOk wj (lvH i x)/\c.1=⟨(Hn (lvH i x)).toArray⟩
 coins:∀(i:Nat) x c,lv[i]? =Z x->ch[i]? =Z c->∃l:List H9,RhAt w (R x.2.1 x.2.2.1 x.2.2.2) l/\Book wj c.2 l/\l.length<=9*(i+1)
 log:by'.size<=1000*ch.length
theorem RfAt.tch{rb:Nat}{G:Nat->Prop}{ch:Ch}{vL:aG}{lv:List Lv}{b:BA}(h:RfAt wj base w rb G ch vL lv b)(k:M S w w')(hs:∀j,S j->¬G j):RfAt wj base w' rb G ch vL lv b:=
 ⟨(k.block _ (Jb h.row) (λe=>hs _ e h.rbG)).trans h.row,h.lvs.tch k (λj hj e=>hs j e (h.vG j hj)),h.rbG,h.vG,h.cG,λj hj=>⟨(h.own j hj).1,Qk (h.own j hj).2 k.size⟩,h.len,h.hdr,λi x c h1 h2=>by
  obtain⟨l,p1,p2,p3⟩:=h.coins i x c h1 h2;exact⟨l,p1.tch k (λj hj e=>hs j e (h.cG x (QT h1) j hj)),p2,p3⟩,h.log⟩

theorem XM(s:List UInt8)(i a b:Nat):(s.drop i).take a++(s.drop (i+a)).take b=(s.drop i).take (a+b):=by
 rw[List.take_add,List.drop_drop]
theorem JaY(s:List UInt8)(i:Nat)(h:i<s.length):beL (Js s i) 1 1=(s.drop i).take 1:=by
 rw[<-Jbh s i h];exact ZB _ 1 (by rw[QB,List.length_drop];omega)
theorem Jgf(s:List UInt8)(i:Nat)(h:i+9<=s.length):outB (outP s i)=(s.drop i).take 9:=by
 unfold outB outP;rw[ZB _ 8 (by rw[QB,List.length_drop];omega),JaY s (i+8) (by omega)];exact XM s i 8 1
theorem Jd3(s:List UInt8):∀(n i:Nat),i+9*n<=s.length->(YV s i n).flatMap outB=(s.drop i).take (9*n)
 | 0,i,_=>by simp[YV]
 | n+1,i,h=>by
  rw[Jd2,QG,Jgf s i (by omega),Jd3 s n (i+9) (by omega),XM,show 9+9*n=9*(n+1) by omega]
theorem Jgh(s:List UInt8)(i n:Nat):(YV s i n).length=n:=by simp[YV]
theorem JeY{x:List (Nat×Nat)×Nat}(h:Xc s i=Z x):Jy x.1=(s.drop i).take (x.2-i):=by
 unfold Xc at h
 split at h
 ·rename_i hc
  cases h
  simp only;unfold Jy;rw[Jgh,JaY s i hc.1,Jd3 s _ (i+1) hc.2.2,XM,show i+1+9*Js s i-i=1+9*Js s i by omega]
 ·cases h
theorem JnW(wj:Nat)(s:List UInt8)(i:Nat)(h:i+(wj+1)<=s.length):Jc (Jbo wj s i)=(s.drop i).take (wj+1):=by
 unfold Jc Jbo;have hb:Js s (i+wj)<256:=UInt8.toNat_lt _;have hx:JD (Js s (i+wj):Int)=Js s (i+wj):=by unfold JD;omega
 simp only;rw[hx,JaY s (i+wj) (by omega)];exact XM s i wj 1
theorem JcZ(wj:Nat)(s:List UInt8):∀(n i:Nat),i+(wj+1)*n<=s.length->(XW wj s i n).flatMap Jc=(s.drop i).take ((wj+1)*n)
 | 0,i,_=>by simp[XW]
 | n+1,i,h=>by
  have tO:(wj+1)*(n+1)=(wj+1)+(wj+1)*n:=by rw[Nat.mul_add];omega
  rw[JcY,QG,JnW wj s i (by omega),JcZ wj s n (i+(wj+1)) (by omega),XM,tO]
theorem JeR(wj:Nat)(s:List UInt8)(i n:Nat):(XW wj s i n).length=n:=by simp[XW]
theorem Jh6{x:TxL×Nat}(h:Xq wj s i=Z x):txB x.1=(s.drop i).take (x.2-i):=by
 unfold Xq at h
 split at h
 ·rename_i hc;obtain⟨y,hy,rfl⟩:=lM.1 h;have h1:=JeY hy;have h2:=Jd1 hy;simp only;unfold txB JdW;simp only;rw[h1,JeR,JaY s i hc.1,JcZ wj s _ (i+1) hc.2.2.2.1,XM,show i+1+(wj+1)*Js s i=i+(1+(wj+1)*Js s i) by omega,XM]
  congr 1
  omega
 ·cases h
theorem Jcp:∀(n i:Nat){x:List TxL×Nat},Xf wj s n i=Z x->x.1.length=n/\i<=x.2/\x.1.flatMap txB=(s.drop i).take (x.2-i)
 | 0,i,x,h=>by cases h;simp
 | n+1,i,x,h=>by
  simp only[Xf]at h
  cases ht:Xq wj s i with
  | none=>rw[ht]at h;cases h
  | some y=>
   obtain⟨t,j⟩:=y;rw[ht]at h;simp only at h
   cases hr:Xf wj s n j with
   | none=>rw[hr]at h;cases h
   | some z=>
    obtain⟨ts,k⟩:=z;rw[hr]at h
    cases h
    have h1:=Jh6 ht;have h2:=(Jco ht).2;obtain⟨g1,g2,g3⟩:=Jcp (x:=(ts,k)) n j hr;simp only at h1 h2 g1 g2 g3;refine⟨by simp[g1],by show i<=k;omega,?_⟩;simp only;rw[QG,h1,g3];have e:j=i+(j-i):=(by omega);have:=XM s i (j-i) (k-j);rw[<-e]at this;rw[this]
    congr 1
    omega
theorem JgO{ts:List TxL}(h:Yl wj s=Z ts):JL ts=s:=by
 unfold Yl at h
 split at h
 ·rename_i hc
  cases ht:Xf wj s (Js s 0) 1 with
  | none=>rw[ht]at h;cases h
  | some y=>
   obtain⟨us,j⟩:=y;rw[ht]at h;simp only at h
   split at h
   ·rename_i he
    cases h
    obtain⟨g1,g2,g3⟩:=Jcp (x:=(ts,j)) _ _ ht;simp only at g1 g2 g3;unfold JL;rw[g1,g3,JaY s 0 (by omega),he];have:=XM s 0 1 (s.length-1);rw[show (0:Nat)+1=1 from rfl]at this;rw[this,List.drop_zero,QS (by omega)]
   ·cases h
 ·cases h
