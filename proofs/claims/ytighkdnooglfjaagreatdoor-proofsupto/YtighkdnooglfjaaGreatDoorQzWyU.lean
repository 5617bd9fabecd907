import Derived.Test.YtighkdnooglfjaaGreatDoorQzTree5
import Derived.Test.YtighkdnooglfjaaGreatDoorQzLwD
open Go renaming Calls->aB,Value->aG,World->aA
open Go.Ending renaming returned->aC
open Go.IntKind renaming i64->I,u64->aD,u8->aE
open Go.Obj renaming cells->T,cells->lW
open Go.Proofs.Tryz renaming prog->N
open Go.RowKit renaming Hid->J
open Go.Value renaming agg->aH,bool->aL,int->O,nilIface->aK,pointer->X,slice->R,string->L,tuple->aI,int->lM
open Option renaming none->Y,some->Z,map_eq_some_iff->lO
open Go.Act renaming put->lC
open Array renaming getElem?_toList->lS
open Go.Builtin renaming append_->lT
open Int renaming tmod_eq_emod_of_nonneg->lI
open List renaming range->lD,replicate->lE,getLast_cons_cons->lF,getLast_singleton->lG,dropLast_cons_cons->lJ,dropLast_singleton->lK,map_cons->lN,length_range->lR,length->lV,cons_append->lY,map_nil->lZ
open Nat renaming reduceAdd->lX
open Go.Region renaming wanted->lP
open UInt8 renaming toNat_lt->lU
open Go.World renaming frozen?->lH,cell?_setCell_other->lQ
set_option maxRecDepth 100000
set_option maxHeartbeats 4000000
namespace Go.Proofs.YtighkdnooglfjaaGreatDoor
open Tryz
open Go.RowKit Go.Shelf

variable {a:Act}{K:Act->aA->Prop}{ops:Array Oper}{Q:Exit->Act->aA->Prop}{x:KO}{k:Key}{l:List Int}{aY:List VV}{LI LO:List aG}{B base g gt i m n nb:Nat}{c o:Nat->List VV}{f:Nat->Nat}{S:Nat->Prop}{sl:Nat->Sl×Sl}{P:Program}{E:Prop}{s:Stp}{α:Type}{v v' vi vo:aG}{W w w' w3:aA}
attribute [local go_sem] Oper.semAt_some

def Jp{w:aA}{k:Key}(l:List (Ye w k)):List Stp:=l.filterMap λy=>match y.1.2 with | .inl _=>Y | .inr s=>Z s
def JB(v:aG)(m:Bool)(kb:BA)(a o:Nat):Array aG:= #[v,aL m,L kb,O aD (a:Int),O aE (o:Int)]
def WayV(base:Nat)(w:aA)(wy:Wy)(e:Ending):Prop:=∃v,e=aC (aH (JB v wy.2.isSome (wyK wy) (wyO wy).1 (wyO wy).2))/\POwn base w v wy.1
theorem Jky:(prog.info? 366).map (λi=>(i.zero,i.size,i.bytes))=Z (Z (aH #[O I 0,L ⟨#[]⟩]),2,24):=by kernel_rfl
theorem Jdm{o:Oper}{xv:aG}(jd:o.guard=Y)(s x:Operand)(aY:TypeId)(ho:o.op=.call { callee:=.builtin .append,args:= #[s,x],argTypes:= #[aY,aY] })
 (hv:a.eval s=v) (hx:a.eval x=xv) (hr:(lT #[aY,aY] o.type #[v,xv]).run P w=.ok v' w') (hK:K (a.put o.dst v') w'):if lP o (yielded ops a.tmps)=true then Oper.wp P o a w K Q else E:=by
 have hw:lP o (yielded ops a.tmps)=true:=by simp[lP,jd]
 rw[if_pos hw];unfold Oper.wp;simp[execOp,ho,resolve,invoke,builtin,hv,hx,hr,Result.andThen];exact hK
structure WayI(w:aA)(k:Key)(pre:List (Ye w k))(W:aA):Prop where
 below:Below w.heap.size w W
 brs:∀y∈pre,∃s,y.1.2=.inr s
 row:∃v,W.heap[w.heap.size+3]? =Z (T (JB v false ⟨#[]⟩ 0 0) 258)/\POwn w.heap.size W v (Jp pre)
 key:W.heap[w.heap.size+1]? =Z (T #[L ⟨k.toArray⟩] 9)
 cap:W.heap[w.heap.size+5]? =Z (T #[L ⟨k.toArray⟩] 9)
 res:W.heap[w.heap.size+2]? =Z (T (JB (R Y 0 0) false ⟨#[]⟩ 0 0) 258)
structure WayX(w:aA)(k:Key)(pre:List (Ye w k))(W:aA):Prop where
 below:Below w.heap.size w W
 row:∃q y v x,pre=q++[y]/\y.1.2=.inl x/\(∀y∈q,∃s,y.1.2=.inr s)/\W.heap[w.heap.size+3]? =Z (T (JB v true ⟨x.1.toArray⟩ x.2.1 x.2.2) 258)/\POwn w.heap.size W v (Jp q)
 res:W.heap[w.heap.size+2]? =Z (T (JB (R Y 0 0) false ⟨#[]⟩ 0 0) 258)
theorem WayI.own(hB:w.heap.size+4<=B):OwnFrom B (WayI w k):=by
 intro s W W' row h hg hr;have kL:∀r,row=Z r->∃o:Obj,W.heap[r]? =Z o/\o.isCells=false:=λr e=>(hr r e).2;obtain⟨v,h1,h2⟩:=h.row;exact⟨ownFrom_below (β:=List (Ye w k)) (w₀:=w) (n₀:=w.heap.size) (B:=B) (Ql _) (by omega) s W W' row h.below hg hr,h.brs,⟨v,Ju h1 hg kL,h2.kept hg kL⟩,Ju h.key hg kL,Ju h.cap hg kL,Ju h.res hg kL⟩
theorem WayX.own(hB:w.heap.size+4<=B):OwnFrom B (WayX w k):=by
 intro s W W' row h hg hr;have kL:∀r,row=Z r->∃o:Obj,W.heap[r]? =Z o/\o.isCells=false:=λr e=>(hr r e).2;obtain⟨q,y,v,x,e1,e2,e3,h1,h2⟩:=h.row;exact⟨ownFrom_below (β:=List (Ye w k)) (w₀:=w) (n₀:=w.heap.size) (B:=B) (Ql _) (by omega) s W W' row h.below hg hr,⟨q,y,v,x,e1,e2,e3,Ju h1 hg kL,h2.kept hg kL⟩,Ju h.res hg kL⟩
theorem JeF(l m:List (Ye w k)):Jp (l++m)=Jp l++Jp m:=by simp[Jp]
theorem Jh0(l:List (Ye w k)):(Jp l).length<=l.length:=List.length_filterMap_le _ _
theorem Jh1{y:Ye w k}(h:y.1.2=.inr s):Jp [y]=[s]:=by simp[Jp,h]
theorem WayI.add{pre:List (Ye w k)}{y:Ye w k}(HI:WayI w k pre W)(jJ:POwn w.heap.size W v (Jp pre))(hT:M (λj=>Z j=v.ownBlock) W w3)(jG:POwn w.heap.size w3 v' (Jp pre++[s]))(hZ:w3.heap[w.heap.size+3]? =Z (T (JB v false ⟨#[]⟩ 0 0) 258))(hy:y.1.2=.inr s):
  KeepsOthers W (w3.setCell ⟨w.heap.size+3,0,Y⟩ v')/\JgE w.heap.size (w.heap.size+5) W (w3.setCell ⟨w.heap.size+3,0,Y⟩ v')/\WayI w k (pre++[y]) (w3.setCell ⟨w.heap.size+3,0,Y⟩ v'):=by
 have jE:w3.setCell ⟨w.heap.size+3,0,Y⟩ v'=w3.setRow (w.heap.size+3) (JB v' false ⟨#[]⟩ 0 0):=Qj w3 (w.heap.size+3) 0 _ _ (0,0) v' hZ;rw[jE];obtain⟨v0,sg,_⟩:=HI.row;have qN:M (λj=>Z j=v.ownBlock\/j=w.heap.size+3) W (w3.setRow (w.heap.size+3) (JB v' false ⟨#[]⟩ 0 0)):=(hT.mono (λ_ h=>.inl (.inl h))).trans (Ts _ _ _) (λ_ h=>.inl (.inr h));have kZ:∀{j:Nat} {cs:Array aG} {aY:TypeId},aY ≠ 366->j ≠ w.heap.size+3->W.heap[j]? =Z (T cs aY)->_:=λHd hj h=>(qN.block _ (Jb h) (λe=>by
  rcases e with e|e
  ·obtain⟨_,cs,m,hc⟩:=jJ.own _ e.symm;rw[h]at hc;simp only[Qh,lW.injEq]at hc;exact Hd hc.2.1
  ·exact hj e)).trans h
 have hz:=HI.below.size;have gI:∀j,(Z j=v.ownBlock\/j=w.heap.size+3)->w.heap.size<=j:=λj e=>by
  rcases e with e|e
  ·exact(jJ.own _ e.symm).1
  ·omega
 have hB:=qN.below hz gI;have yQ:=kZ (by decide) (by omega) HI.cap;refine⟨Jbd qN (λj e=>?_),⟨hB,λu hu=>?_⟩,HI.below.trans hB,?_,⟨v',Qi _ _ _ _ _ _ hZ,?_⟩,kZ (by decide) (by omega) HI.key,yQ,kZ (by decide) (by omega) HI.res⟩
 ·rcases e with e|e
  ·obtain⟨_,cs,m,hc⟩:=jJ.own _ e.symm;exact⟨cs,_,m,hc⟩
  ·exact⟨_,_,_,by rw[e];exact sg⟩
 ·rw[Ja HI.cap]at hu;rw[Ja yQ];exact hu
 ·intro z hz
  rcases QE.1 hz with hz|hz
  ·exact HI.brs z hz
  ·simp only[Qt]at hz;exact⟨s,by rw[hz];exact hy⟩
 ·rw[JeF,Jh1 hy];refine jG.tch (Ts _ _ _) (λj hj e=>?_);obtain⟨_,cs,m,hc⟩:=jG.own _ hj;rw[e,hZ]at hc;simp only[Qh,lW.injEq]at hc;exact absurd hc.2.1 (by decide)
theorem WayI.leaf{pre:List (Ye w k)}{y:Ye w k}(HI:WayI w k pre W)(hZ:W.heap[w.heap.size+3]? =Z (T (JB v false ⟨#[]⟩ 0 0) 258))(jJ:POwn w.heap.size W v (Jp pre))(hy:y.1.2=.inl x)(n:Nat):
  KeepsOthers W ((W.drewN n).setRow (w.heap.size+3) (JB v true ⟨x.1.toArray⟩ x.2.1 x.2.2))/\JgE w.heap.size (w.heap.size+5) W ((W.drewN n).setRow (w.heap.size+3) (JB v true ⟨x.1.toArray⟩ x.2.1 x.2.2))/\WayX w k (pre++[y]) ((W.drewN n).setRow (w.heap.size+3) (JB v true ⟨x.1.toArray⟩ x.2.1 x.2.2)):=by
 have qN:M (λj=>j=w.heap.size+3) W ((W.drewN n).setRow (w.heap.size+3) (JB v true ⟨x.1.toArray⟩ x.2.1 x.2.2)):=(Td _ W n).trans (Ts _ _ _) (λ_ h=>.inl h);have hz:=HI.below.size;have hB:=qN.below hz (λj e=>by omega);have kZ:∀{j:Nat} {o:Obj},j ≠ w.heap.size+3->W.heap[j]? =Z o->_:=λhj h=>(qN.block _ (Jb h) hj).trans h;have yQ:=kZ (by omega) HI.cap;refine⟨Jbd qN (λj e=>by subst e;exact⟨_,_,_,hZ⟩),⟨hB,λu hu=>?_⟩,HI.below.trans hB,⟨pre,y,v,x,rfl,hy,HI.brs,Qi _ _ _ _ _ _ (show (W.drewN n).heap[w.heap.size+3]? =_ from hZ),?_⟩,kZ (by omega) HI.res⟩
 ·rw[Ja HI.cap]at hu;rw[Ja yQ];exact hu
 ·refine jJ.tch qN (λj hj e=>?_);obtain⟨_,cs,m,hc⟩:=jJ.own _ hj;rw[e,hZ]at hc;simp only[Qh,lW.injEq]at hc;exact absurd hc.2.1 (by decide)
theorem JjZ{β:Type}{x x':α}:∀(Q A:List β)(aW:List (α ⊕ β)),Q.map Sum.inr++(Sum.inl x::aW)=A.map Sum.inr++[Sum.inl x']->Q=A/\x=x'
 | [],[],aW,h=>by simp at h;exact⟨rfl,h.1⟩
 | [],a::A,aW,h=>by simp at h
 | q::Q,[],aW,h=>by simp at h
 | q::Q,a::A,aW,h=>by
  simp only[lN,lY,QH,Sum.inr.injEq]at h;obtain⟨h1,h2⟩:=JjZ Q A aW h.2;exact⟨by rw[h.1,h1],h2⟩
theorem Jdd:∀(q:List (Ye w k)),(∀z∈q,∃s,z.1.2=.inr s)->q.map (·.1.2)=(Jp q).map Sum.inr
 | [],_=>rfl
 | z::q,h=>by
  obtain⟨s,hs⟩:=h z (by simp);have ih:=Jdd q (λy hy=>h y (by simp[hy]));rw[show Jp (z::q)=s::Jp q by simp[Jp,hs],lN,lN,ih,hs]
theorem Jo1{ds pre q:List (Ye w k)}{y:Ye w k}{wy:Wy}(hp:pre <+:ds)(e1:pre=q++[y])(e2:y.1.2=.inl x)(e3:∀z∈q,∃s,z.1.2=.inr s)
 (h:(ds=[]/\wy=([],Y))\/ds.map (·.1.2)=wy.1.map .inr++(wy.2.toList.map .inl)/\wy.2 ≠ Y):wy=(Jp q,Z x):=by
 obtain⟨r,hr⟩:=hp
 rcases h with⟨h,_⟩|⟨h,hn⟩
 ·rw[h,e1]at hr;simp at hr
 ·obtain⟨A,e⟩:=wy
  cases e with
  | none=>exact absurd rfl hn
  | some x'=>
   rw[<-hr,e1,List.map_append,List.map_append,Jdd q e3]at h;simp only[lN,lZ,e2,Qs,lY,List.nil_append,Option.toList_some]at h;obtain⟨h1,h2⟩:=JjZ _ _ _ h;rw[h1,h2]
theorem Jic(wj:Int)(q:Option Nat)(k:Key)(jg:1<=k.length)(kt:k.length<=1000000)(w:aA)(ds:List (Ye w k))(hdl:ds.length<=1000000)(hL:Way w.heap.size k w q (ds.map (·.1.1)))(wy:Wy)(Hd:ds=[]↔q=Y)(uK:(ds=[]/\wy=([],Y))\/ds.map (·.1.2)=wy.1.map .inr++(wy.2.toList.map .inl)/\wy.2 ≠ Y):
  CallsIn Fence.wide 5 N 147 #[aH #[O I wj,Jm q],L ⟨k.toArray⟩] w λe W'=>WayV w.heap.size W' wy e/\Below w.heap.size w W':=by
 have h1:1<=5:=by omega
 have xH:Fence.wide.round=Y:=rfl;have HL:J _:=hL;have xw:J _:=Hd;have zq:J _:=uK;clear hL Hd uK;obtain⟨rv,Hv⟩:∃rv,rv=(q.map λn=>(⟨n,0,Y⟩:Addr)):=⟨_,rfl⟩
 have jY:J (Jm q=X rv):=by rw[Hv];rfl
 rw[jY.o];clear Hv;refine callsIn_of_wp_marks func147 rfl trivial ?_ xH;simp only[ntmps147,List.size_toArray,Qp,Qv,lX,Nat.reduceSub,Array.replicate_succ,Array.replicate_zero,List.push_toArray,List.append_toArray,List.nil_append,lY];gi_wp2;refine⟨trivial,(callsIn_wide.2 (callsIn_wide.1 (JjB _ _ _ _))).mono ?_⟩;rintro _ _⟨rfl,rfl⟩;gi_wp2;obtain⟨WD,jI⟩:∃WD,WD=(((((w.alloc (T #[O I wj,X rv] 146)).alloc (T #[L ⟨k.toArray⟩] 9)).alloc (T #[R Y 0 0,aL false,L ⟨#[]⟩,O aD 0,O aE 0] 258)).alloc (T #[R Y 0 0,aL false,L ⟨#[]⟩,O aD 0,O aE 0] 258)).alloc (T #[O I wj,X rv] 146)).alloc (T #[L ⟨k.toArray⟩] 9):=⟨_,rfl⟩
 rw[<-jI];have qF:Below w.heap.size w WD:=by rw[jI];exact((((((Below.refl _ w).alloc (Ql _) _).alloc (by simp) _).alloc (by simp;omega) _).alloc (by simp;omega) _).alloc (by simp;omega) _).alloc (by simp;omega) _
 have hz:WD.heap.size=w.heap.size+6:=by rw[jI];simp
 have gq:∀(V:aA)(o:Obj)(j:Nat)(x:Obj),V.heap[j]? =Z x->_:=λV o j x h=>(Below.heap_alloc V o j (Jb h)).trans h;have jn:∀(V:aA)(o:Obj)(j:Nat),V.heap.size=j->(V.alloc o).heap[j]? =Z o:=λV o j h=>by subst h;exact Qf V o
 have r1:WD.heap[w.heap.size+1]? =Z (T #[L ⟨k.toArray⟩] 9):=by rw[jI];exact gq _ _ _ _ (gq _ _ _ _ (gq _ _ _ _ (gq _ _ _ _ (jn _ _ _ (by simp)))))
 have r2:WD.heap[w.heap.size+2]? =Z (T #[R Y 0 0,aL false,L ⟨#[]⟩,O aD 0,O aE 0] 258):=by rw[jI];exact gq _ _ _ _ (gq _ _ _ _ (gq _ _ _ _ (jn _ _ _ (by simp))))
 have r3:WD.heap[w.heap.size+3]? =Z (T #[R Y 0 0,aL false,L ⟨#[]⟩,O aD 0,O aE 0] 258):=by rw[jI];exact gq _ _ _ _ (gq _ _ _ _ (jn _ _ _ (by simp)))
 have r4:WD.heap[w.heap.size+4]? =Z (T #[O I wj,X rv] 146):=by rw[jI];exact gq _ _ _ _ (jn _ _ _ (by simp))
 have r5:WD.heap[w.heap.size+5]? =Z (T #[L ⟨k.toArray⟩] 9):=by rw[jI];exact jn _ _ _ (by simp)
 have rK:WayI w k [] WD:=⟨qF,λy hy=>(by cases hy),⟨R Y 0 0,r3,POwn.nil _ _⟩,r1,r5,r2⟩
 clear gq jn;refine wpIn_rangeFunc_ownF xH h1 (gf:=295) (lb:= #[X (Z ⟨w.heap.size+1+1+1+1,0,Y⟩),X (Z ⟨w.heap.size+1+1+1+1+1,0,Y⟩)]) rfl trivial (enters_of func295 (by kernel_rfl) rfl)
  (Jf0 4 (by omega) (w.heap.size+1+1+1+1) (w.heap.size+1+1+1+1+1) w.heap.size k jg kt q w ds WD (by omega) (by omega) (by omega) (by rw[jY.o];exact Ja r4) (Ja r5) (Way.below qF HL)) (λh k=>⟨h.1.trans k.1,λv hv=>k.2 v (h.2 v hv)⟩)
  (λW l o o' hl ho hc yT=>⟨belowK_b (w:=w) (Ql _) W l o o' (by omega) ho hc yT,λv hv=>cell_kept hv (grownBy_putObj' _ l o') (λr e=>by cases e;exact⟨o,ho,hc⟩)⟩) (Below.refl _ _) (λ_=>rfl)
  (WayI w k) (λc pre W=>c=.exit 0/\WayX w k pre W) (WayI.own (by omega)) (λc=>λs W W' row h hg hr=>⟨h.1,WayX.own (by omega) s W W' row h.2 hg hr⟩) rK
  (λx=>{ tmps:= #[aH #[O I wj,X rv],L ⟨k.toArray⟩,X (Z ⟨w.heap.size,0,Y⟩),X (Z ⟨w.heap.size+1,0,Y⟩),X (Z ⟨w.heap.size+1+1,0,Y⟩),X (Z ⟨w.heap.size+1+1+1,0,Y⟩),X (Z ⟨x.1.1,0,Y⟩),aH #[O I wj,X rv],L ⟨k.toArray⟩,.func (.func 295) #[] #[X (Z ⟨w.heap.size+1+1+1+1,0,Y⟩),X (Z ⟨w.heap.size+1+1+1+1+1,0,Y⟩)],X (Z ⟨x.1.1,0,Y⟩),undef,undef,undef,undef,undef,undef,undef,undef,undef,undef,undef,undef,undef,undef,undef,undef,undef,undef,undef,undef,undef,undef,undef,undef,undef,undef,undef,undef,undef,undef],defers:=[] }) ?assign ?body ?done ?stop
 case assign=>intro l x W K hK;gi_wp2;exact hK
 case body=>
  clear r1 r2 r3 r4 r5 qF rK HL xw zq;rintro l pre y W hI jw;obtain⟨x,dsc,hyx⟩:∃x dsc,y.1=(x,dsc):=⟨_,_,rfl⟩
  have hx:=y.2;rw[hyx]at hx;have rY:y.1.1=x:=by rw[hyx]
  rw[rY];clear rY;obtain⟨v,hZ,jJ⟩:=hI.row;have c0:=rows hZ
  cases dsc with
  | inl kd=>
   obtain⟨k',oa,oo⟩:=kd;obtain⟨dg,hlr⟩:=hx;have yw:=(Jb hlr)
   have sN:=(hI.below.block x yw).trans hlr;have qm:=JaR x dg k' (oa,oo) W sN;have HI:J _:=hI;have kp:J _:=hZ;have xU:J _:=jJ;have dF:J (x ≠ w.heap.size+1+1+1):=(by omega:x ≠ w.heap.size+1+1+1)
   have s0:(λ(aX:aA)=>aX.cell? ⟨x,1,Y⟩=Z (L ⟨k'.toArray⟩)/\aX.cell? ⟨x,2,Y⟩=Z (O aD (oa:Int))/\aX.cell? ⟨x,3,Y⟩=Z (O aE (oo:Int))) W.drew:=⟨Ja sN,Ja sN,Ja sN⟩
   obtain⟨-,c1⟩:=rows (show W.drew.heap[w.heap.size+3]? =_ from hZ);have f1:W.drew.frozen? ⟨w.heap.size+1+1+1,1,Y⟩=false:=Qg _ _ _ _ _ (show W.drew.heap[w.heap.size+3]? =_ from hZ);clear hI hZ jJ sN hlr c0 yw;generalize hKB':(⟨k'.toArray⟩:BA)=kb' at *;gi_wp2;refine⟨trivial,(CallsIn.inRound l (callsIn_wide.2 qm)).mono ?_⟩;rintro _ aX⟨rfl,hX⟩;rw[hX];clear qm hX aX;gi_wp2;have hmx:prog.follows .mixedOrders=true:=(by kernel_rfl);refine YX (S:=(λ(aX:aA)=>aX.cell? ⟨x,1,Y⟩=Z (L kb')/\aX.cell? ⟨x,2,Y⟩=Z (O aD (oa:Int))/\aX.cell? ⟨x,3,Y⟩=Z (O aE (oo:Int)))) 17 (by simp) (by kernel_rfl) (by kernel_rfl) (by simp) ?hq s0 (λhHeld l0 o0 yl iR=>?_)
   case hq=>rintro⟨_,_,h⟩;exact h
   simp only[List.dropLast,lF,lG]at yl iR;subst yl;subst iR;refine tkL 0 ?_;simp only[lC,Qa,Qb,Qc];refine tkL 1 ?_;simp only[lC,Qa,Qb,Qc];refine tkL 2 ?_;simp only[lC,Qa,Qb,Qc];refine tkL 3 ?_;simp only[lC,Qa,Qb,Qc];refine tkL 4 ?_;simp only[lC,Qa,Qb,Qc];refine tkL 5 ?_;simp only[lC,Qa,Qb,Qc];refine tkL 6 ?_;simp only[lC,Qa,Qb,Qc];refine tkL 7 ?_;simp only[lC,Qa,Qb,Qc];refine tkL 8 ?_;simp only[lC,Qa,Qb,Qc];refine tkL 9 ?_;simp only[lC,Qa,Qb,Qc];refine JaI (i:=10) rfl (by kernel_rfl) (λK hK=>?_);go_simp;obtain⟨u0,u1,u2⟩:=s0;have s1:(λ(aX:aA)=>aX.cell? ⟨x,1,Y⟩=Z (L kb')/\aX.cell? ⟨x,2,Y⟩=Z (O aD (oa:Int))/\aX.cell? ⟨x,3,Y⟩=Z (O aE (oo:Int))) (W.drew.setCell ⟨w.heap.size+1+1+1,1,Y⟩ (aL true)):=⟨(lQ _ _ _ _ (by have:=dF.o;simp)).trans u0,(lQ _ _ _ _ (by have:=dF.o;simp)).trans u1,(lQ _ _ _ _ (by have:=dF.o;simp)).trans u2⟩
   refine hK _ _ s1 (λsO=>?_);clear hK K hHeld
   try simp only[lC,Qa,Qb,Qc]
   refine tkL 11 ?_;simp only[lC,Qa,Qb,Qc];have ng:(W.setCell ⟨w.heap.size+1+1+1,1,Y⟩ (aL true)).drew=W.drew.setRow (w.heap.size+3) (JB v true ⟨#[]⟩ 0 0):=(congrArg World.drew (Qj W (w.heap.size+3) 1 _ _ (0,0) (aL true) kp)).trans rfl;rw[ng];have kD:(W.drew.setRow (w.heap.size+3) (JB v true ⟨#[]⟩ 0 0)).heap[w.heap.size+3]? =Z (T (JB v true ⟨#[]⟩ 0 0) 258):=Qi _ _ _ _ _ _ (show W.drew.heap[w.heap.size+3]? =_ from kp);have jl:J _:=kD;have g2:(W.drew.setRow (w.heap.size+3) (JB v true ⟨#[]⟩ 0 0)).cell? ⟨w.heap.size+1+1+1,2,Y⟩=Z (L ⟨#[]⟩):=Ja kD;have g3:(W.drew.setRow (w.heap.size+3) (JB v true ⟨#[]⟩ 0 0)).cell? ⟨w.heap.size+1+1+1,3,Y⟩=Z (O aD 0):=Ja kD;have g4:(W.drew.setRow (w.heap.size+3) (JB v true ⟨#[]⟩ 0 0)).cell? ⟨w.heap.size+1+1+1,4,Y⟩=Z (O aE 0):=Ja kD;have fg:∀j,(W.drew.setRow (w.heap.size+3) (JB v true ⟨#[]⟩ 0 0)).frozen? ⟨w.heap.size+1+1+1,j,Y⟩=false:=λj=>Qg _ _ _ _ _ kD;clear kD ng c1 f1 s1;obtain⟨W1,(mV:J _)⟩:∃W1,W1=W.drew.setRow (w.heap.size+3) (JB v true ⟨#[]⟩ 0 0):=⟨_,rfl⟩
   rw[<-mV]at g2 g3 g4 fg jl ⊢;refine wpAnyH_done (by kernel_rfl) ?_ _;show wpList _ _ _ [_] _ _;go_wp2;gi_wp2;subst hKB';have jE:((W1.setCell ⟨w.heap.size+1+1+1,2,Y⟩ (L ⟨k'.toArray⟩)).setCell ⟨w.heap.size+1+1+1,3,Y⟩ (O aD (oa:Int))).setCell ⟨w.heap.size+1+1+1,4,Y⟩ (O aE (oo:Int))=(W.drewN 1).setRow (w.heap.size+3) (JB v true ⟨k'.toArray⟩ oa oo):=by rw[Qj W1 (w.heap.size+3) 2 _ _ (0,0) _ jl.o,Qj _ (w.heap.size+3) 3 _ _ (0,0) _ (Qi _ _ _ _ _ _ jl.o),QI,Qj _ (w.heap.size+3) 4 _ _ (0,0) _ (Qi _ _ _ _ _ _ jl.o),QI,mV.o,QI];rfl
   have iC:=HI.o.leaf (x:=(k',oa,oo)) kp xU (y:=y) (by rw[hyx]) 1;rw[jE];exact⟨iC.1,rfl,iC.2.2⟩
  | inr s=>
   obtain⟨b,od⟩:=s;obtain⟨dg,nl,nr,cs,hbr,tN,hor,hod⟩:=hx;have vt:=(hI.below.block x (Jb hbr)).trans hbr;have de:=(hI.below.block _ (Jb hor)).trans hor;have qm:=Jbc x dg b nl nr W vt;obtain⟨va,vc,Hx⟩:=jJ.shape;subst Hx;have hzW:=hI.below.size;have HBES:J (∀aX,M D W aX->aB N 225 #[X (Z ⟨x,0,Y⟩),L ⟨k.toArray⟩] aX λe w'=>e=aC (X (Z ⟨if bt k b=0 then nr else nl,0,Y⟩))/\M D W w'):=λaX hT=>(Jin x dg b nl nr k tN kt aX ((hT.block x (Jb vt) (λh=>h)).trans vt)).mono λe w' ⟨h1,m,h2⟩=>⟨h1,by rw[h2];exact hT.trans (Td D aX m) (λ_ h=>.inl h)⟩
   have HC:J (∀aX,M D W aX->aX.cell? ⟨w.heap.size+1+1+1,0,Y⟩=Z (R va (Jp pre).length vc)/\aX.cell? ⟨w.heap.size+1,0,Y⟩=Z (L ⟨k.toArray⟩)/\aX.cell? ⟨x,4,Y⟩=Z (O I (b:Int))/\aX.cell? ⟨if bt k b=0 then nr else nl,0,Y⟩=Z (L od)):=λaX hT=>by
    have hb:∀{j:Nat} {o:Obj},W.heap[j]? =Z o->_:=λh=>(hT.block _ (Jb h) (λh=>h)).trans h;exact⟨Ja (hb hZ),Ja (hb hI.key),Ja (hb vt),(Ja (hb de)).trans hod⟩
   have HI:J _:=hI;have kp:J _:=hZ;have xU:J (POwn w.heap.size W (R va (Jp pre).length vc) (Jp pre)):=jJ;have HZW:J _:=hzW;have sM:J ((Jp pre).length<=1000000):=(by have:=Jh0 pre;exact(by omega:(Jp pre).length<=1000000));have HAPP:J (∀aX,M D W aX->∃va' vc' w3,(lT #[255,255] 255 #[R va (Jp pre).length vc,R (Z ⟨aX.heap.size,0,Y⟩) 1 1]).run N (aX.alloc (T #[O I (b:Int),L od] 366))=.ok (R va' ((Jp pre).length+1) vc') w3/\POwn w.heap.size w3 (R va' ((Jp pre).length+1) vc') (Jp pre++[(b,od)])/\(aX.alloc (T #[O I (b:Int),L od] 366)).grownBy w3 (Value.ownBlock (R va (Jp pre).length vc))/\w3.cell? ⟨w.heap.size+1+1+1,0,Y⟩=Z (R va (Jp pre).length vc)/\w3.frozen? ⟨w.heap.size+1+1+1,0,Y⟩=false/\w3.heap[w.heap.size+3]? =Z (T (JB (R va (Jp pre).length vc) false ⟨#[]⟩ 0 0) 258)/\((w3.cell? ⟨w.heap.size+1,0,Y⟩=Z (L ⟨k.toArray⟩)/\w3.cell? ⟨x,4,Y⟩=Z (O I (b:Int))/\w3.cell? ⟨if bt k b=0 then nr else nl,0,Y⟩=Z (L od))/\w3.heap[w.heap.size+5]? =Z (T #[L ⟨k.toArray⟩] 9)/\M (λj=>Z j=Value.ownBlock (R va (Jp pre).length vc)) W w3)):=λaX hT=>by
    obtain⟨i0,hi,hp⟩:=lO.1 Jky;simp only[Qw]at hp;obtain⟨q9,gQ,jj⟩:=hp;have hTa:M D W (aX.alloc (T #[O I (b:Int),L od] 366)):=hT.trans (Ta D aX _) noE;have hzX:=hTa.size;have iS:=Qf aX (T #[O I (b:Int),L od] 366);obtain⟨v',w3,hr,h2,h3,_⟩:=run_append_own (P:=N) (aX.alloc (T #[O I (b:Int),L od] 366)) w.heap.size 255 255 366 i0 _ 2 24 underlying255 hi q9 gQ jj rfl (by omega) (R va (Jp pre).length vc) (Jp pre).length (stpV (Jp pre)) (xU.o.tch hTa (λ_ _ h=>h)) ⟨aX.heap.size,0,Y⟩ 1 1 (stpV [(b,od)]) rfl (λj u hu=>by
     rw[Addr.add_lit,Nat.zero_add,Ja iS,<-lS];exact hu) (Jnl _) (by have:=sM.o;simp only[maxLen];omega) (by have:=sM.o;omega) (by have:=HZW.o;omega)
    have h2':POwn w.heap.size w3 v' (Jp pre++[(b,od)]):=(by unfold POwn;rw[Qe,show stpV (Jp pre++[(b,od)])=stpV (Jp pre)++stpV [(b,od)] by simp[stpV]];exact h2);obtain⟨a',c',hv'⟩:=h2'.shape;rw[Qe]at hv';have hv':=hv';subst hv';have hTg:=(hTa.mono noE).trans (Tg h3) (λ_ h=>.inl h);have kZ:∀{j:Nat} {cs:Array aG} {aY:TypeId},aY ≠ 366->W.heap[j]? =Z (T cs aY)->_:=λHd h=>(hTg.block _ (Jb h) (λe=>by
     obtain⟨_,cs,m,hc⟩:=xU.o.own _ e.symm;rw[h]at hc;simp only[Qh,lW.injEq]at hc;exact Hd hc.2.1)).trans h
    have e3:=kZ (by decide) kp.o;exact⟨a',c',w3,hr,h2',h3,Ja e3,Qg _ _ _ _ _ e3,e3,⟨Ja (kZ (by decide) HI.key),Ja (kZ (by decide) vt),(Ja (kZ (by decide) de)).trans hod⟩,kZ (by decide) HI.cap,hTg⟩
   have hmx:prog.follows .mixedOrders=true:=(by kernel_rfl);obtain⟨d0,d1,d2,d3⟩:=HC W (Te _ _);clear hI hZ jJ vt de hbr hor c0 hzW;generalize (if bt k b=0 then nr else nl)=oth at *;gi_wp2;refine⟨trivial,(CallsIn.inRound l (callsIn_wide.2 qm)).mono ?_⟩;rintro _ aX⟨rfl,hX⟩;rw[hX];clear qm hX aX;generalize xR:(⟨k.toArray⟩:BA)=kb at *;gi_wp2;have s0:=HC _ (Td D W 1);refine YX (S:=(λ(aX:aA)=>aX.cell? ⟨w.heap.size+1+1+1,0,Y⟩=Z (R va (Jp pre).length vc)/\aX.cell? ⟨w.heap.size+1,0,Y⟩=Z (L kb)/\aX.cell? ⟨x,4,Y⟩=Z (O I (b:Int))/\aX.cell? ⟨oth,0,Y⟩=Z (L od))) 17 (by simp) (by kernel_rfl) (by kernel_rfl) (by simp) ?hq s0 (λhHeld l0 o0 yl iR=>?_)
   case hq=>rintro⟨_,_,h⟩;exact h
   simp only[List.dropLast,lF,lG]at yl iR;subst yl;subst iR;refine tkL 0 ?_;simp only[lC,Qa,Qb,Qc];refine tkL 1 ?_;simp only[lC,Qa,Qb,Qc];refine tkL 2 ?_;simp only[lC,Qa,Qb,Qc];refine tkL 3 ?_;simp only[lC,Qa,Qb,Qc];refine tkL 4 ?_;simp only[lC,Qa,Qb,Qc];refine tkL 5 ?_;simp only[lC,Qa,Qb,Qc];refine tkL 6 ?_;simp only[lC,Qa,Qb,Qc];refine tkL 7 ?_;simp only[lC,Qa,Qb,Qc];refine JaI (i:=8) rfl (by kernel_rfl) (λK hK=>?_);go_simp;refine(HBES _ (Td D _ 1)).mono ?_;rintro _ W2⟨rfl,jr⟩;have s2:=HC _ jr;refine hK _ _ s2 (λsO=>?_);clear hK K hHeld
   try simp only[lC,Qa,Qb,Qc]
   refine tkL 9 ?_;simp only[lC,Qa,Qb,Qc];refine tkL 10 ?_;simp only[lC,Qa,Qb,Qc];refine tkL 11 ?_;simp only[lC,Qa,Qb,Qc];refine tkL 12 ?_;simp only[lC,Qa,Qb,Qc];refine JaI (i:=13) rfl (by kernel_rfl) (λK hK=>?_);go_simp;have s3:(λ(aX:aA)=>aX.cell? ⟨w.heap.size+1+1+1,0,Y⟩=Z (R va (Jp pre).length vc)/\aX.cell? ⟨w.heap.size+1,0,Y⟩=Z (L kb)/\aX.cell? ⟨x,4,Y⟩=Z (O I (b:Int))/\aX.cell? ⟨oth,0,Y⟩=Z (L od)) (W2.alloc (T #[O I (b:Int),L od] 366)):=HC _ (jr.trans (Ta D W2 _) noE);refine hK _ _ s3 (λdh=>?_);clear hK K sO
   try simp only[lC,Qa,Qb,Qc]
   obtain⟨va',vc',w3,Hy,kM,xt,g0,g1,g2,gk,g5,hTw⟩:=HAPP W2 jr;refine JaI (i:=14) rfl (by kernel_rfl) (λK hK=>?_);refine Jdm rfl _ _ 255 rfl rfl rfl Hy ?_;have s4:(λ(aX:aA)=>aX.cell? ⟨w.heap.size+1+1+1,0,Y⟩=Z (R va (Jp pre).length vc)/\aX.cell? ⟨w.heap.size+1,0,Y⟩=Z (L kb)/\aX.cell? ⟨x,4,Y⟩=Z (O I (b:Int))/\aX.cell? ⟨oth,0,Y⟩=Z (L od)) w3:=⟨g0,gk⟩
   refine hK _ _ s4 (λhHeld4=>?_);clear hK K dh
   try simp only[lC,Qa,Qb,Qc]
   refine tkL 15 ?_;simp only[lC,Qa,Qb,Qc];refine wpAnyH_done (by kernel_rfl) ?_ _;show wpList _ _ _ [_] _ _;go_wp2;exact HI.add xU hTw kM g2 (by rw[hyx])
 case done=>
  rintro aV ys W hD rfl hI hK;have hds:ys=[]/\wy=([],Y):=by
   rcases zq with h|⟨h1,h2⟩
   ·exact h
   ·exfalso
    cases ql:wy.2 with
    | none=>exact h2 ql
    | some x=>
     rw[ql]at h1;have:(Sum.inl x)∈ys.map (·.1.2):=(by rw[h1];simp);obtain⟨y,hy,e⟩:=QL.1 this;obtain⟨s,hs⟩:=hI.brs y hy;rw[hs]at e
     cases e
  obtain⟨rfl,rfl⟩:=hds;obtain⟨v,hZ,jJ⟩:=hI.row;have s7:=hI.below;have kG:=hI.res;obtain⟨va,vc,Hx⟩:=jJ.shape;subst Hx;clear hI;obtain⟨vn,mm,kb,oa,oo,e1,e2,e3,e4,e5⟩:∃(vn:Nat)(mm:Bool)(kb:BA)(oa oo:Nat),vn=(Jp ([]:List (Ye w k))).length/\mm=false/\kb=⟨#[]⟩/\oa=0/\oo=0:=⟨_,_,_,_,_,rfl,rfl,rfl,rfl,rfl⟩
  rw[<-e1]at jJ;have hZ:W.heap[w.heap.size+3]? =Z (T (JB (R va vn vc) mm kb oa oo) 258):=by rw[e1,e2,e3,e4,e5];exact hZ
  have tJ:J (JB (R va vn vc) mm kb oa oo=JB (R va vn vc) (([],Y):Wy).2.isSome (wyK ([],Y)) (wyO ([],Y)).1 (wyO ([],Y)).2):=by rw[e2,e3,e4,e5];rfl
  clear e1 e2 e3 e4 e5;obtain⟨c0,c1,c2,c3,c4⟩:=rows hZ;obtain⟨d0,d1,d2,d3,d4⟩:=rows kG;have fd:∀j,W.frozen? ⟨w.heap.size+1+1,j,Y⟩=false:=λj=>Qg _ _ _ _ _ kG;have jB:J _:=kG;have xU:J (POwn _ _ _ _):=jJ;have vV:J _:=s7;clear kG jJ s7 hZ HL xw zq r1 r2 r3 r4 r5 rK;gi_wp2;rw[set5 _ _ _ _ _ _ _ _ _ _ _ _ _ jB.o];have Hd:aV ≠ w.heap.size+2:=λe=>by rw[e,jB.o]at hK;simp at hK
  have di:(W.setRow (w.heap.size+2) (JB (R va vn vc) mm kb oa oo)).heap[aV]? =Z (.deferred (Z [])):=(setRow_other _ _ _ _ Hd).trans hK;have jf:(W.setRow (w.heap.size+2) (JB (R va vn vc) mm kb oa oo)).heap[w.heap.size+2]? =Z (T (JB (R va vn vc) mm kb oa oo) 258):=Qi _ _ _ _ _ _ jB.o;have hg:=grownBy_putObj' (W.setRow (w.heap.size+2) (JB (R va vn vc) mm kb oa oo)) aV (.deferred Y);have kL:∀r,Z aV=Z r->∃o:Obj,(W.setRow (w.heap.size+2) (JB (R va vn vc) mm kb oa oo)).heap[r]? =Z o/\o.isCells=false:=λr e=>by cases e;exact⟨_,di,rfl⟩
  refine⟨by simp,.inl ⟨_,_,rfl,run_takeDeferred di,?_⟩⟩;refine⟨_,Qq results147 _ _ (w.heap.size+2) _ _ (0,0) _ rfl (Ju jf hg kL) underlying258 rfl (by kernel_rfl),⟨⟨_,congrArg (λx=>Ending.returned (aH x)) tJ,?_⟩,?_⟩⟩
  ·refine(xU.tch (Ts W (w.heap.size+2) (JB (R va vn vc) mm kb oa oo)) (λj hj e=>?_)).kept hg kL;obtain⟨_,cs,m,hc⟩:=xU.own _ hj;rw[e,jB.o]at hc;simp only[Qh,lW.injEq]at hc;exact absurd hc.2.1 (by decide)
  ·refine vV.trans ?_;have t1:Below w.heap.size W (W.setRow (w.heap.size+2) (JB (R va vn vc) mm kb oa oo)):=(Ts W (w.heap.size+2) _).below vV.size (λj hj=>by omega);exact t1.trans (belowK_b (w:=w) (Ql _) _ aV _ _ (by omega) di rfl rfl)
 case stop=>
  rintro aV c pre W hD sK⟨rfl,hX⟩ hK;obtain⟨q0,y,v,x,e1,e2,e3,hZ,jJ⟩:=hX.row;have s7:=hX.below;have kG:=hX.res;have uK:=Jo1 sK e1 e2 e3 zq.o;obtain⟨va,vc,Hx⟩:=jJ.shape;subst Hx;subst uK;clear hX sK e1 e2 e3;obtain⟨vn,mm,kb,oa,oo,e1,e2,e3,e4,e5⟩:∃(vn:Nat)(mm:Bool)(kb:BA)(oa oo:Nat),vn=(Jp q0).length/\mm=true/\kb=⟨x.1.toArray⟩/\oa=x.2.1/\oo=x.2.2:=⟨_,_,_,_,_,rfl,rfl,rfl,rfl,rfl⟩
  rw[<-e1]at jJ;have hZ:W.heap[w.heap.size+3]? =Z (T (JB (R va vn vc) mm kb oa oo) 258):=by rw[e1,e2,e3,e4,e5];exact hZ
  have tJ:J (JB (R va vn vc) mm kb oa oo=JB (R va vn vc) ((Jp q0,Z x):Wy).2.isSome (wyK (Jp q0,Z x)) (wyO (Jp q0,Z x)).1 (wyO (Jp q0,Z x)).2):=by rw[e2,e3,e4,e5];rfl
  clear e1 e2 e3 e4 e5;obtain⟨c0,c1,c2,c3,c4⟩:=rows hZ;obtain⟨d0,d1,d2,d3,d4⟩:=rows kG;have fd:∀j,W.frozen? ⟨w.heap.size+1+1,j,Y⟩=false:=λj=>Qg _ _ _ _ _ kG;have jB:J _:=kG;have xU:J (POwn _ _ _ _):=jJ;have vV:J _:=s7;clear kG jJ s7 hZ HL xw zq r1 r2 r3 r4 r5 rK;gi_wp2;rw[set5 _ _ _ _ _ _ _ _ _ _ _ _ _ jB.o];have Hd:aV ≠ w.heap.size+2:=λe=>by rw[e,jB.o]at hK;simp at hK
  have di:(W.setRow (w.heap.size+2) (JB (R va vn vc) mm kb oa oo)).heap[aV]? =Z (.deferred (Z [])):=(setRow_other _ _ _ _ Hd).trans hK;have jf:(W.setRow (w.heap.size+2) (JB (R va vn vc) mm kb oa oo)).heap[w.heap.size+2]? =Z (T (JB (R va vn vc) mm kb oa oo) 258):=Qi _ _ _ _ _ _ jB.o;have hg:=grownBy_putObj' (W.setRow (w.heap.size+2) (JB (R va vn vc) mm kb oa oo)) aV (.deferred Y);have kL:∀r,Z aV=Z r->∃o:Obj,(W.setRow (w.heap.size+2) (JB (R va vn vc) mm kb oa oo)).heap[r]? =Z o/\o.isCells=false:=λr e=>by cases e;exact⟨_,di,rfl⟩
  refine⟨by simp,.inl ⟨_,_,rfl,run_takeDeferred di,?_⟩⟩;refine⟨_,Qq results147 _ _ (w.heap.size+2) _ _ (0,0) _ rfl (Ju jf hg kL) underlying258 rfl (by kernel_rfl),⟨⟨_,congrArg (λx=>Ending.returned (aH x)) tJ,?_⟩,?_⟩⟩
  ·refine(xU.tch (Ts W (w.heap.size+2) (JB (R va vn vc) mm kb oa oo)) (λj hj e=>?_)).kept hg kL;obtain⟨_,cs,m,hc⟩:=xU.own _ hj;rw[e,jB.o]at hc;simp only[Qh,lW.injEq]at hc;exact absurd hc.2.1 (by decide)
  ·refine vV.trans ?_;have t1:Below w.heap.size W (W.setRow (w.heap.size+2) (JB (R va vn vc) mm kb oa oo)):=(Ts W (w.heap.size+2) _).below vV.size (λj hj=>by omega);exact t1.trans (belowK_b (w:=w) (Ql _) _ aV _ _ (by omega) di rfl rfl)
open Go.RowKit

theorem JnA(wj:Nat)(hw:wj<=32)(F:Nat->Prop)(q:Option Nat)(st:Option Tr)(k:Key)(hk:k.length=wj+1)(w:aA)(hs:StAt (dgW wj) F w q st)(Hb:∀t,st=Z t->t.Wf/\TrOk wj t):
  aB N 147 #[JA wj q,L ⟨k.toArray⟩] w λe W'=>WayV w.heap.size W' (YQ (dgW wj) k st) e/\M D w W':=by
 have HT:∀{W':aA},Below w.heap.size w W'->M D w W':=λh=>(M.of_below h).mono (λ_ hj=>.inr hj)
 cases st with
 | none=>
  obtain rfl:=hs.of_none;exact(callsIn_wide.1 (Jic (wj:Int) Y k (by omega) (by omega) w [] (by simp) rfl ([],Y) (by simp) (.inl ⟨rfl,rfl⟩))).mono λe W' h=>⟨h.1,HT h.2⟩
 | some t=>
  obtain⟨n,rfl,hn⟩:=hs.of_some;obtain⟨_,h2⟩:=Hb t rfl;obtain⟨ds,hL,hd⟩:=hn.wayD hk h2;have Hl:=congrArg lV hd;simp only[QM,Qe,Qp,Qv]at Hl;have h3:(t.way (dgW wj) k).1.length<=8*(wj+1):=(Jci (dgW wj) wj (Jj wj hw) k (Z t) Hb).len;refine(callsIn_wide.1 (Jic (wj:Int) (Z n) k (by omega) (by omega) w ds (by omega) hL ((t.way (dgW wj) k).1,Z (t.way (dgW wj) k).2) ?_ (.inr ⟨hd,λe=>(by cases e)⟩))).mono λe W' h=>⟨h.1,HT h.2⟩
  constructor
  ·intro e;rw[e]at Hl;simp at Hl
  ·intro e
   cases e
theorem Xt{wj:Nat}{c:BA×Int}(hc:Ji wj c):(Jc c).length=wj+1:=(Jba hc (o:=(0,0)) ⟨by decide,by decide⟩).1
theorem Jo2(E:Nat->Addr)(b:Nat)(Hc:18<=b)(wj:Nat)(hw:wj<=32)(wy:Wy)(Hb:WyOk wj wy)(v:aG)(w:aA)(hE:Env E w)(hp:Jd w b Y (wj:Int) aK (.wr []))(base:Nat)(hb:b<base)(hv:POwn base w v wy.1):
  aB N 146 #[X (Z ⟨b,0,Y⟩),aH (JB v wy.2.isSome (wyK wy) (wyO wy).1 (wyO wy).2)] w λe w'=>∃r g',e=aC r/\Jg E w' b g' (wj:Int) (Z (.wr (wayB wy)))/\M (λk=>k=b\/Z k=Y) w w':=by
 obtain⟨v1,v3,rfl⟩:=hv.shape;have ho:(wyO wy).2<256:=by
  unfold wyO
  cases h:wy.2 with
  | none=>decide
  | some x=>exact(Hb.key x h).2.2.2
 refine(JnC E b Hc Y wj hw v1 wy.1.length v3 wy.1 wy.2.isSome (wyK wy) (wyO wy).1 (wyO wy).2 ho (.wr []) w hE hp hv.vat ?_ (by have:=Hb.len;omega) (λs hs=>by have:=(Hb.steps s hs).1;omega) ?_ (by simp[PS.len])).mono ?_
 ·intro a n c e;simp only[Qy]at e;obtain⟨rfl,_,_⟩:=e;exact⟨λe=>by have:=(hv.own _ rfl).1;omega,λe=>by cases e⟩
 ·simp[PS.takes]
 ·rintro e w'⟨x1,x2,x3,m,k,a,o,g',rfl,h1,_,h3,_⟩;rw[Jqd (by omega) Hb]at h1;exact⟨_,g',rfl,h1,h3⟩
theorem JmM(E:Nat->Addr)(wj:Nat)(hw:wj<=32)(F:Nat->Prop)(q:Option Nat)(st:Option Tr)(c:BA×Int)(hc:Ji wj c)(w:aA)(hE:Env E w)(hs:StAt (dgW wj) F w q st)(Hb:∀t,st=Z t->t.Wf/\TrOk wj t):
  aB N 93 #[JA wj q,aH #[L c.1,O I c.2]] w λe w'=>e=aC (aI #[L ⟨(wayB (YQ (dgW wj) (Jc c) st)).toArray⟩,aK])/\M D w w':=by
 have Hi:=hE.size;have xK:J (18<=w.heap.size):=Hi;have HE:J (Env E w):=hE;have xL:=Jci (dgW wj) wj (Jj wj hw) (Jc c) st Hb;have HK:J (∀W,M D w W->_):=λW hT=>Jbe E wj hw c hc W (hE.tch hT noE);have HWT:J (∀W,M D w W->_):=λW hT=>JnA wj hw F q st (Jc c) (Xt hc) W (hs.next hT) Hb;generalize YQ (dgW wj) (Jc c) st=wy at *;have zq:J (WyOk wj wy):=xL;obtain⟨rv,Hv⟩:∃rv,rv=(q.map λn=>(⟨n,0,Y⟩:Addr)):=⟨_,rfl⟩
 have e0:Jm q=X rv:=by rw[Hv]
 have e1:JA wj q=aH #[O I (wj:Int),X rv]:=by show Value.agg _=_;rw[e0]
 rw[e1]at HWT ⊢;obtain⟨s,aZ⟩:=c;dsimp only at HK ⊢;generalize (⟨(Jc (s,aZ)).toArray⟩:BA)=kb at *;go_enter func93,ntmps93;go_wp2_with fail;refine(HK _ (M.allocs D w _ _)).mono ?_;rintro _ w1⟨rfl,H6⟩;have qF:=heap_alloc2_old w (T #[O I (wj:Int),X rv] 146) (T #[L s,O I aZ] 49);have rI:=(M.allocs D w _ _).trans H6 noE;have r1:=(H6.block _ (by simp;omega) (λh=>h)).trans qF;have gQ:w.heap.size+2<=w1.heap.size:=by have:=H6.size;simp at this;omega
 obtain⟨c0,c1⟩:=rows r1;have H3:J _:=rI;have iT:J (w.heap.size+2<=w1.heap.size):=gQ;have R1:J _:=r1;go_wp2_with fail;refine(JY _ _).mono ?_;rintro _ w2⟨rfl,kJ,H7⟩;have jr:=H3.trans H7 noE;have r2:=(H7.block _ (by have:=iT.o;omega) (λh=>h)).trans R1.o;obtain⟨c0,c1⟩:=rows r2;have H4:J (M D w w2):=jr;have Hw:J (Jd w2 w1.heap.size Y (wj:Int) aK (.wr [])):=kJ;generalize nO:w1.heap.size=b at *;have yI:J _:=nO;have sq:J (∀W v,M D w2 W->POwn w2.heap.size W v wy.1->aB N 146 _ W _):=λW v hT hv=>Jo2 E b (by have:=iT.o;have:=xK.o;omega) wj hw wy zq.o v W ((HE.o.tch H4.o noE).tch hT noE) (Hw.o.tch hT (λh=>h) (λ_ _ h=>h)) w2.heap.size Hw.o.lt hv;go_wp2_with fail;go_region_with (first
  | (go_at_call 147;refine(HWT _ (H4.trans (Td D w2 1) noE)).mono ?_;rintro _ w3⟨⟨v,rfl,(HV:J _)⟩,Hm⟩;have H8:J _:=(Td D w2 1).trans Hm noE;clear Hm)
  | (go_at_call 146;refine(sq _ _ H8 HV).mono ?_;rintro _ w4⟨r,g',rfl,(sW:J _),(He:J _)⟩))
 all_goals
  have Hu:J _:=(H4.trans H8 noE).trans He (λj hj=>by
   rcases hj with rfl|hj
   ·exact .inr (by have:=iT.o;omega)
   ·cases hj)
  have HR:J (aB N 79 _ w4 _):=Jap E b g' wj (Z (.wr (wayB wy))) (λp hp=>by cases hp;exact⟨_,rfl⟩) w4 sW.o;go_wp2_with fail;refine HR.o.mono ?_;rintro _ w5⟨kI,rfl⟩;have k8:J _:=Hu.trans kI noE;go_wp2;go_ret2;exact⟨rfl,k8⟩

def sV1(s:Sl):aG:=R s.1 s.2.1 s.2.2
structure TxV(B:Nat)(w:aA)(v:aG)(n:Nat)(sl:Nat->Sl×Sl)(c o:Nat->List VV):Prop where
 at':VR B w v ((lD n).map λi=>encT (sl i))
 ins:∀i,i<n->VR B w (sV1 (sl i).1) (c i)/\(∀x∈c i,ShC x)/\(c i).length<=1000000
 outs:∀i,i<n->VR B w (sV1 (sl i).2) (o i)/\(∀x∈o i,ShO x)/\(o i).length<=1000000
theorem TxV.tch(h:TxV B w v n sl c o)(k:M S w w')(hs:∀j,S j->B<=j):TxV B w' v n sl c o:=
 ⟨h.at'.tch k hs,λi hi=>⟨(h.ins i hi).1.tch k hs,(h.ins i hi).2⟩,λi hi=>⟨(h.outs i hi).1.tch k hs,(h.outs i hi).2⟩⟩
theorem TxV.shape(h:TxV B w v n sl c o):∃a cap,v=R a n cap:=by
 obtain⟨a,cap,e⟩:=h.at'.shape;rw[QM,lR]at e;exact⟨a,cap,e⟩
theorem TxV.cell{a:Option Addr}{cap:Nat}(h:TxV B w (R a n cap) n sl c o)(i:Nat)(hi:i<n):∃gi oi,a=Z ⟨gi,oi,Y⟩/\gi<B/\gi<w.heap.size/\w.cell? ⟨gi,oi+i*2,Y⟩=Z (sV1 (sl i).1)/\w.cell? ⟨gi,oi+i*2+1,Y⟩=Z (sV1 (sl i).2):=by
 rcases h.at' with⟨_,e2⟩|⟨gi,oi,cc,e,h1,h2,h3⟩
 ·have:=congrArg lV e2;simp at this;omega
 ·simp only[Qy]at e;have:=h3 i (by simpa using hi);simp only[List.getElem_map,List.getElem_range]at this;exact⟨gi,oi,e.1,h1,h2,this⟩
theorem TxV.lens(h:TxV B w v n sl c o)(i:Nat)(hi:i<n):(sl i).1.2.1=(c i).length/\(sl i).2.2.1=(o i).length:=by
 obtain⟨a,k,e⟩:=(h.ins i hi).1.shape;obtain⟨a',k',e'⟩:=(h.outs i hi).1.shape;unfold sV1 at e e';simp only[Qy]at e e';exact⟨e.2.1,e'.2.1⟩
def inV(c:Nat->List VV)(ga:Nat->Nat)(i:Nat):aG:=R (Z ⟨ga i,0,Y⟩) ((c i).length+8) ((c i).length+8)
def txE(c o:Nat->List VV)(ga gb:Nat->Nat)(i:Nat):VV:=(R (Z ⟨ga i,0,Y⟩) (c i).length ((c i).length+8),R (Z ⟨gb i,0,Y⟩) (o i).length ((o i).length+8))
def Ja1(hb:Nat->Nat)(i:Nat):VV:=(R (Z ⟨hb i,0,Y⟩) 1 1,R Y 0 0)
structure LC(base:Nat)(w:aA)(f k:Nat)(c o:Nat->List VV)(ga gb:Nat->Nat):Prop where
 rowC:∀i,f<=i->i<k->base<=ga i/\w.heap[ga i]? =Z (T (vvA (c i++Jab)) 49)
 rowO:∀i,f<=i->i<k->base<=gb i/\w.heap[gb i]? =Z (T (vvA (o i++YI)) 80)
 incC:∀i j,i<j->j<k->ga i<ga j
 incO:∀i j,i<j->j<k->gb i<gb j
theorem LC.tch{f k:Nat}{c o:Nat -> List VV}{ga gb:Nat -> Nat}{S:Nat -> Prop}(h : LC base w f k c o ga gb)(t : M S w w')(hs : ∀ j cs m, w.heap[j]? = Z (T cs 49 m) \/ w.heap[j]? = Z (T cs 80 m) -> ¬ S j) : LC base w' f k c o ga gb :=
  ⟨λi h1 h2 => ⟨(h.rowC i h1 h2).1, (t.block _ (QJ.1 (h.rowC i h1 h2).2).1 (hs _ _ _ (.inl (h.rowC i h1 h2).2))).trans (h.rowC i h1 h2).2⟩,
   λi h1 h2 => ⟨(h.rowO i h1 h2).1, (t.block _ (QJ.1 (h.rowO i h1 h2).2).1 (hs _ _ _ (.inr (h.rowO i h1 h2).2))).trans (h.rowO i h1 h2).2⟩, h.incC, h.incO⟩
theorem Jbj{f f':Nat->α}{k:Nat}(h:∀i,i<k->f' i=f i):(lD (k+1)).map f'=(lD k).map f++[f' k]:=by
 rw[List.range_succ,List.map_append,lN,lZ]
 congr 1
 exact List.map_congr_left (λi hi=>h i (List.mem_range.1 hi))
def upd(f:Nat->Nat)(k g:Nat):Nat->Nat:=λj=>if j=k then g else f j
theorem YR{k:Nat}(h:i<k):upd f k g i=f i:=if_neg (by omega)
theorem ZY{k:Nat}:upd f k g k=g:=if_pos rfl
theorem LC.more{k:Nat}{ga gb:Nat->Nat}{g':Nat}(h:LC base w 0 k c o ga gb)(h1:base<=g/\w.heap[g]? =Z (T (vvA (c k++Jab)) 49))(h2:base<=g'/\w.heap[g']? =Z (T (vvA (o k++YI)) 80))(h3:∀i,i<k->ga i<g)(h4:∀i,i<k->gb i<g'):LC base w 0 (k+1) c o (upd ga k g) (upd gb k g'):=by
 refine⟨λi _ hi=>?_,λi _ hi=>?_,λi j hij hj=>?_,λi j hij hj=>?_⟩
 ·by_cases e:i=k
  ·rw[e,ZY];exact h1
  ·rw[YR (by omega)];exact h.rowC i (by omega) (by omega)
 ·by_cases e:i=k
  ·rw[e,ZY];exact h2
  ·rw[YR (by omega)];exact h.rowO i (by omega) (by omega)
 ·by_cases e:j=k
  ·rw[e,ZY,YR (by omega)];exact h3 i (by omega)
  ·rw[YR (show i<k by omega),YR (show j<k by omega)];exact h.incC i j hij (by omega)
 ·by_cases e:j=k
  ·rw[e,ZY,YR (by omega)];exact h4 i (by omega)
  ·rw[YR (show i<k by omega),YR (show j<k by omega)];exact h.incO i j hij (by omega)
structure Lnd(base:Nat)(w:aA)(nb gt m:Nat)(vi vo:aG)(aY:List VV)(LI LO:List aG):Prop where
 row:w.heap[nb]? =Z (T #[R (Z ⟨gt,0,Y⟩) m m,vi,vo] 311)
 txs:w.heap[gt]? =Z (T (vvA aY) 98)
 ins:VOwn 96 base w vi LI
 outs:VOwn 22 base w vo LO
 low:base<=nb/\base<=gt
theorem Lnd.tch0(h:Lnd base w nb gt m vi vo aY LI LO)(k:M D w w'):Lnd base w' nb gt m vi vo aY LI LO:=
 ⟨(k.block _ (Jb h.row) (λh=>h)).trans h.row,(k.block _ (Jb h.txs) (λh=>h)).trans h.txs,h.ins.tch k (λ_ _ h=>h),h.outs.tch k (λ_ _ h=>h),h.low⟩
theorem Lnd.app1{LI':List aG}(h:Lnd base w nb gt m vi vo aY LI LO)(hv:VOwn 96 base w3 v' LI')(hg:w.grownBy w3 vi.ownBlock):
  w3.cell? ⟨nb,1,Y⟩=Z vi/\(∀j,w3.frozen? ⟨nb,j,Y⟩=false)/\Lnd base (w3.setCell ⟨nb,1,Y⟩ v') nb gt m v' vo aY LI' LO/\M (λj=>j=nb\/vi.ownBlock=Z j) w (w3.setCell ⟨nb,1,Y⟩ v'):=by
 have t3:M (λj=>vi.ownBlock=Z j) w w3:=(Tg hg).mono (λj hj=>.inl hj.symm);have ne:∀j cs aY m,w.heap[j]? =Z (T cs aY m)->aY ≠ 96->¬vi.ownBlock=Z j:=λj cs aY m hr hT e=>by
  obtain⟨_,_,cs',m',kL⟩:=h.ins.own j e;rw[hr]at kL;simp at kL;exact hT kL.2.1
 have r3:=(t3.block nb (Jb h.row) (ne _ _ _ _ h.row (by decide))).trans h.row;have x3:=(t3.block gt (Jb h.txs) (ne _ _ _ _ h.txs (by decide))).trans h.txs;have e4:=Qj w3 nb 1 _ _ _ v' r3;have t4:=Ts w3 nb #[R (Z ⟨gt,0,Y⟩) m m,v',vo];have Hd:∀j cs aY m,w3.heap[j]? =Z (T cs aY m)->aY ≠ 311->¬j=nb:=λj cs aY m hr hT e=>by
  rw[e,r3]at hr;simp at hr;exact hT hr.2.1.symm
 refine⟨Ja r3,λj=>Qg _ _ _ _ _ r3,?_,?_⟩
 ·rw[e4];refine⟨Qi _ _ _ _ _ _ r3,(t4.block gt (Jb x3) (Hd _ _ _ _ x3 (by decide))).trans x3,hv.tch t4 (λj hj e=>?_),(h.outs.tch t3 (λj hj e=>?_)).tch t4 (λj hj e=>?_),h.low⟩
  ·obtain⟨_,_,cs,mm,hr⟩:=hv.own j hj;exact Hd j _ _ _ hr (by decide) e
  ·obtain⟨_,_,cs,mm,hr⟩:=h.outs.own j hj;exact ne j _ _ _ hr (by decide) e
  ·obtain⟨_,_,cs,mm,hr⟩:=h.outs.own j hj;have kP:=(t3.block j (Jb hr) (ne j _ _ _ hr (by decide))).trans hr;exact Hd j _ _ _ kP (by decide) e
 ·rw[e4];exact(t3.mono (λj hj=>.inl (.inr hj))).trans t4 (λj hj=>.inl (.inl hj))
theorem Lnd.app2{LO':List aG}(h:Lnd base w nb gt m vi vo aY LI LO)(hv:VOwn 22 base w3 v' LO')(hg:w.grownBy w3 vo.ownBlock):
  w3.cell? ⟨nb,2,Y⟩=Z vo/\(∀j,w3.frozen? ⟨nb,j,Y⟩=false)/\Lnd base (w3.setCell ⟨nb,2,Y⟩ v') nb gt m vi v' aY LI LO'/\M (λj=>j=nb\/vo.ownBlock=Z j) w (w3.setCell ⟨nb,2,Y⟩ v'):=by
 have t3:M (λj=>vo.ownBlock=Z j) w w3:=(Tg hg).mono (λj hj=>.inl hj.symm);have ne:∀j cs aY m,w.heap[j]? =Z (T cs aY m)->aY ≠ 22->¬vo.ownBlock=Z j:=λj cs aY m hr hT e=>by
  obtain⟨_,_,cs',m',kL⟩:=h.outs.own j e;rw[hr]at kL;simp at kL;exact hT kL.2.1
 have r3:=(t3.block nb (Jb h.row) (ne _ _ _ _ h.row (by decide))).trans h.row;have x3:=(t3.block gt (Jb h.txs) (ne _ _ _ _ h.txs (by decide))).trans h.txs;have e4:=Qj w3 nb 2 _ _ _ v' r3;have t4:=Ts w3 nb #[R (Z ⟨gt,0,Y⟩) m m,vi,v'];have Hd:∀j cs aY m,w3.heap[j]? =Z (T cs aY m)->aY ≠ 311->¬j=nb:=λj cs aY m hr hT e=>by
  rw[e,r3]at hr;simp at hr;exact hT hr.2.1.symm
 refine⟨Ja r3,λj=>Qg _ _ _ _ _ r3,?_,?_⟩
 ·rw[e4];refine⟨Qi _ _ _ _ _ _ r3,(t4.block gt (Jb x3) (Hd _ _ _ _ x3 (by decide))).trans x3,(h.ins.tch t3 (λj hj e=>?_)).tch t4 (λj hj e=>?_),hv.tch t4 (λj hj e=>?_),h.low⟩
  ·obtain⟨_,_,cs,mm,hr⟩:=h.ins.own j hj;exact ne j _ _ _ hr (by decide) e
  ·obtain⟨_,_,cs,mm,hr⟩:=h.ins.own j hj;have kP:=(t3.block j (Jb hr) (ne j _ _ _ hr (by decide))).trans hr;exact Hd j _ _ _ kP (by decide) e
  ·obtain⟨_,_,cs,mm,hr⟩:=hv.own j hj;exact Hd j _ _ _ hr (by decide) e
 ·rw[e4];exact(t3.mono (λj hj=>.inl (.inr hj))).trans t4 (λj hj=>.inl (.inl hj))
theorem Lnd.put(h:Lnd base w nb gt m vi vo aY LI LO)(hi:i<aY.length)(a b:aG):
  Lnd base ((w.setCell ⟨gt,i*2,Y⟩ a).setCell ⟨gt,i*2+1,Y⟩ b) nb gt m vi vo (aY.set i (a,b)) LI LO/\M (λj=>j=gt) w ((w.setCell ⟨gt,i*2,Y⟩ a).setCell ⟨gt,i*2+1,Y⟩ b):=by
 obtain⟨p1,p2⟩:=JcR h.txs hi a b;have Hd:∀j cs aY m,w.heap[j]? =Z (T cs aY m)->aY ≠ 98->¬j=gt:=λj cs aY m hr hT e=>by
  rw[e,h.txs]at hr;simp at hr;exact hT hr.2.1.symm
 refine⟨⟨(p2.block nb (Jb h.row) (Hd _ _ _ _ h.row (by decide))).trans h.row,p1,h.ins.tch p2 (λj hj e=>?_),h.outs.tch p2 (λj hj e=>?_),h.low⟩,p2⟩
 ·obtain⟨_,_,cs,mm,hr⟩:=h.ins.own j hj;exact Hd j _ _ _ hr (by decide) e
 ·obtain⟨_,_,cs,mm,hr⟩:=h.outs.own j hj;exact Hd j _ _ _ hr (by decide) e
structure Xj(base:Nat)(w:aA)(nb gt n:Nat)(vi vo:aG)(c o:Nat->List VV)(ga gb hb:Nat->Nat)(f:Nat):Prop where
 row:w.heap[nb]? =Z (T #[R (Z ⟨gt,0,Y⟩) (n+8) (n+8),vi,vo] 311)
 txs:w.heap[gt]? =Z (T (vvA ((lD n).map (txE c o ga gb)++(lD 8).map (Ja1 hb))) 98)
 ins:VOwn 96 base w vi ((lD n).map (inV c ga))
 outs:VOwn 22 base w vo ((lD n).map (inV o gb))
 lc:LC base w f n c o ga gb
 rm:∀i,i<8->base<=hb i/\w.heap[hb i]? =Z (T (vvA [behC i]) 49)/\∀j,j<n->ga j<hb i
 low:base<=nb/\base<=gt

theorem JpH(w:aA)(v:aG)(n:Nat)(sl:Nat->Sl×Sl)(c o:Nat->List VV)(hn:n<=1000000)(hB:B<=w.heap.size)(hv:TxV B w v n sl c o):
  aB N 179 #[v] w λe w'=>∃nb gt vi vo ga gb hb,e=aC (X (Z ⟨nb,0,Y⟩))/\Xj w.heap.size w' nb gt n vi vo c o ga gb hb 0/\M D w w':=by
 obtain⟨ia,ic,Hx⟩:=hv.shape;subst Hx;have HV:J _:=hv;have jp:=mkV isT (n+8) (by omega) w;have wn:I.wrap ((n:Int)+8)=((n+8:Nat):Int):=by rw[w63 _ (by omega) (by omega)];omega
 generalize yv:n+8=m at *;have HM:J _:=yv;have qY:(m:Int)<=1000008:=by omega
 have HBW:J _:=hB;clear hv yv hB;have qP:J (Lnd w.heap.size ((w.alloc (T (vvA (lE m zT)) 98)).alloc (T #[R (Z ⟨w.heap.size,0,Y⟩) m m,R Y 0 0,R Y 0 0] 311)) (w.heap.size+1) w.heap.size m (R Y 0 0) (R Y 0 0) (lE m zT) [] []):=
  ⟨by have:=Qf (w.alloc (T (vvA (lE m zT)) 98)) (T #[R (Z ⟨w.heap.size,0,Y⟩) m m,R Y 0 0,R Y 0 0] 311);rw[World.size_alloc]at this;exact this,heap_alloc2_old _ _ _,VOwn.nil _ _ _,VOwn.nil _ _ _,by omega,by omega⟩
 have zt:J (M D w ((w.alloc (T (vvA (lE m zT)) 98)).alloc (T #[R (Z ⟨w.heap.size,0,Y⟩) m m,R Y 0 0,R Y 0 0] 311))):=M.allocs _ _ _ _;go_enter func179,ntmps179;go_wp2;generalize (w.alloc (T (vvA (lE m zT)) 98)).alloc (T #[R (Z ⟨w.heap.size,0,Y⟩) m m,R Y 0 0,R Y 0 0] 311)=w0 at *;go_loopw [4,5,6] (λi _ _ wr=>∃(k:Nat)(vi vo:aG)(ga gb:Nat->Nat),k<=n/\i=O I (k:Int)/\J (Lnd w.heap.size wr (w.heap.size+1) w.heap.size m vi vo ((lD k).map (txE c o ga gb)++lE (m-k) zT) ((lD k).map (inV c ga)) ((lD k).map (inV o gb)))/\J (LC w.heap.size wr 0 k c o ga gb)/\J (M D w wr)) (λi _ _ _=>n-(intOf i).toNat)
 case atStart=>exact⟨0,_,_,λ_=>0,λ_=>0,by omega,rfl,qP,⟨λi _ h=>absurd h (by omega),λi _ h=>absurd h (by omega),λi j _ h=>absurd h (by omega),λi j _ h=>absurd h (by omega)⟩,zt⟩
 case round=>
  clear jp;obtain⟨k,vi,vo,ga,gb,hk,rfl,HL,HC,HT⟩:=hrel;obtain⟨ya,yn,yc,rfl⟩:=HL.ins.shape3;obtain⟨za,zn,zc,rfl⟩:=HL.outs.shape3
  by_cases H5:k<n
  ·have kT:(k:Int)<(n:Int):=(by omega);obtain⟨gi,oi,rfl,mX,kV,f0,f1⟩:=HV.cell k H5;obtain⟨l1,l2⟩:=HV.lens k H5;obtain⟨v1,s1,b1⟩:=HV.ins k H5;obtain⟨v2,s2,b2⟩:=HV.outs k H5;unfold sV1 at f0 f1 v1 v2;rw[l1]at f0 v1;rw[l2]at f1 v2;generalize (sl k).1.1=a1 at *;generalize (sl k).1.2.2=c1 at *;generalize (sl k).2.1=a2 at *;generalize (sl k).2.2.2=c2 at *;have HLC:J (∀V,M D w V->_):=λV hV=>Jhj V _ (c k) b1 (v1.tch hV (λ_ e=>e.elim)) s1;have uM:J (∀V,M D w V->_):=λV hV=>JdT V _ (o k) b2 (v2.tch hV (λ_ e=>e.elim)) s2;have kN:J (∀V S,M S w V->(∀j,S j->w.heap.size<=j)->V.cell? ⟨gi,oi+k*2,Y⟩=Z (R a1 (c k).length c1)/\V.cell? ⟨gi,oi+k*2+1,Y⟩=Z (R a2 (o k).length c2)):=λV S hV hS=>by
    have mj:¬S gi:=λe=>by have:=hS gi e;omega
    exact⟨(hV.cell (p:=⟨gi,oi+k*2,Y⟩) kV mj).trans f0,(hV.cell (p:=⟨gi,oi+k*2+1,Y⟩) kV mj).trans f1⟩
   have HIV:J (∀g,inV c (upd ga k g) k=R (Z ⟨g,0,Y⟩) ((c k).length+8) ((c k).length+8)):=λg=>by unfold inV;rw[ZY]
   have HIO:J (∀g,inV o (upd gb k g) k=R (Z ⟨g,0,Y⟩) ((o k).length+8) ((o k).length+8)):=λg=>by unfold inV;rw[ZY]
   have fu:J (∀g g',txE c o (upd ga k g) (upd gb k g') k=(R (Z ⟨g,0,Y⟩) (c k).length ((c k).length+8),R (Z ⟨g',0,Y⟩) (o k).length ((o k).length+8))):=λg g'=>by unfold txE;rw[ZY,ZY]
   clear l1 l2 v1 s1 v2 s2 f0 f1;generalize hlc:(c k).length=lc at *;generalize hlo:(o k).length=lo at *;generalize j5:lc+8=lc8 at *;generalize jk:lo+8=lo8 at *;have hlc8:(lc:Int)<=(lc8:Int):=(by omega);have hlo8:(lo:Int)<=(lo8:Int):=(by omega);clear hlc hlo j5 jk;obtain⟨x0,x1⟩:=kN wr _ HT (λ_ e=>e.elim);go_wp2_with fail;refine(HLC wr HT).mono ?_;rintro _ w1⟨g1,rfl,nP,kD,(vX:J _)⟩;have H3:J _:=HT.go vX;have cQ:J (wr.heap.size<=g1/\w1.heap[g1]? =Z (T (vvA (c k++Jab)) 49)):=⟨nP,kD⟩
   clear x0 x1 nP kD;obtain⟨x0,x1⟩:=kN w1 _ H3 (λ_ e=>e.elim);go_wp2_with fail;refine(uM w1 H3).mono ?_;rintro _ w2⟨g2,rfl,sA,Hp,(vY:J _)⟩;have H4:J _:=H3.go vY;have tI:J (w1.heap.size<=g2/\w2.heap[g2]? =Z (T (vvA (o k++YI)) 80)):=⟨sA,Hp⟩
   have sw:J _:=(HL.tch0 vX).tch0 vY;clear x0 x1 sA Hp;have HGA:J (∀i,i<k->ga i<wr.heap.size/\gb i<wr.heap.size):=λi hi=>⟨(QJ.1 (HC.rowC i (by omega) hi).2).1,(QJ.1 (HC.rowO i (by omega) hi).2).1⟩
   obtain⟨W3,(sq:J _)⟩:∃W3,W3=w2.alloc (T #[R (Z ⟨g1,0,Y⟩) lc8 lc8] 96):=⟨_,rfl⟩
   have t3:M D w2 W3:=(by rw[sq];exact Ta _ _ _);have HC3:J (W3.cell? ⟨w2.heap.size,0,Y⟩=Z (R (Z ⟨g1,0,Y⟩) lc8 lc8)):=(by show _=_;rw[sq];exact Ja (Qf _ _));have zF:J _:=sw.tch0 t3;have H8:J _:=H4.go t3;have HLC3:J (LC w.heap.size W3 0 (k+1) c o (upd ga k g1) (upd gb k g2)):=by
    have hs:=HT.o.size;have qq:=vX.o.size;have h1:=cQ.o;have h2:=tI.o;have tA:=(vX.go vY).go t3;have tB:=vY.go t3;refine(HC.tch tA (λ_ _ _ _ e=>e)).more ⟨by omega,(tB.block g1 (Jb h1.2) (λe=>e)).trans h1.2⟩ ⟨by omega,(t3.block g2 (Jb h2.2) (λe=>e)).trans h2.2⟩ (λi hi=>?_) (λi hi=>?_)
    ·have:=(HGA i hi).1;omega
    ·have:=(HGA i hi).2;omega
   obtain⟨-,q1⟩:=rows sw.o.row;clear t3;go_upto_region 8 with(at_builtin;rw[<-sq.o];refine Yu JpP rfl _ _ rfl rfl zF.ins _ _ rfl HC3 rfl (by simp;omega) H8.size ?_;intro v4 w4 uA pY ho4;obtain⟨ea,en,ec,rfl⟩:=uA.shape3;obtain⟨r0,r1,(HL5:J _),(Hu:J _)⟩:=zF.app1 uA pY;clear uA pY ho4);generalize w4.setCell ⟨w.heap.size+1,1,Y⟩ (R ea en ec)=w5 at *;have HLC5:J _:=HLC3.tch Hu (λj cs mm hj e=>by
    rcases e with rfl|e
    ·rcases hj with hj|hj<;>(rw[zF.o.row]at hj;simp at hj)
    ·obtain⟨_,_,_,_,hr⟩:=zF.ins.own j e
     rcases hj with hj|hj<;>(rw[hr]at hj;simp at hj))
   have HTW5:J _:=H8.trans Hu (λj hj=>.inr (by
    rcases hj with rfl|hj
    ·omega
    ·exact(zF.ins.own j hj).1))
   clear r0 r1 q1;obtain⟨W6,(tJ:J _)⟩:∃W6,W6=w5.alloc (T #[R (Z ⟨g2,0,Y⟩) lo8 lo8] 22):=⟨_,rfl⟩
   have t6:M D w5 W6:=(by rw[tJ];exact Ta _ _ _);have HC6:J (W6.cell? ⟨w5.heap.size,0,Y⟩=Z (R (Z ⟨g2,0,Y⟩) lo8 lo8)):=(by show _=_;rw[tJ];exact Ja (Qf _ _));have iU:J _:=HL5.tch0 t6;have k8:J _:=HTW5.go t6;have HLC6:J _:=HLC5.tch t6 (λ_ _ _ _ e=>e);obtain⟨-, -,q1⟩:=rows HL5.o.row;clear t6;go_upto_region 9 with(at_builtin;rw[<-tJ.o];refine Yu JpR rfl _ _ rfl rfl iU.outs _ _ rfl HC6 rfl (by simp;omega) k8.size ?_;intro v7 w7 hv7 eR ho7;obtain⟨fa,fn,fc,rfl⟩:=hv7.shape3;obtain⟨r0,r1,(iV:J _),(kw:J _)⟩:=iU.app2 hv7 eR;clear hv7 eR ho7);generalize w7.setCell ⟨w.heap.size+1,2,Y⟩ (R fa fn fc)=w8 at *;have HLC8:J _:=HLC6.tch kw (λj cs mm hj e=>by
    rcases e with rfl|e
    ·rcases hj with hj|hj<;>(rw[iU.o.row]at hj;simp at hj)
    ·obtain⟨_,_,_,_,hr⟩:=iU.outs.own j e
     rcases hj with hj|hj<;>(rw[hr]at hj;simp at hj))
   have iW:J _:=k8.trans kw (λj hj=>.inr (by
    rcases hj with rfl|hj
    ·omega
    ·exact(iU.outs.own j hj).1))
   clear r0 r1 q1;have jU:J (k<((lD k).map (txE c o ga gb)++lE (m-k) zT).length):=by show k<lV _;rw[Qe,QM,lR,List.length_replicate];have:=HM.o;omega
   obtain⟨(Hq:J _),(Hw:J _)⟩:=iV.put jU (R (Z ⟨g1,0,Y⟩) lc lc8) (R (Z ⟨g2,0,Y⟩) lo lo8);obtain⟨x0,x1⟩:=kN w8 _ iW (λ_ e=>e.elim);obtain⟨x2, -⟩:=rows iV.o.row;have zl:J _:=iW.o.trans Hw (λj hj=>.inr (by rw[hj];exact Ql _));have fz:=Ze iV.o.txs;obtain⟨z0,z1⟩:=Xp iV.o.txs zT (i:=k) (by
    rw[Qz (by simp),QM,lR,Nat.sub_self,List.getElem?_replicate,if_pos (by have:=HM.o;omega)])
   have hkm:(k:Int)<(m:Int):=(by have:=HM.o;omega);obtain⟨y0,y1⟩:=kN.o _ _ zl.o (λ_ e=>e.elim);have y2:=cell_of_row _ _ 0 _ _ _ Hq.o.row;simp only[List.getElem?_toArray,List.getElem?_cons_zero]at y2;go_region_held3 (λV=>V.cell? ⟨w.heap.size+1,0,Y⟩=Z (R (Z ⟨w.heap.size,0,Y⟩) m m)/\V.cell? ⟨gi,oi+k*2,Y⟩=Z (R a1 lc c1)/\V.cell? ⟨gi,oi+k*2+1,Y⟩=Z (R a2 lo c2)) (go_keep) (fail);clear x0 x1 x2;go_wp2;go_roundw
   case rel=>
    refine⟨k+1,R ea en ec,R fa fn fc,upd ga k g1,upd gb k g2,by omega,by go_num,?_,HLC8.o.tch (Hw.o.dr 1) (λj cs mm hj e=>by
     subst e
     rcases hj with hj|hj<;>(rw[iV.o.txs]at hj;simp at hj)),zl.o.dr 1⟩
    have e1:(lD (k+1)).map (txE c o (upd ga k g1) (upd gb k g2))++lE (m-(k+1)) zT=((lD k).map (txE c o ga gb)++lE (m-k) zT).set k (R (Z ⟨g1,0,Y⟩) lc lc8,R (Z ⟨g2,0,Y⟩) lo lo8):=(by rw[Jbj (f:=txE c o ga gb) (λi hi=>by unfold txE;rw[YR hi,YR hi]),fu.o,List.set_append_right _ _ (by simp),QM,lR,Nat.sub_self,show m-k=(m-(k+1))+1 by have:=HM.o;omega,List.replicate_succ,Qb,Qs];rfl);rw[e1,Jbj (f:=inV c ga) (λi hi=>by unfold inV;rw[YR hi]),HIV.o,Jbj (f:=inV o gb) (λi hi=>by unfold inV;rw[YR hi]),HIO.o];exact Hq.o.tch0 (Td _ _ 1)
   case measure=>simp[intOf];omega
  ·obtain rfl:k=n:=(by omega);have gI:¬(k:Int)<(k:Int):=(by omega);have hm8:m-k=8:=(by have:=HM.o;omega);rw[hm8]at HL;clear hm8;go_wp2;have HB:J (∀(i:Nat) V,i<8->aB N 265 #[O I (i:Int)] V λe w'=>e=aC (aH #[L behB,O I (-(i:Int)-1)])/\M D V w'):=λi V hk=>by
    have:=YM (i:Int) V;rw[show wrap64 (wrap64 (-(i:Int))-1)= -(i:Int)-1 by unfold wrap64;omega]at this;exact this
   go_loopw [7] (λi wx=>∃(q:Nat)(hb:Nat->Nat),q<=8/\i=O I (q:Int)/\J (Lnd w.heap.size wx (w.heap.size+1) w.heap.size m (R ya yn yc) (R za zn zc) ((lD k).map (txE c o ga gb)++(lD q).map (Ja1 hb)++lE (8-q) zT) ((lD k).map (inV c ga)) ((lD k).map (inV o gb)))/\J (LC w.heap.size wx 0 k c o ga gb)/\J (∀i,i<q->w.heap.size<=hb i/\wx.heap[hb i]? =Z (T (vvA [behC i]) 49)/\∀j,j<k->ga j<hb i)/\J (M D w wx)) (λi _=>8-(intOf i).toNat)
   case atStart=>exact⟨0,λ_=>0,by omega,rfl,by show Lnd _ _ _ _ _ _ _ _ _ _;simpa using HL.o,HC.o,λi hi=>absurd hi (by omega),HT.o⟩
   case round=>
    clear HL HC HT;obtain⟨q,hb,hq,rfl,HL,HC,HRM,HT⟩:=hrel
    by_cases hq8:q<8
    ·have hqi:(q:Int)<8:=(by omega);obtain⟨p,hp⟩:∃p:Nat,k+q=p:=⟨_,rfl⟩
     have wq:I.wrap ((k:Int)+(q:Int))=(p:Int):=(by rw[w63 _ (by omega) (by omega)];omega);have cf:(p:Int)<(m:Int):=(by have:=HM.o;omega);have HP:J (k+q=p):=hp;have tM:J (∀V,aB N 265 #[O I (q:Int)] V λe w'=>e=aC (aH #[L behB,O I (-(q:Int)-1)])/\M D V w'):=λV=>HB.o q V hq8;have HTq:J (((lD k).map (txE c o ga gb)++(lD q).map (Ja1 hb)++lE (8-q) zT)[p]? =Z zT):=(by show _=_;rw[Qz (by simp;omega),List.getElem?_replicate,if_pos (by simp;omega)]);obtain⟨z,hz⟩:∃z:Int, -(q:Int)-1=z:=⟨_,rfl⟩
     rw[hz]at tM;have HZ:J (-(q:Int)-1=z):=hz;have dj:J (∀V,M D wr V->V.cell? ⟨w.heap.size+1,0,Y⟩=Z (R (Z ⟨w.heap.size,0,Y⟩) m m)/\V.cell? ⟨w.heap.size,p*2,Y⟩=Z (R Y 0 0)/\V.cell? ⟨w.heap.size,p*2+1,Y⟩=Z (R Y 0 0)/\(∀j,V.frozen? ⟨w.heap.size,j,Y⟩=false)/\∀A,((V.setCell ⟨w.heap.size,p*2,Y⟩ A).setCell ⟨w.heap.size,p*2+1,Y⟩ (R Y 0 0)).cell? ⟨w.heap.size+1,0,Y⟩=Z (R (Z ⟨w.heap.size,0,Y⟩) m m)):=λV hV=>by
      have h1:=HL.o.tch0 hV;obtain⟨g0,g1⟩:=Xp h1.txs zT HTq.o;exact⟨Ja h1.row,g0,g1,Ze h1.txs,λA=>Ja (h1.put (Qo.1 HTq.o).1 A (R Y 0 0)).1.row⟩
     obtain⟨x0,x1,x2,x3,_⟩:=dj.o wr (Te _ _);clear hz hp;go_upto_region 13 with fail;go_region_held3 (λV=>V.cell? ⟨w.heap.size+1,0,Y⟩=Z (R (Z ⟨w.heap.size,0,Y⟩) m m)) (go_keep) ((go_at_call 265;refine(tM.o _).mono ?_;rintro _ w2⟨rfl,H7⟩;have H4:J (M D wr w2):=(Td D wr 1).go H7;obtain⟨y0,_⟩:=dj.o w2 H4.o;obtain⟨u0,u1,u2,u3,u4⟩:=dj.o (w2.alloc (T #[L behB,O I z] 49)) (H4.o.go (Ta _ _ _));have u5:=u4 (R (Z ⟨w2.heap.size,0,Y⟩) 1 1);clear H7 u4))
     all_goals
      go_wp2;go_roundw
      case rel=>
       have t3:M D wr (w2.alloc (T #[L behB,O I z] 49)):=H4.o.go (Ta _ _ _);obtain⟨e1,e2⟩:=(HL.o.tch0 t3).put (Qo.1 HTq.o).1 (R (Z ⟨w2.heap.size,0,Y⟩) 1 1) (R Y 0 0);have hgt:=(Jb HL.o.txs)
       have kO:=H4.o.size;refine⟨q+1,upd hb q w2.heap.size,by omega,by go_num,?_,(HC.o.tch t3 (λ_ _ _ _ e=>e)).tch e2 (λj cs mm hj e=>by
        subst e
        rcases hj with hj|hj<;>(rw[(HL.o.tch0 t3).txs]at hj;simp at hj)),λi hi=>?_,(HT.o.go t3).trans e2 (λj hj=>.inr (by rw[hj];exact Ql _))⟩
       ·have e3:(lD k).map (txE c o ga gb)++(lD (q+1)).map (Ja1 (upd hb q w2.heap.size))++lE (8-(q+1)) zT=((lD k).map (txE c o ga gb)++(lD q).map (Ja1 hb)++lE (8-q) zT).set p (R (Z ⟨w2.heap.size,0,Y⟩) 1 1,R Y 0 0):=by
         have h2:=HP.o;rw[Jbj (f:=Ja1 hb) (λi hi=>by unfold Ja1;rw[YR hi]),List.set_append_right _ _ (by simp;omega),show 8-q=(8-(q+1))+1 by omega,List.replicate_succ,show p-((lD k).map (txE c o ga gb)++(lD q).map (Ja1 hb)).length=0 by simp;omega,Qb];unfold Ja1;rw[ZY];simp
        rw[e3];exact e1
       ·by_cases ei:i=q
        ·subst ei;rw[ZY];refine⟨by omega,?_,λj hj=>?_⟩
         ·rw[e2.block _ (by rw[World.size_alloc];omega) (by omega),Qf,<-HZ.o];rfl
         ·have:=(QJ.1 (HC.o.rowC j (by omega) hj).2).1;omega
        ·rw[YR (by omega)];obtain⟨f1,f2,f3⟩:=HRM.o i (by omega);refine⟨f1,?_,f3⟩;have f4:=(t3.block _ (Jb f2) (λe=>e)).trans f2;refine(e2.block _ (Jb f4) (λe=>?_)).trans f4;rw[e,(HL.o.tch0 t3).txs]at f4;simp at f4
      case measure=>simp[intOf];omega
    ·obtain rfl:q=8:=(by omega);have gI:¬((8:Nat):Int)<8:=(by omega);go_wp2;go_ret;have h1:=HL.o;rw[<-HM.o]at h1;simp only[Nat.sub_self,List.replicate_zero,QC]at h1;exact⟨_,rfl,⟨_,_,_,ga,gb,hb,h1.row,h1.txs,h1.ins,h1.outs,HC.o,HRM.o,h1.low⟩,HT.o⟩

def zV(l:List Int):List aG:=l.map λn=>O I n
def ZOwn(base:Nat)(w:aA)(v:aG)(l:List Int):Prop:=w.ownsRow base 3 1 v l.length (zV l)
theorem ZOwn.nil(base:Nat)(w:aA):ZOwn base w (R Y 0 0) []:=⟨rfl,.inl ⟨rfl,rfl⟩⟩
theorem ZOwn.tch(h:ZOwn base w v l)(k:M S w w')(hs:∀j,v.ownBlock=Z j->¬S j):ZOwn base w' v l:=by
 obtain⟨h1,⟨rfl,h0⟩|⟨g,cap,cur,rfl,hb,hZ,h2⟩⟩:=h
 ·exact⟨h1,.inl ⟨rfl,h0⟩⟩
 ·exact⟨h1,.inr ⟨g,cap,cur,rfl,hb,(k.block g (Jb hZ) (hs g rfl)).trans hZ,h2⟩⟩
theorem ZOwn.own(h:ZOwn base w v l):∀k,v.ownBlock=Z k->base<=k/\k<w.heap.size:=by
 obtain⟨_,⟨rfl,h0⟩|⟨g,cap,cur,rfl,hb,hZ,_⟩⟩:=h
 ·intro k hk;cases hk
 ·intro k hk;cases hk;exact⟨hb,(Jb hZ)⟩
theorem ZOwn.at(h:ZOwn base w v l)(hl:l ≠ []):∃g cap,v=R (Z ⟨g,0,Y⟩) l.length cap/\g<w.heap.size/\∀i (hi:i<l.length),w.cell? ⟨g,i,Y⟩=Z (O I l[i]):=by
 obtain⟨_,⟨rfl,h0⟩|⟨g,cap,cur,rfl,hb,hZ,_,_,Hi,kK⟩⟩:=h
 ·exact absurd (QP h0) hl
 ·refine⟨g,cap,rfl,(Jb hZ),λi hi=>?_⟩;rw[Ja hZ,<-lS];have e:(zV l)[i]? =Z (O I l[i]):=by simp[zV,hi]
  rw[<-kK,List.getElem?_take_of_lt (by omega)]at e;exact e
theorem ZOwn.shape(h:ZOwn base w v l):∃a c,v=R a l.length c:=by
 obtain⟨_,⟨rfl,h0⟩|⟨g,cap,cur,rfl,_⟩⟩:=h
 ·exact⟨Y,0,by rw[h0]⟩
 ·exact⟨_,_,rfl⟩
theorem JiA:(prog.info? 3).map (λi=>(i.zero,i.size,i.bytes))=Z (Z (O I 0),1,8):=by kernel_rfl
theorem Jce(h:ZOwn base w v l)(k:Nat)(x:Int)(hx:w.cell? ⟨k,0,Y⟩=Z (O I x))(ty:TypeId)(hb:l.length<=10000000000)(Ha:base<=w.heap.size):
  ∃v' w',(lT #[62,62] ty #[v,R (Z ⟨k,0,Y⟩) 1 1]).run N w=.ok v' w'/\ZOwn base w' v' (l++[x])/\w.grownBy w' v.ownBlock/\(∀j,v'.ownBlock=Z j->v.ownBlock=Z j\/w.heap.size<=j):=by
 obtain⟨i,hi,hp⟩:=lO.1 JiA;simp only[Qw]at hp;obtain⟨hz,Hi,gJ⟩:=hp;obtain⟨v',w',hr,h2,h3,h4,h5⟩:=run_append_own_at (P:=N) (w:=w) base 62 ty 3 i _ 1 8 underlying62 hi hz Hi gJ rfl (by omega) v l.length (zV l) h ⟨k,0,Y⟩ 1 1 (zV [x]) rfl (λj u hu=>by
  cases j with
  | zero=>simp only[zV,lN,lZ,List.getElem?_cons_zero,Qh]at hu;rw[<-hu,Addr.add_lit];exact hx
  | succ j=>simp[zV]at hu) (λu hu=>by simp only[zV,lN,lZ,Qt]at hu;rw[hu];rfl) (by simp only[maxLen];omega) (by omega) Ha
 exact⟨v',w',hr,by unfold ZOwn;rw[Qe,show zV (l++[x])=zV l++zV [x] by simp[zV]];exact h2,h3,λj hj=>by
  rcases h5 with e|e
  ·exact .inl (e ▸ hj)
  ·rw[hj]at e;cases e;exact .inr (Ql _)⟩
theorem Jdn{rest:List Oper}{o:Oper}(jd:o.guard=Y)(s x:Operand)
 (ho:o.op=.call { callee:=.builtin .append,args:= #[s,x],argTypes:= #[62,62] })
 (hv:a.eval s=v) (h:ZOwn base w v l) (k:Nat) (y:Int) (hx:a.eval x=R (Z ⟨k,0,Y⟩) 1 1) (hc:w.cell? ⟨k,0,Y⟩=Z (O I y)) (hb:l.length<=10000000000) (Ha:base<=w.heap.size)
 (hK:∀v' w',ZOwn base w' v' (l++[y])->w.grownBy w' v.ownBlock->wpList N ops Q rest (a.put o.dst v') w'):wpList N ops Q (o::rest) a w:=by
 refine wpList_plain jd λK zN=>?_;obtain⟨v',w',Hy,r,r2,r3⟩:=Jce h k y hc o.type hb Ha;unfold Oper.wp;simp[execOp,ho,resolve,invoke,builtin,hv,hx,Hy,Result.andThen];exact zN _ _ (hK v' w' r r2)
theorem JaB{w1:aA}{o:Oper}{t:TypeId}{y v1:aG}(Hy:(lT #[t,t] o.type #[v,y]).run N w=.ok v1 w1)(jd:o.guard=Y)(s x:Operand)
 (ho:o.op=.call { callee:=.builtin .append,args:= #[s,x],argTypes:= #[t,t] }) (hv:a.eval s=v) (hx:a.eval x=y) (hK:K (a.put o.dst v1) w1):if lP o (yielded ops a.tmps)=true then Oper.wp N o a w K Q else E:=by
 have hw:lP o (yielded ops a.tmps)=true:=by simp[lP,jd]
 rw[if_pos hw];unfold Oper.wp;simp[execOp,ho,resolve,invoke,builtin,hv,hx,Hy,Result.andThen];exact hK
theorem Ja7{S:aA->Prop}{id:Nat}{aS:List Oper}(n1 n2:Nat)(Hd:aS ≠ [])(yM:aS.dropLast ≠ [])(hm:P.follows .mixedOrders=true)(xz:Jfo .any aS.dropLast.dropLast (aS.dropLast.getLast yM) n1=true)(dL:Jfo .any aS.dropLast (aS.getLast Hd) n2=true)(hS:S w.drew)
 (h:S w.drew->∀l o1 o2,aS.dropLast.dropLast=l->aS.dropLast.getLast yM=o1->aS.getLast Hd=o2->wpAnyH P .any l.toArray (Jdz P aS.dropLast.toArray o1 (Jdz P aS.toArray o2 Q)) S l.length (Array.replicate l.length false) a w.drew):(Code.region id aS.toArray true).wp P Q a w:=by
 refine wp_region_any hm ?_;have e:=(List.dropLast_concat_getLast Hd).symm;have e':=(List.dropLast_concat_getLast yM).symm;have h1:=wpAny_of_held _ _ _ _ (h hS _ _ _ rfl rfl rfl);have h2:=JaC (Q:=Jdz P aS.toArray (aS.getLast Hd) Q) xz aS.dropLast.dropLast.length (Array.replicate aS.dropLast.dropLast.length false) a w.drew (by simp) (λi o _ hi=>by simp[Array.getD]at hi) (by rw[<-e'];exact h1);rw[<-e',YN]at h2;have tQ:aS.dropLast.dropLast.length+1=aS.dropLast.length:=by have:=congrArg lV e';simpa using this.symm
 rw[tQ]at h2;have h3:=JaC (Q:=Q) dL aS.dropLast.length (Array.replicate aS.dropLast.length false) a w.drew (by simp) (λi o _ hi=>by simp[Array.getD]at hi) (by rw[<-e];exact h2);rw[<-e,YN]at h3;have hl:aS.dropLast.length+1=aS.toArray.size:=by have:=congrArg lV e;simpa using this.symm
 rw[hl]at h3;exact h3
theorem Jfi{r:Option Nat}(h:w.grownBy w' r):M (λj=>Z j=r) w w':=Tg h

theorem JiS(p:BA)(hp:p.size=64)(w:aA):
  aB N 251 #[L p] w λe w'=>∃v,e=aC v/\ZOwn w.heap.size w' v (Wl p.data.toList 64)/\M D w w':=by
 have HP:J _:=hp;clear hp;go_enter func251,ntmps251;go_wp2;go_loopw [3,4] (λv i wr=>∃k:Nat,k<=16/\i=O I (k:Int)/\J (ZOwn w.heap.size wr v (Wl p.data.toList k))/\J (M D w wr)) (λ_ i _=>16-(intOf i).toNat)
 case atStart=>exact⟨0,by omega,rfl,ZOwn.nil _ _,Te _ _⟩
 case round=>
  obtain⟨k,hk,rfl,HZ,HT⟩:=hrel
  by_cases H5:k<16
  ·have uL:(k:Int)<16:=(by omega);have hps:=HP.o;have g0:4*k<p.size:=(by omega);have g1:4*k+1<p.size:=(by omega);have g2:4*k+2<p.size:=(by omega);have g3:4*k+3<p.size:=(by omega);have i0:4*(k:Int)<(p.size:Int):=(by omega);have i1:4*(k:Int)+1<(p.size:Int):=(by omega);have i2:4*(k:Int)+2<(p.size:Int):=(by omega);have i3:4*(k:Int)+3<(p.size:Int):=(by omega);have z0:0<=4*(k:Int):=(by omega);have z1:0<=4*(k:Int)+1:=(by omega);have z2:0<=4*(k:Int)+2:=(by omega);have z3:0<=4*(k:Int)+3:=(by omega);have y0:I.wrap (4*(k:Int))=4*(k:Int):=Jo _ (by omega) (by omega);have y1:I.wrap (4*(k:Int)+1)=4*(k:Int)+1:=Jo _ (by omega) (by omega);have y2:I.wrap (4*(k:Int)+2)=4*(k:Int)+2:=Jo _ (by omega) (by omega);have y3:I.wrap (4*(k:Int)+3)=4*(k:Int)+3:=Jo _ (by omega) (by omega);have n0:(4*(k:Int)).toNat=4*k:=(by omega);have n1:(4*(k:Int)+1).toNat=4*k+1:=(by omega);have n2:(4*(k:Int)+2).toNat=4*k+2:=(by omega);have n3:(4*(k:Int)+3).toNat=4*k+3:=(by omega);have b0:=lU p[4*k];have b1:=lU p[4*k+1];have b2:=lU p[4*k+2];have b3:=lU p[4*k+3];have rU:J (nxW p.data.toList k (Wl p.data.toList k)=(p[4*k].toNat:Int)*16777216+(p[4*k+1].toNat:Int)*65536+(p[4*k+2].toNat:Int)*256+(p[4*k+3].toNat:Int)):=by
    show nxW _ _ _=_;unfold nxW;rw[if_pos H5,JnF];have e:∀j (hj:j<p.size),p.data.toList.getD j 0=p[j]:=λj hj=>by
     rw[Qn,Qd (by rw[QA];exact hj)];rfl
    rw[e _ g0,e _ g1,e _ g2,e _ g3]
   obtain⟨x0,e0⟩:∃x0:Nat,p[4*k].toNat=x0:=⟨_,rfl⟩
   obtain⟨x1,e1⟩:∃x1:Nat,p[4*k+1].toNat=x1:=⟨_,rfl⟩
   obtain⟨x2,e2⟩:∃x2:Nat,p[4*k+2].toNat=x2:=⟨_,rfl⟩
   obtain⟨x3,e3⟩:∃x3:Nat,p[4*k+3].toNat=x3:=⟨_,rfl⟩
   rw[e0,e1,e2,e3]at rU;rw[e0]at b0;rw[e1]at b1;rw[e2]at b2;rw[e3]at b3;have v0:I.wrap (x0:Int)=(x0:Int):=Jo _ (by omega) (by omega);have v1:I.wrap (x1:Int)=(x1:Int):=Jo _ (by omega) (by omega);have v2:I.wrap (x2:Int)=(x2:Int):=Jo _ (by omega) (by omega);have v3:I.wrap (x3:Int)=(x3:Int):=Jo _ (by omega) (by omega);have u0:I.wrap ((x0:Int)*16777216)=(x0:Int)*16777216:=w63 _ (by omega) (by omega);have u1:I.wrap ((x1:Int)*65536)=(x1:Int)*65536:=w63 _ (by omega) (by omega);have u2:I.wrap ((x2:Int)*256)=(x2:Int)*256:=w63 _ (by omega) (by omega);have t0:I.wrap ((x0:Int)*16777216+(x1:Int)*65536)=(x0:Int)*16777216+(x1:Int)*65536:=w63 _ (by omega) (by omega);have t1:I.wrap ((x0:Int)*16777216+(x1:Int)*65536+(x2:Int)*256)=(x0:Int)*16777216+(x1:Int)*65536+(x2:Int)*256:=w63 _ (by omega) (by omega);have t2:I.wrap ((x0:Int)*16777216+(x1:Int)*65536+(x2:Int)*256+(x3:Int))=(x0:Int)*16777216+(x1:Int)*65536+(x2:Int)*256+(x3:Int):=w63 _ (by omega) (by omega);obtain⟨a0,c0,hv⟩:=HZ.o.shape;rw[XA]at hv;subst hv;clear hps;obtain⟨v1',w1,Hy,gQ,nP,_⟩:=Jce (base:=w.heap.size) (w:=(wr.alloc (T #[O I ((x0:Int)*16777216+(x1:Int)*65536+(x2:Int)*256+(x3:Int))] 3)).drew) (HZ.o.tch (M.box wr _) (λ_ _ h=>h)) wr.heap.size _ (cell_of_row (wr.alloc (T #[O I ((x0:Int)*16777216+(x1:Int)*65536+(x2:Int)*256+(x3:Int))] 3)) _ _ _ _ _ (Qf wr _)) 62 (by rw[XA];omega) (Qm HT.o.size (M.box wr _).size);have iT:J (ZOwn w.heap.size w1 v1' (Wl p.data.toList (k+1))):=by show ZOwn _ _ _ _;unfold Wl stW;rw[rU.o];exact gQ
   have cQ:J (M D w w1):=(by have h1:M D w _:=(HT.o.go (Ta D wr (T #[O I ((x0:Int)*16777216+(x1:Int)*65536+(x2:Int)*256+(x3:Int))] 3))).go (Td D _ 1);refine h1.trans (Jfi nP) (λj hj=>.inr ?_);exact(HZ.o.own j hj.symm).1);clear gQ nP rU HZ;go_upto_region 5 with fail;refine Xn (S:=λ_=>True) 20 (by simp) (by kernel_rfl) (by kernel_rfl) trivial ?_;intro hHeld l o hl ho;simp only[lJ,lK]at hl;simp only[lF,lG]at ho;subst hl;subst ho;simp only[Qp,Qv,lX];refine tkL 0 ?_;simp only[lC,Qa,Qb,Qc];refine tkL 1 ?_;simp only[lC,Qa,Qb,Qc];refine tkL 2 ?_;simp only[lC,Qa,Qb,Qc];refine tkL 3 ?_;simp only[lC,Qa,Qb,Qc];refine tkL 4 ?_;simp only[lC,Qa,Qb,Qc];refine tkL 5 ?_;simp only[lC,Qa,Qb,Qc];refine tkL 6 ?_;simp only[lC,Qa,Qb,Qc];refine tkL 7 ?_;simp only[lC,Qa,Qb,Qc];refine tkL 8 ?_;simp only[lC,Qa,Qb,Qc];refine tkL 9 ?_;simp only[lC,Qa,Qb,Qc];refine tkL 10 ?_;simp only[lC,Qa,Qb,Qc];refine tkL 11 ?_;simp only[lC,Qa,Qb,Qc];refine tkL 12 ?_;simp only[lC,Qa,Qb,Qc];refine tkL 13 ?_;simp only[lC,Qa,Qb,Qc];refine tkL 14 ?_;simp only[lC,Qa,Qb,Qc];refine tkL 15 ?_;simp only[lC,Qa,Qb,Qc];refine tkL 16 ?_;simp only[lC,Qa,Qb,Qc];refine tkL 17 ?_;simp only[lC,Qa,Qb,Qc];refine tkL 18 ?_;simp only[lC,Qa,Qb,Qc];refine tkL 19 ?_;simp only[lC,Qa,Qb,Qc];refine tkL 20 ?_;simp only[lC,Qa,Qb,Qc];refine tkL 21 ?_;simp only[lC,Qa,Qb,Qc];refine tkL 22 ?_;simp only[lC,Qa,Qb,Qc];refine tkL 23 ?_;simp only[lC,Qa,Qb,Qc];refine tkL 24 ?_;simp only[lC,Qa,Qb,Qc];refine tkL 25 ?_;simp only[lC,Qa,Qb,Qc];refine tkL 26 ?_;simp only[lC,Qa,Qb,Qc];refine tkL 27 ?_;simp only[lC,Qa,Qb,Qc];refine tkL 28 ?_;simp only[lC,Qa,Qb,Qc];refine tkL 29 ?_;simp only[lC,Qa,Qb,Qc];refine JaI (i:=30) rfl (by kernel_rfl) (λK hK=>?_);go_simp;refine hK.out _ _ trivial (λ_=>?_);clear hK K
   try simp only[lC,Qa,Qb,Qc]
   refine JaI (i:=31) rfl (by kernel_rfl) (λK hK=>?_);refine JaB Hy (by rfl) _ _ (by rfl) (by rfl) (by rfl) ?_;refine hK.out _ _ trivial (λ_=>?_);clear hK K
   try simp only[lC,Qa,Qb,Qc]
   refine wpAnyH_done (by kernel_rfl) ?_ _;show wpList _ _ _ [_] _ _;go_wp2;go_roundw
   case rel=>exact⟨k+1,by omega,by go_num,iT,cQ⟩
   case measure=>simp[intOf];omega
  ·have uL:¬(k:Int)<16:=(by omega);have HK:J (k=16):=(by omega:k=16)
   go_wp2;go_loopw [3,5] (λv i wr=>∃m:Nat,16<=m/\m<=64/\i=O I (m:Int)/\J (ZOwn w.heap.size wr v (Wl p.data.toList m))/\J (M D w wr)) (λ_ i _=>64-(intOf i).toNat)
   case atStart=>exact⟨16,by omega,by omega,rfl,by have:=HZ.o;rw[HK.o]at this;exact this,HT⟩
   case round=>
    clear HZ HT;obtain⟨m,js,kn,rfl,HZ,HT⟩:=hrel
    by_cases gY:m<64
    ·have fx:(m:Int)<64:=(by omega);have uO:=XA p.data.toList m;obtain⟨g,cap,hv,hg,Hg⟩:=HZ.o.at (λe=>by rw[e]at uO;simp at uO;omega);rw[XA]at hv;subst hv;have ji:J (∀V i,M D wr V->i<m->V.cell? ⟨g,i,Y⟩=Z (O I ((Wl p.data.toList m).getD i 0))/\U32 ((Wl p.data.toList m).getD i 0)):=λV i hT hi=>by
      have nZ:i<(Wl p.data.toList m).length:=(by omega);rw[hT.cell (p:=⟨g,i,Y⟩) hg (λh=>h),Hg i nZ,Qn,Qd nZ];exact⟨rfl,Jik _ _ _ (Qx nZ)⟩
     obtain⟨j16,h16⟩:∃j,m=j+16:=⟨m-16,by omega⟩
     obtain⟨j15,h15⟩:∃j,m=j+15:=⟨m-15,by omega⟩
     obtain⟨j7,h7⟩:∃j,m=j+7:=⟨m-7,by omega⟩
     obtain⟨j2,h2⟩:∃j,m=j+2:=⟨m-2,by omega⟩
     have yj:J (nxW p.data.toList m (Wl p.data.toList m)=((Wl p.data.toList m).getD j16 0+sg0 ((Wl p.data.toList m).getD j15 0)+(Wl p.data.toList m).getD j7 0+sg1 ((Wl p.data.toList m).getD j2 0)) % 4294967296):=(by show nxW _ _ _=_;unfold nxW;rw[if_neg (by omega),show m-16=j16 by omega,show m-15=j15 by omega,show m-7=j7 by omega,show m-2=j2 by omega]);have n16:I.wrap ((m:Int)-16)=(j16:Int):=(by rw[w63 _ (by omega) (by omega)];omega);have n15:I.wrap ((m:Int)-15)=(j15:Int):=(by rw[w63 _ (by omega) (by omega)];omega);have n7:I.wrap ((m:Int)-7)=(j7:Int):=(by rw[w63 _ (by omega) (by omega)];omega);have n2:I.wrap ((m:Int)-2)=(j2:Int):=(by rw[w63 _ (by omega) (by omega)];omega);have l16:(j16:Int)<(m:Int):=(by omega);have l15:(j15:Int)<(m:Int):=(by omega);have l7:(j7:Int)<(m:Int):=(by omega);have l2:(j2:Int)<(m:Int):=(by omega);have HL:J (j16<m/\j15<m/\j7<m/\j2<m):=⟨by omega,by omega,by omega,by omega⟩
     have HX:J (∀V,M D wr V->(V.cell? ⟨g,j16,Y⟩=Z (O I ((Wl p.data.toList m).getD j16 0))/\V.cell? ⟨g,j7,Y⟩=Z (O I ((Wl p.data.toList m).getD j7 0)))/\V.cell? ⟨g,j15,Y⟩=Z (O I ((Wl p.data.toList m).getD j15 0))/\V.cell? ⟨g,j2,Y⟩=Z (O I ((Wl p.data.toList m).getD j2 0))):=λV hT=>⟨⟨(ji.o V j16 hT HL.o.1).1,(ji.o V j7 hT HL.o.2.2.1).1⟩,(ji.o V j15 hT HL.o.2.1).1,(ji.o V j2 hT HL.o.2.2.2).1⟩
     have iX:=(ji.o wr j16 (Te _ _) HL.o.1).2;have sP:=(ji.o wr j15 (Te _ _) HL.o.2.1).2;have hu7:=(ji.o wr j7 (Te _ _) HL.o.2.2.1).2;have dQ:=(ji.o wr j2 (Te _ _) HL.o.2.2.2).2;generalize (Wl p.data.toList m).getD j16 0=x16 at *;generalize (Wl p.data.toList m).getD j15 0=x15 at *;generalize (Wl p.data.toList m).getD j7 0=x7 at *;generalize (Wl p.data.toList m).getD j2 0=x2 at *;have gG:J (∀V,aB N 252 #[O I x15,O I 7] V λe w'=>e=aC (O I (rr 7 x15))/\M D V w'):=λV=>Yp x15 sP 7 (by decide) V;have iY:J (∀V,aB N 252 #[O I x15,O I 18] V λe w'=>e=aC (O I (rr 18 x15))/\M D V w'):=λV=>Yp x15 sP 18 (by decide) V;have iZ:J (∀V,aB N 252 #[O I x2,O I 17] V λe w'=>e=aC (O I (rr 17 x2))/\M D V w'):=λV=>Yp x2 dQ 17 (by decide) V;have i6:J (∀V,aB N 252 #[O I x2,O I 19] V λe w'=>e=aC (O I (rr 19 x2))/\M D V w'):=λV=>Yp x2 dQ 19 (by decide) V;have rz:J (bits .xor I (bits .xor I (rr 7 x15) (rr 18 x15)) (x15/8)=sg0 x15/\U32 (sg0 x15)):=(by refine⟨?_,Xi _ _ _⟩;have h8:U32 (x15/8):=Jj2 sP 3;rw[YS (ZX _ _) (ZX _ _),YS (Xi _ _ _) h8];rfl);have ki:J (bits .xor I (bits .xor I (rr 17 x2) (rr 19 x2)) (x2/1024)=sg1 x2/\U32 (sg1 x2)):=(by refine⟨?_,Xi _ _ _⟩;have h10:U32 (x2/1024):=Jj2 dQ 10;rw[YS (ZX _ _) (ZX _ _),YS (Xi _ _ _) h10];rfl);generalize sg0 x15=A at *;generalize sg1 x2=B at *;generalize rr 7 x15=r7 at *;generalize rr 18 x15=r18 at *;generalize rr 17 x2=r17 at *;generalize rr 19 x2=r19 at *;have p15:=sP.1;have p2:=dQ.1;have HU:J (U32 x16/\U32 x7):=⟨iX,hu7⟩
     clear iX sP hu7 dQ Hg ji h16 h15 h7 h2 HL uO;obtain⟨⟨q16,q7⟩,q15,q2⟩:=HX.o wr (Te _ _);go_upto_region 9 with fail;go_cut [6] (λv wx=>v=O I A/\J (M D wr wx))
     case first=>
      go_region_held3 (λV=>V.cell? ⟨g,j15,Y⟩=Z (O I x15)) (go_keep) ((first
       | (go_at_call_of 252 (lM I 7);refine(gG.o _).mono ?_;rintro _ wa⟨rfl,zU⟩;have t7:J (M D wr wa):=(Td D wr 1).go zU;have f15:=(HX.o _ t7.o).2.1;clear zU)
       | (go_at_call_of 252 (lM I 18);refine(iY.o _).mono ?_;rintro _ wb⟨rfl,zW⟩;have ti:J (M D wr wb):=t7.o.go zW;have g15:=(HX.o _ ti.o).2.1;clear zW)))
      all_goals go_wp2;go_meet;exact⟨by first|rw[<-rz.o.1]|(rw[<-rz.o.1];rfl),ti⟩
     case rest=>
     obtain⟨rfl,H3⟩:=hcut;obtain⟨wx,hwx⟩:∃wx,wx=wc:=⟨wc,rfl⟩
     subst hwx;clear q16 q7 q15 q2;obtain⟨⟨q16,q7⟩,q15,q2⟩:=HX.o wx H3.o;go_upto_region 10 with fail;go_cut [7] (λv wy=>v=O I B/\J (M D wr wy))
     case first=>
      go_region_held3 (λV=>V.cell? ⟨g,j2,Y⟩=Z (O I x2)) (go_keep) ((first
       | (go_at_call_of 252 (lM I 17);refine(iZ.o _).mono ?_;rintro _ wa⟨rfl,zU⟩;have t7:J (M D wr wa):=(H3.o.go (Td D wx 1)).go zU;have f2:=(HX.o _ t7.o).2.2;clear zU)
       | (go_at_call_of 252 (lM I 19);refine(i6.o _).mono ?_;rintro _ wb⟨rfl,zW⟩;have ti:J (M D wr wb):=t7.o.go zW;have g2:=(HX.o _ ti.o).2.2;clear zW)))
      all_goals go_wp2;go_meet;exact⟨by first|rw[<-ki.o.1]|(rw[<-ki.o.1];rfl),ti⟩
     case rest=>
     obtain⟨rfl,H4⟩:=hcut;obtain⟨wy,uK⟩:∃wy,wy=wc:=⟨wc,rfl⟩
     subst uK;clear q16 q7 q15 q2;have sR:J (∀V,M D wy V->V.cell? ⟨g,j16,Y⟩=Z (O I x16)/\V.cell? ⟨g,j7,Y⟩=Z (O I x7)):=λV hT=>(HX.o V (H4.o.go hT)).1;have HZy:J (ZOwn w.heap.size wy (R (Z ⟨g,0,Y⟩) m cap) (Wl p.data.toList m)):=HZ.o.tch H4.o (λ_ _ h=>h);obtain⟨bA0,bA1⟩:=rz.o.2;obtain⟨bB0,bB1⟩:=ki.o.2;obtain⟨⟨b160,b161⟩,b70,b71⟩:=HU.o;have w1:I.wrap (x16+A)=x16+A:=w63 _ (by omega) (by omega);have w2:I.wrap (x16+A+x7)=x16+A+x7:=w63 _ (by omega) (by omega);have w3:I.wrap (x16+A+x7+B)=x16+A+x7+B:=w63 _ (by omega) (by omega);have w4:0<=x16+A+x7+B:=(by omega);clear HX gG iY iZ i6 rz ki HU;go_upto_region 11 with fail;refine Ja7 (S:=λW=>W.cell? ⟨g,j16,Y⟩=Z (O I x16)/\W.cell? ⟨g,j7,Y⟩=Z (O I x7)) 20 20 (by simp) (by simp) (by kernel_rfl) (by kernel_rfl) (by kernel_rfl) (sR.o _ (Td _ _ 1)) ?_;intro hHeld l o1 o2 hl se ak;simp only[lJ,lK]at hl;simp only[lJ,lK,lF,lG]at se;simp only[lF,lG]at ak;subst hl;subst se;subst ak;simp only[Qp,Qv,lX];refine tkL 0 ?_;simp only[lC,Qa,Qb,Qc];refine tkL 1 ?_;simp only[lC,Qa,Qb,Qc];refine tkL 2 ?_;simp only[lC,Qa,Qb,Qc];refine tkL 3 ?_;simp only[lC,Qa,Qb,Qc];refine tkL 4 ?_;simp only[lC,Qa,Qb,Qc];refine tkL 5 ?_;simp only[lC,Qa,Qb,Qc];refine tkL 6 ?_;simp only[lC,Qa,Qb,Qc];refine tkL 7 ?_;simp only[lC,Qa,Qb,Qc];refine tkL 8 ?_;simp only[lC,Qa,Qb,Qc];refine tkL 9 ?_;simp only[lC,Qa,Qb,Qc];refine tkL 10 ?_;simp only[lC,Qa,Qb,Qc];refine tkL 11 ?_;simp only[lC,Qa,Qb,Qc];refine tkL 12 ?_;simp only[lC,Qa,Qb,Qc];refine tkL 13 ?_;simp only[lC,Qa,Qb,Qc];refine tkL 14 ?_;simp only[lC,Qa,Qb,Qc];refine tkL 15 ?_;simp only[lC,Qa,Qb,Qc];refine tkL 16 ?_;simp only[lC,Qa,Qb,Qc];refine JaI (i:=17) rfl (by kernel_rfl) (λK hK=>?_);go_simp;refine hK.out _ _ (sR.o _ (M.box _ _)) (λ_=>?_);clear hK K
     try simp only[lC,Qa,Qb,Qc]
     refine wpAnyH_done (by kernel_rfl) ?_ _;show wpList _ _ _ [_] _ _;refine Jdn rfl _ _ rfl rfl (HZy.o.tch (M.box wy _) (λ_ _ h=>h)) _ _ rfl (cell_of_row (wy.alloc _) _ _ _ _ _ (Qf wy _)) (by rw[XA];omega) (Qm (HT.o.go H4.o).size (M.box wy _).size) ?_;intro v1 w5 hz5 eP;have HZ5:J (ZOwn w.heap.size w5 v1 (Wl p.data.toList (m+1))):=by show ZOwn _ _ _ _;unfold Wl stW;rw[yj.o];rw[lI w4]at hz5;exact hz5
     have ie:J (M D w w5):=(by refine((HT.o.go H4.o).go (M.box wy _)).trans (Jfi eP) (λj hj=>.inr ?_);exact(HZ.o.own j hj.symm).1);clear hz5 eP;refine wpList_nil ?_;show wpList _ _ _ [_] _ _;go_wp2;go_roundw
     case rel=>exact⟨m+1,by omega,by omega,by go_num,HZ5,ie⟩
     case measure=>simp[intOf];omega
    ·have fx:¬(m:Int)<64:=(by omega);have HM:J (m=64):=(by omega:m=64)
     go_wp2;go_ret;exact⟨_,rfl,by have:=HZ.o;rw[HM.o]at this;exact this,HT.o⟩

theorem JhC(w:aA):
  aB Tryz.prog 250 #[] w λe w'=>∃g,e=aC (R (Z ⟨g,0,Y⟩) 64 64)/\w'.heap[g]? =Z (T (zV Ks).toArray 3)/\M D w w':=by
 go_enter Tryz.func250,Tryz.ntmps250;go_wp2;go_ret;exact⟨w.heap.size,rfl,Qf _ _,Ta _ _ _⟩

def z80:Array aG:= #[O I 0,O I 0,O I 0,O I 0,O I 0,O I 0,O I 0,O I 0]
theorem Jqx(w:aA):(Instr.makeSlice 62 (O I 8) (O I 8)).run N w=.ok (R (Z ⟨w.heap.size,0,Y⟩) 8 8) (w.alloc (T z80 3)):=by
 obtain⟨i,hi,hp⟩:=lO.1 JiA;simp only[Qw]at hp;obtain⟨hz,Hi,gJ⟩:=hp;have:=run_make (P:=N) w 62 3 i _ underlying62 hi hz I I 8 8 (by omega) (by omega) (by rw[gJ];omega) (by omega);rw[this,Hi];have e:madeCells (lM I 0).cells (Int.toNat 8*1)=z80:=by kernel_rfl
 rw[e];rfl
theorem JnZ(w:aA)(g gh:Nat)(s:S8)(hg:w.heap[g]? =Z (T z80 3))(hh:w.heap[gh]? =Z (T (z8 s) 3))(ty:TypeId):(Builtin.copy_ #[62,62] ty #[R (Z ⟨g,0,Y⟩) 8 8,R (Z ⟨gh,0,Y⟩) 8 8]).run N w=.ok (O I 8) (w.setRow g (z8 s)):=by
 obtain⟨i,hi,hp⟩:=lO.1 JiA;simp only[Qw]at hp;obtain⟨hz,Hi,gJ⟩:=hp;have:=Jbw (P:=N) w 62 62 ty 3 1 g 8 8 ⟨gh,0,Y⟩ 8 8 z80 3 (z8 s).toList underlying62 (by rw[hi];simp[Hi]) hg rfl (λj v hv=>by
  rw[Addr.add_lit,Nat.zero_add,Ja hh,<-lS];exact hv) rfl (λv hv=>by
  simp only[z8,List.mem_cons,QD,or_false]at hv
  rcases hv with rfl|rfl|rfl|rfl|rfl|rfl|rfl|rfl<;>rfl)
 rw[this];rfl
def shA(s:S8):Nat->Array aG
 | 0=> #[O I s.a,O I s.b,O I s.c,O I s.d,O I s.e,O I s.f,O I s.g,O I s.h]
 | 1=> #[O I s.a,O I s.b,O I s.c,O I s.d,O I s.e,O I s.f,O I s.g,O I s.g]
 | 2=> #[O I s.a,O I s.b,O I s.c,O I s.d,O I s.e,O I s.f,O I s.f,O I s.g]
 | 3=> #[O I s.a,O I s.b,O I s.c,O I s.d,O I s.e,O I s.e,O I s.f,O I s.g]
 | 4=> #[O I s.a,O I s.b,O I s.c,O I s.d,O I s.d,O I s.e,O I s.f,O I s.g]
 | 5=> #[O I s.a,O I s.b,O I s.c,O I s.c,O I s.d,O I s.e,O I s.f,O I s.g]
 | 6=> #[O I s.a,O I s.b,O I s.b,O I s.c,O I s.d,O I s.e,O I s.f,O I s.g]
 | _=> #[O I s.a,O I s.a,O I s.b,O I s.c,O I s.d,O I s.e,O I s.f,O I s.g]
def adA(s t:S8):Nat->Array aG
 | 0=> #[O I s.a,O I s.b,O I s.c,O I s.d,O I s.e,O I s.f,O I s.g,O I s.h]
 | 1=> #[O I ((s.a+t.a) % 4294967296),O I s.b,O I s.c,O I s.d,O I s.e,O I s.f,O I s.g,O I s.h]
 | 2=> #[O I ((s.a+t.a) % 4294967296),O I ((s.b+t.b) % 4294967296),O I s.c,O I s.d,O I s.e,O I s.f,O I s.g,O I s.h]
 | 3=> #[O I ((s.a+t.a) % 4294967296),O I ((s.b+t.b) % 4294967296),O I ((s.c+t.c) % 4294967296),O I s.d,O I s.e,O I s.f,O I s.g,O I s.h]
 | 4=> #[O I ((s.a+t.a) % 4294967296),O I ((s.b+t.b) % 4294967296),O I ((s.c+t.c) % 4294967296),O I ((s.d+t.d) % 4294967296),O I s.e,O I s.f,O I s.g,O I s.h]
 | 5=> #[O I ((s.a+t.a) % 4294967296),O I ((s.b+t.b) % 4294967296),O I ((s.c+t.c) % 4294967296),O I ((s.d+t.d) % 4294967296),O I ((s.e+t.e) % 4294967296),O I s.f,O I s.g,O I s.h]
 | 6=> #[O I ((s.a+t.a) % 4294967296),O I ((s.b+t.b) % 4294967296),O I ((s.c+t.c) % 4294967296),O I ((s.d+t.d) % 4294967296),O I ((s.e+t.e) % 4294967296),O I ((s.f+t.f) % 4294967296),O I s.g,O I s.h]
 | 7=> #[O I ((s.a+t.a) % 4294967296),O I ((s.b+t.b) % 4294967296),O I ((s.c+t.c) % 4294967296),O I ((s.d+t.d) % 4294967296),O I ((s.e+t.e) % 4294967296),O I ((s.f+t.f) % 4294967296),O I ((s.g+t.g) % 4294967296),O I s.h]
 | _=> #[O I ((s.a+t.a) % 4294967296),O I ((s.b+t.b) % 4294967296),O I ((s.c+t.c) % 4294967296),O I ((s.d+t.d) % 4294967296),O I ((s.e+t.e) % 4294967296),O I ((s.f+t.f) % 4294967296),O I ((s.g+t.g) % 4294967296),O I ((s.h+t.h) % 4294967296)]
theorem JmD(s:S8)(m:Nat):(outL s m).length<=1000:=by
 unfold outL;have h:∀l:List Int,(l.flatMap λx=>beL x.toNat 4 4).length=4*l.length:=λl=>by
  induction l with
  | nil=>rfl
  | cons x r ih=>rw[QG,Qe,ih,Jf,Qp];omega
 rw[h,QB];have:s.list.length=8:=rfl;omega
theorem S8.U.get{s:S8}(h:s.U)(m:Nat)(hm:m<8):U32 (s.list.getD m 0):=by
 have hm:m=0\/m=1\/m=2\/m=3\/m=4\/m=5\/m=6\/m=7:=by omega
 rcases hm with rfl|rfl|rfl|rfl|rfl|rfl|rfl|rfl
 ·exact h.a
 ·exact h.b
 ·exact h.c
 ·exact h.d
 ·exact h.e
 ·exact h.f
 ·exact h.g
 ·exact h.h
theorem JnN(s t:S8)(m:Nat)(h:m<8):(adA s t m)[m]? =Z (O I (s.list.getD m 0))/\(adA s t m).setIfInBounds m (O I ((s.list.getD m 0+t.list.getD m 0) % 4294967296))=adA s t (m+1):=by
 have hm:m=0\/m=1\/m=2\/m=3\/m=4\/m=5\/m=6\/m=7:=by omega
 rcases hm with rfl|rfl|rfl|rfl|rfl|rfl|rfl|rfl<;>exact⟨rfl,rfl⟩
theorem JnK(s:S8)(m:Nat)(h:m<8):(z8 s)[m]? =Z (O I (s.list.getD m 0)):=by
 have hm:m=0\/m=1\/m=2\/m=3\/m=4\/m=5\/m=6\/m=7:=by omega
 rcases hm with rfl|rfl|rfl|rfl|rfl|rfl|rfl|rfl<;>rfl
theorem JqB(s:BA)(w:aA)(hs:s.size<1152921504606846976):
  aB N 163 #[L s] w λe w'=>e=aC (L ⟨(digL s.data.toList).toArray⟩)/\M D w w':=by
 have ff:J (∀V,_):=λV=>JmV s V hs;have gd:J (digL s.data.toList=outL (JV ((padS s.data.toList).length/64) H0 (padS s.data.toList)) 8):=by show digL _=_;rw[Jl0,JhO]
 obtain⟨(fh:J _),Hl⟩:=Jhw s.data.toList;rw[show s.data.toList.length=s.size by simp only[QA];rfl]at Hl;generalize padS s.data.toList=PL at *;generalize digL s.data.toList=DG at *;obtain⟨PT,hPT⟩:∃PT:BA,PT=⟨PL.toArray⟩:=⟨_,rfl⟩
 have hPS:PT.size=PL.length:=by rw[hPT,Jh]
 have cq:J (PT.data.toList=PL):=by show PT.data.toList=PL;rw[hPT]
 rw[<-hPT]at ff;clear hPT;go_enter func163,ntmps163;go_wp2_with fail;refine(ff _).mono ?_;rintro _ w1⟨rfl,(H3:J _)⟩;clear ff;go_wp2_with fail;refine(JhC _).mono ?_;rintro _ w2⟨gk,rfl,(zD:J _),ht⟩;have H4:J _:=H3.go ht;clear ht H3;obtain⟨W,(HW:J _)⟩:∃W,W=w2.alloc (T (z8 H0) 3):=⟨_,rfl⟩
 have gF:J (M D w W):=by show M _ w W;rw[HW];exact H4.go (Ta _ _ _)
 have cL:J (W.heap[w2.heap.size]? =Z (T (z8 H0) 3)):=by show W.heap[w2.heap.size]? =_;rw[HW];exact Qf _ _
 have qJ:J (W.heap[gk]? =Z (T (zV Ks).toArray 3)/\gk<w2.heap.size):=by
  have h1:=(Jb zD)
  refine⟨?_,h1⟩;rw[HW];exact((Ta D w2 _).block gk h1 (λh=>h)).trans zD.o
 have HB:J (w.heap.size<=w2.heap.size):=H4.size;obtain⟨gh,hgh⟩:∃gh,gh=w2.heap.size:=⟨_,rfl⟩
 rw[<-hgh]at cL qJ HB;go_upto_region 4 with fail;show Code.wp _ _ _ _ (w2.alloc (T (z8 H0) 3));rw[<-HW.o,<-hgh];clear HW zD hgh;have hplb:PL.length<=1152921504606847100:=by omega
 clear Hl;go_wp2;go_loopw [6] (λv6 wr=>∃aU j:Nat,J (aU=64*j)/\aU<=PL.length/\v6=O I (aU:Int)/\J (wr.heap[gh]? =Z (T (z8 (JV j H0 PL)) 3))/\J (M (λx=>x=gh) W wr)) (λv6 _=>PL.length-(intOf v6).toNat)
 case atStart=>exact⟨0,0,rfl,Nat.zero_le _,rfl,cL,Te _ _⟩
 case round=>
  obtain⟨aU,j,HM,hM,rfl,HR,HT⟩:=hrel
  by_cases H5:aU<PL.length
  ·have uL:(aU:Int)<(PT.size:Int):=(by omega);have hM64:aU+64<=PL.length:=(by have:=HM.o;have:=fh.o;omega);have hw64:I.wrap ((aU:Int)+64)=(aU:Int)+64:=w63 _ (by omega) (by omega);have i1:(aU:Int)<=(aU:Int)+64:=(by omega);have i2:(aU:Int)+64<=(PT.size:Int):=(by omega);have i3:(0:Int)<=(aU:Int)+64:=(by omega);have n1:((aU:Int)+64).toNat=aU+64:=(by omega);have n2:aU+64<=PT.size:=(by omega);have cH:J ((PT.extract aU (aU+64)).data.toList=(PL.drop (64*j)).take 64):=by
    show (PT.extract aU (aU+64)).data.toList=_;rw[ByteArray.data_extract,Array.toList_extract,cq.o,List.extract_eq_take_drop,HM.o];simp
   have HSC:J (∀V,aB N 251 #[L (PT.extract aU (aU+64))] V λe w'=>∃v,e=aC v/\ZOwn V.heap.size w' v (Wl (PT.extract aU (aU+64)).data.toList 64)/\M D V w'):=λV=>JiS _ (by rw[ByteArray.size_extract];omega) V;go_wp2_with fail;refine(HSC _).mono ?_;rintro _ w4⟨vw,rfl,hz,Ho⟩;have He:J (M D wr w4):=Ho;have HZ4:J (ZOwn wr.heap.size w4 vw (Wl ((PL.drop (64*j)).take 64) 64)):=(by have:=hz;rw[cH.o]at this;exact this);clear hz Ho HSC cH;have uO:=XA ((PL.drop (64*j)).take 64) 64;obtain⟨gw,cw,hvw,nF,hcw⟩:=HZ4.at (λe=>by rw[e]at uO;simp at uO);rw[uO]at hvw;subst hvw;have jp:=Jqx w4;have mu:gh<w4.heap.size:=Qk (Jb HR) He.size;obtain⟨gv,hgv⟩:∃gv,gv=w4.heap.size:=⟨_,rfl⟩
   have qT:(w4.alloc (T z80 3)).heap[gh]? =Z (T (z8 (JV j H0 PL)) 3):=(((Ta D w4 (T z80 3)).block gh mu (λh=>h)).trans (He.block gh (Jb HR) (λh=>h))).trans HR.o;have uI:=JnZ (w4.alloc (T z80 3)) w4.heap.size gh (JV j H0 PL) (Qf _ _) qT 3;obtain⟨W5,fi⟩:∃W5,W5=(w4.alloc (T z80 3)).setRow w4.heap.size (z8 (JV j H0 PL)):=⟨_,rfl⟩
   rw[<-fi]at uI;go_upto_region 10 with fail;rw[<-fi,<-hgv];have fj:J ((JV j H0 PL).U):=S8.U.of (JcD j H0 PL Jii);have HFS:J (JV (j+1) H0 PL=addS (JV j H0 PL) (rs (Wl ((PL.drop (64*j)).take 64) 64) (JV j H0 PL) 64)):=rfl;have HWU:J (∀i,i<64->U32 ((Wl ((PL.drop (64*j)).take 64) 64).getD i 0)):=λi hi=>by
    rw[Qn,Qd (by rw[uO];exact hi)];exact Jik _ _ _ (Qx _)
   have tZ:M D w4 W5:=(by rw[fi];exact((Ta D w4 (T z80 3)).trans (Ts _ _ _) (λx hx=>.inr (by rw[hx];exact Ql _))));have Hv:W5.heap[gv]? =Z (T (z8 (JV j H0 PL)) 3):=(by rw[fi,hgv];exact Qi _ _ _ _ _ _ (Qf _ _));have jY:J (W5.heap[gv]? =Z (T (z8 (JV j H0 PL)) 3)):=Hv;have jZ:J (W5.heap[gh]? =Z (T (z8 (JV j H0 PL)) 3)):=((tZ.block gh mu (λh=>h)).trans (He.block gh (Jb HR) (λh=>h))).trans HR.o;have HK5:J (W5.heap[gk]? =Z (T (zV Ks).toArray 3)):=by
    have h0:=(Jb qJ.1)
    have h1:=(HT.block gk h0 (λe=>by have:=qJ.o.2;omega)).trans qJ.1;have h2:=(He.block gk (Jb h1) (λh=>h)).trans h1;exact(tZ.block gk (Jb h2) (λh=>h)).trans h2
   have HW5:J (∀i,i<64->W5.cell? ⟨gw,i,Y⟩=Z (O I ((Wl ((PL.drop (64*j)).take 64) 64).getD i 0))):=λi hi=>by
    rw[tZ.cell (p:=⟨gw,i,Y⟩) nF (λh=>h),hcw i (by rw[uO];exact hi),Qn,Qd (by rw[uO];exact hi)];rfl
   have qR:J (gh ≠ gv/\gk ≠ gv/\gw ≠ gv):=by
    refine⟨by omega,?_,by omega⟩;have h0:=(Jb qJ.1)
    have:=HT.o.size;have:=He.o.size;omega
   have Hu:J (M D wr W5):=He.go tZ;have HGV:J (W.heap.size<=gv):=(by have h1:=HT.o.size;have h2:=He.o.size;show W.heap.size<=gv;omega);clear fi uI qT jp tZ Hv hcw nF hgv mu HZ4 He uO;generalize Wl ((PL.drop (64*j)).take 64) 64=ws at *;generalize JV j H0 PL=S at *;go_wp2;go_loopw [9] (λv9 wy=>∃i:Nat,i<=64/\v9=O I (i:Int)/\J (wy.heap[gv]? =Z (T (z8 (rs ws S i)) 3))/\J (M (λx=>x=gv) W5 wy)) (λv9 _=>64-(intOf v9).toNat)
   case atStart=>exact⟨0,by omega,rfl,jY,Te _ _⟩
   case round=>
    clear H5 uL i1 i2 i3 n1 n2 hw64;obtain⟨i,hi,rfl,nG,fk⟩:=hrel
    by_cases H5:i<64
    ·have uL:(i:Int)<64:=(by omega);have gy:J (rs ws S (i+1)=rnd (Ks.getD i 0) (ws.getD i 0) (rs ws S i)):=rfl;have HU:J ((rs ws S i).U):=S8.U.rs fj ws i;have HUW:=HWU i H5;have HUK:=Jpm i;have kN:J (∀V,M D wr V->V.heap[gv]? =Z (T (z8 (rs ws S i)) 3)/\V.cell? ⟨gk,i,Y⟩=Z (O I (Ks.getD i 0))/\V.cell? ⟨gw,i,Y⟩=Z (O I (ws.getD i 0))):=λV hT=>by
      have hc:=HW5 i H5;have nF:=Qr _ _ hc;have h1:=(fk.block gk (Jb HK5) qR.2.1).trans HK5.o;have h2:=(hT.block gk (Jb h1) (λh=>h)).trans h1;have h3:=(fk.cell (p:=⟨gw,i,Y⟩) nF qR.2.2).trans hc;refine⟨(hT.block gv (Jb nG) (λh=>h)).trans nG,?_,(hT.cell (p:=⟨gw,i,Y⟩) (Qr _ _ h3) (λh=>h)).trans h3⟩;rw[Ja h2];have hk:i<Ks.length:=H5;simp[zV,List.getD_eq_getElem?_getD,hk]
     have hrf:=JoJ (Ks.getD i 0) (ws.getD i 0) HU.o;rw[hrf]at gy;clear hrf;generalize Ks.getD i 0=kk at *;generalize ws.getD i 0=ww at *;generalize hTT:rs ws S i=aY at *;clear hTT;obtain⟨a,b,c,d,e,f,g,h⟩:=aY;obtain⟨ua,ub,uc,ud,ue,uf,ug,uh⟩:=HU.o;simp only at ua ub uc ud ue uf ug uh gy;have kE:=gy.o;simp only[tR]at kE;have gy:J (_=_):=kE;clear kE;have HUE:J (U32 (bigE e)/\U32 (bigA a)):=⟨Xi _ _ _,Xi _ _ _⟩
     have HMJ:J (bits .xor I (bits .xor I (bits .and I a b) (bits .and I a c)) (bits .and I b c)=maj ⟨a,b,c,d,e,f,g,h⟩/\U32 (maj ⟨a,b,c,d,e,f,g,h⟩)):=(by refine⟨?_,Xi _ _ _⟩;rw[JbT ua ub,JbT ua uc,JbT ub uc,YS (Xi _ _ _) (Xi _ _ _),YS (Xi _ _ _) (Xi _ _ _)];rfl);generalize maj ⟨a,b,c,d,e,f,g,h⟩=aU at *;have HV:J (∀V,M D wr V->(V.cell? ⟨gv,0,Y⟩=Z (O I a)/\V.cell? ⟨gv,1,Y⟩=Z (O I b)/\V.cell? ⟨gv,2,Y⟩=Z (O I c)/\V.cell? ⟨gv,3,Y⟩=Z (O I d))/\(V.cell? ⟨gv,4,Y⟩=Z (O I e)/\V.cell? ⟨gv,5,Y⟩=Z (O I f)/\V.cell? ⟨gv,6,Y⟩=Z (O I g)/\V.cell? ⟨gv,7,Y⟩=Z (O I h))/\V.cell? ⟨gk,i,Y⟩=Z (O I kk)/\V.cell? ⟨gw,i,Y⟩=Z (O I ww)):=λV hV=>by
      obtain⟨h1,h2,h3⟩:=kN V hV;exact⟨⟨Ja h1,Ja h1,Ja h1,Ja h1⟩,⟨Ja h1,Ja h1,Ja h1,Ja h1⟩,h2,h3⟩
     have k8:J (∀V,aB N 252 #[O I e,O I 6] V λx w'=>x=aC (O I (rr 6 e))/\M D V w'):=λV=>Yp e ue 6 (by decide) V;have xD:J (∀V,aB N 252 #[O I e,O I 11] V λx w'=>x=aC (O I (rr 11 e))/\M D V w'):=λV=>Yp e ue 11 (by decide) V;have fm:J (∀V,aB N 252 #[O I e,O I 25] V λx w'=>x=aC (O I (rr 25 e))/\M D V w'):=λV=>Yp e ue 25 (by decide) V;have H4:J (∀V,aB N 252 #[O I a,O I 2] V λx w'=>x=aC (O I (rr 2 a))/\M D V w'):=λV=>Yp a ua 2 (by decide) V;have fo:J (∀V,aB N 252 #[O I a,O I 13] V λx w'=>x=aC (O I (rr 13 a))/\M D V w'):=λV=>Yp a ua 13 (by decide) V;have fp:J (∀V,aB N 252 #[O I a,O I 22] V λx w'=>x=aC (O I (rr 22 a))/\M D V w'):=λV=>Yp a ua 22 (by decide) V;have vV:J (bits .xor I (bits .xor I (rr 6 e) (rr 11 e)) (rr 25 e)=bigE e):=(by show bits _ _ _ _=_;rw[YS (ZX _ _) (ZX _ _),YS (Xi _ _ _) (ZX _ _)];rfl);have zm:J (bits .xor I (bits .xor I (rr 2 a) (rr 13 a)) (rr 22 a)=bigA a):=(by show bits _ _ _ _=_;rw[YS (ZX _ _) (ZX _ _),YS (Xi _ _ _) (ZX _ _)];rfl);generalize bigE e=E at *;generalize bigA a=A at *;generalize rr 6 e=r6 at *;generalize rr 11 e=r11 at *;generalize rr 25 e=r25 at *;generalize rr 2 a=r2 at *;generalize rr 13 a=r13 at *;generalize rr 22 a=r22 at *;obtain⟨⟨qa,qb,qc,qd⟩,⟨qe,qf,qg,qh⟩,qk,qw⟩:=HV wr (Te _ _);go_upto_region 13 with fail;go_cut [10] (λv wx=>v=O I E/\J (M D wr wx))
     case first=>
      go_region_held3 (λV=>V.cell? ⟨gv,4,Y⟩=Z (O I e)) (go_keep) ((first
       | (go_at_call_of 252 (lM I 6);refine(k8 _).mono ?_;rintro _ wa⟨rfl,zU⟩;have t7:J (M D wr wa):=(Td D wr 1).go zU;have f15:=(HV _ t7).2.1.1;clear zU)
       | (go_at_call_of 252 (lM I 11);refine(xD _).mono ?_;rintro _ wb⟨rfl,zW⟩;have ti:J (M D wr wb):=t7.go zW;have g15:=(HV _ ti).2.1.1;clear zW)
       | (go_at_call_of 252 (lM I 25);refine(fm _).mono ?_;rintro _ wd⟨rfl,fs⟩;have mZ:J (M D wr wd):=ti.go fs;have h15:=(HV _ mZ).2.1.1;clear fs)))
      all_goals go_wp2;go_meet;exact⟨by first|rw[<-vV.o]|(rw[<-vV.o];rfl),mZ⟩
     case rest=>
     obtain⟨rfl,Hz⟩:=hcut;obtain⟨wA,gH⟩:∃wA,wA=wc:=⟨wc,rfl⟩
     subst gH;clear qa qb qc qd qe qf qg qh qk qw k8 xD fm vV;obtain⟨ue1,ue2⟩:=ue;have nH:I.wrap (4294967295-e)=4294967295-e:=w63 _ (by omega) (by omega);have HCH:J (bits .xor I (bits .and I e f) (bits .and I (4294967295-e) g)=cho ⟨a,b,c,d,e,f,g,h⟩):=by show bits _ _ _ _=_;rw[JbT ⟨ue1,ue2⟩ uf,JbT ⟨by omega,by omega⟩ ug,YS (Xi _ _ _) (Xi _ _ _)];rfl
     have HUC:J (U32 (cho ⟨a,b,c,d,e,f,g,h⟩)):=Xi _ _ _;generalize cho ⟨a,b,c,d,e,f,g,h⟩=C at *;obtain⟨⟨qa,qb,qc,qd⟩,⟨qe,qf,qg,qh⟩,qk,qw⟩:=HV wA Hz.o;go_upto_region 14 with fail;go_cut [11] (λv wx=>v=O I C/\J (M D wr wx))
     case first=>
      go_region_held3 (λV=>V.cell? ⟨gv,4,Y⟩=Z (O I e)/\V.cell? ⟨gv,5,Y⟩=Z (O I f)/\V.cell? ⟨gv,6,Y⟩=Z (O I g)) (go_keep) (fail)
      all_goals go_wp2;go_meet;exact⟨by first|rw[<-HCH.o]|(rw[<-HCH.o];rfl),Hz.go (Td D wA 1)⟩
     case rest=>
     obtain⟨rfl,gE⟩:=hcut;obtain⟨wB,xq⟩:∃wB,wB=wc:=⟨wc,rfl⟩
     subst xq;clear qa qb qc qd qe qf qg qh qk qw HCH nH;obtain⟨uC1,uC2⟩:=HUC.o;obtain⟨⟨uE1,uE2⟩,⟨uA1,uA2⟩⟩:=HUE.o;obtain⟨uh1,uh2⟩:=uh;obtain⟨uk1,uk2⟩:=HUK;obtain⟨uw1,uw2⟩:=HUW;have w1:I.wrap (h+E)=h+E:=w63 _ (by omega) (by omega);have w2:I.wrap (h+E+C)=h+E+C:=w63 _ (by omega) (by omega);have w3:I.wrap (h+E+C+kk)=h+E+C+kk:=w63 _ (by omega) (by omega);have w4:I.wrap (h+E+C+kk+ww)=h+E+C+kk+ww:=w63 _ (by omega) (by omega);obtain⟨t,ht⟩:∃t,(h+E+C+kk+ww) % 4294967296=t:=⟨_,rfl⟩
     rw[ht]at gy;have mv:J (Int.tmod (h+E+C+kk+ww) 4294967296=t/\0<=t/\t<4294967296):=(by refine⟨by rw[lI (by omega)];exact ht,by omega,by omega⟩);clear ht;obtain⟨⟨qa,qb,qc,qd⟩,⟨qe,qf,qg,qh⟩,qk,qw⟩:=HV wB gE.o;go_upto_region 15 with fail;go_cut [12] (λv wx=>v=O I t/\J (M D wr wx))
     case first=>
      go_region_held3 (λV=>V.cell? ⟨gv,7,Y⟩=Z (O I h)/\V.cell? ⟨gk,i,Y⟩=Z (O I kk)/\V.cell? ⟨gw,i,Y⟩=Z (O I ww)) (go_keep) (fail)
      all_goals go_wp2;go_meet;exact⟨by first|rw[<-mv.o.1]|(rw[<-mv.o.1];rfl),gE.go (Td D wB 1)⟩
     case rest=>
     obtain⟨rfl,jz⟩:=hcut;obtain⟨wC,rD⟩:∃wC,wC=wc:=⟨wc,rfl⟩
     subst rD;clear qa qb qc qd qe qf qg qh qk qw w1 w2 w3 w4 gE Hz;obtain⟨⟨qa,qb,qc,qd⟩,⟨qe,qf,qg,qh⟩,qk,qw⟩:=HV wC jz.o;go_upto_region 16 with fail;go_cut [13] (λv wx=>v=O I A/\J (M D wr wx))
     case first=>
      go_region_held3 (λV=>V.cell? ⟨gv,0,Y⟩=Z (O I a)) (go_keep) ((first
       | (go_at_call_of 252 (lM I 2);refine(H4 _).mono ?_;rintro _ wa⟨rfl,zU⟩;have t7:J (M D wr wa):=(jz.go (Td D wC 1)).go zU;have f15:=(HV _ t7).1.1;clear zU)
       | (go_at_call_of 252 (lM I 13);refine(fo _).mono ?_;rintro _ wb⟨rfl,zW⟩;have ti:J (M D wr wb):=t7.go zW;have g15:=(HV _ ti).1.1;clear zW)
       | (go_at_call_of 252 (lM I 22);refine(fp _).mono ?_;rintro _ wd⟨rfl,fs⟩;have mZ:J (M D wr wd):=ti.go fs;have h15:=(HV _ mZ).1.1;clear fs)))
      all_goals go_wp2;go_meet;exact⟨by first|rw[<-zm.o]|(rw[<-zm.o];rfl),mZ⟩
     case rest=>
     obtain⟨rfl,pH⟩:=hcut;obtain⟨wD,ft⟩:∃wD,wD=wc:=⟨wc,rfl⟩
     subst ft;clear qa qb qc qd qe qf qg qh qk qw jz H4 fo fp zm;obtain⟨⟨qa,qb,qc,qd⟩,⟨qe,qf,qg,qh⟩,qk,qw⟩:=HV wD pH.o;go_upto_region 17 with fail;go_cut [14] (λv wx=>v=O I aU/\J (M D wr wx))
     case first=>
      go_region_held3 (λV=>V.cell? ⟨gv,0,Y⟩=Z (O I a)/\V.cell? ⟨gv,1,Y⟩=Z (O I b)/\V.cell? ⟨gv,2,Y⟩=Z (O I c)) (go_keep) (fail)
      all_goals go_wp2;go_meet;exact⟨by first|rw[<-HMJ.o.1]|(rw[<-HMJ.o.1];rfl),pH.go (Td D wD 1)⟩
     case rest=>
     obtain⟨rfl,fu⟩:=hcut;obtain⟨wE,hwE⟩:∃wE,wE=wc:=⟨wc,rfl⟩
     subst hwE;clear qa qb qc qd qe qf qg qh qk qw pH;have ke:J (wE.heap[gv]? =Z (T (shA ⟨a,b,c,d,e,f,g,h⟩ 0) 3)):=(kN wE fu).1;go_upto_region 18 with fail;go_wp2;go_loopw [15] (λv15 wy=>∃m:Nat,m<=7/\v15=O I (7-(m:Int))/\J (wy.heap[gv]? =Z (T (shA ⟨a,b,c,d,e,f,g,h⟩ m) 3))/\J (M (λx=>x=gv) wr wy)) (λv15 _=>(intOf v15).toNat)
     case atStart=>exact⟨0,by omega,rfl,ke,fu.mono noE⟩
     case round=>
      clear fu ke HV kN;obtain⟨m,hm,rfl,xQ,vW⟩:=hrel
      by_cases H5:m<7
      ·have tj:m=0\/m=1\/m=2\/m=3\/m=4\/m=5\/m=6:=by omega
       rcases tj with rfl|rfl|rfl|rfl|rfl|rfl|rfl
       ·have hZ:=xQ.o;obtain⟨-, -, -, -, -, -,q,q'⟩:=rows hZ;have z:wr.frozen? ⟨gv,7,Y⟩=false:=(by simp[lH,hZ]);have ki:J (wr.setCell ⟨gv,7,Y⟩ (O I g)=wr.setRow gv (shA ⟨a,b,c,d,e,f,g,h⟩ 1)):=Qj wr gv 7 _ _ _ _ hZ;clear hZ;go_wp2;go_roundw
        case rel=>exact⟨1,by omega,rfl,by rw[ki.o];exact Qi _ _ _ _ _ _ xQ,by rw[ki.o];exact vW.trans (Ts _ _ _) (λ_ h=>.inl h)⟩
        case measure=>simp[intOf]
       ·have hZ:=xQ.o;obtain⟨-, -, -, -, -,q,q'⟩:=rows hZ;have z:wr.frozen? ⟨gv,6,Y⟩=false:=(by simp[lH,hZ]);have ki:J (wr.setCell ⟨gv,6,Y⟩ (O I f)=wr.setRow gv (shA ⟨a,b,c,d,e,f,g,h⟩ 2)):=Qj wr gv 6 _ _ _ _ hZ;clear hZ;go_wp2;go_roundw
        case rel=>exact⟨2,by omega,rfl,by rw[ki.o];exact Qi _ _ _ _ _ _ xQ,by rw[ki.o];exact vW.trans (Ts _ _ _) (λ_ h=>.inl h)⟩
        case measure=>simp[intOf]
       ·have hZ:=xQ.o;obtain⟨-, -, -, -,q,q'⟩:=rows hZ;have z:wr.frozen? ⟨gv,5,Y⟩=false:=(by simp[lH,hZ]);have ki:J (wr.setCell ⟨gv,5,Y⟩ (O I e)=wr.setRow gv (shA ⟨a,b,c,d,e,f,g,h⟩ 3)):=Qj wr gv 5 _ _ _ _ hZ;clear hZ;go_wp2;go_roundw
        case rel=>exact⟨3,by omega,rfl,by rw[ki.o];exact Qi _ _ _ _ _ _ xQ,by rw[ki.o];exact vW.trans (Ts _ _ _) (λ_ h=>.inl h)⟩
        case measure=>simp[intOf]
       ·have hZ:=xQ.o;obtain⟨-, -, -,q,q'⟩:=rows hZ;have z:wr.frozen? ⟨gv,4,Y⟩=false:=(by simp[lH,hZ]);have ki:J (wr.setCell ⟨gv,4,Y⟩ (O I d)=wr.setRow gv (shA ⟨a,b,c,d,e,f,g,h⟩ 4)):=Qj wr gv 4 _ _ _ _ hZ;clear hZ;go_wp2;go_roundw
        case rel=>exact⟨4,by omega,rfl,by rw[ki.o];exact Qi _ _ _ _ _ _ xQ,by rw[ki.o];exact vW.trans (Ts _ _ _) (λ_ h=>.inl h)⟩
        case measure=>simp[intOf]
       ·have hZ:=xQ.o;obtain⟨-, -,q,q'⟩:=rows hZ;have z:wr.frozen? ⟨gv,3,Y⟩=false:=(by simp[lH,hZ]);have ki:J (wr.setCell ⟨gv,3,Y⟩ (O I c)=wr.setRow gv (shA ⟨a,b,c,d,e,f,g,h⟩ 5)):=Qj wr gv 3 _ _ _ _ hZ;clear hZ;go_wp2;go_roundw
        case rel=>exact⟨5,by omega,rfl,by rw[ki.o];exact Qi _ _ _ _ _ _ xQ,by rw[ki.o];exact vW.trans (Ts _ _ _) (λ_ h=>.inl h)⟩
        case measure=>simp[intOf]
       ·have hZ:=xQ.o;obtain⟨-,q,q'⟩:=rows hZ;have z:wr.frozen? ⟨gv,2,Y⟩=false:=(by simp[lH,hZ]);have ki:J (wr.setCell ⟨gv,2,Y⟩ (O I b)=wr.setRow gv (shA ⟨a,b,c,d,e,f,g,h⟩ 6)):=Qj wr gv 2 _ _ _ _ hZ;clear hZ;go_wp2;go_roundw
        case rel=>exact⟨6,by omega,rfl,by rw[ki.o];exact Qi _ _ _ _ _ _ xQ,by rw[ki.o];exact vW.trans (Ts _ _ _) (λ_ h=>.inl h)⟩
        case measure=>simp[intOf]
       ·have hZ:=xQ.o;obtain⟨q,q'⟩:=rows hZ;have z:wr.frozen? ⟨gv,1,Y⟩=false:=(by simp[lH,hZ]);have ki:J (wr.setCell ⟨gv,1,Y⟩ (O I a)=wr.setRow gv (shA ⟨a,b,c,d,e,f,g,h⟩ 7)):=Qj wr gv 1 _ _ _ _ hZ;clear hZ;go_wp2;go_roundw
        case rel=>exact⟨7,by omega,rfl,by rw[ki.o];exact Qi _ _ _ _ _ _ xQ,by rw[ki.o];exact vW.trans (Ts _ _ _) (λ_ h=>.inl h)⟩
        case measure=>simp[intOf]
      ·obtain rfl:m=7:=(by omega);have hZ:=xQ.o;obtain⟨-, -, -, -,q4⟩:=rows hZ;have z4:wr.frozen? ⟨gv,4,Y⟩=false:=(by simp[lH,hZ]);obtain⟨ud1,ud2⟩:=ud;obtain⟨_,ut1,ut2⟩:=mv.o;obtain⟨uM1,uM2⟩:=HMJ.2;have w1:I.wrap (d+t)=d+t:=w63 _ (by omega) (by omega);have w2:I.wrap (t+A)=t+A:=w63 _ (by omega) (by omega);have w3:I.wrap (t+A+aU)=t+A+aU:=w63 _ (by omega) (by omega);obtain⟨wF,hwF⟩:∃wF,wF=wr.setRow gv #[O I a,O I a,O I b,O I c,O I ((d+t) % 4294967296),O I e,O I f,O I g]:=⟨_,rfl⟩
       have sS:J (wr.setCell ⟨gv,4,Y⟩ (O I ((d+t) % 4294967296))=wF):=(by rw[hwF];exact Qj wr gv 4 _ _ _ _ hZ);have yX:wF.heap[gv]? =Z (T #[O I a,O I a,O I b,O I c,O I ((d+t) % 4294967296),O I e,O I f,O I g] 3):=(by rw[hwF];exact Qi _ _ _ _ _ _ hZ);have HTF:J (M (λx=>x=gv) W5 wF):=(by rw[hwF];exact(fk.trans vW (λ_ h=>.inl h)).trans (Ts _ _ _) (λ_ h=>.inl h));have hz:z8 (rs ws S (i+1))= #[O I ((t+A+aU) % 4294967296),O I a,O I b,O I c,O I ((d+t) % 4294967296),O I e,O I f,O I g]:=(by rw[gy.o];rfl);have rz:J (wF.setCell ⟨gv,0,Y⟩ (O I ((t+A+aU) % 4294967296))=wF.setRow gv (z8 (rs ws S (i+1)))):=(by rw[hz];exact Qj wF gv 0 _ _ _ _ yX);obtain⟨q0, -⟩:=rows yX;have z0:wF.frozen? ⟨gv,0,Y⟩=false:=(by simp[lH,yX]);have qA:J (_=_):=yX;clear hwF hz hZ yX;go_upto_region 23 with fail;rw[sS.o];go_wp2;go_roundw
       case rel=>exact⟨i+1,by omega,by go_num,by rw[rz.o];exact Qi _ _ _ _ _ _ qA,by rw[rz.o];exact HTF.trans (Ts _ _ _) (λ_ h=>.inl h)⟩
       case measure=>simp[intOf];omega
    ·obtain rfl:i=64:=(by omega);have ke:J (wr.heap[gh]? =Z (T (adA S (rs ws S 64) 0) 3)):=(fk.block gh (Jb jZ) qR.1).trans jZ.o;have HUT:J ((rs ws S 64).U):=S8.U.rs fj ws 64;have fT:J (adA S (rs ws S 64) 8=z8 (addS S (rs ws S 64))):=rfl;clear HWU;go_upto_region 24 with fail;go_wp2;go_loopw [16] (λv16 wy=>∃m:Nat,m<=8/\v16=O I (m:Int)/\J (wy.heap[gh]? =Z (T (adA S (rs ws S 64) m) 3))/\J (M (λx=>x=gh) wr wy)) (λv16 _=>8-(intOf v16).toNat)
     case atStart=>exact⟨0,by omega,rfl,ke,Te _ _⟩
     case round=>
      clear ke;obtain⟨m,hm,rfl,xQ,vW⟩:=hrel;rename_i wq _
      by_cases H5:m<8
      ·have Hv:=(vW.block gv (Jb nG) (λe=>qR.1 e.symm)).trans nG.o;have hZ:=xQ.o;obtain⟨g1,g2⟩:=JnN S (rs ws S 64) m H5;have uL:(m:Int)<8:=(by omega);obtain⟨ux,ux'⟩:U32 (S.list.getD m 0)/\U32 ((rs ws S 64).list.getD m 0):=⟨fj.get m H5,HUT.get m H5⟩
       have q:wr.cell? ⟨gh,m,Y⟩=Z (O I (S.list.getD m 0)):=(Ja hZ).trans g1;have q':wr.cell? ⟨gv,m,Y⟩=Z (O I ((rs ws S 64).list.getD m 0)):=(Ja Hv).trans (JnK _ m H5);have z:wr.frozen? ⟨gh,m,Y⟩=false:=(by simp[lH,hZ]);have ki:J (wr.setCell ⟨gh,m,Y⟩ (O I ((S.list.getD m 0+(rs ws S 64).list.getD m 0) % 4294967296))=wr.setRow gh (adA S (rs ws S 64) (m+1))):=(by rw[<-g2];exact Qj wr gh m _ _ _ _ hZ);clear hZ Hv g1 g2;generalize S.list.getD m 0=x at *;generalize (rs ws S 64).list.getD m 0=x' at *;obtain⟨ux1,ux2⟩:=ux;obtain⟨uy1,uy2⟩:=ux';have w1:I.wrap (x+x')=x+x':=w63 _ (by omega) (by omega);have w2:0<=x+x':=(by omega);go_upto_region 27 with fail;refine Xn (S:=λV=>V.cell? ⟨gh,m,Y⟩=Z (O I x)/\V.cell? ⟨gv,m,Y⟩=Z (O I x')) 20 (by simp) (by kernel_rfl) (by kernel_rfl) ⟨q,q'⟩ ?_;intro hHeld l o hl ho;simp only[lJ,lK]at hl;simp only[lF,lG]at ho;subst hl;subst ho;simp only[Qp,Qv,lX];refine tkL 0 ?_;simp only[lC,Qa,Qb,Qc];refine tkL 1 ?_;simp only[lC,Qa,Qb,Qc];refine tkL 2 ?_;simp only[lC,Qa,Qb,Qc];refine tkL 3 ?_;simp only[lC,Qa,Qb,Qc];refine tkL 4 ?_;simp only[lC,Qa,Qb,Qc];refine tkL 5 ?_;simp only[lC,Qa,Qb,Qc];refine tkL 6 ?_;simp only[lC,Qa,Qb,Qc];refine tkL 7 ?_;simp only[lC,Qa,Qb,Qc];refine tkL 8 ?_;simp only[lC,Qa,Qb,Qc];refine tkL 9 ?_;simp only[lC,Qa,Qb,Qc];refine tkL 10 ?_;simp only[lC,Qa,Qb,Qc];refine tkL 11 ?_;simp only[lC,Qa,Qb,Qc];refine tkL 12 ?_;simp only[lC,Qa,Qb,Qc];refine wpAnyH_done (by kernel_rfl) ?_ _;show wpList _ _ _ [_] _ _;go_wp2;go_roundw
       case rel=>exact⟨m+1,by omega,by go_num,by first|(rw[ki.o];exact Qi _ _ _ _ _ _ xQ)|(have h5:=ki.o;rw[<-lI w2]at h5;rw[h5];exact Qi _ _ _ _ _ _ xQ),by first|(rw[ki.o];exact(vW.trans (Ts _ _ _) (λ_ h=>.inl h)).trans (Td D _ 1) noE)|(have h5:=ki.o;rw[<-lI w2]at h5;rw[h5];exact(vW.trans (Ts _ _ _) (λ_ h=>.inl h)).trans (Td D _ 1) noE)⟩
       case measure=>simp[intOf];omega
      ·obtain rfl:m=8:=(by omega);go_wp2;go_roundw
       case rel=>
        refine⟨aU+64,j+1,by have:=HM.o;show aU+64=64*(j+1);omega,hM64,by go_num,?_,?_⟩
        ·have:=xQ.o;rw[fT.o,<-HFS.o]at this;exact this
        ·refine((HT.trans Hu noE).trans fk (λx hx=>.inr (by have:=HGV.o;subst hx;omega))).trans vW (λx hx=>.inl hx)
       case measure=>simp[intOf];omega
  ·have uL:¬(aU:Int)<(PT.size:Int):=(by omega);have HJ:J (j=PL.length/64):=by
    have h1:=HM.o;have h2:=fh.o;show j=PL.length/64;omega
   have fj:J ((JV j H0 PL).U):=S8.U.of (JcD j H0 PL Jii);have HDG2:J (DG=outL (JV j H0 PL) 8):=(by show DG=_;rw[gd.o,HJ.o]);have HTF:J (M D w wr):=gF.trans HT (λx hx=>.inr (by have:=HB.o;subst hx;omega));clear gd HJ;generalize JV j H0 PL=S at *;have yH:J (∀(n:Nat)(V:aA),aB N 171 #[O aD (n:Int),O I 4] V λe w'=>e=aC (L ⟨(beL n 4 4).toArray⟩)/\M D V w'):=λn V=>XU n 4 V (by omega);go_wp2;go_loopw [17,18] (λvo vi wy=>∃m:Nat,m<=8/\vi=O I (m:Int)/\vo=L ⟨(outL S m).toArray⟩/\J (M D wr wy)) (λ_ vi _=>8-(intOf vi).toNat)
   case atStart=>exact⟨0,by omega,rfl,rfl,Te _ _⟩
   case round=>
    obtain⟨m,hm,rfl,rfl,mv⟩:=hrel;rename_i wq _
    by_cases H5:m<8
    ·have fx:(m:Int)<8:=(by omega);have hZ:=(mv.block gh (Jb HR) (λh=>h)).trans HR.o;have q:=(Ja hZ).trans (JnK S m H5);obtain⟨u1,u2⟩:=fj.get m H5;have hos:=JkO S m H5;obtain⟨n,hn⟩:∃n:Nat,S.list.getD m 0=(n:Int):=⟨(S.list.getD m 0).toNat,by omega⟩
     rw[hn]at q u1 u2 hos;rw[Int.toNat_natCast]at hos;have yq:IntKind.u64.wrap (n:Int)=(n:Int):=(by simp[IntKind.wrap,IntKind.bits,IntKind.signed];omega);have gW:=JO (outL S m) (beL n 4 4) (by
      rw[Jf];have:(outL S m).length<=1000:=JmD S m;omega)
     rw[<-hos]at gW;have HIN2:J (∀V,aB _ _ _ V _):=λV=>yH n V;clear hZ hn hos;generalize hX1:outL S (m+1)=X1 at *;generalize outL S m=X0 at *;have yP:J (_=X1):=hX1;clear hX1;generalize beL n 4 4=B4 at *;go_wp2_with (go_at_call 171;refine(HIN2 _).mono ?_;rintro _ w1⟨rfl,H6⟩;have H3:J (M _ wr w1):=H6;clear H6);go_roundw
     case rel=>exact⟨m+1,by omega,by go_num,by rw[yP.o],mv.trans H3 noE⟩
     case measure=>simp[intOf];omega
    ·obtain rfl:m=8:=(by omega);go_wp2;go_ret;exact⟨by rw[HDG2.o];rfl,HTF.trans mv noE⟩

theorem dgC:DgC:=by
 intro n s V h1 nI hs;have HA:J (∀V,aB N 163 #[L s] V λe w'=>∃aV,e=aC (L aV)/\(aV=⟨(digL s.data.toList).toArray⟩/\aV.size=32)/\M D V w'):=λV=>(JqB s V hs).mono (by
  rintro _ w'⟨rfl,h⟩;exact⟨_,rfl,⟨rfl,by rw[Jh,JaP]⟩,h⟩)
 have hn0:(0:Int)<=(n:Int):=by omega
 go_enter func103,ntmps103;go_wp2_with (go_at_call 163;refine(HA _).mono ?_;rintro _ w1⟨aV,rfl,⟨(HD:J _),hs32⟩,(H3:J _)⟩;have hnD:(n:Int)<=(aV.size:Int):=(by omega));go_ret;refine⟨?_,H3⟩;have e:aV.extract 0 n=dgW n s.data.toList:=Jb9 (by
  rw[HD.o,ByteArray.data_extract,Array.toList_extract];simp[dgW,List.extract_eq_take_drop])
 rw[<-e];rfl
theorem JmP(n:Int)(s:BA)(V:aA)(hs:s.size<1152921504606846976)(qu: -9223372036854775808<=n)(jT:n<9223372036854775808):
  aB N 113 #[O I n,L s] V λe w'=>M D V w'/\e=if 1<=n/\n<=32 then aC (aI #[L (dgW n.toNat s.data.toList),O I 0]) else aC (aI #[L ⟨#[]⟩,O I 1]):=by
 by_cases h1:n<1
 ·go_enter func113,ntmps113;go_wp2;go_ret2;refine⟨Te _ _,?_⟩;rfl
 ·by_cases h2:32<n
  ·go_enter func113,ntmps113;go_wp2;go_ret2;refine⟨Te _ _,?_⟩;rfl
  ·obtain⟨m,rfl⟩:∃m:Nat,n=(m:Int):=⟨n.toNat,by omega⟩
   have HD:J (∀V,aB N 103 #[O I (m:Int),L s] V λe w'=>∃aV,e=aC (L aV)/\aV=dgW m s.data.toList/\M D V w'):=λV=>(dgC m s V (by omega) (by omega) hs).mono (by rintro _ _⟨rfl,h⟩;exact⟨_,rfl,rfl,h⟩);have HP:J (1<=(m:Int)/\(m:Int)<=32):=⟨by omega,by omega⟩
   clear qu jT;go_enter func113,ntmps113;go_wp2_with (go_at_call 103;refine(HD _).mono ?_;rintro _ w1⟨aV,rfl,(HDD:J _),(H3:J _)⟩);go_ret2;refine⟨H3,?_⟩
   first
    | (rw[if_pos HP.o,HDD.o];rfl)
    | (rw[HDD.o];rfl)
