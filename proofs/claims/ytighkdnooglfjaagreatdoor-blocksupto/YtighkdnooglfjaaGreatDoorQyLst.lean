import Derived.Test.YtighkdnooglfjaaGreatDoorQyRws
import Derived.Shelf.Strconv.Itoa3
import Derived.Lib.ItoaLen
import Derived.Deep.RegionHeld3
open Go renaming Calls->aB,Value->aG,World->aA
open Go.Ending renaming returned->aC
open Go.IntKind renaming i64->I,u64->aD,u8->aE,u64->lP
open Go.Obj renaming cells->T
open Go.Proofs.Tryz renaming prog->N
open Go.RowKit renaming Hid->J
open Go.Value renaming agg->aH,bool->aL,iface->aJ,int->O,nilIface->aK,pointer->X,slice->R,string->L,tuple->aI
open Option renaming none->Y,some->Z,map_some->lG,none->lO
open Or renaming inl->aM,inr->aN
open Go.Instr renaming makeFunc->lM
open List renaming replicate->lC,take_append_of_le_length->lD,length_replicate->lE,getD_eq_getElem?_getD->lF,drop_eq_nil_of_le->lH,getElem_map->lJ,replicate_succ->lK,getElem?_map->lN
open Go.World renaming drewN_zero->lI
set_option maxRecDepth 100000
set_option maxHeartbeats 2000000
namespace Go.Proofs.YtighkdnooglfjaaGreatDoor
open Go.Proofs.Tryz
open Go.RowKit

variable {cs cur:Array aG}{Hc wj:Int}{s:List UInt8}{B aZ b cnt gp i k j6 m r x:Nat}{E:Nat->Addr}{S:Nat->Prop}{o o' o2:Obj}{g g' g1:Option Nat}{α:Type}{aY:TypeId}{err v:aG}{w w' w1 w2:aA}
def JbS(E:Nat->Addr)(w w':aA)(b:Nat)(g:Option Nat)(wj:Int):Prop:=
 ∃g' p' v,Jd w' b g' wj v p'/\Jn E 7 w' v/\Jq w g g'/\M (λk=>k=b\/Z k=g) w w'
theorem JmX{pp:Nat}{p:PS}{s:BA}(h:w.heap[pp]? =Z (T #[L s,v] 237))(hp:Jd w b g wj err p):¬pp=b:=by
 rintro rfl
 cases p using PS.on with
 | rd q r=>have:=hp.2;rw[h]at this;simp at this
 | wr d=>obtain⟨u,_,_,hr⟩:=hp;rw[h]at hr;simp at hr
def PS.takes(p:PS)(v:aG):Prop:=∀H4 rest,p=.rd H4 rest->v=R Y 0 0
theorem Jfx{p p1:PS}(ht:p.takes v)(h:p.num x k=Z (cnt,p1)):v=R Y 0 0\/x=cnt:=by
 cases p using PS.on with
 | rd q r=>exact aM (ht q r rfl)
 | wr d=>
  simp only[PS.num]at h
  split at h
  ·simp only[Qh,Qw]at h;exact aN h.1
  ·cases h
def PS.like:PS->PS->Prop
 | ⟨Sum.inl (_,_)⟩,⟨Sum.inl (_,_)⟩=>True
 | ⟨Sum.inr _⟩,⟨Sum.inr _⟩=>True
 | _,_=>False
theorem PS.like.refl(p:PS):p.like p:=by cases p using PS.on<;>trivial
theorem PS.like.trans{p q r:PS}(h:p.like q)(k:q.like r):p.like r:=by
 cases p using PS.on<;>cases q using PS.on<;>cases r using PS.on<;>first|trivial|cases h|cases k
theorem PS.like.takes{p q:PS}(h:p.like q)(k:p.takes v):q.takes v:=by
 intro r s hr;subst hr
 cases p using PS.on with
 | rd a c=>exact k a c rfl
 | wr d=>cases h
theorem Yo{p p1:PS}(h:p.num x k=Z (m,p1)):p.like p1:=by
 cases p using PS.on<;>(simp only[PS.num]at h;split at h<;>first|(cases h;done)|(simp only[Qh,Qw]at h;rw[<-h.2];trivial))
theorem Jih{p p1:PS}{m:List UInt8}(h:p.txt s k=Z (m,p1)):p.like p1:=by
 cases p using PS.on<;>(simp only[PS.txt]at h;split at h<;>first|(cases h;done)|(simp only[Qh,Qw]at h;rw[<-h.2];trivial))

def PS.many{α:Type}(f:α->PS->Option (α×PS)):List α->PS->Option (List α×PS)
 | [],p=>Z ([],p)
 | x::r,p=>match f x p with
  | none=>Y
  | some (y,p1)=>match PS.many f r p1 with
   | none=>Y
   | some (ys,p2)=>Z (y::ys,p2)
def Jw{α:Type}(z:α)(l:List α)(cnt:Nat):List α:=if l.length=0 then lC cnt z else l
def PS.lst{α:Type}(f:α->PS->Option (α×PS))(z:α)(size least most:Nat)(l:List α)(p:PS):Option (List α×PS):=
 match p.num l.length size with
 | none=>Y
 | some (cnt,p1)=>if cnt<least\/most<cnt then Y else PS.many f (Jw z l cnt) p1
theorem JkS(f:α->PS->Option (α×PS))(l:List α)(x y:α):∀(p p1 p2:PS)(ys:List α),PS.many f l p=Z (ys,p1)->f x p1=Z (y,p2)->PS.many f (l++[x]) p=Z (ys++[y],p2):=by
 induction l with
 | nil=>intro p p1 p2 ys h h2;simp[PS.many]at h;obtain⟨rfl,rfl⟩:=h;simp[PS.many,h2]
 | cons z l ih=>
  intro p p1 p2 ys h h2;simp only[PS.many,List.cons_append]at h ⊢
  cases q:f z p with
  | none=>simp[q]at h
  | some r=>
   obtain⟨r1,r2⟩:=r;simp only[q]at h ⊢
   cases q2:PS.many f l r2 with
   | none=>simp[q2]at h
   | some s=>
    obtain⟨s1,s2⟩:=s;simp only[q2,Qh,Qw]at h;obtain⟨rfl,rfl⟩:=h;rw[ih r2 s2 p2 s1 q2 h2];rfl
theorem JkT(f:α->PS->Option (α×PS))(l m:List α)(x:α):∀(p p1:PS)(ys:List α),PS.many f l p=Z (ys,p1)->f x p1=Y->PS.many f (l++x::m) p=Y:=by
 induction l with
 | nil=>intro p p1 ys h h2;simp[PS.many]at h;obtain⟨rfl,rfl⟩:=h;simp[PS.many,h2]
 | cons z l ih=>
  intro p p1 ys h h2;simp only[PS.many,List.cons_append]at h ⊢
  cases q:f z p with
  | none=>simp[q]at h
  | some r=>
   obtain⟨r1,r2⟩:=r;simp only[q]at h ⊢
   cases q2:PS.many f l r2 with
   | none=>simp[q2]at h
   | some s=>
    obtain⟨s1,s2⟩:=s;simp only[q2,Qh,Qw]at h;obtain⟨rfl,rfl⟩:=h;rw[ih r2 s2 s1 q2 h2]
theorem JaW(f:α->PS->Option (α×PS))(l:List α):∀(p p1:PS)(ys:List α),PS.many f l p=Z (ys,p1)->ys.length=l.length:=by
 induction l with
 | nil=>intro p p1 ys h;simp[PS.many]at h;rw[<-h.1]
 | cons z l ih=>
  intro p p1 ys h;simp only[PS.many]at h
  cases q:f z p with
  | none=>simp[q]at h
  | some r=>
   obtain⟨r1,r2⟩:=r;simp only[q]at h
   cases q2:PS.many f l r2 with
   | none=>simp[q2]at h
   | some s=>
    obtain⟨s1,s2⟩:=s;simp only[q2,Qh,Qw]at h;obtain⟨rfl,rfl⟩:=h;simp[ih r2 s2 s1 q2]
theorem JcG(f:α->PS->Option (α×PS))(hf:∀a p a' p',f a p=Z (a',p')->p.like p')(l:List α):∀(p p1:PS)(ys:List α),PS.many f l p=Z (ys,p1)->p.like p1:=by
 induction l with
 | nil=>intro p p1 ys h;simp[PS.many]at h;rw[<-h.2];exact PS.like.refl _
 | cons z l ih=>
  intro p p1 ys h;simp only[PS.many]at h
  cases q:f z p with
  | none=>simp[q]at h
  | some r=>
   obtain⟨r1,r2⟩:=r;simp only[q]at h
   cases q2:PS.many f l r2 with
   | none=>simp[q2]at h
   | some s=>
    obtain⟨s1,s2⟩:=s;simp only[q2,Qh,Qw]at h;obtain⟨rfl,rfl⟩:=h;exact(hf _ _ _ _ q).trans (ih _ _ _ q2)

abbrev VV:=aG×aG
def Hv(l:List VV):Array aG:=(l.flatMap λx=>[x.1,x.2]).toArray
theorem Yu(l:List VV):∀(i:Nat)(h:i<l.length),(Hv l)[i*2]? =Z l[i].1/\(Hv l)[i*2+1]? =Z l[i].2:=by
 unfold Hv
 induction l with
 | nil=>intro i h;simp at h
 | cons x l ih=>
  intro i h
  cases i with
  | zero=>simp
  | succ i=>
   have:=ih i (by simpa using h);simp only[QG,List.getElem?_toArray]at this ⊢;rw[show (i+1)*2=i*2+2 by omega,show i*2+2+1=i*2+1+2 by omega];simpa using this
theorem Ys(l:List VV):(Hv l).size=l.length*2:=by
 unfold Hv
 induction l with
 | nil=>rfl
 | cons x l ih=>simp at ih ⊢;omega
theorem JgE(l:List VV):∀(i:Nat)(a o:aG),i<l.length->((Hv l).setIfInBounds (i*2) a).setIfInBounds (i*2+1) o=Hv (l.set i (a,o)):=by
 unfold Hv
 induction l with
 | nil=>intro i a o h;simp at h
 | cons x l ih=>
  intro i a o h
  cases i with
  | zero=>simp
  | succ i=>
   have:=ih i a o (by simpa using h);simp only[QG,Qa,Qc]at this ⊢;rw[show (i+1)*2=i*2+2 by omega,show i*2+2+1=i*2+1+2 by omega];simpa using this
theorem JfR(l:List VV)(a:Addr)(w:aA)(h:∀i (h:i<l.length),w.cell? (a.add (i*2))=Z l[i].1/\w.cell? (a.add (i*2+1))=Z l[i].2):
  ∀j v,(Hv l).toList[j]? =Z v->w.cell? (a.add j)=Z v:=by
 intro j v hv;have hj:j<l.length*2:=by have:=(Qo.1 hv).1;rw[QA,Ys]at this;exact this
 rw[Array.getElem?_toList]at hv;obtain⟨e0,e1⟩:=Yu l (j/2) (by omega);obtain⟨f0,f1⟩:=h (j/2) (by omega)
 rcases Nat.mod_two_eq_zero_or_one j with hm|hm
 ·have zG:j/2*2=j:=by omega
  rw[zG]at e0 f0;rw[f0,<-e0,hv]
 ·have zG:j/2*2+1=j:=by omega
  rw[zG]at e1 f1;rw[f1,<-e1,hv]
theorem Jkf(l:List VV)(h1:∀x∈l,x.1.oneCell'=true/\x.2.oneCell'=true):∀v∈(Hv l).toList,v.oneCell'=true:=by
 intro v hv;simp only[Hv,List.mem_flatMap]at hv;obtain⟨x,ru,hx⟩:=hv;simp at hx
 rcases hx with rfl|rfl
 ·exact(h1 x ru).1
 ·exact(h1 x ru).2
def VAt(B:Nat)(w:aA)(v:aG)(l:List VV):Prop:=
 (v=R Y 0 0/\l=[])\/∃gi oi c,v=R (Z ⟨gi,oi,Y⟩) l.length c/\gi<B/\gi<w.heap.size/\∀i (h:i<l.length),w.cell? ⟨gi,oi+i*2,Y⟩=Z l[i].1/\w.cell? ⟨gi,oi+i*2+1,Y⟩=Z l[i].2
theorem VAt.tch{l:List VV}(h:VAt B w v l)(k:M S w w')(hs:∀j,S j->B<=j):VAt B w' v l:=by
 rcases h with h|⟨gi,oi,c,hv,h1,h2,h3⟩
 ·exact aM h
 ·refine aN ⟨gi,oi,c,hv,h1,Qk h2 k.size,λi hi=>?_⟩;have hc:∀o,w'.cell? ⟨gi,o,Y⟩=w.cell? ⟨gi,o,Y⟩:=λo=>k.cell (p:=⟨gi,o,Y⟩) h2 (λe=>by have:=hs gi e;omega);rw[hc,hc];exact h3 i hi
theorem VAt.shape{l:List VV}(h:VAt B w v l):∃a c,v=R a l.length c:=by
 rcases h with⟨rfl,rfl⟩|⟨gi,oi,c,rfl,_⟩
 ·exact⟨Y,0,rfl⟩
 ·exact⟨_,_,rfl⟩
theorem VAt.up{B':Nat}{l:List VV}(h:VAt B w v l)(hb:B<=B'):VAt B' w v l:=by
 rcases h with h|⟨gi,oi,c,h1,h2,h3⟩
 ·exact aM h
 ·exact aN ⟨gi,oi,c,h1,by omega,h3⟩
theorem Jbz{l:List VV}{xa:List α}(z:α)(h:VAt B w v l)(hl:l.length=xa.length)(yK:v=R Y 0 0\/xa.length=cnt):(Jw z xa cnt).length=cnt:=by
 unfold Jw
 split
 ·rw[lE]
 ·rename_i hn
  rcases yK with e|e
  ·exfalso
   rcases h with⟨_,h4⟩|⟨_,_,_,h3,_⟩
   ·rw[h4]at hl;simp at hl;omega
   ·rw[h3]at e;cases e
  ·exact e
theorem Jby{P:Program}(w:aA)(dT sT ty elem:TypeId)(sz g dLen dCap:Nat)(a:Addr)(sLen sCap:Nat)(cur:Array aG)(t:TypeId)(cs:List aG)
 (hu:P.underlying dT=Z (.slice elem)) (hs:(P.info? elem).map (·.size)=Z sz)
 (hg:w.heap[g]? =Z (T cur t (0,0))) (hn:cs.length=Nat.min sLen dLen*sz)
 (dB:∀j v,cs[j]? =Z v->w.cell? (a.add j)=Z v) (sI:cs.length=cur.size) (h1:∀v∈cs,v.oneCell'=true):
  (Builtin.copy_ #[dT,sT] ty #[R (Z ⟨g,0,Y⟩) dLen dCap,R (Z a) sLen sCap]).run P w=.ok (goInt (Nat.min sLen dLen)) (w.setRow g cs.toArray):=by
 have hl:=run_loadCells_list (P:=P) w a cs dB;have kL:=run_storeCells_at P g 0 t cs 0 cur w hg (by omega) h1;have e2:cs++cur.toList.drop cs.length=cs:=by rw[sI,<-QA,List.drop_length,QC]
 simp only[Nat.add_zero]at kL
 cases hq:P.info? elem with
 | none=>simp[hq]at hs
 | some i=>
  have hi:i.size=sz:=by simpa [hq]using hs
  simp[Builtin.copy_,run_underlying hu,Builtin.lenOf,Builtin.firstCells,sizeOf,typeInfo,hq,hi,<-hn,hl,kL];rw[e2]
theorem Jod{l:List VV}{tS tE:TypeId}{z:VV}(hu:prog.underlying tS=Z (.slice tE))(yL:(prog.info? tE).map (·.size)=Z 2)(h1:∀x∈l,x.1.oneCell'=true/\x.2.oneCell'=true)(h:VAt B w v l)(hZ:w.heap[gp]? =Z (T (Hv (lC cnt z)) tE))(hc:v=R Y 0 0\/l.length=cnt):
  ∃r:Int,(∀ty,(Builtin.copy_ #[tS,tS] ty #[R (Z ⟨gp,0,Y⟩) cnt cnt,v]).run N w=.ok (O I r) (w.setRow gp (Hv (Jw z l cnt)))):=by
 rcases h with⟨rfl,rfl⟩|⟨gi,oi,c,rfl,k1,k2,k3⟩
 ·refine⟨0,λty=>?_⟩;have:=run_copy_nil (P:=N) w tS tS ty tE ⟨gp,0,Y⟩ cnt cnt hu (by rw[yL];rfl);rw[this,show Jw z [] cnt=lC cnt z from if_pos rfl,setRow_self w gp _ _ _ hZ];rfl
 ·have bT:l.length=cnt:=by
   rcases hc with h|h
   ·cases h
   ·exact h
  have kL:Jw z l cnt=l:=by
   unfold Jw
   split
   ·rename_i hl;have sD:=List.length_eq_zero_iff.1 hl;subst sD;subst bT;rfl
   ·rfl
  refine⟨(Nat.min l.length cnt:Nat),λty=>?_⟩;have dC:Nat.min l.length cnt=cnt:=by rw[bT];exact Nat.min_self cnt
  have:=Jby (P:=N) w tS tS ty tE 2 gp cnt cnt ⟨gi,oi,Y⟩ l.length c _ _ (Hv l).toList hu yL hZ
   (by rw[QA,Ys,dC,bT])
   (JfR l _ w (λi hi=>by rw[Addr.add_lit,Addr.add_lit,<-Nat.add_assoc];exact k3 i hi))
   (by rw[QA,Ys,Ys,lE,bT]) (Jkf l h1)
  rw[this,kL,Array.toArray_toList];rfl

structure LK where
 tE:TypeId
 tS:TypeId
 tF:TypeId
 fP:FuncId
structure YV(K:LK)(w:aA)(b:Nat)(g:Option Nat)(aZ gp cnt:Nat)(l:List VV):Prop where
 len:l.length=cnt
 box0:w.heap[aZ]? =Z (T #[X (Z ⟨b,0,Y⟩)] 230)
 box1:w.heap[aZ+2]? =Z (T #[.func (.func K.fP) #[X (Z ⟨b,0,Y⟩)] #[]] K.tF)
 box2:w.heap[gp+1]? =Z (T #[R (Z ⟨gp,0,Y⟩) cnt cnt] K.tS)
 arr:w.heap[gp]? =Z (T (Hv l) K.tE)
 high:b<aZ/\aZ+2<gp
 apart:∀k,k=aZ\/k=aZ+2\/k=gp\/k=gp+1->Z k ≠ g
theorem YV.tch{K:LK}{l:List VV}(h:YV K w b g aZ gp cnt l)(k:M S w w')(hs:∀j,S j->j=b\/Z j=g\/w.heap.size<=j)(hm:Jq w g g'):YV K w' b g' aZ gp cnt l:=by
 have l0:=(Jb h.box0)
 have l1:=(Jb h.box1)
 have l2:=(Jb h.box2)
 have l3:=(Jb h.arr)
 have hh:=h.high;have ne:∀j,j<w.heap.size->(j=aZ\/j=aZ+2\/j=gp\/j=gp+1)->¬S j:=λj hj hc hS=>by
  rcases hs j hS with e|e|e
  ·omega
  ·exact h.apart j hc e
  ·omega
 refine⟨h.len,(k.block _ l0 (ne _ l0 (by simp))).trans h.box0,(k.block _ l1 (ne _ l1 (by simp))).trans h.box1,(k.block _ l2 (ne _ l2 (by simp))).trans h.box2,(k.block _ l3 (ne _ l3 (by simp))).trans h.arr,hh,λj hj e=>?_⟩
 rcases hm with rfl|⟨i,rfl,hi⟩
 ·exact h.apart j hj e
 ·cases e;rcases hj with rfl|rfl|rfl|rfl<;>omega
theorem Jhs{K:LK}{l:List VV}(h:YV K w b g aZ gp cnt l)(hi:i<cnt):
  ∃x y,w.cell? ⟨gp,i*2,Y⟩=Z x/\w.cell? ⟨gp,i*2+1,Y⟩=Z y/\w.frozen? ⟨gp,i*2,Y⟩=false/\w.frozen? ⟨gp,i*2+1,Y⟩=false:=by
 obtain⟨e0,e1⟩:=Yu l i (by have:=h.len;omega);exact⟨_,_,(Ja h.arr).trans e0,(Ja h.arr).trans e1,Qg _ _ _ _ _ h.arr,Qg _ _ _ _ _ h.arr⟩
theorem Jbh{K:LK}{p:PS}{l:List VV}(h:YV K w b g aZ gp cnt l)(hp:Jd w b g wj err p)(hi:i<cnt)(a o:aG):
  ((w.setCell ⟨gp,i*2,Y⟩ a).setCell ⟨gp,i*2+1,Y⟩ o).cell? ⟨aZ,0,Y⟩=Z (X (Z ⟨b,0,Y⟩))/\
  ((w.setCell ⟨gp,i*2,Y⟩ a).setCell ⟨gp,i*2+1,Y⟩ o).cell? ⟨b,2,Y⟩=Z err/\
  YV K ((w.setCell ⟨gp,i*2,Y⟩ a).setCell ⟨gp,i*2+1,Y⟩ o) b g aZ gp cnt (l.set i (a,o))/\
  Jd ((w.setCell ⟨gp,i*2,Y⟩ a).setCell ⟨gp,i*2+1,Y⟩ o) b g wj err p/\
  M (λk=>k=gp) w ((w.setCell ⟨gp,i*2,Y⟩ a).setCell ⟨gp,i*2+1,Y⟩ o):=by
 have xY:i<l.length:=by have:=h.len;omega
 have hh:=h.high;rw[Qj w gp (i*2) _ _ (0,0) _ h.arr,Qj _ gp (i*2+1) _ _ (0,0) _ (Qi _ _ _ _ _ _ h.arr),QI,JgE l i a o xY];have ht:=Ts w gp (Hv (l.set i (a,o)));have l0:=(Jb h.box0)
 have l1:=(Jb h.box1)
 have l2:=(Jb h.box2)
 have b0:=(ht.block aZ l0 (by omega)).trans h.box0;have vF:=hp.tch ht (λe=>by omega) (λj hj e=>by subst e;exact h.apart j (by simp) hj.symm);exact⟨Ja b0,vF.errCell,⟨by rw[List.length_set];exact h.len,b0,(ht.block _ l1 (by omega)).trans h.box1,(ht.block _ l2 (by omega)).trans h.box2,Qi _ _ _ _ _ _ h.arr,hh,h.apart⟩,vF,ht⟩
theorem Jd.same{e e':aG}{p p':PS}(h:Jd w b g wj e p)(k:Jd w b g' Hc e' p'):g=g':=by
 cases p using PS.on with
 | rd q r=>cases p' using PS.on with
  | rd q' r'=>rw[h.1,k.1]
  | wr d=>obtain⟨v,_,_,hr⟩:=k;have:=h.2;rw[hr]at this;simp at this
 | wr d=>cases p' using PS.on with
  | rd q' r'=>obtain⟨v,_,_,hr⟩:=h;have:=k.2;rw[hr]at this;simp at this
  | wr d'=>
   obtain⟨v,h1,_,hr⟩:=h;obtain⟨v',k1,_,kr⟩:=k;rw[hr]at kr;simp at kr;rw[<-h1,<-k1,kr.2.2]

structure XY(α:Type) where
 f:α->PS->Option (α×PS)
 grow:Nat
 zero:α
 zeroV:VV
 Init:Nat->aA->PS->VV->α->Prop
 Done:aA->Nat->Option Nat->VV->α->Prop
def ToP(E:Nat->Addr)(w:aA)(b:Nat)(g:Option Nat)(wj:Nat){α:Type}(Q:XY α)(r:Option (α×PS))(y:VV)(w':aA):Prop:=
 ∃g' err p',Jd w' b g' wj err p'/\Jq w g g'/\M (λk=>k=b\/Z k=g) w w'/\
  match r with
  | some (a,p2)=>p'=p2/\err=aK/\Q.Done w' w.heap.size g' y a
  | none=>Jn E 7 w' err
structure Zi(E:Nat->Addr)(b wj j6:Nat)(fP:FuncId){α:Type}(Q:XY α)(Shape:VV->Prop):Prop where
 init_tch:∀{w w':aA} {p p':PS} {x:VV} {a:α} {S:Nat->Prop},Q.Init b w p x a->M S w w'->(∀j,S j->b<=j)->p.like p'->Q.Init b w' p' x a
 init_zero:∀(w:aA)(p:PS),Q.Init b w p Q.zeroV Q.zero
 init_shape:∀{w:aA} {p:PS} {x:VV} {a:α},Q.Init b w p x a->Shape x
 done_tch:∀{w w':aA} {B:Nat} {g g':Option Nat} {x:VV} {a:α} {S:Nat->Prop},Q.Done w B g x a->M S w w'->(∀j,S j->j<B\/Z j=g\/w.heap.size<=j)->Jq w g g'->Q.Done w' B g' x a
 done_mono:∀{w:aA} {B B':Nat} {g:Option Nat} {x:VV} {a:α},Q.Done w B g x a->B'<=B->Q.Done w B' g x a
 like:∀{a a':α} {p p':PS},Q.f a p=Z (a',p')->p.like p'
 len:∀{w:aA} {x:VV} {a a':α} {p p':PS},Q.Init b w p x a->Q.f a p=Z (a',p')->p'.len<=p.len+Q.grow
 call:∀{w:aA} {g:Option Nat} {p:PS} {x:VV} {a:α},Env E w->Jd w b g wj aK p->Q.Init b w p x a->p.len<=j6->
  aB N fP #[X (Z ⟨b,0,Y⟩),aH #[x.1,x.2]] w λe w'=>∃y:VV,Shape y/\e=aC (aH #[y.1,y.2])/\ToP E w b g wj Q (Q.f a p) y w'
def InvV(K:LK)(E:Nat->Addr)(w0:aA)(b:Nat)(g:Option Nat)(wj aZ gp cnt:Nat){α:Type}(Q:XY α)(st:List VV)(xa:List α)(p:PS)(i:Nat)(w:aA):Prop:=
 ∃g' xs ys p1,PS.many Q.f (xa.take i) p=Z (ys,p1)/\xs.length=i/\Jd w b g' wj aK p1/\YV K w b g' aZ gp cnt (xs++st.drop i)/\(∀(j:Nat) x a,xs[j]? =Z x->ys[j]? =Z a->Q.Done w (gp+1) g' x a)/\(∀(j:Nat) x a,st[j]? =Z x->xa[j]? =Z a->Q.Init b w p1 x a)/\
  Env E w/\Jq w0 g g'/\M (λk=>k=b\/Z k=g\/k=gp) w0 w/\p.like p1/\p1.len<=p.len+Q.grow*i
def BadV(E:Nat->Addr)(w0:aA)(b:Nat)(g:Option Nat)(wj aZ gp:Nat){α:Type}(Q:XY α)(xa:List α)(p:PS)(v:aG)(w:aA):Prop:=
 Jn E 7 w v/\PS.many Q.f xa p=Y/\∃g' p',Jd w b g' wj v p'/\Jq w0 g g'/\M (λk=>k=b\/Z k=g\/k=gp) w0 w/\w.heap[aZ]? =Z (T #[X (Z ⟨b,0,Y⟩)] 230)
def JlJ(K:LK)(E:Nat->Addr)(w:aA)(b:Nat)(g:Option Nat)(wj aZ gp cnt i:Nat){α:Type}(Q:XY α)(l:List VV)(r:Option (α×PS))(e:Ending)(w':aA):Prop:=
 M (λk=>k=b\/Z k=g\/k=gp) w w'/\match r with
  | some (a,p2)=>e=aC aK/\∃g' x',Jd w' b g' wj aK p2/\YV K w' b g' aZ gp cnt (l.set i x')/\Q.Done w' (gp+1) g' x' a/\Jq w g g'
  | none=>∃v,e=aC v/\Jn E 7 w' v/\∃g' p',Jd w' b g' wj v p'/\Jq w g g'/\w'.heap[aZ]? =Z (T #[X (Z ⟨b,0,Y⟩)] 230)
structure JcW(f:FuncId)(caps:Array aG)(g off n:Nat)(x:Nat->VV)(Inv:Nat->aA->Prop)(Bad:aG->aA->Prop):Prop where
 enter:∀args w,(callFunc f args).run N w=.ok (.enter f args) w
 read:∀i w,i<n->Inv i w->w.cell? ⟨g,off+i*2,Y⟩=Z (x i).1/\w.cell? ⟨g,off+i*2+1,Y⟩=Z (x i).2
 alloc:∀i w o,Inv i w->Inv i (w.alloc o)
 call:∀i w,i<n->Inv i w->aB N f (#[O I (i:Int),aH #[(x i).1,(x i).2]]++caps) w λe w'=>(e=aC aK/\Inv (i+1) w')\/∃t v,e=aC (aJ t v)/\Bad (aJ t v) w'
theorem JqY{K:LK}{wj:Nat}{Q:XY α}{Shape:VV->Prop}(H:Zi E b wj j6 K.fP Q Shape)(fS:FuncId)(hen:∀args w,(callFunc fS args).run N w=.ok (.enter fS args) w)(w0:aA)(Hi:18<=b)(g:Option Nat)(aZ gp cnt:Nat)(st:List VV)(xa:List α)(p:PS)(kL:st.length=cnt)(has:xa.length=cnt)(hd:p.len+Q.grow*cnt<=j6)(hbgp:b<gp)
 (fY:∀(w:aA)(g:Option Nat)(i:Nat)(x:VV)(a:α)(l:List VV)(p:PS),Env E w->YV K w b g aZ gp cnt l->Jd w b g wj aK p->Q.Init b w p x a->i<cnt->p.len<=j6->
 aB N fS #[O I (i:Int),aH #[x.1,x.2],X (Z ⟨aZ+2,0,Y⟩),X (Z ⟨gp+1,0,Y⟩),X (Z ⟨aZ,0,Y⟩)] w λe w'=>JlJ K E w b g wj aZ gp cnt i Q l (Q.f a p) e w'):
  JcW fS #[X (Z ⟨aZ+2,0,Y⟩),X (Z ⟨gp+1,0,Y⟩),X (Z ⟨aZ,0,Y⟩)] gp 0 cnt (λi=>st.getD i Q.zeroV) (InvV K E w0 b g wj aZ gp cnt Q st xa p) (BadV E w0 b g wj aZ gp Q xa p):=by
 refine⟨hen,?_,?_,?_⟩
 ·rintro i w hi⟨g',xs,ys,p1,h1,zp,h2,h3,hD,hN,h4,h5,h6,h7,h8⟩;have Hq:i<(xs++st.drop i).length:=by rw[h3.len];exact hi
  obtain⟨e0,e1⟩:=Yu (xs++st.drop i) i Hq;have hx:(xs++st.drop i)[i]=st.getD i Q.zeroV:=by rw[List.getElem_append_right (by omega)];simp[zp,lF,show i<st.length by omega]
  rw[hx]at e0 e1;rw[Nat.zero_add];exact⟨(Ja h3.arr).trans e0,(Ja h3.arr).trans e1⟩
 ·rintro i w o⟨g',xs,ys,p1,h1,zp,h2,h3,hD,hN,h4,h5,h6,h7,h8⟩;have hk:=Ta D w o;exact⟨g',xs,ys,p1,h1,zp,h2.tch hk (λh=>h) (λ_ _ h=>h),h3.tch hk noE (aM rfl),λj x t a c=>H.done_tch (hD j x t a c) hk noE (aM rfl),λj x t a c=>H.init_tch (hN j x t a c) hk noE (PS.like.refl _),h4.tch hk noE,h5,h6.trans hk noE,h7,h8⟩
 ·rintro i w hi⟨g',xs,ys,p1,h1,zp,h2,h3,hD,hN,h4,h5,h6,h7,h8⟩;have np:∀{wx},M (λk=>k=b\/Z k=g'\/k=gp) w wx->_:=λhk=>h6.trans hk (λj hj=>by
   rcases hj with rfl|hj|rfl
   ·exact aM (aM rfl)
   ·rcases h5 with rfl|⟨q,rfl,hq⟩
    ·exact aM (aN (aM hj))
    ·cases hj;exact aN hq
   ·exact aM (aN (aN rfl)))
  have dD:i<st.length:=by omega
  have dE:i<xa.length:=by omega
  have jz:st.getD i Q.zeroV=st[i]:=by simp[lF,dD]
  have vI:=QR dE;have sJ:ys.length=i:=by rw[JaW _ _ _ _ _ h1,QB];omega
  have hI:Q.Init b w p1 (st.getD i Q.zeroV) xa[i]:=by have:=hN i st[i] xa[i] (Qd dD) (Qd dE);rw[jz];exact this
  have kp:Q.grow*i<=Q.grow*cnt:=Nat.mul_le_mul_left _ (by omega);refine(fY w g' i _ xa[i] _ p1 h4 h3 h2 hI hi (by omega)).mono ?_;rintro e w'⟨k4,hr⟩
  cases q:Q.f xa[i] p1 with
  | some r=>
   obtain⟨t',p2⟩:=r;rw[q]at hr;obtain⟨rfl,g2,x',k1,k2,k5,k3⟩:=hr;have f1:=H.like q;have f2:=H.len hI q;have jA:∀j,(j=b\/Z j=g'\/j=gp)->b<=j:=λj hj=>by
    rcases hj with rfl|hj|rfl
    ·exact Ql _
    ·have:=(h2.own j hj.symm).1;omega
    ·have:=h3.high;omega
   refine aM ⟨rfl,g2,xs++[x'],ys++[t'],p2,?_,by simp[zp],k1,?_,?_,?_,?_,h5.trans k3 h6.size,np k4,h7.trans f1,by rw[Nat.mul_add];omega⟩
   ·rw[vI];exact JkS _ _ _ _ _ _ _ _ h1 q
   ·have e:(xs++st.drop i).set i x'=xs++[x']++st.drop (i+1):=by
     rw[List.set_append_right _ _ (by omega),zp,Nat.sub_self,List.drop_eq_getElem_cons dD,Qb,Qs];rfl
    rw[<-e];exact k2
   ·intro j x t a c
    by_cases hj:j<i
    ·rw[QF (by omega)]at a c;exact H.done_tch (hD j x t a c) k4 (λj h=>by
      rcases h with h|h|h
      ·exact aM (by omega)
      ·exact aN (aM h)
      ·exact aM (by omega)) k3
    ·have pW:j=i:=(by have:=(Qo.1 a).1;simp[zp]at this;omega);subst pW;rw[Qz (by omega)]at a c;simp[zp]at a;simp[sJ]at c;subst a c;exact k5
   ·intro j x t a c;exact H.init_tch (hN j x t a c) k4 jA f1
   ·exact h4.tch k4 (λj hj=>Qm Hi (jA j hj))
  | none=>
   rw[q]at hr;obtain⟨v,rfl,k1,g2,p',k2,k3,k5⟩:=hr;obtain⟨tt,uu,rfl⟩:=k1.iface;refine aN ⟨_,_,rfl,k1,?_,g2,p',k2,h5.trans k3 h6.size,np k4,k5⟩;have tL:xa=xa.take i++xa[i]::xa.drop (i+1):=(by rw[<-List.drop_eq_getElem_cons dE,List.take_append_drop]);rw[tL];exact JkT _ _ _ _ _ _ _ h1 q
def ToE(Inv:Nat->aA->Prop)(Bad:aG->aA->Prop)(n:Nat)(e:Ending)(w':aA):Prop:=
 (e=aC aK/\Inv n w')\/∃p s v w1,e=aC (aJ 235 (X (Z ⟨p,0,Y⟩)))/\w'.heap[p]? =Z (T #[L s,v] 237)/\Bad v w1/\Below w1.heap.size w1 w'
def AftV(K:LK)(E:Nat->Addr)(b aZ gp cnt:Nat){α:Type}(Q:XY α)(r:Option (List α×PS))(err:aG)(g':Option Nat)(p':PS)(w':aA):Prop:=
 match r with
 | some (ys,p2)=>p'=p2/\err=aK/\∃xs,YV K w' b g' aZ gp cnt xs/\ys.length=cnt/\(∀(j:Nat) x a,xs[j]? =Z x->ys[j]? =Z a->Q.Done w' (gp+1) g' x a)
 | none=>∃pp s v,err=aJ 235 (X (Z ⟨pp,0,Y⟩))/\w'.heap[pp]? =Z (T #[L s,v] 237)/\Jn E 7 w' v
theorem Jfg{K:LK}{w0:aA}{wj:Nat}{Q:XY α}{st:List VV}{xa:List α}{p:PS}{e:Ending}
 (h:ToE (InvV K E w0 b g wj aZ gp cnt Q st xa p) (BadV E w0 b g wj aZ gp Q xa p) cnt e w') (h0:YV K w0 b g aZ gp cnt st) (has:xa.length=cnt):
  ∃err g' p' v,e=aC err/\(err=aK\/∃t u,err=aJ t u)/\Jd w' b g' wj v p'/\Jq w0 g g'/\M (λk=>k=b\/Z k=g\/k=gp) w0 w'/\w'.heap[aZ]? =Z (T #[X (Z ⟨b,0,Y⟩)] 230)/\w'.heap[gp+1]? =Z (T #[R (Z ⟨gp,0,Y⟩) cnt cnt] K.tS)/\AftV K E b aZ gp cnt Q (PS.many Q.f xa p) err g' p' w':=by
 rcases h with⟨rfl,g',xs,ys,p1,a1,zp,a2,a3,hD,_,a4,a5,a6,_⟩|⟨pp,s,v,w1,rfl,h3,⟨hv,hn,g',p',b1,b2,b3,b4⟩,hb⟩
 ·rw[QS (by omega)]at a1;have vk:=h0.len;have e2:st.drop cnt=[]:=lH (by omega);rw[e2,QC]at a3;refine⟨_,g',p1,_,rfl,aM rfl,a2,a5,a6,a3.box0,a3.box2,?_⟩;rw[a1];exact⟨rfl,rfl,xs,a3,(JaW _ _ _ _ _ a1).trans has,hD⟩
 ·have hk:M D w1 w':=(M.of_below hb).mono (λj hj=>aN hj);have hh:=h0.high;have b3':=b3.trans hk noE;refine⟨_,g',p',_,rfl,aN ⟨_,_,rfl⟩,b1.tch hk (λh=>h) (λ_ _ h=>h),b2,b3',(hk.block _ (Jb b4) (λh=>h)).trans b4,(b3'.block _ (Jb h0.box2) ?_).trans h0.box2,?_⟩
  ·rintro(e|e|e)
   ·omega
   ·exact h0.apart _ (by simp) e
   ·omega
  ·rw[hn];exact⟨pp,s,v,rfl,h3,hv.later hb⟩
def ToL(K:LK)(E:Nat->Addr)(w:aA)(b:Nat)(g:Option Nat)(wj:Nat){α:Type}(Q:XY α)(r:Option (List α×PS))(e:Ending)(w':aA):Prop:=
 match r with
 | some (ys,p2)=>∃gp xs,e=aC (R (Z ⟨gp,0,Y⟩) ys.length ys.length)/\w.heap.size<=gp/\w'.heap[gp]? =Z (T (Hv xs) K.tE)/\xs.length=ys.length/\∃g',Jd w' b g' wj aK p2/\Z gp ≠ g'/\(∀(j:Nat) x a,xs[j]? =Z x->ys[j]? =Z a->Q.Done w' (gp+1) g' x a)/\Jq w g g'/\M (λk=>k=b\/Z k=g) w w'
 | none=>(∃a n c,e=aC (R a n c))/\JbS E w w' b g wj
theorem Jhl{wj:Nat}{fP:FuncId}{Q:XY α}{Shape:VV->Prop}(H:Zi E b wj j6 fP Q Shape){p:PS}{l:List VV}{xa:List α}(hl:l.length=xa.length)(h:∀(j:Nat) x t,l[j]? =Z x->xa[j]? =Z t->Q.Init b w p x t):
  ∀(j:Nat) x t,(Jw Q.zeroV l cnt)[j]? =Z x->(Jw Q.zero xa cnt)[j]? =Z t->Q.Init b w p x t:=by
 intro j x t a c;unfold Jw at a c;rw[hl]at a
 split at a
 ·rename_i h0;rw[if_pos h0]at c;simp[List.getElem?_replicate]at a c;obtain⟨_,rfl⟩:=a;obtain⟨_,rfl⟩:=c;exact H.init_zero w p
 ·rename_i h0;rw[if_neg h0]at c;exact h j x t a c
theorem M.allocs3(S:Nat->Prop)(w:aA)(o o' o2:Obj):M S w (((w.alloc o).alloc o').alloc o2):=(M.allocs S w o o').trans (Ta S _ o2) (λ_ h=>aM h)
theorem Jd.allocs3{p:PS}(h:Jd w b g wj err p)(o o' o2:Obj):Jd (((w.alloc o).alloc o').alloc o2) b g wj err p:=
 h.tch (M.allocs3 D w o o' o2) (λh=>h) (λ_ _ h=>h)
theorem Env.allocs3(h:Env E w)(o o' o2:Obj):Env E (((w.alloc o).alloc o').alloc o2):=h.tch (M.allocs3 D w o o' o2) noE
theorem JU(w:aA)(o o' o2:Obj):(((w.alloc o).alloc o').alloc o2).heap[w.heap.size]? =Z o:=(Below.heap_alloc _ o2 _ (by simp;omega)).trans (heap_alloc2_old w o o')
theorem JQ(w:aA)(o o' o2:Obj):(((w.alloc o).alloc o').alloc o2).heap[w.heap.size+1]? =Z o':=(Below.heap_alloc _ o2 _ (by simp)).trans (heap_alloc2_new w o o')
theorem JE(w:aA)(o o' o2:Obj):(((w.alloc o).alloc o').alloc o2).heap[w.heap.size+2]? =Z o2:=by
 have:=Qf ((w.alloc o).alloc o') o2;simpa using this
theorem Jq.allocs3(h:Jq (((w.alloc o).alloc o').alloc o2) g g'):Jq w g g':=by
 rcases h with h|⟨i,h,hi⟩
 ·exact aM h
 ·exact aN ⟨i,h,by simp at hi;omega⟩
theorem JbG{p:PS}(h:Jd w b g wj err p)(o o' o2:Obj)(hm:Jq (((w.alloc o).alloc o').alloc o2) g g')(k:Nat)(hk:w.heap.size<=k)(gS:k<w.heap.size+3):¬(k=b\/Z k=g'):=by
 rcases hm with rfl|⟨i,rfl,hi⟩
 ·exact Yp h k hk
 ·have h1:=h.lt;rintro(rfl|e)
  ·omega
  ·cases e;simp at hi;omega
theorem Jht{K:LK}{p0 p:PS}{st:List VV}{z:VV}(hp:Jd w b g wj aK p0)(Hy:Jd w1 b g1 wj aK p)(hm:Jq (((w.alloc o).alloc o').alloc o2) g g1)(ht:M (λk=>k=b\/Z k=g) (((w.alloc o).alloc o').alloc o2) w1)
 (r0:w1.heap[w.heap.size]? =Z (T #[X (Z ⟨b,0,Y⟩)] 230)) (r1:w1.heap[w.heap.size+2]? =Z (T #[.func (.func K.fP) #[X (Z ⟨b,0,Y⟩)] #[]] K.tF)) (hE:Env E w) (Hi:18<=b) (_hs:w.heap.size+1+1+1<=w1.heap.size) (kL:st.length=cnt):
  ∃W3,W3=((w1.alloc (T (Hv (lC cnt z)) K.tE)).alloc (T #[R (Z ⟨w1.heap.size,0,Y⟩) cnt cnt] K.tS)).setRow w1.heap.size (Hv st)/\
   (YV K W3 b g1 w.heap.size w1.heap.size cnt st/\Jd W3 b g1 wj aK p/\Env E W3/\Jq w g g1/\M (λk=>k=b\/Z k=g) w W3/\M D w1 W3/\w1.heap.size<W3.heap.size):=by
 have H7:=hp.lt;have tA:=M.allocs D w1 (T (Hv (lC cnt z)) K.tE) (T #[R (Z ⟨w1.heap.size,0,Y⟩) cnt cnt] K.tS);have tB:=Ts ((w1.alloc (T (Hv (lC cnt z)) K.tE)).alloc (T #[R (Z ⟨w1.heap.size,0,Y⟩) cnt cnt] K.tS)) w1.heap.size (Hv st);have t3:=tA.trans tB (λj hj=>aN (by omega));have nq:=(hE.allocs3 o o' o2).tch ht (Jbk Hi hp);have qT:=Hy.own;have l0:=(Jb r0)
 have l1:=(Jb r1)
 refine⟨_,rfl,⟨kL,(t3.block _ l0 (λh=>h)).trans r0,(t3.block _ l1 (λh=>h)).trans r1,?_,Qi _ _ _ _ _ _ (heap_alloc2_old _ _ _),⟨H7,by omega⟩,?_⟩,Hy.tch t3 (λh=>h) (λ_ _ h=>h),nq.tch t3 noE,hm.allocs3,((M.allocs3 _ w o o' o2).trans ht (λ_ h=>aM h)).trans t3 noE,t3,by simp;omega⟩
 ·exact(tB.block _ (by simp) (by omega)).trans (heap_alloc2_new _ _ _)
 ·rintro k (rfl|rfl|rfl|rfl) e
  ·exact JbG hp o o' o2 hm _ (Ql _) (by omega) (aN e)
  ·exact JbG hp o o' o2 hm _ (by omega) (by omega) (aN e)
  ·have:=(qT _ e.symm).2;omega
  ·have:=(qT _ e.symm).2;omega

theorem Jel(E:Nat->Addr)(b:Nat)(g:Option Nat)(wj:Int)(s:BA)(p:PS)(w:aA)(hE:Env E w)(hp:Jd w b g wj aK p):
  aB N 200 #[X (Z ⟨b,0,Y⟩),L s] w λe w'=>e=aC (aI #[])/\Jd w' b g wj (aJ 235 (X (Z ⟨w.heap.size,0,Y⟩))) p/\Jn E 7 w' (aJ 235 (X (Z ⟨w.heap.size,0,Y⟩)))/\M (λk=>k=b) w w':=by
 have c2:=hp.errCell;have hform:=hE.form;have H7:=hp.lt;obtain⟨d2,f2,q1,q2⟩:=XO (n:=0) (e':=aJ 235 (X (Z ⟨w.heap.size,0,Y⟩))) (hp.tch (Ta D w (T #[L s,eV E 7] 237)) (λh=>h) (λ_ _ h=>h));rw[lI]at d2 f2 q1 q2;have Q1:J _:=q1;have Q2:J _:=q2;have Q3:J (M D w (w.alloc (T #[L s,eV E 7] 237))):=Ta _ _ _;have Q4:J ((w.alloc (T #[L s,eV E 7] 237)).heap[w.heap.size]? =_):=Qf _ _;go_enter func200,ntmps200;go_wp2_with fail;refine(Xk s _ _ _).mono ?_;rintro _ w1⟨rfl,Hn⟩;rw[<-Hn]at d2 f2 Q1 Q2 Q3 Q4;clear Hn;go_wp2;refine bodyPost_end (v:=aI #[]) (results_none results200 _ _ _) rfl ⟨rfl,Q1,.wrap _ _ _ ((Q2.block _ (Jb Q4) (by omega)).trans Q4) .base,(Q3.mono noE).trans Q2 (λ_ h=>aM h)⟩
theorem JbL(b:Nat)(g:Option Nat)(wj:Int)(s:aG)(p:PS)(t:TypeId)(u:aG)(w:aA)(hp:Jd w b g wj (aJ t u) p):
  aB N 200 #[X (Z ⟨b,0,Y⟩),s] w λe w'=>e=aC (aI #[])/\w=w':=by
 have c2:=hp.errCell;go_enter func200,ntmps200;go_wp2;exact bodyPost_end (v:=aI #[]) (results_none results200 _ _ _) rfl ⟨rfl,rfl⟩

def Jg(E:Nat->Addr)(w:aA)(b:Nat)(g:Option Nat)(wj:Int):Option PS->Prop
 | some p=>Jd w b g wj aK p
 | none=>∃p t u,Jd w b g wj (aJ t u) p/\Jn E 7 w (aJ t u)
def JP:Option PS->Nat
 | some p=>p.len
 | none=>0
def JF(x k:Nat)(st:Option PS):Nat×Option PS:=match st.bind (PS.num x k) with
 | some (m,p)=>(m,Z p)
 | none=>(0,Y)
def Jm(s:List UInt8)(k:Nat)(st:Option PS):List UInt8×Option PS:=match st.bind (PS.txt s k) with
 | some (t,p)=>(t,Z p)
 | none=>([],Y)
theorem JS{p p1:PS}(h:p.num x k=Z (m,p1)):JF x k (Z p)=(m,Z p1):=by simp[JF,h]
theorem ZN{p:PS}(h:p.num x k=Y):JF x k (Z p)=(0,Y):=by simp[JF,h]
theorem Jlp(x k:Nat):JF x k Y=(0,Y):=rfl
theorem JN{t:List UInt8}{p p1:PS}(h:p.txt s k=Z (t,p1)):Jm s k (Z p)=(t,Z p1):=by simp[Jm,h]
theorem Yb{p:PS}(h:p.txt s k=Y):Jm s k (Z p)=([],Y):=by simp[Jm,h]
theorem Jg.at{st:Option PS}(h:Jg E w b g wj st):∃p e,Jd w b g wj e p/\(e=aK\/∃t u,e=aJ t u):=by
 cases st with
 | some p=>exact⟨p,_,h,aM rfl⟩
 | none=>obtain⟨p,t,u,h,_⟩:=h;exact⟨p,_,h,aN ⟨t,u,rfl⟩⟩
theorem Jg.lt{st:Option PS}(h:Jg E w b g wj st):b<w.heap.size:=by
 obtain⟨p,e,h,_⟩:=h.at;exact h.lt
theorem Jg.own{st:Option PS}(h:Jg E w b g wj st):∀k,g=Z k->b<k/\k<w.heap.size:=by
 obtain⟨p,e,h,_⟩:=h.at;exact h.own
theorem Jg.width{st:Option PS}(h:Jg E w b g wj st):w.cell? ⟨b,1,Y⟩=Z (O I wj):=by
 obtain⟨p,e,h,_⟩:=h.at
 cases p using PS.on with
 | rd q r=>exact Ja h.2
 | wr d=>obtain⟨v,_,_,hr⟩:=h;exact Ja hr
theorem Jg.same{st st':Option PS}(h:Jg E w b g wj st)(k:Jg E w b g' Hc st'):g=g':=by
 obtain⟨p,e,h,_⟩:=h.at;obtain⟨p',e',k,_⟩:=k.at;exact h.same k
theorem Jg.tch{st:Option PS}(h:Jg E w b g wj st)(k:M S w w')(hb:¬S b)(hg:∀j,g=Z j->¬S j)(hs:∀p s u,w.heap[p]? =Z (T #[L s,u] 237)->¬S p):Jg E w' b g wj st:=by
 cases st with
 | some p=>exact Jd.tch h k hb hg
 | none=>obtain⟨p,t,u,h1,h2⟩:=h;exact⟨p,t,u,h1.tch k hb hg,h2.tch k hs⟩
theorem Jg.next{st:Option PS}(h:Jg E w b g wj st)(k:M D w w'):Jg E w' b g wj st:=
 h.tch k (λh=>h) (λ_ _ h=>h) (λ_ _ _ _ h=>h)
theorem Jg.row{st:Option PS}(h:Jg E w b g wj st)(hr:w.heap[r]? =Z (T cur aY))(hT:aY ≠ 237)(hb:¬(r=b\/Z r=g)):Jg E (w.setRow r cs) b g wj st:=
 h.tch (Ts w r cs) (λe=>hb (aM e.symm)) (λj hj e=>hb (aN (by rw[hj,e]))) (λp s u hp e=>by subst e;rw[hr]at hp;simp at hp;exact hT hp.2)
def StTo(E:Nat->Addr)(w w':aA)(b:Nat)(g:Option Nat)(wj:Int)(st':Option PS):Prop:=
 ∃g',Jg E w' b g' wj st'/\Jq w g g'/\M (λk=>k=b\/Z k=g) w w'
theorem StTo.trans{jU:Option PS}(hm:Jq w g g1)(h:M (λk=>k=b\/Z k=g) w w1)(k:StTo E w1 w2 b g1 wj jU):StTo E w w2 b g wj jU:=by
 obtain⟨g2,h1,h2,h3⟩:=k;exact⟨g2,h1,hm.trans h2 h.size,YA h h3 hm⟩
theorem StTo.fresh{jU:Option PS}(h:M D w w1)(k:StTo E w1 w2 b g wj jU):StTo E w w2 b g wj jU:=by
 obtain⟨g2,h1,h2,h3⟩:=k;refine⟨g2,h1,?_,(h.mono noE).trans h3 (λ_ h=>aM h)⟩
 rcases h2 with h2|⟨i,h2,hi⟩
 ·exact aM h2
 ·exact aN ⟨i,h2,Qm h.size hi⟩
theorem StTo.row{jU:Option PS}(k:StTo E w w2 b g wj jU)(hw:w.heap.size<=r)(hr:w2.heap[r]? =Z (T cur aY))(hT:aY ≠ 237)(hb:¬r=b)(hg:∀g',Jq w g g'->Jg E w2 b g' wj jU->Z r ≠ g'):StTo E w (w2.setRow r cs) b g wj jU:=by
 obtain⟨g2,h1,h2,h3⟩:=k;exact⟨g2,h1.row hr hT (by rintro(e|e);exact hb e;exact hg g2 h2 h1 e),h2,h3.trans (Ts w2 r cs) (λj hj=>aN (by omega))⟩
theorem Jck{st:Option PS}(p9:18<=b)(h:Jg E w b g wj st):∀j,(j=b\/Z j=g)->18<=j:=by
 rintro j (rfl|e)
 ·exact p9
 ·have:=(h.own j e.symm).1;omega
theorem Jjh{st:Option PS}(h:Jg E w b g wj st)(k:Nat)(hk:w.heap.size<=k):¬(k=b\/Z k=g):=by
 have h1:=h.lt;rintro(rfl|e)
 ·omega
 ·have:=(h.own k e.symm).2;omega
theorem Jcl{wA:aA}{st:Option PS}(h:Jg E w b g wj st)(hm:Jq wA g g')(k:Nat)(hk:w.heap.size<=k)(hA:k<wA.heap.size):¬(k=b\/Z k=g'):=by
 rcases hm with rfl|⟨i,rfl,hi⟩
 ·exact Jjh h k hk
 ·have h1:=h.lt;rintro(rfl|e)
  ·omega
  ·cases e;omega
theorem Jbn(x k:Nat)(st:Option PS):JP (JF x k st).2<=JP st+k:=by
 unfold JF
 cases st with
 | none=>simp[JP]
 | some p=>
  simp only[Qu]
  cases h:p.num x k with
  | none=>simp[JP]
  | some r=>exact ZR _ _ _ _ _ h
theorem YG(s:List UInt8)(k:Nat)(st:Option PS):JP (Jm s k st).2<=JP st+k:=by
 unfold Jm
 cases st with
 | none=>simp[JP]
 | some p=>
  simp only[Qu]
  cases h:p.txt s k with
  | none=>simp[JP]
  | some r=>exact JgC _ _ _ _ _ h
theorem Jci(x k:Nat)(st:Option PS):(JF x k st).1<256 ^ k:=by
 have xL:0<256 ^ k:=Nat.pow_pos (by decide);unfold JF
 cases st with
 | none=>exact xL
 | some p=>
  simp only[Qu]
  cases h:p.num x k with
  | none=>exact xL
  | some r=>
   obtain⟨m,p'⟩:=r;show m<256 ^ k
   cases p using PS.on with
   | rd q r=>
    simp only[PS.num]at h
    split at h
    ·cases h
     have h1:=Yt (r.take k);have h2:256 ^ (r.take k).length<=256 ^ k:=Nat.pow_le_pow_right (by decide) (by rw[QB];omega);omega
    ·cases h
   | wr d=>
    simp only[PS.num]at h
    split at h
    ·rename_i hx
     cases h
     rw[Nat.div_eq_zero_iff]at hx;have e:(256:Nat) ^ k=2 ^ (8*k):=by rw[Nat.pow_mul]
     rcases hx with hx|hx
     ·have:0<2 ^ (8*k):=Nat.pow_pos (by decide);omega
     ·omega
    ·cases h
theorem Jak(E:Nat->Addr)(b:Nat)(g:Option Nat)(wj:Int)(x n:Nat)(st:Option PS)(w:aA)(hE:Env E w)(hp:Jg E w b g wj st)(h8:n<=8)(hd:JP st<=10000000000000):
  aB N 138 #[X (Z ⟨b,0,Y⟩),O aD (x:Int),O I (n:Int)] w λe w'=>e=aC (O aD ((JF x n st).1:Int))/\StTo E w w' b g wj (JF x n st).2:=by
 unfold JF
 cases st with
 | none=>
  obtain⟨p,t,u,h1,h2⟩:=hp;refine(JaB b g wj _ _ p t u w h1).mono ?_;rintro e w'⟨rfl,rfl⟩;exact⟨rfl,g,⟨p,t,u,h1,h2⟩,aM rfl,Te _ _⟩
 | some p=>
  simp only[Qu]
  cases h:p.num x n with
  | none=>
   refine(Zn E b g wj x n p w hE hp h8 hd h).mono ?_;rintro e w'⟨rfl,h1,h2⟩;exact⟨rfl,g,⟨p,_,_,h1,.base⟩,aM rfl,h2.mono (λ_ h=>aM (aM h))⟩
  | some r=>
   obtain⟨m,p'⟩:=r;exact(Xv b g wj x n m p p' w hp h8 hd h).mono λe w' ⟨h1,h2⟩=>⟨h1,h2⟩
theorem JgB(E:Nat->Addr)(b:Nat)(g:Option Nat)(wj:Int)(s:BA)(n:Nat)(st:Option PS)(w:aA)(hE:Env E w)(hp:Jg E w b g wj st)(hd:JP st+n<=10000000000000):
  aB N 209 #[X (Z ⟨b,0,Y⟩),L s,O I (n:Int)] w λe w'=>e=aC (L ⟨(Jm s.data.toList n st).1.toArray⟩)/\StTo E w w' b g wj (Jm s.data.toList n st).2:=by
 unfold Jm
 cases st with
 | none=>
  obtain⟨p,t,u,h1,h2⟩:=hp;refine(Jib b g wj _ _ p t u w h1).mono ?_;rintro e w'⟨rfl,rfl⟩;exact⟨rfl,g,⟨p,t,u,h1,h2⟩,aM rfl,Te _ _⟩
 | some p=>
  simp only[Qu]
  cases h:p.txt s.data.toList n with
  | none=>
   refine(JfN E b g wj s n p w hE hp (by simp only[JP]at hd;omega) h).mono ?_;rintro e w'⟨rfl,h1,h2⟩;exact⟨rfl,g,⟨p,_,_,h1,.base⟩,aM rfl,h2.mono (λ_ h=>aM (aM h))⟩
  | some r=>
   obtain⟨m,p'⟩:=r;exact(Jaq b g wj s n m p p' w hp hd h).mono λe w' ⟨h1,h2⟩=>⟨h1,h2⟩
theorem Jao(E:Nat->Addr)(b:Nat)(g:Option Nat)(wj:Int)(s:BA)(st:Option PS)(w:aA)(hE:Env E w)(hp:Jg E w b g wj st):
  aB N 200 #[X (Z ⟨b,0,Y⟩),L s] w λe w'=>e=aC (aI #[])/\StTo E w w' b g wj Y:=by
 cases st with
 | none=>
  obtain⟨p,t,u,h1,h2⟩:=hp;refine(JbL b g wj _ p t u w h1).mono ?_;rintro e w'⟨rfl,rfl⟩;exact⟨rfl,g,⟨p,t,u,h1,h2⟩,aM rfl,Te _ _⟩
 | some p=>
  refine(Jel E b g wj s p w hE hp).mono ?_;rintro e w'⟨rfl,h1,h2,h3⟩;exact⟨rfl,g,⟨p,_,_,h1,h2⟩,aM rfl,h3.mono (λ_ h=>aM (aM h))⟩
theorem Za(E:Nat->Addr)(b:Nat)(g:Option Nat)(wj:Nat)(s:BA)(st:Option PS)(w:aA)(hE:Env E w)(hp:Jg E w b g wj st)(hd:JP st+wj<=10000000000000):
  aB N 139 #[X (Z ⟨b,0,Y⟩),L s] w λe w'=>e=aC (L ⟨(Jm s.data.toList wj st).1.toArray⟩)/\StTo E w w' b g wj (Jm s.data.toList wj st).2:=by
 have c1:=hp.width;have HC:J (aB N 209 _ w _):=JgB E b g wj s wj st w hE hp hd;go_enter func139,ntmps139;go_wp2_with fail;refine HC.o.mono ?_;rintro _ w1⟨rfl,h⟩;have HS:J _:=h;go_wp2;go_ret;exact⟨rfl,HS⟩
end Go.Proofs.YtighkdnooglfjaaGreatDoor
namespace Go.Proofs
open Go.Proofs.Tryz
open Go.Shelf
def Jga:Go.Shelf.Ren:=⟨fun|171=>101|243=>162|246=>248|283=>323|284=>324|285=>325|286=>326|129=>320|317=>354|318=>355|319=>356|320=>357|337=>360|338=>361|n=>n,fun|3=>3|9=>9|2=>2|4=>4|171=>472|0=>0|53=>78|37=>52|5=>5|173=>474|212=>503|51=>429|20=>20|213=>504|46=>322|232=>335|233=>508|n=>n,fun|17=>15|18=>16|19=>17|n=>n⟩
theorem Jmy:Go.Proofs.LaysM.n171 N Jga:={
 mixed:=by kernel_rfl
 f129:=func320.trans (congrArg Z (by kernel_rfl))
 f171:=func101.trans (congrArg Z (by kernel_rfl))
 f243:=func162.trans (congrArg Z (by kernel_rfl))
 f246:=func248.trans (congrArg Z (by kernel_rfl))
 f283:=func323.trans (congrArg Z (by kernel_rfl))
 f284:=func324.trans (congrArg Z (by kernel_rfl))
 f285:=func325.trans (congrArg Z (by kernel_rfl))
 f286:=func326.trans (congrArg Z (by kernel_rfl))
 f317:=func354.trans (congrArg Z (by kernel_rfl))
 f318:=func355.trans (congrArg Z (by kernel_rfl))
 f319:=func356.trans (congrArg Z (by kernel_rfl))
 f320:=func357.trans (congrArg Z (by kernel_rfl))
 f337:=func360.trans (congrArg Z (by kernel_rfl))
 f338:=func361.trans (congrArg Z (by kernel_rfl))
 t0:=underlying0
 a0:=isAgg0
 z0:=sizeOf0
 v0:=zeroValue0
 t2:=underlying2
 a2:=isAgg2
 z2:=sizeOf2
 v2:=zeroValue2
 t3:=underlying3
 a3:=isAgg3
 z3:=sizeOf3
 v3:=zeroValue3
 t4:=underlying4
 a4:=isAgg4
 z4:=sizeOf4
 v4:=zeroValue4
 t5:=underlying5
 a5:=isAgg5
 z5:=sizeOf5
 v5:=zeroValue5
 t9:=underlying9
 a9:=isAgg9
 z9:=sizeOf9
 v9:=zeroValue9
 t20:=underlying20
 a20:=isAgg20
 z20:=sizeOf20
 v20:=zeroValue20
 t37:=underlying52
 a37:=isAgg52
 z37:=sizeOf52
 v37:=zeroValue52
 t46:=underlying322
 a46:=isAgg322
 z46:=sizeOf322
 v46:=zeroValue322
 t51:=underlying429
 a51:=isAgg429
 z51:=sizeOf429
 v51:=zeroValue429
 t53:=underlying78
 a53:=isAgg78
 z53:=sizeOf78
 v53:=zeroValue78
 t171:=underlying472
 a171:=isAgg472
 z171:=sizeOf472
 v171:=zeroValue472
 t173:=underlying474
 a173:=isAgg474
 z173:=sizeOf474
 v173:=zeroValue474
 t212:=underlying503
 a212:=isAgg503
 z212:=sizeOf503
 v212:=zeroValue503
 t213:=underlying504
 a213:=isAgg504
 z213:=sizeOf504
 t232:=underlying335
 a232:=isAgg335
 z232:=sizeOf335
 v232:=zeroValue335
 t233:=underlying508
 a233:=isAgg508
 z233:=sizeOf508
 v233:=zeroValue508
 g17:=by kernel_rfl
 g18:=by kernel_rfl
 g19:=by kernel_rfl
 i0:=by kernel_rfl
 i2:=by kernel_rfl
 i3:=by kernel_rfl
 i4:=by kernel_rfl
 i5:=by kernel_rfl
 i9:=by kernel_rfl
 i20:=by kernel_rfl
 i37:=by kernel_rfl
 i46:=by kernel_rfl
 i51:=by kernel_rfl
 i53:=by kernel_rfl
 i171:=by kernel_rfl
 i173:=by kernel_rfl
 i212:=by kernel_rfl
 i232:=by kernel_rfl
 i233:=by kernel_rfl
 m17:=by kernel_rfl
 m18:=by kernel_rfl
 m19:=by kernel_rfl }
open Go.RowKit Go.Sort Go.Lib in
theorem strconv_Itoa(n:Int)(h0: -9223372036854775808<=n)(h1:n<=9223372036854775807)(w:aA)(sK:Lib.TabIs N w "internal/strconv.uint64pow10" aD Lib.pow10Tab):
  aB N 101 #[O I n] w λe w'=>e=aC (L ⟨(Lib.itoa n).toArray⟩)/\∃k os,w'=grow (w.drewN k) os:=Any.strconv_Itoa Jmy n h0 h1 w sK
end Go.Proofs
namespace Go.Proofs.YtighkdnooglfjaaGreatDoor
open Go.Proofs.Tryz
open Go.RowKit
theorem JiF(w:aA)(k:Nat)(os:Array Obj):Below w.heap.size w (Go.Sort.grow (w.drewN k) os):=
 ⟨rfl,rfl,rfl,by simp[Go.Sort.grow,World.drewN],λj hj=>by simp[Go.Sort.grow,World.drewN,Array.getElem?_append_left hj]⟩
theorem JdQ{E:Nat->Addr}{w:aA}(hE:Env E w)(i:Nat)(hi:i<100000):aB N 101 #[O I (i:Int)] w λe w'=>(∃s:BA,s.size<=30/\e=aC (L s))/\Below w.heap.size w w':=by
 refine(strconv_Itoa (i:Int) (by omega) (by omega) w hE.pow).mono λe w' h=>?_;obtain⟨h1,k,os,h2⟩:=h;refine⟨⟨_,?_,h1⟩,by rw[h2];exact JiF w k os⟩;have:=Lib.itoa_length_le (i:Int) (by omega) (by omega);show (Lib.itoa (i:Int)).toArray.size<=30;simp;omega

def ShO(x:VV):Prop:=∃(a:Int)(o:Int),x=(O aD a,O aE o)
def ShC(x:VV):Prop:=∃(a:BA)(o:Int),x=(L a,O I o)
def ShT(x:VV):Prop:=∃(a:Sl)(o:Sl),x=(R a.1 a.2.1 a.2.2,R o.1 o.2.1 o.2.2)
def ShS(x:VV):Prop:=∃(a:Int)(o:BA),x=(O I a,L o)
abbrev lkO:LK:=⟨80,22,351,205⟩
abbrev lkC:LK:=⟨49,96,349,203⟩
abbrev lkT:LK:=⟨98,73,234,134⟩
abbrev lkS:LK:=⟨366,255,367,218⟩
abbrev zO:VV:=(O aD 0,O aE 0)
abbrev zC:VV:=(L ⟨#[]⟩,O I 0)
abbrev zT:VV:=(R Y 0 0,R Y 0 0)
abbrev zS:VV:=(O I 0,L ⟨#[]⟩)
structure LX where
 k:LK
 fE:FuncId
 fS:FuncId
 fL:FuncId
 z:VV
 Sh:VV->Prop
 by_:Nat
abbrev xO:LX:=⟨lkO,189,282,204,zO,ShO,16⟩
abbrev xC:LX:=⟨lkC,280,281,202,zC,ShC,24⟩
abbrev xT:LX:=⟨lkT,135,201,133,zT,ShT,48⟩
abbrev xS:LX:=⟨lkS,286,291,216,zS,ShS,24⟩
def IsL(K:LX):Prop:=K=xO\/K=xC\/K=xT\/K=xS
theorem isO:IsL xO:=aM rfl
theorem isC:IsL xC:=aN (aM rfl)
theorem isT:IsL xT:=aN (aN (aM rfl))
theorem isS:IsL xS:=aN (aN (aN rfl))
def Tag(_:LX):Prop:=True
abbrev Tag.K{K:LX}(_:Tag K):LX:=K
theorem Jnm{K:LX}(hK:IsL K){x:VV}(h:K.Sh x):x.1.oneCell'=true/\x.2.oneCell'=true:=by
 rcases hK with rfl|rfl|rfl|rfl
 all_goals obtain⟨a,o,rfl⟩:=h;exact⟨rfl,rfl⟩
theorem JjV(a b:aG):∀n:Nat,madeCells #[a,b] (n*2)=Hv (lC n (a,b)):=by
 intro n;apply Array.ext_getElem?;intro k
 by_cases hk:k<n*2
 ·obtain⟨e0,e1⟩:=Yu (lC n (a,b)) (k/2) (by rw[lE];omega);rw[List.getElem_replicate]at e0 e1;have hm:(madeCells #[a,b] (n*2))[k]? =Z (#[a,b][k % 2]!):=by simp[madeCells,hk]
  rw[hm]
  rcases Nat.mod_two_eq_zero_or_one k with hp|hp
  ·rw[hp,show k=k/2*2 by omega,e0];rfl
  ·rw[hp,show k=k/2*2+1 by omega,e1];rfl
 ·rw[Array.getElem?_eq_none (by rw[size_madeCells];omega),Array.getElem?_eq_none (by rw[Ys,lE];omega)]
theorem JjO{K:LX}(hK:IsL K):(prog.info? K.k.tE).map (λi=>(i.zero,i.size,i.bytes))=Z (Z (aH #[K.z.1,K.z.2]),2,K.by_)/\prog.underlying K.k.tS=Z (.slice K.k.tE)/\(Value.agg #[K.z.1,K.z.2]).cells= #[K.z.1,K.z.2]/\K.by_<=48/\(prog.info? K.k.tE).map (·.size)=Z 2:=by
 rcases hK with rfl|rfl|rfl|rfl
 all_goals refine⟨by kernel_rfl,by kernel_rfl,rfl,by decide,by kernel_rfl⟩
theorem mkL{K:LX}(hK:IsL K)(n:Nat)(h:n<=264)(w:aA):(Instr.makeSlice K.k.tS (O aD (n:Int)) (O aD (n:Int))).run N w=.ok (R (Z ⟨w.heap.size,0,Y⟩) n n) (w.alloc (T (Hv (lC n K.z)) K.k.tE)):=by
 obtain⟨h1,hu,hc,hb,_⟩:=JjO hK;obtain⟨i,hi,hp⟩:=Option.map_eq_some_iff.1 h1;simp only[Qw]at hp;obtain⟨hz,Hp,gy⟩:=hp;have:=run_makeSlice (P:=N) (w:=w) K.k.tS K.k.tE i _ hu hi hz aD aD (n:Int) (n:Int) (by omega) (by omega) (by rw[Hp];omega) (by rw[gy];have:=Nat.mul_le_mul hb h;omega) (by omega);rw[this,Int.toNat_natCast,Hp,hc,JjV]

theorem JjM{K:LX}(hK:IsL K)(f:FuncId)(caps:Array aG)(what:BA)(g off n cap:Nat)(x:Nat->VV)(hx:∀i,i<n->K.Sh (x i))(Inv:Nat->aA->Prop)(Bad:aG->aA->Prop)(H:JcW f caps g off n x Inv Bad)(hn:n<=264)(hIt:∀v W,Bad v W->∀i:Nat,i<n->aB N 101 #[O I (i:Int)] W λe w'=>(∃s:BA,s.size<=30/\e=aC (L s))/\Below W.heap.size W w')(hw:what.size<=1000)(w:aA)(h0:Inv 0 w):
  aB N K.fE #[L what,R (Z ⟨g,off,Y⟩) n cap,.func (.func f) #[] caps] w λe w'=>ToE Inv Bad n e w':=by
 have HX:J _:=hx;have HIT:J _:=hIt;have hk:Tag K:=trivial
 rcases hK with rfl|rfl|rfl|rfl
 all_goals
  first|go_enter func189,ntmps189|go_enter func280,ntmps280|go_enter func135,ntmps135|go_enter func286,ntmps286
  go_wp2;go_loopw [12] (λi wr=>∃k:Nat,k<=n/\i=O I k/\Inv k wr) (λi _=>n-(intOf i).toNat)
  case atStart=>exact⟨0,by omega,rfl,h0⟩
  case round=>
   obtain⟨k,hk,rfl,hI⟩:=hrel
   by_cases H7:k<n
   ·obtain⟨c0,c1⟩:=H.read k _ H7 hI;have ns:=λW=>H.call k W H7;obtain⟨xa,xo,hxk⟩:=HX k H7;rw[hxk]at c0 c1 ns;have zq:J _:=ns;have kj:(k:Int)<(n:Int):=(by omega);have hen:=H.enter;go_wp2_with fail;refine(zq.o _ (H.alloc k _ _ hI)).mono ?_;rintro _ w1 (⟨rfl,sL⟩|⟨t,v,rfl,hB⟩)
    ·go_wp2;go_roundw
     case rel=>exact⟨k+1,by omega,by go_num,sL⟩
     case measure=>simp[intOf];omega
    ·have HB:J _:=hB;go_wp2_with fail;refine(HIT _ _ HB k H7).mono ?_;rintro _ w2⟨⟨s1,xt,rfl⟩,(jo:J _)⟩;have fQ:(what++(⟨#[32]⟩:BA)).size<=1001:=(by rw[ByteArray.size_append];show what.size+1<=1001;omega);generalize what++(⟨#[32]⟩:BA)=ws at *;have tM:¬(ws.size+s1.size > 9223372036854775807):=(by omega);go_wp2_with fail;refine(Xk (ws++s1) t v _).mono ?_;rintro _ _⟨rfl,rfl⟩;go_wp2;go_ret;exact aN ⟨w2.heap.size,ws++s1,aJ t v,w1,rfl,Qf _ _,HB,jo.alloc jo.size _⟩
   ·have HK:J (k=n):=(by omega:k=n)
    have jA:¬(k:Int)<(n:Int):=(by omega);have HI:J _:=hI;go_wp2;go_ret;exact aM ⟨rfl,by rw[<-HK.o];exact HI⟩

theorem JcD{K:LX}(hK:IsL K)(f:FuncId)(caps:Array aG)(what:BA)(g off n cap:Nat)(x:Nat->VV)(hx:∀i,i<n->K.Sh (x i))(Inv:Nat->aA->Prop)(Bad:aG->aA->Prop)(H:JcW f caps g off n x Inv Bad)(hn:n<=3)(hw:what.size<=1000)(w:aA)(h0:Inv 0 w):
  aB N K.fE #[L what,R (Z ⟨g,off,Y⟩) n cap,.func (.func f) #[] caps] w λe w'=>ToE Inv Bad n e w':=
 JjM hK f caps what g off n cap x hx Inv Bad H (by omega) (λ_ W _ i hi=>(JiJ i (by omega) W).mono λe w' h=>by
  obtain⟨⟨s,h1,h2⟩,rfl⟩:=h;exact⟨⟨s,by omega,h2⟩,Below.refl _ _⟩) hw w h0
theorem JqX{K:LX}(hK:IsL K){E:Nat->Addr}{b wj j6:Nat}{α:Type}{Q:XY α}(H:Zi E b wj j6 K.k.fP Q K.Sh)(aZ gp cnt:Nat)(w:aA)(g:Option Nat)(i:Nat)(x:VV)(a:α)(l:List VV)(p:PS)(hE:Env E w)(hL:YV K.k w b g aZ gp cnt l)(hp:Jd w b g wj aK p)(hI:Q.Init b w p x a)(hi:i<cnt)(hd:p.len<=j6):
  aB N K.fS #[O I (i:Int),aH #[x.1,x.2],X (Z ⟨aZ+2,0,Y⟩),X (Z ⟨gp+1,0,Y⟩),X (Z ⟨aZ,0,Y⟩)] w λe w'=>JlJ K.k E w b g wj aZ gp cnt i Q l (Q.f a p) e w':=by
 have c0:=rows hL.box0;have c1:w.cell? ⟨aZ+2,0,Y⟩=Z (.func (.func K.k.fP) #[X (Z ⟨b,0,Y⟩)] #[]):=Ja hL.box1;have c2:w.cell? ⟨gp+1,0,Y⟩=Z (R (Z ⟨gp,0,Y⟩) cnt cnt):=Ja hL.box2;have H7:=hp.lt;have l2:=(Jb hL.box2)
 have hh:=hL.high;have n0:aZ<w.heap.size:=by omega
 have n1:aZ+2<w.heap.size:=by omega
 have hii:(i:Int)<(cnt:Int):=by omega
 have xI:=H.init_shape hI;have tA:M D w (w.alloc (T #[x.1,x.2] K.k.tE)).drew:=(Ta _ w _).trans (Td _ _ 1) (λ_ h=>aM h);have hLA:J (YV K.k (w.alloc (T #[x.1,x.2] K.k.tE)).drew b g aZ gp cnt l):=hL.tch tA noE (aM rfl);have HC:J (aB N K.k.fP #[X (Z ⟨b,0,Y⟩),aH #[x.1,x.2]] (w.alloc (T #[x.1,x.2] K.k.tE)).drew _):=H.call (x:=x) (hE.tch tA noE) (hp.tch tA (λh=>h) (λ_ _ h=>h)) (H.init_tch hI tA noE (PS.like.refl _)) hd;have TA:J _:=tA;have HDT:J (∀{w w':aA} {B:Nat} {g g':Option Nat} {x:VV} {a:α} {S:Nat->Prop},Q.Done w B g x a->M S w w'->(∀j,S j->j<B\/Z j=g\/w.heap.size<=j)->Jq w g g'->Q.Done w' B g' x a):=H.done_tch;have HDM:J (∀{w:aA} {B B':Nat} {g:Option Nat} {x:VV} {a:α},Q.Done w B g x a->B'<=B->Q.Done w B' g x a):=H.done_mono;clear hL hp hE hI tA H;have hk:Tag K:=trivial
 rcases hK with rfl|rfl|rfl|rfl
 all_goals
  obtain⟨xa,xo,rfl⟩:=xI;dsimp only at hLA HC TA
  first|go_enter func282,ntmps282|go_enter func281,ntmps281|go_enter func201,ntmps201|go_enter func291,ntmps291
  go_wp2;go_region_with ((first|go_at_call 205|go_at_call 203|go_at_call 134|go_at_call 218);refine HC.o.mono ?_;rintro _ w1⟨_,⟨ya,yo,rfl⟩,rfl,g1,err,p1,Hy,ql,H9,kP⟩;have rx:J (YV _ w1 b g1 aZ gp cnt l):=hLA.out.tch H9 (λj h=>by rcases h with h|h;exact aM h;exact aN (aM h)) ql;obtain⟨x0,y0,d0,d1,d2,d3⟩:=Jhs rx.o hi;have e2:w1.cell? ⟨gp+1,0,Y⟩=Z (R (Z ⟨gp,0,Y⟩) cnt cnt):=Ja rx.o.box2;have Hx:J (Jd _ _ _ _ _ _):=Hy;have jn:J (Jq _ _ _):=ql;have H5:J (M _ _ _):=H9;have jV:J (match Q.f a p with|some (a,p2)=>p1=p2/\err=aK/\Q.Done w1 _ g1 _ a|none=>Jn E 7 w1 err):=kP;clear Hy ql H9 kP)
  all_goals
   first
    | (obtain⟨j0,je,q1,q2,q3⟩:=Jbh rx.o Hx.o hi (O aD ya) (O aE yo);generalize (w1.setCell ⟨gp,i*2,Y⟩ (O aD ya)).setCell ⟨gp,i*2+1,Y⟩ (O aE yo)=W3 at *)
    | (obtain⟨j0,je,q1,q2,q3⟩:=Jbh rx.o Hx.o hi (L ya) (O I yo);generalize (w1.setCell ⟨gp,i*2,Y⟩ (L ya)).setCell ⟨gp,i*2+1,Y⟩ (O I yo)=W3 at *)
    | (obtain⟨j0,je,q1,q2,q3⟩:=Jbh rx.o Hx.o hi (R ya.1 ya.2.1 ya.2.2) (R yo.1 yo.2.1 yo.2.2);generalize (w1.setCell ⟨gp,i*2,Y⟩ (R ya.1 ya.2.1 ya.2.2)).setCell ⟨gp,i*2+1,Y⟩ (R yo.1 yo.2.1 yo.2.2)=W3 at *)
    | (obtain⟨j0,je,q1,q2,q3⟩:=Jbh rx.o Hx.o hi (O I ya) (L yo);generalize (w1.setCell ⟨gp,i*2,Y⟩ (O I ya)).setCell ⟨gp,i*2+1,Y⟩ (L yo)=W3 at *)
   have Q1:J (YV _ _ _ _ _ _ _ _):=q1;have Q2:J (Jd _ _ _ _ _ _):=q2;have Q3:J (M _ _ _):=q3;clear q1 q2 q3;go_wp2;go_ret;have Hp:=TA.out.size;have hm:Jq w g g1:=by
    rcases jn.o with h|⟨j,h,hj⟩
    ·exact aM h
    ·exact aN ⟨j,h,Qm Hp hj⟩
   have ht:M (λk=>k=b\/Z k=g\/k=gp) w W3:=((TA.out.mono noE).trans H5.o (λj h=>by rcases h with h|h;exact aM (aM h);exact aM (aN (aM h)))).trans Q3.out (λj h=>aM (aN (aN h)));refine⟨ht,?_⟩;have hr:=jV.o
   cases hq:Q.f a p with
   | some r=>
    obtain⟨a',p2⟩:=r;rw[hq]at hr;obtain⟨rfl,rfl,hdn⟩:=hr;have z:∀o,w.heap.size+1=(w.alloc o).drew.heap.size:=λ_=>by simp
    exact⟨rfl,g1,(_,_),Q2.out,Q1.out,HDT.o (HDM.o hdn (by rw[<-z];omega)) Q3.out (λj h=>aM (by omega)) (aM rfl),hm⟩
   | none=>
    rw[hq]at hr;exact⟨err,rfl,hr.tch Q3.out (λq s u hq e=>by subst e;rw[rx.o.arr]at hq;simp at hq),g1,p1,Q2.out,hm,Q1.out.box0⟩

theorem JmK(what:BA)(gU:what.size<=1000):∃s1 s2:BA,(∀W,(Op.stringOp .add (⟨#[110,117,109,98,101,114,32,111,102,32]⟩:BA) what).run N W=.ok (L s1) W)/\∀W,(Op.stringOp .add s1 (⟨#[115]⟩:BA)).run N W=.ok (L s2) W:=by
 obtain⟨s1,xt,yh⟩:∃s1:BA,s1.size<=1010/\∀W,(Op.stringOp .add (⟨#[110,117,109,98,101,114,32,111,102,32]⟩:BA) what).run N W=.ok (L s1) W:=
  ⟨_,by rw[ByteArray.size_append];show 10+what.size<=1010;omega,λW=>run_string_add_sum (P:=N) W _ _ (by show 10+what.size<=_;omega)⟩
 obtain⟨s2,vM⟩:∃s2:BA,∀W,(Op.stringOp .add s1 (⟨#[115]⟩:BA)).run N W=.ok (L s2) W:=
  ⟨_,λW=>run_string_add_sum (P:=N) W _ _ (by show s1.size+1<=_;omega)⟩
 exact⟨s1,s2,yh,vM⟩
structure BoxL(K:LX)(w:aA)(aZ b:Nat)(what:BA)(size least most:Nat):Prop where
 c:w.heap[aZ]? =Z (T #[X (Z ⟨b,0,Y⟩)] 230)
 of:w.heap[aZ+1]? =Z (T #[L what,O I (size:Int),O aD (least:Int),O aD (most:Int)] 233)
 part:w.heap[aZ+2]? =Z (T #[.func (.func K.k.fP) #[X (Z ⟨b,0,Y⟩)] #[]] K.k.tF)
theorem BoxL.tch{K:LX}{w w':aA}{aZ b:Nat}{what:BA}{size least most:Nat}{S:Nat->Prop}(h:BoxL K w aZ b what size least most)(k:M S w w')(hs:∀j,aZ<=j->j<aZ+3->¬S j):BoxL K w' aZ b what size least most:=
 ⟨(k.block _ (Jb h.c) (hs _ (by omega) (by omega))).trans h.c,(k.block _ (Jb h.of) (hs _ (by omega) (by omega))).trans h.of,(k.block _ (Jb h.part) (hs _ (by omega) (by omega))).trans h.part⟩
theorem BoxL.cells{K:LX}{w:aA}{aZ b:Nat}{what:BA}{size least most:Nat}(h:BoxL K w aZ b what size least most):w.cell? ⟨aZ,0,Y⟩=Z (X (Z ⟨b,0,Y⟩))/\w.cell? ⟨aZ+1,0,Y⟩=Z (L what)/\w.cell? ⟨aZ+1,2,Y⟩=Z (O aD (least:Int))/\w.cell? ⟨aZ+1,3,Y⟩=Z (O aD (most:Int)):=
 ⟨Ja h.c,Ja h.of,Ja h.of,Ja h.of⟩

def JcX(b:Nat)(g:Option Nat)(v:aG):Prop:=∀a n c,v=R (Z a) n c->a.block ≠ b/\Z a.block ≠ g
theorem JcX.nil(b:Nat)(g:Option Nat):JcX b g (R Y 0 0):=λa n c h=>by cases h
theorem VAt.tchF{B:Nat}{w w':aA}{v:aG}{l:List VV}{S:Nat->Prop}(h:VAt B w v l)(k:M S w w')(hs:∀a n c,v=R (Z a) n c->¬S a.block):VAt B w' v l:=by
 rcases h with h|⟨gi,oi,c,hv,h1,h2,h3⟩
 ·exact aM h
 ·refine aN ⟨gi,oi,c,hv,h1,Qk h2 k.size,λi hi=>?_⟩;have hc:∀o,w'.cell? ⟨gi,o,lO⟩=w.cell? ⟨gi,o,lO⟩:=λo=>k.cell (p:=⟨gi,o,lO⟩) h2 (show ¬S gi from hs ⟨gi,oi,lO⟩ _ _ hv);rw[hc,hc];exact h3 i hi
theorem VAt.free{b:Nat}{g:Option Nat}{wj:Int}{w:aA}{v e:aG}{l:List VV}{p:PS}(h:VAt b w v l)(hp:Jd w b g wj e p):JcX b g v:=by
 intro a n c e
 rcases h with⟨h,_⟩|⟨gi,oi,c,hv,h1,_⟩
 ·rw[h]at e;cases e
 ·rw[hv]at e
  cases e
  exact⟨by show gi ≠ b;omega,λe=>by have:=(hp.own _ e.symm).1;simp only at this;omega⟩
theorem Jbi{K:LX}(hK:IsL K)(b:Nat)(g:Option Nat)(wj:Nat)(what:BA)(gU:what.size<=1000)(size least most:Nat)(v:aG)(ia:Option Addr)(n ic:Nat)(kG:v=R ia n ic)(p0:PS)(t:TypeId)(u:aG)(w:aA)(hp:Jd w b g wj (aJ t u) p0):
  aB N K.fL #[X (Z ⟨b,0,Y⟩),aH #[L what,O I (size:Int),O aD (least:Int),O aD (most:Int)],v,.func (.func K.k.fP) #[X (Z ⟨b,0,Y⟩)] #[]] w λe w'=>e=aC (R Y 0 0)/\Jd w' b g wj (aJ t u) p0/\M D w w':=by
 have H7:=hp.lt;subst kG;obtain⟨s1,s2,yh,vM⟩:=JmK what gU;have hk:Tag K:=trivial
 rcases hK with rfl|rfl|rfl|rfl
 all_goals
  first|go_enter func204,ntmps204|go_enter func202,ntmps202|go_enter func133,ntmps133|go_enter func216,ntmps216
  go_wp2_with fail;refine(JaB b g wj _ _ p0 t u _ (hp.allocs3 _ _ _)).mono ?_;rintro _ w1⟨rfl,Hn⟩;have HP:J (Jd w1 b g wj (aJ t u) p0):=by rw[<-Hn];exact hp.allocs3 _ _ _
  have HT:J (M D w w1):=by rw[<-Hn];exact M.allocs3 _ _ _ _ _
  obtain⟨c0,cA,cB,cC⟩:=(show BoxL hk.K w1 w.heap.size b what size least most by rw[<-Hn];exact⟨JU _ _ _ _,JQ _ _ _ _,JE _ _ _ _⟩).cells;have ce:=HP.o.errCell;clear hp Hn;go_wp2_with (go_at_call 200;refine(JbL b g wj _ p0 t u _ HP.o).mono ?_;rintro _ _⟨rfl,rfl⟩)
  all_goals go_ret
  all_goals exact⟨rfl,HP.o,HT.o⟩

theorem Jow{K:LX}(hK:IsL K)(E:Nat->Addr)(b:Nat)(g:Option Nat)(wj:Nat)(what:BA)(gU:what.size<=1000)(size least most:Nat)(v:aG)(ia:Option Addr)(n ic:Nat)(kG:v=R ia n ic)(p0:PS)(w:aA)(hE:Env E w)(hp:Jd w b g wj aK p0)(hn:n<1000000)(hd:p0.len<=10000000000000)(Hp:size<=8)(h1:p0.num n size=Y):
  aB N K.fL #[X (Z ⟨b,0,Y⟩),aH #[L what,O I (size:Int),O aD (least:Int),O aD (most:Int)],v,.func (.func K.k.fP) #[X (Z ⟨b,0,Y⟩)] #[]] w λe w'=>(∃a n c,e=aC (R a n c))/\JbS E w w' b g wj:=by
 have H7:=hp.lt;subst kG;have hlw:lP.wrap (n:Int)=(n:Int):=JK _ (by omega) (by omega);obtain⟨s1,s2,yh,vM⟩:=JmK what gU;have hk:Tag K:=trivial
 rcases hK with rfl|rfl|rfl|rfl
 all_goals
  first|go_enter func204,ntmps204|go_enter func202,ntmps202|go_enter func133,ntmps133|go_enter func216,ntmps216
  go_wp2_with fail;refine(Zn E b g wj n size p0 _ (hE.allocs3 _ _ _) (hp.allocs3 _ _ _) Hp hd h1).mono ?_;rintro _ w1⟨rfl,Hy,H9⟩;obtain⟨c0,cA,cB,cC⟩:=(BoxL.tch (K:=hk.K) (b:=b) (what:=what) (size:=size) (least:=least) (most:=most) ⟨JU _ _ _ _,JQ _ _ _ _,JE _ _ _ _⟩ H9 (λj h1 h2 e=>by omega)).cells;have ce:=Hy.errCell;have Hx:J _:=Hy;have H5:J _:=H9;go_wp2_with (go_at_call 200;refine(JbL b g wj _ p0 _ _ _ Hx).mono ?_;rintro _ _⟨rfl,rfl⟩)
  all_goals go_ret
  all_goals exact⟨⟨_,_,_,rfl⟩,g,p0,_,Hx,.base,aM rfl,(M.allocs3 _ _ _ _ _).trans H5 (λj h=>aM (aM h))⟩

theorem Jox{K:LX}(hK:IsL K)(E:Nat->Addr)(b:Nat)(Hi:18<=b)(g:Option Nat)(wj:Nat)(what:BA)(gU:what.size<=1000)(size least most:Nat)(v:aG)(ia:Option Addr)(n ic cnt:Nat)(kG:v=R ia n ic)(p0 p:PS)(w:aA)(hE:Env E w)(hp:Jd w b g wj aK p0)(hn:n<1000000)(hd:p0.len<=10000000000000)(Hp:size<=8)(h1:p0.num n size=Z (cnt,p))(hr:cnt<least\/most<cnt):
  aB N K.fL #[X (Z ⟨b,0,Y⟩),aH #[L what,O I (size:Int),O aD (least:Int),O aD (most:Int)],v,.func (.func K.k.fP) #[X (Z ⟨b,0,Y⟩)] #[]] w λe w'=>(∃a n c,e=aC (R a n c))/\JbS E w w' b g wj:=by
 have H7:=hp.lt;subst kG;have hlw:lP.wrap (n:Int)=(n:Int):=JK _ (by omega) (by omega);obtain⟨s1,s2,yh,vM⟩:=JmK what gU;have hk:Tag K:=trivial
 rcases hK with rfl|rfl|rfl|rfl
 all_goals
  first|go_enter func204,ntmps204|go_enter func202,ntmps202|go_enter func133,ntmps133|go_enter func216,ntmps216
  go_wp2_with fail;refine(Xv b g wj n size cnt p0 p _ (hp.allocs3 _ _ _) Hp hd h1).mono ?_;rintro _ w1⟨rfl,g1,Hy,ql,H9⟩;have hB:=BoxL.tch (K:=hk.K) (b:=b) (what:=what) (size:=size) (least:=least) (most:=most) ⟨JU _ _ _ _,JQ _ _ _ _,JE _ _ _ _⟩ H9 (λj h1 h2=>Yp hp j h1);obtain⟨c0,cA,cB,cC⟩:=hB.cells;have ce:=Hy.errCell;have xX:J _:=(hE.allocs3 _ _ _).tch H9 (Jbk Hi hp);have xt:=H9.size;simp at xt;have HB:J (BoxL hk.K w1 w.heap.size b what size least most):=hB;have Hx:J _:=Hy;have jn:J (Jq _ g g1):=ql;have H5:J (M _ _ w1):=H9;clear hp Hy ql H9 hE hB h1;have uS:(decide (cnt<least) || decide (most<cnt))=true:=by simpa using hr
  clear hr;go_wp2_with fail
  all_goals refine(Jel E b g1 wj s2 p w1 xX.o Hx.o).mono ?_;rintro _ w5⟨rfl,hp5,fZ,kR⟩;obtain⟨k0,_,_,_⟩:=(HB.o.tch kR (λj h1 h2 e=>by omega)).cells;have ce5:=hp5.errCell;have HP5:J (Jd _ _ _ _ _ _):=hp5;have sM:J (Jn _ _ _ _):=fZ;have kD:J (M _ _ _):=kR;clear hp5 fZ kR;go_wp2;go_ret;exact⟨⟨_,_,_,rfl⟩,g1,p,_,HP5.o,sM.o,jn.o.allocs3,((M.allocs3 _ _ _ _ _).trans H5.o (λj h=>aM h)).trans kD.o (λj h=>aM (aM h))⟩

theorem Joy{K:LX}(hK:IsL K)(mx:Nat)(hmx:mx<=264){E:Nat->Addr}{b wj j6:Nat}{α:Type}{Q:XY α}(H:Zi E b wj j6 K.k.fP Q K.Sh)(hz:Q.zeroV=K.z)(Hi:18<=b)(g:Option Nat)(what:BA)(gU:what.size<=1000)(size least most:Nat)(v:aG)(l:List VV)(xa:List α)(cnt:Nat)(p0 p:PS)(w:aA)
  (hE:Env E w) (hp:Jd w b g wj aK p0) (hv:VAt w.heap.size w v l) (xB:JcX b g v) (hl:l.length=xa.length) (hn:xa.length<1000000) (hd:p0.len+8+Q.grow*mx<=j6) (sN:j6<=10000000000000) (Hp:size<=8) (xM:most<=mx) (h1:p0.num xa.length size=Z (cnt,p)) (hlo:least<=cnt) (hhi:cnt<=most) (yK:v=R Y 0 0\/xa.length=cnt)
  (gV:∀(j:Nat) x a,l[j]? =Z x->xa[j]? =Z a->Q.Init b w p0 x a):
  aB N K.fL #[X (Z ⟨b,0,Y⟩),aH #[L what,O I (size:Int),O aD (least:Int),O aD (most:Int)],v,.func (.func K.k.fP) #[X (Z ⟨b,0,Y⟩)] #[]] w λe w'=>ToL K.k E w b g wj Q (PS.many Q.f (Jw Q.zero xa cnt) p) e w':=by
 have H7:=hp.lt;obtain⟨ia,ic,kG⟩:=hv.shape;rw[hl]at kG;have hlw:lP.wrap (xa.length:Int)=(xa.length:Int):=JK _ (by omega) (by omega);have f9:∀x∈l,x.1.oneCell'=true/\x.2.oneCell'=true:=λx hx=>by
  obtain⟨j,hj,rfl⟩:=List.getElem_of_mem hx;exact Jnm hK (H.init_shape (gV j l[j] xa[j] (Qd hj) (Qd (by omega))))
 have HONE:J _:=f9;have HV:J (VAt w.heap.size w v l):=hv;have HVB:J _:=xB;have HVC:J _:=yK;have yw:J _:=gV;have HL:J _:=hl;have H1:J (p0.num xa.length size=Z (cnt,p)):=h1;clear hv xB yK gV hl f9;subst kG;have qZ:=mkL hK cnt (by omega);obtain⟨_,(HUN:J _),_,_,(HIF:J _)⟩:=JjO hK;have hEa:= @JjM K hK;have bE:= @JqX K hK E b wj j6 α Q H;have hk:Tag K:=trivial
 rcases hK with rfl|rfl|rfl|rfl
 all_goals
  have yM:J _:=hEa;have jW:J _:=bE;clear hEa bE
  first|go_enter func204,ntmps204|go_enter func202,ntmps202|go_enter func133,ntmps133|go_enter func216,ntmps216
  go_wp2_with fail;refine(Xv b g wj xa.length size cnt p0 p _ (hp.allocs3 _ _ _) Hp (by omega) h1).mono ?_;rintro _ w1⟨rfl,g1,Hy,(jn:J _),H9⟩;have hB:=BoxL.tch (K:=hk.K) (b:=b) (what:=what) (size:=size) (least:=least) (most:=most) ⟨JU _ _ _ _,JQ _ _ _ _,JE _ _ _ _⟩ H9 (λj h1 h2=>Yp hp j h1);obtain⟨c0,cA,cB,cC⟩:=hB.cells;have ce:=Hy.errCell;have t1:¬(cnt:Int)<(least:Int):=by omega
  have t2:¬(most:Int)<(cnt:Int):=by omega
  have HP:J (Jd w b g wj aK p0):=hp;have Hx:J _:=Hy;have H5:J _:=H9;have HB:J _:=hB;have HE:J _:=hE;have HH:J _:=H;have HZ:J _:=hz;clear hp Hy H9 hB hE H hz h1;have xt:=H5.o.size;simp at xt;obtain⟨rr,tN⟩:=Jod (z:=hk.K.z) (gp:=w1.heap.size) (cnt:=cnt) (w:=(w1.alloc (T (Hv (lC cnt hk.K.z)) hk.K.k.tE)).alloc (T #[R (Z ⟨w1.heap.size,0,Y⟩) cnt cnt] hk.K.k.tS)) HUN HIF HONE.o
   ((HV.o.tch (M.allocs3 D w _ _ _) noE).tchF H5.o (λa n c e hj=>by
    rcases hj with hj|hj
    ·exact(HVB a n c e).1 hj
    ·exact(HVB a n c e).2 hj) |>.tch (M.allocs D w1 _ _) noE) (heap_alloc2_old _ _ _) (by rw[HL.o];exact HVC)
  have dF:=Jbz hk.K.z HV rfl (by rw[HL.o];exact HVC);have dG:=Jbz Q.zero HV HL HVC.o;obtain⟨W3,xZ,F3⟩:=Jht (K:=hk.K.k) (z:=hk.K.z) (w1:=w1) (st:=Jw hk.K.z l cnt) HP Hx jn H5 HB.c HB.part HE Hi xt dF;rw[<-xZ]at tN;have hcp3:=tN 3;obtain⟨(G1:J _),F2,F4,F5,F6,F8,F7⟩:=F3;obtain⟨k0,kA,_,_⟩:=(HB.o.tch F8 (λ_ _ _ h=>h)).cells;have k2:W3.cell? ⟨w1.heap.size+1,0,Y⟩=Z (R (Z ⟨w1.heap.size,0,Y⟩) cnt cnt):=Ja G1.box2;have G2:J (Jd _ _ _ _ _ _):=F2;have G4:J (Env E W3):=F4;have G5:J (Jq _ _ _):=F5;have G6:J (M _ _ _):=F6;have qq:=ZR _ _ _ _ _ H1.o;have hgr:Q.grow*cnt<=Q.grow*mx:=Nat.mul_le_mul_left _ (by omega);have HS:J (JcW _ _ _ _ _ _ (InvV hk.K.k E W3 b g1 wj w.heap.size w1.heap.size cnt Q (Jw hk.K.z l cnt) (Jw Q.zero xa cnt) p) (BadV E W3 b g1 wj w.heap.size w1.heap.size Q (Jw Q.zero xa cnt) p)):=JqY HH.o hk.K.fS (λ_ _=>by kernel_rfl) W3 Hi g1 w.heap.size w1.heap.size cnt (Jw hk.K.z l cnt) (Jw Q.zero xa cnt) p dF dG (by omega) (by omega) (λW g i x a l p=>jW.o _ _ _ W g i x a l p);have tD:=Td D W3 1;have fb:J (∀(j:Nat) x t,(Jw hk.K.z l cnt)[j]? =Z x->(Jw Q.zero xa cnt)[j]? =Z t->Q.Init b W3.drew p x t):=by
   have:=Jhl HH.o (cnt:=cnt) HL.o (λj x t a c=>HH.o.init_tch (HH.o.init_tch (yw.o j x t a c) G6.out (λj hj=>by
    rcases hj with rfl|hj
    ·exact Ql _
    ·have:=(HP.o.own j hj.symm).1;omega) (Yo H1.o)) tD noE (PS.like.refl _))
   rw[HZ.o]at this;exact this
  have HI:J (InvV hk.K.k E W3 b g1 wj w.heap.size w1.heap.size cnt Q (Jw hk.K.z l cnt) (Jw Q.zero xa cnt) p 0 W3.drew):=⟨g1,[],[],p,by simp[PS.many],rfl,G2.out.tch tD (λh=>h) (λ_ _ h=>h),G1.out.tch tD noE (aM rfl),λj x t a=>by simp at a,fb.o,G4.out.tch tD noE,aM rfl,tD.mono noE,PS.like.refl _,by omega⟩
  have bU:J (∀i,i<cnt->hk.K.Sh ((Jw hk.K.z l cnt).getD i Q.zeroV)):=λi hi=>by
   have yW:i<(Jw hk.K.z l cnt).length:=(by omega);have e:(Jw hk.K.z l cnt).getD i Q.zeroV=(Jw hk.K.z l cnt)[i]:=(by simp[lF,yW]);rw[e];exact HH.o.init_shape (fb.o i _ ((Jw Q.zero xa cnt)[i]'(by omega)) (Qd yW) (Qd (by omega)))
  have HXL:J ((Jw Q.zero xa cnt).length=cnt):=dG;have HIT:J (∀v W,BadV E W3 b g1 wj w.heap.size w1.heap.size Q (Jw Q.zero xa cnt) p v W->∀i:Nat,i<cnt->aB N 101 #[O I (i:Int)] W λe w'=>(∃s:BA,s.size<=30/\e=aC (L s))/\Below W.heap.size W w'):=λv W hB i hi=>by
   obtain⟨_,_,_,_,_,_,ht,_⟩:=hB;refine JdQ (G4.out.tch ht (λj hj=>?_)) i (by omega)
   rcases hj with rfl|hj|rfl
   ·exact Hi
   ·have:=(G2.out.own j hj.symm).1;omega
   ·have:=HP.o.lt;omega
  have hlN:w.heap.size+1<W3.heap.size:=by omega
  have HKA:J (∀w4,M (λk=>k=b\/Z k=g1\/k=w1.heap.size) W3 w4->w4.cell? ⟨w.heap.size+1,0,Y⟩=Z (L what)):=λw4 ht=>(ht.cell (p:=⟨w.heap.size+1,0,Y⟩) hlN (by
   show ¬(w.heap.size+1=b\/Z (w.heap.size+1)=g1\/w.heap.size+1=w1.heap.size);have:=JbG HP.o _ _ _ jn.o (w.heap.size+1) (by omega) (by omega);rintro(e|e|e)
   ·omega
   ·exact this (aN e)
   ·omega)).trans kA
  clear tN xZ F2 F4 F5 F6 F8 tD dF dG;have uQ:∀(fn:Fn)(first cap:Array aG)(w:aA),(lM fn first cap).run N w=.ok (.func fn first cap) w:=λ_ _ _ _=>rfl
  cases hq:PS.many Q.f (Jw Q.zero xa cnt) p with
  | some r=>
   obtain⟨ys,p2⟩:=r;have HQ:J (_=_):=hq;clear hq;go_wp2;go_region_held3 (λW=>W.cell? ⟨w.heap.size,0,Y⟩=Z (X (Z ⟨b,0,Y⟩))/\W.cell? ⟨w.heap.size+1,0,Y⟩=Z (L what)/\W.cell? ⟨w1.heap.size+1,0,Y⟩=Z (R (Z ⟨w1.heap.size,0,Y⟩) cnt cnt)) (go_keep) (((first|go_at_call 189|go_at_call 280|go_at_call 135|go_at_call 286);refine(yM.o _ _ what w1.heap.size 0 cnt cnt _ bU.o _ _ HS.o (by omega) HIT.o gU _ HI.o).mono ?_;intro e w4 h4;obtain⟨err,g4,p4,v4,rfl,xI,yj,nt,Hu,fe,nu,ff⟩:=Jfg h4 G1.out HXL.o;rw[HQ.o]at ff;obtain⟨rfl,rfl,xs,hL4,sJ,dH⟩:=ff;obtain⟨d2,f2,q1,q2⟩:=XO (n:=0) (e':=aK) yj;rw[lI]at d2 f2 q1 q2;have k4:w4.cell? ⟨w.heap.size,0,Y⟩=Z (X (Z ⟨b,0,Y⟩)):=Ja fe;have kA4:w4.cell? ⟨w.heap.size+1,0,Y⟩=Z (L what):=HKA.o w4 Hu;have kB4:w4.cell? ⟨w1.heap.size+1,0,Y⟩=Z (R (Z ⟨w1.heap.size,0,Y⟩) cnt cnt):=Ja nu;have hz4:=Qm F7 Hu.size;have j4:=(q2.cell (p:=⟨w.heap.size,0,Y⟩) (by show w.heap.size<_;omega) (by show ¬w.heap.size=b;omega)).trans k4;have jA4:=(q2.cell (p:=⟨w.heap.size+1,0,Y⟩) (by show w.heap.size+1<_;omega) (by show ¬w.heap.size+1=b;omega)).trans kA4;have jB4:=(q2.cell (p:=⟨w1.heap.size+1,0,Y⟩) (Jb nu) (by show ¬w1.heap.size+1=b;omega)).trans kB4;have Q1:J (Jd _ _ _ _ _ _):=q1;have Q2:J (M _ _ _):=q2;have M4:J (Jq _ _ _):=nt;have T4:J (M _ _ _):=Hu;have L4:J (YV _ _ _ _ _ _ _ _):=hL4;have D4:J (∀(j:Nat) x a,_):=dH;have YL:J (ys.length=cnt):=sJ;clear h4 q1 q2 nt Hu fe nu hL4 yj xI dH sJ))
   all_goals
    have L5:J (YV _ (w4.setCell ⟨b,2,Y⟩ aK) b g4 w.heap.size w1.heap.size cnt xs):=L4.out.tch Q2.out (λj h=>aM h) (aM rfl);have k5:(w4.setCell ⟨b,2,Y⟩ aK).cell? ⟨w1.heap.size+1,0,Y⟩=Z (R (Z ⟨w1.heap.size,0,Y⟩) cnt cnt):=Ja L5.out.box2;have D5:J (∀(j:Nat) x t,xs[j]? =Z x->ys[j]? =Z t->Q.Done (w4.setCell ⟨b,2,Y⟩ aK) (w1.heap.size+1) g4 x t):=λj x t a c=>HH.o.done_tch (D4.out j x t a c) Q2.out (λj h=>aM (by omega)) (aM rfl);generalize w4.setCell ⟨b,2,Y⟩ aK=W5 at *;go_wp2;go_ret;show ToL _ E w b g wj Q (PS.many Q.f (Jw Q.zero xa cnt) p) _ _;rw[HQ.o];refine⟨w1.heap.size,xs,by rw[YL.out];rfl,by omega,L5.out.arr,by rw[YL.out];exact L5.out.len,g4,Q1.out,L5.out.apart _ (by simp),D5.out,G5.out.trans M4.out G6.out.size,?_⟩;refine(G6.out.trans T4.out (λj h=>?_)).trans Q2.out (λj h=>aM (aM h))
    rcases h with h|h|h
    ·exact aM (aM h)
    ·rcases G5.out with e|⟨i,e,hi⟩
     ·rw[e]at h;exact aM (aN h)
     ·rw[e]at h;cases h;exact aN hi
    ·exact aN (by omega)
  | none=>
   have HQ:J (_=_):=hq;clear hq;go_wp2;go_region_held3 (λW=>W.cell? ⟨w.heap.size,0,Y⟩=Z (X (Z ⟨b,0,Y⟩))/\W.cell? ⟨w.heap.size+1,0,Y⟩=Z (L what)/\W.cell? ⟨w1.heap.size+1,0,Y⟩=Z (R (Z ⟨w1.heap.size,0,Y⟩) cnt cnt)) (go_keep) (((first|go_at_call 189|go_at_call 280|go_at_call 135|go_at_call 286);refine(yM.o _ _ what w1.heap.size 0 cnt cnt _ bU.o _ _ HS.o (by omega) HIT.o gU _ HI.o).mono ?_;intro e w4 h4;obtain⟨err,g4,p4,v4,rfl,xI,yj,nt,Hu,fe,nu,ff⟩:=Jfg h4 G1.out HXL.o;rw[HQ.o]at ff;obtain⟨pp,ss,vv,rfl,fh,sB⟩:=ff;obtain⟨d2,f2,q1,q2⟩:=XO (n:=0) (e':=aJ 235 (X (Z ⟨pp,0,Y⟩))) yj;rw[lI]at d2 f2 q1 q2;have k4:w4.cell? ⟨w.heap.size,0,Y⟩=Z (X (Z ⟨b,0,Y⟩)):=Ja fe;have kA4:w4.cell? ⟨w.heap.size+1,0,Y⟩=Z (L what):=HKA.o w4 Hu;have kB4:w4.cell? ⟨w1.heap.size+1,0,Y⟩=Z (R (Z ⟨w1.heap.size,0,Y⟩) cnt cnt):=Ja nu;have hz4:=Qm F7 Hu.size;have j4:=(q2.cell (p:=⟨w.heap.size,0,Y⟩) (by show w.heap.size<_;omega) (by show ¬w.heap.size=b;omega)).trans k4;have jA4:=(q2.cell (p:=⟨w.heap.size+1,0,Y⟩) (by show w.heap.size+1<_;omega) (by show ¬w.heap.size+1=b;omega)).trans kA4;have jB4:=(q2.cell (p:=⟨w1.heap.size+1,0,Y⟩) (Jb nu) (by show ¬w1.heap.size+1=b;omega)).trans kB4;have Q1:J (Jd _ _ _ _ _ _):=q1;have Q2:J (M _ _ _):=q2;have M4:J (Jq _ _ _):=nt;have T4:J (M _ _ _):=Hu;have B4:J (w4.heap[_]? =_):=nu;have PL:J (w4.heap[_]? =_):=fh;have EV:J (Jn _ _ _ _):=sB;have P4:J (Jd _ _ _ _ _ _):=yj;clear h4 q1 q2 nt Hu fe nu yj xI fh sB))
   all_goals
    have hb4:=P4.out.lt;have k5:(w4.setCell ⟨b,2,Y⟩ (aJ 235 (X (Z ⟨pp,0,Y⟩)))).cell? ⟨w1.heap.size+1,0,Y⟩=Z (R (Z ⟨w1.heap.size,0,Y⟩) cnt cnt):=Ja ((Q2.out.block _ (Jb B4.out) (by omega)).trans B4.out);have h6:J (Jn E 7 (w4.setCell ⟨b,2,Y⟩ (aJ 235 (X (Z ⟨pp,0,Y⟩)))) (aJ 235 (X (Z ⟨pp,0,Y⟩)))):=(Jn.wrap pp ss vv PL.out EV.out).tch Q2.out (λq s u hq e=>JmX hq P4.out e);generalize w4.setCell ⟨b,2,Y⟩ (aJ 235 (X (Z ⟨pp,0,Y⟩)))=W5 at *;go_wp2;go_ret;show ToL _ E w b g wj Q (PS.many Q.f (Jw Q.zero xa cnt) p) _ _;rw[HQ.o];refine⟨⟨_,_,_,rfl⟩,g4,p4,_,Q1.out,h6.out,G5.out.trans M4.out G6.out.size,?_⟩;refine(G6.out.trans T4.out (λj h=>?_)).trans Q2.out (λj h=>aM (aM h))
    rcases h with h|h|h
    ·exact aM (aM h)
    ·rcases G5.out with e|⟨i,e,hi⟩
     ·rw[e]at h;exact aM (aN h)
     ·rw[e]at h;cases h;exact aN hi
    ·exact aN (by omega)

theorem ZQ{K:LX}(hK:IsL K)(mx:Nat)(hmx:mx<=264){E:Nat->Addr}{b wj j6:Nat}{α:Type}{Q:XY α}(H:Zi E b wj j6 K.k.fP Q K.Sh)(hz:Q.zeroV=K.z)(Hi:18<=b)(g:Option Nat)(what:BA)(gU:what.size<=1000)(size least most:Nat)(v:aG)(l:List VV)(xa:List α)(p0:PS)(w:aA)
  (hE:Env E w) (hp:Jd w b g wj aK p0) (hv:VAt w.heap.size w v l) (xB:JcX b g v) (hl:l.length=xa.length) (hn:xa.length<1000000) (hd:p0.len+8+Q.grow*mx<=j6) (sN:j6<=10000000000000) (Hp:size<=8) (xM:most<=mx) (vI:p0.takes v)
  (gV:∀(j:Nat) x a,l[j]? =Z x->xa[j]? =Z a->Q.Init b w p0 x a):
  aB N K.fL #[X (Z ⟨b,0,Y⟩),aH #[L what,O I (size:Int),O aD (least:Int),O aD (most:Int)],v,.func (.func K.k.fP) #[X (Z ⟨b,0,Y⟩)] #[]] w λe w'=>ToL K.k E w b g wj Q (p0.lst Q.f Q.zero size least most xa) e w':=by
 unfold PS.lst;obtain⟨ia,ic,kG⟩:=hv.shape;rw[hl]at kG
 cases h1:p0.num xa.length size with
 | none=>exact Jow hK E b g wj what gU size least most v ia _ ic kG p0 w hE hp hn (by omega) Hp h1
 | some r=>
  obtain⟨cnt,p⟩:=r
  by_cases hr:cnt<least\/most<cnt
  ·simp only[hr,if_true];exact Jox hK E b Hi g wj what gU size least most v ia _ ic cnt kG p0 p w hE hp hn (by omega) Hp h1 hr
  ·simp only[hr,if_false];exact Joy hK mx hmx H hz Hi g what gU size least most v l xa cnt p0 p w hE hp hv xB hl hn hd sN Hp xM h1 (by omega) (by omega) (Jfx vI h1) gV
theorem JoA:type_of% (@Jbi xO isO):= @Jbi xO isO
theorem Joz:type_of% (@ZQ xO isO 3 (by decide)):= @ZQ xO isO 3 (by decide)
theorem JqB:type_of% (@JcD xO isO):= @JcD xO isO
theorem Jov:type_of% (@Jbi xC isC):= @Jbi xC isC
theorem Jou:type_of% (@ZQ xC isC 3 (by decide)):= @ZQ xC isC 3 (by decide)
theorem JqA:type_of% (@JcD xC isC):= @JcD xC isC
theorem JoD:type_of% (@Jbi xT isT):= @Jbi xT isT
theorem JoC:type_of% (@ZQ xT isT 3 (by decide)):= @ZQ xT isT 3 (by decide)
theorem JqD:type_of% (@JcD xT isT):= @JcD xT isT
theorem JoB:type_of% (@ZQ xS isS 264 (by decide)):= @ZQ xS isS 264 (by decide)
theorem JqC:type_of% (@JjM xS isS):= @JjM xS isS


structure Rt{α:Type}(fw fr:PS->Option (α×PS))(y:α)(bs:List UInt8):Prop where
 wr:∀d,fw (.wr d)=Z (y,.wr (d++bs))
 rd:∀q r,fr (.rd q (bs++r))=Z (y,.rd (q++bs) r)
 cut:∀q j,j<bs.length->fr (.rd q (bs.take j))=Y
theorem Rt.ret{α:Type}(y:α)(fw fr:PS->Option (α×PS))(hw:∀p,fw p=Z (y,p))(hr:∀p,fr p=Z (y,p)):Rt fw fr y []:=
 ⟨λd=>by rw[hw,QC],λq r=>by rw[QC];exact hr _,λq j hj=>absurd hj (by simp)⟩
theorem Rt.bind{α β:Type}{f f':PS->Option (α×PS)}{K K':α->PS->Option (β×PS)}{F F':PS->Option (β×PS)}{a:α}{y:β}{b1 b2:List UInt8}
  (hf:Rt f f' a b1) (hk:Rt (K a) (K' a) y b2) (hF:∀p,F p=(f p).bind λq=>K q.1 q.2) (bH:∀p,F' p=(f' p).bind λq=>K' q.1 q.2):Rt F F' y (b1++b2):=by
 refine⟨λd=>?_,λq r=>?_,λq j hj=>?_⟩
 ·rw[hF,hf.wr];simp only[Qu];rw[hk.wr,Qs]
 ·rw[bH,Qs,hf.rd];simp only[Qu];rw[hk.rd,Qs]
 ·rw[bH]
  by_cases h:j<b1.length
  ·rw[lD (by omega),hf.cut q j h];rfl
  ·have e:(b1++b2).take j=b1++b2.take (j-b1.length):=(by rw[List.take_append];rw[QS (by omega)]);rw[e,hf.rd];simp only[Qu];exact hk.cut _ _ (by rw[Qe]at hj;omega)
theorem YK(x k:Nat)(h:x<2 ^ (8*k)):∀j,j<=k->kC (Hf x k j)=x/2 ^ (8*(k-j)):=by
 intro j
 induction j with
 | zero=>intro _;simp only[Hf,Nat.sub_zero];rw[Nat.div_eq_of_lt h];rfl
 | succ j ih=>
  intro hj;simp only[Hf];rw[Jaj,ih (by omega)];have e:8*(k-j)=8*(k-1-j)+8:=by omega
  have e2:k-(j+1)=k-1-j:=by omega
  rw[e,e2,Nat.pow_add,<-Nat.div_div_eq_div_mul];generalize x/2 ^ (8*(k-1-j))=y;rw[UInt8.toNat_ofNat'];omega
theorem Yj(x k z:Nat)(h:x<2 ^ (8*k)):Rt (PS.num x k) (PS.num z k) x (Hf x k k):=by
 have hn:kC (Hf x k k)=x:=by rw[YK x k h k (Ql _),Nat.sub_self];simp
 have hl:=Jf x k k;refine⟨λd=>?_,λq r=>?_,λq j hj=>?_⟩
 ·simp only[PS.num];rw[if_pos (Nat.div_eq_of_lt h)]
 ·simp only[PS.num,Qe];rw[if_pos (by omega)];rw[lD (by omega),QS (by omega),hn,List.drop_append_of_le_length (by omega),lH (by omega)];rfl
 ·simp only[PS.num];rw[if_neg (by rw[QB];omega)]
theorem ZX(s z:List UInt8)(k:Nat)(h:s.length=k):Rt (PS.txt s k) (PS.txt z k) s s:=by
 refine⟨λd=>?_,λq r=>?_,λq j hj=>?_⟩
 ·simp only[PS.txt];rw[if_pos h]
 ·simp only[PS.txt,Qe];rw[if_pos (by omega)];rw[lD (by omega),QS (by omega),List.drop_append_of_le_length (by omega),lH (by omega)];rfl
 ·simp only[PS.txt];rw[if_neg (by rw[QB];omega)]

def outB(o:Nat×Nat):List UInt8:=Hf o.1 8 8++Hf o.2 1 1
def Jy(o:Nat×Nat):Prop:=o.1<2 ^ 64/\o.2<256
def Jc(c:BA×Int):List UInt8:=c.1.data.toList++Hf (JD c.2) 1 1
def Jj(wj:Nat)(c:BA×Int):Prop:=c.1.size=wj/\0<=c.2/\c.2<3
theorem Jgv(o:Nat×Nat)(z1 z2:Nat)(h:Jy o):Rt (PS.out o.1 o.2) (PS.out z1 z2) o (outB o):=by
 refine Rt.bind (K:=λa p=>(p.num o.2 1).bind λq=>Z ((a,q.1),q.2)) (K':=λa p=>(p.num z2 1).bind λq=>Z ((a,q.1),q.2)) (Yj o.1 8 z1 (by have:=h.1;omega)) ?_ ?_ ?_
 ·have:=Rt.bind (F:=λp=>(p.num o.2 1).bind λq=>Z ((o.1,q.1),q.2)) (F':=λp=>(p.num z2 1).bind λq=>Z ((o.1,q.1),q.2)) (Yj o.2 1 z2 (by have:=h.2;omega)) (Rt.ret o (λp=>Z ((o.1,o.2),p)) (λp=>Z ((o.1,o.2),p)) (λ_=>rfl) (λ_=>rfl)) (K:=λb p=>Z ((o.1,b),p)) (K':=λb p=>Z ((o.1,b),p)) (λ_=>rfl) (λ_=>rfl);rw[QC]at this;exact this
 ·intro p;unfold PS.out;cases p.num o.1 8 with
  | none=>rfl
  | some q=>obtain⟨a,p1⟩:=q;simp only[Qu];cases p1.num o.2 1<;>rfl
 ·intro p;unfold PS.out;cases p.num z1 8 with
  | none=>rfl
  | some q=>obtain⟨a,p1⟩:=q;simp only[Qu];cases p1.num z2 1<;>rfl
theorem Zl(n:Int)(h0:0<=n)(h:n<18446744073709551616):(JD n:Int)=n:=by unfold JD;omega
theorem Jj6(wj:Nat)(c z:BA×Int)(h:Jj wj c):Rt (PS.coin wj c) (PS.coin wj z) c (Jc c):=by
 obtain⟨h1,h2,h3⟩:=h;have hx:=Zl c.2 h2 (by omega);have hx3:JD c.2<3:=by omega
 refine Rt.bind (K:=λt p=>(p.num (JD c.2) 1).bind λq=>if q.1<3 then Z ((⟨t.toArray⟩,(q.1:Int)),q.2) else Y) (K':=λt p=>(p.num (JD z.2) 1).bind λq=>if q.1<3 then Z ((⟨t.toArray⟩,(q.1:Int)),q.2) else Y) (ZX c.1.data.toList z.1.data.toList wj (by rw[<-h1];simp)) ?_ ?_ ?_
 ·have:=Rt.bind (F:=λp=>(p.num (JD c.2) 1).bind λq=>if q.1<3 then Z (((⟨c.1.data.toList.toArray⟩:BA),(q.1:Int)),q.2) else Y) (F':=λp=>(p.num (JD z.2) 1).bind λq=>if q.1<3 then Z (((⟨c.1.data.toList.toArray⟩:BA),(q.1:Int)),q.2) else Y) (Yj (JD c.2) 1 (JD z.2) (by omega)) (Rt.ret c (λp=>if JD c.2<3 then Z (((⟨c.1.data.toList.toArray⟩:BA),(JD c.2:Int)),p) else Y) (λp=>if JD c.2<3 then Z (((⟨c.1.data.toList.toArray⟩:BA),(JD c.2:Int)),p) else Y) (λp=>by rw[if_pos hx3,hx]) (λp=>by rw[if_pos hx3,hx])) (K:=λ(b:Nat) p=>if b<3 then Z ((⟨c.1.data.toList.toArray⟩,(b:Int)),p) else Y) (K':=λ(b:Nat) p=>if b<3 then Z ((⟨c.1.data.toList.toArray⟩,(b:Int)),p) else Y) (λ_=>rfl) (λ_=>rfl);rw[QC]at this;exact this
 ·intro p;unfold PS.coin;cases p.txt c.1.data.toList wj with
  | none=>rfl
  | some q=>obtain⟨a,p1⟩:=q;simp only[Qu];cases p1.num (JD c.2) 1<;>rfl
 ·intro p;unfold PS.coin;cases p.txt z.1.data.toList wj with
  | none=>rfl
  | some q=>obtain⟨a,p1⟩:=q;simp only[Qu];cases p1.num (JD z.2) 1<;>rfl
theorem JoX:∀(l:List (Nat×Nat)),(∀x∈l,Jy x)->Rt (PS.outs l) (PS.outs (lC l.length (0,0))) l (l.flatMap outB):=by
 intro l
 induction l with
 | nil=>intro _;exact Rt.ret [] _ _ (λ_=>rfl) (λ_=>rfl)
 | cons x r ih=>
  intro h;have hr:=ih (λy hy=>h y (QQ _ hy));rw[QG];refine Rt.bind (K:=λy p=>(PS.outs r p).bind λq=>Z (y::q.1,q.2)) (K':=λy p=>(PS.outs (lC r.length (0,0)) p).bind λq=>Z (y::q.1,q.2)) (Jgv x 0 0 (h x QN)) ?_ ?_ ?_
  ·have:=Rt.bind (F:=λp=>(PS.outs r p).bind λq=>Z (x::q.1,q.2)) (F':=λp=>(PS.outs (lC r.length (0,0)) p).bind λq=>Z (x::q.1,q.2)) hr (Rt.ret (x::r) (λp=>Z (x::r,p)) (λp=>Z (x::r,p)) (λ_=>rfl) (λ_=>rfl)) (K:=λb p=>Z (x::b,p)) (K':=λb p=>Z (x::b,p)) (λ_=>rfl) (λ_=>rfl);rw[QC]at this;exact this
  ·intro p;simp only[PS.outs];cases p.out x.1 x.2 with
   | none=>rfl
   | some q=>obtain⟨a,p1⟩:=q;simp only[Qu];cases PS.outs r p1<;>rfl
  ·intro p;simp only[Qp,lK,PS.outs];cases p.out 0 0 with
   | none=>rfl
   | some q=>obtain⟨a,p1⟩:=q;simp only[Qu];cases PS.outs (lC r.length (0,0)) p1<;>rfl
theorem Jnj(wj:Nat):∀(l:List (BA×Int)),(∀x∈l,Jj wj x)->Rt (PS.coins wj l) (PS.coins wj (lC l.length (⟨#[]⟩,0))) l (l.flatMap Jc):=by
 intro l
 induction l with
 | nil=>intro _;exact Rt.ret [] _ _ (λ_=>rfl) (λ_=>rfl)
 | cons x r ih=>
  intro h;have hr:=ih (λy hy=>h y (QQ _ hy));rw[QG];refine Rt.bind (K:=λy p=>(PS.coins wj r p).bind λq=>Z (y::q.1,q.2)) (K':=λy p=>(PS.coins wj (lC r.length (⟨#[]⟩,0)) p).bind λq=>Z (y::q.1,q.2)) (Jj6 wj x (⟨#[]⟩,0) (h x QN)) ?_ ?_ ?_
  ·have:=Rt.bind (F:=λp=>(PS.coins wj r p).bind λq=>Z (x::q.1,q.2)) (F':=λp=>(PS.coins wj (lC r.length (⟨#[]⟩,0)) p).bind λq=>Z (x::q.1,q.2)) hr (Rt.ret (x::r) (λp=>Z (x::r,p)) (λp=>Z (x::r,p)) (λ_=>rfl) (λ_=>rfl)) (K:=λb p=>Z (x::b,p)) (K':=λb p=>Z (x::b,p)) (λ_=>rfl) (λ_=>rfl);rw[QC]at this;exact this
  ·intro p;simp only[PS.coins];cases p.coin wj x with
   | none=>rfl
   | some q=>obtain⟨a,p1⟩:=q;simp only[Qu];cases PS.coins wj r p1<;>rfl
  ·intro p;simp only[Qp,lK,PS.coins];cases p.coin wj (⟨#[]⟩,0) with
   | none=>rfl
   | some q=>obtain⟨a,p1⟩:=q;simp only[Qu];cases PS.coins wj (lC r.length (⟨#[]⟩,0)) p1<;>rfl
def Jz(l:List (Nat×Nat)):List UInt8:=Hf l.length 1 1++l.flatMap outB
def JdX(l:List (BA×Int)):List UInt8:=Hf l.length 1 1++l.flatMap Jc
theorem Jes(least most:Nat)(l:List (Nat×Nat))(h:∀x∈l,Jy x)(h1:least<=l.length)(h2:l.length<=most)(h3:l.length<256):Rt (PS.listO least most l) (PS.listO least most []) l (Jz l):=by
 have hg:¬(l.length<least\/most<l.length):=by omega
 refine Rt.bind (K:=λcnt p=>if cnt<least\/most<cnt then Y else PS.outs (Ze l cnt) p) (K':=λcnt p=>if cnt<least\/most<cnt then Y else PS.outs (Ze [] cnt) p) (Yj l.length 1 0 (by omega)) ?_ ?_ ?_
 ·have hs:Ze l l.length=l:=by unfold Ze;split<;>simp_all
  have hz:Ze [] l.length=lC l.length (0,0):=rfl;simp only[hg,if_false,hs,hz];exact JoX l h
 ·intro p;unfold PS.listO;cases p.num l.length 1<;>rfl
 ·intro p;unfold PS.listO;simp only[Qv];cases p.num 0 1<;>rfl
theorem Jnk(wj least most:Nat)(l:List (BA×Int))(h:∀x∈l,Jj wj x)(h1:least<=l.length)(h2:l.length<=most)(h3:l.length<256):Rt (PS.listC wj least most l) (PS.listC wj least most []) l (JdX l):=by
 have hg:¬(l.length<least\/most<l.length):=by omega
 refine Rt.bind (K:=λcnt p=>if cnt<least\/most<cnt then Y else PS.coins wj (YC l cnt) p) (K':=λcnt p=>if cnt<least\/most<cnt then Y else PS.coins wj (YC [] cnt) p) (Yj l.length 1 0 (by omega)) ?_ ?_ ?_
 ·have hs:YC l l.length=l:=by unfold YC;split<;>simp_all
  have hz:YC [] l.length=lC l.length (⟨#[]⟩,0):=rfl;simp only[hg,if_false,hs,hz];exact Jnj wj l h
 ·intro p;unfold PS.listC;cases p.num l.length 1<;>rfl
 ·intro p;unfold PS.listC;simp only[Qv];cases p.num 0 1<;>rfl
def txB(t:TxL):List UInt8:=JdX t.1++Jz t.2
structure TxOk(wj:Nat)(t:TxL):Prop where
 coins:∀x∈t.1,Jj wj x
 outs:∀x∈t.2,Jy x
 one:1<=t.1.length
 ins:t.1.length<=3
 made:t.2.length<=3
theorem Jpv(wj:Nat)(t:TxL)(h:TxOk wj t):Rt (PS.tx wj t) (PS.tx wj ([],[])) t (txB t):=by
 refine Rt.bind (K:=λys p=>(p.listO 0 3 t.2).bind λq=>Z ((ys,q.1),q.2)) (K':=λys p=>(p.listO 0 3 []).bind λq=>Z ((ys,q.1),q.2)) (Jnk wj 1 3 t.1 h.coins h.one h.ins (by have:=h.ins;omega)) ?_ ?_ ?_
 ·have:=Rt.bind (F:=λp=>(p.listO 0 3 t.2).bind λq=>Z ((t.1,q.1),q.2)) (F':=λp=>(p.listO 0 3 []).bind λq=>Z ((t.1,q.1),q.2)) (Jes 0 3 t.2 h.outs (by omega) h.made (by have:=h.made;omega)) (Rt.ret t (λp=>Z ((t.1,t.2),p)) (λp=>Z ((t.1,t.2),p)) (λ_=>rfl) (λ_=>rfl)) (K:=λb p=>Z ((t.1,b),p)) (K':=λb p=>Z ((t.1,b),p)) (λ_=>rfl) (λ_=>rfl);rw[QC]at this;exact this
 ·intro p;unfold PS.tx;cases p.listC wj 1 3 t.1 with
  | none=>rfl
  | some q=>obtain⟨a,p1⟩:=q;simp only[Qu];cases p1.listO 0 3 t.2<;>rfl
 ·intro p;unfold PS.tx;simp only;cases p.listC wj 1 3 [] with
  | none=>rfl
  | some q=>obtain⟨a,p1⟩:=q;simp only[Qu];cases p1.listO 0 3 []<;>rfl
theorem Jqd(wj:Nat):∀(l:List TxL),(∀x∈l,TxOk wj x)->Rt (PS.txs wj l) (PS.txs wj (lC l.length ([],[]))) l (l.flatMap txB):=by
 intro l
 induction l with
 | nil=>intro _;exact Rt.ret [] _ _ (λ_=>rfl) (λ_=>rfl)
 | cons x r ih=>
  intro h;have hr:=ih (λy hy=>h y (QQ _ hy));rw[QG];refine Rt.bind (K:=λy p=>(PS.txs wj r p).bind λq=>Z (y::q.1,q.2)) (K':=λy p=>(PS.txs wj (lC r.length ([],[])) p).bind λq=>Z (y::q.1,q.2)) (Jpv wj x (h x QN)) ?_ ?_ ?_
  ·have:=Rt.bind (F:=λp=>(PS.txs wj r p).bind λq=>Z (x::q.1,q.2)) (F':=λp=>(PS.txs wj (lC r.length ([],[])) p).bind λq=>Z (x::q.1,q.2)) hr (Rt.ret (x::r) (λp=>Z (x::r,p)) (λp=>Z (x::r,p)) (λ_=>rfl) (λ_=>rfl)) (K:=λb p=>Z (x::b,p)) (K':=λb p=>Z (x::b,p)) (λ_=>rfl) (λ_=>rfl);rw[QC]at this;exact this
  ·intro p;simp only[PS.txs];cases p.tx wj x with
   | none=>rfl
   | some q=>obtain⟨a,p1⟩:=q;simp only[Qu];cases PS.txs wj r p1<;>rfl
  ·intro p;simp only[Qp,lK,PS.txs];cases p.tx wj ([],[]) with
   | none=>rfl
   | some q=>obtain⟨a,p1⟩:=q;simp only[Qu];cases PS.txs wj (lC r.length ([],[])) p1<;>rfl
def JL(ts:List TxL):List UInt8:=Hf ts.length 1 1++ts.flatMap txB
theorem Jj5(wj:Nat)(ts:List TxL)(h:∀t∈ts,TxOk wj t)(h3:ts.length<=3):Rt (PS.body wj ts) (PS.body wj []) ts (JL ts):=by
 have hg:¬3<ts.length:=by omega
 refine Rt.bind (K:=λcnt p=>if 3<cnt then Y else PS.txs wj (Zr ts cnt) p) (K':=λcnt p=>if 3<cnt then Y else PS.txs wj (Zr [] cnt) p) (Yj ts.length 1 0 (by omega)) ?_ ?_ ?_
 ·have hs:Zr ts ts.length=ts:=by unfold Zr;split<;>simp_all
  have hz:Zr [] ts.length=lC ts.length ([],[]):=rfl;simp only[hg,if_false,hs,hz];exact Jqd wj ts h
 ·intro p;unfold PS.body;cases p.num ts.length 1<;>rfl
 ·intro p;unfold PS.body;simp only[Qv];cases p.num 0 1<;>rfl
abbrev HdL:=Nat×BA×BA×BA
def Ht(h:HdL):List UInt8:=Hf h.1 4 4++(h.2.1.data.toList++(h.2.2.1.data.toList++h.2.2.2.data.toList))
structure HdOk(wj:Nat)(h:HdL):Prop where
 height:h.1<2 ^ 32
 a:h.2.1.size=wj
 b:h.2.2.1.size=wj
 c:h.2.2.2.size=wj
theorem Ji9(wj:Nat)(h z:HdL)(hk:HdOk wj h):Rt (PS.hdr wj h) (PS.hdr wj z) h (Ht h):=by
 obtain⟨k1,k2,k3,k4⟩:=hk;obtain⟨n,a,b,c⟩:=h;have r3:=Rt.bind (F:=λp=>(p.txt c.data.toList wj).bind λq=>Z (((n,a,b,(⟨q.1.toArray⟩:BA)):HdL),q.2)) (F':=λp=>(p.txt z.2.2.2.data.toList wj).bind λq=>Z ((n,a,b,(⟨q.1.toArray⟩:BA)),q.2)) (ZX c.data.toList z.2.2.2.data.toList wj (by rw[<-k4];simp)) (Rt.ret (n,a,b,c) (λp=>Z ((n,a,b,c),p)) (λp=>Z ((n,a,b,c),p)) (λ_=>rfl) (λ_=>rfl)) (K:=λt p=>Z ((n,a,b,⟨t.toArray⟩),p)) (K':=λt p=>Z ((n,a,b,⟨t.toArray⟩),p)) (λ_=>rfl) (λ_=>rfl);rw[QC]at r3;have r2:=Rt.bind (F:=λp=>(p.txt b.data.toList wj).bind λq1=>(q1.2.txt c.data.toList wj).bind λq=>Z (((n,a,(⟨q1.1.toArray⟩:BA),(⟨q.1.toArray⟩:BA)):HdL),q.2)) (F':=λp=>(p.txt z.2.2.1.data.toList wj).bind λq1=>(q1.2.txt z.2.2.2.data.toList wj).bind λq=>Z ((n,a,(⟨q1.1.toArray⟩:BA),(⟨q.1.toArray⟩:BA)),q.2)) (ZX b.data.toList z.2.2.1.data.toList wj (by rw[<-k3];simp)) r3 (K:=λt p=>(p.txt c.data.toList wj).bind λq=>Z ((n,a,(⟨t.toArray⟩:BA),(⟨q.1.toArray⟩:BA)),q.2)) (K':=λt p=>(p.txt z.2.2.2.data.toList wj).bind λq=>Z ((n,a,(⟨t.toArray⟩:BA),(⟨q.1.toArray⟩:BA)),q.2)) (λ_=>rfl) (λ_=>rfl);have r1:=Rt.bind (F:=λp=>(p.txt a.data.toList wj).bind λq2=>(q2.2.txt b.data.toList wj).bind λq1=>(q1.2.txt c.data.toList wj).bind λq=>Z (((n,(⟨q2.1.toArray⟩:BA),(⟨q1.1.toArray⟩:BA),(⟨q.1.toArray⟩:BA)):HdL),q.2)) (F':=λp=>(p.txt z.2.1.data.toList wj).bind λq2=>(q2.2.txt z.2.2.1.data.toList wj).bind λq1=>(q1.2.txt z.2.2.2.data.toList wj).bind λq=>Z ((n,(⟨q2.1.toArray⟩:BA),(⟨q1.1.toArray⟩:BA),(⟨q.1.toArray⟩:BA)),q.2)) (ZX a.data.toList z.2.1.data.toList wj (by rw[<-k2];simp)) r2 (K:=λt p=>(p.txt b.data.toList wj).bind λq1=>(q1.2.txt c.data.toList wj).bind λq=>Z ((n,(⟨t.toArray⟩:BA),(⟨q1.1.toArray⟩:BA),(⟨q.1.toArray⟩:BA)),q.2)) (K':=λt p=>(p.txt z.2.2.1.data.toList wj).bind λq1=>(q1.2.txt z.2.2.2.data.toList wj).bind λq=>Z ((n,(⟨t.toArray⟩:BA),(⟨q1.1.toArray⟩:BA),(⟨q.1.toArray⟩:BA)),q.2)) (λ_=>rfl) (λ_=>rfl);refine Rt.bind (Yj n 4 z.1 (by simp only at k1;omega)) r1 (K:=λm p=>(p.txt a.data.toList wj).bind λq2=>(q2.2.txt b.data.toList wj).bind λq1=>(q1.2.txt c.data.toList wj).bind λq=>Z ((m,(⟨q2.1.toArray⟩:BA),(⟨q1.1.toArray⟩:BA),(⟨q.1.toArray⟩:BA)),q.2)) (K':=λm p=>(p.txt z.2.1.data.toList wj).bind λq2=>(q2.2.txt z.2.2.1.data.toList wj).bind λq1=>(q1.2.txt z.2.2.2.data.toList wj).bind λq=>Z ((m,(⟨q2.1.toArray⟩:BA),(⟨q1.1.toArray⟩:BA),(⟨q.1.toArray⟩:BA)),q.2)) ?_ ?_
 ·intro p;unfold PS.hdr;simp only;cases p.num n 4 with
  | none=>rfl
  | some q=>obtain⟨x,p1⟩:=q;simp only[Qu];cases p1.txt a.data.toList wj with
   | none=>rfl
   | some q=>obtain⟨x,p1⟩:=q;simp only[Qu];cases p1.txt b.data.toList wj with
    | none=>rfl
    | some q=>obtain⟨x,p1⟩:=q;simp only[Qu];cases p1.txt c.data.toList wj<;>rfl
 ·intro p;unfold PS.hdr;cases p.num z.1 4 with
  | none=>rfl
  | some q=>obtain⟨x,p1⟩:=q;simp only[Qu];cases p1.txt z.2.1.data.toList wj with
   | none=>rfl
   | some q=>obtain⟨x,p1⟩:=q;simp only[Qu];cases p1.txt z.2.2.1.data.toList wj with
    | none=>rfl
    | some q=>obtain⟨x,p1⟩:=q;simp only[Qu];cases p1.txt z.2.2.2.data.toList wj<;>rfl

theorem JdK(n:Int):lP.wrap n=(JD n:Int):=by
 simp[IntKind.wrap,IntKind.bits,IntKind.signed,JD];omega
def Zd(wj:Nat)(c:BA×Int)(st:Option PS):(List UInt8×Nat)×Option PS:=
 (((Jm c.1.data.toList wj st).1,(JF (JD c.2) 1 (Jm c.1.data.toList wj st).2).1),if 3<=(JF (JD c.2) 1 (Jm c.1.data.toList wj st).2).1 then Y else (JF (JD c.2) 1 (Jm c.1.data.toList wj st).2).2)
theorem Jdb(wj:Nat)(c:BA×Int)(p:PS)(h:p.coin wj c=Y):(Zd wj c (Z p)).2=Y:=by
 unfold Zd;unfold PS.coin at h
 cases h1:p.txt c.1.data.toList wj with
 | none=>rw[Yb h1,Jlp];rfl
 | some r=>
  obtain⟨t,p1⟩:=r;rw[JN h1];simp only[h1]at h
  cases h2:p1.num (JD c.2) 1 with
  | none=>rw[ZN h2];rfl
  | some r=>
   obtain⟨m,p2⟩:=r;rw[JS h2];simp only[h2]at h
   split at h
   ·cases h
   ·exact if_pos (by simp only;omega)
theorem Jdc(wj:Nat)(c y:BA×Int)(p p2:PS)(h:p.coin wj c=Z (y,p2)):(Zd wj c (Z p)).2=Z p2/\y=(⟨(Zd wj c (Z p)).1.1.toArray⟩,((Zd wj c (Z p)).1.2:Int)):=by
 unfold Zd;unfold PS.coin at h
 cases h1:p.txt c.1.data.toList wj with
 | none=>rw[h1]at h;cases h
 | some r=>
  obtain⟨t,p1⟩:=r;rw[JN h1];simp only[h1]at h
  cases h2:p1.num (JD c.2) 1 with
  | none=>rw[h2]at h;cases h
  | some r=>
   obtain⟨m,p2'⟩:=r;rw[JS h2];simp only[h2]at h
   split at h
   ·rename_i h3;simp only[Qh,Qw]at h;obtain⟨rfl,rfl⟩:=h;exact⟨if_neg (by simp only;omega),rfl⟩
   ·cases h
theorem JiH(m:Nat)(h:m<256):I.wrap (m:Int)=(m:Int):=Jo _ (by omega) (by omega)

theorem JjJ(E:Nat->Addr)(b:Nat)(Hi:18<=b)(g:Option Nat)(wj:Nat)(c:BA×Int)(st:Option PS)(w:aA)(hE:Env E w)(hp:Jg E w b g wj st)(hd:JP st+wj<=90000000):
  aB N 203 #[X (Z ⟨b,0,Y⟩),aH #[L c.1,O I c.2]] w λe w'=>e=aC (aH #[L ⟨(Zd wj c st).1.1.toArray⟩,O I ((Zd wj c st).1.2:Int)])/\StTo E w w' b g wj (Zd wj c st).2:=by
 have H7:=hp.lt;have hx:=JdK c.2;obtain⟨s,aZ⟩:=c;simp only at hx;have HC:J (Zd wj (s,aZ) st=(((Jm s.data.toList wj st).1,(JF (JD aZ) 1 (Jm s.data.toList wj st).2).1),if 3<=(JF (JD aZ) 1 (Jm s.data.toList wj st).2).1 then Y else (JF (JD aZ) 1 (Jm s.data.toList wj st).2).2)):=rfl;simp only;go_enter func203,ntmps203;go_wp2_with fail;refine(Za E b g wj s st _ (hE.allocs _ _) (hp.next (M.allocs _ _ _ _)) (by omega)).mono ?_;rintro _ w1⟨rfl,g1,(Hx:J _),ql,H9⟩;have qB:=YG s.data.toList wj st;generalize sO:(Jm s.data.toList wj st).2=kW at *;generalize hTB:(⟨(Jm s.data.toList wj st).1.toArray⟩:BA)=tb at *;have gF:J _:=sO;have gZ:J _:=hTB;have cB:=(H9.cell (p:=⟨w.heap.size,1,Y⟩) (by simp;omega) (Jjh hp _ (Ql _))).trans (Ja (heap_alloc2_old _ _ _));have rR:=(H9.block _ (by simp) (Jjh hp _ (by omega))).trans (heap_alloc2_new _ _ _);have p8:=H9.size;simp at p8;have xX:J _:=(hE.allocs _ _).tch H9 (Jck Hi hp);have HN:J (∀g',Jq w1 g1 g'->¬(w.heap.size+1=b\/Z (w.heap.size+1)=g')):=λg' hm=>Jcl hp (ql.trans hm H9.size) _ (by omega) (by simp);have RR:J _:=rR;have jn:J (Jq _ _ _):=ql;have H5:J (M _ _ _):=H9;clear rR ql H9 hp hE;go_wp2_with fail;refine(Jak E b g1 wj (JD aZ) 1 kW _ xX Hx (by omega) (by omega)).mono ?_;rintro _ w2⟨rfl,g2,kV,gK,Ha⟩;have hm:=Jci (JD aZ) 1 kW;generalize sP:(JF (JD aZ) 1 kW).2=jU at *;generalize hM:(JF (JD aZ) 1 kW).1=m at *;have jm:J _:=sP;have HMM:J _:=hM;have xd:=JiH m (by omega);have yN:w2.heap[w.heap.size+1]? =Z (T #[L ⟨#[]⟩,O I 0] 49):=(Ha.block _ (by omega) (HN g1 (aM rfl))).trans RR.out;have xu:J _:=yN;have uT:J _:=xX.tch Ha (Jck Hi Hx);have kF:J _:=kV;have dI:J (Jq _ _ _):=gK;have H6:J _:=Ha;have TA:J _:=YA H5 Ha jn.o;have MA:J (Jq _ g g2):=jn.o.trans gK H5.o.size
 by_cases h3:3<=m
 ·have p7:(3:Int)<=(m:Int):=by omega
  go_wp2_with fail;refine(Jao E b g2 wj _ jU w2 uT kF).mono ?_;rintro _ w3⟨rfl,g3,dJ,xM,(Hb:J _)⟩;have rR3:=(Hb.block _ (Jb xu) (HN g2 dI)).trans xu.out;obtain⟨e0,e1⟩:=rows rR3;have fR:∀j,w3.frozen? ⟨w.heap.size+1,j,Y⟩=false:=λj=>Qg _ _ _ _ _ rR3;have RR3:J _:=rR3;have qs:J (Jg _ _ _ _ _ _):=dJ;have bP:J (Jq _ _ _):=xM;clear rR3 dJ xM;go_wp2;rw[set2 _ _ _ _ _ _ _ RR3.out];obtain rfl:=gZ.o;obtain rfl:=jm.o;obtain rfl:=HMM.o;obtain rfl:=gF.o;refine QK (v:=aH #[L _,O I _]) (Qq results203 _ _ (w.heap.size+1) _ _ (0,0) _ rfl (Qi _ _ _ _ _ _ RR3) underlying49 rfl (by kernel_rfl)) rfl ⟨by rw[HC.o],?_⟩;rw[HC.o,if_pos h3];refine StTo.row (StTo.fresh (M.allocs _ _ _ _) (StTo.trans MA TA ⟨g3,qs,bP,Hb⟩)) (by omega) RR3 (by decide) (by omega) (λg' _ hg e=>?_);exact HN.o g3 (dI.o.trans bP.o H6.o.size) (aN (by rw[e];exact hg.same qs.o))
 ·have p7:¬(3:Int)<=(m:Int):=by omega
  obtain⟨e0,e1⟩:=rows yN;have fR:∀j,w2.frozen? ⟨w.heap.size+1,j,Y⟩=false:=λj=>Qg _ _ _ _ _ yN;go_wp2;rw[set2 _ _ _ _ _ _ _ xu.out];obtain rfl:=gZ.o;obtain rfl:=jm.o;obtain rfl:=HMM.o;obtain rfl:=gF.o;refine QK (v:=aH #[L _,O I _]) (Qq results203 _ _ (w.heap.size+1) _ _ (0,0) _ rfl (Qi _ _ _ _ _ _ xu) underlying49 rfl (by kernel_rfl)) rfl ⟨by rw[HC.o],?_⟩;rw[HC.o,if_neg h3];refine StTo.row (StTo.fresh (M.allocs _ _ _ _) ⟨g2,kF,MA,TA⟩) (by omega) xu (by decide) (by omega) (λg' _ hg e=>?_);exact HN g2 dI (aN (by rw[e];exact hg.same kF))

theorem JoN(x m:Nat)(p p1:PS)(h:p.num x 1=Z (m,p1)):m<256:=by
 have:=Jci x 1 (Z p);rw[JS h]at this;simpa using this
theorem Jb9(a o:Nat)(y:Nat×Nat)(p p2:PS)(h:p.out a o=Z (y,p2)):∃p1,p.num a 8=Z (y.1,p1)/\p1.num o 1=Z (y.2,p2)/\p1.len<=p.len+8/\p2.len<=p.len+9/\y.2<256:=by
 unfold PS.out at h
 cases q:p.num a 8 with
 | none=>simp[q]at h
 | some r=>
  obtain⟨a',p1⟩:=r;simp only[q]at h
  cases q2:p1.num o 1 with
  | none=>simp[q2]at h
  | some s=>
   obtain⟨o',p2'⟩:=s;simp only[q2,Qh,Qw]at h;obtain⟨rfl,rfl⟩:=h;have l1:=ZR _ _ _ _ _ q;have l2:=ZR _ _ _ _ _ q2;exact⟨p1,rfl,q2,l1,by omega,JoN _ _ _ _ q2⟩
def encO(o:Nat×Nat):VV:=(O aD (o.1:Int),O aE (o.2:Int))
def Jc8:XY (Nat×Nat) where
 f:=λo p=>p.out o.1 o.2
 grow:=9
 zero:=(0,0)
 zeroV:=zO
 Init:=λ_ _ _ x o=>x=encO o/\o.2<256
 Done:=λ_ _ _ x o=>x=encO o
theorem lawO(E:Nat->Addr)(b:Nat)(Hi:18<=b)(wj j6:Nat)(hl:j6<=80000000):Zi E b wj j6 lkO.fP Jc8 ShO where
 init_tch:=λh _ _ _=>h
 init_zero:=λ_ _=>⟨rfl,by decide⟩
 init_shape:=λh=>⟨_,_,h.1⟩
 done_tch:=λh _ _ _=>h
 done_mono:=λh _=>h
 like:=λ{a a' p p'} h=>by
  obtain⟨p1,h1,h2,_⟩:=Jb9 _ _ _ _ _ h;exact(Yo h1).trans (Yo h2)
 len:=λ{w x a a' p p'} _ h=>by
  obtain⟨p1,_,_,_,h2,_⟩:=Jb9 _ _ _ _ _ h;exact h2
 call:=λ{w g p x a} hE hp hI hd=>by
  obtain⟨rfl,ha⟩:=hI;show aB _ _ #[_,aH #[O aD (a.1:Int),O aE (a.2:Int)]] _ _;show aB _ _ _ _ λe w'=>∃y,ShO y/\e=_/\ToP E w b g wj Jc8 (p.out a.1 a.2) y w'
  cases h:p.out a.1 a.2 with
  | none=>
   have kt:aB N 205 #[X (Z ⟨b,0,Y⟩),aH #[O aD (a.1:Int),O aE (a.2:Int)]] w λe w'=>∃x y:Int,e=aC (aH #[O aD x,O aE y])/\JbB E w w' b g wj:=by
    unfold PS.out at h
    cases h1:p.num a.1 8 with
    | none=>exact Jk1 E b g wj a.1 a.2 p w hE hp (by omega) h1
    | some r=>
     obtain⟨a',p1⟩:=r;simp only[h1]at h
     cases h2:p1.num a.2 1 with
     | none=>exact Jk2 E b Hi g wj a.1 a.2 a' p p1 w hE hp (by omega) ha h1 h2
     | some r=>simp[h2]at h
   refine kt.mono ?_;rintro e w'⟨x,y,rfl,g',p',h1,h2,h3⟩;exact⟨(O aD x,O aE y),⟨_,_,rfl⟩,rfl,g',_,p',h1,h2,h3,.base⟩
  | some r=>
   obtain⟨y,p2⟩:=r;obtain⟨p1,h1,h2,l1,l2,hy⟩:=Jb9 _ _ _ _ _ h;refine(JmU b g wj a.1 a.2 y.1 y.2 p p1 p2 w hp (by omega) (by omega) ha h1 h2 hy).mono ?_;rintro e w'⟨rfl,g',k1,k2,k3⟩;exact⟨encO y,⟨_,_,rfl⟩,rfl,g',_,p2,k1,k2,k3,rfl,rfl,rfl⟩
def encC(c:BA×Int):VV:=(L c.1,O I c.2)
def Jc7(wj:Nat):XY (BA×Int) where
 f:=λc p=>p.coin wj c
 grow:=wj+1
 zero:=(⟨#[]⟩,0)
 zeroV:=zC
 Init:=λ_ _ _ x c=>x=encC c
 Done:=λ_ _ _ x c=>x=encC c
theorem Jav{wj:Nat}{c y:BA×Int}{p p2:PS}(h:p.coin wj c=Z (y,p2)):p.like p2/\p2.len<=p.len+(wj+1):=by
 unfold PS.coin at h
 cases q:p.txt c.1.data.toList wj with
 | none=>simp[q]at h
 | some r=>
  obtain⟨t,p1⟩:=r;simp only[q]at h
  cases q2:p1.num (JD c.2) 1 with
  | none=>simp[q2]at h
  | some s=>
   obtain⟨m,p2'⟩:=s;simp only[q2]at h
   split at h
   ·simp only[Qh,Qw]at h;obtain⟨_,rfl⟩:=h;have l1:=JgC _ _ _ _ _ q;have l2:=ZR _ _ _ _ _ q2;exact⟨(Jih q).trans (Yo q2),by omega⟩
   ·cases h
theorem lawC(E:Nat->Addr)(b:Nat)(Hi:18<=b)(wj j6:Nat)(hl:j6+wj<=80000000):Zi E b wj j6 lkC.fP (Jc7 wj) ShC where
 init_tch:=λh _ _ _=>h
 init_zero:=λ_ _=>rfl
 init_shape:=λh=>⟨_,_,h⟩
 done_tch:=λh _ _ _=>h
 done_mono:=λh _=>h
 like:=λh=>(Jav h).1
 len:=λ_ h=>(Jav h).2
 call:=λ{w g p x a} hE hp hI hd=>by
  obtain rfl:=hI;show aB _ _ #[_,aH #[L a.1,O I a.2]] _ _;refine(JjJ E b Hi g wj a (Z p) w hE hp (by simp only[JP];omega)).mono ?_;rintro e w'⟨rfl,g',k1,k2,k3⟩;refine⟨(L _,O I _),⟨_,_,rfl⟩,rfl,?_⟩;show ToP E w b g wj (Jc7 wj) (p.coin wj a) _ w'
  cases h:p.coin wj a with
  | none=>
   rw[Jdb wj a p h]at k1;obtain⟨p',t,u,h1,h2⟩:=k1;exact⟨g',_,p',h1,k2,k3,h2⟩
  | some r=>
   obtain⟨y,p2⟩:=r;obtain⟨e1,e2⟩:=Jdc wj a y p p2 h;rw[e1]at k1;exact⟨g',_,p2,k1,k2,k3,rfl,rfl,by rw[e2];rfl⟩
theorem Jfw:∀(l:List (Nat×Nat))(p:PS),PS.many Jc8.f l p=PS.outs l p
 | [],_=>rfl
 | x::r,p=>by
  simp only[PS.many,PS.outs];have e:Jc8.f x p=p.out x.1 x.2:=rfl;rw[e]
  cases p.out x.1 x.2 with
  | none=>rfl
  | some q=>simp only[Jfw r];cases PS.outs r q.2<;>rfl
theorem JdY(wj:Nat):∀(l:List (BA×Int))(p:PS),PS.many (Jc7 wj).f l p=PS.coins wj l p
 | [],_=>rfl
 | x::r,p=>by
  simp only[PS.many,PS.coins];have e:(Jc7 wj).f x p=p.coin wj x:=rfl;rw[e]
  cases p.coin wj x with
  | none=>rfl
  | some q=>simp only[JdY wj r];cases PS.coins wj r q.2<;>rfl
theorem Jnv(l:List (Nat×Nat))(cnt:Nat):Jw (0,0) l cnt=Ze l cnt:=by
 unfold Jw Ze
 cases l<;>simp
theorem Jnu(l:List (BA×Int))(cnt:Nat):Jw (⟨#[]⟩,0) l cnt=YC l cnt:=by
 unfold Jw YC
 cases l<;>simp
theorem JmH(least most:Nat)(l:List (Nat×Nat))(p:PS):p.lst Jc8.f Jc8.zero 1 least most l=p.listO least most l:=by
 unfold PS.lst PS.listO
 cases p.num l.length 1 with
 | none=>rfl
 | some r=>simp only[Jfw,<-Jnv];rfl
theorem JmG(wj least most:Nat)(l:List (BA×Int))(p:PS):p.lst (Jc7 wj).f (Jc7 wj).zero 1 least most l=p.listC wj least most l:=by
 unfold PS.lst PS.listC
 cases p.num l.length 1 with
 | none=>rfl
 | some r=>simp only[JdY,<-Jnu];rfl
theorem Jr.vat{B:Nat}{w:aA}{v:aG}{l:List (Nat×Nat)}(h:Jr B w v l):VAt B w v (l.map encO):=by
 rcases h with⟨h1,h2⟩|⟨gi,oi,c,h1,h2,h3,h4⟩
 ·exact aM ⟨h1,by rw[h2];rfl⟩
 ·exact aN ⟨gi,oi,c,by rw[QM];exact h1,h2,h3,λi hi=>by
   rw[lJ];exact h4 i (by simpa using hi)⟩
theorem JG.vat{B:Nat}{w:aA}{v:aG}{l:List (BA×Int)}(h:JG B w v l):VAt B w v (l.map encC):=by
 rcases h with⟨h1,h2⟩|⟨gi,oi,c,h1,h2,h3,h4⟩
 ·exact aM ⟨h1,by rw[h2];rfl⟩
 ·exact aN ⟨gi,oi,c,by rw[QM];exact h1,h2,h3,λi hi=>by
   rw[lJ];exact h4 i (by simpa using hi)⟩
theorem Jc5{α:Type}(enc:α->VV):∀(xs:List VV)(ys:List α),xs.length=ys.length->(∀(j:Nat) x a,xs[j]? =Z x->ys[j]? =Z a->x=enc a)->xs=ys.map enc:=by
 intro xs ys hl h;apply List.ext_getElem (by simpa using hl);intro j h1 h2;rw[lJ];exact h j _ _ (Qd h1) (Qd (by omega))
def ToO(E:Nat->Addr)(w:aA)(b:Nat)(g:Option Nat)(wj:Nat)(r:Option (List (Nat×Nat)×PS))(e:Ending)(w':aA):Prop:=
 match r with
 | some (ys,p2)=>∃gp,e=aC (R (Z ⟨gp,0,Y⟩) ys.length ys.length)/\w.heap.size<=gp/\w'.heap[gp]? =Z (T (Hv (ys.map encO)) 80)/\∃g',Jd w' b g' wj aK p2/\Z gp ≠ g'/\Jq w g g'/\M (λk=>k=b\/Z k=g) w w'
 | none=>(∃a n c,e=aC (R a n c))/\JbS E w w' b g wj
def ToC(E:Nat->Addr)(w:aA)(b:Nat)(g:Option Nat)(wj:Nat)(r:Option (List (BA×Int)×PS))(e:Ending)(w':aA):Prop:=
 match r with
 | some (ys,p2)=>∃gp,e=aC (R (Z ⟨gp,0,Y⟩) ys.length ys.length)/\w.heap.size<=gp/\w'.heap[gp]? =Z (T (Hv (ys.map encC)) 49)/\∃g',Jd w' b g' wj aK p2/\Z gp ≠ g'/\Jq w g g'/\M (λk=>k=b\/Z k=g) w w'
 | none=>(∃a n c,e=aC (R a n c))/\JbS E w w' b g wj
theorem ToO.of{E:Nat->Addr}{w w':aA}{b:Nat}{g:Option Nat}{wj:Nat}{r:Option (List (Nat×Nat)×PS)}{e:Ending}(h:ToL lkO E w b g wj Jc8 r e w'):ToO E w b g wj r e w':=by
 cases r with
 | none=>exact h
 | some r=>
  obtain⟨ys,p2⟩:=r;obtain⟨gp,xs,h1,h2,h3,h4,g',h5,h6,h7,h8,h9⟩:=h;exact⟨gp,h1,h2,by rw[Jc5 encO xs ys h4 h7]at h3;exact h3,g',h5,h6,h8,h9⟩
theorem ToC.of{E:Nat->Addr}{w w':aA}{b:Nat}{g:Option Nat}{wj:Nat}{r:Option (List (BA×Int)×PS)}{e:Ending}(h:ToL lkC E w b g wj (Jc7 wj) r e w'):ToC E w b g wj r e w':=by
 cases r with
 | none=>exact h
 | some r=>
  obtain⟨ys,p2⟩:=r;obtain⟨gp,xs,h1,h2,h3,h4,g',h5,h6,h7,h8,h9⟩:=h;exact⟨gp,h1,h2,by rw[Jc5 encC xs ys h4 h7]at h3;exact h3,g',h5,h6,h8,h9⟩
theorem ToO.shape{E:Nat->Addr}{w w':aA}{b:Nat}{g:Option Nat}{wj:Nat}{r:Option (List (Nat×Nat)×PS)}{e:Ending}(h:ToO E w b g wj r e w'):∃a n c,e=aC (R a n c):=by
 cases r with
 | none=>exact h.1
 | some r=>obtain⟨gp,he,_⟩:=h;exact⟨_,_,_,he⟩
theorem ToC.shape{E:Nat->Addr}{w w':aA}{b:Nat}{g:Option Nat}{wj:Nat}{r:Option (List (BA×Int)×PS)}{e:Ending}(h:ToC E w b g wj r e w'):∃a n c,e=aC (R a n c):=by
 cases r with
 | none=>exact h.1
 | some r=>obtain⟨gp,he,_⟩:=h;exact⟨_,_,_,he⟩
theorem Jfu(E:Nat->Addr)(b:Nat)(Hi:18<=b)(g:Option Nat)(wj:Nat)(what:BA)(v:aG)(l:List (Nat×Nat))(least most:Nat)(p0:PS)(w:aA)
  (hE:Env E w) (hp:Jd w b g wj aK p0) (hv:Jr b w v l) (gU:what.size<=1000) (zH:l.length<1000000) (xM:most<=3) (yK:p0.takes v) (ho:∀x∈l,x.2<256) (hd:p0.len<=70000000):
  aB N 204 #[X (Z ⟨b,0,Y⟩),aH #[L what,O I ((1:Nat):Int),O aD (least:Int),O aD (most:Int)],v,.func (.func 205) #[X (Z ⟨b,0,Y⟩)] #[]] w λe w'=>ToO E w b g wj (p0.listO least most l) e w':=by
 rw[<-JmH];exact(Joz (lawO E b Hi wj 80000000 (by omega)) rfl Hi g what gU 1 least most v (l.map encO) l p0 w hE hp (hv.vat.up (Nat.le_of_lt hp.lt)) (hv.vat.free hp) (by simp) zH (by simp only[Jc8];omega) (by omega) (by omega) xM yK (λj x a h1 h2=>by
  rw[lN,h2]at h1;simp only[lG,Qh]at h1;exact⟨h1.symm,ho a (QT h2)⟩)).mono λe w' h=>ToO.of h
theorem JkP(E:Nat->Addr)(b:Nat)(Hi:18<=b)(g:Option Nat)(wj:Nat)(hw:wj<=1000)(what:BA)(v:aG)(l:List (BA×Int))(least most:Nat)(p0:PS)(w:aA)
  (hE:Env E w) (hp:Jd w b g wj aK p0) (hv:JG b w v l) (gU:what.size<=1000) (zH:l.length<1000000) (xM:most<=3) (yK:p0.takes v) (hd:p0.len<=70000000):
  aB N 202 #[X (Z ⟨b,0,Y⟩),aH #[L what,O I ((1:Nat):Int),O aD (least:Int),O aD (most:Int)],v,.func (.func 203) #[X (Z ⟨b,0,Y⟩)] #[]] w λe w'=>ToC E w b g wj (p0.listC wj least most l) e w':=by
 rw[<-JmG];exact(Jou (lawC E b Hi wj 79000000 (by omega)) rfl Hi g what gU 1 least most v (l.map encC) l p0 w hE hp (hv.vat.up (Nat.le_of_lt hp.lt)) (hv.vat.free hp) (by simp) zH (by simp only[Jc7];omega) (by omega) (by omega) xM yK (λj x a h1 h2=>by
  rw[lN,h2]at h1;simp only[lG,Qh]at h1;exact h1.symm)).mono λe w' h=>ToC.of h
theorem Jbr(E:Nat->Addr)(b:Nat)(Hi:18<=b)(g:Option Nat)(wj:Nat)(v:aG)(l:List (Nat×Nat))(p0:PS)(w:aA)
  (hE:Env E w) (hp:Jd w b g wj aK p0) (hv:Jr b w v l) (zH:l.length<1000000) (yK:p0.takes v) (ho:∀x∈l,x.2<256) (hd:p0.len<=70000000):
  aB N 188 #[X (Z ⟨b,0,Y⟩),v] w λe w'=>
   ToO E w b g wj (p0.listO 1 3 l) e w':=by
 obtain⟨ia,ic,kG⟩:=hv.shape;have uQ:∀(fn:Fn)(first cap:Array aG)(w:aA),(lM fn first cap).run N w=.ok (.func fn first cap) w:=λ_ _ _ _=>rfl;have fX:J (∀what:BA,what.size<=1000->_):=λwhat gU=>Jfu E b Hi g wj what v l 1 3 p0 w hE hp hv gU zH (by omega) yK ho hd;clear hE hp hv yK ho;subst kG;go_enter func188,ntmps188;go_wp2_with fail;refine(fX.out _ (by decide)).mono ?_;clear fX;intro e w1 h;obtain⟨a,n,c,rfl⟩:=h.shape;have HH:J (ToO _ _ _ _ _ _ _ _):=h;clear h;go_wp2;go_ret;exact HH.o

def NewC(w:aA)(B:Nat)(g:Option Nat)(x:Sl)(ys:List (BA×Int)):Prop:=∃gp,x=(Z ⟨gp,0,Y⟩,ys.length,ys.length)/\B<=gp/\Z gp ≠ g/\w.heap[gp]? =Z (T (Hv (ys.map encC)) 49)
def NewO(w:aA)(B:Nat)(g:Option Nat)(x:Sl)(ys:List (Nat×Nat)):Prop:=∃gp,x=(Z ⟨gp,0,Y⟩,ys.length,ys.length)/\B<=gp/\Z gp ≠ g/\w.heap[gp]? =Z (T (Hv (ys.map encO)) 80)
theorem NewC.tch{w w':aA}{B:Nat}{g g':Option Nat}{x:Sl}{ys:List (BA×Int)}{S:Nat->Prop}(h:NewC w B g x ys)(k:M S w w')(hs:∀j,S j->j<B\/Z j=g\/w.heap.size<=j)(hm:Jq w g g'):NewC w' B g' x ys:=by
 obtain⟨gp,h1,h2,h3,h4⟩:=h;have l:=(Jb h4)
 refine⟨gp,h1,h2,?_,(k.block gp l (λe=>by rcases hs gp e with e|e|e;omega;exact h3 e;omega)).trans h4⟩
 rcases hm with rfl|⟨i,rfl,hi⟩
 ·exact h3
 ·intro e;cases e;omega
theorem NewO.tch{w w':aA}{B:Nat}{g g':Option Nat}{x:Sl}{ys:List (Nat×Nat)}{S:Nat->Prop}(h:NewO w B g x ys)(k:M S w w')(hs:∀j,S j->j<B\/Z j=g\/w.heap.size<=j)(hm:Jq w g g'):NewO w' B g' x ys:=by
 obtain⟨gp,h1,h2,h3,h4⟩:=h;have l:=(Jb h4)
 refine⟨gp,h1,h2,?_,(k.block gp l (λe=>by rcases hs gp e with e|e|e;omega;exact h3 e;omega)).trans h4⟩
 rcases hm with rfl|⟨i,rfl,hi⟩
 ·exact h3
 ·intro e;cases e;omega
theorem NewC.mono{w:aA}{B B':Nat}{g:Option Nat}{x:Sl}{ys:List (BA×Int)}(h:NewC w B g x ys)(hB:B'<=B):NewC w B' g x ys:=by
 obtain⟨gp,h1,h2,h3⟩:=h;exact⟨gp,h1,by omega,h3⟩
theorem NewO.mono{w:aA}{B B':Nat}{g:Option Nat}{x:Sl}{ys:List (Nat×Nat)}(h:NewO w B g x ys)(hB:B'<=B):NewO w B' g x ys:=by
 obtain⟨gp,h1,h2,h3⟩:=h;exact⟨gp,h1,by omega,h3⟩
theorem JmB(E:Nat->Addr)(b:Nat)(Hi:18<=b)(g:Option Nat)(wj:Nat)(hw:wj<=1000)(what:BA)(v:aG)(l:List (BA×Int))(least most:Nat)(st:Option PS)(w:aA)
  (hE:Env E w) (hp:Jg E w b g wj st) (hv:JG b w v l) (gU:what.size<=1000) (zH:l.length<1000000) (xM:most<=3) (yK:∀p,st=Z p->p.takes v) (hd:JP st<=70000000):
  aB N 202 #[X (Z ⟨b,0,Y⟩),aH #[L what,O I ((1:Nat):Int),O aD (least:Int),O aD (most:Int)],v,.func (.func 203) #[X (Z ⟨b,0,Y⟩)] #[]] w λe w'=>∃(x:Sl)(g':Option Nat),e=aC (R x.1 x.2.1 x.2.2)/\Jg E w' b g' wj ((st.bind (PS.listC wj least most l)).map (·.2))/\Jq w g g'/\M (λk=>k=b\/Z k=g) w w'/\∀ys p2,st.bind (PS.listC wj least most l)=Z (ys,p2)->NewC w' w.heap.size g' x ys:=by
 cases st with
 | none=>
  obtain⟨p,t,u,h1,h2⟩:=hp;obtain⟨ia,ic,kG⟩:=hv.shape;refine(Jov b g wj what gU 1 least most v ia _ ic kG p t u w h1).mono ?_;rintro e w'⟨rfl,h3,h4⟩;exact⟨(Y,0,0),g,rfl,⟨p,t,u,h3,h2.tch h4 (λ_ _ _ _ h=>h)⟩,aM rfl,h4.mono noE,λys p2 h=>by simp at h⟩
 | some p=>
  refine(JkP E b Hi g wj hw what v l least most p w hE hp hv gU zH xM (yK p rfl) hd).mono ?_;intro e w' h;obtain⟨xa,xn,xc,rfl⟩:=h.shape;simp only[Qu]
  cases hq:p.listC wj least most l with
  | none=>
   rw[hq]at h;obtain⟨_,g',p',vv,h1,h2,h3,h4⟩:=h;obtain⟨t,u,rfl⟩:=h2.iface;exact⟨(xa,xn,xc),g',rfl,⟨p',t,u,h1,h2⟩,h3,h4,λys p2 h=>by simp at h⟩
  | some r=>
   obtain⟨ys,p2⟩:=r;rw[hq]at h;obtain⟨gp,he,h1,h2,g',h3,h4,h5,h6⟩:=h
   cases he
   refine⟨(_,_,_),g',rfl,h3,h5,h6,λzs p3 hz=>?_⟩;simp only[Qh,Qw]at hz;obtain⟨rfl,rfl⟩:=hz;exact⟨gp,rfl,h1,h4,h2⟩
theorem JmC(E:Nat->Addr)(b:Nat)(Hi:18<=b)(g:Option Nat)(wj:Nat)(what:BA)(v:aG)(l:List (Nat×Nat))(least most:Nat)(st:Option PS)(w:aA)
  (hE:Env E w) (hp:Jg E w b g wj st) (hv:Jr b w v l) (gU:what.size<=1000) (zH:l.length<1000000) (xM:most<=3) (yK:∀p,st=Z p->p.takes v) (ho:∀x∈l,x.2<256) (hd:JP st<=70000000):
  aB N 204 #[X (Z ⟨b,0,Y⟩),aH #[L what,O I ((1:Nat):Int),O aD (least:Int),O aD (most:Int)],v,.func (.func 205) #[X (Z ⟨b,0,Y⟩)] #[]] w λe w'=>∃(x:Sl)(g':Option Nat),e=aC (R x.1 x.2.1 x.2.2)/\Jg E w' b g' wj ((st.bind (PS.listO least most l)).map (·.2))/\Jq w g g'/\M (λk=>k=b\/Z k=g) w w'/\∀ys p2,st.bind (PS.listO least most l)=Z (ys,p2)->NewO w' w.heap.size g' x ys:=by
 cases st with
 | none=>
  obtain⟨p,t,u,h1,h2⟩:=hp;obtain⟨ia,ic,kG⟩:=hv.shape;refine(JoA b g wj what gU 1 least most v ia _ ic kG p t u w h1).mono ?_;rintro e w'⟨rfl,h3,h4⟩;exact⟨(Y,0,0),g,rfl,⟨p,t,u,h3,h2.tch h4 (λ_ _ _ _ h=>h)⟩,aM rfl,h4.mono noE,λys p2 h=>by simp at h⟩
 | some p=>
  refine(Jfu E b Hi g wj what v l least most p w hE hp hv gU zH xM (yK p rfl) ho hd).mono ?_;intro e w' h;obtain⟨xa,xn,xc,rfl⟩:=h.shape;simp only[Qu]
  cases hq:p.listO least most l with
  | none=>
   rw[hq]at h;obtain⟨_,g',p',vv,h1,h2,h3,h4⟩:=h;obtain⟨t,u,rfl⟩:=h2.iface;exact⟨(xa,xn,xc),g',rfl,⟨p',t,u,h1,h2⟩,h3,h4,λys p2 h=>by simp at h⟩
  | some r=>
   obtain⟨ys,p2⟩:=r;rw[hq]at h;obtain⟨gp,he,h1,h2,g',h3,h4,h5,h6⟩:=h
   cases he
   refine⟨(_,_,_),g',rfl,h3,h5,h6,λzs p3 hz=>?_⟩;simp only[Qh,Qw]at hz;obtain⟨rfl,rfl⟩:=hz;exact⟨gp,rfl,h1,h4,h2⟩
theorem JmL{α:Type}(f:α->PS->Option (α×PS))(n:Nat)(hf:∀a p a' p',f a p=Z (a',p')->p'.len<=p.len+n)(l:List α):∀(p p1:PS)(ys:List α),PS.many f l p=Z (ys,p1)->p1.len<=p.len+n*l.length:=by
 induction l with
 | nil=>intro p p1 ys h;simp[PS.many]at h;rw[<-h.2];simp
 | cons z l ih=>
  intro p p1 ys h;simp only[PS.many]at h
  cases q:f z p with
  | none=>simp[q]at h
  | some r=>
   obtain⟨r1,r2⟩:=r;simp only[q]at h
   cases q2:PS.many f l r2 with
   | none=>simp[q2]at h
   | some s=>
    obtain⟨s1,s2⟩:=s;simp only[q2,Qh,Qw]at h;obtain⟨rfl,rfl⟩:=h;have h1:=hf _ _ _ _ q;have h2:=ih _ _ _ q2;rw[Qp,Nat.mul_add];omega
theorem JcF{α:Type}{f:α->PS->Option (α×PS)}{z:α}{size least most n:Nat}(hf:∀a p a' p',f a p=Z (a',p')->p.like p'/\p'.len<=p.len+n){l:List α}{p p2:PS}{ys:List α}{v:aG}(ht:p.takes v)(hv:v=R Y 0 0->l=[])(h:p.lst f z size least most l=Z (ys,p2)):
  p.like p2/\least<=ys.length/\ys.length<=most/\p2.len<=p.len+size+n*ys.length:=by
 unfold PS.lst at h
 split at h
 ·cases h
 ·rename_i cnt p1 q1
  split at h
  ·cases h
  ·rename_i hr;have e1:=JaW _ _ _ _ _ h;have e2:(Jw z l cnt).length=cnt:=by
    unfold Jw
    split
    ·simp
    ·rename_i hl
     rcases Jfx ht q1 with e|e
     ·exact absurd (by rw[hv e];rfl) hl
     ·exact e
   have e3:=JmL f n (λa p a' p' h=>(hf a p a' p' h).2) _ _ _ _ h;have e4:=ZR _ _ _ _ _ q1;refine⟨(Yo q1).trans (JcG f (λa p a' p' h=>(hf a p a' p' h).1) _ _ _ _ h),by omega,by omega,?_⟩;rw[e1];omega
theorem Jc4{p p2:PS}{v:aG}{wj least most:Nat}{l ys:List (BA×Int)}{B:Nat}{w:aA}(hv:JG B w v l)(ht:p.takes v)(h:p.listC wj least most l=Z (ys,p2)):
  p.like p2/\least<=ys.length/\ys.length<=most/\p2.len<=p.len+1+(wj+1)*ys.length:=by
 rw[<-JmG]at h;exact JcF (λa p a' p' h=>Jav h) ht (λe=>by rcases hv with⟨_,h⟩|⟨_,_,_,h,_⟩;exact h;rw[h]at e;cases e) h
theorem Jfy{a:Nat×Nat}{y:Nat×Nat}{p p2:PS}(h:p.out a.1 a.2=Z (y,p2)):p.like p2/\p2.len<=p.len+9:=by
 obtain⟨p1,h1,h2,h3,h4,h5⟩:=Jb9 _ _ _ _ _ h;exact⟨(Yo h1).trans (Yo h2),h4⟩
theorem JaV{p p2:PS}{v:aG}{least most:Nat}{l ys:List (Nat×Nat)}{B:Nat}{w:aA}(hv:Jr B w v l)(ht:p.takes v)(h:p.listO least most l=Z (ys,p2)):
  p.like p2/\least<=ys.length/\ys.length<=most/\p2.len<=p.len+1+9*ys.length:=by
 rw[<-JmH]at h;exact JcF (λa p a' p' h=>Jfy h) ht (λe=>by rcases hv with⟨_,h⟩|⟨_,_,_,h,_⟩;exact h;rw[h]at e;cases e) h
structure Jbp(b:Nat)(w:aA)(p:PS)(x:Sl×Sl)(t:TxL):Prop where
 coins:JG b w (R x.1.1 x.1.2.1 x.1.2.2) t.1
 outs:Jr b w (R x.2.1 x.2.2.1 x.2.2.2) t.2
 few1:t.1.length<1000000
 few2:t.2.length<1000000
 takes1:p.takes (R x.1.1 x.1.2.1 x.1.2.2)
 takes2:p.takes (R x.2.1 x.2.2.1 x.2.2.2)
 small:∀o∈t.2,o.2<256
theorem Jbp.tch{b:Nat}{w w':aA}{p p':PS}{x:Sl×Sl}{t:TxL}{S:Nat->Prop}(h:Jbp b w p x t)(k:M S w w')(hs:∀j,S j->b<=j)(hl:p.like p'):Jbp b w' p' x t:=
 ⟨h.coins.tch k hs,h.outs.tch k hs,h.few1,h.few2,hl.takes h.takes1,hl.takes h.takes2,h.small⟩
def JgJ(w:aA)(B:Nat)(g:Option Nat)(x:Sl×Sl)(t:TxL):Prop:=NewC w B g x.1 t.1/\NewO w B g x.2 t.2
def encT(x:Sl×Sl):VV:=(R x.1.1 x.1.2.1 x.1.2.2,R x.2.1 x.2.2.1 x.2.2.2)
theorem Jif{b wj:Nat}{w:aA}{p p2:PS}{x:Sl×Sl}{t t':TxL}(hw:wj<=32)(hI:Jbp b w p x t)(h:p.tx wj t=Z (t',p2)):p.like p2/\p2.len<=p.len+200/\t'.1.length<=3/\t'.2.length<=3:=by
 unfold PS.tx at h
 split at h
 ·cases h
 ·rename_i ys p1 q1;obtain⟨k1,_,k2,k3⟩:=Jc4 hI.coins hI.takes1 q1
  split at h
  ·cases h
  ·rename_i zs p3 q2;obtain⟨m1,_,m2,m3⟩:=JaV hI.outs (k1.takes hI.takes2) q2;simp only[Qh,Qw]at h;obtain⟨rfl,rfl⟩:=h;have:(wj+1)*ys.length<=33*3:=Nat.mul_le_mul (by omega) k2;exact⟨k1.trans m1,by omega,k2,m2⟩

theorem JnJ(E:Nat->Addr)(b:Nat)(Hi:18<=b)(g:Option Nat)(wj:Nat)(hw:wj<=32)(x:Sl×Sl)(t:TxL)(p:PS)(w:aA)(hE:Env E w)(hp:Jd w b g wj aK p)(hI:Jbp b w p x t)(hd:p.len<=60000000):
  aB N 134 #[X (Z ⟨b,0,Y⟩),aH #[R x.1.1 x.1.2.1 x.1.2.2,R x.2.1 x.2.2.1 x.2.2.2]] w λe w'=>∃(y:Sl×Sl)(g':Option Nat),e=aC (aH #[R y.1.1 y.1.2.1 y.1.2.2,R y.2.1 y.2.2.1 y.2.2.2])/\Jg E w' b g' wj ((p.tx wj t).map (·.2))/\Jq w g g'/\M (λk=>k=b\/Z k=g) w w'/\∀t' p2,p.tx wj t=Z (t',p2)->JgJ w' w.heap.size g' y t':=by
 obtain⟨⟨x1,x2,x3⟩,y1,y2,y3⟩:=x;obtain⟨qM,kn,qB,qS,H9,(H6:J _),(HO:J _)⟩:=hI;simp only at qM kn H9 H6;have H7:=hp.lt;have uQ:∀(fn:Fn)(first cap:Array aG)(w:aA),(lM fn first cap).run N w=.ok (.func fn first cap) w:=λ_ _ _ _=>rfl;have tA:=M.allocs D w (T #[R x1 x2 x3,R y1 y2 y3] 98) (T #[R Y 0 0,R Y 0 0] 98);have yV:J (∀what:BA,what.size<=1000->_):=λwhat gU=>JmB E b Hi g wj (by omega) what (R x1 x2 x3) t.1 1 3 (Z p) _ (hE.tch tA noE) (hp.tch tA (λh=>h) (λ_ _ h=>h)) (qM.tch tA noE) gU qB (by omega) (λq hq=>by cases hq;exact H9) (by simp only[JP];omega);have gq:J (Jr b w (R y1 y2 y3) t.2):=kn;have HE:J (Env E w):=hE;have HP:J (Jd w b g wj aK p):=hp;have HF:J (∀ys p1,p.listC wj 1 3 t.1=Z (ys,p1)->p.like p1/\p1.len<=p.len+200):=λys p1 h=>by
  obtain⟨k1,_,k2,k3⟩:=Jc4 qM H9 h;have:(wj+1)*ys.length<=33*3:=Nat.mul_le_mul (by omega) k2;exact⟨k1,by omega⟩
 clear qM kn hE hp H9 tA;go_enter func134,ntmps134;go_wp2_with fail;refine(yV _ (by decide)).mono ?_;rintro _ w1⟨⟨a1,a2,a3⟩,g1,rfl,Hy,ql,H9,(HN1:J _)⟩;have c2:=(H9.cell (p:=⟨w.heap.size,1,Y⟩) (by simp;omega) (Yp HP _ (Ql _))).trans (Ja (heap_alloc2_old _ _ _));have rR:=(H9.block _ (by simp) (Yp HP _ (by omega))).trans (heap_alloc2_new _ _ _);have p8:=H9.size;simp at p8;have hS:∀j,(j=b\/Z j=g)->b<=j:=by
  rintro j (rfl|hj)
  ·exact Ql _
  ·have:=(HP.o.own j hj.symm).1;omega
 have HPS:J (Jg E w b g wj (Z p)):=HP.o;have HN:J (∀g',Jq w1 g1 g'->¬(w.heap.size+1=b\/Z (w.heap.size+1)=g')):=λg' hm=>Jcl HPS.o (ql.trans hm H9.size) _ (by omega) (by simp);simp only[Qu]at Hy HN1;have uU:J (∀what:BA,what.size<=1000->_):=λwhat gU=>JmC E b Hi g1 wj what (R y1 y2 y3) t.2 0 3 _ w1 ((HE.o.tch (M.allocs D w _ _) noE).tch H9 (Jbk Hi HP.o)) Hy ((gq.o.tch (M.allocs D w _ _) noE).tch H9 hS) gU qS (by omega) (λq hq=>by
   cases hl:p.listC wj 1 3 t.1 with
   | none=>rw[hl]at hq;cases hq
   | some r=>
    obtain⟨ys,p1⟩:=r;rw[hl]at hq
    cases hq
    exact(HF _ _ hl).1.takes H6) HO (by
   cases hl:p.listC wj 1 3 t.1 with
   | none=>simp[JP]
   | some r=>
    obtain⟨ys,p1⟩:=r;have:=(HF _ _ hl).2;simp only[lG,JP];omega)
 have RR:J _:=rR;have jn:J (Jq _ _ _):=ql;have H5:J (M _ _ _):=H9;clear rR ql H9 Hy yV hS;go_wp2_with fail;refine(uU _ (by decide)).mono ?_;rintro _ w2⟨⟨b1,b2,b3⟩,g2,rfl,kV,gK,(dK:J _),(az:J _)⟩;have yN:=(dK.block _ (by omega) (HN g1 (aM rfl))).trans RR.out;obtain⟨e0,e1⟩:=rows yN;have fR:∀j,w2.frozen? ⟨w.heap.size+1,j,Y⟩=false:=λj=>Qg _ _ _ _ _ yN;have xu:J (_=_):=yN;have kF:J (Jg _ _ _ _ _ _):=kV;have dI:J (Jq _ _ _):=gK;clear yN kV gK uU;go_wp2;rw[set2 _ _ _ _ _ _ _ xu.out];refine QK (v:=aH #[R a1 a2 a3,R b1 b2 b3]) (Qq results134 _ _ (w.heap.size+1) _ _ (0,0) _ rfl (Qi w2 _ _ _ _ _ xu) underlying98 rfl (by kernel_rfl)) rfl ⟨((a1,a2,a3),(b1,b2,b3)),g2,rfl,?_,?_,?_,?_⟩
 ·have kL:((((p.listC wj 1 3 t.1).map (·.2)).bind (PS.listO 0 3 t.2)).map (·.2))=(p.tx wj t).map (·.2):=by
   unfold PS.tx
   cases p.listC wj 1 3 t.1 with
   | none=>rfl
   | some r=>
    obtain⟨ys,p1⟩:=r;simp only[lG,Qu]
    cases p1.listO 0 3 t.2<;>rfl
  have:=kF.o;rw[kL]at this;exact this.row xu.out (by decide) (HN.o g2 dI.o)
 ·have:=jn.o.trans dI H5.size
  rcases this with h|⟨i,h,hi⟩
  ·exact aM h
  ·exact aN ⟨i,h,by simp at hi;omega⟩
 ·exact((M.allocs _ w _ _).trans (YA H5 dK jn) (λ_ h=>aM h)).trans (Ts w2 (w.heap.size+1) _) (λj hj=>aN (by omega))
 ·intro t' p2 h;unfold PS.tx at h
  cases hl:p.listC wj 1 3 t.1 with
  | none=>rw[hl]at h;cases h
  | some r=>
   obtain⟨ys,p1⟩:=r;rw[hl]at h;simp only at h;have k1:=HN1 ys p1 hl;have k2:=az.o;rw[hl]at k2;simp only[lG,Qu]at k2
   cases qS:p1.listO 0 3 t.2 with
   | none=>rw[qS]at h;cases h
   | some r=>
    obtain⟨zs,p3⟩:=r;rw[qS]at h
    cases h
    have tR:=Ts w2 (w.heap.size+1) #[R a1 a2 a3,R b1 b2 b3];refine⟨?_,?_⟩
    ·refine NewC.mono (NewC.tch (NewC.tch k1 dK (λj h=>?_) dI) tR (λj h=>aM (by simp;omega)) (aM rfl)) (by simp;omega)
     rcases h with h|h
     ·exact aM (by simp;omega)
     ·exact aN (aM h)
    ·exact NewO.mono (NewO.tch (k2 _ _ qS) tR (λj h=>aM (by omega)) (aM rfl)) (by omega)
def Jal(wj:Nat):XY TxL where
 f:=λt p=>p.tx wj t
 grow:=200
 zero:=([],[])
 zeroV:=zT
 Init:=λb w p x t=>∃y:Sl×Sl,x=encT y/\Jbp b w p y t
 Done:=λw B g x t=>∃y:Sl×Sl,x=encT y/\JgJ w B g y t
theorem Jkd{wj:Nat}{t t':TxL}{p p2:PS}(h:p.tx wj t=Z (t',p2)):p.like p2:=by
 unfold PS.tx at h
 split at h
 ·cases h
 ·rename_i ys p1 q1
  split at h
  ·cases h
  ·rename_i zs p3 q2
   cases h
   rw[<-JmG]at q1;rw[<-JmH]at q2;unfold PS.lst at q1 q2
   split at q1
   ·cases q1
   ·rename_i h1
    split at q1
    ·cases q1
    ·split at q2
     ·cases q2
     ·rename_i h2
      split at q2
      ·cases q2
      ·exact(((Yo h1).trans (JcG _ (λa p a' p' h=>(Jav h).1) _ _ _ _ q1)).trans (Yo h2)).trans (JcG _ (λa p a' p' h=>(Jfy h).1) _ _ _ _ q2)
theorem lawT(E:Nat->Addr)(b:Nat)(Hi:18<=b)(wj j6:Nat)(hw:wj<=32)(hl:j6<=60000000):Zi E b wj j6 lkT.fP (Jal wj) ShT where
 init_tch:=λ⟨y,h1,h2⟩ k hs hl=>⟨y,h1,h2.tch k hs hl⟩
 init_zero:=λ_ _=>⟨((Y,0,0),(Y,0,0)),rfl,aM ⟨rfl,rfl⟩,aM ⟨rfl,rfl⟩,by simp[Jal],by simp[Jal],λ_ _ _=>rfl,λ_ _ _=>rfl,λo ho=>by simp[Jal]at ho⟩
 init_shape:=λ⟨y,h1,_⟩=>⟨y.1,y.2,h1⟩
 done_tch:=λ⟨y,h1,h2,h3⟩ k hs hm=>⟨y,h1,h2.tch k hs hm,h3.tch k hs hm⟩
 done_mono:=λ⟨y,h1,h2,h3⟩ hB=>⟨y,h1,h2.mono hB,h3.mono hB⟩
 like:=λh=>Jkd h
 len:=λ⟨y,_,hI⟩ h=>(Jif hw hI h).2.1
 call:=λ{w g p x a} hE hp hI hd=>by
  obtain⟨y,rfl,hI⟩:=hI;refine(JnJ E b Hi g wj hw y a p w hE hp hI (by omega)).mono ?_;rintro e w'⟨z,g',rfl,k1,k2,k3,k4⟩;refine⟨encT z,⟨z.1,z.2,rfl⟩,rfl,?_⟩;show ToP E w b g wj (Jal wj) (p.tx wj a) _ w'
  cases h:p.tx wj a with
  | none=>
   rw[h]at k1;obtain⟨p',t,u,h1,h2⟩:=k1;exact⟨g',_,p',h1,k2,k3,h2⟩
  | some r=>
   obtain⟨t',p2⟩:=r;rw[h]at k1;exact⟨g',_,p2,k1,k2,k3,rfl,rfl,z,rfl,k4 t' p2 h⟩
theorem Jhu(wj:Nat):∀(l:List TxL)(p:PS),PS.many (Jal wj).f l p=PS.txs wj l p
 | [],_=>rfl
 | x::r,p=>by
  simp only[PS.many,PS.txs];have e:(Jal wj).f x p=p.tx wj x:=rfl;rw[e]
  cases p.tx wj x with
  | none=>rfl
  | some q=>simp only[Jhu wj r];cases PS.txs wj r q.2<;>rfl
theorem Jnw(l:List TxL)(cnt:Nat):Jw ([],[]) l cnt=Zr l cnt:=by
 unfold Jw Zr
 cases l<;>simp
theorem JqI(wj:Nat)(l:List TxL)(p:PS):p.lst (Jal wj).f (Jal wj).zero 1 0 3 l=p.body wj l:=by
 unfold PS.lst PS.body
 cases p.num l.length 1 with
 | none=>rfl
 | some r=>
  simp only[Jhu,<-Jnw,Nat.not_lt_zero,false_or];rfl
theorem Xa.vat{B:Nat}{w:aA}{v:aG}{l:List (Sl×Sl)}(h:Xa B w v l):VAt B w v (l.map encT):=by
 rcases h with⟨h1,h2⟩|⟨gi,oi,c,h1,h2,h3,h4⟩
 ·exact aM ⟨h1,by rw[h2];rfl⟩
 ·exact aN ⟨gi,oi,c,by rw[QM];exact h1,h2,h3,λi hi=>by
   rw[lJ];exact h4 i (by simpa using hi)⟩
def ToB(E:Nat->Addr)(w:aA)(b:Nat)(g:Option Nat)(wj:Nat)(r:Option (List TxL×PS))(e:Ending)(w':aA):Prop:=
 ∃(x:Sl)(g':Option Nat),e=aC (R x.1 x.2.1 x.2.2)/\Jg E w' b g' wj (r.map (·.2))/\Jq w g g'/\M (λk=>k=b\/Z k=g) w w'/\
  ∀ts p2,r=Z (ts,p2)->∃(gp:Nat)(zs:List (Sl×Sl)),x=(Z ⟨gp,0,Y⟩,ts.length,ts.length)/\w.heap.size<=gp/\Z gp ≠ g'/\w'.heap[gp]? =Z (T (Hv (zs.map encT)) 98)/\zs.length=ts.length/\∀(j:Nat) z t,zs[j]? =Z z->ts[j]? =Z t->JgJ w' w.heap.size g' z t
theorem ToB.of{E:Nat->Addr}{w w':aA}{b:Nat}{g:Option Nat}{wj:Nat}{r:Option (List TxL×PS)}{e:Ending}(h:ToL lkT E w b g wj (Jal wj) r e w'):ToB E w b g wj r e w':=by
 cases r with
 | none=>
  obtain⟨⟨x1,x2,x3,rfl⟩,g',p',v,h1,h2,h3,h4⟩:=h;obtain⟨t,u,rfl⟩:=h2.iface;exact⟨(x1,x2,x3),g',rfl,⟨p',t,u,h1,h2⟩,h3,h4,λts p2 h=>by cases h⟩
 | some r=>
  obtain⟨ys,p2⟩:=r;obtain⟨gp,xs,rfl,h2,h3,h4,g',h5,h6,h7,h8,h9⟩:=h;refine⟨(Z ⟨gp,0,Y⟩,ys.length,ys.length),g',rfl,h5,h8,h9,λts p3 h=>?_⟩;simp only[Qh,Qw]at h;obtain⟨rfl,rfl⟩:=h;have hz:∃zs:List (Sl×Sl),xs=zs.map encT/\∀(j:Nat) z t,zs[j]? =Z z->ys[j]? =Z t->JgJ w' w.heap.size g' z t:=by
   have key:∀(xs:List VV)(ys:List TxL),xs.length=ys.length->(∀(j:Nat) x a,xs[j]? =Z x->ys[j]? =Z a->(Jal wj).Done w' (gp+1) g' x a)->∃zs:List (Sl×Sl),xs=zs.map encT/\∀(j:Nat) z t,zs[j]? =Z z->ys[j]? =Z t->JgJ w' w.heap.size g' z t:=by
    intro xs
    induction xs with
    | nil=>intro ys _ _;exact⟨[],rfl,λj z t h=>by simp at h⟩
    | cons x xs ih=>
     intro ys hl h
     cases ys with
     | nil=>simp at hl
     | cons y ys=>
      obtain⟨zs,e,xH⟩:=ih ys (by simpa using hl) (λj x a h1 h2=>h (j+1) x a (by simpa using h1) (by simpa using h2));obtain⟨z,ez,hz⟩:=h 0 x y rfl rfl;refine⟨z::zs,by rw[e,ez];rfl,λj z' t h1 h2=>?_⟩
      cases j with
      | zero=>simp at h1 h2;subst h1 h2;exact⟨hz.1.mono (by omega),hz.2.mono (by omega)⟩
      | succ j=>exact xH j z' t (by simpa using h1) (by simpa using h2)
   exact key xs ys h4 h7
  obtain⟨zs,rfl,xH⟩:=hz;exact⟨gp,zs,rfl,h2,h6,h3,by simpa using h4,xH⟩
theorem JkQ(E:Nat->Addr)(b:Nat)(Hi:18<=b)(g:Option Nat)(wj:Nat)(hw:wj<=32)(what:BA)(gU:what.size<=1000)(v:aG)(l:List (Sl×Sl))(ts:List TxL)(p0:PS)(w:aA)
  (hE:Env E w) (hp:Jd w b g wj aK p0) (hv:Xa b w v l) (hl:l.length=ts.length) (zH:ts.length<1000000) (yK:p0.takes v) (gV:∀(j:Nat) x t,l[j]? =Z x->ts[j]? =Z t->Jbp b w p0 x t) (hd:p0.len<=50000000):
  aB N 133 #[X (Z ⟨b,0,Y⟩),aH #[L what,O I 1,O aD 0,O aD 3],v,.func (.func 134) #[X (Z ⟨b,0,Y⟩)] #[]] w λe w'=>ToB E w b g wj (p0.body wj ts) e w':=by
 obtain⟨j6,sN,hlaw⟩:∃j6,j6=60000000/\Zi E b wj j6 lkT.fP (Jal wj) ShT:=⟨_,rfl,lawT E b Hi wj 60000000 hw (by omega)⟩
 have sQ:(Jal wj).grow=200:=rfl;rw[<-JqI];exact(JoC hlaw rfl Hi g what gU 1 0 3 v (l.map encT) ts p0 w hE hp (hv.vat.up (Nat.le_of_lt hp.lt)) (hv.vat.free hp) (by simpa using hl) zH (by rw[sQ];omega) (by omega) (by omega) (by omega) yK (λj x a h1 h2=>by
  rw[lN]at h1
  cases hz:l[j]? with
  | none=>rw[hz]at h1;cases h1
  | some z=>rw[hz]at h1;cases h1;exact⟨z,rfl,gV j z a hz h2⟩)).mono λe w' h=>ToB.of h
theorem JdF(E:Nat->Addr)(b:Nat)(Hi:18<=b)(g:Option Nat)(wj:Nat)(hw:wj<=32)(v:aG)(l:List (Sl×Sl))(ts:List TxL)(p0:PS)(w:aA)
  (hE:Env E w) (hp:Jd w b g wj aK p0) (hv:Xa b w v l) (hl:l.length=ts.length) (zH:ts.length<1000000) (yK:p0.takes v) (gV:∀(j:Nat) x t,l[j]? =Z x->ts[j]? =Z t->Jbp b w p0 x t) (hd:p0.len<=50000000):
  aB N 78 #[X (Z ⟨b,0,Y⟩),v] w λe w'=>ToB E w b g wj (p0.body wj ts) e w':=by
 obtain⟨ia,ic,kG⟩:=hv.shape;have uQ:∀(fn:Fn)(first cap:Array aG)(w:aA),(lM fn first cap).run N w=.ok (.func fn first cap) w:=λ_ _ _ _=>rfl;have HL:J (∀what:BA,what.size<=1000->_):=λwhat gU=>JkQ E b Hi g wj hw what gU v l ts p0 w hE hp hv hl zH yK gV hd;clear hE hp hv yK gV hl;subst kG;go_enter func78,ntmps78;go_wp2_with fail;refine(HL.o _ (by decide)).mono ?_;clear HL;rintro e w1⟨⟨x1,x2,x3⟩,g1,rfl,h⟩;have HH:J (Jg _ _ _ _ _ _/\_):=h;clear h;go_wp2;go_ret;exact⟨(x1,x2,x3),g1,rfl,HH.o⟩

structure Run(E:Nat->Addr)(w0 wA w:aA)(b:Nat)(g g':Option Nat)(wj:Int)(st:Option PS):Prop where
 port:Jg E w b g' wj st
 moved:Jq wA g g'
 tch:M (λk=>k=b\/Z k=g) wA w
 env:Env E w
 k12:18<=b
 low:b<w0.heap.size
 own:∀k,g=Z k->b<k/\k<w0.heap.size
 new:M D w0 wA
theorem Run.start{E:Nat->Addr}{w0 wA:aA}{b:Nat}{g:Option Nat}{wj:Int}{st:Option PS}(p9:18<=b)(hE:Env E w0)(hp:Jg E w0 b g wj st)(k:M D w0 wA):Run E w0 wA wA b g g wj st:=
 ⟨hp.next k,aM rfl,Te _ _,hE.tch k noE,p9,hp.lt,hp.own,k⟩
theorem Run.step{E:Nat->Addr}{w0 wA w w':aA}{b:Nat}{g g':Option Nat}{wj:Int}{st st':Option PS}(h:Run E w0 wA w b g g' wj st)(k:StTo E w w' b g' wj st'):∃g'',Run E w0 wA w' b g g'' wj st':=by
 obtain⟨g2,k1,k2,k3⟩:=k;exact⟨g2,k1,h.moved.trans k2 h.tch.size,YA h.tch k3 h.moved,h.env.tch k3 (Jck h.k12 h.port),h.k12,h.low,h.own,h.new⟩
theorem Run.box{E:Nat->Addr}{w0 wA w:aA}{b:Nat}{g g':Option Nat}{wj:Int}{st:Option PS}(h:Run E w0 wA w b g g' wj st){k:Nat}{o:Obj}(hk:w0.heap.size<=k)(hA:wA.heap[k]? =Z o):w.heap[k]? =Z o/\¬(k=b\/Z k=g'):=by
 have hl:=(Jb hA)
 have h1:=h.low;refine⟨(h.tch.block k hl ?_).trans hA,?_⟩
 ·rintro(e|e)
  ·omega
  ·have:=(h.own k e.symm).2;omega
 ·rcases h.moved with e|⟨i,e,hi⟩
  ·rw[e];rintro(e|e)
   ·omega
   ·have:=(h.own k e.symm).2;omega
  ·rw[e];rintro(e|e)
   ·omega
   ·cases e;omega
theorem Run.to{E:Nat->Addr}{w0 wA w:aA}{b:Nat}{g g':Option Nat}{wj:Int}{st:Option PS}(h:Run E w0 wA w b g g' wj st):StTo E w0 w b g wj st:=
 StTo.fresh h.new ⟨g',h.port,h.moved,h.tch⟩
theorem Run.done{E:Nat->Addr}{w0 wA w:aA}{b:Nat}{g g':Option Nat}{wj:Int}{st:Option PS}(h:Run E w0 wA w b g g' wj st){k:Nat}{cur cs:Array aG}{aY:TypeId}(hk:w0.heap.size<=k)(hA:wA.heap[k]? =Z (T cur aY))(hT:aY ≠ 237):StTo E w0 (w.setRow k cs) b g wj st:=by
 obtain⟨h1,h2⟩:=h.box hk hA;obtain⟨g2,k1,k2,k3⟩:=h.to;have hg:g2=g':=k1.same h.port;subst hg;exact⟨g2,k1.row h1 hT h2,k2,k3.trans (Ts w k cs) (λj hj=>aN (by omega))⟩
theorem set4(w:aA)(g:Nat)(t:TypeId)(a b c d v0 v1 v2 v3:aG)(h:w.heap[g]? =Z (T #[a,b,c,d] t (0,0))):
  (((w.setCell ⟨g,0,Y⟩ v0).setCell ⟨g,1,Y⟩ v1).setCell ⟨g,2,Y⟩ v2).setCell ⟨g,3,Y⟩ v3=w.setRow g #[v0,v1,v2,v3]:=by
 rw[Qj w g 0 _ t (0,0) v0 h,Qj _ g 1 _ t (0,0) v1 (Qi _ _ _ _ _ _ h),QI,
  Qj _ g 2 _ t (0,0) v2 (Qi _ _ _ _ _ _ h),QI,Qj _ g 3 _ t (0,0) v3 (Qi _ _ _ _ _ _ h),QI]
 refine congrArg (w.setRow g) ?_;simp
def ZM(wj:Nat)(h:HdL)(st:Option PS):(Nat×List UInt8×List UInt8×List UInt8)×Option PS:=
 let r0:=JF h.1 4 st
 let r1:=Jm h.2.1.data.toList wj r0.2
 let r2:=Jm h.2.2.1.data.toList wj r1.2
 let r3:=Jm h.2.2.2.data.toList wj r2.2
 ((r0.1,r1.1,r2.1,r3.1),r3.2)
abbrev hdV(r:Nat×List UInt8×List UInt8×List UInt8):aG:=aH #[O aD (r.1:Int),L ⟨r.2.1.toArray⟩,L ⟨r.2.2.1.toArray⟩,L ⟨r.2.2.2.toArray⟩]
theorem Jex(wj:Nat)(h:HdL)(p:PS)(hh:p.hdr wj h=Y):(ZM wj h (Z p)).2=Y:=by
 unfold ZM;unfold PS.hdr at hh;dsimp only
 cases h1:p.num h.1 4 with
 | none=>rw[ZN h1];rfl
 | some r=>
  obtain⟨n,p1⟩:=r;rw[JS h1];simp only[h1]at hh;dsimp only
  cases h2:p1.txt h.2.1.data.toList wj with
  | none=>rw[Yb h2];rfl
  | some r=>
   obtain⟨t1,p2⟩:=r;rw[JN h2];simp only[h2]at hh;dsimp only
   cases h3:p2.txt h.2.2.1.data.toList wj with
   | none=>rw[Yb h3];rfl
   | some r=>
    obtain⟨t2,p3⟩:=r;rw[JN h3];simp only[h3]at hh;dsimp only
    cases h4:p3.txt h.2.2.2.data.toList wj with
    | none=>rw[Yb h4]
    | some r=>simp[h4]at hh
theorem JbN(wj:Nat)(h y:HdL)(p p2:PS)(hh:p.hdr wj h=Z (y,p2)):(ZM wj h (Z p)).2=Z p2/\hdV (ZM wj h (Z p)).1=aH #[O aD (y.1:Int),L y.2.1,L y.2.2.1,L y.2.2.2]:=by
 unfold ZM;unfold PS.hdr at hh;dsimp only
 cases h1:p.num h.1 4 with
 | none=>rw[h1]at hh;cases hh
 | some r=>
  obtain⟨n,p1⟩:=r;rw[JS h1];simp only[h1]at hh;dsimp only
  cases h2:p1.txt h.2.1.data.toList wj with
  | none=>rw[h2]at hh;cases hh
  | some r=>
   obtain⟨t1,p2⟩:=r;rw[JN h2];simp only[h2]at hh;dsimp only
   cases h3:p2.txt h.2.2.1.data.toList wj with
   | none=>rw[h3]at hh;cases hh
   | some r=>
    obtain⟨t2,p3⟩:=r;rw[JN h3];simp only[h3]at hh;dsimp only
    cases h4:p3.txt h.2.2.2.data.toList wj with
    | none=>rw[h4]at hh;cases hh
    | some r=>
     obtain⟨t3,p4⟩:=r;rw[JN h4];simp only[h4,Qh,Qw]at hh;obtain⟨rfl,rfl⟩:=hh;exact⟨rfl,rfl⟩

theorem Jfn(E:Nat->Addr)(b:Nat)(Hi:18<=b)(g:Option Nat)(wj:Nat)(n:Nat)(s1 s2 s3:BA)(st:Option PS)(w:aA)(hE:Env E w)(hp:Jg E w b g wj st)(hd:JP st+4*wj<=90000000):
  aB N 86 #[X (Z ⟨b,0,Y⟩),aH #[O aD (n:Int),L s1,L s2,L s3]] w λe w'=>e=aC (hdV (ZM wj (n,s1,s2,s3) st).1)/\StTo E w w' b g wj (ZM wj (n,s1,s2,s3) st).2:=by
 have H7:=hp.lt;have gC:=Run.start Hi hE hp (M.allocs D w (T #[O aD (n:Int),L s1,L s2,L s3] 167) (T #[O aD 0,L ⟨#[]⟩,L ⟨#[]⟩,L ⟨#[]⟩] 167));have zm:=Jbn n 4 st;have qB:=YG s1.data.toList wj (JF n 4 st).2;have qS:=YG s2.data.toList wj (Jm s1.data.toList wj (JF n 4 st).2).2;have RUN:J _:=gC;go_enter func86,ntmps86;go_wp2_with fail;refine(Jak E b g wj n 4 st _ RUN.env RUN.port (by omega) (by omega)).mono ?_;rintro _ w1⟨rfl,h⟩;obtain⟨g1,(Hz:J _)⟩:=RUN.step h;have qj:=(Hz.box (k:=w.heap.size) (Ql _) (heap_alloc2_old _ _ _)).1;obtain⟨-,c1⟩:=rows qj;clear qj h;go_wp2_with fail;refine(Za E b g1 wj s1 _ _ Hz.env Hz.port (by omega)).mono ?_;rintro _ w2⟨rfl,h⟩;obtain⟨g2,(kQ:J _)⟩:=Hz.step h;have bx2:=(kQ.box (k:=w.heap.size) (Ql _) (heap_alloc2_old _ _ _)).1;obtain⟨-, -,c2⟩:=rows bx2;clear bx2 h;go_wp2_with fail;refine(Za E b g2 wj s2 _ _ kQ.env kQ.port (by omega)).mono ?_;rintro _ w3⟨rfl,h⟩;obtain⟨g3,(gD:J _)⟩:=kQ.step h;have bx3:=(gD.box (k:=w.heap.size) (Ql _) (heap_alloc2_old _ _ _)).1;obtain⟨-, -, -,c3⟩:=rows bx3;clear bx3 h;go_wp2_with fail;refine(Za E b g3 wj s3 _ _ gD.env gD.port (by omega)).mono ?_;rintro _ w4⟨rfl,h⟩;obtain⟨g4,(jp:J _)⟩:=gD.step h;have rR:=(jp.box (k:=w.heap.size+1) (by omega) (heap_alloc2_new _ _ _)).1;obtain⟨e0,e1,e2,e3⟩:=rows rR;have fR:∀j,w4.frozen? ⟨w.heap.size+1,j,Y⟩=false:=λj=>Qg _ _ _ _ _ rR;have RR:J _:=rR;clear rR h;go_wp2;rw[set4 _ _ _ _ _ _ _ _ _ _ _ RR.out];exact QK (v:=hdV (ZM wj (n,s1,s2,s3) st).1) (Qq results86 _ _ (w.heap.size+1) _ _ (0,0) _ rfl (Qi _ _ _ _ _ _ RR) underlying167 rfl (by kernel_rfl)) rfl ⟨rfl,jp.done (k:=w.heap.size+1) (by omega) (heap_alloc2_new _ _ _) (by decide)⟩

theorem JY(wj:Int)(w:aA):
  aB N 77 #[O I wj] w λe w'=>e=aC (X (Z ⟨w.heap.size,0,Y⟩))/\Jd w' w.heap.size Y wj aK (.wr [])/\M D w w':=by
 go_enter func77,ntmps77;go_wp2;go_ret;refine⟨rfl,⟨R Y 0 0,rfl,Bs.nil _ _,?_⟩,Ta _ _ _⟩;exact Qf _ _
theorem XT(wj:Int)(s:BA)(w:aA):
  aB N 85 #[O I wj,L s] w λe w'=>e=aC (X (Z ⟨w.heap.size,0,Y⟩))/\Jd w' w.heap.size Y wj aK (.rd [] s.data.toList)/\M D w w':=by
 go_enter func85,ntmps85;go_wp2;go_ret;refine⟨rfl,⟨rfl,?_⟩,Ta _ _ _⟩;exact Qf _ _
theorem JnS(b:Nat)(g:Option Nat)(wj:Int)(done:List UInt8)(w:aA)(hp:Jd w b g wj aK (.wr done)):
  aB N 79 #[X (Z ⟨b,0,Y⟩)] w λe w'=>e=aC (aI #[L ⟨done.toArray⟩,aK])/\∃n,w'=w.drewN n:=by
 have ce:=hp.errCell;obtain⟨v,_,ko,hZ⟩:=hp;have c3:w.cell? ⟨b,3,Y⟩=Z v:=Ja hZ;have kL:=λn=>Ye (P:=N) (w:=w.drewN n) (l:=done) ko 52 9 5 underlying52 underlying5 underlying9;have sR:=kL 0;rw[lI]at sR;have dL:=kL 1;rw[<-World.drew_is_drewN]at dL;clear kL hZ ko;generalize (⟨done.toArray⟩:BA)=r at *;go_enter func79,ntmps79;go_wp2;go_ret2;exact⟨rfl,0,rfl⟩
theorem Jly(b:Nat)(g:Option Nat)(wj:Int)(t:TypeId)(u:aG)(p:PS)(w:aA)(hp:Jd w b g wj (aJ t u) p):
  aB N 79 #[X (Z ⟨b,0,Y⟩)] w λe w'=>e=aC (aI #[L ⟨#[]⟩,aJ t u])/\∃n,w'=w.drewN n:=by
 have ce:=hp.errCell;clear hp;go_enter func79,ntmps79;go_wp2;go_region
 all_goals go_wp2
 all_goals go_ret2
 all_goals exact⟨rfl,1,rfl⟩
theorem Jem(b:Nat)(g:Option Nat)(wj:Int)(e:aG)(H4 rest:List UInt8)(w:aA)(hp:Jd w b g wj e (.rd H4 rest)):
  aB N 87 #[X (Z ⟨b,0,Y⟩)] w λe w'=>e=aC (L ⟨rest.toArray⟩)/\M D w w':=by
 obtain⟨-, -, -,c3,c4⟩:=rows hp.2;have Hp:H4.length<=(⟨(H4++rest).toArray⟩:BA).size:=by rw[Ji,Qe];omega
 have hx:(⟨(H4++rest).toArray⟩:BA).extract H4.length (⟨(H4++rest).toArray⟩:BA).size=⟨rest.toArray⟩:=by rw[JnB,List.drop_left'];rfl
 generalize (⟨rest.toArray⟩:BA)=rt at *;generalize (⟨(H4++rest).toArray⟩:BA)=r at *;generalize H4.length=n at *;go_enter func87,ntmps87;go_wp2;go_region
 all_goals go_wp2
 all_goals go_ret
 all_goals exact⟨rfl,Td _ w 1⟩
theorem Jas(E:Nat->Addr)(b:Nat)(g:Option Nat)(wj:Int)(st:Option PS)(hw:∀p,st=Z p->∃d,p=.wr d)(w:aA)(hp:Jg E w b g wj st):
  aB N 79 #[X (Z ⟨b,0,Y⟩)] w λe w'=>M D w w'/\match st with
   | some (⟨Sum.inr d⟩)=>e=aC (aI #[L ⟨d.toArray⟩,aK])
   | _=>∃t u,e=aC (aI #[L ⟨#[]⟩,aJ t u])/\Jn E 7 w' (aJ t u):=by
 cases st with
 | none=>
  obtain⟨p,t,u,h1,h2⟩:=hp;refine(Jly b g wj t u p w h1).mono ?_;rintro e w'⟨rfl,n,rfl⟩;exact⟨Td _ w n,t,u,rfl,h2.tch (Td D w n) (λ_ _ _ _ h=>h)⟩
 | some p=>
  obtain⟨d,rfl⟩:=hw p rfl;refine(JnS b g wj d w hp).mono ?_;rintro e w'⟨rfl,n,rfl⟩;exact⟨Td _ w n,rfl⟩

theorem JcO(b:Nat)(g:Option Nat)(wj:Int)(e x:aG)(H4 rest:List UInt8)(w:aA)(hp:Jd w b g wj e (.rd H4 rest)):
  aB N 140 #[X (Z ⟨b,0,Y⟩),x] w λe w'=>e=aC (aL (!rest.isEmpty))/\M D w w':=by
 obtain⟨-, -, -,c3,c4⟩:=rows hp.2;have Hp:(⟨(H4++rest).toArray⟩:BA).size=H4.length+rest.length:=by rw[Ji,Qe]
 have hb:decide (H4.length<(⟨(H4++rest).toArray⟩:BA).size)= !rest.isEmpty:=by
  rw[Hp]
  cases rest with
  | nil=>simp
  | cons a l=>simp
 have HB:J _:=hb;clear hp hb Hp;generalize (⟨(H4++rest).toArray⟩:BA)=r at *;generalize H4.length=n at *;go_enter func140,ntmps140;go_wp2;go_region
 all_goals go_wp2
 all_goals go_ret
 all_goals exact⟨by rw[<-HB.o];rfl,Td _ w 1⟩
theorem Jeh(b:Nat)(wj:Int)(H4:List UInt8)(w:aA)(hp:Jd w b Y wj aK (.rd H4 [])):
  aB N 88 #[X (Z ⟨b,0,Y⟩)] w λe w'=>e=aC aK/\M D w w':=by
 have ce:=hp.errCell;have HM:J (∀x W,M D w W->_):=λx W hT=>JcO b Y wj aK x H4 [] W (hp.tch hT (λh=>h) (λ_ _ h=>h));have HE:J (∀W,M D w W->_):=λW hT=>(hp.tch hT (λh=>h) (λ_ _ h=>h)).errCell;go_enter func88,ntmps88;go_wp2_with fail;refine(HM _ w (Te _ _)).mono ?_;rintro _ w1⟨rfl,(HT:J _)⟩;have c1:=HE w1 HT;clear HM HE;go_wp2;go_ret;exact⟨rfl,HT⟩
theorem JfF(b:Nat)(g:Option Nat)(wj:Int)(t:TypeId)(u:aG)(p:PS)(w:aA)(hp:Jd w b g wj (aJ t u) p):
  aB N 88 #[X (Z ⟨b,0,Y⟩)] w λe w'=>e=aC (aJ t u)/\M D w w':=by
 have ce:=hp.errCell;clear hp;go_enter func88,ntmps88;go_wp2;go_ret
 first
  | exact⟨rfl,Te _ _⟩
  | exact⟨rfl,Td _ w 1⟩
theorem Jgt(E:Nat->Addr)(b:Nat)(wj:Int)(H4 rest:List UInt8)(hr:rest ≠ [])(w:aA)(hE:Env E w)(hp:Jd w b Y wj aK (.rd H4 rest)):
  aB N 88 #[X (Z ⟨b,0,Y⟩)] w λe w'=>∃t u,e=aC (aJ t u)/\Jn E 7 w' (aJ t u)/\M D w w':=by
 have ce:=hp.errCell;have Hl:(!rest.isEmpty)=true:=by cases rest with|nil=>exact absurd rfl hr|cons a l=>rfl
 have HM:J (∀x,aB N 140 #[X (Z ⟨b,0,Y⟩),x] w λe w'=>e=aC (aL true)/\M D w w'):=λx=>by
  have:=JcO b Y wj aK x H4 rest w hp;rw[Hl]at this;exact this
 have HF:J (∀W,M D w W->_):=λW hT=>(hE.tch hT noE).form;go_enter func88,ntmps88;go_wp2_with fail;refine(HM _).mono ?_;rintro _ w1⟨rfl,(HT:J _)⟩;have c1:=HF w1 HT;clear HM HF;go_wp2_with fail;refine(Xk _ _ _ _).mono ?_;rintro _ _⟨rfl,rfl⟩;go_wp2;go_ret;exact⟨_,_,rfl,.wrap _ _ _ (Qf _ _) .base,HT.trans (Ta D _ _) noE⟩
theorem Ja2(E:Nat->Addr)(b:Nat)(wj:Int)(st:Option PS)(hr:∀p,st=Z p->∃q r,p=.rd q r)(w:aA)(hE:Env E w)(g:Option Nat)(hp:Jg E w b g wj st):
  aB N 88 #[X (Z ⟨b,0,Y⟩)] w λe w'=>M D w w'/\match st with
   | some (⟨Sum.inl (_,[])⟩)=>e=aC aK
   | _=>∃t u,e=aC (aJ t u)/\Jn E 7 w' (aJ t u):=by
 cases st with
 | none=>
  obtain⟨p,t,u,h1,h2⟩:=hp;refine(JfF b g wj t u p w h1).mono ?_;rintro e w'⟨rfl,h⟩;exact⟨h,t,u,rfl,h2.tch h (λ_ _ _ _ h=>h)⟩
 | some p=>
  obtain⟨q,r,rfl⟩:=hr p rfl;have hg:g=Y:=hp.1;subst hg
  cases r with
  | nil=>exact(Jeh b wj q w hp).mono λe w' ⟨h1,h2⟩=>⟨h2,h1⟩
  | cons a l=>exact(Jgt E b wj q (a::l) (by simp) w hE hp).mono λe w' ⟨t,u,h1,h2,h3⟩=>⟨h3,t,u,h1,h2⟩

def H3(wj:Nat)(l:List UInt8):ByteArray:=⟨((digL l).take wj).toArray⟩
theorem Jk(wj:Nat)(hw:wj<=32)(l:List UInt8):(H3 wj l).size=wj:=by
 show ((digL l).take wj).toArray.size=wj;simp[JaR];omega
