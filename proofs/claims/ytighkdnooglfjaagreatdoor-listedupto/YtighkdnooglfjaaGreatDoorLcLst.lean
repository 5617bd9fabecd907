import Derived.Test.YtighkdnooglfjaaGreatDoorLcRd
namespace Go.Proofs.YtighkdnooglfjaaGreatDoor
open Tryz
set_option maxRecDepth 100000
set_option maxHeartbeats 400000
open Go.RowKit

variable {wj:Int}{B N b cnt gp i k lim x:Nat}{E:Nat->Addr}{S:Nat->Prop}{o o' o2:Obj}{g g':Option Nat}{p p1 q:PS}{α:Type}{err v:Value}{w w':World}
def Jbo(E:Nat->Addr)(w w':World)(b:Nat)(g:Option Nat)(wj:Int):Prop:=
 ∃g' p' v,Jc w' b g' wj v p'/\Jp E 7 w' v/\Jm w g g'/\Tch (λk=>k=b\/some k=g) w w'
theorem Jlp{pp:Nat}{s:BA}(h:w.heap[pp]? =some (.cells #[.string s,v] 237))(hp:Jc w b g wj err p):¬pp=b:=by
 rintro rfl
 cases p using PS.on with
 | rd q r=>have:=hp.2;rw[h]at this;simp at this
 | wr d=>obtain⟨u,_,_,hr⟩:=hp;rw[h]at hr;simp at hr
def PS.takes(p:PS)(v:Value):Prop:=∀pre rest,p=.rd pre rest->v=.slice none 0 0
theorem Jev(ht:p.takes v)(h:p.num x k=some (cnt,p1)):v=.slice none 0 0\/x=cnt:=by
 cases p using PS.on with
 | rd q r=>exact .inl (ht q r rfl)
 | wr d=>
  simp only[PS.num]at h
  split at h
  ·simp only[Qh,Qw]at h;exact .inr h.1
  ·cases h
def PS.like:PS->PS->Prop
 | ⟨.inl (_,_)⟩,⟨.inl (_,_)⟩=>True
 | ⟨.inr _⟩,⟨.inr _⟩=>True
 | _,_=>False
theorem PS.like.refl(p:PS):p.like p:=by cases p using PS.on<;>trivial
theorem PS.like.trans{r:PS}(h:p.like q)(k:q.like r):p.like r:=by
 cases p using PS.on<;>cases q using PS.on<;>cases r using PS.on<;>first|trivial|cases h|cases k
theorem PS.like.takes(h:p.like q)(k:p.takes v):q.takes v:=by
 intro r s hr;subst hr
 cases p using PS.on with
 | rd a c=>exact k a c rfl
 | wr d=>cases h
theorem YA{m:Nat}(h:p.num x k=some (m,p1)):p.like p1:=by
 cases p using PS.on<;>(simp only[PS.num]at h;split at h<;>first|(cases h;done)|(simp only[Qh,Qw]at h;rw[<-h.2];trivial))
theorem JlW{s m:List UInt8}(h:p.txt s k=some (m,p1)):p.like p1:=by
 cases p using PS.on<;>(simp only[PS.txt]at h;split at h<;>first|(cases h;done)|(simp only[Qh,Qw]at h;rw[<-h.2];trivial))

def PS.many{α:Type}(f:α->PS->Option (α×PS)):List α->PS->Option (List α×PS)
 | [],p=>some ([],p)
 | x::r,p=>match f x p with
  | none=>none
  | some (y,p1)=>match PS.many f r p1 with
   | none=>none
   | some (ys,p2)=>some (y::ys,p2)
def JK{α:Type}(z:α)(l:List α)(cnt:Nat):List α:=if l.length=0 then List.replicate cnt z else l
def PS.lst{α:Type}(f:α->PS->Option (α×PS))(z:α)(size least most:Nat)(l:List α)(p:PS):Option (List α×PS):=
 match p.num l.length size with
 | none=>none
 | some (cnt,p1)=>if cnt<least\/most<cnt then none else PS.many f (JK z l cnt) p1
theorem Jjp(f:α->PS->Option (α×PS))(l:List α)(x y:α):∀(p p1 p2:PS)(ys:List α),PS.many f l p=some (ys,p1)->f x p1=some (y,p2)->PS.many f (l++[x]) p=some (ys++[y],p2):=by
 induction l with
 | nil=>intro p p1 p2 ys h h2;simp[PS.many]at h;obtain⟨rfl,rfl⟩:=h;simp[PS.many,h2]
 | cons z l ih=>
  intro p p1 p2 ys h h2;simp only[PS.many,List.cons_append]at h ⊢
  cases q:f z p with
  | none=>simp[q]at h
  | some r=>
   obtain⟨r1,r2⟩:=r;simp only[q]at h ⊢
   cases q2:PS.many f l r2 with
   | none=>simp[q2]at h
   | some s=>
    obtain⟨s1,s2⟩:=s;simp only[q2,Qh,Qw]at h;obtain⟨rfl,rfl⟩:=h;rw[ih r2 s2 p2 s1 q2 h2];rfl
theorem Jjq(f:α->PS->Option (α×PS))(l m:List α)(x:α):∀(p p1:PS)(ys:List α),PS.many f l p=some (ys,p1)->f x p1=none->PS.many f (l++x::m) p=none:=by
 induction l with
 | nil=>intro p p1 ys h h2;simp[PS.many]at h;obtain⟨rfl,rfl⟩:=h;simp[PS.many,h2]
 | cons z l ih=>
  intro p p1 ys h h2;simp only[PS.many,List.cons_append]at h ⊢
  cases q:f z p with
  | none=>simp[q]at h
  | some r=>
   obtain⟨r1,r2⟩:=r;simp only[q]at h ⊢
   cases q2:PS.many f l r2 with
   | none=>simp[q2]at h
   | some s=>
    obtain⟨s1,s2⟩:=s;simp only[q2,Qh,Qw]at h;obtain⟨rfl,rfl⟩:=h;rw[ih r2 s2 s1 q2 h2]
theorem Jaz(f:α->PS->Option (α×PS))(l:List α):∀(p p1:PS)(ys:List α),PS.many f l p=some (ys,p1)->ys.length=l.length:=by
 induction l with
 | nil=>intro p p1 ys h;simp[PS.many]at h;rw[<-h.1]
 | cons z l ih=>
  intro p p1 ys h;simp only[PS.many]at h
  cases q:f z p with
  | none=>simp[q]at h
  | some r=>
   obtain⟨r1,r2⟩:=r;simp only[q]at h
   cases q2:PS.many f l r2 with
   | none=>simp[q2]at h
   | some s=>
    obtain⟨s1,s2⟩:=s;simp only[q2,Qh,Qw]at h;obtain⟨rfl,rfl⟩:=h;simp[ih r2 s2 s1 q2]
theorem Jb7(f:α->PS->Option (α×PS))(hf:∀a p a' p',f a p=some (a',p')->p.like p')(l:List α):∀(p p1:PS)(ys:List α),PS.many f l p=some (ys,p1)->p.like p1:=by
 induction l with
 | nil=>intro p p1 ys h;simp[PS.many]at h;rw[<-h.2];exact PS.like.refl _
 | cons z l ih=>
  intro p p1 ys h;simp only[PS.many]at h
  cases q:f z p with
  | none=>simp[q]at h
  | some r=>
   obtain⟨r1,r2⟩:=r;simp only[q]at h
   cases q2:PS.many f l r2 with
   | none=>simp[q2]at h
   | some s=>
    obtain⟨s1,s2⟩:=s;simp only[q2,Qh,Qw]at h;obtain⟨rfl,rfl⟩:=h;exact(hf _ _ _ _ q).trans (ih _ _ _ q2)

abbrev VV:=Value×Value
def vvA(l:List VV):Array Value:=(l.flatMap λx=>[x.1,x.2]).toArray
theorem ZE(l:List VV):∀(i:Nat)(h:i<l.length),(vvA l)[i*2]? =some l[i].1/\(vvA l)[i*2+1]? =some l[i].2:=by
 unfold vvA
 induction l with
 | nil=>intro i h;simp at h
 | cons x l ih=>
  intro i h
  cases i with
  | zero=>simp
  | succ i=>
   have:=ih i (by simpa using h);simp only[QG,List.getElem?_toArray]at this ⊢;rw[show (i+1)*2=i*2+2 by omega,show i*2+2+1=i*2+1+2 by omega];simpa using this
theorem JaK(l:List VV):(vvA l).size=l.length*2:=by
 unfold vvA
 induction l with
 | nil=>rfl
 | cons x l ih=>simp at ih ⊢;omega
theorem JiF(l:List VV):∀(i:Nat)(a o:Value),i<l.length->((vvA l).setIfInBounds (i*2) a).setIfInBounds (i*2+1) o=vvA (l.set i (a,o)):=by
 unfold vvA
 induction l with
 | nil=>intro i a o h;simp at h
 | cons x l ih=>
  intro i a o h
  cases i with
  | zero=>simp
  | succ i=>
   have:=ih i a o (by simpa using h);simp only[QG,Qa,Qc]at this ⊢;rw[show (i+1)*2=i*2+2 by omega,show i*2+2+1=i*2+1+2 by omega];simpa using this
theorem Jj8(l:List VV)(a:Addr)(w:World)(h:∀i (h:i<l.length),w.cell? (a.add (i*2))=some l[i].1/\w.cell? (a.add (i*2+1))=some l[i].2):
  ∀j v,(vvA l).toList[j]? =some v->w.cell? (a.add j)=some v:=by
 intro j v hv;have hj:j<l.length*2:=by have:=(Qo.1 hv).1;rw[QA,JaK]at this;exact this
 rw[Array.getElem?_toList]at hv;obtain⟨e0,e1⟩:=ZE l (j/2) (by omega);obtain⟨f0,f1⟩:=h (j/2) (by omega)
 rcases Nat.mod_two_eq_zero_or_one j with hm|hm
 ·have hj2:j/2*2=j:=by omega
  rw[hj2]at e0 f0;rw[f0,<-e0,hv]
 ·have hj2:j/2*2+1=j:=by omega
  rw[hj2]at e1 f1;rw[f1,<-e1,hv]
theorem Jm1(l:List VV)(h1:∀x∈l,x.1.oneCell'=true/\x.2.oneCell'=true):∀v∈(vvA l).toList,v.oneCell'=true:=by
 intro v hv;simp only[vvA,List.mem_flatMap]at hv;obtain⟨x,hx0,hx⟩:=hv;simp at hx
 rcases hx with rfl|rfl
 ·exact(h1 x hx0).1
 ·exact(h1 x hx0).2
def VAt(B:Nat)(w:World)(v:Value)(l:List VV):Prop:=
 (v=.slice none 0 0/\l=[])\/∃gi oi c,v=.slice (some ⟨gi,oi,none⟩) l.length c/\gi<B/\gi<w.heap.size/\∀i (h:i<l.length),w.cell? ⟨gi,oi+i*2,none⟩=some l[i].1/\w.cell? ⟨gi,oi+i*2+1,none⟩=some l[i].2
theorem VAt.tch{l:List VV}(h:VAt B w v l)(k:Tch S w w')(hs:∀j,S j->B<=j):VAt B w' v l:=by
 rcases h with h|⟨gi,oi,c,hv,h1,h2,h3⟩
 ·exact .inl h
 ·refine .inr ⟨gi,oi,c,hv,h1,Qk h2 k.size,λi hi=>?_⟩;have hc:∀o,w'.cell? ⟨gi,o,none⟩=w.cell? ⟨gi,o,none⟩:=λo=>k.cell (p:=⟨gi,o,none⟩) h2 (λe=>by have:=hs gi e;omega);rw[hc,hc];exact h3 i hi
theorem VAt.shape{l:List VV}(h:VAt B w v l):∃a c,v=.slice a l.length c:=by
 rcases h with⟨rfl,rfl⟩|⟨gi,oi,c,rfl,_⟩
 ·exact⟨none,0,rfl⟩
 ·exact⟨_,_,rfl⟩
theorem VAt.up{B':Nat}{l:List VV}(h:VAt B w v l)(hb:B<=B'):VAt B' w v l:=by
 rcases h with h|⟨gi,oi,c,h1,h2,h3⟩
 ·exact .inl h
 ·exact .inr ⟨gi,oi,c,h1,by omega,h3⟩
theorem Ja7{l:List VV}{xa:List α}(z:α)(h:VAt B w v l)(hl:l.length=xa.length)(hvc:v=.slice none 0 0\/xa.length=cnt):(JK z xa cnt).length=cnt:=by
 unfold JK
 split
 ·rw[List.length_replicate]
 ·rename_i hn
  rcases hvc with e|e
  ·exfalso
   rcases h with⟨_,h4⟩|⟨_,_,_,h3,_⟩
   ·rw[h4]at hl;simp at hl;omega
   ·rw[h3]at e;cases e
  ·exact e
theorem Jea{P:Program}(w:World)(dT sT ty elem:TypeId)(sz g dLen dCap:Nat)(a:Addr)(sLen sCap:Nat)(cur:Array Value)(t:TypeId)(cs:List Value)
 (hu:P.underlying dT=some (.slice elem)) (hs:(P.info? elem).map (·.size)=some sz)
 (hg:w.heap[g]? =some (.cells cur t (0,0))) (hn:cs.length=Nat.min sLen dLen*sz)
 (hsrc:∀j v,cs[j]? =some v->w.cell? (a.add j)=some v) (hfit:cs.length=cur.size) (h1:∀v∈cs,v.oneCell'=true):
  (Builtin.copy_ #[dT,sT] ty #[.slice (some ⟨g,0,none⟩) dLen dCap,.slice (some a) sLen sCap]).run P w=.ok (goInt (Nat.min sLen dLen)) (w.setRow g cs.toArray):=by
 have hl:=run_loadCells_list (P:=P) w a cs hsrc;have hst:=run_storeCells_at P g 0 t cs 0 cur w hg (by omega) h1;have e2:cs++cur.toList.drop cs.length=cs:=by rw[hfit,<-QA,List.drop_length,QC]
 simp only[Nat.add_zero]at hst
 cases hq:P.info? elem with
 | none=>simp[hq]at hs
 | some i=>
  have hi:i.size=sz:=by simpa [hq]using hs
  simp[Builtin.copy_,run_underlying hu,Builtin.lenOf,Builtin.firstCells,sizeOf,typeInfo,hq,hi,<-hn,hl,hst];rw[e2]
theorem Jma{l:List VV}{tS tE:TypeId}{z:VV}(hu:prog.underlying tS=some (.slice tE))(hinfo:(prog.info? tE).map (·.size)=some 2)(h1:∀x∈l,x.1.oneCell'=true/\x.2.oneCell'=true)(h:VAt B w v l)(hrow:w.heap[gp]? =some (.cells (vvA (List.replicate cnt z)) tE))(hc:v=.slice none 0 0\/l.length=cnt):
  ∃r:Int,(∀ty,(Builtin.copy_ #[tS,tS] ty #[.slice (some ⟨gp,0,none⟩) cnt cnt,v]).run prog w=.ok (.int .i64 r) (w.setRow gp (vvA (JK z l cnt)))):=by
 rcases h with⟨rfl,rfl⟩|⟨gi,oi,c,rfl,k1,k2,k3⟩
 ·refine⟨0,λty=>?_⟩;have:=run_copy_nil (P:=prog) w tS tS ty tE ⟨gp,0,none⟩ cnt cnt hu (by rw[hinfo];rfl);rw[this,show JK z [] cnt=List.replicate cnt z from if_pos rfl,setRow_self w gp _ _ _ hrow];rfl
 ·have hcn:l.length=cnt:=by
   rcases hc with h|h
   ·cases h
   ·exact h
  have hst:JK z l cnt=l:=by
   unfold JK
   split
   ·rename_i hl;have hl':=List.length_eq_zero_iff.1 hl;subst hl';subst hcn;rfl
   ·rfl
  refine⟨(Nat.min l.length cnt:Nat),λty=>?_⟩;have hmin:Nat.min l.length cnt=cnt:=by rw[hcn];exact Nat.min_self cnt
  have:=Jea (P:=prog) w tS tS ty tE 2 gp cnt cnt ⟨gi,oi,none⟩ l.length c _ _ (vvA l).toList hu hinfo hrow
   (by rw[QA,JaK,hmin,hcn])
   (Jj8 l _ w (λi hi=>by rw[Addr.add_lit,Addr.add_lit,<-Nat.add_assoc];exact k3 i hi))
   (by rw[QA,JaK,JaK,List.length_replicate,hcn]) (Jm1 l h1)
  rw[this,hst,Array.toArray_toList];rfl

structure LK where
 tE:TypeId
 tS:TypeId
 tF:TypeId
 fP:FuncId
structure YF(K:LK)(w:World)(b:Nat)(g:Option Nat)(N gp cnt:Nat)(l:List VV):Prop where
 len:l.length=cnt
 box0:w.heap[N]? =some (.cells #[.pointer (some ⟨b,0,none⟩)] 230)
 box1:w.heap[N+2]? =some (.cells #[.func (.func K.fP) #[.pointer (some ⟨b,0,none⟩)] #[]] K.tF)
 box2:w.heap[gp+1]? =some (.cells #[.slice (some ⟨gp,0,none⟩) cnt cnt] K.tS)
 arr:w.heap[gp]? =some (.cells (vvA l) K.tE)
 high:b<N/\N+2<gp
 apart:∀k,k=N\/k=N+2\/k=gp\/k=gp+1->some k ≠ g
theorem YF.tch{K:LK}{l:List VV}(h:YF K w b g N gp cnt l)(k:Tch S w w')(hs:∀j,S j->j=b\/some j=g\/w.heap.size<=j)(hm:Jm w g g'):YF K w' b g' N gp cnt l:=by
 have l0:=(Jb h.box0)
 have l1:=(Jb h.box1)
 have l2:=(Jb h.box2)
 have l3:=(Jb h.arr)
 have hh:=h.high;have ne:∀j,j<w.heap.size->(j=N\/j=N+2\/j=gp\/j=gp+1)->¬S j:=λj hj hc hS=>by
  rcases hs j hS with e|e|e
  ·omega
  ·exact h.apart j hc e
  ·omega
 refine⟨h.len,(k.block _ l0 (ne _ l0 (by simp))).trans h.box0,(k.block _ l1 (ne _ l1 (by simp))).trans h.box1,(k.block _ l2 (ne _ l2 (by simp))).trans h.box2,(k.block _ l3 (ne _ l3 (by simp))).trans h.arr,hh,λj hj e=>?_⟩
 rcases hm with rfl|⟨i,rfl,hi⟩
 ·exact h.apart j hj e
 ·cases e;rcases hj with rfl|rfl|rfl|rfl<;>omega
theorem Jgo{K:LK}{l:List VV}(h:YF K w b g N gp cnt l)(hi:i<cnt):
  ∃x y,w.cell? ⟨gp,i*2,none⟩=some x/\w.cell? ⟨gp,i*2+1,none⟩=some y/\w.frozen? ⟨gp,i*2,none⟩=false/\w.frozen? ⟨gp,i*2+1,none⟩=false:=by
 obtain⟨e0,e1⟩:=ZE l i (by have:=h.len;omega);exact⟨_,_,(Ja h.arr).trans e0,(Ja h.arr).trans e1,Qg _ _ _ _ _ h.arr,Qg _ _ _ _ _ h.arr⟩
theorem JaO{K:LK}{l:List VV}(h:YF K w b g N gp cnt l)(hp:Jc w b g wj err p)(hi:i<cnt)(a o:Value):
  ((w.setCell ⟨gp,i*2,none⟩ a).setCell ⟨gp,i*2+1,none⟩ o).cell? ⟨N,0,none⟩=some (.pointer (some ⟨b,0,none⟩))/\
  ((w.setCell ⟨gp,i*2,none⟩ a).setCell ⟨gp,i*2+1,none⟩ o).cell? ⟨b,2,none⟩=some err/\
  YF K ((w.setCell ⟨gp,i*2,none⟩ a).setCell ⟨gp,i*2+1,none⟩ o) b g N gp cnt (l.set i (a,o))/\
  Jc ((w.setCell ⟨gp,i*2,none⟩ a).setCell ⟨gp,i*2+1,none⟩ o) b g wj err p/\
  Tch (λk=>k=gp) w ((w.setCell ⟨gp,i*2,none⟩ a).setCell ⟨gp,i*2+1,none⟩ o):=by
 have hil:i<l.length:=by have:=h.len;omega
 have hh:=h.high;rw[Qj w gp (i*2) _ _ (0,0) _ h.arr,Qj _ gp (i*2+1) _ _ (0,0) _ (Qi _ _ _ _ _ _ h.arr),QI,JiF l i a o hil];have ht:=Ts w gp (vvA (l.set i (a,o)));have l0:=(Jb h.box0)
 have l1:=(Jb h.box1)
 have l2:=(Jb h.box2)
 have b0:=(ht.block N l0 (by omega)).trans h.box0;have hp':=hp.tch ht (λe=>by omega) (λj hj e=>by subst e;exact h.apart j (by simp) hj.symm);exact⟨Ja b0,hp'.errCell,⟨by rw[List.length_set];exact h.len,b0,(ht.block _ l1 (by omega)).trans h.box1,(ht.block _ l2 (by omega)).trans h.box2,Qi _ _ _ _ _ _ h.arr,hh,h.apart⟩,hp',ht⟩
theorem Jc.same{width':Int}{e e':Value}{p':PS}(h:Jc w b g wj e p)(k:Jc w b g' width' e' p'):g=g':=by
 cases p using PS.on with
 | rd q r=>cases p' using PS.on with
  | rd q' r'=>rw[h.1,k.1]
  | wr d=>obtain⟨v,_,_,hr⟩:=k;have:=h.2;rw[hr]at this;simp at this
 | wr d=>cases p' using PS.on with
  | rd q' r'=>obtain⟨v,_,_,hr⟩:=h;have:=k.2;rw[hr]at this;simp at this
  | wr d'=>
   obtain⟨v,h1,_,hr⟩:=h;obtain⟨v',k1,_,kr⟩:=k;rw[hr]at kr;simp at kr;rw[<-h1,<-k1,kr.2.2]

structure Ye(α:Type) where
 f:α->PS->Option (α×PS)
 grow:Nat
 zero:α
 zeroV:VV
 Init:Nat->World->PS->VV->α->Prop
 Done:World->Nat->Option Nat->VV->α->Prop
def ToP(E:Nat->Addr)(w:World)(b:Nat)(g:Option Nat)(wj:Nat){α:Type}(Q:Ye α)(r:Option (α×PS))(y:VV)(w':World):Prop:=
 ∃g' err p',Jc w' b g' wj err p'/\Jm w g g'/\Tch (λk=>k=b\/some k=g) w w'/\
  match r with
  | some (a,p2)=>p'=p2/\err=.nilIface/\Q.Done w' w.heap.size g' y a
  | none=>Jp E 7 w' err
structure Ze(E:Nat->Addr)(b wj lim:Nat)(fP:FuncId){α:Type}(Q:Ye α)(Shape:VV->Prop):Prop where
 init_tch:∀{w w':World} {p p':PS} {x:VV} {a:α} {S:Nat->Prop},Q.Init b w p x a->Tch S w w'->(∀j,S j->b<=j)->p.like p'->Q.Init b w' p' x a
 init_zero:∀(w:World)(p:PS),Q.Init b w p Q.zeroV Q.zero
 init_shape:∀{w:World} {p:PS} {x:VV} {a:α},Q.Init b w p x a->Shape x
 done_tch:∀{w w':World} {B:Nat} {g g':Option Nat} {x:VV} {a:α} {S:Nat->Prop},Q.Done w B g x a->Tch S w w'->(∀j,S j->j<B\/some j=g\/w.heap.size<=j)->Jm w g g'->Q.Done w' B g' x a
 done_mono:∀{w:World} {B B':Nat} {g:Option Nat} {x:VV} {a:α},Q.Done w B g x a->B'<=B->Q.Done w B' g x a
 like:∀{a a':α} {p p':PS},Q.f a p=some (a',p')->p.like p'
 len:∀{w:World} {x:VV} {a a':α} {p p':PS},Q.Init b w p x a->Q.f a p=some (a',p')->p'.len<=p.len+Q.grow
 call:∀{w:World} {g:Option Nat} {p:PS} {x:VV} {a:α},Env E w->Jc w b g wj .nilIface p->Q.Init b w p x a->p.len<=lim->
  Calls prog fP #[.pointer (some ⟨b,0,none⟩),.agg #[x.1,x.2]] w λe w'=>∃y:VV,Shape y/\e=.returned (.agg #[y.1,y.2])/\ToP E w b g wj Q (Q.f a p) y w'
def InvV(K:LK)(E:Nat->Addr)(w0:World)(b:Nat)(g:Option Nat)(wj N gp cnt:Nat){α:Type}(Q:Ye α)(st:List VV)(xa:List α)(p:PS)(i:Nat)(w:World):Prop:=
 ∃g' xs ys p1,PS.many Q.f (xa.take i) p=some (ys,p1)/\xs.length=i/\Jc w b g' wj .nilIface p1/\YF K w b g' N gp cnt (xs++st.drop i)/\(∀(j:Nat) x a,xs[j]? =some x->ys[j]? =some a->Q.Done w (gp+1) g' x a)/\(∀(j:Nat) x a,st[j]? =some x->xa[j]? =some a->Q.Init b w p1 x a)/\
  Env E w/\Jm w0 g g'/\Tch (λk=>k=b\/some k=g\/k=gp) w0 w/\p.like p1/\p1.len<=p.len+Q.grow*i
def BadV(E:Nat->Addr)(w0:World)(b:Nat)(g:Option Nat)(wj N gp:Nat){α:Type}(Q:Ye α)(xa:List α)(p:PS)(v:Value)(w:World):Prop:=
 Jp E 7 w v/\PS.many Q.f xa p=none/\∃g' p',Jc w b g' wj v p'/\Jm w0 g g'/\Tch (λk=>k=b\/some k=g\/k=gp) w0 w/\w.heap[N]? =some (.cells #[.pointer (some ⟨b,0,none⟩)] 230)
def Jkm(K:LK)(E:Nat->Addr)(w:World)(b:Nat)(g:Option Nat)(wj N gp cnt i:Nat){α:Type}(Q:Ye α)(l:List VV)(r:Option (α×PS))(e:Ending)(w':World):Prop:=
 Tch (λk=>k=b\/some k=g\/k=gp) w w'/\match r with
  | some (a,p2)=>e=.returned .nilIface/\∃g' x',Jc w' b g' wj .nilIface p2/\YF K w' b g' N gp cnt (l.set i x')/\Q.Done w' (gp+1) g' x' a/\Jm w g g'
  | none=>∃v,e=.returned v/\Jp E 7 w' v/\∃g' p',Jc w' b g' wj v p'/\Jm w g g'/\w'.heap[N]? =some (.cells #[.pointer (some ⟨b,0,none⟩)] 230)
structure JcU(f:FuncId)(caps:Array Value)(g off n:Nat)(x:Nat->VV)(Inv:Nat->World->Prop)(Bad:Value->World->Prop):Prop where
 enter:∀args w,(callFunc f args).run prog w=.ok (.enter f args) w
 read:∀i w,i<n->Inv i w->w.cell? ⟨g,off+i*2,none⟩=some (x i).1/\w.cell? ⟨g,off+i*2+1,none⟩=some (x i).2
 alloc:∀i w o,Inv i w->Inv i (w.alloc o)
 call:∀i w,i<n->Inv i w->Calls prog f (#[.int .i64 (i:Int),.agg #[(x i).1,(x i).2]]++caps) w λe w'=>(e=.returned .nilIface/\Inv (i+1) w')\/∃t v,e=.returned (.iface t v)/\Bad (.iface t v) w'
theorem Jou{K:LK}{wj:Nat}{Q:Ye α}{Shape:VV->Prop}(H:Ze E b wj lim K.fP Q Shape)(fS:FuncId)(hen:∀args w,(callFunc fS args).run prog w=.ok (.enter fS args) w)(w0:World)(hb12:18<=b)(g:Option Nat)(N gp cnt:Nat)(st:List VV)(xa:List α)(p:PS)(hst:st.length=cnt)(has:xa.length=cnt)(hd:p.len+Q.grow*cnt<=lim)(hbgp:b<gp)
 (hstep:∀(w:World)(g:Option Nat)(i:Nat)(x:VV)(a:α)(l:List VV)(p:PS),Env E w->YF K w b g N gp cnt l->Jc w b g wj .nilIface p->Q.Init b w p x a->i<cnt->p.len<=lim->
 Calls prog fS #[.int .i64 (i:Int),.agg #[x.1,x.2],.pointer (some ⟨N+2,0,none⟩),.pointer (some ⟨gp+1,0,none⟩),.pointer (some ⟨N,0,none⟩)] w λe w'=>Jkm K E w b g wj N gp cnt i Q l (Q.f a p) e w'):
  JcU fS #[.pointer (some ⟨N+2,0,none⟩),.pointer (some ⟨gp+1,0,none⟩),.pointer (some ⟨N,0,none⟩)] gp 0 cnt (λi=>st.getD i Q.zeroV) (InvV K E w0 b g wj N gp cnt Q st xa p) (BadV E w0 b g wj N gp Q xa p):=by
 refine⟨hen,?_,?_,?_⟩
 ·rintro i w hi⟨g',xs,ys,p1,h1,hxl,h2,h3,hD,hN,h4,h5,h6,h7,h8⟩;have hlen:i<(xs++st.drop i).length:=by rw[h3.len];exact hi
  obtain⟨e0,e1⟩:=ZE (xs++st.drop i) i hlen;have hx:(xs++st.drop i)[i]=st.getD i Q.zeroV:=by rw[List.getElem_append_right (by omega)];simp[hxl,List.getD_eq_getElem?_getD,show i<st.length by omega]
  rw[hx]at e0 e1;rw[Nat.zero_add];exact⟨(Ja h3.arr).trans e0,(Ja h3.arr).trans e1⟩
 ·rintro i w o⟨g',xs,ys,p1,h1,hxl,h2,h3,hD,hN,h4,h5,h6,h7,h8⟩;have hk:=Ta NoB w o;exact⟨g',xs,ys,p1,h1,hxl,h2.tch hk (λh=>h) (λ_ _ h=>h),h3.tch hk noE (.inl rfl),λj x t a c=>H.done_tch (hD j x t a c) hk noE (.inl rfl),λj x t a c=>H.init_tch (hN j x t a c) hk noE (PS.like.refl _),h4.tch hk noE,h5,h6.trans hk noE,h7,h8⟩
 ·rintro i w hi⟨g',xs,ys,p1,h1,hxl,h2,h3,hD,hN,h4,h5,h6,h7,h8⟩;have hmono:∀{wx},Tch (λk=>k=b\/some k=g'\/k=gp) w wx->_:=λhk=>h6.trans hk (λj hj=>by
   rcases hj with rfl|hj|rfl
   ·exact .inl (.inl rfl)
   ·rcases h5 with rfl|⟨q,rfl,hq⟩
    ·exact .inl (.inr (.inl hj))
    ·cases hj;exact .inr hq
   ·exact .inl (.inr (.inr rfl)))
  have hist:i<st.length:=by omega
  have hitt:i<xa.length:=by omega
  have hgd:st.getD i Q.zeroV=st[i]:=by simp[List.getD_eq_getElem?_getD,hist]
  have htk:=QQ hitt;have hyl:ys.length=i:=by rw[Jaz _ _ _ _ _ h1,QB];omega
  have hI:Q.Init b w p1 (st.getD i Q.zeroV) xa[i]:=by have:=hN i st[i] xa[i] (Qd hist) (Qd hitt);rw[hgd];exact this
  have hgi:Q.grow*i<=Q.grow*cnt:=Nat.mul_le_mul_left _ (by omega);refine(hstep w g' i _ xa[i] _ p1 h4 h3 h2 hI hi (by omega)).mono ?_;rintro e w'⟨k4,hr⟩
  cases q:Q.f xa[i] p1 with
  | some r=>
   obtain⟨t',p2⟩:=r;rw[q]at hr;obtain⟨rfl,g2,x',k1,k2,k5,k3⟩:=hr;have f1:=H.like q;have f2:=H.len hI q;have hge:∀j,(j=b\/some j=g'\/j=gp)->b<=j:=λj hj=>by
    rcases hj with rfl|hj|rfl
    ·exact Ql _
    ·have:=(h2.own j hj.symm).1;omega
    ·have:=h3.high;omega
   refine .inl ⟨rfl,g2,xs++[x'],ys++[t'],p2,?_,by simp[hxl],k1,?_,?_,?_,?_,h5.trans k3 h6.size,hmono k4,h7.trans f1,by rw[Nat.mul_add];omega⟩
   ·rw[htk];exact Jjp _ _ _ _ _ _ _ _ h1 q
   ·have e:(xs++st.drop i).set i x'=xs++[x']++st.drop (i+1):=by
     rw[List.set_append_right _ _ (by omega),hxl,Nat.sub_self,List.drop_eq_getElem_cons hist,Qb,Qs];rfl
    rw[<-e];exact k2
   ·intro j x t a c
    by_cases hj:j<i
    ·rw[QF (by omega)]at a c;exact H.done_tch (hD j x t a c) k4 (λj h=>by
      rcases h with h|h|h
      ·exact .inl (by omega)
      ·exact .inr (.inl h)
      ·exact .inl (by omega)) k3
    ·have hji:j=i:=(by have:=(Qo.1 a).1;simp[hxl]at this;omega);subst hji;rw[Qz (by omega)]at a c;simp[hxl]at a;simp[hyl]at c;subst a c;exact k5
   ·intro j x t a c;exact H.init_tch (hN j x t a c) k4 hge f1
   ·exact h4.tch k4 (λj hj=>Qm hb12 (hge j hj))
  | none=>
   rw[q]at hr;obtain⟨v,rfl,k1,g2,p',k2,k3,k5⟩:=hr;obtain⟨tt,uu,rfl⟩:=k1.iface;refine .inr ⟨_,_,rfl,k1,?_,g2,p',k2,h5.trans k3 h6.size,hmono k4,k5⟩;have hsp:xa=xa.take i++xa[i]::xa.drop (i+1):=(by rw[<-List.drop_eq_getElem_cons hitt,List.take_append_drop]);rw[hsp];exact Jjq _ _ _ _ _ _ _ h1 q
def ToE(Inv:Nat->World->Prop)(Bad:Value->World->Prop)(n:Nat)(e:Ending)(w':World):Prop:=
 (e=.returned .nilIface/\Inv n w')\/∃p s v w1,e=.returned (.iface 235 (.pointer (some ⟨p,0,none⟩)))/\w'.heap[p]? =some (.cells #[.string s,v] 237)/\Bad v w1/\Below w1.heap.size w1 w'
def AftV(K:LK)(E:Nat->Addr)(b N gp cnt:Nat){α:Type}(Q:Ye α)(r:Option (List α×PS))(err:Value)(g':Option Nat)(p':PS)(w':World):Prop:=
 match r with
 | some (ys,p2)=>p'=p2/\err=.nilIface/\∃xs,YF K w' b g' N gp cnt xs/\ys.length=cnt/\(∀(j:Nat) x a,xs[j]? =some x->ys[j]? =some a->Q.Done w' (gp+1) g' x a)
 | none=>∃pp s v,err=.iface 235 (.pointer (some ⟨pp,0,none⟩))/\w'.heap[pp]? =some (.cells #[.string s,v] 237)/\Jp E 7 w' v
theorem Jei{K:LK}{w0:World}{wj:Nat}{Q:Ye α}{st:List VV}{xa:List α}{e:Ending}
 (h:ToE (InvV K E w0 b g wj N gp cnt Q st xa p) (BadV E w0 b g wj N gp Q xa p) cnt e w') (h0:YF K w0 b g N gp cnt st) (has:xa.length=cnt):
  ∃err g' p' v,e=.returned err/\(err=.nilIface\/∃t u,err=.iface t u)/\Jc w' b g' wj v p'/\Jm w0 g g'/\Tch (λk=>k=b\/some k=g\/k=gp) w0 w'/\w'.heap[N]? =some (.cells #[.pointer (some ⟨b,0,none⟩)] 230)/\w'.heap[gp+1]? =some (.cells #[.slice (some ⟨gp,0,none⟩) cnt cnt] K.tS)/\AftV K E b N gp cnt Q (PS.many Q.f xa p) err g' p' w':=by
 rcases h with⟨rfl,g',xs,ys,p1,a1,hxl,a2,a3,hD,_,a4,a5,a6,_⟩|⟨pp,s,v,w1,rfl,h3,⟨hv,hn,g',p',b1,b2,b3,b4⟩,hb⟩
 ·rw[QR (by omega)]at a1;have hle:=h0.len;have e2:st.drop cnt=[]:=List.drop_eq_nil_of_le (by omega);rw[e2,QC]at a3;refine⟨_,g',p1,_,rfl,.inl rfl,a2,a5,a6,a3.box0,a3.box2,?_⟩;rw[a1];exact⟨rfl,rfl,xs,a3,(Jaz _ _ _ _ _ a1).trans has,hD⟩
 ·have hk:Tch NoB w1 w':=(Tch.of_below hb).mono (λj hj=>.inr hj);have hh:=h0.high;have b3':=b3.trans hk noE;refine⟨_,g',p',_,rfl,.inr ⟨_,_,rfl⟩,b1.tch hk (λh=>h) (λ_ _ h=>h),b2,b3',(hk.block _ (Jb b4) (λh=>h)).trans b4,(b3'.block _ (Jb h0.box2) ?_).trans h0.box2,?_⟩
  ·rintro(e|e|e)
   ·omega
   ·exact h0.apart _ (by simp) e
   ·omega
  ·rw[hn];exact⟨pp,s,v,rfl,h3,hv.later hb⟩
def ToL(K:LK)(E:Nat->Addr)(w:World)(b:Nat)(g:Option Nat)(wj:Nat){α:Type}(Q:Ye α)(r:Option (List α×PS))(e:Ending)(w':World):Prop:=
 match r with
 | some (ys,p2)=>∃gp xs,e=.returned (.slice (some ⟨gp,0,none⟩) ys.length ys.length)/\w.heap.size<=gp/\w'.heap[gp]? =some (.cells (vvA xs) K.tE)/\xs.length=ys.length/\∃g',Jc w' b g' wj .nilIface p2/\some gp ≠ g'/\(∀(j:Nat) x a,xs[j]? =some x->ys[j]? =some a->Q.Done w' (gp+1) g' x a)/\Jm w g g'/\Tch (λk=>k=b\/some k=g) w w'
 | none=>(∃a n c,e=.returned (.slice a n c))/\Jbo E w w' b g wj
theorem Jgi{wj:Nat}{fP:FuncId}{Q:Ye α}{Shape:VV->Prop}(H:Ze E b wj lim fP Q Shape){l:List VV}{xa:List α}(hl:l.length=xa.length)(h:∀(j:Nat) x t,l[j]? =some x->xa[j]? =some t->Q.Init b w p x t):
  ∀(j:Nat) x t,(JK Q.zeroV l cnt)[j]? =some x->(JK Q.zero xa cnt)[j]? =some t->Q.Init b w p x t:=by
 intro j x t a c;unfold JK at a c;rw[hl]at a
 split at a
 ·rename_i h0;rw[if_pos h0]at c;simp[List.getElem?_replicate]at a c;obtain⟨_,rfl⟩:=a;obtain⟨_,rfl⟩:=c;exact H.init_zero w p
 ·rename_i h0;rw[if_neg h0]at c;exact h j x t a c
theorem Tch.allocs3(S:Nat->Prop)(w:World)(o o' o2:Obj):Tch S w (((w.alloc o).alloc o').alloc o2):=(Tch.allocs S w o o').trans (Ta S _ o2) (λ_ h=>.inl h)
theorem Jc.allocs3(h:Jc w b g wj err p)(o o' o2:Obj):Jc (((w.alloc o).alloc o').alloc o2) b g wj err p:=
 h.tch (Tch.allocs3 NoB w o o' o2) (λh=>h) (λ_ _ h=>h)
theorem Env.allocs3(h:Env E w)(o o' o2:Obj):Env E (((w.alloc o).alloc o').alloc o2):=h.tch (Tch.allocs3 NoB w o o' o2) noE
theorem JN(w:World)(o o' o2:Obj):(((w.alloc o).alloc o').alloc o2).heap[w.heap.size]? =some o:=(Below.heap_alloc _ o2 _ (by simp;omega)).trans (heap_alloc2_old w o o')
theorem JG(w:World)(o o' o2:Obj):(((w.alloc o).alloc o').alloc o2).heap[w.heap.size+1]? =some o':=(Below.heap_alloc _ o2 _ (by simp)).trans (heap_alloc2_new w o o')
theorem JH(w:World)(o o' o2:Obj):(((w.alloc o).alloc o').alloc o2).heap[w.heap.size+2]? =some o2:=by
 have:=Qf ((w.alloc o).alloc o') o2;simpa using this
theorem Jm.allocs3(h:Jm (((w.alloc o).alloc o').alloc o2) g g'):Jm w g g':=by
 rcases h with h|⟨i,h,hi⟩
 ·exact .inl h
 ·exact .inr ⟨i,h,by simp at hi;omega⟩
theorem Jbe(h:Jc w b g wj err p)(o o' o2:Obj)(hm:Jm (((w.alloc o).alloc o').alloc o2) g g')(k:Nat)(hk:w.heap.size<=k)(hk2:k<w.heap.size+3):¬(k=b\/some k=g'):=by
 rcases hm with rfl|⟨i,rfl,hi⟩
 ·exact Yk h k hk
 ·have h1:=h.lt;rintro(rfl|e)
  ·omega
  ·cases e;simp at hi;omega
theorem Jgp{K:LK}{w1:World}{g1:Option Nat}{p0:PS}{st:List VV}{z:VV}(hp:Jc w b g wj .nilIface p0)(hp1:Jc w1 b g1 wj .nilIface p)(hm:Jm (((w.alloc o).alloc o').alloc o2) g g1)(ht:Tch (λk=>k=b\/some k=g) (((w.alloc o).alloc o').alloc o2) w1)
 (r0:w1.heap[w.heap.size]? =some (.cells #[.pointer (some ⟨b,0,none⟩)] 230)) (r1:w1.heap[w.heap.size+2]? =some (.cells #[.func (.func K.fP) #[.pointer (some ⟨b,0,none⟩)] #[]] K.tF)) (hE:Env E w) (hb12:18<=b) (_hs:w.heap.size+1+1+1<=w1.heap.size) (hst:st.length=cnt):
  ∃W3,W3=((w1.alloc (.cells (vvA (List.replicate cnt z)) K.tE)).alloc (.cells #[.slice (some ⟨w1.heap.size,0,none⟩) cnt cnt] K.tS)).setRow w1.heap.size (vvA st)/\
   (YF K W3 b g1 w.heap.size w1.heap.size cnt st/\Jc W3 b g1 wj .nilIface p/\Env E W3/\Jm w g g1/\Tch (λk=>k=b\/some k=g) w W3/\Tch NoB w1 W3/\w1.heap.size<W3.heap.size):=by
 have hlt:=hp.lt;have tA:=Tch.allocs NoB w1 (.cells (vvA (List.replicate cnt z)) K.tE) (.cells #[.slice (some ⟨w1.heap.size,0,none⟩) cnt cnt] K.tS);have tB:=Ts ((w1.alloc (.cells (vvA (List.replicate cnt z)) K.tE)).alloc (.cells #[.slice (some ⟨w1.heap.size,0,none⟩) cnt cnt] K.tS)) w1.heap.size (vvA st);have t3:=tA.trans tB (λj hj=>.inr (by omega));have hE1:=(hE.allocs3 o o' o2).tch ht (JaS hb12 hp);have hown:=hp1.own;have l0:=(Jb r0)
 have l1:=(Jb r1)
 refine⟨_,rfl,⟨hst,(t3.block _ l0 (λh=>h)).trans r0,(t3.block _ l1 (λh=>h)).trans r1,?_,Qi _ _ _ _ _ _ (heap_alloc2_old _ _ _),⟨hlt,by omega⟩,?_⟩,hp1.tch t3 (λh=>h) (λ_ _ h=>h),hE1.tch t3 noE,hm.allocs3,((Tch.allocs3 _ w o o' o2).trans ht (λ_ h=>.inl h)).trans t3 noE,t3,by simp;omega⟩
 ·exact(tB.block _ (by simp) (by omega)).trans (heap_alloc2_new _ _ _)
 ·rintro k (rfl|rfl|rfl|rfl) e
  ·exact Jbe hp o o' o2 hm _ (Ql _) (by omega) (.inr e)
  ·exact Jbe hp o o' o2 hm _ (by omega) (by omega) (.inr e)
  ·have:=(hown _ e.symm).2;omega
  ·have:=(hown _ e.symm).2;omega

theorem Jdr(E:Nat->Addr)(b:Nat)(g:Option Nat)(wj:Int)(s:BA)(p:PS)(w:World)(hE:Env E w)(hp:Jc w b g wj .nilIface p):
  Calls prog 200 #[.pointer (some ⟨b,0,none⟩),.string s] w λe w'=>e=.returned (.tuple #[])/\Jc w' b g wj (.iface 235 (.pointer (some ⟨w.heap.size,0,none⟩))) p/\Jp E 7 w' (.iface 235 (.pointer (some ⟨w.heap.size,0,none⟩)))/\Tch (λk=>k=b) w w':=by
 have c2:=hp.errCell;have hform:=hE.form;have hlt:=hp.lt;obtain⟨d2,f2,q1,q2⟩:=XS (n:=0) (e':=.iface 235 (.pointer (some ⟨w.heap.size,0,none⟩))) (hp.tch (Ta NoB w (.cells #[.string s,eV E 7] 237)) (λh=>h) (λ_ _ h=>h));rw[World.drewN_zero]at d2 f2 q1 q2;have Q1:Hid _:=q1;have Q2:Hid _:=q2;have Q3:Hid (Tch NoB w (w.alloc (.cells #[.string s,eV E 7] 237))):=Ta _ _ _;have Q4:Hid ((w.alloc (.cells #[.string s,eV E 7] 237)).heap[w.heap.size]? =_):=Qf _ _;go_enter func200,ntmps200;go_wp2_with fail;refine(Xl s _ _ _).mono ?_;rintro _ w1⟨rfl,hw1⟩;rw[<-hw1]at d2 f2 Q1 Q2 Q3 Q4;clear hw1;go_wp2;refine bodyPost_end (v:=.tuple #[]) (results_none results200 _ _ _) rfl ⟨rfl,Q1,.wrap _ _ _ ((Q2.block _ (Jb Q4) (by omega)).trans Q4) .base,(Q3.mono noE).trans Q2 (λ_ h=>.inl h)⟩
theorem Jbj(b:Nat)(g:Option Nat)(wj:Int)(s:Value)(p:PS)(t:TypeId)(u:Value)(w:World)(hp:Jc w b g wj (.iface t u) p):
  Calls prog 200 #[.pointer (some ⟨b,0,none⟩),s] w λe w'=>e=.returned (.tuple #[])/\w=w':=by
 have c2:=hp.errCell;go_enter func200,ntmps200;go_wp2;exact bodyPost_end (v:=.tuple #[]) (results_none results200 _ _ _) rfl ⟨rfl,rfl⟩
