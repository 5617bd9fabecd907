import Derived.Test.YtighkdnooglfjaaGreatDoorQzIs
open Go renaming Calls->aB,Value->aG,World->aA
open Go.Ending renaming returned->aC
open Go.IntKind renaming i64->I,u64->aD,u8->aE,u64->lK
open Go.Obj renaming cells->T
open Go.Proofs.Tryz renaming prog->N
open Go.RowKit renaming Hid->J
open Go.Value renaming agg->aH,bool->aL,iface->aJ,int->O,nilIface->aK,pointer->X,slice->R,string->L,tuple->aI
open Option renaming none->Y,some->Z,map_some->lH,map_eq_some_iff->lJ
open Or renaming inl->aM,inr->aN
open Go.Builtin renaming copy_->lV
open List renaming replicate->lC,length_drop->lE,drop_eq_getElem_cons->lF,replicate_succ->lG,map_append->lI,length->lM,length_replicate->lN,nil_append->lO,range->lP,getElem?_map->lS,map_cons->lT,take_add->lU
open Nat renaming mul_le_mul->lQ,mul_add->lR,sub_self->lW,zero_add->lX
open UInt8 renaming toNat_lt->lD
set_option maxRecDepth 100000
set_option maxHeartbeats 2000000
namespace Go.Proofs.YtighkdnooglfjaaGreatDoor
open Tryz
open Go.RowKit

variable {cs:Array aG}{e:Ending}{K:LX}{ys:List (BA×Int)}{s:List UInt8}{d:List UInt8->BA}{l:List aG}{B B' b base gp i k least most n tE tS wj:Nat}{E:Nat->Addr}{F S:Nat->Prop}{o:Obj}{g g':Option Nat}{st:Option PS}{p p2:PS}{x:Sl}{t:Tr}{t':TxL}{α:Type}{aY:TypeId}{v:aG}{w w' w0 w1 w2 wA:aA}
def NewC(w:aA)(B:Nat)(g:Option Nat)(x:Sl)(ys:List (BA×Int)):Prop:=∃gp,x=(Z ⟨gp,0,Y⟩,ys.length,ys.length)/\B<=gp/\Z gp ≠ g/\w.heap[gp]? =Z (T (vvA (ys.map encC)) 49)
def NewO(w:aA)(B:Nat)(g:Option Nat)(x:Sl)(ys:List (Nat×Nat)):Prop:=∃gp,x=(Z ⟨gp,0,Y⟩,ys.length,ys.length)/\B<=gp/\Z gp ≠ g/\w.heap[gp]? =Z (T (vvA (ys.map encO)) 80)
theorem NewC.tch(h:NewC w B g x ys)(k:M S w w')(hs:∀j,S j->j<B\/Z j=g\/w.heap.size<=j)(hm:Jq w g g'):NewC w' B g' x ys:=by
 obtain⟨gp,h1,h2,h3,h4⟩:=h;have l:=(Jb h4)
 refine⟨gp,h1,h2,?_,(k.block gp l (λe=>by rcases hs gp e with e|e|e;omega;exact h3 e;omega)).trans h4⟩
 rcases hm with rfl|⟨i,rfl,hi⟩
 ·exact h3
 ·intro e;cases e;omega
theorem NewO.tch{ys:List (Nat×Nat)}(h:NewO w B g x ys)(k:M S w w')(hs:∀j,S j->j<B\/Z j=g\/w.heap.size<=j)(hm:Jq w g g'):NewO w' B g' x ys:=by
 obtain⟨gp,h1,h2,h3,h4⟩:=h;have l:=(Jb h4)
 refine⟨gp,h1,h2,?_,(k.block gp l (λe=>by rcases hs gp e with e|e|e;omega;exact h3 e;omega)).trans h4⟩
 rcases hm with rfl|⟨i,rfl,hi⟩
 ·exact h3
 ·intro e;cases e;omega
theorem NewC.mono(h:NewC w B g x ys)(hB:B'<=B):NewC w B' g x ys:=by
 obtain⟨gp,h1,h2,h3⟩:=h;exact⟨gp,h1,by omega,h3⟩
theorem NewO.mono{ys:List (Nat×Nat)}(h:NewO w B g x ys)(hB:B'<=B):NewO w B' g x ys:=by
 obtain⟨gp,h1,h2,h3⟩:=h;exact⟨gp,h1,by omega,h3⟩
theorem Jmm(E:Nat->Addr)(b:Nat)(Hc:18<=b)(g:Option Nat)(wj:Nat)(hw:wj<=1000)(what:BA)(v:aG)(l:List (BA×Int))(least most:Nat)(st:Option PS)(w:aA)
 (hE:Env E w) (hp:Jg E w b g wj st) (hv:JG b w v l) (kq:what.size<=1000) (yL:l.length<1000000) (qY:most<=3) (xM:∀p,st=Z p->p.takes v) (hd:JP st<=70000000):
  aB N 202 #[X (Z ⟨b,0,Y⟩),aH #[L what,O I ((1:Nat):Int),O aD (least:Int),O aD (most:Int)],v,.func (.func 203) #[X (Z ⟨b,0,Y⟩)] #[]] w λe w'=>∃(x:Sl)(g':Option Nat),e=aC (R x.1 x.2.1 x.2.2)/\Jg E w' b g' wj ((st.bind (PS.listC wj least most l)).map (·.2))/\Jq w g g'/\M (λk=>k=b\/Z k=g) w w'/\∀ys p2,st.bind (PS.listC wj least most l)=Z (ys,p2)->NewC w' w.heap.size g' x ys:=by
 cases st with
 | none=>
  obtain⟨p,t,u,h1,h2⟩:=hp;obtain⟨ia,ic,Hx⟩:=hv.shape;refine(Joh b g wj what kq 1 least most v ia _ ic Hx p t u w h1).mono ?_;rintro e w'⟨rfl,h3,h4⟩;exact⟨(Y,0,0),g,rfl,⟨p,t,u,h3,h2.tch h4 (λ_ _ _ _ h=>h)⟩,aM rfl,h4.mono noE,λys p2 h=>by simp at h⟩
 | some p=>
  refine(JkD E b Hc g wj hw what v l least most p w hE hp hv kq yL qY (xM p rfl) hd).mono ?_;intro e w' h;obtain⟨xa,xn,xc,rfl⟩:=h.shape;simp only[Qu]
  cases hq:p.listC wj least most l with
  | none=>
   rw[hq]at h;obtain⟨_,g',p',vv,h1,h2,h3,h4⟩:=h;obtain⟨t,u,rfl⟩:=h2.iface;exact⟨(xa,xn,xc),g',rfl,⟨p',t,u,h1,h2⟩,h3,h4,λys p2 h=>by simp at h⟩
  | some r=>
   obtain⟨ys,p2⟩:=r;rw[hq]at h;obtain⟨gp,he,h1,h2,g',h3,h4,h5,h6⟩:=h
   cases he
   refine⟨(_,_,_),g',rfl,h3,h5,h6,λzs p3 hz=>?_⟩;simp only[Qh,Qw]at hz;obtain⟨rfl,rfl⟩:=hz;exact⟨gp,rfl,h1,h4,h2⟩
theorem Jmn(E:Nat->Addr)(b:Nat)(Hc:18<=b)(g:Option Nat)(wj:Nat)(what:BA)(v:aG)(l:List (Nat×Nat))(least most:Nat)(st:Option PS)(w:aA)
 (hE:Env E w) (hp:Jg E w b g wj st) (hv:Jr b w v l) (kq:what.size<=1000) (yL:l.length<1000000) (qY:most<=3) (xM:∀p,st=Z p->p.takes v) (ho:∀x∈l,x.2<256) (hd:JP st<=70000000):
  aB N 204 #[X (Z ⟨b,0,Y⟩),aH #[L what,O I ((1:Nat):Int),O aD (least:Int),O aD (most:Int)],v,.func (.func 205) #[X (Z ⟨b,0,Y⟩)] #[]] w λe w'=>∃(x:Sl)(g':Option Nat),e=aC (R x.1 x.2.1 x.2.2)/\Jg E w' b g' wj ((st.bind (PS.listO least most l)).map (·.2))/\Jq w g g'/\M (λk=>k=b\/Z k=g) w w'/\∀ys p2,st.bind (PS.listO least most l)=Z (ys,p2)->NewO w' w.heap.size g' x ys:=by
 cases st with
 | none=>
  obtain⟨p,t,u,h1,h2⟩:=hp;obtain⟨ia,ic,Hx⟩:=hv.shape;refine(Jom b g wj what kq 1 least most v ia _ ic Hx p t u w h1).mono ?_;rintro e w'⟨rfl,h3,h4⟩;exact⟨(Y,0,0),g,rfl,⟨p,t,u,h3,h2.tch h4 (λ_ _ _ _ h=>h)⟩,aM rfl,h4.mono noE,λys p2 h=>by simp at h⟩
 | some p=>
  refine(Jfr E b Hc g wj what v l least most p w hE hp hv kq yL qY (xM p rfl) ho hd).mono ?_;intro e w' h;obtain⟨xa,xn,xc,rfl⟩:=h.shape;simp only[Qu]
  cases hq:p.listO least most l with
  | none=>
   rw[hq]at h;obtain⟨_,g',p',vv,h1,h2,h3,h4⟩:=h;obtain⟨t,u,rfl⟩:=h2.iface;exact⟨(xa,xn,xc),g',rfl,⟨p',t,u,h1,h2⟩,h3,h4,λys p2 h=>by simp at h⟩
  | some r=>
   obtain⟨ys,p2⟩:=r;rw[hq]at h;obtain⟨gp,he,h1,h2,g',h3,h4,h5,h6⟩:=h
   cases he
   refine⟨(_,_,_),g',rfl,h3,h5,h6,λzs p3 hz=>?_⟩;simp only[Qh,Qw]at hz;obtain⟨rfl,rfl⟩:=hz;exact⟨gp,rfl,h1,h4,h2⟩
theorem Jmv(f:α->PS->Option (α×PS))(n:Nat)(hf:∀a p a' p',f a p=Z (a',p')->p'.len<=p.len+n)(l:List α):∀(p p1:PS)(ys:List α),PS.many f l p=Z (ys,p1)->p1.len<=p.len+n*l.length:=by
 induction l with
 | nil=>intro p p1 ys h;simp[PS.many]at h;rw[<-h.2];simp
 | cons z l ih=>
  intro p p1 ys h;simp only[PS.many]at h
  cases q:f z p with
  | none=>simp[q]at h
  | some r=>
   obtain⟨r1,r2⟩:=r;simp only[q]at h
   cases q2:PS.many f l r2 with
   | none=>simp[q2]at h
   | some s=>
    obtain⟨s1,s2⟩:=s;simp only[q2,Qh,Qw]at h;obtain⟨rfl,rfl⟩:=h;have h1:=hf _ _ _ _ q;have h2:=ih _ _ _ q2;rw[Qp,lR];omega
theorem JcE{f:α->PS->Option (α×PS)}{z:α}{size:Nat}(hf:∀a p a' p',f a p=Z (a',p')->p.like p'/\p'.len<=p.len+n){l:List α}{ys:List α}(ht:p.takes v)(hv:v=R Y 0 0->l=[])(h:p.lst f z size least most l=Z (ys,p2)):
  p.like p2/\least<=ys.length/\ys.length<=most/\p2.len<=p.len+size+n*ys.length:=by
 unfold PS.lst at h
 split at h
 ·cases h
 ·rename_i cnt p1 q1
  split at h
  ·cases h
  ·rename_i hr;have e1:=JaU _ _ _ _ _ h;have e2:(Jw z l cnt).length=cnt:=by
    unfold Jw
    split
    ·simp
    ·rename_i hl
     rcases Jfu ht q1 with e|e
     ·exact absurd (by rw[hv e];rfl) hl
     ·exact e
   have e3:=Jmv f n (λa p a' p' h=>(hf a p a' p' h).2) _ _ _ _ h;have e4:=ZP _ _ _ _ _ q1;refine⟨(Yn q1).trans (JcF f (λa p a' p' h=>(hf a p a' p' h).1) _ _ _ _ h),by omega,by omega,?_⟩;rw[e1];omega
theorem Jc4{l:List (BA×Int)}(hv:JG B w v l)(ht:p.takes v)(h:p.listC wj least most l=Z (ys,p2)):
  p.like p2/\least<=ys.length/\ys.length<=most/\p2.len<=p.len+1+(wj+1)*ys.length:=by
 rw[<-Jmr]at h;exact JcE (λa p a' p' h=>Jas h) ht (λe=>by rcases hv with⟨_,h⟩|⟨_,_,_,h,_⟩;exact h;rw[h]at e;cases e) h
theorem Jfv{a:Nat×Nat}{y:Nat×Nat}(h:p.out a.1 a.2=Z (y,p2)):p.like p2/\p2.len<=p.len+9:=by
 obtain⟨p1,h1,h2,h3,h4,h5⟩:=Jb8 _ _ _ _ _ h;exact⟨(Yn h1).trans (Yn h2),h4⟩
theorem JaT{l ys:List (Nat×Nat)}(hv:Jr B w v l)(ht:p.takes v)(h:p.listO least most l=Z (ys,p2)):
  p.like p2/\least<=ys.length/\ys.length<=most/\p2.len<=p.len+1+9*ys.length:=by
 rw[<-Jms]at h;exact JcE (λa p a' p' h=>Jfv h) ht (λe=>by rcases hv with⟨_,h⟩|⟨_,_,_,h,_⟩;exact h;rw[h]at e;cases e) h
structure Jbn(b:Nat)(w:aA)(p:PS)(x:Sl×Sl)(t:TxL):Prop where
 coins:JG b w (R x.1.1 x.1.2.1 x.1.2.2) t.1
 outs:Jr b w (R x.2.1 x.2.2.1 x.2.2.2) t.2
 few1:t.1.length<1000000
 few2:t.2.length<1000000
 takes1:p.takes (R x.1.1 x.1.2.1 x.1.2.2)
 takes2:p.takes (R x.2.1 x.2.2.1 x.2.2.2)
 small:∀o∈t.2,o.2<256
theorem Jbn.tch{p':PS}{x:Sl×Sl}{t:TxL}(h:Jbn b w p x t)(k:M S w w')(hs:∀j,S j->b<=j)(hl:p.like p'):Jbn b w' p' x t:=
 ⟨h.coins.tch k hs,h.outs.tch k hs,h.few1,h.few2,hl.takes h.takes1,hl.takes h.takes2,h.small⟩
def JgD(w:aA)(B:Nat)(g:Option Nat)(x:Sl×Sl)(t:TxL):Prop:=NewC w B g x.1 t.1/\NewO w B g x.2 t.2
def encT(x:Sl×Sl):VV:=(R x.1.1 x.1.2.1 x.1.2.2,R x.2.1 x.2.2.1 x.2.2.2)
theorem Jh7{x:Sl×Sl}{t:TxL}(hw:wj<=32)(hI:Jbn b w p x t)(h:p.tx wj t=Z (t',p2)):p.like p2/\p2.len<=p.len+200/\t'.1.length<=3/\t'.2.length<=3:=by
 unfold PS.tx at h
 split at h
 ·cases h
 ·rename_i ys p1 q1;obtain⟨k1,_,k2,k3⟩:=Jc4 hI.coins hI.takes1 q1
  split at h
  ·cases h
  ·rename_i zs p3 q2;obtain⟨m1,_,m2,m3⟩:=JaT hI.outs (k1.takes hI.takes2) q2;simp only[Qh,Qw]at h;obtain⟨rfl,rfl⟩:=h;have:(wj+1)*ys.length<=33*3:=lQ (by omega) k2;exact⟨k1.trans m1,by omega,k2,m2⟩

theorem Jnu(E:Nat->Addr)(b:Nat)(Hc:18<=b)(g:Option Nat)(wj:Nat)(hw:wj<=32)(x:Sl×Sl)(t:TxL)(p:PS)(w:aA)(hE:Env E w)(hp:Jd w b g wj aK p)(hI:Jbn b w p x t)(hd:p.len<=60000000):
  aB N 134 #[X (Z ⟨b,0,Y⟩),aH #[R x.1.1 x.1.2.1 x.1.2.2,R x.2.1 x.2.2.1 x.2.2.2]] w λe w'=>∃(y:Sl×Sl)(g':Option Nat),e=aC (aH #[R y.1.1 y.1.2.1 y.1.2.2,R y.2.1 y.2.2.1 y.2.2.2])/\Jg E w' b g' wj ((p.tx wj t).map (·.2))/\Jq w g g'/\M (λk=>k=b\/Z k=g) w w'/\∀t' p2,p.tx wj t=Z (t',p2)->JgD w' w.heap.size g' y t':=by
 obtain⟨⟨x1,x2,x3⟩,y1,y2,y3⟩:=x;obtain⟨jq,kW,j5,jk,H6,(H4:J _),(HO:J _)⟩:=hI;simp only at jq kW H6 H4;have H5:=hp.lt;have vF:∀(fn:Fn)(first cap:Array aG)(w:aA),(Instr.makeFunc fn first cap).run N w=.ok (.func fn first cap) w:=λ_ _ _ _=>rfl;have tA:=M.allocs D w (T #[R x1 x2 x3,R y1 y2 y3] 98) (T #[R Y 0 0,R Y 0 0] 98);have xZ:J (∀what:BA,what.size<=1000->_):=λwhat kq=>Jmm E b Hc g wj (by omega) what (R x1 x2 x3) t.1 1 3 (Z p) _ (hE.tch tA noE) (hp.tch tA (λh=>h) (λ_ _ h=>h)) (jq.tch tA noE) kq j5 (by omega) (λq hq=>by cases hq;exact H6) (by simp only[JP];omega);have kz:J (Jr b w (R y1 y2 y3) t.2):=kW;have HE:J (Env E w):=hE;have HP:J (Jd w b g wj aK p):=hp;have HF:J (∀ys p1,p.listC wj 1 3 t.1=Z (ys,p1)->p.like p1/\p1.len<=p.len+200):=λys p1 h=>by
  obtain⟨k1,_,k2,k3⟩:=Jc4 jq H6 h;have:(wj+1)*ys.length<=33*3:=lQ (by omega) k2;exact⟨k1,by omega⟩
 clear jq kW hE hp H6 tA;go_enter func134,ntmps134;go_wp2_with fail;refine(xZ _ (by decide)).mono ?_;rintro _ w1⟨⟨a1,a2,a3⟩,g1,rfl,Hs,js,H6,(HN1:J _)⟩;have c2:=(H6.cell (p:=⟨w.heap.size,1,Y⟩) (by simp;omega) (Yo HP _ (Ql _))).trans (Ja (heap_alloc2_old _ _ _));have rR:=(H6.block _ (by simp) (Yo HP _ (by omega))).trans (heap_alloc2_new _ _ _);have rj:=H6.size;simp at rj;have hS:∀j,(j=b\/Z j=g)->b<=j:=by
  rintro j (rfl|hj)
  ·exact Ql _
  ·have:=(HP.o.own j hj.symm).1;omega
 have HPS:J (Jg E w b g wj (Z p)):=HP.o;have HN:J (∀g',Jq w1 g1 g'->¬(w.heap.size+1=b\/Z (w.heap.size+1)=g')):=λg' hm=>Jck HPS.o (js.trans hm H6.size) _ (by omega) (by simp);simp only[Qu]at Hs HN1;have vS:J (∀what:BA,what.size<=1000->_):=λwhat kq=>Jmn E b Hc g1 wj what (R y1 y2 y3) t.2 0 3 _ w1 ((HE.o.tch (M.allocs D w _ _) noE).tch H6 (Jbi Hc HP.o)) Hs ((kz.o.tch (M.allocs D w _ _) noE).tch H6 hS) kq jk (by omega) (λq hq=>by
   cases hl:p.listC wj 1 3 t.1 with
   | none=>rw[hl]at hq;cases hq
   | some r=>
    obtain⟨ys,p1⟩:=r;rw[hl]at hq
    cases hq
    exact(HF _ _ hl).1.takes H4) HO (by
   cases hl:p.listC wj 1 3 t.1 with
   | none=>simp[JP]
   | some r=>
    obtain⟨ys,p1⟩:=r;have:=(HF _ _ hl).2;simp only[lH,JP];omega)
 have RR:J _:=rR;have jO:J (Jq _ _ _):=js;have H3:J (M _ _ _):=H6;clear rR js H6 Hs xZ hS;go_wp2_with fail;refine(vS _ (by decide)).mono ?_;rintro _ w2⟨⟨b1,b2,b3⟩,g2,rfl,kJ,kn,(dS:J _),(ar:J _)⟩;have rR2:=(dS.block _ (by omega) (HN g1 (aM rfl))).trans RR.out;obtain⟨e0,e1⟩:=rows rR2;have fR:∀j,w2.frozen? ⟨w.heap.size+1,j,Y⟩=false:=λj=>Qg _ _ _ _ _ rR2;have RR2:J (_=_):=rR2;have Hw:J (Jg _ _ _ _ _ _):=kJ;have mO:J (Jq _ _ _):=kn;clear rR2 kJ kn vS;go_wp2;rw[set2 _ _ _ _ _ _ _ RR2.out];refine QK (v:=aH #[R a1 a2 a3,R b1 b2 b3]) (Qq results134 _ _ (w.heap.size+1) _ _ (0,0) _ rfl (Qi w2 _ _ _ _ _ RR2) underlying98 rfl (by kernel_rfl)) rfl ⟨((a1,a2,a3),(b1,b2,b3)),g2,rfl,?_,?_,?_,?_⟩
 ·have kE:((((p.listC wj 1 3 t.1).map (·.2)).bind (PS.listO 0 3 t.2)).map (·.2))=(p.tx wj t).map (·.2):=by
   unfold PS.tx
   cases p.listC wj 1 3 t.1 with
   | none=>rfl
   | some r=>
    obtain⟨ys,p1⟩:=r;simp only[lH,Qu]
    cases p1.listO 0 3 t.2<;>rfl
  have:=Hw.o;rw[kE]at this;exact this.row RR2.out (by decide) (HN.o g2 mO.o)
 ·have:=jO.o.trans mO H3.size
  rcases this with h|⟨i,h,hi⟩
  ·exact aM h
  ·exact aN ⟨i,h,by simp at hi;omega⟩
 ·exact((M.allocs _ w _ _).trans (Yx H3 dS jO) (λ_ h=>aM h)).trans (Ts w2 (w.heap.size+1) _) (λj hj=>aN (by omega))
 ·intro t' p2 h;unfold PS.tx at h
  cases hl:p.listC wj 1 3 t.1 with
  | none=>rw[hl]at h;cases h
  | some r=>
   obtain⟨ys,p1⟩:=r;rw[hl]at h;simp only at h;have k1:=HN1 ys p1 hl;have k2:=ar.o;rw[hl]at k2;simp only[lH,Qu]at k2
   cases jk:p1.listO 0 3 t.2 with
   | none=>rw[jk]at h;cases h
   | some r=>
    obtain⟨zs,p3⟩:=r;rw[jk]at h
    cases h
    have tR:=Ts w2 (w.heap.size+1) #[R a1 a2 a3,R b1 b2 b3];refine⟨?_,?_⟩
    ·refine NewC.mono (NewC.tch (NewC.tch k1 dS (λj h=>?_) mO) tR (λj h=>aM (by simp;omega)) (aM rfl)) (by simp;omega)
     rcases h with h|h
     ·exact aM (by simp;omega)
     ·exact aN (aM h)
    ·exact NewO.mono (NewO.tch (k2 _ _ jk) tR (λj h=>aM (by omega)) (aM rfl)) (by omega)
def Jai(wj:Nat):XY TxL where
 f:=λt p=>p.tx wj t
 grow:=200
 zero:=([],[])
 zeroV:=zT
 Init:=λb w p x t=>∃y:Sl×Sl,x=encT y/\Jbn b w p y t
 Done:=λw B g x t=>∃y:Sl×Sl,x=encT y/\JgD w B g y t
theorem Jj1{t:TxL}(h:p.tx wj t=Z (t',p2)):p.like p2:=by
 unfold PS.tx at h
 split at h
 ·cases h
 ·rename_i ys p1 q1
  split at h
  ·cases h
  ·rename_i zs p3 q2
   cases h
   rw[<-Jmr]at q1;rw[<-Jms]at q2;unfold PS.lst at q1 q2
   split at q1
   ·cases q1
   ·rename_i h1
    split at q1
    ·cases q1
    ·split at q2
     ·cases q2
     ·rename_i h2
      split at q2
      ·cases q2
      ·exact(((Yn h1).trans (JcF _ (λa p a' p' h=>(Jas h).1) _ _ _ _ q1)).trans (Yn h2)).trans (JcF _ (λa p a' p' h=>(Jfv h).1) _ _ _ _ q2)
theorem lawT(E:Nat->Addr)(b:Nat)(Hc:18<=b)(wj lim:Nat)(hw:wj<=32)(hl:lim<=60000000):Zh E b wj lim lkT.fP (Jai wj) ShT where
 init_tch:=λ⟨y,h1,h2⟩ k hs hl=>⟨y,h1,h2.tch k hs hl⟩
 init_zero:=λ_ _=>⟨((Y,0,0),(Y,0,0)),rfl,aM ⟨rfl,rfl⟩,aM ⟨rfl,rfl⟩,by simp[Jai],by simp[Jai],λ_ _ _=>rfl,λ_ _ _=>rfl,λo ho=>by simp[Jai]at ho⟩
 init_shape:=λ⟨y,h1,_⟩=>⟨y.1,y.2,h1⟩
 done_tch:=λ⟨y,h1,h2,h3⟩ k hs hm=>⟨y,h1,h2.tch k hs hm,h3.tch k hs hm⟩
 done_mono:=λ⟨y,h1,h2,h3⟩ hB=>⟨y,h1,h2.mono hB,h3.mono hB⟩
 like:=λh=>Jj1 h
 len:=λ⟨y,_,hI⟩ h=>(Jh7 hw hI h).2.1
 call:=λ{w g p x a} hE hp hI hd=>by
  obtain⟨y,rfl,hI⟩:=hI;refine(Jnu E b Hc g wj hw y a p w hE hp hI (by omega)).mono ?_;rintro e w'⟨z,g',rfl,k1,k2,k3,k4⟩;refine⟨encT z,⟨z.1,z.2,rfl⟩,rfl,?_⟩;show ToP E w b g wj (Jai wj) (p.tx wj a) _ w'
  cases h:p.tx wj a with
  | none=>
   rw[h]at k1;obtain⟨p',t,u,h1,h2⟩:=k1;exact⟨g',_,p',h1,k2,k3,h2⟩
  | some r=>
   obtain⟨t',p2⟩:=r;rw[h]at k1;exact⟨g',_,p2,k1,k2,k3,rfl,rfl,z,rfl,k4 t' p2 h⟩
theorem Jho(wj:Nat):∀(l:List TxL)(p:PS),PS.many (Jai wj).f l p=PS.txs wj l p
 | [],_=>rfl
 | x::r,p=>by
  simp only[PS.many,PS.txs];have e:(Jai wj).f x p=p.tx wj x:=rfl;rw[e]
  cases p.tx wj x with
  | none=>rfl
  | some q=>simp only[Jho wj r];cases PS.txs wj r q.2<;>rfl
theorem Jnh(l:List TxL)(cnt:Nat):Jw ([],[]) l cnt=Zq l cnt:=by
 unfold Jw Zq
 cases l<;>simp
theorem Jqu(wj:Nat)(l:List TxL)(p:PS):p.lst (Jai wj).f (Jai wj).zero 1 0 3 l=p.body wj l:=by
 unfold PS.lst PS.body
 cases p.num l.length 1 with
 | none=>rfl
 | some r=>
  simp only[Jho,<-Jnh,Nat.not_lt_zero,false_or];rfl
theorem Xa.vat{l:List (Sl×Sl)}(h:Xa B w v l):VAt B w v (l.map encT):=by
 rcases h with⟨h1,h2⟩|⟨gi,oi,c,h1,h2,h3,h4⟩
 ·exact aM ⟨h1,by rw[h2];rfl⟩
 ·exact aN ⟨gi,oi,c,by rw[QM];exact h1,h2,h3,λi hi=>by
   rw[List.getElem_map];exact h4 i (by simpa using hi)⟩
def ToB(E:Nat->Addr)(w:aA)(b:Nat)(g:Option Nat)(wj:Nat)(r:Option (List TxL×PS))(e:Ending)(w':aA):Prop:=
 ∃(x:Sl)(g':Option Nat),e=aC (R x.1 x.2.1 x.2.2)/\Jg E w' b g' wj (r.map (·.2))/\Jq w g g'/\M (λk=>k=b\/Z k=g) w w'/\
  ∀ts p2,r=Z (ts,p2)->∃(gp:Nat)(zs:List (Sl×Sl)),x=(Z ⟨gp,0,Y⟩,ts.length,ts.length)/\w.heap.size<=gp/\Z gp ≠ g'/\w'.heap[gp]? =Z (T (vvA (zs.map encT)) 98)/\zs.length=ts.length/\∀(j:Nat) z t,zs[j]? =Z z->ts[j]? =Z t->JgD w' w.heap.size g' z t
theorem ToB.of{r:Option (List TxL×PS)}(h:ToL lkT E w b g wj (Jai wj) r e w'):ToB E w b g wj r e w':=by
 cases r with
 | none=>
  obtain⟨⟨x1,x2,x3,rfl⟩,g',p',v,h1,h2,h3,h4⟩:=h;obtain⟨t,u,rfl⟩:=h2.iface;exact⟨(x1,x2,x3),g',rfl,⟨p',t,u,h1,h2⟩,h3,h4,λts p2 h=>by cases h⟩
 | some r=>
  obtain⟨ys,p2⟩:=r;obtain⟨gp,xs,rfl,h2,h3,h4,g',h5,h6,h7,h8,h9⟩:=h;refine⟨(Z ⟨gp,0,Y⟩,ys.length,ys.length),g',rfl,h5,h8,h9,λts p3 h=>?_⟩;simp only[Qh,Qw]at h;obtain⟨rfl,rfl⟩:=h;have hz:∃zs:List (Sl×Sl),xs=zs.map encT/\∀(j:Nat) z t,zs[j]? =Z z->ys[j]? =Z t->JgD w' w.heap.size g' z t:=by
   have key:∀(xs:List VV)(ys:List TxL),xs.length=ys.length->(∀(j:Nat) x a,xs[j]? =Z x->ys[j]? =Z a->(Jai wj).Done w' (gp+1) g' x a)->∃zs:List (Sl×Sl),xs=zs.map encT/\∀(j:Nat) z t,zs[j]? =Z z->ys[j]? =Z t->JgD w' w.heap.size g' z t:=by
    intro xs
    induction xs with
    | nil=>intro ys _ _;exact⟨[],rfl,λj z t h=>by simp at h⟩
    | cons x xs ih=>
     intro ys hl h
     cases ys with
     | nil=>simp at hl
     | cons y ys=>
      obtain⟨zs,e,qU⟩:=ih ys (by simpa using hl) (λj x a h1 h2=>h (j+1) x a (by simpa using h1) (by simpa using h2));obtain⟨z,ez,hz⟩:=h 0 x y rfl rfl;refine⟨z::zs,by rw[e,ez];rfl,λj z' t h1 h2=>?_⟩
      cases j with
      | zero=>simp at h1 h2;subst h1 h2;exact⟨hz.1.mono (by omega),hz.2.mono (by omega)⟩
      | succ j=>exact qU j z' t (by simpa using h1) (by simpa using h2)
   exact key xs ys h4 h7
  obtain⟨zs,rfl,qU⟩:=hz;exact⟨gp,zs,rfl,h2,h6,h3,by simpa using h4,qU⟩
theorem JkE(E:Nat->Addr)(b:Nat)(Hc:18<=b)(g:Option Nat)(wj:Nat)(hw:wj<=32)(what:BA)(kq:what.size<=1000)(v:aG)(l:List (Sl×Sl))(ts:List TxL)(p0:PS)(w:aA)
 (hE:Env E w) (hp:Jd w b g wj aK p0) (hv:Xa b w v l) (hl:l.length=ts.length) (yL:ts.length<1000000) (xM:p0.takes v) (ku:∀(j:Nat) x t,l[j]? =Z x->ts[j]? =Z t->Jbn b w p0 x t) (hd:p0.len<=50000000):
  aB N 133 #[X (Z ⟨b,0,Y⟩),aH #[L what,O I 1,O aD 0,O aD 3],v,.func (.func 134) #[X (Z ⟨b,0,Y⟩)] #[]] w λe w'=>ToB E w b g wj (p0.body wj ts) e w':=by
 obtain⟨lim,ur,hlaw⟩:∃lim,lim=60000000/\Zh E b wj lim lkT.fP (Jai wj) ShT:=⟨_,rfl,lawT E b Hc wj 60000000 hw (by omega)⟩
 have sH:(Jai wj).grow=200:=rfl;rw[<-Jqu];exact(Joo hlaw rfl Hc g what kq 1 0 3 v (l.map encT) ts p0 w hE hp (hv.vat.up (Nat.le_of_lt hp.lt)) (hv.vat.free hp) (by simpa using hl) yL (by rw[sH];omega) (by omega) (by omega) (by omega) xM (λj x a h1 h2=>by
  rw[lS]at h1
  cases hz:l[j]? with
  | none=>rw[hz]at h1;cases h1
  | some z=>rw[hz]at h1;cases h1;exact⟨z,rfl,ku j z a hz h2⟩)).mono λe w' h=>ToB.of h
theorem JdE(E:Nat->Addr)(b:Nat)(Hc:18<=b)(g:Option Nat)(wj:Nat)(hw:wj<=32)(v:aG)(l:List (Sl×Sl))(ts:List TxL)(p0:PS)(w:aA)
 (hE:Env E w) (hp:Jd w b g wj aK p0) (hv:Xa b w v l) (hl:l.length=ts.length) (yL:ts.length<1000000) (xM:p0.takes v) (ku:∀(j:Nat) x t,l[j]? =Z x->ts[j]? =Z t->Jbn b w p0 x t) (hd:p0.len<=50000000):
  aB N 78 #[X (Z ⟨b,0,Y⟩),v] w λe w'=>ToB E w b g wj (p0.body wj ts) e w':=by
 obtain⟨ia,ic,Hx⟩:=hv.shape;have vF:∀(fn:Fn)(first cap:Array aG)(w:aA),(Instr.makeFunc fn first cap).run N w=.ok (.func fn first cap) w:=λ_ _ _ _=>rfl;have HL:J (∀what:BA,what.size<=1000->_):=λwhat kq=>JkE E b Hc g wj hw what kq v l ts p0 w hE hp hv hl yL xM ku hd;clear hE hp hv xM ku hl;subst Hx;go_enter func78,ntmps78;go_wp2_with fail;refine(HL.o _ (by decide)).mono ?_;clear HL;rintro e w1⟨⟨x1,x2,x3⟩,g1,rfl,h⟩;have HH:J (Jg _ _ _ _ _ _/\_):=h;clear h;go_wp2;go_ret;exact⟨(x1,x2,x3),g1,rfl,HH.o⟩

structure Run(E:Nat->Addr)(w0 wA w:aA)(b:Nat)(g g':Option Nat)(wj:Int)(st:Option PS):Prop where
 port:Jg E w b g' wj st
 moved:Jq wA g g'
 tch:M (λk=>k=b\/Z k=g) wA w
 env:Env E w
 k12:18<=b
 low:b<w0.heap.size
 own:∀k,g=Z k->b<k/\k<w0.heap.size
 new:M D w0 wA
theorem Run.start{wj:Int}(ri:18<=b)(hE:Env E w0)(hp:Jg E w0 b g wj st)(k:M D w0 wA):Run E w0 wA wA b g g wj st:=
 ⟨hp.next k,aM rfl,Te _ _,hE.tch k noE,ri,hp.lt,hp.own,k⟩
theorem Run.step{wj:Int}{st':Option PS}(h:Run E w0 wA w b g g' wj st)(k:StTo E w w' b g' wj st'):∃g'',Run E w0 wA w' b g g'' wj st':=by
 obtain⟨g2,k1,k2,k3⟩:=k;exact⟨g2,k1,h.moved.trans k2 h.tch.size,Yx h.tch k3 h.moved,h.env.tch k3 (Jcj h.k12 h.port),h.k12,h.low,h.own,h.new⟩
theorem Run.box{wj:Int}(h:Run E w0 wA w b g g' wj st)(hk:w0.heap.size<=k)(hA:wA.heap[k]? =Z o):w.heap[k]? =Z o/\¬(k=b\/Z k=g'):=by
 have hl:=(Jb hA)
 have h1:=h.low;refine⟨(h.tch.block k hl ?_).trans hA,?_⟩
 ·rintro(e|e)
  ·omega
  ·have:=(h.own k e.symm).2;omega
 ·rcases h.moved with e|⟨i,e,hi⟩
  ·rw[e];rintro(e|e)
   ·omega
   ·have:=(h.own k e.symm).2;omega
  ·rw[e];rintro(e|e)
   ·omega
   ·cases e;omega
theorem Run.to{wj:Int}(h:Run E w0 wA w b g g' wj st):StTo E w0 w b g wj st:=
 StTo.fresh h.new ⟨g',h.port,h.moved,h.tch⟩
theorem Run.done{wj:Int}(h:Run E w0 wA w b g g' wj st){cur:Array aG}(hk:w0.heap.size<=k)(hA:wA.heap[k]? =Z (T cur aY))(hT:aY ≠ 237):StTo E w0 (w.setRow k cs) b g wj st:=by
 obtain⟨h1,h2⟩:=h.box hk hA;obtain⟨g2,k1,k2,k3⟩:=h.to;have hg:g2=g':=k1.same h.port;subst hg;exact⟨g2,k1.row h1 hT h2,k2,k3.trans (Ts w k cs) (λj hj=>aN (by omega))⟩
theorem set4(w:aA)(g:Nat)(t:TypeId)(a b c d v0 v1 v2 v3:aG)(h:w.heap[g]? =Z (T #[a,b,c,d] t (0,0))):
  (((w.setCell ⟨g,0,Y⟩ v0).setCell ⟨g,1,Y⟩ v1).setCell ⟨g,2,Y⟩ v2).setCell ⟨g,3,Y⟩ v3=w.setRow g #[v0,v1,v2,v3]:=by
 rw[Qj w g 0 _ t (0,0) v0 h,Qj _ g 1 _ t (0,0) v1 (Qi _ _ _ _ _ _ h),QI,
  Qj _ g 2 _ t (0,0) v2 (Qi _ _ _ _ _ _ h),QI,Qj _ g 3 _ t (0,0) v3 (Qi _ _ _ _ _ _ h),QI]
 refine congrArg (w.setRow g) ?_;simp
def ZK(wj:Nat)(h:HdL)(st:Option PS):(Nat×List UInt8×List UInt8×List UInt8)×Option PS:=
 let r0:=JF h.1 4 st
 let r1:=Jk h.2.1.data.toList wj r0.2
 let r2:=Jk h.2.2.1.data.toList wj r1.2
 let r3:=Jk h.2.2.2.data.toList wj r2.2
 ((r0.1,r1.1,r2.1,r3.1),r3.2)
abbrev hdV(r:Nat×List UInt8×List UInt8×List UInt8):aG:=aH #[O aD (r.1:Int),L ⟨r.2.1.toArray⟩,L ⟨r.2.2.1.toArray⟩,L ⟨r.2.2.2.toArray⟩]
theorem Jew(wj:Nat)(h:HdL)(p:PS)(hh:p.hdr wj h=Y):(ZK wj h (Z p)).2=Y:=by
 unfold ZK;unfold PS.hdr at hh;dsimp only
 cases h1:p.num h.1 4 with
 | none=>rw[ZL h1];rfl
 | some r=>
  obtain⟨n,p1⟩:=r;rw[JS h1];simp only[h1]at hh;dsimp only
  cases h2:p1.txt h.2.1.data.toList wj with
  | none=>rw[Yb h2];rfl
  | some r=>
   obtain⟨t1,p2⟩:=r;rw[JN h2];simp only[h2]at hh;dsimp only
   cases h3:p2.txt h.2.2.1.data.toList wj with
   | none=>rw[Yb h3];rfl
   | some r=>
    obtain⟨t2,p3⟩:=r;rw[JN h3];simp only[h3]at hh;dsimp only
    cases h4:p3.txt h.2.2.2.data.toList wj with
    | none=>rw[Yb h4]
    | some r=>simp[h4]at hh
theorem JbL(wj:Nat)(h y:HdL)(p p2:PS)(hh:p.hdr wj h=Z (y,p2)):(ZK wj h (Z p)).2=Z p2/\hdV (ZK wj h (Z p)).1=aH #[O aD (y.1:Int),L y.2.1,L y.2.2.1,L y.2.2.2]:=by
 unfold ZK;unfold PS.hdr at hh;dsimp only
 cases h1:p.num h.1 4 with
 | none=>rw[h1]at hh;cases hh
 | some r=>
  obtain⟨n,p1⟩:=r;rw[JS h1];simp only[h1]at hh;dsimp only
  cases h2:p1.txt h.2.1.data.toList wj with
  | none=>rw[h2]at hh;cases hh
  | some r=>
   obtain⟨t1,p2⟩:=r;rw[JN h2];simp only[h2]at hh;dsimp only
   cases h3:p2.txt h.2.2.1.data.toList wj with
   | none=>rw[h3]at hh;cases hh
   | some r=>
    obtain⟨t2,p3⟩:=r;rw[JN h3];simp only[h3]at hh;dsimp only
    cases h4:p3.txt h.2.2.2.data.toList wj with
    | none=>rw[h4]at hh;cases hh
    | some r=>
     obtain⟨t3,p4⟩:=r;rw[JN h4];simp only[h4,Qh,Qw]at hh;obtain⟨rfl,rfl⟩:=hh;exact⟨rfl,rfl⟩

theorem Jfk(E:Nat->Addr)(b:Nat)(Hc:18<=b)(g:Option Nat)(wj:Nat)(n:Nat)(s1 s2 s3:BA)(st:Option PS)(w:aA)(hE:Env E w)(hp:Jg E w b g wj st)(hd:JP st+4*wj<=90000000):
  aB N 86 #[X (Z ⟨b,0,Y⟩),aH #[O aD (n:Int),L s1,L s2,L s3]] w λe w'=>e=aC (hdV (ZK wj (n,s1,s2,s3) st).1)/\StTo E w w' b g wj (ZK wj (n,s1,s2,s3) st).2:=by
 have H5:=hp.lt;have ke:=Run.start Hc hE hp (M.allocs D w (T #[O aD (n:Int),L s1,L s2,L s3] 167) (T #[O aD 0,L ⟨#[]⟩,L ⟨#[]⟩,L ⟨#[]⟩] 167));have yl:=Jbm n 4 st;have j5:=YD s1.data.toList wj (JF n 4 st).2;have jk:=YD s2.data.toList wj (Jk s1.data.toList wj (JF n 4 st).2).2;have RUN:J _:=ke;go_enter func86,ntmps86;go_wp2_with fail;refine(Jah E b g wj n 4 st _ RUN.env RUN.port (by omega) (by omega)).mono ?_;rintro _ w1⟨rfl,h⟩;obtain⟨g1,(Ht:J _)⟩:=RUN.step h;have bx1:=(Ht.box (k:=w.heap.size) (Ql _) (heap_alloc2_old _ _ _)).1;obtain⟨-,c1⟩:=rows bx1;clear bx1 h;go_wp2_with fail;refine(YZ E b g1 wj s1 _ _ Ht.env Ht.port (by omega)).mono ?_;rintro _ w2⟨rfl,h⟩;obtain⟨g2,(kH:J _)⟩:=Ht.step h;have bx2:=(kH.box (k:=w.heap.size) (Ql _) (heap_alloc2_old _ _ _)).1;obtain⟨-, -,c2⟩:=rows bx2;clear bx2 h;go_wp2_with fail;refine(YZ E b g2 wj s2 _ _ kH.env kH.port (by omega)).mono ?_;rintro _ w3⟨rfl,h⟩;obtain⟨g3,(kf:J _)⟩:=kH.step h;have bx3:=(kf.box (k:=w.heap.size) (Ql _) (heap_alloc2_old _ _ _)).1;obtain⟨-, -, -,c3⟩:=rows bx3;clear bx3 h;go_wp2_with fail;refine(YZ E b g3 wj s3 _ _ kf.env kf.port (by omega)).mono ?_;rintro _ w4⟨rfl,h⟩;obtain⟨g4,(jN:J _)⟩:=kf.step h;have rR:=(jN.box (k:=w.heap.size+1) (by omega) (heap_alloc2_new _ _ _)).1;obtain⟨e0,e1,e2,e3⟩:=rows rR;have fR:∀j,w4.frozen? ⟨w.heap.size+1,j,Y⟩=false:=λj=>Qg _ _ _ _ _ rR;have RR:J _:=rR;clear rR h;go_wp2;rw[set4 _ _ _ _ _ _ _ _ _ _ _ RR.out];exact QK (v:=hdV (ZK wj (n,s1,s2,s3) st).1) (Qq results86 _ _ (w.heap.size+1) _ _ (0,0) _ rfl (Qi _ _ _ _ _ _ RR) underlying167 rfl (by kernel_rfl)) rfl ⟨rfl,jN.done (k:=w.heap.size+1) (by omega) (heap_alloc2_new _ _ _) (by decide)⟩

theorem JY(wj:Int)(w:aA):
  aB N 77 #[O I wj] w λe w'=>e=aC (X (Z ⟨w.heap.size,0,Y⟩))/\Jd w' w.heap.size Y wj aK (.wr [])/\M D w w':=by
 go_enter func77,ntmps77;go_wp2;go_ret;refine⟨rfl,⟨R Y 0 0,rfl,Bs.nil _ _,?_⟩,Ta _ _ _⟩;exact Qf _ _
theorem XT(wj:Int)(s:BA)(w:aA):
  aB N 85 #[O I wj,L s] w λe w'=>e=aC (X (Z ⟨w.heap.size,0,Y⟩))/\Jd w' w.heap.size Y wj aK (.rd [] s.data.toList)/\M D w w':=by
 go_enter func85,ntmps85;go_wp2;go_ret;refine⟨rfl,⟨rfl,?_⟩,Ta _ _ _⟩;exact Qf _ _
theorem JnD(b:Nat)(g:Option Nat)(wj:Int)(done:List UInt8)(w:aA)(hp:Jd w b g wj aK (.wr done)):
  aB N 79 #[X (Z ⟨b,0,Y⟩)] w λe w'=>e=aC (aI #[L ⟨done.toArray⟩,aK])/\∃n,w'=w.drewN n:=by
 have ce:=hp.errCell;obtain⟨v,_,kU,hZ⟩:=hp;have c3:w.cell? ⟨b,3,Y⟩=Z v:=Ja hZ;have kE:=λn=>Yd (P:=N) (w:=w.drewN n) (l:=done) kU 52 9 5 underlying52 underlying5 underlying9;have uY:=kE 0;rw[World.drewN_zero]at uY;have mK:=kE 1;rw[<-World.drew_is_drewN]at mK;clear kE hZ kU;generalize (⟨done.toArray⟩:BA)=r at *;go_enter func79,ntmps79;go_wp2;go_ret2;exact⟨rfl,0,rfl⟩
theorem Jlm(b:Nat)(g:Option Nat)(wj:Int)(t:TypeId)(u:aG)(p:PS)(w:aA)(hp:Jd w b g wj (aJ t u) p):
  aB N 79 #[X (Z ⟨b,0,Y⟩)] w λe w'=>e=aC (aI #[L ⟨#[]⟩,aJ t u])/\∃n,w'=w.drewN n:=by
 have ce:=hp.errCell;clear hp;go_enter func79,ntmps79;go_wp2;go_region
 all_goals go_wp2
 all_goals go_ret2
 all_goals exact⟨rfl,1,rfl⟩
theorem Jel(b:Nat)(g:Option Nat)(wj:Int)(e:aG)(pre rest:List UInt8)(w:aA)(hp:Jd w b g wj e (.rd pre rest)):
  aB N 87 #[X (Z ⟨b,0,Y⟩)] w λe w'=>e=aC (L ⟨rest.toArray⟩)/\M D w w':=by
 obtain⟨-, -, -,c3,c4⟩:=rows hp.2;have Hi:pre.length<=(⟨(pre++rest).toArray⟩:BA).size:=by rw[Jh,Qe];omega
 have hx:(⟨(pre++rest).toArray⟩:BA).extract pre.length (⟨(pre++rest).toArray⟩:BA).size=⟨rest.toArray⟩:=by rw[Jnm,List.drop_left'];rfl
 generalize (⟨rest.toArray⟩:BA)=rt at *;generalize (⟨(pre++rest).toArray⟩:BA)=r at *;generalize pre.length=n at *;go_enter func87,ntmps87;go_wp2;go_region
 all_goals go_wp2
 all_goals go_ret
 all_goals exact⟨rfl,Td _ w 1⟩
theorem Jap(E:Nat->Addr)(b:Nat)(g:Option Nat)(wj:Int)(st:Option PS)(hw:∀p,st=Z p->∃d,p=.wr d)(w:aA)(hp:Jg E w b g wj st):
  aB N 79 #[X (Z ⟨b,0,Y⟩)] w λe w'=>M D w w'/\match st with
   | some (.wr d)=>e=aC (aI #[L ⟨d.toArray⟩,aK])
   | _=>∃t u,e=aC (aI #[L ⟨#[]⟩,aJ t u])/\Jn E 7 w' (aJ t u):=by
 cases st with
 | none=>
  obtain⟨p,t,u,h1,h2⟩:=hp;refine(Jlm b g wj t u p w h1).mono ?_;rintro e w'⟨rfl,n,rfl⟩;exact⟨Td _ w n,t,u,rfl,h2.tch (Td D w n) (λ_ _ _ _ h=>h)⟩
 | some p=>
  obtain⟨d,rfl⟩:=hw p rfl;refine(JnD b g wj d w hp).mono ?_;rintro e w'⟨rfl,n,rfl⟩;exact⟨Td _ w n,rfl⟩

theorem JcN(b:Nat)(g:Option Nat)(wj:Int)(e x:aG)(pre rest:List UInt8)(w:aA)(hp:Jd w b g wj e (.rd pre rest)):
  aB N 140 #[X (Z ⟨b,0,Y⟩),x] w λe w'=>e=aC (aL (!rest.isEmpty))/\M D w w':=by
 obtain⟨-, -, -,c3,c4⟩:=rows hp.2;have Hi:(⟨(pre++rest).toArray⟩:BA).size=pre.length+rest.length:=by rw[Jh,Qe]
 have hb:decide (pre.length<(⟨(pre++rest).toArray⟩:BA).size)= !rest.isEmpty:=by
  rw[Hi]
  cases rest with
  | nil=>simp
  | cons a l=>simp
 have HB:J _:=hb;clear hp hb Hi;generalize (⟨(pre++rest).toArray⟩:BA)=r at *;generalize pre.length=n at *;go_enter func140,ntmps140;go_wp2;go_region
 all_goals go_wp2
 all_goals go_ret
 all_goals exact⟨by rw[<-HB.o];rfl,Td _ w 1⟩
theorem Jeg(b:Nat)(wj:Int)(pre:List UInt8)(w:aA)(hp:Jd w b Y wj aK (.rd pre [])):
  aB N 88 #[X (Z ⟨b,0,Y⟩)] w λe w'=>e=aC aK/\M D w w':=by
 have ce:=hp.errCell;have HM:J (∀x W,M D w W->_):=λx W hT=>JcN b Y wj aK x pre [] W (hp.tch hT (λh=>h) (λ_ _ h=>h));have HE:J (∀W,M D w W->_):=λW hT=>(hp.tch hT (λh=>h) (λ_ _ h=>h)).errCell;go_enter func88,ntmps88;go_wp2_with fail;refine(HM _ w (Te _ _)).mono ?_;rintro _ w1⟨rfl,(HT:J _)⟩;have c1:=HE w1 HT;clear HM HE;go_wp2;go_ret;exact⟨rfl,HT⟩
theorem JfC(b:Nat)(g:Option Nat)(wj:Int)(t:TypeId)(u:aG)(p:PS)(w:aA)(hp:Jd w b g wj (aJ t u) p):
  aB N 88 #[X (Z ⟨b,0,Y⟩)] w λe w'=>e=aC (aJ t u)/\M D w w':=by
 have ce:=hp.errCell;clear hp;go_enter func88,ntmps88;go_wp2;go_ret
 first
  | exact⟨rfl,Te _ _⟩
  | exact⟨rfl,Td _ w 1⟩
theorem Jgn(E:Nat->Addr)(b:Nat)(wj:Int)(pre rest:List UInt8)(hr:rest ≠ [])(w:aA)(hE:Env E w)(hp:Jd w b Y wj aK (.rd pre rest)):
  aB N 88 #[X (Z ⟨b,0,Y⟩)] w λe w'=>∃t u,e=aC (aJ t u)/\Jn E 7 w' (aJ t u)/\M D w w':=by
 have ce:=hp.errCell;have Hd:(!rest.isEmpty)=true:=by cases rest with|nil=>exact absurd rfl hr|cons a l=>rfl
 have HM:J (∀x,aB N 140 #[X (Z ⟨b,0,Y⟩),x] w λe w'=>e=aC (aL true)/\M D w w'):=λx=>by
  have:=JcN b Y wj aK x pre rest w hp;rw[Hd]at this;exact this
 have HF:J (∀W,M D w W->_):=λW hT=>(hE.tch hT noE).form;go_enter func88,ntmps88;go_wp2_with fail;refine(HM _).mono ?_;rintro _ w1⟨rfl,(HT:J _)⟩;have c1:=HF w1 HT;clear HM HF;go_wp2_with fail;refine(Xk _ _ _ _).mono ?_;rintro _ _⟨rfl,rfl⟩;go_wp2;go_ret;exact⟨_,_,rfl,.wrap _ _ _ (Qf _ _) .base,HT.trans (Ta D _ _) noE⟩
theorem Ja0(E:Nat->Addr)(b:Nat)(wj:Int)(st:Option PS)(hr:∀p,st=Z p->∃q r,p=.rd q r)(w:aA)(hE:Env E w)(g:Option Nat)(hp:Jg E w b g wj st):
  aB N 88 #[X (Z ⟨b,0,Y⟩)] w λe w'=>M D w w'/\match st with
   | some (.rd _ [])=>e=aC aK
   | _=>∃t u,e=aC (aJ t u)/\Jn E 7 w' (aJ t u):=by
 cases st with
 | none=>
  obtain⟨p,t,u,h1,h2⟩:=hp;refine(JfC b g wj t u p w h1).mono ?_;rintro e w'⟨rfl,h⟩;exact⟨h,t,u,rfl,h2.tch h (λ_ _ _ _ h=>h)⟩
 | some p=>
  obtain⟨q,r,rfl⟩:=hr p rfl;have hg:g=Y:=hp.1;subst hg
  cases r with
  | nil=>exact(Jeg b wj q w hp).mono λe w' ⟨h1,h2⟩=>⟨h2,h1⟩
  | cons a l=>exact(Jgn E b wj q (a::l) (by simp) w hE hp).mono λe w' ⟨t,u,h1,h2,h3⟩=>⟨h3,t,u,h1,h2⟩

def RetS(E:Nat->Addr)(r:Option (List UInt8))(e:Ending)(w':aA):Prop:=match r with
 | some d=>e=aC (aI #[L ⟨d.toArray⟩,aK])
 | none=>∃t u,e=aC (aI #[L ⟨#[]⟩,aJ t u])/\Jn E 7 w' (aJ t u)
theorem RetS.cases{r:Option (List UInt8)}(h:RetS E r e w'):(∃d,r=Z d/\e=aC (aI #[L ⟨d.toArray⟩,aK]))\/(r=Y/\∃t u,e=aC (aI #[L ⟨#[]⟩,aJ t u])/\Jn E 7 w' (aJ t u)):=by
 cases r with
 | none=>exact aN ⟨rfl,h⟩
 | some d=>exact aM ⟨d,rfl,h⟩
def JaL:Option PS->Option (List UInt8)
 | some (.wr d)=>Z d
 | _=>Y
def stWr(st:Option PS):Prop:=∀p,st=Z p->∃d,p=.wr d
theorem Ja5{x:Nat}(h:stWr st):stWr (JF x k st).2:=by
 intro p hp
 cases st with
 | none=>cases hp
 | some q=>
  obtain⟨d,rfl⟩:=h q rfl
  cases hq:(PS.wr d).num x k with
  | none=>rw[ZL hq]at hp;cases hp
  | some r=>
   obtain⟨m,p1⟩:=r;rw[JS hq]at hp
   cases hp
   simp only[PS.num]at hq
   split at hq
   ·cases hq;exact⟨_,rfl⟩
   ·cases hq
theorem Yq(h:stWr st):stWr (Jk s k st).2:=by
 intro p hp
 cases st with
 | none=>cases hp
 | some q=>
  obtain⟨d,rfl⟩:=h q rfl
  cases hq:(PS.wr d).txt s k with
  | none=>rw[Yb hq]at hp;cases hp
  | some r=>
   obtain⟨m,p1⟩:=r;rw[JN hq]at hp
   cases hp
   simp only[PS.txt]at hq
   split at hq
   ·cases hq;exact⟨_,rfl⟩
   ·cases hq
theorem Jey:stWr (Z (.wr [])):=λp hp=>by cases hp;exact⟨_,rfl⟩
theorem Jam:stWr Y:=λp hp=>by cases hp
theorem Jk8{c:BA×Int}(h:stWr st):stWr (Zc wj c st).2:=by
 unfold Zc;dsimp only
 split
 ·exact Jam
 ·exact Ja5 (Yq h)
theorem Jnd{h:HdL}(hw:stWr st):stWr (ZK wj h st).2:=Yq (Yq (Yq (Ja5 hw)))
theorem Jao(E:Nat->Addr)(b:Nat)(g:Option Nat)(wj:Int)(st:Option PS)(hw:stWr st)(w:aA)(hp:Jg E w b g wj st):
  aB N 79 #[X (Z ⟨b,0,Y⟩)] w λe w'=>M D w w'/\RetS E (JaL st) e w':=by
 refine(Jap E b g wj st hw w hp).mono ?_;rintro e w'⟨h1,h2⟩;refine⟨h1,?_⟩
 cases st with
 | none=>exact h2
 | some p=>obtain⟨d,rfl⟩:=hw p rfl;exact h2
theorem XD(hb:w.heap.size<=b)(h1:M D w w1)(h2:M (λk=>k=b\/Z k=Y) w1 w2):M D w w2:=
 h1.trans h2 (λj hj=>by
  rcases hj with rfl|hj
  ·exact aN hb
  ·cases hj)
theorem JaX(E:Nat->Addr)(wj:Nat)(s:BA)(w:aA)(hE:Env E w)(h1:1<=wj)(nI:wj<=32)(hs:s.size<=1000000000):
  aB N 130 #[O I (wj:Int),L s] w λe w'=>e=aC (L (dgW wj s.data.toList))/\M D w w':=
 (JmA wj s w h1 nI (by omega) (Qk (by decide) hE.size) hE.table).mono λe w' ⟨k1,k2⟩=>⟨k1,(M.of_below k2).mono (λj hj=>aN hj)⟩
theorem Jdr(a:List UInt8)(d:List UInt8)(h:d.length<=1000000)(ha:a.length<=100):∃s:BA,s.size<=1000100/\s.data.toList=a++d/\∀W,(Op.stringOp .add (⟨a.toArray⟩:BA) ⟨d.toArray⟩).run N W=.ok (L s) W:=
 ⟨_,by rw[ByteArray.size_append];show a.toArray.size+d.toArray.size<=1000100;simp;omega,by simp,λW=>run_string_add_sum (P:=N) W _ _ (by show a.toArray.size+d.toArray.size<=_;simp;omega)⟩

theorem JdQ(E:Nat->Addr)(wj:Nat)(hw:wj<=1000)(c:BA×Int)(w:aA)(hE:Env E w):
  aB N 145 #[O I (wj:Int),aH #[L c.1,O I c.2]] w λe w'=>M D w w'/\RetS E (JaL (Zc wj c (Z (.wr []))).2) e w':=by
 have hs:=hE.size;have HE:J _:=hE;obtain⟨s,aZ⟩:=c;dsimp only;go_enter func145,ntmps145;go_wp2_with fail;refine(JY _ _).mono ?_;rintro _ w1⟨rfl,Hs,H6⟩;have tA:M D w (w.alloc (T #[L s,O I aZ] 49)):=Ta _ _ _;have hb:(w.alloc (T #[L s,O I aZ] 49)).heap.size=w.heap.size+1:=by simp
 rw[hb]at Hs;rw[hb];have r0:=(H6.block _ (by omega) (λh=>h)).trans (Qf _ _);obtain⟨d0,d1⟩:=rows r0;have qo:J (Env E w1):=(HE.tch tA noE).tch H6 noE;have Hq:J (Jg E w1 (w.heap.size+1) Y wj (Z (.wr []))):=Hs;have H3:J _:=tA.trans H6 noE;have HC:J (∀k,aB N 203 _ (w1.drewN k) _):=λk=>Jjz E (w.heap.size+1) (by omega) Y wj (s,aZ) (Z (.wr [])) (w1.drewN k) (qo.o.tch (Td D w1 k) noE) (Hq.o.next (Td _ w1 k)) (by show 0+_<=_;omega);go_wp2_with fail;go_region_with (go_at_call 203;refine(HC 1).mono ?_;rintro _ w2⟨rfl,g2,(Hw:J _),kn,(H4:J _)⟩;clear kn)
 all_goals
  have HR:J (aB N 79 _ w2 _):=Jao E (w.heap.size+1) g2 wj _ (Jk8 Jey) w2 Hw.o;have H8:J _:=XD (b:=w.heap.size+1) (by omega) (H3.trans (Td D w1 1) noE) H4.o;go_wp2_with fail;refine HR.o.mono ?_;rintro _ w3⟨Hm,hr⟩;have kY:J _:=hr;have He:J _:=Hm
  rcases hr.cases with⟨d,hd,rfl⟩|⟨hn,t,u,rfl,he⟩
  all_goals go_wp2;go_ret2;exact⟨H8.trans He noE,kY⟩
theorem JaG(E:Nat->Addr)(wj:Nat)(hw:wj<=1000)(n:Nat)(s1 s2 s3:BA)(w:aA)(hE:Env E w):
  aB N 84 #[O I (wj:Int),aH #[O aD (n:Int),L s1,L s2,L s3]] w λe w'=>M D w w'/\RetS E (JaL (ZK wj (n,s1,s2,s3) (Z (.wr []))).2) e w':=by
 have hs:=hE.size;have HE:J _:=hE;go_enter func84,ntmps84;go_wp2_with fail;refine(JY _ _).mono ?_;rintro _ w1⟨rfl,Hs,H6⟩;have tA:M D w (w.alloc (T #[O aD (n:Int),L s1,L s2,L s3] 167)):=Ta _ _ _;have hb:(w.alloc (T #[O aD (n:Int),L s1,L s2,L s3] 167)).heap.size=w.heap.size+1:=by simp
 rw[hb]at Hs;rw[hb];have r0:=(H6.block _ (by omega) (λh=>h)).trans (Qf _ _);obtain⟨d0,d1,d2,d3⟩:=rows r0;have qo:J (Env E w1):=(HE.tch tA noE).tch H6 noE;have Hq:J (Jg E w1 (w.heap.size+1) Y wj (Z (.wr []))):=Hs;have H3:J _:=tA.trans H6 noE;have HC:J (∀k,aB N 86 _ (w1.drewN k) _):=λk=>Jfk E (w.heap.size+1) (by omega) Y wj n s1 s2 s3 (Z (.wr [])) (w1.drewN k) (qo.o.tch (Td D w1 k) noE) (Hq.o.next (Td _ w1 k)) (by show 0+_<=_;omega);go_wp2_with fail;go_region_with (go_at_call 86;refine(HC 1).mono ?_;rintro _ w2⟨rfl,g2,(Hw:J _),kn,(H4:J _)⟩;clear kn)
 all_goals
  have HR:J (aB N 79 _ w2 _):=Jao E (w.heap.size+1) g2 wj _ (Jnd Jey) w2 Hw.o;have H8:J _:=XD (b:=w.heap.size+1) (by omega) (H3.trans (Td D w1 1) noE) H4.o;go_wp2_with fail;refine HR.o.mono ?_;rintro _ w3⟨Hm,hr⟩;have kY:J _:=hr;have He:J _:=Hm
  rcases hr.cases with⟨d,hd,rfl⟩|⟨hn,t,u,rfl,he⟩
  all_goals go_wp2;go_ret2;exact⟨H8.trans He noE,kY⟩
theorem XS(d:List UInt8)(v:aG):(PS.wr d).takes v:=λ_ _ h=>by cases h
theorem JhW{r:Option (α×PS)}(h:∀a p,r=Z (a,p)->∃d,p=.wr d):stWr (r.map (·.2)):=λp hp=>by
 cases r with
 | none=>cases hp
 | some q=>obtain⟨a,p'⟩:=q;cases hp;exact h a p' rfl
theorem Jdu{d:List UInt8}(h:(PS.wr d).like p):∃d',p=.wr d':=by
 cases p with
 | rd q r=>cases h
 | wr d'=>exact⟨d',rfl⟩
def outsB?(l:List (Nat×Nat)):Option (List UInt8):=JaL (((PS.wr []).listO 1 3 l).map (·.2))
def txB?(wj:Nat)(t:TxL):Option (List UInt8):=JaL (((PS.wr []).tx wj t).map (·.2))
def RetD(E:Nat->Addr)(r:Option BA)(e:Ending)(w':aA):Prop:=match r with
 | some d=>e=aC (aI #[L d,aK])
 | none=>∃t u,e=aC (aI #[L ⟨#[]⟩,aJ t u])/\Jn E 7 w' (aJ t u)

theorem Jc0(E:Nat->Addr)(wj:Nat)(Hf:1<=wj)(hw:wj<=32)(v:aG)(l:List (Nat×Nat))(w:aA)(hE:Env E w)(h1:Jr w.heap.size w v l)(j5:l.length<1000000)(ho:∀x∈l,x.2<256):
  aB N 125 #[O I (wj:Int),v] w λe w'=>M D w w'/\RetD E ((outsB? l).map λd=>dgW wj (71::d)) e w':=by
 have hs:=hE.size;have HE:J (Env E w):=hE;have H1:J (Jr _ _ _ _):=h1;have HO:J (∀x∈l,x.2<256):=ho;obtain⟨ia,ic,Hx⟩:=h1.shape;have Hl:∀d,outsB? l=Z d->d.length<=100:=λd hd=>by
  unfold outsB? at hd
  cases hq:(PS.wr []).listO 1 3 l with
  | none=>rw[hq]at hd;cases hd
  | some r=>
   obtain⟨ys,p2⟩:=r;obtain⟨k1,_,k2,k3⟩:=JaT h1 (XS _ _) hq;obtain⟨d',rfl⟩:=Jdu k1;rw[hq]at hd
   cases hd
   simp only[PS.len,Qv]at k3;omega
 subst Hx;go_enter func125,ntmps125;go_wp2_with fail;refine(JY _ _).mono ?_;rintro _ w1⟨rfl,Hs,H6⟩;have HC:J (aB N 188 _ w1 _):=Jbp E w.heap.size hs Y wj _ l (.wr []) w1 (HE.o.tch H6 noE) Hs (H1.o.tch H6 noE) j5 (XS _ _) HO.o (by show 0<=_;omega);have H3:J _:=H6;go_wp2_with fail;refine HC.mono ?_;intro e w2 h;obtain⟨x1,x2,x3,rfl⟩:=h.shape;obtain⟨g2,kJ,H7⟩:∃g2,Jg E w2 w.heap.size g2 wj (((PS.wr []).listO 1 3 l).map (·.2))/\M (λk=>k=w.heap.size\/Z k=Y) w1 w2:=by
  cases hq:(PS.wr []).listO 1 3 l with
  | none=>
   rw[hq]at h;obtain⟨_,g',p',vv,k1,k2,_,k4⟩:=h;obtain⟨t,u,rfl⟩:=k2.iface;exact⟨g',⟨p',t,u,k1,k2⟩,k4⟩
  | some r=>
   obtain⟨ys,p2⟩:=r;rw[hq]at h;obtain⟨_,_,_,_,g',k1,_,_,k4⟩:=h;exact⟨g',k1,k4⟩
 have yq:stWr (((PS.wr []).listO 1 3 l).map (·.2)):=JhW λa p hq=>by
  obtain⟨k1,_⟩:=JaT H1.o (XS [] _) hq;exact Jdu k1
 have HR:J (aB N 79 _ w2 _):=Jao E w.heap.size g2 wj _ yq w2 kJ;have H8:J _:=XD (Ql _) H3 H7;go_wp2_with fail;refine HR.o.mono ?_;rintro _ w3⟨Hm,hr⟩;have He:J _:=H8.trans Hm noE
 rcases hr.cases with⟨d,hd,rfl⟩|⟨hn,t,u,rfl,(HEE:J _)⟩
 ·have HD:J (outsB? l=Z d):=hd;obtain⟨s1,qq,kO,xu⟩:=Jdr [71] d (by have:=Hl d hd;omega) (by decide);have xW:J (aB N 130 _ w3 _):=JaX E wj s1 w3 (HE.tch He noE) Hf hw (by omega);have jL:J _:=kO;clear hr hd Hl kO;go_wp2_with fail;refine xW.o.mono ?_;rintro _ w4⟨rfl,Ho⟩;have Hu:J _:=Ho;go_wp2;go_ret2;refine⟨He.trans Hu noE,?_⟩;rw[HD.o,jL.o];rfl
 ·have HN:J (outsB? l=Y):=hn;clear hr hn Hl;go_wp2;go_ret2;refine⟨He,?_⟩;rw[HN.o];exact⟨t,u,rfl,HEE⟩

theorem JoY{x:Sl×Sl}{t:TxL}(hw:wj<=32)(hI:Jbn b w (.wr []) x t)(d:List UInt8)(hd:txB? wj t=Z d):d.length<=200:=by
 unfold txB? at hd
 cases hq:(PS.wr []).tx wj t with
 | none=>rw[hq]at hd;cases hd
 | some r=>
  obtain⟨t',p2⟩:=r;obtain⟨k1,k2,_⟩:=Jh7 hw hI hq;obtain⟨d',rfl⟩:=Jdu k1;rw[hq]at hd
  cases hd
  simpa [PS.len]using k2
theorem Jnt(E:Nat->Addr)(wj:Nat)(Hf:1<=wj)(hw:wj<=32)(x:Sl×Sl)(t:TxL)(w:aA)(hE:Env E w)(h1:JG w.heap.size w (R x.1.1 x.1.2.1 x.1.2.2) t.1)(h2:Jr w.heap.size w (R x.2.1 x.2.2.1 x.2.2.2) t.2)(j5:t.1.length<1000000)(jk:t.2.length<1000000)(ho:∀x∈t.2,x.2<256):
  aB N 206 #[O I (wj:Int),aH #[R x.1.1 x.1.2.1 x.1.2.2,R x.2.1 x.2.2.1 x.2.2.2]] w λe w'=>M D w w'/\RetD E ((txB? wj t).map λd=>dgW wj (84::d)) e w':=by
 have hs:=hE.size;have HE:J _:=hE;obtain⟨⟨a1,n1,c1⟩,a2,n2,c2⟩:=x;dsimp only at h1 h2 ⊢;have HI:J (∀wA,M D w wA->Jbn (w.heap.size+1) wA (.wr []) ((a1,n1,c1),(a2,n2,c2)) t):=λwA hT=>⟨(h1.tch hT noE).up (by omega),(h2.tch hT noE).up (by omega),j5,jk,XS _ _,XS _ _,ho⟩
 go_enter func206,ntmps206;go_wp2_with fail;refine(JY _ _).mono ?_;rintro _ w1⟨rfl,Hs,H6⟩;have tA:M D w (w.alloc (T #[R a1 n1 c1,R a2 n2 c2] 98)):=Ta _ _ _;have hb:(w.alloc (T #[R a1 n1 c1,R a2 n2 c2] 98)).heap.size=w.heap.size+1:=by simp
 rw[hb]at Hs;rw[hb];have r0:=(H6.block _ (by omega) (λh=>h)).trans (Qf _ _);obtain⟨d0,d1⟩:=rows r0;have H3:J _:=(tA.trans H6 noE).trans (Td D w1 1) noE;have HC:J (aB N 134 _ w1.drew _):=Jnu E (w.heap.size+1) (by omega) Y wj hw ((a1,n1,c1),(a2,n2,c2)) t (.wr []) w1.drew (HE.tch H3 noE) (Hs.tch (Td D w1 1) (λh=>h) (λ_ _ h=>h)) (HI _ H3) (by show 0<=_;omega);have Hl:=JoY hw (HI _ H3);have HWR:J (stWr (((PS.wr []).tx wj t).map (·.2))):=JhW λa p hq=>Jdu (Jj1 hq);go_wp2_with fail;go_region_with (go_at_call 134;refine HC.o.mono ?_;rintro _ w2⟨⟨⟨y1,y2,y3⟩,z1,z2,z3⟩,g2,rfl,kJ,kn,H7,_⟩;have Hw:J (Jg _ _ _ _ _ _):=kJ;have H4:J (M _ _ w2):=H7)
 all_goals
  have HR:J (aB N 79 _ w2 _):=Jao E (w.heap.size+1) g2 wj _ HWR w2 Hw.o;have H8:J _:=XD (b:=w.heap.size+1) (by omega) H3 H4.o;go_wp2_with fail;refine HR.mono ?_;rintro _ w3⟨Hm,hr⟩;have He:J _:=H8.trans Hm noE
  rcases hr.cases with⟨d,hd,rfl⟩|⟨hn,t',u,rfl,(HEE:J _)⟩
  ·have HD:J (txB? wj t=Z d):=hd;obtain⟨s1,qq,kO,xu⟩:=Jdr [84] d (by have:=Hl d hd;omega) (by decide);have xW:J (aB N 130 _ w3 _):=JaX E wj s1 w3 (HE.tch He noE) Hf hw (by omega);have jL:J _:=kO;clear hr hd Hl kO;go_wp2_with fail;refine xW.o.mono ?_;rintro _ w4⟨rfl,Ho⟩;have Hu:J _:=Ho;go_wp2;go_ret2;refine⟨He.trans Hu noE,?_⟩;rw[HD.o,jL.o];rfl
  ·have HN:J (txB? wj t=Y):=hn;clear hr hn Hl;go_wp2;go_ret2;refine⟨He,?_⟩;rw[HN.o];exact⟨t',u,rfl,HEE⟩

def stO(o:Nat×Nat)(st:Option PS):(Nat×Nat)×Option PS:=(((JF o.1 8 st).1,(JF o.2 1 (JF o.1 8 st).2).1),(JF o.2 1 (JF o.1 8 st).2).2)
def YW(wj:Nat)(k:List UInt8)(st:Option PS):List UInt8×Option PS:=
 ((Jk k (wj+1) st).1,match (Jk k (wj+1) st).2 with
  | none=>Y
  | some p=>if 3<=((Jk k (wj+1) st).1.getD wj 0).toNat then Y else Z p)
def YP(wj:Nat)(b:Int)(st:Option PS):Nat×Option PS:=((JF (JD b) 2 st).1,if 8*(wj+1)<=(JF (JD b) 2 st).1 then Y else (JF (JD b) 2 st).2)
def Jv(wj:Nat)(k:BA)(o:Nat×Nat)(st:Option PS):(List UInt8×(Nat×Nat))×Option PS:=(((YW wj k.data.toList st).1,(stO o (YW wj k.data.toList st).2).1),(stO o (YW wj k.data.toList st).2).2)
def stBr(wj:Nat)(b:Int)(x y:BA)(st:Option PS):(Nat×List UInt8×List UInt8)×Option PS:=
 (((YP wj b st).1,(Jk x.data.toList wj (YP wj b st).2).1,(Jk y.data.toList wj (Jk x.data.toList wj (YP wj b st).2).2).1),(Jk y.data.toList wj (Jk x.data.toList wj (YP wj b st).2).2).2)
theorem Jgs(s:List UInt8)(k:Nat)(st:Option PS)(p:PS)(h:(Jk s k st).2=Z p):(Jk s k st).1.length=k:=by
 cases st with
 | none=>cases h
 | some q=>
  cases hq:q.txt s k with
  | none=>rw[Yb hq]at h;cases h
  | some r=>
   obtain⟨t,p1⟩:=r;rw[JN hq]
   cases q with
   | rd a c=>
    simp only[PS.txt]at hq
    split at hq
    ·cases hq;simp;omega
    ·cases hq
   | wr d=>
    simp only[PS.txt]at hq
    split at hq
    ·cases hq;assumption
    ·cases hq
theorem Jk9(wj:Nat)(k:List UInt8)(st:Option PS):JP (YW wj k st).2<=JP st+(wj+1):=by
 have:=YD k (wj+1) st;unfold YW;dsimp only
 cases h:(Jk k (wj+1) st).2 with
 | none=>simp[JP]
 | some p=>
  rw[h]at this;dsimp only
  split
  ·simp[JP]
  ·exact this
theorem JfG(wj:Nat)(b:Int)(st:Option PS):JP (YP wj b st).2<=JP st+2:=by
 have:=Jbm (JD b) 2 st;unfold YP;dsimp only
 split
 ·simp[JP]
 ·exact this
theorem Jne{k:List UInt8}(h:stWr st):stWr (YW wj k st).2:=by
 have h1:=Yq (s:=k) (k:=wj+1) h;unfold YW;dsimp only
 cases h2:(Jk k (wj+1) st).2 with
 | none=>exact Jam
 | some p=>
  rw[h2]at h1;dsimp only
  split
  ·exact Jam
  ·exact h1
theorem Jnc{b:Int}(h:stWr st):stWr (YP wj b st).2:=by
 unfold YP;dsimp only
 split
 ·exact Jam
 ·exact Ja5 h
theorem Jp3{o:Nat×Nat}(h:stWr st):stWr (stO o st).2:=Ja5 (Ja5 h)
theorem Jla{k:BA}{o:Nat×Nat}(h:stWr st):stWr (Jv wj k o st).2:=Jp3 (Jne h)
theorem JoP{b:Int}{x y:BA}(h:stWr st):stWr (stBr wj b x y st).2:=Yq (Yq (Jnc h))
theorem StTo.alloc{wj:Int}(h:StTo E w w2 b g wj st)(o:Obj):StTo E w (w2.alloc o) b g wj st:=by
 obtain⟨g',h1,h2,h3⟩:=h;exact⟨g',h1.next (Ta _ _ _),h2,h3.trans (Ta D _ _) noE⟩
theorem set3(w:aA)(g:Nat)(t:TypeId)(a b c v0 v1 v2:aG)(h:w.heap[g]? =Z (T #[a,b,c] t (0,0))):
  ((w.setCell ⟨g,0,Y⟩ v0).setCell ⟨g,1,Y⟩ v1).setCell ⟨g,2,Y⟩ v2=w.setRow g #[v0,v1,v2]:=by
 rw[Qj w g 0 _ t (0,0) v0 h,Qj _ g 1 _ t (0,0) v1 (Qi _ _ _ _ _ _ h),QI,
  Qj _ g 2 _ t (0,0) v2 (Qi _ _ _ _ _ _ h),QI]
 refine congrArg (w.setRow g) ?_;simp

theorem JpT(E:Nat->Addr)(b:Nat)(Hc:18<=b)(g:Option Nat)(wj:Int)(a o:Nat)(ho:o<256)(st:Option PS)(w:aA)(hE:Env E w)(hp:Jg E w b g wj st)(hd:JP st<=90000000):
  aB N 205 #[X (Z ⟨b,0,Y⟩),aH #[O aD (a:Int),O aE (o:Int)]] w λe w'=>e=aC (aH #[O aD ((stO (a,o) st).1.1:Int),O aE ((stO (a,o) st).1.2:Int)])/\StTo E w w' b g wj (stO (a,o) st).2:=by
 have H5:=hp.lt;have ke:=Run.start Hc hE hp (M.allocs D w (T #[O aD (a:Int),O aE (o:Int)] 80) (T #[O aD 0,O aE 0] 80));have yl:=Jbm a 8 st;have hm:=Jch o 1 (JF a 8 st).2;have hwo:lK.wrap (o:Int)=(o:Int):=JK _ (by omega) (by omega);have RUN:J _:=ke;go_enter func205,ntmps205;go_wp2_with fail;refine(Jah E b g wj a 8 st _ RUN.env RUN.port (by omega) (by omega)).mono ?_;rintro _ w1⟨rfl,h⟩;obtain⟨g1,(Ht:J _)⟩:=RUN.step h;have bx1:=(Ht.box (k:=w.heap.size) (Ql _) (heap_alloc2_old _ _ _)).1;obtain⟨-,c1⟩:=rows bx1;clear bx1 h;go_wp2_with fail;refine(Jah E b g1 wj o 1 _ _ Ht.env Ht.port (by omega) (by omega)).mono ?_;rintro _ w2⟨rfl,h⟩;obtain⟨g2,(kH:J _)⟩:=Ht.step h;have rR:=(kH.box (k:=w.heap.size+1) (by omega) (heap_alloc2_new _ _ _)).1;obtain⟨e0,e1⟩:=rows rR;have fR:∀j,w2.frozen? ⟨w.heap.size+1,j,Y⟩=false:=λj=>Qg _ _ _ _ _ rR;have vQ:IntKind.u8.wrap ((JF o 1 (JF a 8 st).2).1:Int)=((JF o 1 (JF a 8 st).2).1:Int):=Jcq _ (by omega) (by omega);have RR:J _:=rR;clear rR h;go_wp2;rw[set2 _ _ _ _ _ _ _ RR.out];exact QK (v:=aH #[O aD ((stO (a,o) st).1.1:Int),O aE ((stO (a,o) st).1.2:Int)]) (Qq results205 _ _ (w.heap.size+1) _ _ (0,0) _ rfl (Qi _ _ _ _ _ _ RR) underlying80 rfl (by kernel_rfl)) rfl ⟨rfl,kH.done (k:=w.heap.size+1) (by omega) (heap_alloc2_new _ _ _) (by decide)⟩

theorem Jg.err{wj:Int}(h:Jg E w b g wj st):(st=Y/\∃t u,w.cell? ⟨b,2,Y⟩=Z (aJ t u))\/((∃p,st=Z p)/\w.cell? ⟨b,2,Y⟩=Z aK):=by
 cases st with
 | some p=>exact aN ⟨⟨p,rfl⟩,Jd.errCell h⟩
 | none=>obtain⟨p,t,u,h1,_⟩:=h;exact aM ⟨rfl,t,u,h1.errCell⟩
theorem JpF(E:Nat->Addr)(b:Nat)(Hc:18<=b)(g:Option Nat)(wj:Nat)(hw:wj<=1000)(k:BA)(st:Option PS)(w:aA)(hE:Env E w)(hp:Jg E w b g wj st)(hd:JP st<=90000000):
  aB N 294 #[X (Z ⟨b,0,Y⟩),L k] w λe w'=>e=aC (L ⟨(YW wj k.data.toList st).1.toArray⟩)/\StTo E w w' b g wj (YW wj k.data.toList st).2:=by
 have cw:=hp.width;have H5:=hp.lt;have HC:J (aB N 209 _ w _):=Jgv E b g wj k (wj+1) st w hE hp (by omega);have HE:J _:=hE;have HP:J _:=hp;have HK:J (YW wj k.data.toList st=((Jk k.data.toList (wj+1) st).1,match (Jk k.data.toList (wj+1) st).2 with
  | none=>Y
  | some p=>if 3<=((Jk k.data.toList (wj+1) st).1.getD wj 0).toNat then Y else Z p)):=rfl
 have HL:J (∀p,(Jk k.data.toList (wj+1) st).2=Z p->_):=λp h=>Jgs _ _ _ p h;have hww:I.wrap ((wj:Int)+1)=(wj:Int)+1:=Jo _ (by omega) (by omega);go_enter func294,ntmps294;go_wp2_with fail;refine HC.o.mono ?_;rintro _ w1⟨rfl,g1,Hs,js,H6⟩;have uT:=Hs.err;have cw1:=Hs.width;have qo:J _:=HE.tch H6 (Jcj Hc HP);have Hq:J _:=Hs;have jO:J _:=js;have H3:J _:=H6
 rcases uT with⟨hn,t,u,ce⟩|⟨⟨p,(HS:J _)⟩,ce⟩
 ·have HN:J _:=hn;go_wp2;go_ret;refine⟨by rw[HK.o];rfl,g1,?_,jO,H3⟩;rw[HK.o,HN.o];have:=Hq.o;rw[HN.o]at this;exact this
 ·have jh:=HL p HS;have Hi:(⟨(Jk k.data.toList (wj+1) st).1.toArray⟩:BA).size=wj+1:=by rw[Jh];exact jh
  have rl:wj<(⟨(Jk k.data.toList (wj+1) st).1.toArray⟩:BA).size:=by omega
  have HB:J ((⟨(Jk k.data.toList (wj+1) st).1.toArray⟩:BA)[wj].toNat=((Jk k.data.toList (wj+1) st).1.getD wj 0).toNat):=by
   show UInt8.toNat _=_
   congr 1
   simp[List.getD_eq_getElem?_getD,show wj<(Jk k.data.toList (wj+1) st).1.length by omega];rfl
  generalize hTB:(⟨(Jk k.data.toList (wj+1) st).1.toArray⟩:BA)=tb at *;have gE:J _:=hTB
  by_cases h3:3<=tb[wj].toNat
  ·have rk:(3:Int)<=(tb[wj].toNat:Int):=(by omega);go_wp2_with fail;refine(Jal E b g1 wj _ _ w1 qo Hq).mono ?_;rintro _ w2⟨rfl,(jL:J _)⟩;go_wp2;go_ret;refine⟨by rw[HK.o,gE.o];rfl,?_⟩;rw[HK.o];dsimp only;rw[HS.o];dsimp only;rw[if_pos (by rw[<-HB.o];exact h3)];exact StTo.trans jO H3 jL.o
  ·have rk:¬(3:Int)<=(tb[wj].toNat:Int):=(by omega);go_wp2;go_ret;refine⟨by rw[HK.o,gE.o];rfl,g1,?_,jO,H3⟩;rw[HK.o];dsimp only;have:=Hq.o;rw[HS.o]at this ⊢;dsimp only;rw[if_neg (by rw[<-HB.o];exact h3)];exact this
theorem JlL(E:Nat->Addr)(b:Nat)(Hc:18<=b)(g:Option Nat)(wj:Nat)(hw:wj<=1000)(k:Int)(st:Option PS)(w:aA)(hE:Env E w)(hp:Jg E w b g wj st)(hd:JP st<=90000000):
  aB N 292 #[X (Z ⟨b,0,Y⟩),O I k] w λe w'=>e=aC (O I ((YP wj k st).1:Int))/\StTo E w w' b g wj (YP wj k st).2:=by
 have hx:=JdJ k;have HE:J _:=hE;have HP:J _:=hp;have HK:J (YP wj k st=((JF (JD k) 2 st).1,if 8*(wj+1)<=(JF (JD k) 2 st).1 then Y else (JF (JD k) 2 st).2)):=rfl;go_enter func292,ntmps292;go_wp2_with fail;refine(Jah E b g wj (JD k) 2 st w HE HP (by omega) (by omega)).mono ?_;rintro _ w1⟨rfl,g1,Hs,(jO:J _),(H3:J _)⟩;have cw1:=Hs.width;have hm:=Jch (JD k) 2 st;have qo:J _:=HE.tch H3 (Jcj Hc HP);have Hq:J _:=Hs;clear Hs;generalize (JF (JD k) 2 st).1=m at *;have ii:I.wrap (m:Int)=(m:Int):=Jo _ (by omega) (by omega);have hww:I.wrap ((wj:Int)+1)=(wj:Int)+1:=Jo _ (by omega) (by omega);have vQ:I.wrap (8*((wj:Int)+1))=8*((wj:Int)+1):=Jo _ (by omega) (by omega);have hwu:lK.wrap (8*((wj:Int)+1))=8*((wj:Int)+1):=JK _ (by omega) (by omega)
 by_cases h3:8*(wj+1)<=m
 ·have rk:8*((wj:Int)+1)<=(m:Int):=by omega
  go_wp2_with (first|(go_at_call 200;refine(Jal E b g1 wj _ _ w1 qo Hq).mono ?_;rintro _ w2⟨rfl,(jL:J _)⟩)|go_in);go_ret;refine⟨by rw[HK.o];rfl,?_⟩;rw[HK.o,if_pos h3];exact StTo.trans jO H3 jL.o
 ·have rk:¬8*((wj:Int)+1)<=(m:Int):=by omega
  go_wp2;go_ret;refine⟨by rw[HK.o];rfl,g1,?_,jO,H3⟩;rw[HK.o,if_neg h3];exact Hq.o
theorem JjH(E:Nat->Addr)(b:Nat)(Hc:18<=b)(g:Option Nat)(wj:Nat)(hw:wj<=1000)(k:BA)(a o:Nat)(ho:o<256)(st:Option PS)(w:aA)(hE:Env E w)(hp:Jg E w b g wj st)(hd:JP st<=80000000):
  aB N 222 #[X (Z ⟨b,0,Y⟩),aH #[L k,O aD (a:Int),O aE (o:Int)]] w λe w'=>e=aC (aH #[L ⟨(Jv wj k (a,o) st).1.1.toArray⟩,O aD ((Jv wj k (a,o) st).1.2.1:Int),O aE ((Jv wj k (a,o) st).1.2.2:Int)])/\StTo E w w' b g wj (Jv wj k (a,o) st).2:=by
 have H5:=hp.lt;have ke:=Run.start Hc hE hp (M.allocs D w (T #[L k,O aD (a:Int),O aE (o:Int)] 256) (T #[L ⟨#[]⟩,O aD 0,O aE 0] 256));have yl:=Jk9 wj k.data.toList st;have RUN:J _:=ke;go_enter func222,ntmps222;go_wp2_with fail;refine(JpF E b Hc g wj hw k st _ RUN.env RUN.port (by omega)).mono ?_;rintro _ w1⟨rfl,h⟩;obtain⟨g1,(Ht:J _)⟩:=RUN.step h;have bx1:=(Ht.box (k:=w.heap.size) (Ql _) (heap_alloc2_old _ _ _)).1;obtain⟨-,c1,c2⟩:=rows bx1;clear bx1 h;go_wp2_with fail;refine(JpT E b Hc g1 wj a o ho _ _ Ht.env Ht.port (by omega)).mono ?_;rintro _ w2⟨rfl,h⟩;obtain⟨g2,(kH:J _)⟩:=Ht.step h;have rR:=(kH.box (k:=w.heap.size+1) (by omega) (heap_alloc2_new _ _ _)).1;obtain⟨e0,e1,e2⟩:=rows rR;have fR:∀j,w2.frozen? ⟨w.heap.size+1,j,Y⟩=false:=λj=>Qg _ _ _ _ _ rR;have jQ:=(Jb rR)
 have RR:J _:=rR;clear rR h;go_wp2;rw[set3 _ _ _ _ _ _ _ _ _ RR.out];exact QK (v:=aH #[L ⟨(Jv wj k (a,o) st).1.1.toArray⟩,O aD ((Jv wj k (a,o) st).1.2.1:Int),O aE ((Jv wj k (a,o) st).1.2.2:Int)]) (Qq results222 _ _ (w.heap.size+1) _ _ (0,0) _ rfl ((Below.heap_alloc _ _ _ (by simpa using jQ)).trans (Qi _ _ _ _ _ _ RR)) underlying256 rfl (by kernel_rfl)) rfl ⟨rfl,(kH.done (k:=w.heap.size+1) (by omega) (heap_alloc2_new _ _ _) (by decide)).alloc _⟩
theorem Jka(E:Nat->Addr)(b:Nat)(Hc:18<=b)(g:Option Nat)(wj:Nat)(hw:wj<=1000)(k:Int)(x y:BA)(st:Option PS)(w:aA)(hE:Env E w)(hp:Jg E w b g wj st)(hd:JP st<=80000000):
  aB N 308 #[X (Z ⟨b,0,Y⟩),aH #[O I k,L x,L y]] w λe w'=>e=aC (aH #[O I ((stBr wj k x y st).1.1:Int),L ⟨(stBr wj k x y st).1.2.1.toArray⟩,L ⟨(stBr wj k x y st).1.2.2.toArray⟩])/\StTo E w w' b g wj (stBr wj k x y st).2:=by
 have H5:=hp.lt;have ke:=Run.start Hc hE hp (M.allocs D w (T #[O I k,L x,L y] 279) (T #[O I 0,L ⟨#[]⟩,L ⟨#[]⟩] 279));have yl:=JfG wj k st;have j5:=YD x.data.toList wj (YP wj k st).2;have RUN:J _:=ke;go_enter func308,ntmps308;go_wp2_with fail;refine(JlL E b Hc g wj hw k st _ RUN.env RUN.port (by omega)).mono ?_;rintro _ w1⟨rfl,h⟩;obtain⟨g1,(Ht:J _)⟩:=RUN.step h;have bx1:=(Ht.box (k:=w.heap.size) (Ql _) (heap_alloc2_old _ _ _)).1;obtain⟨-,c1⟩:=rows bx1;clear bx1 h;go_wp2_with fail;refine(YZ E b g1 wj x _ _ Ht.env Ht.port (by omega)).mono ?_;rintro _ w2⟨rfl,h⟩;obtain⟨g2,(kH:J _)⟩:=Ht.step h;have bx2:=(kH.box (k:=w.heap.size) (Ql _) (heap_alloc2_old _ _ _)).1;obtain⟨-, -,c2⟩:=rows bx2;clear bx2 h;go_wp2_with fail;refine(YZ E b g2 wj y _ _ kH.env kH.port (by omega)).mono ?_;rintro _ w3⟨rfl,h⟩;obtain⟨g3,(kf:J _)⟩:=kH.step h;have rR:=(kf.box (k:=w.heap.size+1) (by omega) (heap_alloc2_new _ _ _)).1;obtain⟨e0,e1,e2⟩:=rows rR;have fR:∀j,w3.frozen? ⟨w.heap.size+1,j,Y⟩=false:=λj=>Qg _ _ _ _ _ rR;have RR:J _:=rR;clear rR h;go_wp2;rw[set3 _ _ _ _ _ _ _ _ _ RR.out];exact QK (v:=aH #[O I ((stBr wj k x y st).1.1:Int),L ⟨(stBr wj k x y st).1.2.1.toArray⟩,L ⟨(stBr wj k x y st).1.2.2.toArray⟩]) (Qq results308 _ _ (w.heap.size+1) _ _ (0,0) _ rfl (Qi _ _ _ _ _ _ RR) underlying279 rfl (by kernel_rfl)) rfl ⟨rfl,kf.done (k:=w.heap.size+1) (by omega) (heap_alloc2_new _ _ _) (by decide)⟩

abbrev JcV:=BA×BA×(Nat×Nat)×Int×BA×BA
def Jpk:JcV:=(⟨#[]⟩,⟨#[]⟩,(0,0),0,⟨#[]⟩,⟨#[]⟩)
def JaJ(n:JcV):Array aG:= #[L n.1,L n.2.1,O aD (n.2.2.1.1:Int),O aE (n.2.2.1.2:Int),O I n.2.2.2.1,L n.2.2.2.2.1,L n.2.2.2.2.2]
def Yk(wj:Nat)(n:JcV)(st:Option PS):JcV×Option PS:=
 if (Jk n.1.data.toList 1 st).1=[69] then ((⟨#[69]⟩,⟨#[]⟩,(0,0),0,⟨#[]⟩,⟨#[]⟩),(Jk n.1.data.toList 1 st).2)
 else if (Jk n.1.data.toList 1 st).1=[76] then ((⟨#[76]⟩,⟨(Jv wj n.2.1 n.2.2.1 (Jk n.1.data.toList 1 st).2).1.1.toArray⟩,(Jv wj n.2.1 n.2.2.1 (Jk n.1.data.toList 1 st).2).1.2,0,⟨#[]⟩,⟨#[]⟩),(Jv wj n.2.1 n.2.2.1 (Jk n.1.data.toList 1 st).2).2)
 else if (Jk n.1.data.toList 1 st).1=[78] then ((⟨#[78]⟩,⟨#[]⟩,(0,0),((stBr wj n.2.2.2.1 n.2.2.2.2.1 n.2.2.2.2.2 (Jk n.1.data.toList 1 st).2).1.1:Int),⟨(stBr wj n.2.2.2.1 n.2.2.2.2.1 n.2.2.2.2.2 (Jk n.1.data.toList 1 st).2).1.2.1.toArray⟩,⟨(stBr wj n.2.2.2.1 n.2.2.2.2.1 n.2.2.2.2.2 (Jk n.1.data.toList 1 st).2).1.2.2.toArray⟩),(stBr wj n.2.2.2.1 n.2.2.2.2.1 n.2.2.2.2.2 (Jk n.1.data.toList 1 st).2).2)
 else (Jpk,Y)
theorem Jlc{n:JcV}(h:stWr st):stWr (Yk wj n st).2:=by
 unfold Yk
 split
 ·exact Yq h
 ·split
  ·exact Jla (Yq h)
  ·split
   ·exact JoP (Yq h)
   ·exact Jam
theorem set7(w:aA)(g:Nat)(t:TypeId)(a b c d e f h v0 v1 v2 v3 v4 v5 v6:aG)(hr:w.heap[g]? =Z (T #[a,b,c,d,e,f,h] t (0,0))):
  ((((((w.setCell ⟨g,0,Y⟩ v0).setCell ⟨g,1,Y⟩ v1).setCell ⟨g,2,Y⟩ v2).setCell ⟨g,3,Y⟩ v3).setCell ⟨g,4,Y⟩ v4).setCell ⟨g,5,Y⟩ v5).setCell ⟨g,6,Y⟩ v6=w.setRow g #[v0,v1,v2,v3,v4,v5,v6]:=by
 rw[Qj w g 0 _ t (0,0) v0 hr,Qj _ g 1 _ t (0,0) v1 (Qi _ _ _ _ _ _ hr),QI,
  Qj _ g 2 _ t (0,0) v2 (Qi _ _ _ _ _ _ hr),QI,Qj _ g 3 _ t (0,0) v3 (Qi _ _ _ _ _ _ hr),QI,
  Qj _ g 4 _ t (0,0) v4 (Qi _ _ _ _ _ _ hr),QI,Qj _ g 5 _ t (0,0) v5 (Qi _ _ _ _ _ _ hr),QI,
  Qj _ g 6 _ t (0,0) v6 (Qi _ _ _ _ _ _ hr),QI]
 refine congrArg (w.setRow g) ?_;simp
theorem Jav(k:BA)(a o:Int)(w:aA):aB N 307 #[aH #[L k,O aD a,O aE o]] w λe w'=>e=aC (aH #[L ⟨#[76]⟩,L k,O aD a,O aE o,O I 0,L ⟨#[]⟩,L ⟨#[]⟩])/\M D w w':=by
 go_enter func307,ntmps307;go_wp2;exact QK (v:=aH #[L ⟨#[76]⟩,L k,O aD a,O aE o,O I 0,L ⟨#[]⟩,L ⟨#[]⟩]) (Qq results307 _ _ (w.heap.size+1) _ _ (0,0) _ rfl (heap_alloc2_new _ _ _) underlying281 rfl (by kernel_rfl)) rfl ⟨rfl,M.allocs _ _ _ _⟩
theorem ZC(k:Int)(x y:BA)(w:aA):aB N 309 #[aH #[O I k,L x,L y]] w λe w'=>e=aC (aH #[L ⟨#[78]⟩,L ⟨#[]⟩,O aD 0,O aE 0,O I k,L x,L y])/\M D w w':=by
 go_enter func309,ntmps309;go_wp2;exact QK (v:=aH #[L ⟨#[78]⟩,L ⟨#[]⟩,O aD 0,O aE 0,O I k,L x,L y]) (Qq results309 _ _ (w.heap.size+1) _ _ (0,0) _ rfl (heap_alloc2_new _ _ _) underlying281 rfl (by kernel_rfl)) rfl ⟨rfl,M.allocs _ _ _ _⟩
theorem Run.next{wj:Int}(h:Run E w0 wA w b g g' wj st)(k:M D w w'):Run E w0 wA w' b g g' wj st:=
 ⟨h.port.next k,h.moved,h.tch.trans k noE,h.env.tch k noE,h.k12,h.low,h.own,h.new⟩
theorem Joy(E:Nat->Addr)(b:Nat)(Hc:18<=b)(g:Option Nat)(wj:Nat)(hw:wj<=1000)(n:JcV)(ho:n.2.2.1.2<256)(st:Option PS)(w:aA)(hE:Env E w)(hp:Jg E w b g wj st)(hd:JP st<=70000000):
  aB N 240 #[X (Z ⟨b,0,Y⟩),aH (JaJ n)] w λe w'=>e=aC (aH (JaJ (Yk wj n st).1))/\StTo E w w' b g wj (Yk wj n st).2:=by
 have H5:=hp.lt;obtain⟨l,k,⟨a,o⟩,bt,x,y⟩:=n;dsimp only at ho;have HC:J (JaJ (l,k,(a,o),bt,x,y)= #[L l,L k,O aD (a:Int),O aE (o:Int),O I bt,L x,L y]):=rfl;rw[HC.o];have ke:=Run.start Hc hE hp (M.allocs D w (T #[L l,L k,O aD (a:Int),O aE (o:Int),O I bt,L x,L y] 281) (T #[L ⟨#[]⟩,L ⟨#[]⟩,O aD 0,O aE 0,O I 0,L ⟨#[]⟩,L ⟨#[]⟩] 281));have yl:=YD l.data.toList 1 st;have RUN:J _:=ke;go_enter func240,ntmps240;go_wp2_with fail;refine(Jgv E b g wj l 1 st _ RUN.env RUN.port (by omega)).mono ?_;rintro _ w1⟨rfl,h⟩;obtain⟨g1,(Ht:J _)⟩:=RUN.step h;have bx1:=(Ht.box (k:=w.heap.size) (Ql _) (heap_alloc2_old _ _ _)).1;have rR:=(Ht.box (k:=w.heap.size+1) (by omega) (heap_alloc2_new _ _ _)).1;have rj:=(Jb rR)
 obtain⟨-,c1,c2,c3,c4,c5,c6⟩:=rows bx1;have RR1:J _:=rR;clear bx1 h rR;have hn0:∀c:UInt8,(Jk l.data.toList 1 st).1 ≠ [c]->((⟨(Jk l.data.toList 1 st).1.toArray⟩:BA).toList == [c])=false:=λc h=>by
  rw[ByteArray.toList_eq];simpa using h
 have HN0:J _:=hn0
 by_cases h0:(Jk l.data.toList 1 st).1=[69]
 ·have hb:(⟨(Jk l.data.toList 1 st).1.toArray⟩:BA)=⟨#[69]⟩:=by rw[h0]
  have HS:J (Yk wj (l,k,(a,o),bt,x,y) st=((⟨#[69]⟩,⟨#[]⟩,(0,0),0,⟨#[]⟩,⟨#[]⟩),(Jk l.data.toList 1 st).2)):=if_pos h0;rw[hb];obtain⟨e0,e1,e2,e3,e4,e5,e6⟩:=rows RR1.out;have fR:∀j,w1.frozen? ⟨w.heap.size+1,j,Y⟩=false:=λj=>Qg _ _ _ _ _ RR1.out;go_wp2;rw[set7 _ _ _ _ _ _ _ _ _ _ _ _ _ _ _ _ _ RR1.out];refine QK (v:=aH (JaJ (⟨#[69]⟩,⟨#[]⟩,(0,0),0,⟨#[]⟩,⟨#[]⟩))) (Qq results240 _ _ (w.heap.size+1) _ _ (0,0) _ rfl (Qi _ _ _ _ _ _ RR1) underlying281 rfl (by kernel_rfl)) rfl ⟨by rw[HS.o],?_⟩;rw[HS.o];exact Ht.done (k:=w.heap.size+1) (by omega) (heap_alloc2_new _ _ _) (by decide)
 ·by_cases h1:(Jk l.data.toList 1 st).1=[76]
  ·have hb:(⟨(Jk l.data.toList 1 st).1.toArray⟩:BA)=⟨#[76]⟩:=(by rw[h1]);have HS:J (Yk wj (l,k,(a,o),bt,x,y) st=((⟨#[76]⟩,⟨(Jv wj k (a,o) (Jk l.data.toList 1 st).2).1.1.toArray⟩,(Jv wj k (a,o) (Jk l.data.toList 1 st).2).1.2,0,⟨#[]⟩,⟨#[]⟩),(Jv wj k (a,o) (Jk l.data.toList 1 st).2).2)):=(if_neg h0).trans (if_pos h1);rw[hb];go_wp2_with fail;refine(JjH E b Hc g1 wj hw k a o ho _ _ Ht.env Ht.port (by omega)).mono ?_;rintro _ w2⟨rfl,h⟩;obtain⟨g2,(kH:J _)⟩:=Ht.step h;clear h;go_wp2_with fail;refine(Jav _ _ _ _).mono ?_;rintro _ w3⟨rfl,h⟩;have R3:=kH.out.next h;have rR:=(R3.box (k:=w.heap.size+1) (by omega) (heap_alloc2_new _ _ _)).1;obtain⟨e0,e1,e2,e3,e4,e5,e6⟩:=rows rR;have fR:∀j,w3.frozen? ⟨w.heap.size+1,j,Y⟩=false:=λj=>Qg _ _ _ _ _ rR;have kf:J _:=R3;have RR3:J _:=rR;go_wp2;rw[set7 _ _ _ _ _ _ _ _ _ _ _ _ _ _ _ _ _ RR3.out];refine QK (v:=aH #[L ⟨#[76]⟩,L _,O aD _,O aE _,O I 0,L ⟨#[]⟩,L ⟨#[]⟩]) (Qq results240 _ _ (w.heap.size+1) _ _ (0,0) _ rfl (Qi _ _ _ _ _ _ RR3) underlying281 rfl (by kernel_rfl)) rfl ⟨by rw[HS.o];rfl,?_⟩;rw[HS.o];exact kf.done (k:=w.heap.size+1) (by omega) (heap_alloc2_new _ _ _) (by decide)
  ·by_cases h2:(Jk l.data.toList 1 st).1=[78]
   ·have hb:(⟨(Jk l.data.toList 1 st).1.toArray⟩:BA)=⟨#[78]⟩:=(by rw[h2]);have HS:J (Yk wj (l,k,(a,o),bt,x,y) st=((⟨#[78]⟩,⟨#[]⟩,(0,0),((stBr wj bt x y (Jk l.data.toList 1 st).2).1.1:Int),⟨(stBr wj bt x y (Jk l.data.toList 1 st).2).1.2.1.toArray⟩,⟨(stBr wj bt x y (Jk l.data.toList 1 st).2).1.2.2.toArray⟩),(stBr wj bt x y (Jk l.data.toList 1 st).2).2)):=(if_neg h0).trans ((if_neg h1).trans (if_pos h2));rw[hb];go_wp2_with fail;refine(Jka E b Hc g1 wj hw bt x y _ _ Ht.env Ht.port (by omega)).mono ?_;rintro _ w2⟨rfl,h⟩;obtain⟨g2,(kH:J _)⟩:=Ht.step h;clear h;go_wp2_with fail;refine(ZC _ _ _ _).mono ?_;rintro _ w3⟨rfl,h⟩;have R3:=kH.out.next h;have rR:=(R3.box (k:=w.heap.size+1) (by omega) (heap_alloc2_new _ _ _)).1;obtain⟨e0,e1,e2,e3,e4,e5,e6⟩:=rows rR;have fR:∀j,w3.frozen? ⟨w.heap.size+1,j,Y⟩=false:=λj=>Qg _ _ _ _ _ rR;have kf:J _:=R3;have RR3:J _:=rR;go_wp2;rw[set7 _ _ _ _ _ _ _ _ _ _ _ _ _ _ _ _ _ RR3.out];refine QK (v:=aH #[L ⟨#[78]⟩,L ⟨#[]⟩,O aD 0,O aE 0,O I _,L _,L _]) (Qq results240 _ _ (w.heap.size+1) _ _ (0,0) _ rfl (Qi _ _ _ _ _ _ RR3) underlying281 rfl (by kernel_rfl)) rfl ⟨by rw[HS.o];rfl,?_⟩;rw[HS.o];exact kf.done (k:=w.heap.size+1) (by omega) (heap_alloc2_new _ _ _) (by decide)
   ·have HS:J (Yk wj (l,k,(a,o),bt,x,y) st=(Jpk,Y)):=(if_neg h0).trans ((if_neg h1).trans (if_neg h2));have b0:=HN0 69 h0;have b1:=HN0 76 h1;have b2:=HN0 78 h2;generalize (⟨(Jk l.data.toList 1 st).1.toArray⟩:BA)=tb at *;go_wp2_with fail;refine(Jal E b g1 wj _ _ _ Ht.env Ht.port).mono ?_;rintro _ w2⟨rfl,h⟩;obtain⟨g2,(kH:J _)⟩:=Ht.step h;have rR:=(kH.box (k:=w.heap.size+1) (by omega) (heap_alloc2_new _ _ _)).1;obtain⟨e0,e1,e2,e3,e4,e5,e6⟩:=rows rR;have fR:∀j,w2.frozen? ⟨w.heap.size+1,j,Y⟩=false:=λj=>Qg _ _ _ _ _ rR;have RR2:J _:=rR;clear rR h;go_wp2;rw[set7 _ _ _ _ _ _ _ _ _ _ _ _ _ _ _ _ _ RR2.out];refine QK (v:=aH #[L ⟨#[]⟩,L ⟨#[]⟩,O aD 0,O aE 0,O I 0,L ⟨#[]⟩,L ⟨#[]⟩]) (Qq results240 _ _ (w.heap.size+1) _ _ (0,0) _ rfl (Qi _ _ _ _ _ _ RR2) underlying281 rfl (by kernel_rfl)) rfl ⟨by rw[HS.o];rfl,?_⟩;rw[HS.o];exact kH.done (k:=w.heap.size+1) (by omega) (heap_alloc2_new _ _ _) (by decide)

theorem Jaw(E:Nat->Addr)(wj:Nat)(hw:wj<=1000)(n:JcV)(ho:n.2.2.1.2<256)(w:aA)(hE:Env E w):
  aB N 154 #[aH (JaJ n),O I (wj:Int)] w λe w'=>M D w w'/\RetS E (JaL (Yk wj n (Z (.wr []))).2) e w':=by
 have hs:=hE.size;have HE:J _:=hE;have HC:J (∀W b,18<=b->Env E W->Jg E W b Y wj (Z (.wr []))->_):=λW b ri hE hp=>Joy E b ri Y wj hw n ho (Z (.wr [])) W hE hp (by show 0<=_;omega);obtain⟨l,k,⟨a,o⟩,bt,x,y⟩:=n;dsimp only at ho;have HV:J (JaJ (l,k,(a,o),bt,x,y)= #[L l,L k,O aD (a:Int),O aE (o:Int),O I bt,L x,L y]):=rfl;rw[HV.o]at HC ⊢;go_enter func154,ntmps154;go_wp2_with fail;refine(JY _ _).mono ?_;rintro _ w1⟨rfl,Hs,H6⟩;have tA:M D w (w.alloc (T #[L l,L k,O aD (a:Int),O aE (o:Int),O I bt,L x,L y] 281)):=Ta _ _ _;have hb:(w.alloc (T #[L l,L k,O aD (a:Int),O aE (o:Int),O I bt,L x,L y] 281)).heap.size=w.heap.size+1:=by simp
 rw[hb]at Hs;rw[hb];have r0:=(H6.block _ (by omega) (λh=>h)).trans (Qf _ _);obtain⟨d0,d1,d2,d3,d4,d5,d6⟩:=rows r0;have H3:J _:=(tA.trans H6 noE).trans (Td D w1 1) noE;have xZ:J (aB N 240 _ w1.drew _):=HC w1.drew (w.heap.size+1) (by omega) (HE.tch H3 noE) (Jg.next (E:=E) (st:=Z (.wr [])) Hs (Td _ w1 1));go_wp2_with fail;go_region_with (go_at_call 240;refine xZ.o.mono ?_;rintro _ w2⟨rfl,g2,kJ,kn,H7⟩;have Hw:J (Jg _ _ _ _ _ _):=kJ;have H4:J (M _ _ w2):=H7)
 all_goals
  have HR:J (aB N 79 _ w2 _):=Jao E (w.heap.size+1) g2 wj _ (Jlc Jey) w2 Hw.o;have H8:J _:=XD (b:=w.heap.size+1) (by omega) H3 H4.o;go_wp2_with fail;refine HR.o.mono ?_;rintro _ w3⟨Hm,hr⟩;have kY:J _:=hr;have He:J _:=Hm
  rcases hr.cases with⟨d,hd,rfl⟩|⟨hn,t,u,rfl,he⟩
  all_goals go_wp2;go_ret2;exact⟨H8.trans He noE,kY⟩

theorem Jgo{k:IntKind}{a b:Int}(h:a=b):Ending.returned (O k a)=aC (O k b):=by rw[h]
theorem bget(t:BA)(m:Nat)(h:m<t.size):t[m]=t.data.getD m 0:=by
 have h':m<t.data.size:=h;simp only[Array.getD];rw[dif_pos h'];rfl
theorem JnO(n:Nat)(h:n<256):bits .and I (n:Int) 1=((n % 2:Nat):Int):=by
 have:∀m:Fin 256,bits .and I ((m.val:Nat):Int) 1=((m.val % 2:Nat):Int):=by decide +kernel
 exact this ⟨n,h⟩
theorem XL(k:List UInt8)(i:Nat)(hi:i<8*k.length)(hl:k.length<=1000000)(w:aA):
  aB N 288 #[L ⟨k.toArray⟩,O I (i:Int)] w λe w'=>e=aC (O I (bt k i:Int))/\w'=w:=by
 have Hi:=Jh k;have rl:i/8<(⟨k.toArray⟩:BA).size:=by omega
 have HB:J ((⟨k.toArray⟩:BA)[i/8].toNat=(k.getD (i/8) 0).toNat):=by
  show UInt8.toNat _=_
  congr 1
  simp[List.getD_eq_getElem?_getD,show i/8<k.length by omega];rfl
 have H5:=lD (⟨k.toArray⟩:BA)[i/8];have xY:J (bt k i=(k.getD (i/8) 0).toNat/2 ^ (7-i % 8) % 2):=rfl;generalize (⟨k.toArray⟩:BA)=tb at *;have hq:((i:Int)/8).toNat=i/8:=by omega
 go_enter func288,ntmps288;go_wp2;go_ret;refine⟨Jgo ?_,rfl⟩;have e1:((tb[i/8].toNat:Int)/2 ^ (7-i % 8))=((tb[i/8].toNat/2 ^ (7-i % 8):Nat):Int):=by simp
 have zi:tb[i/8].toNat/2 ^ (7-i % 8)<=tb[i/8].toNat:=Nat.div_le_self _ _;rw[e1];have e2:wrap64 ((tb[i/8].toNat/2 ^ (7-i % 8):Nat):Int)=((tb[i/8].toNat/2 ^ (7-i % 8):Nat):Int):=by
  have h0:(0:Int)<=((tb[i/8].toNat/2 ^ (7-i % 8):Nat):Int):=Int.natCast_nonneg _;have h1:((tb[i/8].toNat/2 ^ (7-i % 8):Nat):Int)<256:=by omega
  generalize ((tb[i/8].toNat/2 ^ (7-i % 8):Nat):Int)=z at *;unfold wrap64;omega
 rw[e2,JnO _ (by omega),xY.o,HB.o]
theorem JpM(x:UInt8)(w:aA):
  aB N 334 #[O aE (x.toNat:Int)] w λe w'=>e=aC (O I (lz8 x:Int))/\w'=w:=by
 have h:=lD x;obtain⟨n,hn⟩:∃n,n=x.toNat:=⟨_,rfl⟩
 have hx:x=UInt8.ofNat n:=by rw[hn];simp
 have HX:J (x=UInt8.ofNat n):=hx;rw[<-hn]at h ⊢;clear hn hx;go_enter func334,ntmps334;go_wp2;go_ret;refine⟨Jgo ?_,rfl⟩;rw[HX.o,bget];have h':n<256:=h;clear HX h;rename_i hz;clear hz
 revert n
 decide +kernel

theorem JpK(x:UInt8):lz8 x<=8:=by
 unfold lz8
 repeat (first|omega|split)
theorem Jn3:∀(k:Nat)(a b:List UInt8),a.take k=b.take k->k<=a.length->a.length=b.length->fd a b=8*k+fd (a.drop k) (b.drop k):=by
 intro k
 induction k with
 | zero=>intro a b _ _ _;simp
 | succ k ih=>
  intro a b h hl zL
  cases a with
  | nil=>simp at hl
  | cons x a=>cases b with
   | nil=>simp at zL
   | cons y b=>
    simp only[List.take_succ_cons,QH]at h;obtain⟨rfl,h⟩:=h;simp only[fd,if_true,List.drop_succ_cons];rw[ih a b h (by simpa using hl) (by simpa using zL)];omega
theorem Jqq(k:Nat)(a b:List UInt8)(ha:k<a.length)(hb:k<b.length)(h:a[k] ≠ b[k]):fd (a.drop k) (b.drop k)=lz8 (a[k] ^^^ b[k]):=by
 rw[lF ha,lF hb];simp only[fd,h,if_false]
theorem Jkr(a b:List UInt8)(hl:a.length=b.length)(Hd:a ≠ b)(h1:a.length<=1000000)(w:aA):
  aB Tryz.prog 271 #[L ⟨a.toArray⟩,L ⟨b.toArray⟩] w λe w'=>e=aC (O I (fd a b:Int))/\∃n,w'=w.drewN n:=by
 have hsa:=Jh a;have cD:=Jh b;have HA:J (∀k (h:k<(⟨a.toArray⟩:BA).size) (z:k<a.length),(⟨a.toArray⟩:BA)[k]'h=a[k]'z):=λk h z=>by show (⟨a.toArray⟩:BA).data[k]=_;simp
 have HB:J (∀k (h:k<(⟨b.toArray⟩:BA).size) (z:k<b.length),(⟨b.toArray⟩:BA)[k]'h=b[k]'z):=λk h z=>by show (⟨b.toArray⟩:BA).data[k]=_;simp
 have HL:J _:=hl;generalize (⟨a.toArray⟩:BA)=A at *;generalize (⟨b.toArray⟩:BA)=B at *;have HSA:J _:=hsa;have iD:J _:=cD;go_enter Tryz.func271,Tryz.ntmps271;go_wp2;go_loopw [5] (λi wr=>∃k:Nat,i=O I (k:Int)/\k<a.length/\J (a.take k=b.take k)/\∃n,wr=w.drewN n) (λi _=>a.length-(intOf i).toNat)
 case atStart=>
  refine⟨0,rfl,?_,(by show _=_;simp),0,rfl⟩
  cases a with
  | nil=>have:=HL.o;simp at this;exact absurd (List.length_eq_zero_iff.1 this.symm).symm Hd
  | cons x a=>simp
 case round=>
  obtain⟨k,rfl,hk,zM,n,rfl⟩:=hrel;have hka:k<A.size:=by rw[HSA.o];exact hk
  have pj:k<B.size:=by rw[iD.o,<-HL.o];exact hk
  have pQ:k<b.length:=by rw[<-HL.o];exact hk
  have eA:=HA k hka hk;have eB:=HB k pj pQ
  by_cases jb:A[k]=B[k]
  ·have hb:((A[k].toNat:Int) == (B[k].toNat:Int))=true:=(by rw[jb];simp);have HEQ:J (a[k]=b[k]'pQ):=(by show _=_;rw[<-eA,<-eB,jb]);clear jb eA eB;go_wp2;go_region;go_wp2;have dU:a.take (k+1)=b.take (k+1):=(by rw[QR hk,QR pQ,zM.out,HEQ.o]);refine⟨⟨k+1,by go_num,?_,dU,n+1,rfl⟩,by simp[intOf];omega⟩
   by_cases hl:k+1<a.length
   ·exact hl
   ·exfalso;rw[QS (by omega),QS (by have:=HL.o;omega)]at dU;exact Hd dU
  ·have hb:((A[k].toNat:Int) == (B[k].toNat:Int))=false:=by
    rw[beq_eq_false_iff_ne];intro e;exact jb (UInt8.toNat_inj.1 (by omega))
   have HR:J (fd a b=8*k+lz8 (A[k] ^^^ B[k])):=(by show _=_;rw[Jn3 k a b zM.out (by omega) HL.o,Jqq k a b hk pQ (by rw[<-eA,<-eB];exact jb),eA,eB]);have hx:bits .xor aE (A[k].toNat:Int) (B[k].toNat:Int)=((A[k] ^^^ B[k]).toNat:Int):=(by rw[u8_xor_nat _ _ (lD _) (lD _),UInt8.toNat_xor]);have hlz:=JpM (A[k] ^^^ B[k]);rw[<-hx]at hlz;have hl8:=JpK (A[k] ^^^ B[k]);have vQ:I.wrap (8*(k:Int))=8*(k:Int):=(by simp[IntKind.wrap,IntKind.bits,IntKind.signed];omega);have bN:I.wrap (8*(k:Int)+(lz8 (A[k] ^^^ B[k]):Int))=8*(k:Int)+(lz8 (A[k] ^^^ B[k]):Int):=(by simp[IntKind.wrap,IntKind.bits,IntKind.signed];omega);clear hx;clear jb eA eB;go_wp2;go_region;go_wp2;go_region_with (go_at_call 334;refine(hlz _).mono ?_;rintro _ _⟨rfl,rfl⟩)
   all_goals go_wp2
   all_goals go_ret
   all_goals exact⟨Jgo (by rw[HR.o];go_num),n+2,rfl⟩

def JaH(dg:BA)(k:Key)(o:Nat×Nat):Array aG:= #[L dg,L ⟨k.toArray⟩,O aD (o.1:Int),O aE (o.2:Int),O I 0,X Y,X Y]
def brC(dg:BA)(b nl nr:Nat):Array aG:= #[L dg,L ⟨#[]⟩,O aD 0,O aE 0,O I (b:Int),X (Z ⟨nl,0,Y⟩),X (Z ⟨nr,0,Y⟩)]
inductive Jl (d:List UInt8->BA) (F:Nat->Prop) (w:aA):Nat->Tr->Prop where
 | leaf (n:Nat) (k:Key) (o:Nat×Nat):F n->w.heap[n]? =Z (T (JaH (Tr.dig d (.leaf k o)) k o) 243)->Jl d F w n (.leaf k o)
 | br (n b nl nr:Nat) (l r:Tr):F n->w.heap[n]? =Z (T (brC (Tr.dig d (.br b l r)) b nl nr) 243)->Jl d F w nl l->Jl d F w nr r->Jl d F w n (.br b l r)
theorem Jl.tch(h:Jl d F w n t)(k:M S w w')(hs:∀j,S j->¬F j):Jl d F w' n t:=by
 induction h with
 | leaf n key o hF hr=>exact .leaf n key o hF ((k.block n (Jb hr) (λe=>hs n e hF)).trans hr)
 | br n b nl nr l r hF hr _ _ ihl ihr=>exact .br n b nl nr l r hF ((k.block n (Jb hr) (λe=>hs n e hF)).trans hr) ihl ihr
theorem Jl.next(h:Jl d F w n t)(k:M D w w'):Jl d F w' n t:=h.tch k noE
theorem Jl.mono{F':Nat->Prop}(h:Jl d F w n t)(hF:∀j,F j->F' j):Jl d F' w n t:=by
 induction h with
 | leaf n key o h1 hr=>exact .leaf n key o (hF n h1) hr
 | br n b nl nr l r h1 hr _ _ ihl ihr=>exact .br n b nl nr l r (hF n h1) hr ihl ihr
theorem Jl.own(h:Jl d F w n t):F n/\n<w.heap.size:=by
 cases h with
 | leaf _ _ _ h1 hr=>exact⟨h1,(Jb hr)⟩
 | br _ _ _ _ _ _ h1 hr=>exact⟨h1,(Jb hr)⟩
theorem Jl.digCell(h:Jl d F w n t):w.cell? ⟨n,0,Y⟩=Z (L (t.dig d)):=by
 cases h with
 | leaf _ _ _ h1 hr=>exact Ja hr
 | br _ _ _ _ _ _ h1 hr=>exact Ja hr
def TrOk(wj:Nat):Tr->Prop
 | .leaf k o=>k.length=wj+1/\(k.getD wj 0).toNat<3/\JC o
 | .br b l r=>b<8*(wj+1)/\TrOk wj l/\TrOk wj r
theorem JhT(wj:Nat)(l k:BA)(o:Nat×Nat)(b:Int)(x y:BA)(st s1:Option PS)(h:Jk l.data.toList 1 st=([76],s1)):(Yk wj (l,k,o,b,x,y) st).2=(Jv wj k o s1).2:=by
 unfold Yk;simp[h]
theorem Jlb(wj:Nat)(l k:BA)(o:Nat×Nat)(b:Int)(x y:BA)(st s1:Option PS)(h:Jk l.data.toList 1 st=([78],s1)):(Yk wj (l,k,o,b,x,y) st).2=(stBr wj b x y s1).2:=by
 unfold Yk;simp[h]
theorem Jfp(wj:Nat)(k:Key)(o:Nat×Nat)(h:TrOk wj (.leaf k o)):JaL (Yk wj (⟨#[76]⟩,⟨k.toArray⟩,o,0,⟨#[]⟩,⟨#[]⟩) (Z (.wr []))).2=Z (76::(k++outB o)):=by
 obtain⟨h1,h2,h3⟩:=h;have e1:Jk [76] 1 (Z (.wr []))=([76],Z (.wr [76])):=JN rfl;have e2:(PS.wr [76]).txt k (wj+1)=Z (k,.wr ([76]++k)):=by simp only[PS.txt];rw[if_pos h1]
 have e3:YW wj k (Z (.wr [76]))=(k,Z (.wr ([76]++k))):=by unfold YW;rw[JN e2];dsimp only;rw[if_neg (by omega)]
 have e4:(PS.wr ([76]++k)).out o.1 o.2=Z (o,.wr ([76]++k++outB o)):=(Jgp o 0 0 h3).wr _;obtain⟨p1,q1,q2,_⟩:=Jb8 _ _ _ _ _ e4;have e5:stO o (Z (.wr ([76]++k)))=(o,Z (.wr ([76]++k++outB o))):=by unfold stO;rw[JS q1];dsimp only;rw[JS q2]
 have e6:Jv wj ⟨k.toArray⟩ o (Z (.wr [76]))=((k,o),Z (.wr ([76]++k++outB o))):=by unfold Jv;show (((YW wj k _).1,_),_)=_;rw[e3];dsimp only;rw[e5]
 rw[JhT wj ⟨#[76]⟩ _ _ _ _ _ _ _ e1,e6];simp[JaL]
theorem Jjy(wj:Nat)(b:Nat)(x y:BA)(hw:wj<=1000)(hb:b<8*(wj+1))(hx:x.size=wj)(hy:y.size=wj):JaL (Yk wj (⟨#[78]⟩,⟨#[]⟩,(0,0),(b:Int),x,y) (Z (.wr []))).2=Z (78::(beL b 2 2++(x.data.toList++y.data.toList))):=by
 have e1:Jk [78] 1 (Z (.wr []))=([78],Z (.wr [78])):=JN rfl;have ex:JD (b:Int)=b:=by unfold JD;omega
 have e2:(PS.wr [78]).num b 2=Z (b,.wr ([78]++beL b 2 2)):=(Yj b 2 0 (by omega)).wr _;have e3:YP wj (b:Int) (Z (.wr [78]))=(b,Z (.wr ([78]++beL b 2 2))):=by unfold YP;rw[ex,JS e2];dsimp only;rw[if_neg (by omega)]
 have e4:(PS.wr ([78]++beL b 2 2)).txt x.data.toList wj=Z (x.data.toList,.wr ([78]++beL b 2 2++x.data.toList)):=(ZV x.data.toList [] wj (by rw[<-hx];simp)).wr _;have e5:(PS.wr ([78]++beL b 2 2++x.data.toList)).txt y.data.toList wj=Z (y.data.toList,.wr ([78]++beL b 2 2++x.data.toList++y.data.toList)):=(ZV y.data.toList [] wj (by rw[<-hy];simp)).wr _;have e6:(stBr wj (b:Int) x y (Z (.wr [78]))).2=Z (.wr ([78]++beL b 2 2++x.data.toList++y.data.toList)):=by unfold stBr;rw[e3];dsimp only;rw[JN e4];dsimp only;rw[JN e5]
 rw[Jlb wj ⟨#[78]⟩ _ _ _ _ _ _ _ e1,e6];simp[JaL]
theorem resN(h:M D (w.alloc (T #[L ⟨#[]⟩,L ⟨#[]⟩,O aD 0,O aE 0,O I 0,L ⟨#[]⟩,L ⟨#[]⟩] 281)).drew w1):
  w1.heap[w.heap.size]? =Z (T #[L ⟨#[]⟩,L ⟨#[]⟩,O aD 0,O aE 0,O I 0,L ⟨#[]⟩,L ⟨#[]⟩] 281)/\w1.cell? ⟨w.heap.size,0,Y⟩=Z (L ⟨#[]⟩)/\w1.cell? ⟨w.heap.size,1,Y⟩=Z (L ⟨#[]⟩)/\w1.cell? ⟨w.heap.size,2,Y⟩=Z (O aD 0)/\w1.cell? ⟨w.heap.size,3,Y⟩=Z (O aE 0)/\w1.cell? ⟨w.heap.size,4,Y⟩=Z (O I 0)/\w1.cell? ⟨w.heap.size,5,Y⟩=Z (L ⟨#[]⟩)/\w1.cell? ⟨w.heap.size,6,Y⟩=Z (L ⟨#[]⟩)/\(∀j,w1.frozen? ⟨w.heap.size,j,Y⟩=false)/\M D w w1:=by
 have r:=(h.block _ (by show _<(w.alloc _).heap.size;simp) (λh=>h)).trans (Qf _ _);exact⟨r,Ja r,Ja r,Ja r,Ja r,Ja r,Ja r,Ja r,λj=>Qg _ _ _ _ _ r,((Ta D w _).trans (Td _ _ 1) (λ_ h=>aM h)).trans h noE⟩
theorem JiO(n:Nat)(dg:BA)(k:Key)(o:Nat×Nat)(w:aA)(h:w.heap[n]? =Z (T (JaH dg k o) 243)):
  aB N 353 #[X (Z ⟨n,0,Y⟩)] w λe w'=>e=aC (aH (JaJ (⟨#[76]⟩,⟨k.toArray⟩,o,0,⟨#[]⟩,⟨#[]⟩)))/\M D w w':=by
 obtain⟨oa,oo⟩:=o;obtain⟨-,c1,c2,c3, -,c5⟩:=rows h;have H5:=(Jb h)
 generalize (⟨k.toArray⟩:BA)=kb at *;have HV:J (JaJ (⟨#[76]⟩,kb,(oa,oo),0,⟨#[]⟩,⟨#[]⟩)= #[L ⟨#[76]⟩,L kb,O aD (oa:Int),O aE (oo:Int),O I 0,L ⟨#[]⟩,L ⟨#[]⟩]):=rfl;rw[HV.o];go_enter func353,ntmps353;go_wp2;go_region_with (go_at_call 307;refine(Jav _ _ _ _).mono ?_;rintro _ w1⟨rfl,H6⟩;obtain⟨(RR:J _),e0,e1,e2,e3,e4,e5,e6,fR,(H3:J _)⟩:=resN H6;clear H6)
 all_goals go_wp2;rw[set7 _ _ _ _ _ _ _ _ _ _ _ _ _ _ _ _ _ RR.out];exact QK (v:=aH #[L ⟨#[76]⟩,L kb,O aD (oa:Int),O aE (oo:Int),O I 0,L ⟨#[]⟩,L ⟨#[]⟩]) (Qq results353 _ _ w.heap.size _ _ (0,0) _ rfl (Qi _ _ _ _ _ _ RR) underlying281 rfl (by kernel_rfl)) rfl ⟨rfl,H3.trans (Ts _ w.heap.size _) (λj hj=>aN (by omega))⟩
theorem Jhg{g:Nat}{t:TypeId}{a b c d e f h:aG}(hr:w.heap[g]? =Z (T #[a,b,c,d,e,f,h] t (0,0)))(v0 v1 v2 v3 v4 v5 v6:aG){o:Nat}(hn:n<w.heap.size)(Hd:n ≠ g)(hc:w.cell? ⟨n,o,Y⟩=Z v):
  (((((((w.setCell ⟨g,0,Y⟩ v0).setCell ⟨g,1,Y⟩ v1).setCell ⟨g,2,Y⟩ v2).setCell ⟨g,3,Y⟩ v3).setCell ⟨g,4,Y⟩ v4).setCell ⟨g,5,Y⟩ v5).setCell ⟨g,6,Y⟩ v6).cell? ⟨n,o,Y⟩=Z v:=by
 rw[set7 w g t a b c d e f h v0 v1 v2 v3 v4 v5 v6 hr];exact((Ts w g _).cell (p:=⟨n,o,Y⟩) hn Hd).trans hc
theorem JmK(n:Nat)(dg:BA)(b nl nr:Nat)(x y:BA)(w:aA)(h:w.heap[n]? =Z (T (brC dg b nl nr) 243))(hx:w.cell? ⟨nl,0,Y⟩=Z (L x))(hy:w.cell? ⟨nr,0,Y⟩=Z (L y))(jH:nl<w.heap.size)(rJ:nr<w.heap.size):
  aB N 353 #[X (Z ⟨n,0,Y⟩)] w λe w'=>e=aC (aH (JaJ (⟨#[78]⟩,⟨#[]⟩,(0,0),(b:Int),x,y)))/\M D w w':=by
 obtain⟨-, -, -, -,c4,c5,c6⟩:=rows h;have H5:=(Jb h)
 have HV:J (JaJ (⟨#[78]⟩,⟨#[]⟩,(0,0),(b:Int),x,y)= #[L ⟨#[78]⟩,L ⟨#[]⟩,O aD 0,O aE 0,O I (b:Int),L x,L y]):=rfl;rw[HV.o];go_enter func353,ntmps353;go_wp2;go_region_held3 (λW=>W.cell? ⟨n,4,Y⟩=Z (O I (b:Int))/\W.cell? ⟨n,5,Y⟩=Z (X (Z ⟨nl,0,Y⟩))/\W.cell? ⟨n,6,Y⟩=Z (X (Z ⟨nr,0,Y⟩))/\W.cell? ⟨nl,0,Y⟩=Z (L x)/\W.cell? ⟨nr,0,Y⟩=Z (L y)) (go_keep) ((go_at_call 309;refine(ZC _ _ _ _).mono ?_;rintro _ w1⟨rfl,H6⟩;obtain⟨(RR:J _),e0,e1,e2,e3,e4,e5,e6,fR,(H3:J _)⟩:=resN H6;have f4:=(H3.cell (p:=⟨n,4,Y⟩) H5 (λh=>h)).trans c4;have f5:=(H3.cell (p:=⟨n,5,Y⟩) H5 (λh=>h)).trans c5;have f6:=(H3.cell (p:=⟨n,6,Y⟩) H5 (λh=>h)).trans c6;have f7:=(H3.cell (p:=⟨nl,0,Y⟩) jH (λh=>h)).trans hx;have f8:=(H3.cell (p:=⟨nr,0,Y⟩) rJ (λh=>h)).trans hy;have hz:=H3.size;have g4:=Jhg RR (L ⟨#[78]⟩) (L ⟨#[]⟩) (O aD 0) (O aE 0) (O I (b:Int)) (L x) (L y) (by omega) (by omega) f4;have g5:=Jhg RR (L ⟨#[78]⟩) (L ⟨#[]⟩) (O aD 0) (O aE 0) (O I (b:Int)) (L x) (L y) (by omega) (by omega) f5;have g6:=Jhg RR (L ⟨#[78]⟩) (L ⟨#[]⟩) (O aD 0) (O aE 0) (O I (b:Int)) (L x) (L y) (by omega) (by omega) f6;have g7:=Jhg RR (L ⟨#[78]⟩) (L ⟨#[]⟩) (O aD 0) (O aE 0) (O I (b:Int)) (L x) (L y) (by omega) (by omega) f7;have g8:=Jhg RR (L ⟨#[78]⟩) (L ⟨#[]⟩) (O aD 0) (O aE 0) (O I (b:Int)) (L x) (L y) (by omega) (by omega) f8;clear H6))
 all_goals go_wp2;rw[set7 _ _ _ _ _ _ _ _ _ _ _ _ _ _ _ _ _ RR.out];exact QK (v:=aH #[L ⟨#[78]⟩,L ⟨#[]⟩,O aD 0,O aE 0,O I (b:Int),L x,L y]) (Qq results353 _ _ w.heap.size _ _ (0,0) _ rfl (Qi _ _ _ _ _ _ RR) underlying281 rfl (by kernel_rfl)) rfl ⟨rfl,H3.trans (Ts _ w.heap.size _) (λj hj=>aN (by omega))⟩

theorem Jp1(w:aA)(g:Nat)(t:TypeId)(a b c d e f h v0:aG)(hr:w.heap[g]? =Z (T #[a,b,c,d,e,f,h] t (0,0))):
  (w.setCell ⟨g,0,Y⟩ v0).heap[g]? =Z (T #[v0,b,c,d,e,f,h] t (0,0))/\M (λk=>k=g) w (w.setCell ⟨g,0,Y⟩ v0):=by
 rw[Qj w g 0 _ t (0,0) v0 hr];refine⟨?_,Ts _ _ _⟩;rw[Qi _ _ _ _ _ _ hr];rfl
theorem JbX(E:Nat->Addr)(wj:Nat)(Hf:1<=wj)(hw:wj<=32)(c1 c2 c3 c4 c5 c6:aG)(nd:JcV)(ho:nd.2.2.1.2<256)(txt:List UInt8)(hl:txt.length<=1000)(w:aA)(hE:Env E w)
 (hc:∃(k:BA)(a o b:Int)(l r:Option Addr),c1=L k/\c2=O aD a/\c3=O aE o/\c4=O I b/\c5=X l/\c6=X r)
 (jw:∀W,M D w W->W.heap[w.heap.size]? =Z (T #[L ⟨#[]⟩,c1,c2,c3,c4,c5,c6] 243)->aB N 353 #[X (Z ⟨w.heap.size,0,Y⟩)] W λe w'=>e=aC (aH (JaJ nd))/\M D W w')
 (vk:JaL (Yk wj nd (Z (.wr []))).2=Z txt):
  aB N 331 #[O I (wj:Int),aH #[L ⟨#[]⟩,c1,c2,c3,c4,c5,c6]] w λe w'=>e=aC (aI #[X (Z ⟨w.heap.size,0,Y⟩),aK])/\w'.heap[w.heap.size]? =Z (T #[L (dgW wj txt),c1,c2,c3,c4,c5,c6] 243)/\M D w w':=by
 obtain⟨k,a,o,b,l,r,rfl,rfl,rfl,rfl,rfl,rfl⟩:=hc;have HP:J _:=jw;have HE:J _:=hE;have kR:J _:=vk;obtain⟨nl,nk,⟨na,no⟩,nb,nx,ny⟩:=nd;dsimp only at ho;have HV:J (JaJ (nl,nk,(na,no),nb,nx,ny)= #[L nl,L nk,O aD (na:Int),O aE (no:Int),O I nb,L nx,L ny]):=rfl;go_enter func331,ntmps331;go_wp2_with fail;refine(HP _ (Ta _ _ _) (Qf _ _)).mono ?_;rw[HV.o];rintro _ w1⟨rfl,H6⟩;have tA:=(Ta D w _).trans H6 noE;have r1:=(H6.block _ (by simp) (λh=>h)).trans (Qf _ _);have HT:J (aB N 154 _ w1 _):=Jaw E wj (by omega) (nl,nk,(na,no),nb,nx,ny) ho w1 (HE.tch tA noE);rw[HV.o,kR.o]at HT;have R1:J _:=r1;have TA:J _:=tA;go_wp2_with fail;refine HT.o.mono ?_;rintro _ w2⟨H7,rfl⟩;have tB:=TA.trans H7 noE;have r2:=(H7.block _ (Jb R1) (λh=>h)).trans R1.o;have xW:J (∀W,M D w2 W->_):=λW hT=>JaX E wj ⟨txt.toArray⟩ W ((HE.tch tB noE).tch hT noE) Hf hw (by rw[Jh];omega);have R2:J _:=r2;have TB:J _:=tB;generalize hTX:(⟨txt.toArray⟩:BA)=tb at *;have gE:J _:=hTX;go_wp2_with fail;refine(xW w2 (Te _ _)).mono ?_;rintro _ w3⟨rfl,Hm⟩;have r3:=(Hm.block _ (Jb R2) (λh=>h)).trans R2.o;obtain⟨e0, -⟩:=rows r3;have f0:w3.frozen? ⟨w.heap.size,0,Y⟩=false:=Qg _ _ _ _ _ r3;obtain⟨(Q1:J _),(Q2:J _)⟩:=Jp1 w3 w.heap.size _ _ _ _ _ _ _ _ (L (dgW wj tb.data.toList)) r3;have TC:J _:=TB.trans Hm noE;have HDL:J (tb.data.toList=txt):=by show _=_;rw[<-gE.o]
 clear r3 Hm xW;go_wp2;go_ret2;refine⟨rfl,?_,TC.trans Q2 (λj hj=>aN (by omega))⟩;rw[<-HDL.o];exact Q1.out
theorem JeS(E:Nat->Addr)(wj:Nat)(Hf:1<=wj)(hw:wj<=32)(k:Key)(o:Nat×Nat)(hk:TrOk wj (.leaf k o))(w:aA)(hE:Env E w):
  aB N 331 #[O I (wj:Int),aH (JaH ⟨#[]⟩ k o)] w λe w'=>e=aC (aI #[X (Z ⟨w.heap.size,0,Y⟩),aK])/\w'.heap[w.heap.size]? =Z (T (JaH (Tr.dig (dgW wj) (.leaf k o)) k o) 243)/\M D w w':=by
 have h1:=hk.1;have h2:=hk.2.2.2;exact JbX E wj Hf hw _ _ _ _ _ _ (⟨#[76]⟩,⟨k.toArray⟩,o,0,⟨#[]⟩,⟨#[]⟩) h2 (76::(k++outB o)) (by simp[outB,Jf];omega) w hE ⟨_,_,_,_,_,_,rfl,rfl,rfl,rfl,rfl,rfl⟩ (λW _ hr=>JiO w.heap.size ⟨#[]⟩ k o W hr) (Jfp wj k o hk)
theorem JgU(E:Nat->Addr)(wj:Nat)(Hf:1<=wj)(hw:wj<=32)(b nl nr:Nat)(l r:Tr)(F:Nat->Prop)(hb:b<8*(wj+1))(w:aA)(hE:Env E w)(hl:Jl (dgW wj) F w nl l)(hr:Jl (dgW wj) F w nr r):
  aB N 331 #[O I (wj:Int),aH (brC ⟨#[]⟩ b nl nr)] w λe w'=>e=aC (aI #[X (Z ⟨w.heap.size,0,Y⟩),aK])/\w'.heap[w.heap.size]? =Z (T (brC (Tr.dig (dgW wj) (.br b l r)) b nl nr) 243)/\M D w w':=by
 have s1:(l.dig (dgW wj)).size=wj:=by cases l<;>exact Jj wj hw _
 have s2:(r.dig (dgW wj)).size=wj:=by cases r<;>exact Jj wj hw _
 have n1:(l.dig (dgW wj)).data.toList.length=wj:=by simpa using s1
 have n2:(r.dig (dgW wj)).data.toList.length=wj:=by simpa using s2
 exact JbX E wj Hf hw _ _ _ _ _ _ (⟨#[78]⟩,⟨#[]⟩,(0,0),(b:Int),l.dig (dgW wj),r.dig (dgW wj)) (by show 0<256;decide) (78::(beL b 2 2++((l.dig (dgW wj)).data.toList++(r.dig (dgW wj)).data.toList))) (by rw[Qp,Qe,Qe,n1,n2,Jf];omega) w hE ⟨_,_,_,_,_,_,rfl,rfl,rfl,rfl,rfl,rfl⟩
  (λW hT hZ=>JmK w.heap.size ⟨#[]⟩ b nl nr _ _ W hZ ((hT.cell (p:=⟨nl,0,Y⟩) hl.own.2 (λh=>h)).trans hl.digCell) ((hT.cell (p:=⟨nr,0,Y⟩) hr.own.2 (λh=>h)).trans hr.digCell) (Qk hl.own.2 hT.size) (Qk hr.own.2 hT.size))
  (Jjy wj b _ _ (by omega) hb s1 s2)
theorem Jhp(E:Nat->Addr)(wj:Nat)(Hf:1<=wj)(hw:wj<=32)(k:Key)(o:Nat×Nat)(hk:TrOk wj (.leaf k o))(w:aA)(hE:Env E w):
  aB N 268 #[O I (wj:Int),L ⟨k.toArray⟩,aH #[O aD (o.1:Int),O aE (o.2:Int)]] w λe w'=>∃n,e=aC (aI #[X (Z ⟨n,0,Y⟩),aK])/\w.heap.size<=n/\w'.heap[n]? =Z (T (JaH (Tr.dig (dgW wj) (.leaf k o)) k o) 243)/\M D w w':=by
 obtain⟨oa,oo⟩:=o;have HD:J (∀W,M D w W->_):=λW (hT:M D w W)=>JeS E wj Hf hw k (oa,oo) hk W (hE.tch hT noE);have HV:J (JaH ⟨#[]⟩ k (oa,oo)= #[L ⟨#[]⟩,L ⟨k.toArray⟩,O aD (oa:Int),O aE (oo:Int),O I 0,X Y,X Y]):=rfl;rw[HV.o]at HD;clear hE;generalize (⟨k.toArray⟩:BA)=kb at *;dsimp only;go_enter func268,ntmps268;go_wp2_with fail;refine(HD.o _ (Ta _ _ _)).mono ?_;rintro _ w1⟨rfl,hr,ht⟩;have hz:w.heap.size<=(w.alloc (T #[O aD (oa:Int),O aE (oo:Int)] 80)).heap.size:=by simp
 have HR:J (_=_):=hr;have HT:J (M D w w1):=(Ta D w _).trans ht noE;clear hr ht HD;generalize (w.alloc (T #[O aD (oa:Int),O aE (oo:Int)] 80)).heap.size=n at *;go_wp2;go_ret2;exact⟨n,rfl,hz,HR.o,HT.o⟩
theorem Zi(E:Nat->Addr)(wj:Nat)(Hf:1<=wj)(hw:wj<=32)(b nl nr:Nat)(l r:Tr)(F:Nat->Prop)(hb:b<8*(wj+1))(w:aA)(hE:Env E w)(hl:Jl (dgW wj) F w nl l)(hr:Jl (dgW wj) F w nr r):
  aB N 332 #[O I (wj:Int),O I (b:Int),aH #[X (Z ⟨nl,0,Y⟩),X (Z ⟨nr,0,Y⟩)]] w λe w'=>∃n,e=aC (aI #[X (Z ⟨n,0,Y⟩),aK])/\w.heap.size<=n/\w'.heap[n]? =Z (T (brC (Tr.dig (dgW wj) (.br b l r)) b nl nr) 243)/\M D w w':=by
 have HD:J (∀W,M D w W->_):=λW (hT:M D w W)=>JgU E wj Hf hw b nl nr l r F hb W (hE.tch hT noE) (hl.next hT) (hr.next hT);have HV:J (brC ⟨#[]⟩ b nl nr= #[L ⟨#[]⟩,L ⟨#[]⟩,O aD 0,O aE 0,O I (b:Int),X (Z ⟨nl,0,Y⟩),X (Z ⟨nr,0,Y⟩)]):=rfl;rw[HV.o]at HD;go_enter func332,ntmps332;go_wp2_with fail;refine(HD _ (Ta _ _ _)).mono ?_;rintro _ w1⟨rfl,(HR:J _),ht⟩;have hz:w.heap.size<=(w.alloc (T #[X (Z ⟨nl,0,Y⟩),X (Z ⟨nr,0,Y⟩)] 241)).heap.size:=by simp
 have HT:J _:=(Ta D w _).trans ht noE;clear ht HD;generalize (w.alloc (T #[X (Z ⟨nl,0,Y⟩),X (Z ⟨nr,0,Y⟩)] 241)).heap.size=n at *;go_wp2;go_ret2;exact⟨n,rfl,hz,HR,HT⟩

theorem Je5(x y:Nat)(w:aA):(callFunc 340 #[O aD (x:Int),O aD (y:Int),O aD 0]).run N w =
  .ok (.value (aI #[O aD (((x+y) % 18446744073709551616:Nat):Int),O aD (((x+y)/18446744073709551616:Nat):Int)])) w:=by
 rw[run_callFunc_extern func340 (by kernel_rfl) (by kernel_rfl) (by kernel_rfl) (e:=add64Entry) (by kernel_rfl),run_add64 x y 0 (by omega) (by omega) (by omega) (by omega)];simp only[Result.andThen]
 congr 5<;>omega
theorem Jjb(l:List (Nat×Nat))(k:Nat)(h:k<l.length):Jt l (k+1)=Jt l k+l[k].1:=by
 unfold Jt;rw[QR h];simp only[lI,List.sum_append,lT,List.map_nil,List.sum_cons,List.sum_nil];omega
theorem Jno(l:List (Nat×Nat))(k:Nat):Jt l k<=Jt l l.length:=by
 unfold Jt;rw[List.take_length]
 conv=>rhs;rw[<-List.take_append_drop k l]
 simp only[lI,List.sum_append];omega
theorem JgH(x y:Nat)(h:x+y<18446744073709551616)(w:aA):(callFunc 340 #[O aD (x:Int),O aD (y:Int),O aD 0]).run N w =
  .ok (.value (aI #[O aD ((x+y:Nat):Int),O aD 0])) w:=by
 rw[Je5,Nat.mod_eq_of_lt h,Nat.div_eq_of_lt h];rfl
theorem Jj6(x y:Nat)(hx:x<18446744073709551616)(hy:y<18446744073709551616)(h:18446744073709551616<=x+y):∃z:Int,∀w:aA,(callFunc 340 #[O aD (x:Int),O aD (y:Int),O aD 0]).run N w =
  .ok (.value (aI #[O aD z,O aD 1])) w:=by
 refine⟨(((x+y) % 18446744073709551616:Nat):Int),λw=>?_⟩;rw[Je5,show (x+y)/18446744073709551616=1 by omega];rfl
theorem Jlh(E:Nat->Addr)(gi oi c:Nat)(l:List (Nat×Nat))(hc:l.length<1000000)(zh:∀x∈l,x.1<18446744073709551616)(w:aA)(hE:Env E w)(kV:gi<w.heap.size)(h1:∀i (h:i<l.length),w.cell? ⟨gi,oi+i*2,Y⟩=Z (O aD ((l[i].1:Nat):Int))/\w.cell? ⟨gi,oi+i*2+1,Y⟩=Z (O aE ((l[i].2:Nat):Int))):
  aB N 285 #[R (Z ⟨gi,oi,Y⟩) l.length c] w λe w'=>M D w w'/\((Jt l l.length<18446744073709551616/\e=aC (aI #[O aD ((Jt l l.length:Nat):Int),aK]))\/(18446744073709551616<=Jt l l.length/\e=aC (aI #[O aD 0,eV E 3]))):=by
 have ik:J _:=zh;have HE:J _:=hE;have H1:J _:=h1;have HQ:J (Jt l l.length<18446744073709551616\/18446744073709551616<=Jt l l.length):=Nat.lt_or_ge _ _;go_enter func285,ntmps285;go_wp2;go_loopw [4,10] (λs i wr=>∃k:Nat,k<=l.length/\s=O aD ((Jt l k:Nat):Int)/\i=O I k/\J (Jt l k<18446744073709551616)/\J (M D w wr)) (λ_ i _=>l.length-(intOf i).toNat)
 case atStart=>exact⟨0,by omega,rfl,rfl,(by decide:(0:Nat)<18446744073709551616),Te _ w⟩
 case round=>
  obtain⟨k,hk,rfl,rfl,hS,hT⟩:=hrel
  by_cases H5:k<l.length
  ·obtain⟨f0,f1⟩:=H1 k H5;have c0:=(hT.cell (p:=⟨gi,oi+k*2,Y⟩) kV (λh=>h)).trans f0;have c1:=(hT.cell (p:=⟨gi,oi+k*2+1,Y⟩) kV (λh=>h)).trans f1;have kT:(k:Int)<(l.length:Int):=(by omega);have hy:J _:=ik _ (Qx H5);have HN:J (Jt l (k+1)=Jt l k+l[k].1):=Jjb l k H5;have HFK:J (Jt l k+l[k].1<18446744073709551616\/18446744073709551616<=Jt l k+l[k].1):=Nat.lt_or_ge _ _;generalize l[k].1=y at *;generalize (l[k].2)=z at *
   rcases HFK.o with hs|hs
   ·have ha:=JgH (Jt l k) y hs;have ul:J _:=hs;generalize Jt l k=S at *;go_wp2;go_roundw
    case rel=>exact⟨k+1,by omega,by rw[HN.o,Int.natCast_add],by go_num,by rw[HN.o];exact ul,hT.trans (Ta D _ _) noE⟩
    case measure=>simp[intOf];omega
   ·obtain⟨zz,ha⟩:=Jj6 (Jt l k) y hS.out hy.out hs;have ul:J (18446744073709551616<=Jt l (k+1)):=(by rw[HN.o];exact hs:18446744073709551616<=Jt l (k+1))
    have eC:=(HE.tch (hT.trans (Ta D _ (T #[O aD (y:Int),O aE (z:Int)] 80)) noE) noE).sum;generalize Jt l k=S at *;have TL:J _:=hT.trans (Ta D wr (T #[O aD (y:Int),O aE (z:Int)] 80)) noE;go_wp2;go_region
    all_goals go_wp2
    all_goals go_ret2
    all_goals exact⟨TL.trans (Td D _ 1) noE,aN ⟨Qm ul (Jno l (k+1)),rfl⟩⟩
  ·have HK:J (k=l.length):=(by omega:k=l.length)
   have gI:¬(k:Int)<(l.length:Int):=(by omega);generalize hSS:Jt l k=S at *;have rT:J _:=hSS;go_wp2;go_ret2;have e:Jt l l.length=S:=(by rw[<-HK.o];exact rT.o);exact⟨hT,aM ⟨by rw[e];exact hS,by rw[e];rfl⟩⟩
theorem Jlg(w:aA):
  aB N 285 #[R Y 0 0] w λe w'=>e=aC (aI #[O aD 0,aK])/\w=w':=by
 go_enter func285,ntmps285;go_wp2;go_loopw [4,10] (λs i wr=>s=O aD 0/\i=O I 0/\wr=w) (λ_ _ _=>0)
 case atStart=>exact⟨rfl,rfl,rfl⟩
 case round=>obtain⟨rfl,rfl,rfl⟩:=hrel;go_wp2;go_ret2;exact⟨rfl,rfl⟩
theorem JfL(E:Nat->Addr)(B:Nat)(v:aG)(l:List (Nat×Nat))(hc:l.length<1000000)(zh:∀x∈l,x.1<18446744073709551616)(w:aA)(hE:Env E w)(h:Jr B w v l):
  aB N 285 #[v] w λe w'=>M D w w'/\((Jt l l.length<18446744073709551616/\e=aC (aI #[O aD ((Jt l l.length:Nat):Int),aK]))\/(18446744073709551616<=Jt l l.length/\e=aC (aI #[O aD 0,eV E 3]))):=by
 rcases h with⟨rfl,rfl⟩|⟨gi,oi,c,rfl,_,h2,h3⟩
 ·refine(Jlg w).mono ?_;rintro _ _⟨rfl,rfl⟩;exact⟨Te _ _,aM ⟨by decide,rfl⟩⟩
 ·exact Jlh E gi oi c l hc zh w hE h2 h3

theorem JeP(E:Nat->Addr)(B:Nat)(v1 v2:aG)(l1 l2:List (Nat×Nat))(hc1:l1.length<1000000)(hc2:l2.length<1000000)(qq:∀x∈l1,x.1<18446744073709551616)(kO:∀x∈l2,x.1<18446744073709551616)(w:aA)(hE:Env E w)(h1:Jr B w v1 l1)(h2:Jr B w v2 l2):
  aB Tryz.prog 208 #[v1,v2] w λe w'=>M D w w'/\((¬Xm l1 l2/\e=aC aK)\/(Xm l1 l2/\∃v,e=aC v/\Jn E 3 w' v)):=by
 obtain⟨ia1,ic1,jq⟩:=h1.shape;obtain⟨ia2,ic2,kW⟩:=h2.shape;have H3:J (aB _ _ _ _ _):=JfL E B v1 l1 hc1 qq w hE h1;have H4:J (∀W,M D w W->_):=λW hW=>JfL E B v2 l2 hc2 kO W (hE.tch hW noE) (h2.tch hW noE);have HE:J _:=hE;subst jq kW;go_enter Tryz.func208,Tryz.ntmps208;go_wp2_with fail;refine H3.o.mono ?_;rintro _ w1⟨H6,⟨ha,rfl⟩|⟨ha,rfl⟩⟩
 ·have K1:J _:=H6;have HA:J _:=ha;generalize uw:Jt l1 l1.length=S1 at *;have ki:J _:=uw;go_wp2_with fail;refine(H4 w1 K1).mono ?_;rintro _ w2⟨H7,⟨hb,rfl⟩|⟨hb,rfl⟩⟩
  ·have K2:J _:=K1.trans H7 noE;have HB:J _:=hb;generalize uy:Jt l2 l2.length=S2 at *;have jL:J _:=uy;have eC:=(HE.tch K2 noE).sum
   by_cases H5:S1<S2
   ·have kT:(S1:Int)<(S2:Int):=(by omega);go_wp2_with fail;refine(Xk _ _ _ _).mono ?_;rintro _ _⟨rfl,rfl⟩;go_wp2;go_ret;exact⟨K2.trans (Ta D _ _) noE,aN ⟨aN (aN (by rw[ki.o,jL.o];exact H5)),_,rfl,.wrap _ _ _ (Qf _ _) .base⟩⟩
   ·have kT:¬(S1:Int)<(S2:Int):=(by omega);go_wp2;go_ret;have q1:=HA.o;have q2:=HB.o;exact⟨K2,aM ⟨by unfold Xm;rw[ki.o,jL.o];omega,rfl⟩⟩
  ·have K2:J _:=K1.trans H7 noE;have HB:J _:=hb;go_wp2_with fail;refine(Xk _ _ _ _).mono ?_;rintro _ _⟨rfl,rfl⟩;go_wp2;go_ret;exact⟨K2.trans (Ta D _ _) noE,aN ⟨aN (aM HB),_,rfl,.wrap _ _ _ (Qf _ _) .base⟩⟩
 ·have K1:J _:=H6;have HA:J _:=ha;go_wp2_with fail;refine(Xk _ _ _ _).mono ?_;rintro _ _⟨rfl,rfl⟩;go_wp2;go_ret;exact⟨K1.trans (Ta D _ _) noE,aN ⟨aM HA,_,rfl,.wrap _ _ _ (Qf _ _) .base⟩⟩

def PS.step(wj:Nat)(s:Stp)(p:PS):Option (Stp×PS):=
 match p.num s.1 2 with
 | none=>Y
 | some (m,p1)=>if 8*(wj+1)<=m then Y else match p1.txt s.2.data.toList wj with
  | none=>Y
  | some (t,p2)=>Z ((m,⟨t.toArray⟩),p2)
def ZM(wj:Nat)(k:Int)(x:BA)(st:Option PS):(Nat×List UInt8)×Option PS:=(((YP wj k st).1,(Jk x.data.toList wj (YP wj k st).2).1),(Jk x.data.toList wj (YP wj k st).2).2)
theorem JoR(E:Nat->Addr)(b:Nat)(Hc:18<=b)(g:Option Nat)(wj:Nat)(hw:wj<=1000)(k:Int)(x:BA)(st:Option PS)(w:aA)(hE:Env E w)(hp:Jg E w b g wj st)(hd:JP st<=80000000):
  aB N 218 #[X (Z ⟨b,0,Y⟩),aH #[O I k,L x]] w λe w'=>e=aC (aH #[O I ((ZM wj k x st).1.1:Int),L ⟨(ZM wj k x st).1.2.toArray⟩])/\StTo E w w' b g wj (ZM wj k x st).2:=by
 have H5:=hp.lt;have ke:=Run.start Hc hE hp (M.allocs D w (T #[O I k,L x] 366) (T #[O I 0,L ⟨#[]⟩] 366));have yl:=JfG wj k st;have RUN:J _:=ke;go_enter func218,ntmps218;go_wp2_with fail;refine(JlL E b Hc g wj hw k st _ RUN.env RUN.port (by omega)).mono ?_;rintro _ w1⟨rfl,h⟩;obtain⟨g1,(Ht:J _)⟩:=RUN.step h;have bx1:=(Ht.box (k:=w.heap.size) (Ql _) (heap_alloc2_old _ _ _)).1;obtain⟨-,c1⟩:=rows bx1;clear bx1 h;go_wp2_with fail;refine(YZ E b g1 wj x _ _ Ht.env Ht.port (by omega)).mono ?_;rintro _ w3⟨rfl,h⟩;obtain⟨g3,(kf:J _)⟩:=Ht.step h;have rR:=(kf.box (k:=w.heap.size+1) (by omega) (heap_alloc2_new _ _ _)).1;obtain⟨e0,e1⟩:=rows rR;have fR:∀j,w3.frozen? ⟨w.heap.size+1,j,Y⟩=false:=λj=>Qg _ _ _ _ _ rR;have RR:J _:=rR;clear rR h;go_wp2;rw[set2 _ _ _ _ _ _ _ RR.out];exact QK (v:=aH #[O I ((ZM wj k x st).1.1:Int),L ⟨(ZM wj k x st).1.2.toArray⟩]) (Qq results218 _ _ (w.heap.size+1) _ _ (0,0) _ rfl (Qi _ _ _ _ _ _ RR) underlying366 rfl (by kernel_rfl)) rfl ⟨rfl,kf.done (k:=w.heap.size+1) (by omega) (heap_alloc2_new _ _ _) (by decide)⟩
theorem Jfa(n:Nat)(h:n<65536):JD (n:Int)=n:=by unfold JD;omega
theorem JhU(wj:Nat)(s:Stp)(hs:s.1<65536)(p:PS)(h:p.step wj s=Y):(ZM wj (s.1:Int) s.2 (Z p)).2=Y:=by
 unfold ZM YP;rw[Jfa _ hs];unfold PS.step at h
 cases h1:p.num s.1 2 with
 | none=>rw[ZL h1];dsimp only;split<;>rfl
 | some r=>
  obtain⟨m,p1⟩:=r;rw[h1]at h;dsimp only at h;rw[JS h1];dsimp only
  split at h
  ·rename_i hm;rw[if_pos hm];rfl
  ·rename_i hm;rw[if_neg hm]
   cases h2:p1.txt s.2.data.toList wj with
   | none=>rw[Yb h2]
   | some r2=>rw[h2]at h;cases h
theorem JhV(wj:Nat)(s y:Stp)(hs:s.1<65536)(p p2:PS)(h:p.step wj s=Z (y,p2)):(ZM wj (s.1:Int) s.2 (Z p)).2=Z p2/\y=((ZM wj (s.1:Int) s.2 (Z p)).1.1,⟨(ZM wj (s.1:Int) s.2 (Z p)).1.2.toArray⟩):=by
 unfold ZM YP;rw[Jfa _ hs];unfold PS.step at h
 cases h1:p.num s.1 2 with
 | none=>rw[h1]at h;cases h
 | some r=>
  obtain⟨m,p1⟩:=r;rw[h1]at h;dsimp only at h;rw[JS h1];dsimp only
  split at h
  ·cases h
  ·rename_i hm;rw[if_neg hm]
   cases h2:p1.txt s.2.data.toList wj with
   | none=>rw[h2]at h;cases h
   | some r2=>
    obtain⟨t,p3⟩:=r2;rw[h2]at h;simp only[Qh,Qw]at h;obtain⟨rfl,rfl⟩:=h;rw[JN h2];exact⟨rfl,rfl⟩
def encS(s:Stp):VV:=(O I (s.1:Int),L s.2)
def JaK(wj:Nat):XY Stp where
 f:=λs p=>p.step wj s
 grow:=wj+2
 zero:=(0,⟨#[]⟩)
 zeroV:=zS
 Init:=λ_ _ _ x s=>x=encS s/\s.1<65536
 Done:=λ_ _ _ x s=>x=encS s
theorem JbM{s y:Stp}(h:p.step wj s=Z (y,p2)):p.like p2/\p2.len<=p.len+(wj+2):=by
 unfold PS.step at h
 cases h1:p.num s.1 2 with
 | none=>rw[h1]at h;cases h
 | some r=>
  obtain⟨m,p1⟩:=r;rw[h1]at h;dsimp only at h
  split at h
  ·cases h
  ·cases h2:p1.txt s.2.data.toList wj with
   | none=>rw[h2]at h;cases h
   | some r2=>
    obtain⟨t,p3⟩:=r2;rw[h2]at h;simp only[Qh,Qw]at h;obtain⟨_,rfl⟩:=h;have l1:=ZP _ _ _ _ _ h1;have l2:=Jgw _ _ _ _ _ h2;exact⟨(Yn h1).trans (Jh9 h2),by omega⟩
theorem lawS(E:Nat->Addr)(b:Nat)(Hc:18<=b)(wj lim:Nat)(hw:wj<=1000)(hl:lim<=80000000):Zh E b wj lim lkS.fP (JaK wj) ShS where
 init_tch:=λh _ _ _=>h
 init_zero:=λ_ _=>⟨rfl,by show 0<65536;omega⟩
 init_shape:=λh=>⟨_,_,h.1⟩
 done_tch:=λh _ _ _=>h
 done_mono:=λh _=>h
 like:=λh=>(JbM h).1
 len:=λ_ h=>(JbM h).2
 call:=λ{w g p x a} hE hp hI hd=>by
  obtain⟨rfl,ha⟩:=hI;show aB _ _ #[_,aH #[O I (a.1:Int),L a.2]] _ _;refine(JoR E b Hc g wj hw (a.1:Int) a.2 (Z p) w hE hp (by simp only[JP];omega)).mono ?_;rintro e w'⟨rfl,g',k1,k2,k3⟩;refine⟨(O I _,L _),⟨_,_,rfl⟩,rfl,?_⟩;show ToP E w b g wj (JaK wj) (p.step wj a) _ w'
  cases h:p.step wj a with
  | none=>
   rw[JhU wj a ha p h]at k1;obtain⟨p',t,u,h1,h2⟩:=k1;exact⟨g',_,p',h1,k2,k3,h2⟩
  | some r=>
   obtain⟨y,p2⟩:=r;obtain⟨e1,e2⟩:=JhV wj a y ha p p2 h;rw[e1]at k1;exact⟨g',_,p2,k1,k2,k3,rfl,rfl,by rw[e2];rfl⟩

theorem Jfl(a:Int)(w:aA):aB N 344 #[O I a] w λe w'=>e=aC (aL false)/\w'=w:=by
 go_enter func344,ntmps344;go_wp2;go_ret;exact⟨by simp,rfl⟩
def sgn(a b:Int):Int:=if a<b then -1 else if b<a then 1 else 0
theorem Jp2(a b:Int):(0<=sgn a b)↔¬a<b:=by unfold sgn;split<;>(try split)<;>omega
theorem JgT(a b:Int)(w:aA):aB N 293 #[O I a,O I b] w λe w'=>e=aC (O I (sgn a b))/\w'=w:=by
 go_enter func293,ntmps293;go_wp2_with fail;refine(Jfl _ _).mono ?_;rintro _ _⟨rfl,rfl⟩;go_wp2_with fail;refine(Jfl _ _).mono ?_;rintro _ _⟨rfl,rfl⟩
 by_cases h1:a<b
 ·have HS:J (sgn a b= -1):=(by unfold sgn;rw[if_pos h1]:sgn a b= -1)
  go_wp2;go_ret;exact⟨by rw[HS.o];rfl,rfl⟩
 ·by_cases h2:b<a
  ·have HS:J (sgn a b=1):=(by unfold sgn;rw[if_neg h1,if_pos h2]:sgn a b=1)
   go_wp2;go_ret;exact⟨by rw[HS.o];rfl,rfl⟩
  ·have HS:J (sgn a b=0):=(by unfold sgn;rw[if_neg h1,if_neg h2]:sgn a b=0)
   go_wp2;go_ret;exact⟨by rw[HS.o];rfl,rfl⟩
theorem Jip(a b:Int)(x y:BA)(w:aA):aB N 220 #[aH #[O I a,L x],aH #[O I b,L y]] w λe w'=>e=aC (O I (sgn a b))/\M D w w':=by
 go_enter func220,ntmps220;go_wp2_with fail;refine(JgT _ _ _).mono ?_;rintro _ _⟨rfl,rfl⟩;go_wp2;go_ret;exact⟨rfl,M.allocs _ w _ _⟩

theorem Jf8(a:Addr)(w:aA):(method 641 170 (X (Z a)) "trove/wire.more").run N w=.ok (140,X (Z a)) w:=by kernel_rfl
theorem Jf9(a:Addr)(w:aA):(method 641 153 (X (Z a)) "trove/wire.more").run N w=.ok (377,X (Z a)) w:=by kernel_rfl
theorem Jlo(a:aG)(m:Bool)(w:aA):aB N 377 #[a,aL m] w λe w'=>e=aC (aL m)/\w'=w:=by
 go_enter func377,ntmps377;go_wp2;go_ret;exact⟨rfl,rfl⟩
def ZW(m:Bool):Option PS->Bool
 | none=>false
 | some (.rd _ rest)=> !rest.isEmpty
 | some (.wr _)=>m
theorem Jow(E:Nat->Addr)(b:Nat)(g:Option Nat)(wj:Int)(m:Bool)(st:Option PS)(w:aA)(hp:Jg E w b g wj st):
  aB N 221 #[X (Z ⟨b,0,Y⟩),aL m] w λe w'=>e=aC (aL (ZW m st))/\M D w w':=by
 cases st with
 | none=>
  obtain⟨p,t,u,h1,_⟩:=hp;have ce:=h1.errCell;go_enter func221,ntmps221;go_wp2;go_ret;exact⟨rfl,Te _ _⟩
 | some p=>
  have hp:=hp;have ce:=hp.errCell
  cases p with
  | rd pre rest=>
   obtain⟨c0, -⟩:=rows hp.2;have hm:=Jf8 ⟨b,0,Y⟩;have HP:J (Jd _ _ _ _ _ _):=hp;go_enter func221,ntmps221;go_wp2_with fail;refine(JcN b g wj aK _ pre rest w HP.o).mono ?_;rintro _ w1⟨rfl,(HT:J _)⟩;go_wp2;go_ret;exact⟨rfl,HT⟩
  | wr d=>
   have c0:w.cell? ⟨b,0,Y⟩=Z (aJ 153 (X (Z ⟨b,0,Y⟩))):=(by obtain⟨v,_,_,hr⟩:=hp;exact Ja hr);have hm:=Jf9 ⟨b,0,Y⟩;go_enter func221,ntmps221;go_wp2_with fail;refine(Jlo _ m w).mono ?_;rintro _ _⟨rfl,rfl⟩;go_wp2;go_ret;exact⟨rfl,Te _ _⟩
def YY(ys:List Stp)(k:Nat):Prop:=∀i,1<=i->i<k->∀x y,ys[i-1]? =Z x->ys[i]? =Z y->x.1<y.1
open Classical in
noncomputable def Xl(ys:List Stp)(st:Option PS):Option PS:=if YY ys ys.length then st else Y
theorem JhL(E:Nat->Addr)(b:Nat)(g:Option Nat)(wj:Int)(what:aG)(a:Option Addr)(n c:Nat)(w:aA)(hp:Jg E w b g wj Y):
  aB N 219 #[X (Z ⟨b,0,Y⟩),what,R a n c,.func (.func 220) #[] #[]] w λe w'=>e=aC (aI #[])/\w'=w:=by
 obtain⟨p,t,u,h1,_⟩:=hp;have ce:=h1.errCell;clear h1;go_enter func219,ntmps219;go_wp2;go_loopw [8] (λi wr=>i=O I 1/\wr=w) (λ_ _=>0)
 case atStart=>exact⟨rfl,rfl⟩
 case round=>
  obtain⟨rfl,rfl⟩:=hrel
  by_cases H5:1<n
  ·have kT:(1:Int)<(n:Int):=(by omega);go_wp2;exact bodyPost_end (v:=aI #[]) (results_none results219 _ _ _) rfl ⟨rfl,rfl⟩
  ·have kT:¬(1:Int)<(n:Int):=(by omega);go_wp2;exact bodyPost_end (v:=aI #[]) (results_none results219 _ _ _) rfl ⟨rfl,rfl⟩
theorem JhM(E:Nat->Addr)(b:Nat)(g:Option Nat)(wj:Int)(what:BA)(kq:what.size<=1000)(gp:Nat)(ys:List Stp)(hn:ys.length<=300)(p:PS)(w:aA)(hE:Env E w)(hp:Jg E w b g wj (Z p))(hr:w.heap[gp]? =Z (T (vvA (ys.map encS)) 366))(dW:gp ≠ b)(vT:Z gp ≠ g):
  aB N 219 #[X (Z ⟨b,0,Y⟩),L what,R (Z ⟨gp,0,Y⟩) ys.length ys.length,.func (.func 220) #[] #[]] w λe w'=>e=aC (aI #[])/\StTo E w w' b g wj (Xl ys (Z p)):=by
 have HG:J (gp ≠ b/\Z gp ≠ g):=⟨dW,vT⟩
 have HE:J (Env E w):=hE;have HP:J (Jg E w b g wj (Z p)):=hp;have HR:J (w.heap[gp]? =Z (T (vvA (ys.map encS)) 366)):=hr;have HN:J (ys.length<=300):=hn;clear hE hp hr dW vT hn;go_enter func219,ntmps219;go_wp2;go_loopw [8] (λi wr=>∃k:Nat,1<=k/\i=O I k/\((J (M D w wr)/\J (YY ys k))\/(J (StTo E w wr b g wj Y)/\J (¬YY ys ys.length)))) (λi _=>ys.length+1-(intOf i).toNat)
 case atStart=>exact⟨1,by omega,rfl,aM ⟨Te _ w,λi h1 h2=>by omega⟩⟩
 case round=>
  obtain⟨k,jg,rfl,⟨hT,iP⟩|⟨hS,hNR⟩⟩:=hrel
  ·by_cases H5:k<ys.length
   ·have hZ:=(hT.out.block gp (Jb HR.o) (λh=>h)).trans HR.o;have hpk:=HP.o.next hT.out;have ce:=Jd.errCell hpk;have Hl:ys.length<=300:=HN.o;have hgk:=λi (hi:i<ys.length)=>Yt (ys.map encS) i (by simpa using hi);have cell:∀i (hi:i<ys.length),wr.cell? ⟨gp,i*2,Y⟩=Z (O I (ys[i].1:Int))/\wr.cell? ⟨gp,i*2+1,Y⟩=Z (L ys[i].2):=λi hi=>by
     obtain⟨e1,e2⟩:=hgk i hi;rw[List.getElem_map]at e1 e2;exact⟨(Ja hZ).trans e1,(Ja hZ).trans e2⟩
    obtain⟨j,ph⟩:∃j,k=j+1:=⟨k-1,by omega⟩
    obtain⟨a0,a1⟩:=cell j (by omega);obtain⟨b0,b1⟩:=cell k H5;have fC:J (k<ys.length):=H5;have HA:J (ys[j]? =Z ys[j]):=Qd (by omega);have HB:J (ys[k]? =Z ys[k]):=Qd H5;have kT:(k:Int)<(ys.length:Int):=(by omega);have qZ:I.wrap ((k:Int)-1)=(j:Int):=(by rw[Jo _ (by omega) (by omega)];omega);have hj0:j<ys.length:=(by omega);have ru:(j:Int)<(ys.length:Int):=(by omega);have HJK:J (k=j+1):=ph;clear cell hgk hZ;generalize hX:ys[j]=aX at *;generalize hY:ys[k]=aP at *;obtain⟨x0,x1⟩:=aX;obtain⟨y0,y1⟩:=aP;dsimp only at a0 a1 b0 b1;clear hX hY hpk H5 ph;go_upto_region 3 with fail;go_cut [33] (λvb wx=>vb=aL (decide (0<=sgn (x0:Int) (y0:Int)))/\J (M D wr wx))
    case first=>
     clear iP hT HA HB HE HP HR HN;go_region_with (go_at_call 220;refine(Jip _ _ _ _ _).mono ?_;rintro _ w1⟨rfl,ht⟩;have H3:J (M _ _ _):=ht;clear ht)
     all_goals go_wp2;go_meet;exact⟨rfl,(Td D wr 1).trans H3.o (λ_ h=>aM h)⟩
    case rest=>
    obtain⟨rfl,hTx⟩:=hcut;obtain⟨wA,gH⟩:∃wA,wA=wc:=⟨_,rfl⟩
    have kR:J (M D w wA):=hT.out.trans (gH ▸ hTx.out) (λ_ h=>aM h);subst gH;have bI:=HP.o.next kR.o;have hSG:(0<=sgn (x0:Int) (y0:Int))↔¬x0<y0:=by rw[Jp2];omega
    by_cases H5:x0<y0
    ·have vR:decide (0<=sgn (x0:Int) (y0:Int))=false:=(by simp[hSG,H5]);rw[vR];have nG:J (YY ys (k+1)):=λi h1 h2 x y hx hy=>by
      by_cases hi:i<k
      ·exact iP.out i h1 hi x y hx hy
      ·obtain rfl:i=k:=(by omega);rw[show i-1=j by have:=HJK.o;omega,HA.o]at hx;rw[HB.o]at hy
       cases hx;cases hy;exact H5
     clear iP hSG vR H5 bI;go_wp2;go_roundw
     case rel=>exact⟨k+1,by omega,by go_num,aM ⟨kR.o,nG.o⟩⟩
     case measure=>have:=fC.o;simp[intOf];omega
    ·have vR:decide (0<=sgn (x0:Int) (y0:Int))=true:=(by simp[hSG,H5]);rw[vR];have zx:J (¬YY ys ys.length):=λh=>H5 (h k jg fC.o _ _ (by rw[show k-1=j by have:=HJK.o;omega];exact HA.o) HB.o);have xI:J (Env E wA):=HE.o.tch kR.o noE;have HPA:J (Jg E wA b g wj (Z p)):=bI;clear iP hSG vR H5 bI;have bN:(what++(⟨#[32]⟩:BA)).size<=1001:=(by rw[ByteArray.size_append];show what.size+1<=1001;omega);have hnb0:¬(what.size+(⟨#[32]⟩:BA).size > 9223372036854775807):=(by show ¬(what.size+1 > 9223372036854775807);omega);go_wp2_with fail;refine(JdP xI.o k (by omega)).mono ?_;rintro _ w2⟨⟨s1,qq,rfl⟩,zJ⟩;have H4:J (M D wA w2):=(M.of_below zJ).mono (λ_ h=>aN h);clear zJ;generalize what++(⟨#[32]⟩:BA)=ws at *;have uH:¬(ws.size+s1.size > 9223372036854775807):=(by omega);go_wp2_with fail;refine(Jal E b g wj (ws++s1) _ w2 (xI.o.tch H4.o noE) (HPA.o.next H4.o)).mono ?_;rintro _ w3⟨rfl,bW⟩;have yf:J (StTo E w w3 b g wj Y):=StTo.fresh (kR.o.trans H4.o (λ_ h=>aM h)) bW;clear bW;go_wp2;go_roundw
     case rel=>exact⟨k+1,by omega,by go_num,aN ⟨yf.o,zx.o⟩⟩
     case measure=>have:=fC.o;simp[intOf];omega
   ·have nG:J (YY ys ys.length):=λi h1 h2=>iP.out i h1 (by omega);have kT:¬((k:Nat):Int)<(ys.length:Int):=(by omega);go_wp2;refine bodyPost_end (v:=aI #[]) (results_none results219 _ _ _) rfl ⟨rfl,?_⟩;unfold Xl;rw[if_pos nG.o];exact⟨g,HP.o.next hT.out,aM rfl,hT.out.mono noE⟩
  ·have uT:=hS.out.choose_spec.1.err;obtain⟨_,t,u,ce⟩|⟨⟨_,h⟩,_⟩:=uT
   ·by_cases H5:k<ys.length
    ·have kT:((k:Nat):Int)<(ys.length:Int):=(by omega);go_wp2;refine bodyPost_end (v:=aI #[]) (results_none results219 _ _ _) rfl ⟨rfl,?_⟩;unfold Xl;rw[if_neg hNR.out];exact hS.out
    ·have kT:¬((k:Nat):Int)<(ys.length:Int):=(by omega);go_wp2;refine bodyPost_end (v:=aI #[]) (results_none results219 _ _ _) rfl ⟨rfl,?_⟩;unfold Xl;rw[if_neg hNR.out];exact hS.out
   ·cases h

theorem Jhh(b:Nat)(wj:Nat)(hw:wj<=1000)(w:aA)(c1:w.cell? ⟨b,1,Y⟩=Z (O I (wj:Int))):
  aB N 217 #[X (Z ⟨b,0,Y⟩)] w λe w'=>e=aC (O I ((8*(wj+1):Nat):Int))/\w'=w:=by
 have hww:I.wrap ((wj:Int)+1)=(wj:Int)+1:=Jo _ (by omega) (by omega);have vQ:I.wrap (8*((wj:Int)+1))=((8*(wj+1):Nat):Int):=by rw[Jo _ (by omega) (by omega)];omega
 go_enter func217,ntmps217;go_wp2;go_ret;exact⟨rfl,rfl⟩
theorem set5(w:aA)(g:Nat)(t:TypeId)(a b c d e v0 v1 v2 v3 v4:aG)(h:w.heap[g]? =Z (T #[a,b,c,d,e] t (0,0))):
  ((((w.setCell ⟨g,0,Y⟩ v0).setCell ⟨g,1,Y⟩ v1).setCell ⟨g,2,Y⟩ v2).setCell ⟨g,3,Y⟩ v3).setCell ⟨g,4,Y⟩ v4=w.setRow g #[v0,v1,v2,v3,v4]:=by
 rw[Qj w g 0 _ t (0,0) v0 h,Qj _ g 1 _ t (0,0) v1 (Qi w g _ _ _ _ h),QI,Qj _ g 2 _ t (0,0) v2 (Qi w g _ _ _ _ h),QI,Qj _ g 3 _ t (0,0) v3 (Qi w g _ _ _ _ h),QI,Qj _ g 4 _ t (0,0) v4 (Qi w g _ _ _ _ h),QI];rfl
def ToS(E:Nat->Addr)(w:aA)(b:Nat)(g:Option Nat)(wj:Nat)(r:Option (List Stp×PS))(e:Ending)(w':aA):Prop:=
 ∃x1 x2 x3,e=aC (R x1 x2 x3)/\StTo E w w' b g wj (r.map (·.2))/\
  ∀ys p2,r=Z (ys,p2)->∃gp,x1=Z ⟨gp,0,Y⟩/\x2=ys.length/\x3=ys.length/\w.heap.size<=gp/\w'.heap[gp]? =Z (T (vvA (ys.map encS)) 366)/\∀g',Jg E w' b g' wj (Z p2)->Z gp ≠ g'
theorem ToS.of{r:Option (List Stp×PS)}(h:ToL lkS E w b g wj (JaK wj) r e w'):ToS E w b g wj r e w':=by
 cases r with
 | none=>
  obtain⟨⟨x1,x2,x3,rfl⟩,g',p',v,h1,h2,h3,h4⟩:=h;obtain⟨t,u,rfl⟩:=h2.iface;exact⟨x1,x2,x3,rfl,⟨g',⟨p',t,u,h1,h2⟩,h3,h4⟩,λts p2 h=>by cases h⟩
 | some r=>
  obtain⟨ys,p2⟩:=r;obtain⟨gp,xs,rfl,h2,h3,h4,g',h5,h6,h7,h8,h9⟩:=h;refine⟨_,_,_,rfl,⟨g',h5,h8,h9⟩,λts p3 h=>?_⟩;simp only[Qh,Qw]at h;obtain⟨rfl,rfl⟩:=h;refine⟨gp,rfl,rfl,rfl,h2,?_,λg2 hg=>by rw[Jg.same (E:=E) hg (st':=Z p2) h5];exact h6⟩;have e:xs=ys.map encS:=by
   apply List.ext_getElem?;intro j;rw[lS]
   by_cases hj:j<ys.length
   ·rw[Qd hj,Qd (by omega:j<xs.length)];exact congrArg Z (h7 j _ _ (Qd (by omega)) (Qd hj))
   ·rw[List.getElem?_eq_none (by omega),List.getElem?_eq_none (by omega)];rfl
  rw[<-e];exact h3
def PS.lstS(wj:Nat)(l:List Stp)(p:PS):Option (List Stp×PS):=p.lst (JaK wj).f (0,⟨#[]⟩) 2 0 (8*(wj+1)) l
theorem JiH{l ys:List Stp}(ht:p.takes v)(hv:v=R Y 0 0->l=[])(h:p.lstS wj l=Z (ys,p2)):p.like p2/\p2.len<=p.len+2+(wj+2)*(8*(wj+1))/\ys.length<=8*(wj+1):=by
 obtain⟨h1,_,h3,h4⟩:=JcE (n:=wj+2) (λa p a' p' h=>JbM h) ht hv h;exact⟨h1,Qm h4 (by have:=Nat.mul_le_mul_left (wj+2) h3;omega),h3⟩
theorem Jmo(E:Nat->Addr)(b:Nat)(Hc:18<=b)(g:Option Nat)(wj:Nat)(hw:wj<=32)(v:aG)(l:List Stp)(p:PS)(w:aA)(hE:Env E w)(hp:Jd w b g wj aK p)(hv:VAt w.heap.size w v (l.map encS))(qL:JcX b g v)(hl:l.length<1000)(hs:∀s∈l,s.1<65536)(ht:p.takes v)(hd:p.len<=70000000):
  aB N 216 #[X (Z ⟨b,0,Y⟩),aH #[L ⟨#[115,116,101,112]⟩,O I 2,O aD 0,O aD ((8*(wj+1):Nat):Int)],v,.func (.func 218) #[X (Z ⟨b,0,Y⟩)] #[]] w λe w'=>ToS E w b g wj (p.lstS wj l) e w':=by
 have H:=lawS E b Hc wj 80000000 (by omega) (by omega);have hg:(JaK wj).grow=wj+2:=rfl;refine(Jon H rfl Hc g ⟨#[115,116,101,112]⟩ (by decide) 2 0 (8*(wj+1)) v (l.map encS) l p w hE hp hv qL (by simp) (by omega) (by rw[hg];omega) (by omega) (by omega) (by omega) ht (λj x a h1 h2=>?_)).mono λe w' h=>ToS.of h;rw[lS,h2]at h1
 cases h1
 exact⟨rfl,hs a (QT h2)⟩
noncomputable def Yg(r:Option (List Stp×PS)):Option PS:=match r with
 | none=>Y
 | some (ys,p)=>Xl ys (Z p)
theorem Jk1(E:Nat->Addr)(b:Nat)(g:Option Nat)(wj:Int)(r:Option (List Stp×PS))(x1:Option Addr)(x2 x3:Nat)(w:aA)(hE:Env E w)(hp:Jg E w b g wj (r.map (·.2)))(hn:∀ys p2,r=Z (ys,p2)->ys.length<=300)(hx:∀ys p2,r=Z (ys,p2)->∃gp,x1=Z ⟨gp,0,Y⟩/\x2=ys.length/\x3=ys.length/\gp ≠ b/\w.heap[gp]? =Z (T (vvA (ys.map encS)) 366)/\Z gp ≠ g):
  aB N 219 #[X (Z ⟨b,0,Y⟩),L ⟨#[115,116,101,112]⟩,R x1 x2 x3,.func (.func 220) #[] #[]] w λe w'=>e=aC (aI #[])/\StTo E w w' b g wj (Yg r):=by
 cases r with
 | none=>
  refine(JhL E b g wj _ x1 x2 x3 w hp).mono ?_;rintro _ _⟨rfl,rfl⟩;exact⟨rfl,g,hp,aM rfl,Te _ _⟩
 | some r=>
  obtain⟨ys,p⟩:=r;obtain⟨gp,rfl,rfl,rfl,h1,h2,h3⟩:=hx ys p rfl;exact JhM E b g wj _ (by decide) gp ys (hn ys p rfl) p w hE hp h2 h1 h3
theorem JhN{wj:Int}(k:StTo E w w' b g wj st)(hp:Jg E w' b g' wj st)(h1:w.heap[gp]? =Z o)(hb:gp ≠ b)(hg:Z gp ≠ g):w'.heap[gp]? =Z o/\Z gp ≠ g':=by
 obtain⟨g2,k1,k2,k3⟩:=k;have hl:=(Jb h1)
 obtain rfl:g2=g':=k1.same hp;refine⟨(k3.block gp hl (by rintro(e|e);exact hb e;exact hg e)).trans h1,?_⟩
 rcases k2 with rfl|⟨i,rfl,hi⟩
 ·exact hg
 ·intro e;cases e;omega
open Classical in
noncomputable def PS.way(wj:Nat)(l:List Stp)(m:Bool)(k:BA)(o:Nat×Nat)(p:PS):Option (Wy×PS):=
 match p.lstS wj l with
 | none=>Y
 | some (ys,p1)=>
  if ys.length=0/\ZW m (Xl ys (Z p1))=false then (Xl ys (Z p1)).map λp=>(([],Y),p)
  else (Jv wj k o (Xl ys (Z p1))).2.map λp=>((ys,Z (Jv wj k o (Xl ys (Z p1))).1),p)
def WyAt(w:aA)(B:Nat)(b:Nat)(g:Option Nat)(wy:Wy)(x:Option Addr×Nat×Nat)(m:Bool)(k:BA)(a o:Nat):Prop:=
 (wy=([],Y)/\x=(Y,0,0)/\m=false/\k=⟨#[]⟩/\a=0/\o=0)\/
 ∃gp,x=(Z ⟨gp,0,Y⟩,wy.1.length,wy.1.length)/\B<=gp/\gp ≠ b/\Z gp ≠ g/\w.heap[gp]? =Z (T (vvA (wy.1.map encS)) 366)/\m=true/\wy.2=Z (k.data.toList,(a,o))
def ToW(E:Nat->Addr)(w:aA)(b:Nat)(g:Option Nat)(wj:Nat)(r:Option (Wy×PS))(e:Ending)(w':aA):Prop:=
 ∃x1 x2 x3 m k a o g',e=aC (aH #[R x1 x2 x3,aL m,L k,O aD (a:Nat),O aE (o:Nat)])/\Jg E w' b g' wj (r.map (·.2))/\Jq w g g'/\M (λk=>k=b\/Z k=g) w w'/\
  ∀wy p2,r=Z (wy,p2)->WyAt w' w.heap.size b g' wy (x1,x2,x3) m k a o
theorem Ji3(wj:Nat)(k:BA)(o:Nat×Nat):(Jv wj k o Y).2=Y:=rfl
theorem Ji4(ys:List Stp)(p:PS):JP (Xl ys (Z p))<=p.len:=by
 unfold Xl
 split
 ·exact Ql _
 ·exact Nat.zero_le _
theorem JnC(E:Nat->Addr)(b:Nat)(Hc:18<=b)(g:Option Nat)(wj:Nat)(hw:wj<=32)(v1:Option Addr)(v2 v3:Nat)(l:List Stp)(m:Bool)(k:BA)(a o:Nat)(ho:o<256)(p:PS)(w:aA)(hE:Env E w)(hp:Jd w b g wj aK p)(hv:VAt w.heap.size w (R v1 v2 v3) (l.map encS))(qL:JcX b g (R v1 v2 v3))(hl:l.length<1000)(hs:∀s∈l,s.1<65536)(ht:p.takes (R v1 v2 v3))(hd:p.len<=60000000):
  aB N 146 #[X (Z ⟨b,0,Y⟩),aH #[R v1 v2 v3,aL m,L k,O aD (a:Int),O aE (o:Int)]] w λe w'=>ToW E w b g wj (p.way wj l m k (a,o)) e w':=by
 have H5:=hp.lt;have tA:=M.allocs D w (T #[R v1 v2 v3,aL m,L k,O aD (a:Int),O aE (o:Int)] 258) (T #[R Y 0 0,aL false,L ⟨#[]⟩,O aD 0,O aE 0] 258);have ke:=Run.start (st:=Z p) Hc hE hp tA;have hvn:(Value.slice v1 v2 v3)=R Y 0 0->l=[]:=λe=>by
  have:=hv.shape;obtain⟨a,c,h⟩:=this;rw[e]at h;simp at h
  cases l with
  | nil=>rfl
  | cons x l=>simp at h
 have HF:J (∀ys p2,p.lstS wj l=Z (ys,p2)->p2.len<=p.len+2+(wj+2)*(8*(wj+1))/\ys.length<=8*(wj+1)):=λys p2 h=>(JiH ht hvn h).2;have HW:J ((wj+2)*(8*(wj+1))<=34*264):=lQ (by omega) (by omega);have HC:J (∀W,M D w W->aB N 216 _ W _):=λW hT=>Jmo E b Hc g wj hw (R v1 v2 v3) l p W (hE.tch hT noE) (hp.tch hT (λh=>h) (λ_ _ h=>h)) ((hv.tch hT noE).up hT.size) qL hl hs ht (by omega);have qE:J (∀W,M D w W->aB N 217 _ W _):=λW hT=>Jhh b wj (by omega) W ((hp.tch hT (λh=>h) (λ_ _ h=>h)) |> λh=>Jg.width (E:=E) (st:=Z p) h);have vM:J (p.len<=60000000):=hd;have vF:∀(fn:Fn)(first cap:Array aG)(w:aA),(Instr.makeFunc fn first cap).run N w=.ok (.func fn first cap) w:=λ_ _ _ _=>rfl;have kC:J (M _ _ _):=tA;have RUN:J (Run _ _ _ _ _ _ _ _ _):=ke;have hwu:lK.wrap ((8*(wj+1):Nat):Int)=((8*(wj+1):Nat):Int):=JK _ (by omega) (by omega);have j6:=heap_alloc2_old w (T #[R v1 v2 v3,aL m,L k,O aD (a:Int),O aE (o:Int)] 258) (T #[R Y 0 0,aL false,L ⟨#[]⟩,O aD 0,O aE 0] 258);have kS:=heap_alloc2_new w (T #[R v1 v2 v3,aL m,L k,O aD (a:Int),O aE (o:Int)] 258) (T #[R Y 0 0,aL false,L ⟨#[]⟩,O aD 0,O aE 0] 258);have BX0:J (_=_):=j6;have BX1:J (_=_):=kS;clear hE hp hv qL hs ht ke tA j6 kS hvn hd hl;generalize xR:(8*(wj+1):Nat)=kb at *;have HKE:J (8*(wj+1)=kb):=xR;clear xR;go_enter func146,ntmps146;go_upto_region 1 with fail;go_cut [5] (λv wx=>∃x1 x2 x3 g1,v=R x1 x2 x3/\J (Run E w ((w.alloc (T #[R v1 v2 v3,aL m,L k,O aD (a:Int),O aE (o:Int)] 258)).alloc (T #[R Y 0 0,aL false,L ⟨#[]⟩,O aD 0,O aE 0] 258)) wx b g g1 wj ((p.lstS wj l).map (·.2)))/\J (∀ys p2,p.lstS wj l=Z (ys,p2)->∃gp,x1=Z ⟨gp,0,Y⟩/\x2=ys.length/\x3=ys.length/\w.heap.size<=gp/\gp ≠ b/\wx.heap[gp]? =Z (T (vvA (ys.map encS)) 366)/\Z gp ≠ g1))
 case first=>
  have H3:J (M D w _):=kC.o.trans (Td D _ 1) noE;have iQ:J (Run _ _ _ _ _ _ _ _ _):=RUN.out.next (Td D _ 1);clear HF HW vM kC RUN BX0 BX1;go_region_with (first
   | (go_at_call 217;refine(qE.o _ H3.o).mono ?_;rintro _ _⟨rfl,rfl⟩)
   | (go_at_call 216;refine(HC.o _ H3.o).mono ?_;rintro _ w1⟨x1,x2,x3,rfl,kE,hx⟩;obtain⟨g1,R1⟩:=iQ.o.step kE;have HX:J (∀ys p2,p.lstS wj l=Z (ys,p2)->∃gp,x1=Z ⟨gp,0,Y⟩/\x2=ys.length/\x3=ys.length/\w.heap.size<=gp/\gp ≠ b/\w1.heap[gp]? =Z (T (vvA (ys.map encS)) 366)/\Z gp ≠ g1):=(λys p2 hq=>by
      obtain⟨gp,q1,q2,q3,q4,q5,q6⟩:=hx ys p2 hq;have hz:=H3.o.size;refine⟨gp,q1,q2,q3,by omega,by omega,q5,q6 g1 ?_⟩;have:=R1.port;rw[hq]at this;exact this);have jl:J (Run _ _ _ _ _ _ _ _ _):=R1;clear R1 hx kE))
  all_goals go_wp2;go_meet;exact⟨x1,x2,x3,g1,rfl,jl,HX⟩
 case rest=>
 obtain⟨x1,x2,x3,g1,rfl,jl,HX⟩:=hcut;obtain⟨w1,Hf⟩:∃w1,w1=wc:=⟨wc,rfl⟩
 subst Hf;clear HC qE hwu vF RUN;have uC:J (aB N 219 _ w1 _):=Jk1 E b g1 wj (p.lstS wj l) x1 x2 x3 w1 jl.o.env jl.o.port (λys p2 h=>by have:=(HF.o ys p2 h).2;have:=HKE.o;omega) (λys p2 h=>by obtain⟨gp,q1,q2,q3,q4,q5,q6,q7⟩:=HX.o ys p2 h;exact⟨gp,q1,q2,q3,q5,q6,q7⟩);go_wp2_with fail;refine uC.o.mono ?_;rintro _ w2⟨rfl,kE⟩;obtain⟨g2,R2⟩:=jl.o.step kE;have zu:J (∀ys p2,p.lstS wj l=Z (ys,p2)->∃gp,x1=Z ⟨gp,0,Y⟩/\x2=ys.length/\x3=ys.length/\w.heap.size<=gp/\gp ≠ b/\w2.heap[gp]? =Z (T (vvA (ys.map encS)) 366)/\Z gp ≠ g2):=λys p2 h=>by
  obtain⟨gp,q1,q2,q3,q4,q5,q6,q7⟩:=HX.o ys p2 h;obtain⟨r1,r2⟩:=JhN kE R2.port q6 q5 q7;exact⟨gp,q1,q2,q3,q4,q5,r1,r2⟩
 have bx2:=(R2.box (k:=w.heap.size) (Ql _) BX0.out).1;have c1:w2.cell? ⟨w.heap.size,1,Y⟩=Z (aL m):=Ja bx2;have c2:w2.cell? ⟨w.heap.size,2,Y⟩=Z (L k):=Ja bx2;have c3:w2.cell? ⟨w.heap.size,3,Y⟩=Z (O aD (a:Int)):=Ja bx2;have c4:w2.cell? ⟨w.heap.size,4,Y⟩=Z (O aE (o:Int)):=Ja bx2;have sM:J (JP (Yg (p.lstS wj l))<=80000000):=by
  show JP (Yg (p.lstS wj l))<=80000000
  cases hq:p.lstS wj l with
  | none=>simp[Yg,JP]
  | some r=>
   obtain⟨ys,p2⟩:=r;have h1:=Ji4 ys p2;have h2:=(HF.o ys p2 hq).1;have h3:=HW.o;have h4:=vM.o;simp only[Yg];omega
 have kH:J (Run _ _ _ _ _ _ _ _ _):=R2;clear R2 kE HX uC jl bx2;have HMO:J (aB N 221 _ w2 _):=Jow E b g2 wj m _ w2 kH.out.port;have ze:J (p.way wj l m k (a,o)=match p.lstS wj l with
 | none=>Y
 | some (ys,p1)=>
  if ys.length=0/\ZW m (Xl ys (Z p1))=false then (Xl ys (Z p1)).map λp=>(([],Y),p)
  else (Jv wj k (a,o) (Xl ys (Z p1))).2.map λp=>((ys,Z (Jv wj k (a,o) (Xl ys (Z p1))).1),p)):=(by unfold PS.way;rfl)
 go_upto_region 3 with fail;go_cut [28] (λv wx=>v=aL (decide (x2=0/\ZW m (Yg (p.lstS wj l))=false))/\J (M D w2 wx))
 case first=>
  clear HF HW vM BX0 BX1 sM zu kC
  by_cases sv:x2=0
  ·have dD:((x2:Nat):Int)=0:=(by omega);have cJ:J (x2=0):=sv;clear sv;go_wp2_with fail;refine HMO.o.mono ?_;rintro _ w3⟨rfl,ht⟩;have H8:J (M _ _ _):=ht;clear ht;go_wp2;go_meet;refine⟨?_,H8⟩;rw[show decide (x2=0/\ZW m (Yg (p.lstS wj l))=false)= !ZW m (Yg (p.lstS wj l)) by simp[cJ.o]]
  ·have dD:¬((x2:Nat):Int)=0:=(by omega);go_wp2;go_meet;exact⟨by simp[sv],Te _ _⟩
 case rest=>
 obtain⟨rfl,dc⟩:=hcut;obtain⟨w3,jX⟩:∃w3,w3=wc:=⟨wc,rfl⟩
 subst jX;have R3:=kH.out.next dc.o;have bx3:=(R3.box (k:=w.heap.size) (Ql _) BX0.out).1;have c1:w3.cell? ⟨w.heap.size,1,Y⟩=Z (aL m):=Ja bx3;have c2:w3.cell? ⟨w.heap.size,2,Y⟩=Z (L k):=Ja bx3;have c3:w3.cell? ⟨w.heap.size,3,Y⟩=Z (O aD (a:Int)):=Ja bx3;have c4:w3.cell? ⟨w.heap.size,4,Y⟩=Z (O aE (o:Int)):=Ja bx3;have pw:J (∀ys p2,p.lstS wj l=Z (ys,p2)->∃gp,x1=Z ⟨gp,0,Y⟩/\x2=ys.length/\x3=ys.length/\w.heap.size<=gp/\gp ≠ b/\w3.heap[gp]? =Z (T (vvA (ys.map encS)) 366)/\Z gp ≠ g2):=λys p2 h=>by
  obtain⟨gp,q1,q2,q3,q4,q5,q6,q7⟩:=zu.o ys p2 h;exact⟨gp,q1,q2,q3,q4,q5,(dc.o.block gp (Jb q6) (λh=>h)).trans q6,q7⟩
 have kf:J (Run _ _ _ _ _ _ _ _ _):=R3;clear R3 bx3 zu dc HMO kH HF HW vM kC
 by_cases hc:x2=0/\ZW m (Yg (p.lstS wj l))=false
 ·have ji:J (_/\_):=hc;rw[decide_eq_true hc];clear hc;have rR:=(kf.out.box (k:=w.heap.size+1) (by omega) BX1.out).1;have e0:w3.cell? ⟨w.heap.size+1,0,Y⟩=Z (R Y 0 0):=Ja rR;have e1:w3.cell? ⟨w.heap.size+1,1,Y⟩=Z (aL false):=Ja rR;have e2:w3.cell? ⟨w.heap.size+1,2,Y⟩=Z (L ⟨#[]⟩):=Ja rR;have e3:w3.cell? ⟨w.heap.size+1,3,Y⟩=Z (O aD 0):=Ja rR;have e4:w3.cell? ⟨w.heap.size+1,4,Y⟩=Z (O aE 0):=Ja rR;have fR:∀j,w3.frozen? ⟨w.heap.size+1,j,Y⟩=false:=λj=>Qg _ _ _ _ _ rR;have RR:J (_=_):=rR;clear rR;go_wp2;rw[set5 _ _ _ _ _ _ _ _ _ _ _ _ _ RR.out];have kE:=kf.out.done (k:=w.heap.size+1) (cs:= #[R Y 0 0,aL false,L ⟨#[]⟩,O aD 0,O aE 0]) (by omega) BX1.out (by decide);refine QK (v:=aH #[R Y 0 0,aL false,L ⟨#[]⟩,O aD 0,O aE 0]) (Qq results146 _ _ (w.heap.size+1) _ _ (0,0) _ rfl (Qi _ _ _ _ _ _ RR.out) underlying258 rfl (by kernel_rfl)) rfl ?_;obtain⟨g',h1,h2,h3⟩:=kE;obtain⟨sv,pX⟩:=ji.o;refine⟨Y,0,0,false,⟨#[]⟩,0,0,g',rfl,?_,h2,h3,?_⟩
  ·rw[ze.o]
   cases hq:p.lstS wj l with
   | none=>rw[hq]at h1;exact h1
   | some r=>
    obtain⟨ys,p1⟩:=r;rw[hq]at h1 pX;obtain⟨_,_,q2,_⟩:=pw.o ys p1 hq;simp only[Yg]at h1 pX;dsimp only;rw[if_pos ⟨by omega,pX⟩,Option.map_map]
    cases hr:Xl ys (Z p1) with
    | none=>rw[hr]at h1;exact h1
    | some p2=>rw[hr]at h1;exact h1
  ·intro wy p2 h;rw[ze.o]at h
   cases hq:p.lstS wj l with
   | none=>rw[hq]at h;cases h
   | some r=>
    obtain⟨ys,p1⟩:=r;rw[hq]at h pX;obtain⟨_,_,q2,_⟩:=pw.o ys p1 hq;simp only[Yg]at pX;dsimp only at h;rw[if_pos ⟨by omega,pX⟩]at h
    cases hr:Xl ys (Z p1) with
    | none=>rw[hr]at h;cases h
    | some p2=>rw[hr]at h;cases h;exact aM ⟨rfl,rfl,rfl,rfl,rfl,rfl⟩
 ·have ji:J (¬(_/\_)):=hc;rw[decide_eq_false hc];clear hc;have HLF:J (aB N 222 _ w3 _):=JjH E b Hc g2 wj (by omega) k a o ho _ w3 kf.out.env kf.out.port sM.o;go_wp2_with fail;refine HLF.o.mono ?_;rintro _ w4⟨rfl,kE⟩;obtain⟨g4,R4⟩:=kf.out.step kE;have fF:J (∀ys p2,p.lstS wj l=Z (ys,p2)->∃gp,x1=Z ⟨gp,0,Y⟩/\x2=ys.length/\x3=ys.length/\w.heap.size<=gp/\gp ≠ b/\w4.heap[gp]? =Z (T (vvA (ys.map encS)) 366)/\Z gp ≠ g4):=λys p2 h=>by
   obtain⟨gp,q1,q2,q3,q4,q5,q6,q7⟩:=pw.o ys p2 h;obtain⟨r1,r2⟩:=JhN kE R4.port q6 q5 q7;exact⟨gp,q1,q2,q3,q4,q5,r1,r2⟩
  have rR:=(R4.box (k:=w.heap.size+1) (by omega) BX1.out).1;have e0:w4.cell? ⟨w.heap.size+1,0,Y⟩=Z (R Y 0 0):=Ja rR;have e1:w4.cell? ⟨w.heap.size+1,1,Y⟩=Z (aL false):=Ja rR;have e2:w4.cell? ⟨w.heap.size+1,2,Y⟩=Z (L ⟨#[]⟩):=Ja rR;have e3:w4.cell? ⟨w.heap.size+1,3,Y⟩=Z (O aD 0):=Ja rR;have e4:w4.cell? ⟨w.heap.size+1,4,Y⟩=Z (O aE 0):=Ja rR;have fR:∀j,w4.frozen? ⟨w.heap.size+1,j,Y⟩=false:=λj=>Qg _ _ _ _ _ rR;have RR:J (_=_):=rR;have jN:J (Run _ _ _ _ _ _ _ _ _):=R4;clear rR R4 kE HLF pw kf;go_wp2;rw[set5 _ _ _ _ _ _ _ _ _ _ _ _ _ RR.out];have kE:=jN.out.done (k:=w.heap.size+1) (cs:= #[R x1 x2 x3,aL true,L ⟨(Jv wj k (a,o) (Yg (p.lstS wj l))).1.1.toArray⟩,O aD ((Jv wj k (a,o) (Yg (p.lstS wj l))).1.2.1:Int),O aE ((Jv wj k (a,o) (Yg (p.lstS wj l))).1.2.2:Int)]) (by omega) BX1.out (by decide);refine QK (v:=aH #[R x1 x2 x3,aL true,L ⟨(Jv wj k (a,o) (Yg (p.lstS wj l))).1.1.toArray⟩,O aD ((Jv wj k (a,o) (Yg (p.lstS wj l))).1.2.1:Int),O aE ((Jv wj k (a,o) (Yg (p.lstS wj l))).1.2.2:Int)]) (Qq results146 _ _ (w.heap.size+1) _ _ (0,0) _ rfl (Qi _ _ _ _ _ _ RR.out) underlying258 rfl (by kernel_rfl)) rfl ?_;obtain⟨g',h1,h2,h3⟩:=kE;have vT:g'=g4:=h1.same (jN.out.port.row RR.out (by decide) (jN.out.box (k:=w.heap.size+1) (by omega) BX1.out).2);refine⟨x1,x2,x3,true,⟨(Jv wj k (a,o) (Yg (p.lstS wj l))).1.1.toArray⟩,(Jv wj k (a,o) (Yg (p.lstS wj l))).1.2.1,(Jv wj k (a,o) (Yg (p.lstS wj l))).1.2.2,g',rfl,?_,h2,h3,?_⟩
  ·rw[ze.o]
   cases hq:p.lstS wj l with
   | none=>rw[hq]at h1;exact h1
   | some r=>
    obtain⟨ys,p1⟩:=r;have uR:=ji.o;rw[hq]at h1 uR;obtain⟨_,_,q2,_⟩:=fF.o ys p1 hq;simp only[Yg]at h1 uR;dsimp only;rw[if_neg (by rw[<-q2];exact uR),Option.map_map]
    cases hr:(Jv wj k (a,o) (Xl ys (Z p1))).2 with
    | none=>rw[hr]at h1;exact h1
    | some p2=>rw[hr]at h1;exact h1
  ·intro wy p2 h;rw[ze.o]at h
   cases hq:p.lstS wj l with
   | none=>rw[hq]at h;cases h
   | some r=>
    obtain⟨ys,p1⟩:=r;have uR:=ji.o;rw[hq]at h uR;obtain⟨gp,q1,q2,q3,q4,q5,q6,q7⟩:=fF.o ys p1 hq;simp only[Yg]at uR;dsimp only at h;rw[if_neg (by rw[<-q2];exact uR)]at h
    cases hr:(Jv wj k (a,o) (Xl ys (Z p1))).2 with
    | none=>rw[hr]at h;cases h
    | some p3=>
     rw[hr]at h
     cases h
     refine aN ⟨gp,by rw[q1,q2,q3],q4,q5,by rw[vT];exact q7,?_,rfl,rfl⟩;have Hd:gp ≠ w.heap.size+1:=by intro e;have:=RR.out;rw[<-e,q6]at this;simp at this
     exact(setRow_other _ _ _ _ Hd).trans q6

def rdAt(q s:List UInt8)(i:Nat):PS:=.rd (q++s.take i) (s.drop i)
theorem ZH(q s:List UInt8)(i x k:Nat)(hi:i<=s.length):(rdAt q s i).num x k=if i+k<=s.length then Z (numL ((s.drop i).take k),rdAt q s (i+k)) else Y:=by
 unfold rdAt;simp only[PS.num,lE,List.drop_drop,Qs]
 by_cases h:i+k<=s.length
 ·rw[if_pos h,if_pos (by omega),lU]
 ·rw[if_neg h,if_neg (by omega)]
theorem Jcb(q s x:List UInt8)(i k:Nat)(hi:i<=s.length):(rdAt q s i).txt x k=if i+k<=s.length then Z ((s.drop i).take k,rdAt q s (i+k)) else Y:=by
 unfold rdAt;simp only[PS.txt,lE,List.drop_drop,Qs]
 by_cases h:i+k<=s.length
 ·rw[if_pos h,if_pos (by omega),lU]
 ·rw[if_neg h,if_neg (by omega)]
def Js(s:List UInt8)(i:Nat):Nat:=(s.getD i 0).toNat
theorem Jbh(s:List UInt8)(i:Nat)(h:i<s.length):numL ((s.drop i).take 1)=Js s i:=by
 rw[lF h,List.take_succ_cons,List.take_zero];unfold Js;rw[Qn,Qd h];simp[numL]
def outP(s:List UInt8)(i:Nat):Nat×Nat:=(numL ((s.drop i).take 8),Js s (i+8))
def YV(s:List UInt8)(i n:Nat):List (Nat×Nat):=(lP n).map λj=>outP s (i+9*j)
theorem Jd2(s:List UInt8)(i n:Nat):YV s i (n+1)=outP s i::YV s (i+9) n:=by
 unfold YV;rw[List.range_succ_eq_map,lT,List.map_map]
 congr 1
 refine List.map_congr_left λj _=>?_;show outP s (i+9*(j+1))=outP s (i+9+9*j)
 congr 1
 omega
theorem JiM(s:List UInt8)(i n:Nat):YV s i (n+1)=YV s i n++[outP s (i+9*n)]:=by
 unfold YV;rw[List.range_succ,lI];rfl
theorem Jfz(q s:List UInt8):∀(n i:Nat),i<=s.length->PS.outs (lC n (0,0)) (rdAt q s i)=if i+9*n<=s.length then Z (YV s i n,rdAt q s (i+9*n)) else Y
 | 0,i,hi=>by rw[if_pos (by omega)];rfl
 | n+1,i,hi=>by
  rw[lG];simp only[PS.outs,PS.out];rw[ZH q s i 0 8 hi]
  by_cases h8:i+8<=s.length
  ·rw[if_pos h8];simp only;rw[ZH q s (i+8) 0 1 h8]
   by_cases h9:i+8+1<=s.length
   ·rw[if_pos h9];simp only;rw[Jfz q s n (i+8+1) h9,Jd2,Jbh s (i+8) (by omega)]
    by_cases hn:i+9*(n+1)<=s.length
    ·rw[if_pos hn,if_pos (by omega)];simp only[outP];rw[show i+8+1+9*n=i+9*(n+1) by omega]
    ·rw[if_neg hn,if_neg (by omega)]
   ·rw[if_neg h9,if_neg (by omega)]
  ·rw[if_neg h8,if_neg (by omega)]
def Xc(s:List UInt8)(i:Nat):Option (List (Nat×Nat)×Nat):=
 if i<s.length/\Js s i<=3/\i+1+9*Js s i<=s.length then Z (YV s (i+1) (Js s i),i+1+9*Js s i) else Y
theorem JiT(q s:List UInt8)(i:Nat)(hi:i<=s.length):(rdAt q s i).listO 0 3 []=(Xc s i).map λx=>(x.1,rdAt q s x.2):=by
 unfold PS.listO Xc;rw[ZH q s i _ 1 hi]
 by_cases h1:i<s.length
 ·rw[if_pos (by omega)];simp only;rw[Jbh s i h1]
  by_cases h2:Js s i<=3
  ·rw[if_neg (by omega),show Zd [] (Js s i)=lC (Js s i) (0,0) from if_pos rfl,Jfz q s _ (i+1) (by omega)]
   by_cases h3:i+1+9*Js s i<=s.length
   ·rw[if_pos h3,if_pos ⟨h1,h2,h3⟩];rfl
   ·rw[if_neg h3,if_neg (λh=>h3 h.2.2)];rfl
  ·rw[if_pos (by omega),if_neg (λh=>h2 h.2.1)];rfl
 ·rw[if_neg (by omega),if_neg (λh=>h1 h.1)];rfl
def Jbo(wj:Nat)(s:List UInt8)(i:Nat):BA×Int:=(⟨((s.drop i).take wj).toArray⟩,(Js s (i+wj):Int))
def XW(wj:Nat)(s:List UInt8)(i n:Nat):List (BA×Int):=(lP n).map λj=>Jbo wj s (i+(wj+1)*j)
theorem JcY(wj:Nat)(s:List UInt8)(i n:Nat):XW wj s i (n+1)=Jbo wj s i::XW wj s (i+(wj+1)) n:=by
 unfold XW;rw[List.range_succ_eq_map,lT,List.map_map]
 congr 1
 refine List.map_congr_left λj _=>?_;show Jbo wj s (i+(wj+1)*(j+1))=Jbo wj s (i+(wj+1)+(wj+1)*j)
 congr 1
 rw[lR];omega
theorem JgR(wj:Nat)(s:List UInt8)(i n:Nat):XW wj s i (n+1)=XW wj s i n++[Jbo wj s (i+(wj+1)*n)]:=by
 unfold XW;rw[List.range_succ,lI];rfl
def YJ(wj:Nat)(s:List UInt8)(i n:Nat):Prop:=∀j,j<n->Js s (i+(wj+1)*j+wj)<3
theorem Jat(wj:Nat)(s:List UInt8)(i n:Nat):YJ wj s i (n+1)↔Js s (i+wj)<3/\YJ wj s (i+(wj+1)) n:=by
 unfold YJ;constructor
 ·intro h;refine⟨by simpa using h 0 (by omega),λj hj=>?_⟩;have:=h (j+1) (by omega)
  rwa [show i+(wj+1)*(j+1)+wj=i+(wj+1)+(wj+1)*j+wj by rw[lR];omega]at this
 ·rintro⟨h0,h⟩ j hj
  cases j with
  | zero=>simpa using h0
  | succ j=>
   have:=h j (by omega)
   rwa [show i+(wj+1)*(j+1)+wj=i+(wj+1)+(wj+1)*j+wj by rw[lR];omega]
open Classical in
theorem Jed(wj:Nat)(q s:List UInt8):∀(n i:Nat),i<=s.length->PS.coins wj (lC n (⟨#[]⟩,0)) (rdAt q s i)=if i+(wj+1)*n<=s.length/\YJ wj s i n then Z (XW wj s i n,rdAt q s (i+(wj+1)*n)) else Y
 | 0,i,hi=>by rw[if_pos ⟨by omega,λj hj=>absurd hj (by omega)⟩];rfl
 | n+1,i,hi=>by
  rw[lG];simp only[PS.coins,PS.coin];have tO:(wj+1)*(n+1)=(wj+1)+(wj+1)*n:=by rw[lR];omega
  rw[Jcb q s _ i wj hi]
  by_cases hw:i+wj<=s.length
  ·rw[if_pos hw];simp only;rw[ZH q s (i+wj) _ 1 hw]
   by_cases h9:i+wj+1<=s.length
   ·rw[if_pos h9];simp only;rw[Jbh s (i+wj) (by omega)]
    by_cases hc:Js s (i+wj)<3
    ·rw[if_pos hc];simp only;rw[show i+wj+1=i+(wj+1) by omega,Jed wj q s n (i+(wj+1)) (by omega),JcY]
     by_cases hn:i+(wj+1)+(wj+1)*n<=s.length/\YJ wj s (i+(wj+1)) n
     ·rw[if_pos hn,if_pos ⟨by omega,(Jat wj s i n).2 ⟨hc,hn.2⟩⟩];simp only;rw[show i+(wj+1)+(wj+1)*n=i+(wj+1)*(n+1) by omega];rfl
     ·rw[if_neg hn,if_neg (λh=>hn ⟨by omega,((Jat wj s i n).1 h.2).2⟩)]
    ·rw[if_neg hc,if_neg (λh=>hc ((Jat wj s i n).1 h.2).1)]
   ·rw[if_neg h9,if_neg (λh=>h9 (by omega))]
  ·rw[if_neg hw,if_neg (λh=>hw (by omega))]
open Classical in
noncomputable def Xq(wj:Nat)(s:List UInt8)(i:Nat):Option (TxL×Nat):=
 if i<s.length/\1<=Js s i/\Js s i<=3/\i+1+(wj+1)*Js s i<=s.length/\YJ wj s (i+1) (Js s i) then
  (Xc s (i+1+(wj+1)*Js s i)).map λx=>((XW wj s (i+1) (Js s i),x.1),x.2)
 else Y
open Classical in
theorem JoE(wj:Nat)(q s:List UInt8)(i:Nat)(hi:i<=s.length):(rdAt q s i).tx wj ([],[])=(Xq wj s i).map λx=>(x.1,rdAt q s x.2):=by
 unfold PS.tx PS.listC Xq;simp only;rw[ZH q s i _ 1 hi]
 by_cases h1:i<s.length
 ·rw[if_pos (by omega)];simp only;rw[Jbh s i h1]
  by_cases h2:1<=Js s i/\Js s i<=3
  ·rw[if_neg (by omega),show Yy [] (Js s i)=lC (Js s i) (⟨#[]⟩,0) from if_pos rfl,Jed wj q s _ (i+1) (by omega)]
   by_cases h3:i+1+(wj+1)*Js s i<=s.length/\YJ wj s (i+1) (Js s i)
   ·rw[if_pos h3,if_pos ⟨h1,h2.1,h2.2,h3.1,h3.2⟩];simp only;rw[JiT q s _ h3.1]
    cases Xc s (i+1+(wj+1)*Js s i)<;>rfl
   ·rw[if_neg h3,if_neg (λh=>h3 ⟨h.2.2.2.1,h.2.2.2.2⟩)];rfl
  ·rw[if_pos (by omega),if_neg (λh=>h2 ⟨h.2.1,h.2.2.1⟩)];rfl
 ·rw[if_neg (by omega),if_neg (λh=>h1 h.1)];rfl
theorem Jd1{x:List (Nat×Nat)×Nat}(h:Xc s i=Z x):x.2<=s.length/\i<x.2:=by
 unfold Xc at h
 split at h
 ·rename_i hc
  cases h
  exact⟨hc.2.2,by show i<i+1+_;omega⟩
 ·cases h
theorem Jco{x:TxL×Nat}(h:Xq wj s i=Z x):x.2<=s.length/\i<x.2:=by
 unfold Xq at h
 split at h
 ·obtain⟨y,hy,rfl⟩:=lJ.1 h;have:=Jd1 hy;exact⟨this.1,by show i<y.2;omega⟩
 ·cases h
noncomputable def Xf(wj:Nat)(s:List UInt8):Nat->Nat->Option (List TxL×Nat)
 | 0,i=>Z ([],i)
 | n+1,i=>match Xq wj s i with
  | none=>Y
  | some (t,j)=>match Xf wj s n j with
   | none=>Y
   | some (ts,k)=>Z (t::ts,k)
theorem JhG(wj:Nat)(q s:List UInt8):∀(n i:Nat),i<=s.length->PS.txs wj (lC n ([],[])) (rdAt q s i)=(Xf wj s n i).map λx=>(x.1,rdAt q s x.2)
 | 0,i,_=>rfl
 | n+1,i,hi=>by
  rw[lG];simp only[PS.txs,Xf];rw[JoE wj q s i hi]
  cases ht:Xq wj s i with
  | none=>rfl
  | some x=>
   obtain⟨t,j⟩:=x;simp only[lH];rw[JhG wj q s n j (Jco ht).1]
   cases Xf wj s n j with
   | none=>rfl
   | some y=>rfl
noncomputable def Yl(wj:Nat)(s:List UInt8):Option (List TxL):=
 if 1<=s.length/\Js s 0<=3 then match Xf wj s (Js s 0) 1 with
  | none=>Y
  | some (ts,j)=>if j=s.length then Z ts else Y
 else Y

theorem Jhr:∀(n:Nat)(a b:List UInt8),a.length=n->b.length=n->numL a=numL b->a=b
 | 0,a,b,ha,hb,_=>by rw[QP ha,QP hb]
 | n+1,a,b,ha,hb,h=>by
  have uF:a ≠ []:=λe=>by rw[e]at ha;simp at ha
  have uH:b ≠ []:=λe=>by rw[e]at hb;simp at hb
  have ea:=List.dropLast_concat_getLast uF;have eb:=List.dropLast_concat_getLast uH;rw[<-ea,<-eb,Jag,Jag]at h;have h1:=lD (a.getLast uF);have h2:=lD (b.getLast uH);have e1:numL a.dropLast=numL b.dropLast:=by omega
  have e2:(a.getLast uF).toNat=(b.getLast uH).toNat:=by omega
  have i1:=Jhr n a.dropLast b.dropLast (by simp[ha]) (by simp[hb]) e1;rw[<-ea,<-eb,i1,UInt8.toNat_inj.1 e2]
theorem ZB(l:List UInt8)(k:Nat)(h:l.length=k):beL (numL l) k k=l:=by
 refine Jhr k _ _ (Jf _ _ _) h ?_;have H5:=Ys l;rw[h]at H5;have h2:numL l<2 ^ (8*k):=by rw[Nat.pow_mul];exact H5
 rw[YH (numL l) k h2 k (Ql _),lW];simp
theorem JfA(q s:List UInt8):rdAt q s 0=.rd q s:=by simp[rdAt]
theorem JmY(wj:Nat)(s:List UInt8)(z:HdL):(PS.rd [] s).hdr wj z=if 4+3*wj<=s.length then Z ((numL (s.take 4),⟨((s.drop 4).take wj).toArray⟩,⟨((s.drop (4+wj)).take wj).toArray⟩,⟨((s.drop (4+wj+wj)).take wj).toArray⟩),.rd (s.take (4+3*wj)) (s.drop (4+3*wj))) else Y:=by
 rw[<-JfA];unfold PS.hdr;rw[ZH [] s 0 _ 4 (by omega)]
 by_cases h1:0+4<=s.length
 ·rw[if_pos h1];simp only;rw[Jcb [] s _ (0+4) wj h1]
  by_cases h2:0+4+wj<=s.length
  ·rw[if_pos h2];simp only;rw[Jcb [] s _ (0+4+wj) wj h2]
   by_cases h3:0+4+wj+wj<=s.length
   ·rw[if_pos h3];simp only;rw[Jcb [] s _ (0+4+wj+wj) wj h3]
    by_cases h4:0+4+wj+wj+wj<=s.length
    ·rw[if_pos h4,if_pos (by omega)];simp only[rdAt,List.drop_zero,lO,lX];rw[show 4+wj+wj+wj=4+3*wj by omega]
    ·rw[if_neg h4,if_neg (by omega)]
   ·rw[if_neg h3,if_neg (by omega)]
  ·rw[if_neg h2,if_neg (by omega)]
 ·rw[if_neg h1,if_neg (by omega)]
theorem JfM:∀(n i:Nat){x:List TxL×Nat},i<=s.length->Xf wj s n i=Z x->x.2<=s.length
 | 0,i,x,hi,h=>by cases h;exact hi
 | n+1,i,x,hi,h=>by
  simp only[Xf]at h
  cases ht:Xq wj s i with
  | none=>rw[ht]at h;cases h
  | some y=>
   obtain⟨t,j⟩:=y;rw[ht]at h;simp only at h
   cases hr:Xf wj s n j with
   | none=>rw[hr]at h;cases h
   | some z=>
    obtain⟨ts,k⟩:=z;rw[hr]at h
    cases h
    have:=JfM (x:=(ts,k)) n j (Jco ht).1 hr;exact this
theorem JdF(wj:Nat)(q s:List UInt8):(match (PS.rd q s).body wj [] with|some (ts,.rd _ [])=>Z ts|_=>Y)=Yl wj s:=by
 rw[<-JfA];unfold PS.body Yl;rw[ZH q s 0 _ 1 (by omega)]
 by_cases h1:1<=s.length
 ·rw[if_pos (by omega)];simp only;rw[Jbh s 0 (by omega)]
  by_cases h2:Js s 0<=3
  ·rw[if_neg (by omega),if_pos ⟨h1,h2⟩,show Zq [] (Js s 0)=lC (Js s 0) ([],[]) from if_pos rfl,JhG wj q s _ (0+1) (by omega)]
   cases ht:Xf wj s (Js s 0) (0+1) with
   | none=>rfl
   | some x=>
    obtain⟨ts,j⟩:=x;have hj:=JfM _ _ (by omega) ht;simp only[lH,rdAt]at hj ⊢
    by_cases he:j=s.length
    ·rw[if_pos he,he,List.drop_length]
    ·rw[if_neg he]
     cases hd:s.drop j with
     | nil=>
      have:=congrArg lM hd;rw[lE]at this;simp at this;omega
     | cons a r=>rfl
  ·rw[if_pos (by omega),if_neg (λh=>h2 h.2)]
 ·rw[if_neg (by omega),if_neg (λh=>h1 h.1)]
def tipB(wj:Nat)(ch:Ch)(s:List UInt8):List UInt8:=beL ch.length 4 4++(dgW wj (72::ch.last.1.data.toList)).data.toList++(dgW wj (66::s)).data.toList
noncomputable def Xv(wj:Nat)(ch:Ch)(text:List UInt8):Except Er Ch:=
 if text.length<4+3*wj then .error .form else match Yl wj (text.drop (4+3*wj)) with
  | none=>.error .form
  | some ts=>if text.take (4+2*wj) ≠ tipB wj ch (text.drop (4+3*wj)) then .error .tip else match JH (dgW wj) ch.last.2 ts with
   | .error e=>.error e
   | .ok st=>if (text.drop (4+2*wj)).take wj ≠ (Xh (dgW wj) st).data.toList then .error .root else .ok (ch++[(⟨(text.take (4+3*wj)).toArray⟩,st)])
theorem JbU{a:List UInt8}{b:BA}:(⟨a.toArray⟩:BA)=b↔a=b.data.toList:=by
 constructor
 ·rintro rfl;rfl
 ·rintro rfl;simp
theorem Jja(wj:Nat)(hw:wj<=32)(ch:Ch)(hc:ch.length<2 ^ 32)(text:List UInt8):Jcl (dgW wj) wj ch text=Xv wj ch text:=by
 unfold Jcl Xv;rw[JmY]
 by_cases hn:4+3*wj<=text.length
 ·rw[if_pos hn,if_neg (by omega)];simp only;have hb:=JdF wj (text.take (4+3*wj)) (text.drop (4+3*wj));have Hl:text.length-(text.drop (4+3*wj)).length=4+3*wj:=by rw[lE];omega
  have xG:((numL (text.take 4),(⟨((text.drop 4).take wj).toArray⟩:BA),(⟨((text.drop (4+wj)).take wj).toArray⟩:BA),(⟨((text.drop (4+wj+wj)).take wj).toArray⟩:BA))=Jbr (dgW wj) ch (text.drop (4+3*wj)) ⟨((text.drop (4+wj+wj)).take wj).toArray⟩)↔text.take (4+2*wj)=tipB wj ch (text.drop (4+3*wj)):=by
   unfold Jbr tipB;have yh:(dgW wj (72::ch.last.1.data.toList)).data.toList.length=wj:=(by rw[QA];exact Jj wj hw _);have qj:(dgW wj (66::text.drop (4+3*wj))).data.toList.length=wj:=(by rw[QA];exact Jj wj hw _);have vz:text.take (4+2*wj)=text.take 4++(text.drop 4).take wj++(text.drop (4+wj)).take wj:=(by rw[show 4+2*wj=4+wj+wj by omega,lU,lU]);rw[vz,Qw,Qw,Qw];constructor
   ·rintro⟨e1,e2,e3,_⟩;rw[JbU]at e2 e3;rw[e2,e3]
    congr 2
    rw[<-e1];exact(ZB _ 4 (by rw[QB];omega)).symm
   ·intro e;have l1:(text.take 4++(text.drop 4).take wj).length=(beL ch.length 4 4++(dgW wj (72::ch.last.1.data.toList)).data.toList).length:=(by simp only[Qe,QB,lE,Jf,yh];omega);obtain⟨e12,e3⟩:=List.append_inj e l1;obtain⟨e1,e2⟩:=List.append_inj e12 (by simp only[QB,Jf];omega);refine⟨?_,JbU.2 e2,JbU.2 e3,rfl⟩;rw[e1,YH ch.length 4 (by omega) 4 (Ql _),lW];simp
  cases nO:(PS.rd (text.take (4+3*wj)) (text.drop (4+3*wj))).body wj [] with
  | none=>rw[nO]at hb;simp only at hb ⊢;rw[<-hb]
  | some x=>
   obtain⟨ts,p⟩:=x;rw[nO]at hb
   cases p with
   | wr d=>simp only at hb ⊢;rw[<-hb]
   | rd pre rest=>
    cases rest with
    | cons a r=>simp only at hb ⊢;rw[<-hb]
    | nil=>
     simp only at hb ⊢;rw[<-hb];simp only
     by_cases ht:text.take (4+2*wj)=tipB wj ch (text.drop (4+3*wj))
     ·rw[if_neg (λh=>h (xG.2 ht)),if_neg (λh=>h ht)]
      cases JH (dgW wj) ch.last.2 ts with
      | error e=>rfl
      | ok st=>
       simp only;rw[show 4+2*wj=4+wj+wj by omega,Hl]
       by_cases hr:(text.drop (4+wj+wj)).take wj=(Xh (dgW wj) st).data.toList
       ·rw[if_neg (λh=>h (JbU.2 hr)),if_neg (λh=>h hr)]
       ·rw[if_pos (λh=>hr (JbU.1 h)),if_pos hr]
     ·rw[if_pos (λh=>ht (xG.1 h)),if_pos ht]
 ·rw[if_neg hn,if_pos (by omega)]

theorem JcR{l:List VV}(h:w.heap[gp]? =Z (T (vvA l) aY))(hi:i<l.length)(a o:aG):
  ((w.setCell ⟨gp,i*2,Y⟩ a).setCell ⟨gp,i*2+1,Y⟩ o).heap[gp]? =Z (T (vvA (l.set i (a,o))) aY)/\M (λk=>k=gp) w ((w.setCell ⟨gp,i*2,Y⟩ a).setCell ⟨gp,i*2+1,Y⟩ o):=by
 rw[Qj w gp (i*2) _ _ (0,0) _ h,Qj _ gp (i*2+1) _ _ (0,0) _ (Qi _ _ _ _ _ _ h),QI,Jgy l i a o hi];exact⟨Qi _ _ _ _ _ _ h,Ts _ _ _⟩
theorem Xp{l:List VV}(h:w.heap[gp]? =Z (T (vvA l) aY))(x:VV)(hi:l[i]? =Z x):w.cell? ⟨gp,i*2,Y⟩=Z x.1/\w.cell? ⟨gp,i*2+1,Y⟩=Z x.2:=by
 obtain⟨hl,rfl⟩:=Qo.1 hi;obtain⟨e0,e1⟩:=Yt l i hl;exact⟨(Ja h).trans e0,(Ja h).trans e1⟩
theorem Ze{l:List VV}(h:w.heap[gp]? =Z (T (vvA l) aY))(j:Nat):w.frozen? ⟨gp,j,Y⟩=false:=Qg _ _ _ _ _ h
theorem mkV(hK:IsL K)(n:Nat)(h:n<=2000000)(w:aA):(Instr.makeSlice K.k.tS (O I (n:Int)) (O I (n:Int))).run N w=.ok (R (Z ⟨w.heap.size,0,Y⟩) n n) (w.alloc (T (vvA (lC n K.z)) K.k.tE)):=by
 obtain⟨h1,hu,hc,hb,_⟩:=JjE hK;obtain⟨i,hi,hp⟩:=lJ.1 h1;simp only[Qw]at hp;obtain⟨hz,Hi,gJ⟩:=hp;have:=run_makeSlice (P:=N) (w:=w) K.k.tS K.k.tE i _ hu hi hz I I (n:Int) (n:Int) (by omega) (by omega) (by rw[Hi];omega) (by rw[gJ];have:=lQ hb h;omega) (by omega);rw[this,Int.toNat_natCast,Hi,hc,JjJ]
theorem Jbv{P:Program}(w:aA)(dT sT ty elem:TypeId)(sz g dLen dCap:Nat)(a:Addr)(sLen sCap:Nat)(cur:Array aG)(t:TypeId)(cs:List aG)
 (hu:P.underlying dT=Z (.slice elem)) (hs:(P.info? elem).map (·.size)=Z sz)
 (hg:w.heap[g]? =Z (T cur t (0,0))) (hn:cs.length=Nat.min sLen dLen*sz)
 (mc:∀j v,cs[j]? =Z v->w.cell? (a.add j)=Z v) (tP:cs.length<=cur.size) (h1:∀v∈cs,v.oneCell'=true):
  (lV #[dT,sT] ty #[R (Z ⟨g,0,Y⟩) dLen dCap,R (Z a) sLen sCap]).run P w=.ok (goInt (Nat.min sLen dLen)) (w.setRow g (cs++cur.toList.drop cs.length).toArray):=by
 have hl:=run_loadCells_list (P:=P) w a cs mc;have kE:=run_storeCells_at P g 0 t cs 0 cur w hg (by omega) h1;simp only[Nat.add_zero]at kE
 cases hq:P.info? elem with
 | none=>simp[hq]at hs
 | some i=>
  have hi:i.size=sz:=by simpa [hq]using hs
  simp[lV,run_underlying hu,Builtin.lenOf,Builtin.firstCells,sizeOf,typeInfo,hq,hi,<-hn,hl,kE]
theorem JeM(l r:List VV):vvA (l++r)=vvA l++vvA r:=by simp[vvA]
theorem Jgx(n k:Nat)(z:VV):(vvA (lC (n+k) z)).toList.drop (n*2)=(vvA (lC k z)).toList:=by
 rw[<-List.replicate_append_replicate,JeM,Array.toList_append,List.drop_left'];rw[QA,Yr,lN]
def VR(B:Nat)(w:aA)(v:aG)(l:List VV):Prop:=
 (Emp v/\l=[])\/∃gi oi c,v=R (Z ⟨gi,oi,Y⟩) l.length c/\gi<B/\gi<w.heap.size/\∀i (h:i<l.length),w.cell? ⟨gi,oi+i*2,Y⟩=Z l[i].1/\w.cell? ⟨gi,oi+i*2+1,Y⟩=Z l[i].2
theorem VAt.raw{l:List VV}(h:VAt B w v l):VR B w v l:=h.imp_left λh=>⟨aM h.1,h.2⟩
theorem VR.tch{l:List VV}(h:VR B w v l)(k:M S w w')(hs:∀j,S j->B<=j):VR B w' v l:=by
 rcases h with h|h
 ·exact aM h
 ·exact(VAt.tch (aN h) k hs).raw
theorem VR.shape{l:List VV}(h:VR B w v l):∃a c,v=R a l.length c:=by
 rcases h with⟨h,rfl⟩|⟨gi,oi,c,rfl,_⟩
 ·exact h.shape
 ·exact⟨_,_,rfl⟩
theorem JjA(hK:IsL K){l:List VV}(j5:∀x∈l,K.Sh x)(h:VR B w v l)(hZ:w.heap[gp]? =Z (T (vvA (lC (l.length+k) K.z)) K.k.tE)):
  ∃r:Int,(∀ty,(lV #[K.k.tS,K.k.tS] ty #[R (Z ⟨gp,0,Y⟩) (l.length+k) (l.length+k),v]).run N w=.ok (O I r) (w.setRow gp (vvA (l++lC k K.z)))):=by
 obtain⟨_,hu,_,_,xP⟩:=JjE hK;have h1:∀x∈l,x.1.oneCell'=true/\x.2.oneCell'=true:=λx hx=>Jm7 hK (j5 x hx)
 rcases h with⟨rfl|⟨a,c,rfl⟩,rfl⟩|⟨gi,oi,c,rfl,k1,k2,k3⟩
 ·refine⟨0,λty=>?_⟩;have:=run_copy_nil (P:=N) w K.k.tS K.k.tS ty K.k.tE ⟨gp,0,Y⟩ ((lM ([]:List VV))+k) ((lM ([]:List VV))+k) hu (by rw[xP];rfl);rw[this,lO];simp only[Qv,lX]at hZ;rw[setRow_self w gp _ _ _ hZ];rfl
 ·refine⟨0,λty=>?_⟩;have:=Jbv (P:=N) w K.k.tS K.k.tS ty K.k.tE 2 gp ((lM ([]:List VV))+k) ((lM ([]:List VV))+k) a 0 c _ _ [] hu xP hZ (by simp) (λj v hv=>by simp at hv) (by simp) (λv hv=>by simp at hv);rw[this];simp only[Qv,List.drop_zero,lO,Array.toArray_toList,lX,Nat.zero_min];rfl
 ·refine⟨(Nat.min l.length (l.length+k):Nat),λty=>?_⟩;have me:Nat.min l.length (l.length+k)=l.length:=Nat.min_eq_left (by omega);have:=Jbv (P:=N) w K.k.tS K.k.tS ty K.k.tE 2 gp (l.length+k) (l.length+k) ⟨gi,oi,Y⟩ l.length c _ _ (vvA l).toList hu xP hZ
   (by rw[QA,Yr,me])
   (JfO l _ w (λi hi=>by rw[Addr.add_lit,Addr.add_lit,<-Nat.add_assoc];exact k3 i hi))
   (by rw[QA,Yr,Yr,lN];omega) (Jj3 l h1)
  have e1:(vvA l).toList.length=l.length*2:=by rw[QA,Yr]
  rw[this,e1,Jgx,<-Array.toList_append,<-JeM,Array.toArray_toList];rfl
structure OneC(tS tE:TypeId):Prop where
 und:prog.underlying tS=Z (.slice tE)
 info:∃z b,(prog.info? tE).map (λi=>(i.zero,i.size,i.bytes))=Z (Z z,1,b)/\z.cells.size=1/\b<=24
def VOwn(tE base:Nat)(w:aA)(v:aG)(l:List aG):Prop:=w.ownsRow base tE 1 v l.length l
theorem VOwn.nil(tE base:Nat)(w:aA):VOwn tE base w (R Y 0 0) []:=⟨rfl,aM ⟨rfl,rfl⟩⟩
theorem VOwn.own(h:VOwn tE base w v l):∀k,v.ownBlock=Z k->base<=k/\k<w.heap.size/\∃cs m,w.heap[k]? =Z (T cs tE m):=by
 obtain⟨_,⟨rfl,h0⟩|⟨g,cap,cur,rfl,hb,hZ,_⟩⟩:=h
 ·intro k hk;cases hk
 ·intro k hk;cases hk;exact⟨hb,(Jb hZ),_,_,hZ⟩
theorem VOwn.tch(h:VOwn tE base w v l)(k:M S w w')(hs:∀j,v.ownBlock=Z j->¬S j):VOwn tE base w' v l:=by
 obtain⟨h1,⟨rfl,h0⟩|⟨g,cap,cur,rfl,hb,hZ,h2⟩⟩:=h
 ·exact⟨h1,aM ⟨rfl,h0⟩⟩
 ·exact⟨h1,aN ⟨g,cap,cur,rfl,hb,(k.block g (Jb hZ) (hs g rfl)).trans hZ,h2⟩⟩
theorem VOwn.shape(h:VOwn tE base w v l):∃a c,v=R a l.length c:=by
 obtain⟨_,⟨rfl,h0⟩|⟨g,cap,cur,rfl,_⟩⟩:=h
 ·exact⟨Y,0,by rw[h0]⟩
 ·exact⟨_,_,rfl⟩
theorem VOwn.shape3(h:VOwn tE base w v l):∃a n c,v=R a n c:=by
 obtain⟨a,c,e⟩:=h.shape;exact⟨a,_,c,e⟩
theorem VOwn.apart{aY:Nat}(h:VOwn tE base w v l){j:Nat}{m:Nat×Nat}(hr:w.heap[j]? =Z (T cs aY m))(hT:aY ≠ tE):¬v.ownBlock=Z j:=λe=>by
 obtain⟨_,_,cs',m',kL⟩:=h.own j e;rw[hr]at kL;simp at kL;exact hT kL.2.1
theorem VOwn.at(h:VOwn tE base w v l)(i:Nat)(x:aG)(hx:l[i]? =Z x):∃g cap,v=R (Z ⟨g,0,Y⟩) l.length cap/\g<w.heap.size/\w.cell? ⟨g,i,Y⟩=Z x:=by
 have hi:=(Qo.1 hx).1;obtain⟨_,⟨rfl,h0⟩|⟨g,cap,cur,rfl,_,hZ,_,_,Hi,kK⟩⟩:=h
 ·omega
 ·refine⟨g,cap,rfl,(Jb hZ),?_⟩;rw[<-kK]at hx;rw[List.getElem?_take_of_lt (by omega)]at hx;rw[Ja hZ,<-Array.getElem?_toList];exact hx
theorem Jgq(hO:OneC tS tE)(h:VOwn tE base w v l)(k:Nat)(x:aG)(hx:w.cell? ⟨k,0,Y⟩=Z x)(h1:x.oneCell'=true)(ty:TypeId)(hb:l.length<=1000000000)(Ha:base<=w.heap.size):
  ∃v' w',(Builtin.append_ #[tS,tS] ty #[v,R (Z ⟨k,0,Y⟩) 1 1]).run N w=.ok v' w'/\VOwn tE base w' v' (l++[x])/\w.grownBy w' v.ownBlock/\(v'.ownBlock=v.ownBlock\/v'.ownBlock=Z w.heap.size):=by
 obtain⟨z,b,hinf,qU,hb24⟩:=hO.info;obtain⟨i,hi,hp⟩:=lJ.1 hinf;simp only[Qw]at hp;obtain⟨hz,Hi,gJ⟩:=hp;obtain⟨v',w',hr,h2,h3,_,h4⟩:=run_append_own_at (P:=N) w base tS ty tE i _ 1 b hO.und hi hz Hi gJ qU (by omega) v l.length l h ⟨k,0,Y⟩ 1 1 [x] rfl (λj u hu=>by
  rw[Addr.add_lit,lX]
  match j with
  | 0=>simp only[List.getElem?_cons_zero,Qh]at hu;rw[<-hu];exact hx
  | j+1=>simp at hu) (λu hu=>by simp only[Qt]at hu;rw[hu];exact h1) (by simp only[maxLen];omega) (by have:=Nat.mul_le_mul_left (l.length+1) hb24;omega) Ha
 exact⟨v',w',hr,by unfold VOwn;rw[Qe];exact h2,h3,h4⟩
theorem Yu(hO:OneC tS tE){ops:Array Oper}{rest:List Oper}{o:Oper}{a:Act}{Q:Exit->Act->aA->Prop}(jd:o.guard=Y)(s x:Operand)
 (ho:o.op=.call { callee:=.builtin .append,args:= #[s,x],argTypes:= #[tS,tS] })
 (hv:a.eval s=v) (h:VOwn tE base w v l) (k:Nat) (y:aG) (hx:a.eval x=R (Z ⟨k,0,Y⟩) 1 1) (hc:w.cell? ⟨k,0,Y⟩=Z y) (h1:y.oneCell'=true) (hb:l.length<=1000000000) (Ha:base<=w.heap.size)
 (hK:∀v' w',VOwn tE base w' v' (l++[y])->w.grownBy w' v.ownBlock->(v'.ownBlock=v.ownBlock\/v'.ownBlock=Z w.heap.size)->wpList N ops Q rest (a.put o.dst v') w'):wpList N ops Q (o::rest) a w:=by
 refine wpList_plain jd λK zN=>?_;obtain⟨v',w',Hy,r,r2,r3⟩:=Jgq hO h k y hc h1 o.type hb Ha;unfold Oper.wp;simp[execOp,ho,resolve,invoke,builtin,hv,hx,Hy,Result.andThen];exact zN _ _ (hK v' w' r r2 r3)
theorem JpQ:OneC 67 32:=⟨by kernel_rfl,X Y,8,by kernel_rfl,rfl,by decide⟩
theorem JpS:OneC 68 129:=⟨by kernel_rfl,X Y,8,by kernel_rfl,rfl,by decide⟩
theorem JpP:OneC 308 96:=⟨by kernel_rfl,R Y 0 0,24,by kernel_rfl,rfl,by decide⟩
theorem JpR:OneC 309 22:=⟨by kernel_rfl,R Y 0 0,24,by kernel_rfl,rfl,by decide⟩

theorem JaS(i:Int)(w:aA):aB N 102 #[O I i] w λe w'=>e=aC (aH #[O aD (lK.wrap (wrap64 (77+i))),O aE 77])/\M D w w':=by
 generalize hz:lK.wrap (wrap64 (77+i))=z;go_enter func102,ntmps102;go_wp2;refine QK (v:=aH #[O aD _,O aE 77]) (Qq results102 _ _ w.heap.size _ _ (0,0) _ rfl (Qf _ _) underlying80 rfl (by kernel_rfl)) rfl ⟨?_,Ta _ _ _⟩;rw[<-hz]
def behO(i:Nat):VV:=(O aD ((77+i:Nat):Int),O aE 77)
def YI:List VV:=(lP 8).map behO
theorem JdT(w:aA)(v:aG)(l:List VV)(hl:l.length<=1000000)(hv:VR B w v l)(hs:∀x∈l,ShO x):
  aB N 62 #[v] w λe w'=>∃g,e=aC (R (Z ⟨g,0,Y⟩) (l.length+8) (l.length+8))/\w.heap.size<=g/\w'.heap[g]? =Z (T (vvA (l++YI)) 80)/\M D w w':=by
 obtain⟨ia,ic,Hx⟩:=hv.shape;have jp:=mkV isO (l.length+8) (by omega) w;have yO:=Qf w (T (vvA (lC (l.length+8) zO)) 80);obtain⟨r,uI⟩:=JjA isO (k:=8) hs (hv.tch (Ta D w (T (vvA (lC (l.length+8) zO)) 80)) noE) yO;have wn:I.wrap ((l.length:Int)+8)=((l.length+8:Nat):Int):=by rw[w63 _ (by omega) (by omega)];omega
 obtain⟨L0,(aq:J _)⟩:∃L0,l++lC 8 zO=L0:=⟨_,rfl⟩
 have hcp':∀ty,(lV #[22,22] ty #[R (Z ⟨w.heap.size,0,Y⟩) (l.length+8) (l.length+8),v]).run N (w.alloc (T (vvA (lC (l.length+8) zO)) 80))=.ok (O I r) ((w.alloc (T (vvA (lC (l.length+8) zO)) 80)).setRow w.heap.size (vvA L0)):=by rw[<-aq];exact uI
 clear uI;subst Hx;generalize jh:l.length=n at *;generalize yv:n+8=m at *;have ke:J _:=yO;have gD:J (l.length=n/\n+8=m):=⟨jh,yv⟩
 have kn:(n:Int)+8<=(m:Int):=by omega
 have qY:(m:Int)<=1000008:=by omega
 go_enter func62,ntmps62;go_wp2;have HB:J (∀(k:Nat) V,k<8->aB N 102 #[O I (k:Int)] V λe w'=>e=aC (aH #[O aD ((77+k:Nat):Int),O aE 77])/\M D V w'):=λk V hk=>by
  have:=JaS (k:Int) V;rw[show wrap64 (77+(k:Int))=77+(k:Int) by unfold wrap64;omega,show lK.wrap (77+(k:Int))=((77+k:Nat):Int) by simp[IntKind.wrap,IntKind.bits,IntKind.signed];omega]at this;exact this
 go_loopw [4] (λi wr=>∃k:Nat,k<=8/\i=O I k/\J (wr.heap[w.heap.size]? =Z (T (vvA (l++(lP k).map behO++lC (8-k) zO)) 80))/\J (M D w wr)) (λi _=>8-(intOf i).toNat)
 case atStart=>refine⟨0,by omega,rfl,by show _=_;rw[show l++List.map behO (lP 0)++lC (8-0) zO=L0 by rw[<-aq.o];simp];exact Qi _ _ _ _ _ _ ke,?_⟩;exact(Ta D w _).trans (Ts _ _ _) (λj hj=>aN (by rw[hj];exact Ql _))
 case round=>
  obtain⟨k,hk,rfl,HR,HT⟩:=hrel
  by_cases H5:k<8
  ·have kT:(k:Int)<8:=(by omega);obtain⟨q,hq⟩:∃q:Nat,n+k=q:=⟨_,rfl⟩
   have wq:I.wrap ((n:Int)+(k:Int))=(q:Int):=(by rw[w63 _ (by omega) (by omega)];omega);have hqm:(q:Int)<(m:Int):=(by omega);have HQ:J _:=hq;have tM:J (∀V,_):=λV=>HB k V H5;have qS:J (q<(l++(lP k).map behO++lC (8-k) zO).length):=(by show q<lM _;simp only[Qe,QM,List.length_range,lN];have:=gD.o.1;omega);obtain⟨z,(HZ:J _)⟩:∃z:Nat,77+k=z:=⟨_,rfl⟩
   rw[HZ]at tM;clear hq;go_wp2_with (go_at_call 102;refine(tM _).mono ?_;rintro _ w2⟨rfl,(H4:J _)⟩;have gU:J _:=(H4.block _ (Jb HR) (λh=>h)).trans HR.o;obtain⟨f0,f1⟩:=Xp gU _ (Qd qS);have fz:=Ze gU.o);obtain⟨p1,p2⟩:=JcR gU qS (O aD (z:Int)) (O aE 77);go_roundw
   case rel=>
    refine⟨k+1,by omega,by go_num,?_,?_⟩
    ·show _=_;rw[p1]
     congr 2
     have h1:=gD.o.1;have h2:=HQ.o;have h3:=HZ.o;rw[<-h2,<-h1,Qs,List.set_append_right _ _ (by omega),Qs,List.set_append_right _ _ (by simp)];rw[show 8-k=(8-(k+1))+1 by omega,lG,List.range_succ,lI,Qs];simp only[QM,List.length_range,Nat.add_sub_cancel_left,lW,Qb,lT,List.map_nil,List.cons_append,lO];rw[<-h3];rfl
    ·exact(HT.trans H4 (λ_ h=>aM h)).trans p2 (λj hj=>aN (by rw[hj];exact Ql _))
   case measure=>simp[intOf];omega
  ·obtain rfl:k=8:=(by omega);have gI:¬((8:Nat):Int)<8:=(by omega);go_wp2;go_ret;refine⟨w.heap.size,rfl,Ql _,?_,HT⟩;have:=HR.o;simp only[lW,List.replicate_zero,QC]at this;exact this
