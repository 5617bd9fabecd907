import Derived.Test.YtighkdnooglfjaaGreatDoorLcCoinS
namespace Go.Proofs.YtighkdnooglfjaaGreatDoor
open Tryz
set_option maxRecDepth 100000
set_option maxHeartbeats 2000000
open Go.RowKit

variable {wj:Int}{ys:List (BA×Int)}{B B' b k least most:Nat}{E:Nat->Addr}{S:Nat->Prop}{g g':Option Nat}{st:Option PS}{p p2:PS}{x:Sl}{t t':TxL}{α:Type}{v:Value}{w w' w0 wA:World}
def NewC(w:World)(B:Nat)(g:Option Nat)(x:Sl)(ys:List (BA×Int)):Prop:=∃gp,x=(some ⟨gp,0,none⟩,ys.length,ys.length)/\B<=gp/\some gp ≠ g/\w.heap[gp]? =some (.cells (vvA (ys.map encC)) 49)
def NewO(w:World)(B:Nat)(g:Option Nat)(x:Sl)(ys:List (Nat×Nat)):Prop:=∃gp,x=(some ⟨gp,0,none⟩,ys.length,ys.length)/\B<=gp/\some gp ≠ g/\w.heap[gp]? =some (.cells (vvA (ys.map encO)) 80)
theorem NewC.tch(h:NewC w B g x ys)(k:Tch S w w')(hs:∀j,S j->j<B\/some j=g\/w.heap.size<=j)(hm:Jm w g g'):NewC w' B g' x ys:=by
 obtain⟨gp,h1,h2,h3,h4⟩:=h;have l:=(Jb h4)
 refine⟨gp,h1,h2,?_,(k.block gp l (λe=>by rcases hs gp e with e|e|e;omega;exact h3 e;omega)).trans h4⟩
 rcases hm with rfl|⟨i,rfl,hi⟩
 ·exact h3
 ·intro e;cases e;omega
theorem NewO.tch{ys:List (Nat×Nat)}(h:NewO w B g x ys)(k:Tch S w w')(hs:∀j,S j->j<B\/some j=g\/w.heap.size<=j)(hm:Jm w g g'):NewO w' B g' x ys:=by
 obtain⟨gp,h1,h2,h3,h4⟩:=h;have l:=(Jb h4)
 refine⟨gp,h1,h2,?_,(k.block gp l (λe=>by rcases hs gp e with e|e|e;omega;exact h3 e;omega)).trans h4⟩
 rcases hm with rfl|⟨i,rfl,hi⟩
 ·exact h3
 ·intro e;cases e;omega
theorem NewC.mono(h:NewC w B g x ys)(hB:B'<=B):NewC w B' g x ys:=by
 obtain⟨gp,h1,h2,h3⟩:=h;exact⟨gp,h1,by omega,h3⟩
theorem NewO.mono{ys:List (Nat×Nat)}(h:NewO w B g x ys)(hB:B'<=B):NewO w B' g x ys:=by
 obtain⟨gp,h1,h2,h3⟩:=h;exact⟨gp,h1,by omega,h3⟩
theorem Jlb(E:Nat->Addr)(b:Nat)(hb12:18<=b)(g:Option Nat)(wj:Nat)(hw:wj<=1000)(what:BA)(v:Value)(l:List (BA×Int))(least most:Nat)(st:Option PS)(w:World)
 (hE:Env E w) (hp:Ji E w b g wj st) (hv:JD b w v l) (hwh:what.size<=1000) (hl3:l.length<1000000) (hm3:most<=3) (hvc:∀p,st=some p->p.takes v) (hd:Xb st<=70000000):
  Calls prog 202 #[.pointer (some ⟨b,0,none⟩),.agg #[.string what,.int .i64 ((1:Nat):Int),.int .u64 (least:Int),.int .u64 (most:Int)],v,.func (.func 203) #[.pointer (some ⟨b,0,none⟩)] #[]] w λe w'=>∃(x:Sl)(g':Option Nat),e=.returned (.slice x.1 x.2.1 x.2.2)/\Ji E w' b g' wj ((st.bind (PS.listC wj least most l)).map (·.2))/\Jm w g g'/\Tch (λk=>k=b\/some k=g) w w'/\∀ys p2,st.bind (PS.listC wj least most l)=some (ys,p2)->NewC w' w.heap.size g' x ys:=by
 cases st with
 | none=>
  obtain⟨p,t,u,h1,h2⟩:=hp;obtain⟨ia,ic,hvs⟩:=hv.shape;refine(Jmx b g wj what hwh 1 least most v ia _ ic hvs p t u w h1).mono ?_;rintro e w'⟨rfl,h3,h4⟩;exact⟨(none,0,0),g,rfl,⟨p,t,u,h3,h2.tch h4 (λ_ _ _ _ h=>h)⟩,.inl rfl,h4.mono noE,λys p2 h=>by simp at h⟩
 | some p=>
  refine(Jjm E b hb12 g wj hw what v l least most p w hE hp hv hwh hl3 hm3 (hvc p rfl) hd).mono ?_;intro e w' h;obtain⟨xa,xn,xc,rfl⟩:=h.shape;simp only[Qu]
  cases hq:p.listC wj least most l with
  | none=>
   rw[hq]at h;obtain⟨_,g',p',vv,h1,h2,h3,h4⟩:=h;obtain⟨t,u,rfl⟩:=h2.iface;exact⟨(xa,xn,xc),g',rfl,⟨p',t,u,h1,h2⟩,h3,h4,λys p2 h=>by simp at h⟩
  | some r=>
   obtain⟨ys,p2⟩:=r;rw[hq]at h;obtain⟨gp,he,h1,h2,g',h3,h4,h5,h6⟩:=h
   cases he
   refine⟨(_,_,_),g',rfl,h3,h5,h6,λzs p3 hz=>?_⟩;simp only[Qh,Qw]at hz;obtain⟨rfl,rfl⟩:=hz;exact⟨gp,rfl,h1,h4,h2⟩
theorem Jlc(E:Nat->Addr)(b:Nat)(hb12:18<=b)(g:Option Nat)(wj:Nat)(what:BA)(v:Value)(l:List (Nat×Nat))(least most:Nat)(st:Option PS)(w:World)
 (hE:Env E w) (hp:Ji E w b g wj st) (hv:Jq b w v l) (hwh:what.size<=1000) (hl3:l.length<1000000) (hm3:most<=3) (hvc:∀p,st=some p->p.takes v) (ho:∀x∈l,x.2<256) (hd:Xb st<=70000000):
  Calls prog 204 #[.pointer (some ⟨b,0,none⟩),.agg #[.string what,.int .i64 ((1:Nat):Int),.int .u64 (least:Int),.int .u64 (most:Int)],v,.func (.func 205) #[.pointer (some ⟨b,0,none⟩)] #[]] w λe w'=>∃(x:Sl)(g':Option Nat),e=.returned (.slice x.1 x.2.1 x.2.2)/\Ji E w' b g' wj ((st.bind (PS.listO least most l)).map (·.2))/\Jm w g g'/\Tch (λk=>k=b\/some k=g) w w'/\∀ys p2,st.bind (PS.listO least most l)=some (ys,p2)->NewO w' w.heap.size g' x ys:=by
 cases st with
 | none=>
  obtain⟨p,t,u,h1,h2⟩:=hp;obtain⟨ia,ic,hvs⟩:=hv.shape;refine(JmC b g wj what hwh 1 least most v ia _ ic hvs p t u w h1).mono ?_;rintro e w'⟨rfl,h3,h4⟩;exact⟨(none,0,0),g,rfl,⟨p,t,u,h3,h2.tch h4 (λ_ _ _ _ h=>h)⟩,.inl rfl,h4.mono noE,λys p2 h=>by simp at h⟩
 | some p=>
  refine(Jer E b hb12 g wj what v l least most p w hE hp hv hwh hl3 hm3 (hvc p rfl) ho hd).mono ?_;intro e w' h;obtain⟨xa,xn,xc,rfl⟩:=h.shape;simp only[Qu]
  cases hq:p.listO least most l with
  | none=>
   rw[hq]at h;obtain⟨_,g',p',vv,h1,h2,h3,h4⟩:=h;obtain⟨t,u,rfl⟩:=h2.iface;exact⟨(xa,xn,xc),g',rfl,⟨p',t,u,h1,h2⟩,h3,h4,λys p2 h=>by simp at h⟩
  | some r=>
   obtain⟨ys,p2⟩:=r;rw[hq]at h;obtain⟨gp,he,h1,h2,g',h3,h4,h5,h6⟩:=h
   cases he
   refine⟨(_,_,_),g',rfl,h3,h5,h6,λzs p3 hz=>?_⟩;simp only[Qh,Qw]at hz;obtain⟨rfl,rfl⟩:=hz;exact⟨gp,rfl,h1,h4,h2⟩
theorem Jlh(f:α->PS->Option (α×PS))(n:Nat)(hf:∀a p a' p',f a p=some (a',p')->p'.len<=p.len+n)(l:List α):∀(p p1:PS)(ys:List α),PS.many f l p=some (ys,p1)->p1.len<=p.len+n*l.length:=by
 induction l with
 | nil=>intro p p1 ys h;simp[PS.many]at h;rw[<-h.2];simp
 | cons z l ih=>
  intro p p1 ys h;simp only[PS.many]at h
  cases q:f z p with
  | none=>simp[q]at h
  | some r=>
   obtain⟨r1,r2⟩:=r;simp only[q]at h
   cases q2:PS.many f l r2 with
   | none=>simp[q2]at h
   | some s=>
    obtain⟨s1,s2⟩:=s;simp only[q2,Qh,Qw]at h;obtain⟨rfl,rfl⟩:=h;have h1:=hf _ _ _ _ q;have h2:=ih _ _ _ q2;rw[Qp,Nat.mul_add];omega
theorem Jes{f:α->PS->Option (α×PS)}{z:α}{size n:Nat}(hf:∀a p a' p',f a p=some (a',p')->p.like p'/\p'.len<=p.len+n){l:List α}{ys:List α}(ht:p.takes v)(hv:v=.slice none 0 0->l=[])(h:p.lst f z size least most l=some (ys,p2)):
  p.like p2/\least<=ys.length/\ys.length<=most/\p2.len<=p.len+size+n*ys.length:=by
 unfold PS.lst at h
 split at h
 ·cases h
 ·rename_i cnt p1 q1
  split at h
  ·cases h
  ·rename_i hr;have e1:=Jaz _ _ _ _ _ h;have e2:(JK z l cnt).length=cnt:=by
    unfold JK
    split
    ·simp
    ·rename_i hl
     rcases Jev ht q1 with e|e
     ·exact absurd (by rw[hv e];rfl) hl
     ·exact e
   have e3:=Jlh f n (λa p a' p' h=>(hf a p a' p' h).2) _ _ _ _ h;have e4:=Jaf _ _ _ _ _ q1;refine⟨(YA q1).trans (Jb7 f (λa p a' p' h=>(hf a p a' p' h).1) _ _ _ _ h),by omega,by omega,?_⟩;rw[e1];omega
theorem Jcp{wj:Nat}{l:List (BA×Int)}(hv:JD B w v l)(ht:p.takes v)(h:p.listC wj least most l=some (ys,p2)):
  p.like p2/\least<=ys.length/\ys.length<=most/\p2.len<=p.len+1+(wj+1)*ys.length:=by
 rw[<-Jle]at h;exact Jes (λa p a' p' h=>Jac h) ht (λe=>by rcases hv with⟨_,h⟩|⟨_,_,_,h,_⟩;exact h;rw[h]at e;cases e) h
theorem Jex{a:Nat×Nat}{y:Nat×Nat}(h:p.out a.1 a.2=some (y,p2)):p.like p2/\p2.len<=p.len+9:=by
 obtain⟨p1,h1,h2,h3,h4,h5⟩:=JbE _ _ _ _ _ h;exact⟨(YA h1).trans (YA h2),h4⟩
theorem Jay{l ys:List (Nat×Nat)}(hv:Jq B w v l)(ht:p.takes v)(h:p.listO least most l=some (ys,p2)):
  p.like p2/\least<=ys.length/\ys.length<=most/\p2.len<=p.len+1+9*ys.length:=by
 rw[<-Jlf]at h;exact Jes (λa p a' p' h=>Jex h) ht (λe=>by rcases hv with⟨_,h⟩|⟨_,_,_,h,_⟩;exact h;rw[h]at e;cases e) h
structure JaZ(b:Nat)(w:World)(p:PS)(x:Sl×Sl)(t:TxL):Prop where
 coins:JD b w (.slice x.1.1 x.1.2.1 x.1.2.2) t.1
 outs:Jq b w (.slice x.2.1 x.2.2.1 x.2.2.2) t.2
 few1:t.1.length<1000000
 few2:t.2.length<1000000
 takes1:p.takes (.slice x.1.1 x.1.2.1 x.1.2.2)
 takes2:p.takes (.slice x.2.1 x.2.2.1 x.2.2.2)
 small:∀o∈t.2,o.2<256
theorem JaZ.tch{p':PS}{x:Sl×Sl}(h:JaZ b w p x t)(k:Tch S w w')(hs:∀j,S j->b<=j)(hl:p.like p'):JaZ b w' p' x t:=
 ⟨h.coins.tch k hs,h.outs.tch k hs,h.few1,h.few2,hl.takes h.takes1,hl.takes h.takes2,h.small⟩
def JfG(w:World)(B:Nat)(g:Option Nat)(x:Sl×Sl)(t:TxL):Prop:=NewC w B g x.1 t.1/\NewO w B g x.2 t.2
def encT(x:Sl×Sl):VV:=(.slice x.1.1 x.1.2.1 x.1.2.2,.slice x.2.1 x.2.2.1 x.2.2.2)
theorem Jg3{wj:Nat}{x:Sl×Sl}(hw:wj<=32)(hI:JaZ b w p x t)(h:p.tx wj t=some (t',p2)):p.like p2/\p2.len<=p.len+200/\t'.1.length<=3/\t'.2.length<=3:=by
 unfold PS.tx at h
 split at h
 ·cases h
 ·rename_i ys p1 q1;obtain⟨k1,_,k2,k3⟩:=Jcp hI.coins hI.takes1 q1
  split at h
  ·cases h
  ·rename_i zs p3 q2;obtain⟨m1,_,m2,m3⟩:=Jay hI.outs (k1.takes hI.takes2) q2;simp only[Qh,Qw]at h;obtain⟨rfl,rfl⟩:=h;have:(wj+1)*ys.length<=33*3:=Nat.mul_le_mul (by omega) k2;exact⟨k1.trans m1,by omega,k2,m2⟩

theorem JlV(E:Nat->Addr)(b:Nat)(hb12:18<=b)(g:Option Nat)(wj:Nat)(hw:wj<=32)(x:Sl×Sl)(t:TxL)(p:PS)(w:World)(hE:Env E w)(hp:Jc w b g wj .nilIface p)(hI:JaZ b w p x t)(hd:p.len<=60000000):
  Calls prog 134 #[.pointer (some ⟨b,0,none⟩),.agg #[.slice x.1.1 x.1.2.1 x.1.2.2,.slice x.2.1 x.2.2.1 x.2.2.2]] w λe w'=>∃(y:Sl×Sl)(g':Option Nat),e=.returned (.agg #[.slice y.1.1 y.1.2.1 y.1.2.2,.slice y.2.1 y.2.2.1 y.2.2.2])/\Ji E w' b g' wj ((p.tx wj t).map (·.2))/\Jm w g g'/\Tch (λk=>k=b\/some k=g) w w'/\∀t' p2,p.tx wj t=some (t',p2)->JfG w' w.heap.size g' y t':=by
 obtain⟨⟨x1,x2,x3⟩,y1,y2,y3⟩:=x;obtain⟨hv1,hv2,hl1,hl2,ht1,(HT2:Hid _),(HO:Hid _)⟩:=hI;simp only at hv1 hv2 ht1 HT2;have hlt:=hp.lt;have hmf:∀(fn:Fn)(first cap:Array Value)(w:World),(Instr.makeFunc fn first cap).run prog w=.ok (.func fn first cap) w:=λ_ _ _ _=>rfl;have tA:=Tch.allocs NoB w (.cells #[.slice x1 x2 x3,.slice y1 y2 y3] 98) (.cells #[.slice none 0 0,.slice none 0 0] 98);have HC1:Hid (∀what:BA,what.size<=1000->_):=λwhat hwh=>Jlb E b hb12 g wj (by omega) what (.slice x1 x2 x3) t.1 1 3 (some p) _ (hE.tch tA noE) (hp.tch tA (λh=>h) (λ_ _ h=>h)) (hv1.tch tA noE) hwh hl1 (by omega) (λq hq=>by cases hq;exact ht1) (by simp only[Xb];omega);have HV2:Hid (Jq b w (.slice y1 y2 y3) t.2):=hv2;have HE:Hid (Env E w):=hE;have HP:Hid (Jc w b g wj .nilIface p):=hp;have HF:Hid (∀ys p1,p.listC wj 1 3 t.1=some (ys,p1)->p.like p1/\p1.len<=p.len+200):=λys p1 h=>by
  obtain⟨k1,_,k2,k3⟩:=Jcp hv1 ht1 h;have:(wj+1)*ys.length<=33*3:=Nat.mul_le_mul (by omega) k2;exact⟨k1,by omega⟩
 clear hv1 hv2 hE hp ht1 tA;go_enter func134,ntmps134;go_wp2_with fail;refine(HC1 _ (by decide)).mono ?_;rintro _ w1⟨⟨a1,a2,a3⟩,g1,rfl,hp1,hm1,ht1,(HN1:Hid _)⟩;have c2:=(ht1.cell (p:=⟨w.heap.size,1,none⟩) (by simp;omega) (Yk HP _ (Ql _))).trans (Ja (heap_alloc2_old _ _ _));have rR:=(ht1.block _ (by simp) (Yk HP _ (by omega))).trans (heap_alloc2_new _ _ _);have hsz1:=ht1.size;simp at hsz1;have hS:∀j,(j=b\/some j=g)->b<=j:=by
  rintro j (rfl|hj)
  ·exact Ql _
  ·have:=(HP.o.own j hj.symm).1;omega
 have HPS:Hid (Ji E w b g wj (some p)):=HP.o;have HN:Hid (∀g',Jm w1 g1 g'->¬(w.heap.size+1=b\/some (w.heap.size+1)=g')):=λg' hm=>JbP HPS.o (hm1.trans hm ht1.size) _ (by omega) (by simp);simp only[Qu]at hp1 HN1;have HC2:Hid (∀what:BA,what.size<=1000->_):=λwhat hwh=>Jlc E b hb12 g1 wj what (.slice y1 y2 y3) t.2 0 3 _ w1 ((HE.o.tch (Tch.allocs NoB w _ _) noE).tch ht1 (JaS hb12 HP.o)) hp1 ((HV2.o.tch (Tch.allocs NoB w _ _) noE).tch ht1 hS) hwh hl2 (by omega) (λq hq=>by
   cases hl:p.listC wj 1 3 t.1 with
   | none=>rw[hl]at hq;cases hq
   | some r=>
    obtain⟨ys,p1⟩:=r;rw[hl]at hq
    cases hq
    exact(HF _ _ hl).1.takes HT2) HO (by
   cases hl:p.listC wj 1 3 t.1 with
   | none=>simp[Xb]
   | some r=>
    obtain⟨ys,p1⟩:=r;have:=(HF _ _ hl).2;simp only[Option.map_some,Xb];omega)
 have RR:Hid _:=rR;have HM1:Hid (Jm _ _ _):=hm1;have HT1:Hid (Tch _ _ _):=ht1;clear rR hm1 ht1 hp1 HC1 hS;go_wp2_with fail;refine(HC2 _ (by decide)).mono ?_;rintro _ w2⟨⟨b1,b2,b3⟩,g2,rfl,hp2,hm2,(HT2':Hid _),(HN2:Hid _)⟩;have rR2:=(HT2'.block _ (by omega) (HN g1 (.inl rfl))).trans RR.out;obtain⟨e0,e1⟩:=rows rR2;have fR:∀j,w2.frozen? ⟨w.heap.size+1,j,none⟩=false:=λj=>Qg _ _ _ _ _ rR2;have RR2:Hid (_=_):=rR2;have HP2:Hid (Ji _ _ _ _ _ _):=hp2;have HM2:Hid (Jm _ _ _):=hm2;clear rR2 hp2 hm2 HC2;go_wp2;rw[set2 _ _ _ _ _ _ _ RR2.out];refine QJ (v:=.agg #[.slice a1 a2 a3,.slice b1 b2 b3]) (Qq results134 _ _ (w.heap.size+1) _ _ (0,0) _ rfl (Qi w2 _ _ _ _ _ RR2) underlying98 rfl (by kernel_rfl)) rfl ⟨((a1,a2,a3),(b1,b2,b3)),g2,rfl,?_,?_,?_,?_⟩
 ·have hst:((((p.listC wj 1 3 t.1).map (·.2)).bind (PS.listO 0 3 t.2)).map (·.2))=(p.tx wj t).map (·.2):=by
   unfold PS.tx
   cases p.listC wj 1 3 t.1 with
   | none=>rfl
   | some r=>
    obtain⟨ys,p1⟩:=r;simp only[Option.map_some,Qu]
    cases p1.listO 0 3 t.2<;>rfl
  have:=HP2.o;rw[hst]at this;exact this.row RR2.out (by decide) (HN.o g2 HM2.o)
 ·have:=HM1.o.trans HM2 HT1.size
  rcases this with h|⟨i,h,hi⟩
  ·exact .inl h
  ·exact .inr ⟨i,h,by simp at hi;omega⟩
 ·exact((Tch.allocs _ w _ _).trans (Yp HT1 HT2' HM1) (λ_ h=>.inl h)).trans (Ts w2 (w.heap.size+1) _) (λj hj=>.inr (by omega))
 ·intro t' p2 h;unfold PS.tx at h
  cases hl:p.listC wj 1 3 t.1 with
  | none=>rw[hl]at h;cases h
  | some r=>
   obtain⟨ys,p1⟩:=r;rw[hl]at h;simp only at h;have k1:=HN1 ys p1 hl;have k2:=HN2.o;rw[hl]at k2;simp only[Option.map_some,Qu]at k2
   cases hl2:p1.listO 0 3 t.2 with
   | none=>rw[hl2]at h;cases h
   | some r=>
    obtain⟨zs,p3⟩:=r;rw[hl2]at h
    cases h
    have tR:=Ts w2 (w.heap.size+1) #[.slice a1 a2 a3,.slice b1 b2 b3];refine⟨?_,?_⟩
    ·refine NewC.mono (NewC.tch (NewC.tch k1 HT2' (λj h=>?_) HM2) tR (λj h=>.inl (by simp;omega)) (.inl rfl)) (by simp;omega)
     rcases h with h|h
     ·exact .inl (by simp;omega)
     ·exact .inr (.inl h)
    ·exact NewO.mono (NewO.tch (k2 _ _ hl2) tR (λj h=>.inl (by omega)) (.inl rfl)) (by omega)
def ZT(wj:Nat):Ye TxL where
 f:=λt p=>p.tx wj t
 grow:=200
 zero:=([],[])
 zeroV:=zT
 Init:=λb w p x t=>∃y:Sl×Sl,x=encT y/\JaZ b w p y t
 Done:=λw B g x t=>∃y:Sl×Sl,x=encT y/\JfG w B g y t
theorem JiC{wj:Nat}(h:p.tx wj t=some (t',p2)):p.like p2:=by
 unfold PS.tx at h
 split at h
 ·cases h
 ·rename_i ys p1 q1
  split at h
  ·cases h
  ·rename_i zs p3 q2
   cases h
   rw[<-Jle]at q1;rw[<-Jlf]at q2;unfold PS.lst at q1 q2
   split at q1
   ·cases q1
   ·rename_i h1
    split at q1
    ·cases q1
    ·split at q2
     ·cases q2
     ·rename_i h2
      split at q2
      ·cases q2
      ·exact(((YA h1).trans (Jb7 _ (λa p a' p' h=>(Jac h).1) _ _ _ _ q1)).trans (YA h2)).trans (Jb7 _ (λa p a' p' h=>(Jex h).1) _ _ _ _ q2)
theorem lawT(E:Nat->Addr)(b:Nat)(hb12:18<=b)(wj lim:Nat)(hw:wj<=32)(hl:lim<=60000000):Ze E b wj lim lkT.fP (ZT wj) ShT where
 init_tch:=λ⟨y,h1,h2⟩ k hs hl=>⟨y,h1,h2.tch k hs hl⟩
 init_zero:=λ_ _=>⟨((none,0,0),(none,0,0)),rfl,.inl ⟨rfl,rfl⟩,.inl ⟨rfl,rfl⟩,by simp[ZT],by simp[ZT],λ_ _ _=>rfl,λ_ _ _=>rfl,λo ho=>by simp[ZT]at ho⟩
 init_shape:=λ⟨y,h1,_⟩=>⟨y.1,y.2,h1⟩
 done_tch:=λ⟨y,h1,h2,h3⟩ k hs hm=>⟨y,h1,h2.tch k hs hm,h3.tch k hs hm⟩
 done_mono:=λ⟨y,h1,h2,h3⟩ hB=>⟨y,h1,h2.mono hB,h3.mono hB⟩
 like:=λh=>JiC h
 len:=λ⟨y,_,hI⟩ h=>(Jg3 hw hI h).2.1
 call:=λ{w g p x a} hE hp hI hd=>by
  obtain⟨y,rfl,hI⟩:=hI;refine(JlV E b hb12 g wj hw y a p w hE hp hI (by omega)).mono ?_;rintro e w'⟨z,g',rfl,k1,k2,k3,k4⟩;refine⟨encT z,⟨z.1,z.2,rfl⟩,rfl,?_⟩;show ToP E w b g wj (ZT wj) (p.tx wj a) _ w'
  cases h:p.tx wj a with
  | none=>
   rw[h]at k1;obtain⟨p',t,u,h1,h2⟩:=k1;exact⟨g',_,p',h1,k2,k3,h2⟩
  | some r=>
   obtain⟨t',p2⟩:=r;rw[h]at k1;exact⟨g',_,p2,k1,k2,k3,rfl,rfl,z,rfl,k4 t' p2 h⟩
theorem Jgr(wj:Nat):∀(l:List TxL)(p:PS),PS.many (ZT wj).f l p=PS.txs wj l p
 | [],_=>rfl
 | x::r,p=>by
  simp only[PS.many,PS.txs];have e:(ZT wj).f x p=p.tx wj x:=rfl;rw[e]
  cases p.tx wj x with
  | none=>rfl
  | some q=>simp only[Jgr wj r];cases PS.txs wj r q.2<;>rfl
theorem JlM(l:List TxL)(cnt:Nat):JK ([],[]) l cnt=Jal l cnt:=by
 unfold JK Jal
 cases l<;>simp
theorem Jog(wj:Nat)(l:List TxL)(p:PS):p.lst (ZT wj).f (ZT wj).zero 1 0 3 l=p.body wj l:=by
 unfold PS.lst PS.body
 cases p.num l.length 1 with
 | none=>rfl
 | some r=>
  simp only[Jgr,<-JlM,Nat.not_lt_zero,false_or];rfl
theorem Xq.vat{l:List (Sl×Sl)}(h:Xq B w v l):VAt B w v (l.map encT):=by
 rcases h with⟨h1,h2⟩|⟨gi,oi,c,h1,h2,h3,h4⟩
 ·exact .inl ⟨h1,by rw[h2];rfl⟩
 ·exact .inr ⟨gi,oi,c,by rw[QL];exact h1,h2,h3,λi hi=>by
   rw[List.getElem_map];exact h4 i (by simpa using hi)⟩
def ToB(E:Nat->Addr)(w:World)(b:Nat)(g:Option Nat)(wj:Nat)(r:Option (List TxL×PS))(e:Ending)(w':World):Prop:=
 ∃(x:Sl)(g':Option Nat),e=.returned (.slice x.1 x.2.1 x.2.2)/\Ji E w' b g' wj (r.map (·.2))/\Jm w g g'/\Tch (λk=>k=b\/some k=g) w w'/\
  ∀ts p2,r=some (ts,p2)->∃(gp:Nat)(zs:List (Sl×Sl)),x=(some ⟨gp,0,none⟩,ts.length,ts.length)/\w.heap.size<=gp/\some gp ≠ g'/\w'.heap[gp]? =some (.cells (vvA (zs.map encT)) 98)/\zs.length=ts.length/\∀(j:Nat) z t,zs[j]? =some z->ts[j]? =some t->JfG w' w.heap.size g' z t
theorem ToB.of{wj:Nat}{r:Option (List TxL×PS)}{e:Ending}(h:ToL lkT E w b g wj (ZT wj) r e w'):ToB E w b g wj r e w':=by
 cases r with
 | none=>
  obtain⟨⟨x1,x2,x3,rfl⟩,g',p',v,h1,h2,h3,h4⟩:=h;obtain⟨t,u,rfl⟩:=h2.iface;exact⟨(x1,x2,x3),g',rfl,⟨p',t,u,h1,h2⟩,h3,h4,λts p2 h=>by cases h⟩
 | some r=>
  obtain⟨ys,p2⟩:=r;obtain⟨gp,xs,rfl,h2,h3,h4,g',h5,h6,h7,h8,h9⟩:=h;refine⟨(some ⟨gp,0,none⟩,ys.length,ys.length),g',rfl,h5,h8,h9,λts p3 h=>?_⟩;simp only[Qh,Qw]at h;obtain⟨rfl,rfl⟩:=h;have hz:∃zs:List (Sl×Sl),xs=zs.map encT/\∀(j:Nat) z t,zs[j]? =some z->ys[j]? =some t->JfG w' w.heap.size g' z t:=by
   have key:∀(xs:List VV)(ys:List TxL),xs.length=ys.length->(∀(j:Nat) x a,xs[j]? =some x->ys[j]? =some a->(ZT wj).Done w' (gp+1) g' x a)->∃zs:List (Sl×Sl),xs=zs.map encT/\∀(j:Nat) z t,zs[j]? =some z->ys[j]? =some t->JfG w' w.heap.size g' z t:=by
    intro xs
    induction xs with
    | nil=>intro ys _ _;exact⟨[],rfl,λj z t h=>by simp at h⟩
    | cons x xs ih=>
     intro ys hl h
     cases ys with
     | nil=>simp at hl
     | cons y ys=>
      obtain⟨zs,e,hzs⟩:=ih ys (by simpa using hl) (λj x a h1 h2=>h (j+1) x a (by simpa using h1) (by simpa using h2));obtain⟨z,ez,hz⟩:=h 0 x y rfl rfl;refine⟨z::zs,by rw[e,ez];rfl,λj z' t h1 h2=>?_⟩
      cases j with
      | zero=>simp at h1 h2;subst h1 h2;exact⟨hz.1.mono (by omega),hz.2.mono (by omega)⟩
      | succ j=>exact hzs j z' t (by simpa using h1) (by simpa using h2)
   exact key xs ys h4 h7
  obtain⟨zs,rfl,hzs⟩:=hz;exact⟨gp,zs,rfl,h2,h6,h3,by simpa using h4,hzs⟩
theorem Jjn(E:Nat->Addr)(b:Nat)(hb12:18<=b)(g:Option Nat)(wj:Nat)(hw:wj<=32)(what:BA)(hwh:what.size<=1000)(v:Value)(l:List (Sl×Sl))(ts:List TxL)(p0:PS)(w:World)
 (hE:Env E w) (hp:Jc w b g wj .nilIface p0) (hv:Xq b w v l) (hl:l.length=ts.length) (hl3:ts.length<1000000) (hvc:p0.takes v) (hin:∀(j:Nat) x t,l[j]? =some x->ts[j]? =some t->JaZ b w p0 x t) (hd:p0.len<=50000000):
  Calls prog 133 #[.pointer (some ⟨b,0,none⟩),.agg #[.string what,.int .i64 1,.int .u64 0,.int .u64 3],v,.func (.func 134) #[.pointer (some ⟨b,0,none⟩)] #[]] w λe w'=>ToB E w b g wj (p0.body wj ts) e w':=by
 obtain⟨lim,hlim,hlaw⟩:∃lim,lim=60000000/\Ze E b wj lim lkT.fP (ZT wj) ShT:=⟨_,rfl,lawT E b hb12 wj 60000000 hw (by omega)⟩
 have hgrow:(ZT wj).grow=200:=rfl;rw[<-Jog];exact(JmD hlaw rfl hb12 g what hwh 1 0 3 v (l.map encT) ts p0 w hE hp (hv.vat.up (Nat.le_of_lt hp.lt)) (hv.vat.free hp) (by simpa using hl) hl3 (by rw[hgrow];omega) (by omega) (by omega) (by omega) hvc (λj x a h1 h2=>by
  rw[List.getElem?_map]at h1
  cases hz:l[j]? with
  | none=>rw[hz]at h1;cases h1
  | some z=>rw[hz]at h1;cases h1;exact⟨z,rfl,hin j z a hz h2⟩)).mono λe w' h=>ToB.of h
theorem JfT(E:Nat->Addr)(b:Nat)(hb12:18<=b)(g:Option Nat)(wj:Nat)(hw:wj<=32)(v:Value)(l:List (Sl×Sl))(ts:List TxL)(p0:PS)(w:World)
 (hE:Env E w) (hp:Jc w b g wj .nilIface p0) (hv:Xq b w v l) (hl:l.length=ts.length) (hl3:ts.length<1000000) (hvc:p0.takes v) (hin:∀(j:Nat) x t,l[j]? =some x->ts[j]? =some t->JaZ b w p0 x t) (hd:p0.len<=50000000):
  Calls prog 78 #[.pointer (some ⟨b,0,none⟩),v] w λe w'=>ToB E w b g wj (p0.body wj ts) e w':=by
 obtain⟨ia,ic,hvs⟩:=hv.shape;have hmf:∀(fn:Fn)(first cap:Array Value)(w:World),(Instr.makeFunc fn first cap).run prog w=.ok (.func fn first cap) w:=λ_ _ _ _=>rfl;have HL:Hid (∀what:BA,what.size<=1000->_):=λwhat hwh=>Jjn E b hb12 g wj hw what hwh v l ts p0 w hE hp hv hl hl3 hvc hin hd;clear hE hp hv hvc hin hl;subst hvs;go_enter func78,ntmps78;go_wp2_with fail;refine(HL.o _ (by decide)).mono ?_;clear HL;rintro e w1⟨⟨x1,x2,x3⟩,g1,rfl,h⟩;have HH:Hid (Ji _ _ _ _ _ _/\_):=h;clear h;go_wp2;go_ret;exact⟨(x1,x2,x3),g1,rfl,HH.o⟩

structure Run(E:Nat->Addr)(w0 wA w:World)(b:Nat)(g g':Option Nat)(wj:Int)(st:Option PS):Prop where
 port:Ji E w b g' wj st
 moved:Jm wA g g'
 tch:Tch (λk=>k=b\/some k=g) wA w
 env:Env E w
 k12:18<=b
 low:b<w0.heap.size
 own:∀k,g=some k->b<k/\k<w0.heap.size
 new:Tch NoB w0 wA
theorem Run.start(h12:18<=b)(hE:Env E w0)(hp:Ji E w0 b g wj st)(k:Tch NoB w0 wA):Run E w0 wA wA b g g wj st:=
 ⟨hp.next k,.inl rfl,Te _ _,hE.tch k noE,h12,hp.lt,hp.own,k⟩
theorem Run.step{st':Option PS}(h:Run E w0 wA w b g g' wj st)(k:StTo E w w' b g' wj st'):∃g'',Run E w0 wA w' b g g'' wj st':=by
 obtain⟨g2,k1,k2,k3⟩:=k;exact⟨g2,k1,h.moved.trans k2 h.tch.size,Yp h.tch k3 h.moved,h.env.tch k3 (JbO h.k12 h.port),h.k12,h.low,h.own,h.new⟩
theorem Run.box(h:Run E w0 wA w b g g' wj st){o:Obj}(hk:w0.heap.size<=k)(hA:wA.heap[k]? =some o):w.heap[k]? =some o/\¬(k=b\/some k=g'):=by
 have hl:=(Jb hA)
 have h1:=h.low;refine⟨(h.tch.block k hl ?_).trans hA,?_⟩
 ·rintro(e|e)
  ·omega
  ·have:=(h.own k e.symm).2;omega
 ·rcases h.moved with e|⟨i,e,hi⟩
  ·rw[e];rintro(e|e)
   ·omega
   ·have:=(h.own k e.symm).2;omega
  ·rw[e];rintro(e|e)
   ·omega
   ·cases e;omega
theorem Run.to(h:Run E w0 wA w b g g' wj st):StTo E w0 w b g wj st:=
 StTo.fresh h.new ⟨g',h.port,h.moved,h.tch⟩
theorem Run.done(h:Run E w0 wA w b g g' wj st){cur cs:Array Value}{T:TypeId}(hk:w0.heap.size<=k)(hA:wA.heap[k]? =some (.cells cur T))(hT:T ≠ 237):StTo E w0 (w.setRow k cs) b g wj st:=by
 obtain⟨h1,h2⟩:=h.box hk hA;obtain⟨g2,k1,k2,k3⟩:=h.to;have hg:g2=g':=k1.same h.port;subst hg;exact⟨g2,k1.row h1 hT h2,k2,k3.trans (Ts w k cs) (λj hj=>.inr (by omega))⟩
theorem set4(w:World)(g:Nat)(t:TypeId)(a b c d v0 v1 v2 v3:Value)(h:w.heap[g]? =some (.cells #[a,b,c,d] t (0,0))):
  (((w.setCell ⟨g,0,none⟩ v0).setCell ⟨g,1,none⟩ v1).setCell ⟨g,2,none⟩ v2).setCell ⟨g,3,none⟩ v3=w.setRow g #[v0,v1,v2,v3]:=by
 rw[Qj w g 0 _ t (0,0) v0 h,Qj _ g 1 _ t (0,0) v1 (Qi _ _ _ _ _ _ h),QI,
  Qj _ g 2 _ t (0,0) v2 (Qi _ _ _ _ _ _ h),QI,Qj _ g 3 _ t (0,0) v3 (Qi _ _ _ _ _ _ h),QI]
 refine congrArg (w.setRow g) ?_;simp
def ZD(wj:Nat)(h:HdL)(st:Option PS):(Nat×List UInt8×List UInt8×List UInt8)×Option PS:=
 let r0:=JQ h.1 4 st
 let r1:=Jl h.2.1.data.toList wj r0.2
 let r2:=Jl h.2.2.1.data.toList wj r1.2
 let r3:=Jl h.2.2.2.data.toList wj r2.2
 ((r0.1,r1.1,r2.1,r3.1),r3.2)
abbrev hdV(r:Nat×List UInt8×List UInt8×List UInt8):Value:=.agg #[.int .u64 (r.1:Int),.string ⟨r.2.1.toArray⟩,.string ⟨r.2.2.1.toArray⟩,.string ⟨r.2.2.2.toArray⟩]
theorem JhM(wj:Nat)(h:HdL)(p:PS)(hh:p.hdr wj h=none):(ZD wj h (some p)).2=none:=by
 unfold ZD;unfold PS.hdr at hh;dsimp only
 cases h1:p.num h.1 4 with
 | none=>rw[Jbk h1];rfl
 | some r=>
  obtain⟨n,p1⟩:=r;rw[XQ h1];simp only[h1]at hh;dsimp only
  cases h2:p1.txt h.2.1.data.toList wj with
  | none=>rw[YM h2];rfl
  | some r=>
   obtain⟨t1,p2⟩:=r;rw[Xg h2];simp only[h2]at hh;dsimp only
   cases h3:p2.txt h.2.2.1.data.toList wj with
   | none=>rw[YM h3];rfl
   | some r=>
    obtain⟨t2,p3⟩:=r;rw[Xg h3];simp only[h3]at hh;dsimp only
    cases h4:p3.txt h.2.2.2.data.toList wj with
    | none=>rw[YM h4]
    | some r=>simp[h4]at hh
theorem JdD(wj:Nat)(h y:HdL)(p p2:PS)(hh:p.hdr wj h=some (y,p2)):(ZD wj h (some p)).2=some p2/\hdV (ZD wj h (some p)).1=.agg #[.int .u64 (y.1:Int),.string y.2.1,.string y.2.2.1,.string y.2.2.2]:=by
 unfold ZD;unfold PS.hdr at hh;dsimp only
 cases h1:p.num h.1 4 with
 | none=>rw[h1]at hh;cases hh
 | some r=>
  obtain⟨n,p1⟩:=r;rw[XQ h1];simp only[h1]at hh;dsimp only
  cases h2:p1.txt h.2.1.data.toList wj with
  | none=>rw[h2]at hh;cases hh
  | some r=>
   obtain⟨t1,p2⟩:=r;rw[Xg h2];simp only[h2]at hh;dsimp only
   cases h3:p2.txt h.2.2.1.data.toList wj with
   | none=>rw[h3]at hh;cases hh
   | some r=>
    obtain⟨t2,p3⟩:=r;rw[Xg h3];simp only[h3]at hh;dsimp only
    cases h4:p3.txt h.2.2.2.data.toList wj with
    | none=>rw[h4]at hh;cases hh
    | some r=>
     obtain⟨t3,p4⟩:=r;rw[Xg h4];simp only[h4,Qh,Qw]at hh;obtain⟨rfl,rfl⟩:=hh;exact⟨rfl,rfl⟩

theorem Jjb(E:Nat->Addr)(b:Nat)(hb12:18<=b)(g:Option Nat)(wj:Nat)(n:Nat)(s1 s2 s3:BA)(st:Option PS)(w:World)(hE:Env E w)(hp:Ji E w b g wj st)(hd:Xb st+4*wj<=90000000):
  Calls prog 86 #[.pointer (some ⟨b,0,none⟩),.agg #[.int .u64 (n:Int),.string s1,.string s2,.string s3]] w λe w'=>e=.returned (hdV (ZD wj (n,s1,s2,s3) st).1)/\StTo E w w' b g wj (ZD wj (n,s1,s2,s3) st).2:=by
 have hlt:=hp.lt;have HR0:=Run.start hb12 hE hp (Tch.allocs NoB w (.cells #[.int .u64 (n:Int),.string s1,.string s2,.string s3] 167) (.cells #[.int .u64 0,.string ⟨#[]⟩,.string ⟨#[]⟩,.string ⟨#[]⟩] 167));have hl0:=JaY n 4 st;have hl1:=Yx s1.data.toList wj (JQ n 4 st).2;have hl2:=Yx s2.data.toList wj (Jl s1.data.toList wj (JQ n 4 st).2).2;have RUN:Hid _:=HR0;go_enter func86,ntmps86;go_wp2_with fail;refine(ZS E b g wj n 4 st _ RUN.env RUN.port (by omega) (by omega)).mono ?_;rintro _ w1⟨rfl,h⟩;obtain⟨g1,(RUN1:Hid _)⟩:=RUN.step h;have bx1:=(RUN1.box (k:=w.heap.size) (Ql _) (heap_alloc2_old _ _ _)).1;obtain⟨-,c1⟩:=rows bx1;clear bx1 h;go_wp2_with fail;refine(Zi E b g1 wj s1 _ _ RUN1.env RUN1.port (by omega)).mono ?_;rintro _ w2⟨rfl,h⟩;obtain⟨g2,(RUN2:Hid _)⟩:=RUN1.step h;have bx2:=(RUN2.box (k:=w.heap.size) (Ql _) (heap_alloc2_old _ _ _)).1;obtain⟨-, -,c2⟩:=rows bx2;clear bx2 h;go_wp2_with fail;refine(Zi E b g2 wj s2 _ _ RUN2.env RUN2.port (by omega)).mono ?_;rintro _ w3⟨rfl,h⟩;obtain⟨g3,(RUN3:Hid _)⟩:=RUN2.step h;have bx3:=(RUN3.box (k:=w.heap.size) (Ql _) (heap_alloc2_old _ _ _)).1;obtain⟨-, -, -,c3⟩:=rows bx3;clear bx3 h;go_wp2_with fail;refine(Zi E b g3 wj s3 _ _ RUN3.env RUN3.port (by omega)).mono ?_;rintro _ w4⟨rfl,h⟩;obtain⟨g4,(RUN4:Hid _)⟩:=RUN3.step h;have rR:=(RUN4.box (k:=w.heap.size+1) (by omega) (heap_alloc2_new _ _ _)).1;obtain⟨e0,e1,e2,e3⟩:=rows rR;have fR:∀j,w4.frozen? ⟨w.heap.size+1,j,none⟩=false:=λj=>Qg _ _ _ _ _ rR;have RR:Hid _:=rR;clear rR h;go_wp2;rw[set4 _ _ _ _ _ _ _ _ _ _ _ RR.out];exact QJ (v:=hdV (ZD wj (n,s1,s2,s3) st).1) (Qq results86 _ _ (w.heap.size+1) _ _ (0,0) _ rfl (Qi _ _ _ _ _ _ RR) underlying167 rfl (by kernel_rfl)) rfl ⟨rfl,RUN4.done (k:=w.heap.size+1) (by omega) (heap_alloc2_new _ _ _) (by decide)⟩

theorem Xf(wj:Int)(w:World):
  Calls prog 77 #[.int .i64 wj] w λe w'=>e=.returned (.pointer (some ⟨w.heap.size,0,none⟩))/\Jc w' w.heap.size none wj .nilIface (.wr [])/\Tch NoB w w':=by
 go_enter func77,ntmps77;go_wp2;go_ret;refine⟨rfl,⟨.slice none 0 0,rfl,Bs.nil _ _,?_⟩,Ta _ _ _⟩;exact Qf _ _
theorem XT(wj:Int)(s:BA)(w:World):
  Calls prog 85 #[.int .i64 wj,.string s] w λe w'=>e=.returned (.pointer (some ⟨w.heap.size,0,none⟩))/\Jc w' w.heap.size none wj .nilIface (.rd [] s.data.toList)/\Tch NoB w w':=by
 go_enter func85,ntmps85;go_wp2;go_ret;refine⟨rfl,⟨rfl,?_⟩,Ta _ _ _⟩;exact Qf _ _
theorem JlY(b:Nat)(g:Option Nat)(wj:Int)(done:List UInt8)(w:World)(hp:Jc w b g wj .nilIface (.wr done)):
  Calls prog 79 #[.pointer (some ⟨b,0,none⟩)] w λe w'=>e=.returned (.tuple #[.string ⟨done.toArray⟩,.nilIface])/\∃n,w'=w.drewN n:=by
 have ce:=hp.errCell;obtain⟨v,_,hbs,hrow⟩:=hp;have c3:w.cell? ⟨b,3,none⟩=some v:=Ja hrow;have hst:=λn=>Ya (P:=prog) (w:=w.drewN n) (l:=done) hbs 52 9 5 underlying52 underlying5 underlying9;have hst0:=hst 0;rw[World.drewN_zero]at hst0;have hst1:=hst 1;rw[<-World.drew_is_drewN]at hst1;clear hst hrow hbs;generalize (⟨done.toArray⟩:BA)=r at *;go_enter func79,ntmps79;go_wp2;go_ret2;exact⟨rfl,0,rfl⟩
theorem Jj9(b:Nat)(g:Option Nat)(wj:Int)(t:TypeId)(u:Value)(p:PS)(w:World)(hp:Jc w b g wj (.iface t u) p):
  Calls prog 79 #[.pointer (some ⟨b,0,none⟩)] w λe w'=>e=.returned (.tuple #[.string ⟨#[]⟩,.iface t u])/\∃n,w'=w.drewN n:=by
 have ce:=hp.errCell;clear hp;go_enter func79,ntmps79;go_wp2;go_region
 all_goals go_wp2
 all_goals go_ret2
 all_goals exact⟨rfl,1,rfl⟩
theorem Jdt(b:Nat)(g:Option Nat)(wj:Int)(e:Value)(pre rest:List UInt8)(w:World)(hp:Jc w b g wj e (.rd pre rest)):
  Calls prog 87 #[.pointer (some ⟨b,0,none⟩)] w λe w'=>e=.returned (.string ⟨rest.toArray⟩)/\Tch NoB w w':=by
 obtain⟨-, -, -,c3,c4⟩:=rows hp.2;have hsz:pre.length<=(⟨(pre++rest).toArray⟩:BA).size:=by rw[JA,Qe];omega
 have hx:(⟨(pre++rest).toArray⟩:BA).extract pre.length (⟨(pre++rest).toArray⟩:BA).size=⟨rest.toArray⟩:=by rw[JlP,List.drop_left'];rfl
 generalize (⟨rest.toArray⟩:BA)=rt at *;generalize (⟨(pre++rest).toArray⟩:BA)=r at *;generalize pre.length=n at *;go_enter func87,ntmps87;go_wp2;go_region
 all_goals go_wp2
 all_goals go_ret
 all_goals exact⟨rfl,Td _ w 1⟩
theorem JaL(E:Nat->Addr)(b:Nat)(g:Option Nat)(wj:Int)(st:Option PS)(hw:∀p,st=some p->∃d,p=.wr d)(w:World)(hp:Ji E w b g wj st):
  Calls prog 79 #[.pointer (some ⟨b,0,none⟩)] w λe w'=>Tch NoB w w'/\match st with
   | some (⟨.inr d⟩)=>e=.returned (.tuple #[.string ⟨d.toArray⟩,.nilIface])
   | _=>∃t u,e=.returned (.tuple #[.string ⟨#[]⟩,.iface t u])/\Jp E 7 w' (.iface t u):=by
 cases st with
 | none=>
  obtain⟨p,t,u,h1,h2⟩:=hp;refine(Jj9 b g wj t u p w h1).mono ?_;rintro e w'⟨rfl,n,rfl⟩;exact⟨Td _ w n,t,u,rfl,h2.tch (Td NoB w n) (λ_ _ _ _ h=>h)⟩
 | some p=>
  obtain⟨d,rfl⟩:=hw p rfl;refine(JlY b g wj d w hp).mono ?_;rintro e w'⟨rfl,n,rfl⟩;exact⟨Td _ w n,rfl⟩

theorem Jcc(b:Nat)(g:Option Nat)(wj:Int)(e x:Value)(pre rest:List UInt8)(w:World)(hp:Jc w b g wj e (.rd pre rest)):
  Calls prog 140 #[.pointer (some ⟨b,0,none⟩),x] w λe w'=>e=.returned (.bool (!rest.isEmpty))/\Tch NoB w w':=by
 obtain⟨-, -, -,c3,c4⟩:=rows hp.2;have hsz:(⟨(pre++rest).toArray⟩:BA).size=pre.length+rest.length:=by rw[JA,Qe]
 have hb:decide (pre.length<(⟨(pre++rest).toArray⟩:BA).size)= !rest.isEmpty:=by
  rw[hsz]
  cases rest with
  | nil=>simp
  | cons a l=>simp
 have HB:Hid _:=hb;clear hp hb hsz;generalize (⟨(pre++rest).toArray⟩:BA)=r at *;generalize pre.length=n at *;go_enter func140,ntmps140;go_wp2;go_region
 all_goals go_wp2
 all_goals go_ret
 all_goals exact⟨by rw[<-HB.o];rfl,Td _ w 1⟩
theorem JbH(b:Nat)(wj:Int)(pre:List UInt8)(w:World)(hp:Jc w b none wj .nilIface (.rd pre [])):
  Calls prog 88 #[.pointer (some ⟨b,0,none⟩)] w λe w'=>e=.returned .nilIface/\Tch NoB w w':=by
 have ce:=hp.errCell;have HM:Hid (∀x W,Tch NoB w W->_):=λx W hT=>Jcc b none wj .nilIface x pre [] W (hp.tch hT (λh=>h) (λ_ _ h=>h));have HE:Hid (∀W,Tch NoB w W->_):=λW hT=>(hp.tch hT (λh=>h) (λ_ _ h=>h)).errCell;go_enter func88,ntmps88;go_wp2_with fail;refine(HM _ w (Te _ _)).mono ?_;rintro _ w1⟨rfl,(HT:Hid _)⟩;have c1:=HE w1 HT;clear HM HE;go_wp2;go_ret;exact⟨rfl,HT⟩
theorem JeB(b:Nat)(g:Option Nat)(wj:Int)(t:TypeId)(u:Value)(p:PS)(w:World)(hp:Jc w b g wj (.iface t u) p):
  Calls prog 88 #[.pointer (some ⟨b,0,none⟩)] w λe w'=>e=.returned (.iface t u)/\Tch NoB w w':=by
 have ce:=hp.errCell;clear hp;go_enter func88,ntmps88;go_wp2;go_ret
 first
  | exact⟨rfl,Te _ _⟩
  | exact⟨rfl,Td _ w 1⟩
theorem Jfs(E:Nat->Addr)(b:Nat)(wj:Int)(pre rest:List UInt8)(hr:rest ≠ [])(w:World)(hE:Env E w)(hp:Jc w b none wj .nilIface (.rd pre rest)):
  Calls prog 88 #[.pointer (some ⟨b,0,none⟩)] w λe w'=>∃t u,e=.returned (.iface t u)/\Jp E 7 w' (.iface t u)/\Tch NoB w w':=by
 have ce:=hp.errCell;have hne:(!rest.isEmpty)=true:=by cases rest with|nil=>exact absurd rfl hr|cons a l=>rfl
 have HM:Hid (∀x,Calls prog 140 #[.pointer (some ⟨b,0,none⟩),x] w λe w'=>e=.returned (.bool true)/\Tch NoB w w'):=λx=>by
  have:=Jcc b none wj .nilIface x pre rest w hp;rw[hne]at this;exact this
 have HF:Hid (∀W,Tch NoB w W->_):=λW hT=>(hE.tch hT noE).form;go_enter func88,ntmps88;go_wp2_with fail;refine(HM _).mono ?_;rintro _ w1⟨rfl,(HT:Hid _)⟩;have c1:=HF w1 HT;clear HM HF;go_wp2_with fail;refine(Xl _ _ _ _).mono ?_;rintro _ _⟨rfl,rfl⟩;go_wp2;go_ret;exact⟨_,_,rfl,.wrap _ _ _ (Qf _ _) .base,HT.trans (Ta NoB _ _) noE⟩
theorem Jdq(E:Nat->Addr)(b:Nat)(wj:Int)(st:Option PS)(hr:∀p,st=some p->∃q r,p=.rd q r)(w:World)(hE:Env E w)(g:Option Nat)(hp:Ji E w b g wj st):
  Calls prog 88 #[.pointer (some ⟨b,0,none⟩)] w λe w'=>Tch NoB w w'/\match st with
   | some (⟨.inl (_,[])⟩)=>e=.returned .nilIface
   | _=>∃t u,e=.returned (.iface t u)/\Jp E 7 w' (.iface t u):=by
 cases st with
 | none=>
  obtain⟨p,t,u,h1,h2⟩:=hp;refine(JeB b g wj t u p w h1).mono ?_;rintro e w'⟨rfl,h⟩;exact⟨h,t,u,rfl,h2.tch h (λ_ _ _ _ h=>h)⟩
 | some p=>
  obtain⟨q,r,rfl⟩:=hr p rfl;have hg:g=none:=hp.1;subst hg
  cases r with
  | nil=>exact(JbH b wj q w hp).mono λe w' ⟨h1,h2⟩=>⟨h2,h1⟩
  | cons a l=>exact(Jfs E b wj q (a::l) (by simp) w hE hp).mono λe w' ⟨t,u,h1,h2,h3⟩=>⟨h3,t,u,h1,h2⟩
