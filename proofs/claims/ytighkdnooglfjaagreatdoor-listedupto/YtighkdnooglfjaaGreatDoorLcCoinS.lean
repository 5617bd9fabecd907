import Derived.Test.YtighkdnooglfjaaGreatDoorLcSt
import Derived.Test.YtighkdnooglfjaaGreatDoorLcLg
namespace Go.Proofs.YtighkdnooglfjaaGreatDoor
open Tryz
set_option maxRecDepth 100000
set_option maxHeartbeats 1000000
open Go.RowKit

variable {e:Ending}{B b wj:Nat}{E:Nat->Addr}{r:Option (List (Nat×Nat)×PS)}{g:Option Nat}{v:Value}{w w':World}
theorem Jc1(n:Int):IntKind.u64.wrap n=(JE n:Int):=by
 simp[IntKind.wrap,IntKind.bits,IntKind.signed,JE];omega
def YK(wj:Nat)(c:BA×Int)(st:Option PS):(List UInt8×Nat)×Option PS:=
 (((Jl c.1.data.toList wj st).1,(JQ (JE c.2) 1 (Jl c.1.data.toList wj st).2).1),if 3<=(JQ (JE c.2) 1 (Jl c.1.data.toList wj st).2).1 then none else (JQ (JE c.2) 1 (Jl c.1.data.toList wj st).2).2)
theorem JgV(wj:Nat)(c:BA×Int)(p:PS)(h:p.coin wj c=none):(YK wj c (some p)).2=none:=by
 unfold YK;unfold PS.coin at h
 cases h1:p.txt c.1.data.toList wj with
 | none=>rw[YM h1,JjX];rfl
 | some r=>
  obtain⟨t,p1⟩:=r;rw[Xg h1];simp only[h1]at h
  cases h2:p1.num (JE c.2) 1 with
  | none=>rw[Jbk h2];rfl
  | some r=>
   obtain⟨m,p2⟩:=r;rw[XQ h2];simp only[h2]at h
   split at h
   ·cases h
   ·exact if_pos (by simp only;omega)
theorem Jcy(wj:Nat)(c y:BA×Int)(p p2:PS)(h:p.coin wj c=some (y,p2)):(YK wj c (some p)).2=some p2/\y=(⟨(YK wj c (some p)).1.1.toArray⟩,((YK wj c (some p)).1.2:Int)):=by
 unfold YK;unfold PS.coin at h
 cases h1:p.txt c.1.data.toList wj with
 | none=>rw[h1]at h;cases h
 | some r=>
  obtain⟨t,p1⟩:=r;rw[Xg h1];simp only[h1]at h
  cases h2:p1.num (JE c.2) 1 with
  | none=>rw[h2]at h;cases h
  | some r=>
   obtain⟨m,p2'⟩:=r;rw[XQ h2];simp only[h2]at h
   split at h
   ·rename_i h3;simp only[Qh,Qw]at h;obtain⟨rfl,rfl⟩:=h;exact⟨if_neg (by simp only;omega),rfl⟩
   ·cases h
theorem Jhn(m:Nat)(h:m<256):IntKind.i64.wrap (m:Int)=(m:Int):=Xe _ (by omega) (by omega)

theorem Jii(E:Nat->Addr)(b:Nat)(hb12:18<=b)(g:Option Nat)(wj:Nat)(c:BA×Int)(st:Option PS)(w:World)(hE:Env E w)(hp:Ji E w b g wj st)(hd:Xb st+wj<=90000000):
  Calls prog 203 #[.pointer (some ⟨b,0,none⟩),.agg #[.string c.1,.int .i64 c.2]] w λe w'=>e=.returned (.agg #[.string ⟨(YK wj c st).1.1.toArray⟩,.int .i64 ((YK wj c st).1.2:Int)])/\StTo E w w' b g wj (YK wj c st).2:=by
 have hlt:=hp.lt;have hx:=Jc1 c.2;obtain⟨s,N⟩:=c;simp only at hx;have HC:Hid (YK wj (s,N) st=(((Jl s.data.toList wj st).1,(JQ (JE N) 1 (Jl s.data.toList wj st).2).1),if 3<=(JQ (JE N) 1 (Jl s.data.toList wj st).2).1 then none else (JQ (JE N) 1 (Jl s.data.toList wj st).2).2)):=rfl;simp only;go_enter func203,ntmps203;go_wp2_with fail;refine(Zi E b g wj s st _ (hE.allocs _ _) (hp.next (Tch.allocs _ _ _ _)) (by omega)).mono ?_;rintro _ w1⟨rfl,g1,(HP1:Hid _),hm1,ht1⟩;have hl1:=Yx s.data.toList wj st;generalize hS1:(Jl s.data.toList wj st).2=st1 at *;generalize hTB:(⟨(Jl s.data.toList wj st).1.toArray⟩:BA)=tb at *;have HS1:Hid _:=hS1;have HTB:Hid _:=hTB;have cB:=(ht1.cell (p:=⟨w.heap.size,1,none⟩) (by simp;omega) (JhP hp _ (Ql _))).trans (Ja (heap_alloc2_old _ _ _));have rR:=(ht1.block _ (by simp) (JhP hp _ (by omega))).trans (heap_alloc2_new _ _ _);have hsz1:=ht1.size;simp at hsz1;have HE1:Hid _:=(hE.allocs _ _).tch ht1 (JbO hb12 hp);have HN:Hid (∀g',Jm w1 g1 g'->¬(w.heap.size+1=b\/some (w.heap.size+1)=g')):=λg' hm=>JbP hp (hm1.trans hm ht1.size) _ (by omega) (by simp);have RR:Hid _:=rR;have HM1:Hid (Jm _ _ _):=hm1;have HT1:Hid (Tch _ _ _):=ht1;clear rR hm1 ht1 hp hE;go_wp2_with fail;refine(ZS E b g1 wj (JE N) 1 st1 _ HE1 HP1 (by omega) (by omega)).mono ?_;rintro _ w2⟨rfl,g2,hp2,hm2,ht2⟩;have hm:=JbN (JE N) 1 st1;generalize hS2:(JQ (JE N) 1 st1).2=st2 at *;generalize hM:(JQ (JE N) 1 st1).1=m at *;have HS2:Hid _:=hS2;have HMM:Hid _:=hM;have hw2:=Jhn m (by omega);have rR2:w2.heap[w.heap.size+1]? =some (.cells #[.string ⟨#[]⟩,.int .i64 0] 49):=(ht2.block _ (by omega) (HN g1 (.inl rfl))).trans RR.out;have RR2:Hid _:=rR2;have HE2:Hid _:=HE1.tch ht2 (JbO hb12 HP1);have HP2:Hid _:=hp2;have HM2:Hid (Jm _ _ _):=hm2;have HT2:Hid _:=ht2;have TA:Hid _:=Yp HT1 ht2 HM1.o;have MA:Hid (Jm _ g g2):=HM1.o.trans hm2 HT1.o.size
 by_cases h3:3<=m
 ·have h3i:(3:Int)<=(m:Int):=by omega
  go_wp2_with fail;refine(JaU E b g2 wj _ st2 w2 HE2 HP2).mono ?_;rintro _ w3⟨rfl,g3,hp3,hm3,(HT3:Hid _)⟩;have rR3:=(HT3.block _ (Jb RR2) (HN g2 HM2)).trans RR2.out;obtain⟨e0,e1⟩:=rows rR3;have fR:∀j,w3.frozen? ⟨w.heap.size+1,j,none⟩=false:=λj=>Qg _ _ _ _ _ rR3;have RR3:Hid _:=rR3;have HP3:Hid (Ji _ _ _ _ _ _):=hp3;have HM3:Hid (Jm _ _ _):=hm3;clear rR3 hp3 hm3;go_wp2;rw[set2 _ _ _ _ _ _ _ RR3.out];obtain rfl:=HTB.o;obtain rfl:=HS2.o;obtain rfl:=HMM.o;obtain rfl:=HS1.o;refine QJ (v:=.agg #[.string _,.int .i64 _]) (Qq results203 _ _ (w.heap.size+1) _ _ (0,0) _ rfl (Qi _ _ _ _ _ _ RR3) underlying49 rfl (by kernel_rfl)) rfl ⟨by rw[HC.o],?_⟩;rw[HC.o,if_pos h3];refine StTo.row (StTo.fresh (Tch.allocs _ _ _ _) (StTo.trans MA TA ⟨g3,HP3,HM3,HT3⟩)) (by omega) RR3 (by decide) (by omega) (λg' _ hg e=>?_);exact HN.o g3 (HM2.o.trans HM3.o HT2.o.size) (.inr (by rw[e];exact hg.same HP3.o))
 ·have h3i:¬(3:Int)<=(m:Int):=by omega
  obtain⟨e0,e1⟩:=rows rR2;have fR:∀j,w2.frozen? ⟨w.heap.size+1,j,none⟩=false:=λj=>Qg _ _ _ _ _ rR2;go_wp2;rw[set2 _ _ _ _ _ _ _ RR2.out];obtain rfl:=HTB.o;obtain rfl:=HS2.o;obtain rfl:=HMM.o;obtain rfl:=HS1.o;refine QJ (v:=.agg #[.string _,.int .i64 _]) (Qq results203 _ _ (w.heap.size+1) _ _ (0,0) _ rfl (Qi _ _ _ _ _ _ RR2) underlying49 rfl (by kernel_rfl)) rfl ⟨by rw[HC.o],?_⟩;rw[HC.o,if_neg h3];refine StTo.row (StTo.fresh (Tch.allocs _ _ _ _) ⟨g2,HP2,MA,TA⟩) (by omega) RR2 (by decide) (by omega) (λg' _ hg e=>?_);exact HN g2 HM2 (.inr (by rw[e];exact hg.same HP2))

theorem JmI(x m:Nat)(p p1:PS)(h:p.num x 1=some (m,p1)):m<256:=by
 have:=JbN x 1 (some p);rw[XQ h]at this;simpa using this
theorem JbE(a o:Nat)(y:Nat×Nat)(p p2:PS)(h:p.out a o=some (y,p2)):∃p1,p.num a 8=some (y.1,p1)/\p1.num o 1=some (y.2,p2)/\p1.len<=p.len+8/\p2.len<=p.len+9/\y.2<256:=by
 unfold PS.out at h
 cases q:p.num a 8 with
 | none=>simp[q]at h
 | some r=>
  obtain⟨a',p1⟩:=r;simp only[q]at h
  cases q2:p1.num o 1 with
  | none=>simp[q2]at h
  | some s=>
   obtain⟨o',p2'⟩:=s;simp only[q2,Qh,Qw]at h;obtain⟨rfl,rfl⟩:=h;have l1:=Jaf _ _ _ _ _ q;have l2:=Jaf _ _ _ _ _ q2;exact⟨p1,rfl,q2,l1,by omega,JmI _ _ _ _ q2⟩
def encO(o:Nat×Nat):VV:=(.int .u64 (o.1:Int),.int .u8 (o.2:Int))
def Jcu:Ye (Nat×Nat) where
 f:=λo p=>p.out o.1 o.2
 grow:=9
 zero:=(0,0)
 zeroV:=zO
 Init:=λ_ _ _ x o=>x=encO o/\o.2<256
 Done:=λ_ _ _ x o=>x=encO o
theorem lawO(E:Nat->Addr)(b:Nat)(hb12:18<=b)(wj lim:Nat)(hl:lim<=80000000):Ze E b wj lim lkO.fP Jcu ShO where
 init_tch:=λh _ _ _=>h
 init_zero:=λ_ _=>⟨rfl,by decide⟩
 init_shape:=λh=>⟨_,_,h.1⟩
 done_tch:=λh _ _ _=>h
 done_mono:=λh _=>h
 like:=λ{a a' p p'} h=>by
  obtain⟨p1,h1,h2,_⟩:=JbE _ _ _ _ _ h;exact(YA h1).trans (YA h2)
 len:=λ{w x a a' p p'} _ h=>by
  obtain⟨p1,_,_,_,h2,_⟩:=JbE _ _ _ _ _ h;exact h2
 call:=λ{w g p x a} hE hp hI hd=>by
  obtain⟨rfl,ha⟩:=hI;show Calls _ _ #[_,.agg #[.int .u64 (a.1:Int),.int .u8 (a.2:Int)]] _ _;show Calls _ _ _ _ λe w'=>∃y,ShO y/\e=_/\ToP E w b g wj Jcu (p.out a.1 a.2) y w'
  cases h:p.out a.1 a.2 with
  | none=>
   have hno:Calls prog 205 #[.pointer (some ⟨b,0,none⟩),.agg #[.int .u64 (a.1:Int),.int .u8 (a.2:Int)]] w λe w'=>∃x y:Int,e=.returned (.agg #[.int .u64 x,.int .u8 y])/\Ja9 E w w' b g wj:=by
    unfold PS.out at h
    cases h1:p.num a.1 8 with
    | none=>exact Jjz E b g wj a.1 a.2 p w hE hp (by omega) h1
    | some r=>
     obtain⟨a',p1⟩:=r;simp only[h1]at h
     cases h2:p1.num a.2 1 with
     | none=>exact JjA E b hb12 g wj a.1 a.2 a' p p1 w hE hp (by omega) ha h1 h2
     | some r=>simp[h2]at h
   refine hno.mono ?_;rintro e w'⟨x,y,rfl,g',p',h1,h2,h3⟩;exact⟨(.int .u64 x,.int .u8 y),⟨_,_,rfl⟩,rfl,g',_,p',h1,h2,h3,.base⟩
  | some r=>
   obtain⟨y,p2⟩:=r;obtain⟨p1,h1,h2,l1,l2,hy⟩:=JbE _ _ _ _ _ h;refine(Jln b g wj a.1 a.2 y.1 y.2 p p1 p2 w hp (by omega) (by omega) ha h1 h2 hy).mono ?_;rintro e w'⟨rfl,g',k1,k2,k3⟩;exact⟨encO y,⟨_,_,rfl⟩,rfl,g',_,p2,k1,k2,k3,rfl,rfl,rfl⟩
def encC(c:BA×Int):VV:=(.string c.1,.int .i64 c.2)
def Jct(wj:Nat):Ye (BA×Int) where
 f:=λc p=>p.coin wj c
 grow:=wj+1
 zero:=(⟨#[]⟩,0)
 zeroV:=zC
 Init:=λ_ _ _ x c=>x=encC c
 Done:=λ_ _ _ x c=>x=encC c
theorem Jac{c y:BA×Int}{p p2:PS}(h:p.coin wj c=some (y,p2)):p.like p2/\p2.len<=p.len+(wj+1):=by
 unfold PS.coin at h
 cases q:p.txt c.1.data.toList wj with
 | none=>simp[q]at h
 | some r=>
  obtain⟨t,p1⟩:=r;simp only[q]at h
  cases q2:p1.num (JE c.2) 1 with
  | none=>simp[q2]at h
  | some s=>
   obtain⟨m,p2'⟩:=s;simp only[q2]at h
   split at h
   ·simp only[Qh,Qw]at h;obtain⟨_,rfl⟩:=h;have l1:=JiD _ _ _ _ _ q;have l2:=Jaf _ _ _ _ _ q2;exact⟨(JlW q).trans (YA q2),by omega⟩
   ·cases h
theorem lawC(E:Nat->Addr)(b:Nat)(hb12:18<=b)(wj lim:Nat)(hl:lim+wj<=80000000):Ze E b wj lim lkC.fP (Jct wj) ShC where
 init_tch:=λh _ _ _=>h
 init_zero:=λ_ _=>rfl
 init_shape:=λh=>⟨_,_,h⟩
 done_tch:=λh _ _ _=>h
 done_mono:=λh _=>h
 like:=λh=>(Jac h).1
 len:=λ_ h=>(Jac h).2
 call:=λ{w g p x a} hE hp hI hd=>by
  obtain rfl:=hI;show Calls _ _ #[_,.agg #[.string a.1,.int .i64 a.2]] _ _;refine(Jii E b hb12 g wj a (some p) w hE hp (by simp only[Xb];omega)).mono ?_;rintro e w'⟨rfl,g',k1,k2,k3⟩;refine⟨(.string _,.int .i64 _),⟨_,_,rfl⟩,rfl,?_⟩;show ToP E w b g wj (Jct wj) (p.coin wj a) _ w'
  cases h:p.coin wj a with
  | none=>
   rw[JgV wj a p h]at k1;obtain⟨p',t,u,h1,h2⟩:=k1;exact⟨g',_,p',h1,k2,k3,h2⟩
  | some r=>
   obtain⟨y,p2⟩:=r;obtain⟨e1,e2⟩:=Jcy wj a y p p2 h;rw[e1]at k1;exact⟨g',_,p2,k1,k2,k3,rfl,rfl,by rw[e2];rfl⟩
theorem Jet:∀(l:List (Nat×Nat))(p:PS),PS.many Jcu.f l p=PS.outs l p
 | [],_=>rfl
 | x::r,p=>by
  simp only[PS.many,PS.outs];have e:Jcu.f x p=p.out x.1 x.2:=rfl;rw[e]
  cases p.out x.1 x.2 with
  | none=>rfl
  | some q=>simp only[Jet r];cases PS.outs r q.2<;>rfl
theorem Jdb(wj:Nat):∀(l:List (BA×Int))(p:PS),PS.many (Jct wj).f l p=PS.coins wj l p
 | [],_=>rfl
 | x::r,p=>by
  simp only[PS.many,PS.coins];have e:(Jct wj).f x p=p.coin wj x:=rfl;rw[e]
  cases p.coin wj x with
  | none=>rfl
  | some q=>simp only[Jdb wj r];cases PS.coins wj r q.2<;>rfl
theorem JlL(l:List (Nat×Nat))(cnt:Nat):JK (0,0) l cnt=Za l cnt:=by
 unfold JK Za
 cases l<;>simp
theorem JlK(l:List (BA×Int))(cnt:Nat):JK (⟨#[]⟩,0) l cnt=YZ l cnt:=by
 unfold JK YZ
 cases l<;>simp
theorem Jlf(least most:Nat)(l:List (Nat×Nat))(p:PS):p.lst Jcu.f Jcu.zero 1 least most l=p.listO least most l:=by
 unfold PS.lst PS.listO
 cases p.num l.length 1 with
 | none=>rfl
 | some r=>simp only[Jet,<-JlL];rfl
theorem Jle(wj least most:Nat)(l:List (BA×Int))(p:PS):p.lst (Jct wj).f (Jct wj).zero 1 least most l=p.listC wj least most l:=by
 unfold PS.lst PS.listC
 cases p.num l.length 1 with
 | none=>rfl
 | some r=>simp only[Jdb,<-JlK];rfl
theorem Jq.vat{l:List (Nat×Nat)}(h:Jq B w v l):VAt B w v (l.map encO):=by
 rcases h with⟨h1,h2⟩|⟨gi,oi,c,h1,h2,h3,h4⟩
 ·exact .inl ⟨h1,by rw[h2];rfl⟩
 ·exact .inr ⟨gi,oi,c,by rw[QL];exact h1,h2,h3,λi hi=>by
   rw[List.getElem_map];exact h4 i (by simpa using hi)⟩
theorem JD.vat{l:List (BA×Int)}(h:JD B w v l):VAt B w v (l.map encC):=by
 rcases h with⟨h1,h2⟩|⟨gi,oi,c,h1,h2,h3,h4⟩
 ·exact .inl ⟨h1,by rw[h2];rfl⟩
 ·exact .inr ⟨gi,oi,c,by rw[QL];exact h1,h2,h3,λi hi=>by
   rw[List.getElem_map];exact h4 i (by simpa using hi)⟩
theorem Jcq{α:Type}(enc:α->VV):∀(xs:List VV)(ys:List α),xs.length=ys.length->(∀(j:Nat) x a,xs[j]? =some x->ys[j]? =some a->x=enc a)->xs=ys.map enc:=by
 intro xs ys hl h;apply List.ext_getElem (by simpa using hl);intro j h1 h2;rw[List.getElem_map];exact h j _ _ (Qd h1) (Qd (by omega))
def ToO(E:Nat->Addr)(w:World)(b:Nat)(g:Option Nat)(wj:Nat)(r:Option (List (Nat×Nat)×PS))(e:Ending)(w':World):Prop:=
 match r with
 | some (ys,p2)=>∃gp,e=.returned (.slice (some ⟨gp,0,none⟩) ys.length ys.length)/\w.heap.size<=gp/\w'.heap[gp]? =some (.cells (vvA (ys.map encO)) 80)/\∃g',Jc w' b g' wj .nilIface p2/\some gp ≠ g'/\Jm w g g'/\Tch (λk=>k=b\/some k=g) w w'
 | none=>(∃a n c,e=.returned (.slice a n c))/\Jbo E w w' b g wj
def ToC(E:Nat->Addr)(w:World)(b:Nat)(g:Option Nat)(wj:Nat)(r:Option (List (BA×Int)×PS))(e:Ending)(w':World):Prop:=
 match r with
 | some (ys,p2)=>∃gp,e=.returned (.slice (some ⟨gp,0,none⟩) ys.length ys.length)/\w.heap.size<=gp/\w'.heap[gp]? =some (.cells (vvA (ys.map encC)) 49)/\∃g',Jc w' b g' wj .nilIface p2/\some gp ≠ g'/\Jm w g g'/\Tch (λk=>k=b\/some k=g) w w'
 | none=>(∃a n c,e=.returned (.slice a n c))/\Jbo E w w' b g wj
theorem ToO.of(h:ToL lkO E w b g wj Jcu r e w'):ToO E w b g wj r e w':=by
 cases r with
 | none=>exact h
 | some r=>
  obtain⟨ys,p2⟩:=r;obtain⟨gp,xs,h1,h2,h3,h4,g',h5,h6,h7,h8,h9⟩:=h;exact⟨gp,h1,h2,by rw[Jcq encO xs ys h4 h7]at h3;exact h3,g',h5,h6,h8,h9⟩
theorem ToC.of{r:Option (List (BA×Int)×PS)}(h:ToL lkC E w b g wj (Jct wj) r e w'):ToC E w b g wj r e w':=by
 cases r with
 | none=>exact h
 | some r=>
  obtain⟨ys,p2⟩:=r;obtain⟨gp,xs,h1,h2,h3,h4,g',h5,h6,h7,h8,h9⟩:=h;exact⟨gp,h1,h2,by rw[Jcq encC xs ys h4 h7]at h3;exact h3,g',h5,h6,h8,h9⟩
theorem ToO.shape(h:ToO E w b g wj r e w'):∃a n c,e=.returned (.slice a n c):=by
 cases r with
 | none=>exact h.1
 | some r=>obtain⟨gp,he,_⟩:=h;exact⟨_,_,_,he⟩
theorem ToC.shape{r:Option (List (BA×Int)×PS)}(h:ToC E w b g wj r e w'):∃a n c,e=.returned (.slice a n c):=by
 cases r with
 | none=>exact h.1
 | some r=>obtain⟨gp,he,_⟩:=h;exact⟨_,_,_,he⟩
theorem Jer(E:Nat->Addr)(b:Nat)(hb12:18<=b)(g:Option Nat)(wj:Nat)(what:BA)(v:Value)(l:List (Nat×Nat))(least most:Nat)(p0:PS)(w:World)
 (hE:Env E w) (hp:Jc w b g wj .nilIface p0) (hv:Jq b w v l) (hwh:what.size<=1000) (hl3:l.length<1000000) (hm3:most<=3) (hvc:p0.takes v) (ho:∀x∈l,x.2<256) (hd:p0.len<=70000000):
  Calls prog 204 #[.pointer (some ⟨b,0,none⟩),.agg #[.string what,.int .i64 ((1:Nat):Int),.int .u64 (least:Int),.int .u64 (most:Int)],v,.func (.func 205) #[.pointer (some ⟨b,0,none⟩)] #[]] w λe w'=>ToO E w b g wj (p0.listO least most l) e w':=by
 rw[<-Jlf];exact(JmB (lawO E b hb12 wj 80000000 (by omega)) rfl hb12 g what hwh 1 least most v (l.map encO) l p0 w hE hp (hv.vat.up (Nat.le_of_lt hp.lt)) (hv.vat.free hp) (by simp) hl3 (by simp only[Jcu];omega) (by omega) (by omega) hm3 hvc (λj x a h1 h2=>by
  rw[List.getElem?_map,h2]at h1;simp only[Option.map_some,Qh]at h1;exact⟨h1.symm,ho a (QS h2)⟩)).mono λe w' h=>ToO.of h
theorem Jjm(E:Nat->Addr)(b:Nat)(hb12:18<=b)(g:Option Nat)(wj:Nat)(hw:wj<=1000)(what:BA)(v:Value)(l:List (BA×Int))(least most:Nat)(p0:PS)(w:World)
 (hE:Env E w) (hp:Jc w b g wj .nilIface p0) (hv:JD b w v l) (hwh:what.size<=1000) (hl3:l.length<1000000) (hm3:most<=3) (hvc:p0.takes v) (hd:p0.len<=70000000):
  Calls prog 202 #[.pointer (some ⟨b,0,none⟩),.agg #[.string what,.int .i64 ((1:Nat):Int),.int .u64 (least:Int),.int .u64 (most:Int)],v,.func (.func 203) #[.pointer (some ⟨b,0,none⟩)] #[]] w λe w'=>ToC E w b g wj (p0.listC wj least most l) e w':=by
 rw[<-Jle];exact(Jmw (lawC E b hb12 wj 79000000 (by omega)) rfl hb12 g what hwh 1 least most v (l.map encC) l p0 w hE hp (hv.vat.up (Nat.le_of_lt hp.lt)) (hv.vat.free hp) (by simp) hl3 (by simp only[Jct];omega) (by omega) (by omega) hm3 hvc (λj x a h1 h2=>by
  rw[List.getElem?_map,h2]at h1;simp only[Option.map_some,Qh]at h1;exact h1.symm)).mono λe w' h=>ToC.of h
theorem Ja1(E:Nat->Addr)(b:Nat)(hb12:18<=b)(g:Option Nat)(wj:Nat)(v:Value)(l:List (Nat×Nat))(p0:PS)(w:World)
 (hE:Env E w) (hp:Jc w b g wj .nilIface p0) (hv:Jq b w v l) (hl3:l.length<1000000) (hvc:p0.takes v) (ho:∀x∈l,x.2<256) (hd:p0.len<=70000000):
  Calls prog 188 #[.pointer (some ⟨b,0,none⟩),v] w λe w'=>
   ToO E w b g wj (p0.listO 1 3 l) e w':=by
 obtain⟨ia,ic,hvs⟩:=hv.shape;have hmf:∀(fn:Fn)(first cap:Array Value)(w:World),(Instr.makeFunc fn first cap).run prog w=.ok (.func fn first cap) w:=λ_ _ _ _=>rfl;have HL':Hid (∀what:BA,what.size<=1000->_):=λwhat hwh=>Jer E b hb12 g wj what v l 1 3 p0 w hE hp hv hwh hl3 (by omega) hvc ho hd;clear hE hp hv hvc ho;subst hvs;go_enter func188,ntmps188;go_wp2_with fail;refine(HL'.out _ (by decide)).mono ?_;clear HL';intro e w1 h;obtain⟨a,n,c,rfl⟩:=h.shape;have HH:Hid (ToO _ _ _ _ _ _ _ _):=h;clear h;go_wp2;go_ret;exact HH.o
