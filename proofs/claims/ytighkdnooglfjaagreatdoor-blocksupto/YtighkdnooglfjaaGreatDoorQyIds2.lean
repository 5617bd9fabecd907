import Derived.Test.YtighkdnooglfjaaGreatDoorQyLst
import Derived.RangeFuncNested
import Derived.RangeFuncBound
import Derived.Shelf.RegionOpen
import Derived.OwnWalkIn
import Derived.LoopNIn
import Derived.LoopIn
open Go renaming Calls->aB,Value->aG,World->aA
open Go.Ending renaming returned->aC
open Go.IntKind renaming i64->I,u64->aD,u8->aE
open Go.Obj renaming cells->T
open Go.Proofs.Tryz renaming prog->N
open Go.RowKit renaming Hid->J
open Go.Value renaming agg->aH,bool->aL,iface->aJ,int->O,nilIface->aK,pointer->X,slice->R,string->L,tuple->aI,pointer->lG
open Option renaming none->Y,some->Z,none->lK
open List renaming getD_eq_getElem?_getD->lC,mem_append_right->lF,mem_append_left->lH,nil_append->lJ
open UInt8 renaming ofNat->lD,toNat_lt->lE,toNat_xor->lI
set_option maxRecDepth 100000
set_option maxHeartbeats 2000000
namespace Go.Proofs.YtighkdnooglfjaaGreatDoor
open Go.Proofs.Tryz
open Go.RowKit

variable {c:BA×Int}{d:List UInt8->BA}{b k n n₀ wj x:Nat}{E:Nat->Addr}{F F' S:Nat->Prop}{o:Nat×Nat}{g q:Option Nat}{st:Option PS}{W w w' w1 w2:aA}
def RetS(E:Nat->Addr)(r:Option (List UInt8))(e:Ending)(w':aA):Prop:=match r with
 | some d=>e=aC (aI #[L ⟨d.toArray⟩,aK])
 | none=>∃t u,e=aC (aI #[L ⟨#[]⟩,aJ t u])/\Jn E 7 w' (aJ t u)
theorem RetS.cases{r:Option (List UInt8)}{e:Ending}(h:RetS E r e w'):(∃d,r=Z d/\e=aC (aI #[L ⟨d.toArray⟩,aK]))\/(r=Y/\∃t u,e=aC (aI #[L ⟨#[]⟩,aJ t u])/\Jn E 7 w' (aJ t u)):=by
 cases r with
 | none=>exact .inr ⟨rfl,h⟩
 | some d=>exact .inl ⟨d,rfl,h⟩
def JaN:Option PS->Option (List UInt8)
 | some (⟨Sum.inr d⟩)=>Z d
 | _=>Y
def stWr(st:Option PS):Prop:=∀p,st=Z p->∃d,p=.wr d
theorem Ja7(h:stWr st):stWr (JF x k st).2:=by
 intro p hp
 cases st with
 | none=>cases hp
 | some q=>
  obtain⟨d,rfl⟩:=h q rfl
  cases hq:(PS.wr d).num x k with
  | none=>rw[ZN hq]at hp;cases hp
  | some r=>
   obtain⟨m,p1⟩:=r;rw[JS hq]at hp
   cases hp
   simp only[PS.num]at hq
   split at hq
   ·cases hq;exact⟨_,rfl⟩
   ·cases hq
theorem Yr{s:List UInt8}(h:stWr st):stWr (Jm s k st).2:=by
 intro p hp
 cases st with
 | none=>cases hp
 | some q=>
  obtain⟨d,rfl⟩:=h q rfl
  cases hq:(PS.wr d).txt s k with
  | none=>rw[Yb hq]at hp;cases hp
  | some r=>
   obtain⟨m,p1⟩:=r;rw[JN hq]at hp
   cases hp
   simp only[PS.txt]at hq
   split at hq
   ·cases hq;exact⟨_,rfl⟩
   ·cases hq
theorem Jez:stWr (Z (.wr [])):=λp hp=>by cases hp;exact⟨_,rfl⟩
theorem Jap:stWr Y:=λp hp=>by cases hp
theorem Jlk(h:stWr st):stWr (Zd wj c st).2:=by
 unfold Zd;dsimp only
 split
 ·exact Jap
 ·exact Ja7 (Yr h)
theorem Jns{h:HdL}(hw:stWr st):stWr (ZM wj h st).2:=Yr (Yr (Yr (Ja7 hw)))
theorem Jar(E:Nat->Addr)(b:Nat)(g:Option Nat)(wj:Int)(st:Option PS)(hw:stWr st)(w:aA)(hp:Jg E w b g wj st):
  aB N 79 #[X (Z ⟨b,0,Y⟩)] w λe w'=>M D w w'/\RetS E (JaN st) e w':=by
 refine(Jas E b g wj st hw w hp).mono ?_;rintro e w'⟨h1,h2⟩;refine⟨h1,?_⟩
 cases st with
 | none=>exact h2
 | some p=>obtain⟨d,rfl⟩:=hw p rfl;exact h2
theorem XD(hb:w.heap.size<=b)(h1:M D w w1)(h2:M (λk=>k=b\/Z k=Y) w1 w2):M D w w2:=
 h1.trans h2 (λj hj=>by
  rcases hj with rfl|hj
  ·exact .inr hb
  ·cases hj)
theorem JaZ(E:Nat->Addr)(wj:Nat)(s:BA)(w:aA)(hE:Env E w)(h1:1<=wj)(n9:wj<=32)(hs:s.size<=1000000000):
  aB N 130 #[O I (wj:Int),L s] w λe w'=>e=aC (L (H3 wj s.data.toList))/\M D w w':=
 (JmQ wj s w h1 n9 (by omega) (Qk (by decide) hE.size) hE.table).mono λe w' ⟨k1,k2⟩=>⟨k1,(M.of_below k2).mono (λj hj=>.inr hj)⟩
theorem Jds(a:List UInt8)(d:List UInt8)(h:d.length<=1000000)(ha:a.length<=100):∃s:BA,s.size<=1000100/\s.data.toList=a++d/\∀W,(Op.stringOp .add (⟨a.toArray⟩:BA) ⟨d.toArray⟩).run N W=.ok (L s) W:=
 ⟨_,by rw[ByteArray.size_append];show a.toArray.size+d.toArray.size<=1000100;simp;omega,by simp,λW=>run_string_add_sum (P:=N) W _ _ (by show a.toArray.size+d.toArray.size<=_;simp;omega)⟩

theorem JdR(E:Nat->Addr)(wj:Nat)(hw:wj<=1000)(c:BA×Int)(w:aA)(hE:Env E w):
  aB N 145 #[O I (wj:Int),aH #[L c.1,O I c.2]] w λe w'=>M D w w'/\RetS E (JaN (Zd wj c (Z (.wr []))).2) e w':=by
 have hs:=hE.size;have HE:J _:=hE;obtain⟨s,aZ⟩:=c;dsimp only;go_enter func145,ntmps145;go_wp2_with fail;refine(JY _ _).mono ?_;rintro _ w1⟨rfl,Hy,H9⟩;have tA:M D w (w.alloc (T #[L s,O I aZ] 49)):=Ta _ _ _;have hb:(w.alloc (T #[L s,O I aZ] 49)).heap.size=w.heap.size+1:=by simp
 rw[hb]at Hy;rw[hb];have r0:=(H9.block _ (by omega) (λh=>h)).trans (Qf _ _);obtain⟨d0,d1⟩:=rows r0;have xX:J (Env E w1):=(HE.tch tA noE).tch H9 noE;have Hx:J (Jg E w1 (w.heap.size+1) Y wj (Z (.wr []))):=Hy;have H5:J _:=tA.trans H9 noE;have HC:J (∀k,aB N 203 _ (w1.drewN k) _):=λk=>JjJ E (w.heap.size+1) (by omega) Y wj (s,aZ) (Z (.wr [])) (w1.drewN k) (xX.o.tch (Td D w1 k) noE) (Hx.o.next (Td _ w1 k)) (by show 0+_<=_;omega);go_wp2_with fail;go_region_with (go_at_call 203;refine(HC 1).mono ?_;rintro _ w2⟨rfl,g2,(kF:J _),gK,(H6:J _)⟩;clear gK)
 all_goals
  have HR:J (aB N 79 _ w2 _):=Jar E (w.heap.size+1) g2 wj _ (Jlk Jez) w2 kF.o;have Hb:J _:=XD (b:=w.heap.size+1) (by omega) (H5.trans (Td D w1 1) noE) H6.o;go_wp2_with fail;refine HR.o.mono ?_;rintro _ w3⟨Hs,hr⟩;have kw:J _:=hr;have Hm:J _:=Hs
  rcases hr.cases with⟨d,hd,rfl⟩|⟨hn,t,u,rfl,he⟩
  all_goals go_wp2;go_ret2;exact⟨Hb.trans Hm noE,kw⟩
theorem JaJ(E:Nat->Addr)(wj:Nat)(hw:wj<=1000)(n:Nat)(s1 s2 s3:BA)(w:aA)(hE:Env E w):
  aB N 84 #[O I (wj:Int),aH #[O aD (n:Int),L s1,L s2,L s3]] w λe w'=>M D w w'/\RetS E (JaN (ZM wj (n,s1,s2,s3) (Z (.wr []))).2) e w':=by
 have hs:=hE.size;have HE:J _:=hE;go_enter func84,ntmps84;go_wp2_with fail;refine(JY _ _).mono ?_;rintro _ w1⟨rfl,Hy,H9⟩;have tA:M D w (w.alloc (T #[O aD (n:Int),L s1,L s2,L s3] 167)):=Ta _ _ _;have hb:(w.alloc (T #[O aD (n:Int),L s1,L s2,L s3] 167)).heap.size=w.heap.size+1:=by simp
 rw[hb]at Hy;rw[hb];have r0:=(H9.block _ (by omega) (λh=>h)).trans (Qf _ _);obtain⟨d0,d1,d2,d3⟩:=rows r0;have xX:J (Env E w1):=(HE.tch tA noE).tch H9 noE;have Hx:J (Jg E w1 (w.heap.size+1) Y wj (Z (.wr []))):=Hy;have H5:J _:=tA.trans H9 noE;have HC:J (∀k,aB N 86 _ (w1.drewN k) _):=λk=>Jfn E (w.heap.size+1) (by omega) Y wj n s1 s2 s3 (Z (.wr [])) (w1.drewN k) (xX.o.tch (Td D w1 k) noE) (Hx.o.next (Td _ w1 k)) (by show 0+_<=_;omega);go_wp2_with fail;go_region_with (go_at_call 86;refine(HC 1).mono ?_;rintro _ w2⟨rfl,g2,(kF:J _),gK,(H6:J _)⟩;clear gK)
 all_goals
  have HR:J (aB N 79 _ w2 _):=Jar E (w.heap.size+1) g2 wj _ (Jns Jez) w2 kF.o;have Hb:J _:=XD (b:=w.heap.size+1) (by omega) (H5.trans (Td D w1 1) noE) H6.o;go_wp2_with fail;refine HR.o.mono ?_;rintro _ w3⟨Hs,hr⟩;have kw:J _:=hr;have Hm:J _:=Hs
  rcases hr.cases with⟨d,hd,rfl⟩|⟨hn,t,u,rfl,he⟩
  all_goals go_wp2;go_ret2;exact⟨Hb.trans Hm noE,kw⟩
theorem XS(d:List UInt8)(v:aG):(PS.wr d).takes v:=λ_ _ h=>by cases h
theorem Jh4{α:Type}{r:Option (α×PS)}(h:∀a p,r=Z (a,p)->∃d,p=.wr d):stWr (r.map (·.2)):=λp hp=>by
 cases r with
 | none=>cases hp
 | some q=>obtain⟨a,p'⟩:=q;cases hp;exact h a p' rfl
theorem Jdv{d:List UInt8}{p:PS}(h:(PS.wr d).like p):∃d',p=.wr d':=by
 cases p using PS.on with
 | rd q r=>cases h
 | wr d'=>exact⟨d',rfl⟩
def outsB?(l:List (Nat×Nat)):Option (List UInt8):=JaN (((PS.wr []).listO 1 3 l).map (·.2))
def txB?(wj:Nat)(t:TxL):Option (List UInt8):=JaN (((PS.wr []).tx wj t).map (·.2))
def RetD(E:Nat->Addr)(r:Option BA)(e:Ending)(w':aA):Prop:=match r with
 | some d=>e=aC (aI #[L d,aK])
 | none=>∃t u,e=aC (aI #[L ⟨#[]⟩,aJ t u])/\Jn E 7 w' (aJ t u)

theorem Jc0(E:Nat->Addr)(wj:Nat)(Hn:1<=wj)(hw:wj<=32)(v:aG)(l:List (Nat×Nat))(w:aA)(hE:Env E w)(h1:Jr w.heap.size w v l)(qB:l.length<1000000)(ho:∀x∈l,x.2<256):
  aB N 125 #[O I (wj:Int),v] w λe w'=>M D w w'/\RetD E ((outsB? l).map λd=>H3 wj (71::d)) e w':=by
 have hs:=hE.size;have HE:J (Env E w):=hE;have H1:J (Jr _ _ _ _):=h1;have HO:J (∀x∈l,x.2<256):=ho;obtain⟨ia,ic,kG⟩:=h1.shape;have Hq:∀d,outsB? l=Z d->d.length<=100:=λd hd=>by
  unfold outsB? at hd
  cases hq:(PS.wr []).listO 1 3 l with
  | none=>rw[hq]at hd;cases hd
  | some r=>
   obtain⟨ys,p2⟩:=r;obtain⟨k1,_,k2,k3⟩:=JaV h1 (XS _ _) hq;obtain⟨d',rfl⟩:=Jdv k1;rw[hq]at hd
   cases hd
   simp only[PS.len,Qv]at k3;omega
 subst kG;go_enter func125,ntmps125;go_wp2_with fail;refine(JY _ _).mono ?_;rintro _ w1⟨rfl,Hy,H9⟩;have HC:J (aB N 188 _ w1 _):=Jbr E w.heap.size hs Y wj _ l (.wr []) w1 (HE.o.tch H9 noE) Hy (H1.o.tch H9 noE) qB (XS _ _) HO.o (by show 0<=_;omega);have H5:J _:=H9;go_wp2_with fail;refine HC.mono ?_;intro e w2 h;obtain⟨x1,x2,x3,rfl⟩:=h.shape;obtain⟨g2,kV,Ha⟩:∃g2,Jg E w2 w.heap.size g2 wj (((PS.wr []).listO 1 3 l).map (·.2))/\M (λk=>k=w.heap.size\/Z k=Y) w1 w2:=by
  cases hq:(PS.wr []).listO 1 3 l with
  | none=>
   rw[hq]at h;obtain⟨_,g',p',vv,k1,k2,_,k4⟩:=h;obtain⟨t,u,rfl⟩:=k2.iface;exact⟨g',⟨p',t,u,k1,k2⟩,k4⟩
  | some r=>
   obtain⟨ys,p2⟩:=r;rw[hq]at h;obtain⟨_,_,_,_,g',k1,_,_,k4⟩:=h;exact⟨g',k1,k4⟩
 have zh:stWr (((PS.wr []).listO 1 3 l).map (·.2)):=Jh4 λa p hq=>by
  obtain⟨k1,_⟩:=JaV H1.o (XS [] _) hq;exact Jdv k1
 have HR:J (aB N 79 _ w2 _):=Jar E w.heap.size g2 wj _ zh w2 kV;have Hb:J _:=XD (Ql _) H5 Ha;go_wp2_with fail;refine HR.o.mono ?_;rintro _ w3⟨Hs,hr⟩;have Hm:J _:=Hb.trans Hs noE
 rcases hr.cases with⟨d,hd,rfl⟩|⟨hn,t,u,rfl,(HEE:J _)⟩
 ·have HD:J (outsB? l=Z d):=hd;obtain⟨s1,xt,kZ,yh⟩:=Jds [71] d (by have:=Hq d hd;omega) (by decide);have yU:J (aB N 130 _ w3 _):=JaZ E wj s1 w3 (HE.tch Hm noE) Hn hw (by omega);have jm:J _:=kZ;clear hr hd Hq kZ;go_wp2_with fail;refine yU.o.mono ?_;rintro _ w4⟨rfl,Hu⟩;have kD:J _:=Hu;go_wp2;go_ret2;refine⟨Hm.trans kD noE,?_⟩;rw[HD.o,jm.o];rfl
 ·have HN:J (outsB? l=Y):=hn;clear hr hn Hq;go_wp2;go_ret2;refine⟨Hm,?_⟩;rw[HN.o];exact⟨t,u,rfl,HEE⟩

theorem Jpb{x:Sl×Sl}{t:TxL}(hw:wj<=32)(hI:Jbp b w (.wr []) x t)(d:List UInt8)(hd:txB? wj t=Z d):d.length<=200:=by
 unfold txB? at hd
 cases hq:(PS.wr []).tx wj t with
 | none=>rw[hq]at hd;cases hd
 | some r=>
  obtain⟨t',p2⟩:=r;obtain⟨k1,k2,_⟩:=Jif hw hI hq;obtain⟨d',rfl⟩:=Jdv k1;rw[hq]at hd
  cases hd
  simpa [PS.len]using k2
theorem JnI(E:Nat->Addr)(wj:Nat)(Hn:1<=wj)(hw:wj<=32)(x:Sl×Sl)(t:TxL)(w:aA)(hE:Env E w)(h1:JG w.heap.size w (R x.1.1 x.1.2.1 x.1.2.2) t.1)(h2:Jr w.heap.size w (R x.2.1 x.2.2.1 x.2.2.2) t.2)(qB:t.1.length<1000000)(qS:t.2.length<1000000)(ho:∀x∈t.2,x.2<256):
  aB N 206 #[O I (wj:Int),aH #[R x.1.1 x.1.2.1 x.1.2.2,R x.2.1 x.2.2.1 x.2.2.2]] w λe w'=>M D w w'/\RetD E ((txB? wj t).map λd=>H3 wj (84::d)) e w':=by
 have hs:=hE.size;have HE:J _:=hE;obtain⟨⟨a1,n1,c1⟩,a2,n2,c2⟩:=x;dsimp only at h1 h2 ⊢;have HI:J (∀wA,M D w wA->Jbp (w.heap.size+1) wA (.wr []) ((a1,n1,c1),(a2,n2,c2)) t):=λwA hT=>⟨(h1.tch hT noE).up (by omega),(h2.tch hT noE).up (by omega),qB,qS,XS _ _,XS _ _,ho⟩
 go_enter func206,ntmps206;go_wp2_with fail;refine(JY _ _).mono ?_;rintro _ w1⟨rfl,Hy,H9⟩;have tA:M D w (w.alloc (T #[R a1 n1 c1,R a2 n2 c2] 98)):=Ta _ _ _;have hb:(w.alloc (T #[R a1 n1 c1,R a2 n2 c2] 98)).heap.size=w.heap.size+1:=by simp
 rw[hb]at Hy;rw[hb];have r0:=(H9.block _ (by omega) (λh=>h)).trans (Qf _ _);obtain⟨d0,d1⟩:=rows r0;have H5:J _:=(tA.trans H9 noE).trans (Td D w1 1) noE;have HC:J (aB N 134 _ w1.drew _):=JnJ E (w.heap.size+1) (by omega) Y wj hw ((a1,n1,c1),(a2,n2,c2)) t (.wr []) w1.drew (HE.tch H5 noE) (Hy.tch (Td D w1 1) (λh=>h) (λ_ _ h=>h)) (HI _ H5) (by show 0<=_;omega);have Hq:=Jpb hw (HI _ H5);have HWR:J (stWr (((PS.wr []).tx wj t).map (·.2))):=Jh4 λa p hq=>Jdv (Jkd hq);go_wp2_with fail;go_region_with (go_at_call 134;refine HC.o.mono ?_;rintro _ w2⟨⟨⟨y1,y2,y3⟩,z1,z2,z3⟩,g2,rfl,kV,gK,Ha,_⟩;have kF:J (Jg _ _ _ _ _ _):=kV;have H6:J (M _ _ w2):=Ha)
 all_goals
  have HR:J (aB N 79 _ w2 _):=Jar E (w.heap.size+1) g2 wj _ HWR w2 kF.o;have Hb:J _:=XD (b:=w.heap.size+1) (by omega) H5 H6.o;go_wp2_with fail;refine HR.mono ?_;rintro _ w3⟨Hs,hr⟩;have Hm:J _:=Hb.trans Hs noE
  rcases hr.cases with⟨d,hd,rfl⟩|⟨hn,t',u,rfl,(HEE:J _)⟩
  ·have HD:J (txB? wj t=Z d):=hd;obtain⟨s1,xt,kZ,yh⟩:=Jds [84] d (by have:=Hq d hd;omega) (by decide);have yU:J (aB N 130 _ w3 _):=JaZ E wj s1 w3 (HE.tch Hm noE) Hn hw (by omega);have jm:J _:=kZ;clear hr hd Hq kZ;go_wp2_with fail;refine yU.o.mono ?_;rintro _ w4⟨rfl,Hu⟩;have kD:J _:=Hu;go_wp2;go_ret2;refine⟨Hm.trans kD noE,?_⟩;rw[HD.o,jm.o];rfl
  ·have HN:J (txB? wj t=Y):=hn;clear hr hn Hq;go_wp2;go_ret2;refine⟨Hm,?_⟩;rw[HN.o];exact⟨t',u,rfl,HEE⟩

def stO(o:Nat×Nat)(st:Option PS):(Nat×Nat)×Option PS:=(((JF o.1 8 st).1,(JF o.2 1 (JF o.1 8 st).2).1),(JF o.2 1 (JF o.1 8 st).2).2)
def YY(wj:Nat)(k:List UInt8)(st:Option PS):List UInt8×Option PS:=
 ((Jm k (wj+1) st).1,match (Jm k (wj+1) st).2 with
  | none=>Y
  | some p=>if 3<=((Jm k (wj+1) st).1.getD wj 0).toNat then Y else Z p)
def YR(wj:Nat)(b:Int)(st:Option PS):Nat×Option PS:=((JF (JD b) 2 st).1,if 8*(wj+1)<=(JF (JD b) 2 st).1 then Y else (JF (JD b) 2 st).2)
def Jv(wj:Nat)(k:BA)(o:Nat×Nat)(st:Option PS):(List UInt8×(Nat×Nat))×Option PS:=(((YY wj k.data.toList st).1,(stO o (YY wj k.data.toList st).2).1),(stO o (YY wj k.data.toList st).2).2)
def stBr(wj:Nat)(b:Int)(x y:BA)(st:Option PS):(Nat×List UInt8×List UInt8)×Option PS:=
 (((YR wj b st).1,(Jm x.data.toList wj (YR wj b st).2).1,(Jm y.data.toList wj (Jm x.data.toList wj (YR wj b st).2).2).1),(Jm y.data.toList wj (Jm x.data.toList wj (YR wj b st).2).2).2)
theorem Jgy(s:List UInt8)(k:Nat)(st:Option PS)(p:PS)(h:(Jm s k st).2=Z p):(Jm s k st).1.length=k:=by
 cases st with
 | none=>cases h
 | some q=>
  cases hq:q.txt s k with
  | none=>rw[Yb hq]at h;cases h
  | some r=>
   obtain⟨t,p1⟩:=r;rw[JN hq]
   cases q using PS.on with
   | rd a c=>
    simp only[PS.txt]at hq
    split at hq
    ·cases hq;simp;omega
    ·cases hq
   | wr d=>
    simp only[PS.txt]at hq
    split at hq
    ·cases hq;assumption
    ·cases hq
theorem Jll(wj:Nat)(k:List UInt8)(st:Option PS):JP (YY wj k st).2<=JP st+(wj+1):=by
 have:=YG k (wj+1) st;unfold YY;dsimp only
 cases h:(Jm k (wj+1) st).2 with
 | none=>simp[JP]
 | some p=>
  rw[h]at this;dsimp only
  split
  ·simp[JP]
  ·exact this
theorem JfJ(wj:Nat)(b:Int)(st:Option PS):JP (YR wj b st).2<=JP st+2:=by
 have:=Jbn (JD b) 2 st;unfold YR;dsimp only
 split
 ·simp[JP]
 ·exact this
theorem Jnt{k:List UInt8}(h:stWr st):stWr (YY wj k st).2:=by
 have h1:=Yr (s:=k) (k:=wj+1) h;unfold YY;dsimp only
 cases h2:(Jm k (wj+1) st).2 with
 | none=>exact Jap
 | some p=>
  rw[h2]at h1;dsimp only
  split
  ·exact Jap
  ·exact h1
theorem Jnr{b:Int}(h:stWr st):stWr (YR wj b st).2:=by
 unfold YR;dsimp only
 split
 ·exact Jap
 ·exact Ja7 h
theorem Jqh(h:stWr st):stWr (stO o st).2:=Ja7 (Ja7 h)
theorem Jlm{k:BA}(h:stWr st):stWr (Jv wj k o st).2:=Jqh (Jnt h)
theorem Jo2{b:Int}{x y:BA}(h:stWr st):stWr (stBr wj b x y st).2:=Yr (Yr (Jnr h))
theorem StTo.alloc{wj:Int}(h:StTo E w w2 b g wj st)(o:Obj):StTo E w (w2.alloc o) b g wj st:=by
 obtain⟨g',h1,h2,h3⟩:=h;exact⟨g',h1.next (Ta _ _ _),h2,h3.trans (Ta D _ _) noE⟩
theorem set3(w:aA)(g:Nat)(t:TypeId)(a b c v0 v1 v2:aG)(h:w.heap[g]? =Z (T #[a,b,c] t (0,0))):
  ((w.setCell ⟨g,0,Y⟩ v0).setCell ⟨g,1,Y⟩ v1).setCell ⟨g,2,Y⟩ v2=w.setRow g #[v0,v1,v2]:=by
 rw[Qj w g 0 _ t (0,0) v0 h,Qj _ g 1 _ t (0,0) v1 (Qi _ _ _ _ _ _ h),QI,
  Qj _ g 2 _ t (0,0) v2 (Qi _ _ _ _ _ _ h),QI]
 refine congrArg (w.setRow g) ?_;simp

theorem Jp7(E:Nat->Addr)(b:Nat)(Hi:18<=b)(g:Option Nat)(wj:Int)(a o:Nat)(ho:o<256)(st:Option PS)(w:aA)(hE:Env E w)(hp:Jg E w b g wj st)(hd:JP st<=90000000):
  aB N 205 #[X (Z ⟨b,0,Y⟩),aH #[O aD (a:Int),O aE (o:Int)]] w λe w'=>e=aC (aH #[O aD ((stO (a,o) st).1.1:Int),O aE ((stO (a,o) st).1.2:Int)])/\StTo E w w' b g wj (stO (a,o) st).2:=by
 have H7:=hp.lt;have gC:=Run.start Hi hE hp (M.allocs D w (T #[O aD (a:Int),O aE (o:Int)] 80) (T #[O aD 0,O aE 0] 80));have zm:=Jbn a 8 st;have hm:=Jci o 1 (JF a 8 st).2;have hwo:IntKind.u64.wrap (o:Int)=(o:Int):=JK _ (by omega) (by omega);have RUN:J _:=gC;go_enter func205,ntmps205;go_wp2_with fail;refine(Jak E b g wj a 8 st _ RUN.env RUN.port (by omega) (by omega)).mono ?_;rintro _ w1⟨rfl,h⟩;obtain⟨g1,(Hz:J _)⟩:=RUN.step h;have qj:=(Hz.box (k:=w.heap.size) (Ql _) (heap_alloc2_old _ _ _)).1;obtain⟨-,c1⟩:=rows qj;clear qj h;go_wp2_with fail;refine(Jak E b g1 wj o 1 _ _ Hz.env Hz.port (by omega) (by omega)).mono ?_;rintro _ w2⟨rfl,h⟩;obtain⟨g2,(kQ:J _)⟩:=Hz.step h;have rR:=(kQ.box (k:=w.heap.size+1) (by omega) (heap_alloc2_new _ _ _)).1;obtain⟨e0,e1⟩:=rows rR;have fR:∀j,w2.frozen? ⟨w.heap.size+1,j,Y⟩=false:=λj=>Qg _ _ _ _ _ rR;have uN:IntKind.u8.wrap ((JF o 1 (JF a 8 st).2).1:Int)=((JF o 1 (JF a 8 st).2).1:Int):=Jcr _ (by omega) (by omega);have RR:J _:=rR;clear rR h;go_wp2;rw[set2 _ _ _ _ _ _ _ RR.out];exact QK (v:=aH #[O aD ((stO (a,o) st).1.1:Int),O aE ((stO (a,o) st).1.2:Int)]) (Qq results205 _ _ (w.heap.size+1) _ _ (0,0) _ rfl (Qi _ _ _ _ _ _ RR) underlying80 rfl (by kernel_rfl)) rfl ⟨rfl,kQ.done (k:=w.heap.size+1) (by omega) (heap_alloc2_new _ _ _) (by decide)⟩

theorem Jg.err{wj:Int}(h:Jg E w b g wj st):(st=Y/\∃t u,w.cell? ⟨b,2,Y⟩=Z (aJ t u))\/((∃p,st=Z p)/\w.cell? ⟨b,2,Y⟩=Z aK):=by
 cases st with
 | some p=>exact .inr ⟨⟨p,rfl⟩,Jd.errCell h⟩
 | none=>obtain⟨p,t,u,h1,_⟩:=h;exact .inl ⟨rfl,t,u,h1.errCell⟩
theorem JpU(E:Nat->Addr)(b:Nat)(Hi:18<=b)(g:Option Nat)(wj:Nat)(hw:wj<=1000)(k:BA)(st:Option PS)(w:aA)(hE:Env E w)(hp:Jg E w b g wj st)(hd:JP st<=90000000):
  aB N 294 #[X (Z ⟨b,0,Y⟩),L k] w λe w'=>e=aC (L ⟨(YY wj k.data.toList st).1.toArray⟩)/\StTo E w w' b g wj (YY wj k.data.toList st).2:=by
 have cw:=hp.width;have H7:=hp.lt;have HC:J (aB N 209 _ w _):=JgB E b g wj k (wj+1) st w hE hp (by omega);have HE:J _:=hE;have HP:J _:=hp;have HK:J (YY wj k.data.toList st=((Jm k.data.toList (wj+1) st).1,match (Jm k.data.toList (wj+1) st).2 with
  | none=>Y
  | some p=>if 3<=((Jm k.data.toList (wj+1) st).1.getD wj 0).toNat then Y else Z p)):=rfl
 have HL:J (∀p,(Jm k.data.toList (wj+1) st).2=Z p->_):=λp h=>Jgy _ _ _ p h;have hww:I.wrap ((wj:Int)+1)=(wj:Int)+1:=Jo _ (by omega) (by omega);go_enter func294,ntmps294;go_wp2_with fail;refine HC.o.mono ?_;rintro _ w1⟨rfl,g1,Hy,ql,H9⟩;have sB:=Hy.err;have cw1:=Hy.width;have xX:J _:=HE.tch H9 (Jck Hi HP);have Hx:J _:=Hy;have jn:J _:=ql;have H5:J _:=H9
 rcases sB with⟨hn,t,u,ce⟩|⟨⟨p,(HS:J _)⟩,ce⟩
 ·have HN:J _:=hn;go_wp2;go_ret;refine⟨by rw[HK.o];rfl,g1,?_,jn,H5⟩;rw[HK.o,HN.o];have:=Hx.o;rw[HN.o]at this;exact this
 ·have qK:=HL p HS;have Hp:(⟨(Jm k.data.toList (wj+1) st).1.toArray⟩:BA).size=wj+1:=by rw[Ji];exact qK
  have pT:wj<(⟨(Jm k.data.toList (wj+1) st).1.toArray⟩:BA).size:=by omega
  have HB:J ((⟨(Jm k.data.toList (wj+1) st).1.toArray⟩:BA)[wj].toNat=((Jm k.data.toList (wj+1) st).1.getD wj 0).toNat):=by
   show UInt8.toNat _=_
   congr 1
   simp[lC,show wj<(Jm k.data.toList (wj+1) st).1.length by omega];rfl
  generalize hTB:(⟨(Jm k.data.toList (wj+1) st).1.toArray⟩:BA)=tb at *;have gZ:J _:=hTB
  by_cases h3:3<=tb[wj].toNat
  ·have p7:(3:Int)<=(tb[wj].toNat:Int):=(by omega);go_wp2_with fail;refine(Jao E b g1 wj _ _ w1 xX Hx).mono ?_;rintro _ w2⟨rfl,(jm:J _)⟩;go_wp2;go_ret;refine⟨by rw[HK.o,gZ.o];rfl,?_⟩;rw[HK.o];dsimp only;rw[HS.o];dsimp only;rw[if_pos (by rw[<-HB.o];exact h3)];exact StTo.trans jn H5 jm.o
  ·have p7:¬(3:Int)<=(tb[wj].toNat:Int):=(by omega);go_wp2;go_ret;refine⟨by rw[HK.o,gZ.o];rfl,g1,?_,jn,H5⟩;rw[HK.o];dsimp only;have:=Hx.o;rw[HS.o]at this ⊢;dsimp only;rw[if_neg (by rw[<-HB.o];exact h3)];exact this
theorem JlY(E:Nat->Addr)(b:Nat)(Hi:18<=b)(g:Option Nat)(wj:Nat)(hw:wj<=1000)(k:Int)(st:Option PS)(w:aA)(hE:Env E w)(hp:Jg E w b g wj st)(hd:JP st<=90000000):
  aB N 292 #[X (Z ⟨b,0,Y⟩),O I k] w λe w'=>e=aC (O I ((YR wj k st).1:Int))/\StTo E w w' b g wj (YR wj k st).2:=by
 have hx:=JdK k;have HE:J _:=hE;have HP:J _:=hp;have HK:J (YR wj k st=((JF (JD k) 2 st).1,if 8*(wj+1)<=(JF (JD k) 2 st).1 then Y else (JF (JD k) 2 st).2)):=rfl;go_enter func292,ntmps292;go_wp2_with fail;refine(Jak E b g wj (JD k) 2 st w HE HP (by omega) (by omega)).mono ?_;rintro _ w1⟨rfl,g1,Hy,(jn:J _),(H5:J _)⟩;have cw1:=Hy.width;have hm:=Jci (JD k) 2 st;have xX:J _:=HE.tch H5 (Jck Hi HP);have Hx:J _:=Hy;clear Hy;generalize (JF (JD k) 2 st).1=m at *;have hwm:I.wrap (m:Int)=(m:Int):=Jo _ (by omega) (by omega);have hww:I.wrap ((wj:Int)+1)=(wj:Int)+1:=Jo _ (by omega) (by omega);have uN:I.wrap (8*((wj:Int)+1))=8*((wj:Int)+1):=Jo _ (by omega) (by omega);have hwu:IntKind.u64.wrap (8*((wj:Int)+1))=8*((wj:Int)+1):=JK _ (by omega) (by omega)
 by_cases h3:8*(wj+1)<=m
 ·have p7:8*((wj:Int)+1)<=(m:Int):=by omega
  go_wp2_with (first|(go_at_call 200;refine(Jao E b g1 wj _ _ w1 xX Hx).mono ?_;rintro _ w2⟨rfl,(jm:J _)⟩)|go_in);go_ret;refine⟨by rw[HK.o];rfl,?_⟩;rw[HK.o,if_pos h3];exact StTo.trans jn H5 jm.o
 ·have p7:¬8*((wj:Int)+1)<=(m:Int):=by omega
  go_wp2;go_ret;refine⟨by rw[HK.o];rfl,g1,?_,jn,H5⟩;rw[HK.o,if_neg h3];exact Hx.o
theorem JjT(E:Nat->Addr)(b:Nat)(Hi:18<=b)(g:Option Nat)(wj:Nat)(hw:wj<=1000)(k:BA)(a o:Nat)(ho:o<256)(st:Option PS)(w:aA)(hE:Env E w)(hp:Jg E w b g wj st)(hd:JP st<=80000000):
  aB N 222 #[X (Z ⟨b,0,Y⟩),aH #[L k,O aD (a:Int),O aE (o:Int)]] w λe w'=>e=aC (aH #[L ⟨(Jv wj k (a,o) st).1.1.toArray⟩,O aD ((Jv wj k (a,o) st).1.2.1:Int),O aE ((Jv wj k (a,o) st).1.2.2:Int)])/\StTo E w w' b g wj (Jv wj k (a,o) st).2:=by
 have H7:=hp.lt;have gC:=Run.start Hi hE hp (M.allocs D w (T #[L k,O aD (a:Int),O aE (o:Int)] 256) (T #[L ⟨#[]⟩,O aD 0,O aE 0] 256));have zm:=Jll wj k.data.toList st;have RUN:J _:=gC;go_enter func222,ntmps222;go_wp2_with fail;refine(JpU E b Hi g wj hw k st _ RUN.env RUN.port (by omega)).mono ?_;rintro _ w1⟨rfl,h⟩;obtain⟨g1,(Hz:J _)⟩:=RUN.step h;have qj:=(Hz.box (k:=w.heap.size) (Ql _) (heap_alloc2_old _ _ _)).1;obtain⟨-,c1,c2⟩:=rows qj;clear qj h;go_wp2_with fail;refine(Jp7 E b Hi g1 wj a o ho _ _ Hz.env Hz.port (by omega)).mono ?_;rintro _ w2⟨rfl,h⟩;obtain⟨g2,(kQ:J _)⟩:=Hz.step h;have rR:=(kQ.box (k:=w.heap.size+1) (by omega) (heap_alloc2_new _ _ _)).1;obtain⟨e0,e1,e2⟩:=rows rR;have fR:∀j,w2.frozen? ⟨w.heap.size+1,j,Y⟩=false:=λj=>Qg _ _ _ _ _ rR;have jl:=(Jb rR)
 have RR:J _:=rR;clear rR h;go_wp2;rw[set3 _ _ _ _ _ _ _ _ _ RR.out];exact QK (v:=aH #[L ⟨(Jv wj k (a,o) st).1.1.toArray⟩,O aD ((Jv wj k (a,o) st).1.2.1:Int),O aE ((Jv wj k (a,o) st).1.2.2:Int)]) (Qq results222 _ _ (w.heap.size+1) _ _ (0,0) _ rfl ((Below.heap_alloc _ _ _ (by simpa using jl)).trans (Qi _ _ _ _ _ _ RR)) underlying256 rfl (by kernel_rfl)) rfl ⟨rfl,(kQ.done (k:=w.heap.size+1) (by omega) (heap_alloc2_new _ _ _) (by decide)).alloc _⟩
theorem Jkm(E:Nat->Addr)(b:Nat)(Hi:18<=b)(g:Option Nat)(wj:Nat)(hw:wj<=1000)(k:Int)(x y:BA)(st:Option PS)(w:aA)(hE:Env E w)(hp:Jg E w b g wj st)(hd:JP st<=80000000):
  aB N 308 #[X (Z ⟨b,0,Y⟩),aH #[O I k,L x,L y]] w λe w'=>e=aC (aH #[O I ((stBr wj k x y st).1.1:Int),L ⟨(stBr wj k x y st).1.2.1.toArray⟩,L ⟨(stBr wj k x y st).1.2.2.toArray⟩])/\StTo E w w' b g wj (stBr wj k x y st).2:=by
 have H7:=hp.lt;have gC:=Run.start Hi hE hp (M.allocs D w (T #[O I k,L x,L y] 279) (T #[O I 0,L ⟨#[]⟩,L ⟨#[]⟩] 279));have zm:=JfJ wj k st;have qB:=YG x.data.toList wj (YR wj k st).2;have RUN:J _:=gC;go_enter func308,ntmps308;go_wp2_with fail;refine(JlY E b Hi g wj hw k st _ RUN.env RUN.port (by omega)).mono ?_;rintro _ w1⟨rfl,h⟩;obtain⟨g1,(Hz:J _)⟩:=RUN.step h;have qj:=(Hz.box (k:=w.heap.size) (Ql _) (heap_alloc2_old _ _ _)).1;obtain⟨-,c1⟩:=rows qj;clear qj h;go_wp2_with fail;refine(Za E b g1 wj x _ _ Hz.env Hz.port (by omega)).mono ?_;rintro _ w2⟨rfl,h⟩;obtain⟨g2,(kQ:J _)⟩:=Hz.step h;have bx2:=(kQ.box (k:=w.heap.size) (Ql _) (heap_alloc2_old _ _ _)).1;obtain⟨-, -,c2⟩:=rows bx2;clear bx2 h;go_wp2_with fail;refine(Za E b g2 wj y _ _ kQ.env kQ.port (by omega)).mono ?_;rintro _ w3⟨rfl,h⟩;obtain⟨g3,(gD:J _)⟩:=kQ.step h;have rR:=(gD.box (k:=w.heap.size+1) (by omega) (heap_alloc2_new _ _ _)).1;obtain⟨e0,e1,e2⟩:=rows rR;have fR:∀j,w3.frozen? ⟨w.heap.size+1,j,Y⟩=false:=λj=>Qg _ _ _ _ _ rR;have RR:J _:=rR;clear rR h;go_wp2;rw[set3 _ _ _ _ _ _ _ _ _ RR.out];exact QK (v:=aH #[O I ((stBr wj k x y st).1.1:Int),L ⟨(stBr wj k x y st).1.2.1.toArray⟩,L ⟨(stBr wj k x y st).1.2.2.toArray⟩]) (Qq results308 _ _ (w.heap.size+1) _ _ (0,0) _ rfl (Qi _ _ _ _ _ _ RR) underlying279 rfl (by kernel_rfl)) rfl ⟨rfl,gD.done (k:=w.heap.size+1) (by omega) (heap_alloc2_new _ _ _) (by decide)⟩

abbrev JcV:=BA×BA×(Nat×Nat)×Int×BA×BA
def Jpy:JcV:=(⟨#[]⟩,⟨#[]⟩,(0,0),0,⟨#[]⟩,⟨#[]⟩)
def JaL(n:JcV):Array aG:= #[L n.1,L n.2.1,O aD (n.2.2.1.1:Int),O aE (n.2.2.1.2:Int),O I n.2.2.2.1,L n.2.2.2.2.1,L n.2.2.2.2.2]
def Yk(wj:Nat)(n:JcV)(st:Option PS):JcV×Option PS:=
 if (Jm n.1.data.toList 1 st).1=[69] then ((⟨#[69]⟩,⟨#[]⟩,(0,0),0,⟨#[]⟩,⟨#[]⟩),(Jm n.1.data.toList 1 st).2)
 else if (Jm n.1.data.toList 1 st).1=[76] then ((⟨#[76]⟩,⟨(Jv wj n.2.1 n.2.2.1 (Jm n.1.data.toList 1 st).2).1.1.toArray⟩,(Jv wj n.2.1 n.2.2.1 (Jm n.1.data.toList 1 st).2).1.2,0,⟨#[]⟩,⟨#[]⟩),(Jv wj n.2.1 n.2.2.1 (Jm n.1.data.toList 1 st).2).2)
 else if (Jm n.1.data.toList 1 st).1=[78] then ((⟨#[78]⟩,⟨#[]⟩,(0,0),((stBr wj n.2.2.2.1 n.2.2.2.2.1 n.2.2.2.2.2 (Jm n.1.data.toList 1 st).2).1.1:Int),⟨(stBr wj n.2.2.2.1 n.2.2.2.2.1 n.2.2.2.2.2 (Jm n.1.data.toList 1 st).2).1.2.1.toArray⟩,⟨(stBr wj n.2.2.2.1 n.2.2.2.2.1 n.2.2.2.2.2 (Jm n.1.data.toList 1 st).2).1.2.2.toArray⟩),(stBr wj n.2.2.2.1 n.2.2.2.2.1 n.2.2.2.2.2 (Jm n.1.data.toList 1 st).2).2)
 else (Jpy,Y)
theorem Jlo{n:JcV}(h:stWr st):stWr (Yk wj n st).2:=by
 unfold Yk
 split
 ·exact Yr h
 ·split
  ·exact Jlm (Yr h)
  ·split
   ·exact Jo2 (Yr h)
   ·exact Jap
theorem set7(w:aA)(g:Nat)(t:TypeId)(a b c d e f h v0 v1 v2 v3 v4 v5 v6:aG)(hr:w.heap[g]? =Z (T #[a,b,c,d,e,f,h] t (0,0))):
  ((((((w.setCell ⟨g,0,Y⟩ v0).setCell ⟨g,1,Y⟩ v1).setCell ⟨g,2,Y⟩ v2).setCell ⟨g,3,Y⟩ v3).setCell ⟨g,4,Y⟩ v4).setCell ⟨g,5,Y⟩ v5).setCell ⟨g,6,Y⟩ v6=w.setRow g #[v0,v1,v2,v3,v4,v5,v6]:=by
 rw[Qj w g 0 _ t (0,0) v0 hr,Qj _ g 1 _ t (0,0) v1 (Qi _ _ _ _ _ _ hr),QI,
  Qj _ g 2 _ t (0,0) v2 (Qi _ _ _ _ _ _ hr),QI,Qj _ g 3 _ t (0,0) v3 (Qi _ _ _ _ _ _ hr),QI,
  Qj _ g 4 _ t (0,0) v4 (Qi _ _ _ _ _ _ hr),QI,Qj _ g 5 _ t (0,0) v5 (Qi _ _ _ _ _ _ hr),QI,
  Qj _ g 6 _ t (0,0) v6 (Qi _ _ _ _ _ _ hr),QI]
 refine congrArg (w.setRow g) ?_;simp
theorem Jaz(k:BA)(a o:Int)(w:aA):aB N 307 #[aH #[L k,O aD a,O aE o]] w λe w'=>e=aC (aH #[L ⟨#[76]⟩,L k,O aD a,O aE o,O I 0,L ⟨#[]⟩,L ⟨#[]⟩])/\M D w w':=by
 go_enter func307,ntmps307;go_wp2;exact QK (v:=aH #[L ⟨#[76]⟩,L k,O aD a,O aE o,O I 0,L ⟨#[]⟩,L ⟨#[]⟩]) (Qq results307 _ _ (w.heap.size+1) _ _ (0,0) _ rfl (heap_alloc2_new _ _ _) underlying281 rfl (by kernel_rfl)) rfl ⟨rfl,M.allocs _ _ _ _⟩
theorem ZE(k:Int)(x y:BA)(w:aA):aB N 309 #[aH #[O I k,L x,L y]] w λe w'=>e=aC (aH #[L ⟨#[78]⟩,L ⟨#[]⟩,O aD 0,O aE 0,O I k,L x,L y])/\M D w w':=by
 go_enter func309,ntmps309;go_wp2;exact QK (v:=aH #[L ⟨#[78]⟩,L ⟨#[]⟩,O aD 0,O aE 0,O I k,L x,L y]) (Qq results309 _ _ (w.heap.size+1) _ _ (0,0) _ rfl (heap_alloc2_new _ _ _) underlying281 rfl (by kernel_rfl)) rfl ⟨rfl,M.allocs _ _ _ _⟩
theorem Run.next{w0 wA:aA}{g':Option Nat}{wj:Int}(h:Run E w0 wA w b g g' wj st)(k:M D w w'):Run E w0 wA w' b g g' wj st:=
 ⟨h.port.next k,h.moved,h.tch.trans k noE,h.env.tch k noE,h.k12,h.low,h.own,h.new⟩
theorem JoL(E:Nat->Addr)(b:Nat)(Hi:18<=b)(g:Option Nat)(wj:Nat)(hw:wj<=1000)(n:JcV)(ho:n.2.2.1.2<256)(st:Option PS)(w:aA)(hE:Env E w)(hp:Jg E w b g wj st)(hd:JP st<=70000000):
  aB N 240 #[X (Z ⟨b,0,Y⟩),aH (JaL n)] w λe w'=>e=aC (aH (JaL (Yk wj n st).1))/\StTo E w w' b g wj (Yk wj n st).2:=by
 have H7:=hp.lt;obtain⟨l,k,⟨a,o⟩,bt,x,y⟩:=n;dsimp only at ho;have HC:J (JaL (l,k,(a,o),bt,x,y)= #[L l,L k,O aD (a:Int),O aE (o:Int),O I bt,L x,L y]):=rfl;rw[HC.o];have gC:=Run.start Hi hE hp (M.allocs D w (T #[L l,L k,O aD (a:Int),O aE (o:Int),O I bt,L x,L y] 281) (T #[L ⟨#[]⟩,L ⟨#[]⟩,O aD 0,O aE 0,O I 0,L ⟨#[]⟩,L ⟨#[]⟩] 281));have zm:=YG l.data.toList 1 st;have RUN:J _:=gC;go_enter func240,ntmps240;go_wp2_with fail;refine(JgB E b g wj l 1 st _ RUN.env RUN.port (by omega)).mono ?_;rintro _ w1⟨rfl,h⟩;obtain⟨g1,(Hz:J _)⟩:=RUN.step h;have qj:=(Hz.box (k:=w.heap.size) (Ql _) (heap_alloc2_old _ _ _)).1;have rR:=(Hz.box (k:=w.heap.size+1) (by omega) (heap_alloc2_new _ _ _)).1;have p8:=(Jb rR)
 obtain⟨-,c1,c2,c3,c4,c5,c6⟩:=rows qj;have RR1:J _:=rR;clear qj h rR;have hn0:∀c:UInt8,(Jm l.data.toList 1 st).1 ≠ [c]->((⟨(Jm l.data.toList 1 st).1.toArray⟩:BA).toList == [c])=false:=λc h=>by
  rw[ByteArray.toList_eq];simpa using h
 have HN0:J _:=hn0
 by_cases h0:(Jm l.data.toList 1 st).1=[69]
 ·have hb:(⟨(Jm l.data.toList 1 st).1.toArray⟩:BA)=⟨#[69]⟩:=by rw[h0]
  have HS:J (Yk wj (l,k,(a,o),bt,x,y) st=((⟨#[69]⟩,⟨#[]⟩,(0,0),0,⟨#[]⟩,⟨#[]⟩),(Jm l.data.toList 1 st).2)):=if_pos h0;rw[hb];obtain⟨e0,e1,e2,e3,e4,e5,e6⟩:=rows RR1.out;have fR:∀j,w1.frozen? ⟨w.heap.size+1,j,Y⟩=false:=λj=>Qg _ _ _ _ _ RR1.out;go_wp2;rw[set7 _ _ _ _ _ _ _ _ _ _ _ _ _ _ _ _ _ RR1.out];refine QK (v:=aH (JaL (⟨#[69]⟩,⟨#[]⟩,(0,0),0,⟨#[]⟩,⟨#[]⟩))) (Qq results240 _ _ (w.heap.size+1) _ _ (0,0) _ rfl (Qi _ _ _ _ _ _ RR1) underlying281 rfl (by kernel_rfl)) rfl ⟨by rw[HS.o],?_⟩;rw[HS.o];exact Hz.done (k:=w.heap.size+1) (by omega) (heap_alloc2_new _ _ _) (by decide)
 ·by_cases h1:(Jm l.data.toList 1 st).1=[76]
  ·have hb:(⟨(Jm l.data.toList 1 st).1.toArray⟩:BA)=⟨#[76]⟩:=(by rw[h1]);have HS:J (Yk wj (l,k,(a,o),bt,x,y) st=((⟨#[76]⟩,⟨(Jv wj k (a,o) (Jm l.data.toList 1 st).2).1.1.toArray⟩,(Jv wj k (a,o) (Jm l.data.toList 1 st).2).1.2,0,⟨#[]⟩,⟨#[]⟩),(Jv wj k (a,o) (Jm l.data.toList 1 st).2).2)):=(if_neg h0).trans (if_pos h1);rw[hb];go_wp2_with fail;refine(JjT E b Hi g1 wj hw k a o ho _ _ Hz.env Hz.port (by omega)).mono ?_;rintro _ w2⟨rfl,h⟩;obtain⟨g2,(kQ:J _)⟩:=Hz.step h;clear h;go_wp2_with fail;refine(Jaz _ _ _ _).mono ?_;rintro _ w3⟨rfl,h⟩;have R3:=kQ.out.next h;have rR:=(R3.box (k:=w.heap.size+1) (by omega) (heap_alloc2_new _ _ _)).1;obtain⟨e0,e1,e2,e3,e4,e5,e6⟩:=rows rR;have fR:∀j,w3.frozen? ⟨w.heap.size+1,j,Y⟩=false:=λj=>Qg _ _ _ _ _ rR;have gD:J _:=R3;have RR3:J _:=rR;go_wp2;rw[set7 _ _ _ _ _ _ _ _ _ _ _ _ _ _ _ _ _ RR3.out];refine QK (v:=aH #[L ⟨#[76]⟩,L _,O aD _,O aE _,O I 0,L ⟨#[]⟩,L ⟨#[]⟩]) (Qq results240 _ _ (w.heap.size+1) _ _ (0,0) _ rfl (Qi _ _ _ _ _ _ RR3) underlying281 rfl (by kernel_rfl)) rfl ⟨by rw[HS.o];rfl,?_⟩;rw[HS.o];exact gD.done (k:=w.heap.size+1) (by omega) (heap_alloc2_new _ _ _) (by decide)
  ·by_cases h2:(Jm l.data.toList 1 st).1=[78]
   ·have hb:(⟨(Jm l.data.toList 1 st).1.toArray⟩:BA)=⟨#[78]⟩:=(by rw[h2]);have HS:J (Yk wj (l,k,(a,o),bt,x,y) st=((⟨#[78]⟩,⟨#[]⟩,(0,0),((stBr wj bt x y (Jm l.data.toList 1 st).2).1.1:Int),⟨(stBr wj bt x y (Jm l.data.toList 1 st).2).1.2.1.toArray⟩,⟨(stBr wj bt x y (Jm l.data.toList 1 st).2).1.2.2.toArray⟩),(stBr wj bt x y (Jm l.data.toList 1 st).2).2)):=(if_neg h0).trans ((if_neg h1).trans (if_pos h2));rw[hb];go_wp2_with fail;refine(Jkm E b Hi g1 wj hw bt x y _ _ Hz.env Hz.port (by omega)).mono ?_;rintro _ w2⟨rfl,h⟩;obtain⟨g2,(kQ:J _)⟩:=Hz.step h;clear h;go_wp2_with fail;refine(ZE _ _ _ _).mono ?_;rintro _ w3⟨rfl,h⟩;have R3:=kQ.out.next h;have rR:=(R3.box (k:=w.heap.size+1) (by omega) (heap_alloc2_new _ _ _)).1;obtain⟨e0,e1,e2,e3,e4,e5,e6⟩:=rows rR;have fR:∀j,w3.frozen? ⟨w.heap.size+1,j,Y⟩=false:=λj=>Qg _ _ _ _ _ rR;have gD:J _:=R3;have RR3:J _:=rR;go_wp2;rw[set7 _ _ _ _ _ _ _ _ _ _ _ _ _ _ _ _ _ RR3.out];refine QK (v:=aH #[L ⟨#[78]⟩,L ⟨#[]⟩,O aD 0,O aE 0,O I _,L _,L _]) (Qq results240 _ _ (w.heap.size+1) _ _ (0,0) _ rfl (Qi _ _ _ _ _ _ RR3) underlying281 rfl (by kernel_rfl)) rfl ⟨by rw[HS.o];rfl,?_⟩;rw[HS.o];exact gD.done (k:=w.heap.size+1) (by omega) (heap_alloc2_new _ _ _) (by decide)
   ·have HS:J (Yk wj (l,k,(a,o),bt,x,y) st=(Jpy,Y)):=(if_neg h0).trans ((if_neg h1).trans (if_neg h2));have b0:=HN0 69 h0;have b1:=HN0 76 h1;have b2:=HN0 78 h2;generalize (⟨(Jm l.data.toList 1 st).1.toArray⟩:BA)=tb at *;go_wp2_with fail;refine(Jao E b g1 wj _ _ _ Hz.env Hz.port).mono ?_;rintro _ w2⟨rfl,h⟩;obtain⟨g2,(kQ:J _)⟩:=Hz.step h;have rR:=(kQ.box (k:=w.heap.size+1) (by omega) (heap_alloc2_new _ _ _)).1;obtain⟨e0,e1,e2,e3,e4,e5,e6⟩:=rows rR;have fR:∀j,w2.frozen? ⟨w.heap.size+1,j,Y⟩=false:=λj=>Qg _ _ _ _ _ rR;have xu:J _:=rR;clear rR h;go_wp2;rw[set7 _ _ _ _ _ _ _ _ _ _ _ _ _ _ _ _ _ xu.out];refine QK (v:=aH #[L ⟨#[]⟩,L ⟨#[]⟩,O aD 0,O aE 0,O I 0,L ⟨#[]⟩,L ⟨#[]⟩]) (Qq results240 _ _ (w.heap.size+1) _ _ (0,0) _ rfl (Qi _ _ _ _ _ _ xu) underlying281 rfl (by kernel_rfl)) rfl ⟨by rw[HS.o];rfl,?_⟩;rw[HS.o];exact kQ.done (k:=w.heap.size+1) (by omega) (heap_alloc2_new _ _ _) (by decide)

theorem JaA(E:Nat->Addr)(wj:Nat)(hw:wj<=1000)(n:JcV)(ho:n.2.2.1.2<256)(w:aA)(hE:Env E w):
  aB N 154 #[aH (JaL n),O I (wj:Int)] w λe w'=>M D w w'/\RetS E (JaN (Yk wj n (Z (.wr []))).2) e w':=by
 have hs:=hE.size;have HE:J _:=hE;have HC:J (∀W b,18<=b->Env E W->Jg E W b Y wj (Z (.wr []))->_):=λW b p9 hE hp=>JoL E b p9 Y wj hw n ho (Z (.wr [])) W hE hp (by show 0<=_;omega);obtain⟨l,k,⟨a,o⟩,bt,x,y⟩:=n;dsimp only at ho;have HV:J (JaL (l,k,(a,o),bt,x,y)= #[L l,L k,O aD (a:Int),O aE (o:Int),O I bt,L x,L y]):=rfl;rw[HV.o]at HC ⊢;go_enter func154,ntmps154;go_wp2_with fail;refine(JY _ _).mono ?_;rintro _ w1⟨rfl,Hy,H9⟩;have tA:M D w (w.alloc (T #[L l,L k,O aD (a:Int),O aE (o:Int),O I bt,L x,L y] 281)):=Ta _ _ _;have hb:(w.alloc (T #[L l,L k,O aD (a:Int),O aE (o:Int),O I bt,L x,L y] 281)).heap.size=w.heap.size+1:=by simp
 rw[hb]at Hy;rw[hb];have r0:=(H9.block _ (by omega) (λh=>h)).trans (Qf _ _);obtain⟨d0,d1,d2,d3,d4,d5,d6⟩:=rows r0;have H5:J _:=(tA.trans H9 noE).trans (Td D w1 1) noE;have yV:J (aB N 240 _ w1.drew _):=HC w1.drew (w.heap.size+1) (by omega) (HE.tch H5 noE) (Jg.next (E:=E) (st:=Z (.wr [])) Hy (Td _ w1 1));go_wp2_with fail;go_region_with (go_at_call 240;refine yV.o.mono ?_;rintro _ w2⟨rfl,g2,kV,gK,Ha⟩;have kF:J (Jg _ _ _ _ _ _):=kV;have H6:J (M _ _ w2):=Ha)
 all_goals
  have HR:J (aB N 79 _ w2 _):=Jar E (w.heap.size+1) g2 wj _ (Jlo Jez) w2 kF.o;have Hb:J _:=XD (b:=w.heap.size+1) (by omega) H5 H6.o;go_wp2_with fail;refine HR.o.mono ?_;rintro _ w3⟨Hs,hr⟩;have kw:J _:=hr;have Hm:J _:=Hs
  rcases hr.cases with⟨d,hd,rfl⟩|⟨hn,t,u,rfl,he⟩
  all_goals go_wp2;go_ret2;exact⟨Hb.trans Hm noE,kw⟩


def bt(k:List UInt8)(i:Nat):Nat:=(k.getD (i/8) 0).toNat/2 ^ (7-i % 8) % 2
theorem Yx(k:List UInt8)(i:Nat):bt k i<2:=Nat.mod_lt _ (by decide)
abbrev Key:=List UInt8
structure Tr where
 of ::
 v:(Key×(Nat×Nat)) ⊕ (Nat×Tr×Tr)
abbrev Tr.leaf(key:Key)(out:Nat×Nat):Tr:=⟨Sum.inl (key,out)⟩
abbrev Tr.br(bit:Nat)(l r:Tr):Tr:=⟨Sum.inr (bit,l,r)⟩
theorem Tr.ri{motive:Tr->Prop}(leaf:∀key out,motive (.leaf key out))(br:∀bit l r,motive l->motive r->motive (.br bit l r)):∀t,motive t
 | ⟨Sum.inl (k,o)⟩=>leaf k o
 | ⟨Sum.inr (b,l,r)⟩=>br b l r (Tr.ri leaf br l) (Tr.ri leaf br r)
def Tr.coins:Tr->List (Key×(Nat×Nat))
 | ⟨Sum.inl (k,o)⟩=>[(k,o)]
 | ⟨Sum.inr (_,l,r)⟩=>l.coins++r.coins
def Tr.near(k:Key):Tr->Key×(Nat×Nat)
 | ⟨Sum.inl (k',o)⟩=>(k',o)
 | ⟨Sum.inr (b,l,r)⟩=>if bt k b=0 then l.near k else r.near k
def Tr.pair(n one:Tr)(b at_:Nat):Tr:=if at_=0 then .br b one n else .br b n one
def Tr.graft(k:Key)(o:Nat×Nat)(d:Nat):Tr->Tr
 | ⟨Sum.inl (k',o')⟩=>Tr.pair (.leaf k' o') (.leaf k o) d (bt k d)
 | ⟨Sum.inr (b,l,r)⟩=>if d<b then Tr.pair (.br b l r) (.leaf k o) d (bt k d) else if bt k b=0 then .br b (l.graft k o d) r else .br b l (r.graft k o d)
def Tr.cut(k:Key):Tr->Option Tr
 | ⟨Sum.inl (_,_)⟩=>Y
 | ⟨Sum.inr (b,l,r)⟩=>if bt k b=0 then (match l.cut k with|none=>Z r|some l'=>Z (.br b l' r)) else (match r.cut k with|none=>Z l|some r'=>Z (.br b l r'))
def Tr.Wf:Tr->Prop
 | ⟨Sum.inl (_,_)⟩=>True
 | ⟨Sum.inr (b,l,r)⟩=>l.Wf/\r.Wf/\(∀x∈l.coins,bt x.1 b=0)/\(∀x∈r.coins,bt x.1 b=1)/\∀x∈l.coins++r.coins,∀y∈l.coins++r.coins,∀i,i<b->bt x.1 i=bt y.1 i
theorem Tr.coins_ne(t:Tr):t.coins ≠ []:=by
 induction t using Tr.ri with
 | leaf=>simp[coins]
 | br b l r ihl ihr=>simp[coins,ihl]
theorem Tr.near_mem(k:Key)(t:Tr):t.near k∈t.coins:=by
 induction t using Tr.ri with
 | leaf=>simp[near,coins]
 | br b l r ihl ihr=>simp only[near,coins,QE];split<;>simp[*]
theorem Tr.near_of_mem(k:Key)(o:Nat×Nat)(t:Tr)(hw:t.Wf)(h:(k,o)∈t.coins):t.near k=(k,o):=by
 induction t using Tr.ri with
 | leaf=>simp only[coins,Qt]at h;rw[h];rfl
 | br b l r ihl ihr=>
  obtain⟨w1,w2,h0,h1,_⟩:=hw;simp only[coins,QE]at h;simp only[near]
  rcases h with h|h
  ·have:=h0 _ h;simp only at this;rw[if_pos this];exact ihl w1 h
  ·have:=h1 _ h;simp only at this;rw[if_neg (by omega)];exact ihr w2 h
theorem Tr.graft_ok(k:Key)(o:Nat×Nat)(d:Nat)(t:Tr)(hw:t.Wf)(hd:bt k d ≠ bt (t.near k).1 d)(hi:∀i,i<d->bt k i=bt (t.near k).1 i):
  (t.graft k o d).Wf/\(∀x,x∈(t.graft k o d).coins↔x=(k,o)\/x∈t.coins)/\(t.graft k o d).coins.length=t.coins.length+1:=by
 have nf:∀n:Tr,n.Wf->(∀x∈n.coins,bt x.1 d ≠ bt k d)->(∀x∈n.coins,∀i,i<d->bt x.1 i=bt k i)->(Tr.pair n (.leaf k o) d (bt k d)).Wf/\(∀x,x∈(Tr.pair n (.leaf k o) d (bt k d)).coins↔x=(k,o)\/x∈n.coins)/\(Tr.pair n (.leaf k o) d (bt k d)).coins.length=n.coins.length+1:=by
  intro n wn hn hs;have k2:=Yx k d;unfold pair
  split
  ·refine⟨⟨trivial,wn,?_,?_,?_⟩,?_,?_⟩
   ·intro x hx;simp only[coins,Qt]at hx;rw[hx];assumption
   ·intro x hx;have:=hn x hx;have:=Yx x.1 d;omega
   ·intro x hx y hy i qn;simp only[coins,QE,Qt]at hx hy;have e1:bt x.1 i=bt k i:=(by rcases hx with rfl|hx;rfl;exact hs x hx i qn);have e2:bt y.1 i=bt k i:=(by rcases hy with rfl|hy;rfl;exact hs y hy i qn);rw[e1,e2]
   ·intro x;simp[coins]
   ·simp[coins]
  ·refine⟨⟨wn,trivial,?_,?_,?_⟩,?_,?_⟩
   ·intro x hx;have:=hn x hx;have:=Yx x.1 d;omega
   ·intro x hx;simp only[coins,Qt]at hx;rw[hx];simp only;omega
   ·intro x hx y hy i qn;simp only[coins,QE,Qt]at hx hy;have e1:bt x.1 i=bt k i:=(by rcases hx with hx|rfl;exact hs x hx i qn;rfl);have e2:bt y.1 i=bt k i:=(by rcases hy with hy|rfl;exact hs y hy i qn;rfl);rw[e1,e2]
   ·intro x;simp only[coins,QE,Qt];exact Or.comm
   ·simp[coins]
 induction t using Tr.ri with
 | leaf k' o'=>
  simp only[near]at hd hi;exact nf _ trivial (by intro x hx;simp only[coins,Qt]at hx;rw[hx];exact λe=>hd e.symm) (by intro x hx i qn;simp only[coins,Qt]at hx;rw[hx];exact(hi i qn).symm)
 | br b l r ihl ihr=>
  have zD:=hw;obtain⟨w1,w2,h0,h1,hs⟩:=hw;simp only[graft];have hm:=near_mem k (.br b l r)
  split
  ·rename_i mu;refine nf _ zD ?_ ?_
   ·intro x hx e;exact hd (by rw[<-e];exact hs _ hx _ hm d mu)
   ·intro x hx i qn;rw[hi i qn];exact hs _ hx _ hm i (by omega)
  ·rename_i mu;simp only[near]at hd hi hm;have k2:=Yx k b
   split
   ·rename_i hz;simp only[hz,if_true]at hd hi hm;obtain⟨g1,g2,g3⟩:=ihl w1 hd hi;have bN:=near_mem k l;have Hl:b ≠ d:=(by rintro rfl;exact hd (by rw[hz];exact(h0 _ bN).symm));refine⟨⟨g1,w2,?_,h1,?_⟩,?_,?_⟩
    ·intro x hx;rw[g2]at hx;rcases hx with rfl|hx
     ·exact hz
     ·exact h0 x hx
    ·have ek:∀x∈l.coins++r.coins,∀i,i<b->bt x.1 i=bt k i:=by
      intro x hx i tz;rw[hi i (by omega)];exact hs _ hx _ (lH _ bN) i tz
     intro x hx y hy i tz;have e:∀x∈(l.graft k o d).coins++r.coins,bt x.1 i=bt k i:=by
      intro x hx;simp only[QE,g2]at hx
      rcases hx with(rfl|hx)|hx
      ·rfl
      ·exact ek x (lH _ hx) i tz
      ·exact ek x (lF _ hx) i tz
     rw[e x hx,e y hy]
    ·intro x;simp only[coins,QE,g2];exact or_assoc
    ·simp only[coins,Qe,g3];omega
   ·rename_i hz;simp only[hz,if_false]at hd hi hm;obtain⟨g1,g2,g3⟩:=ihr w2 hd hi;have bN:=near_mem k r;have Hl:b ≠ d:=(by rintro rfl;exact hd (by rw[h1 _ bN];omega));refine⟨⟨w1,g1,h0,?_,?_⟩,?_,?_⟩
    ·intro x hx;rw[g2]at hx;rcases hx with rfl|hx
     ·simp only;omega
     ·exact h1 x hx
    ·have ek:∀x∈l.coins++r.coins,∀i,i<b->bt x.1 i=bt k i:=by
      intro x hx i tz;rw[hi i (by omega)];exact hs _ hx _ (lF _ bN) i tz
     intro x hx y hy i tz;have e:∀x∈l.coins++(r.graft k o d).coins,bt x.1 i=bt k i:=by
      intro x hx;simp only[QE,g2]at hx
      rcases hx with hx|rfl|hx
      ·exact ek x (lH _ hx) i tz
      ·rfl
      ·exact ek x (lF _ hx) i tz
     rw[e x hx,e y hy]
    ·intro x;simp only[coins,QE,g2];constructor
     ·rintro(h|h|h)<;>simp[h]
     ·rintro(h|h|h)<;>simp[h]
    ·simp only[coins,Qe,g3];omega
def JX:Option Tr->List (Key×(Nat×Nat))
 | none=>[]
 | some t=>t.coins
theorem Tr.cut_ok(k:Key)(t:Tr)(hw:t.Wf)(hk:(t.near k).1=k):
  (∀t',t.cut k=Z t'->t'.Wf)/\(∀x,x∈JX (t.cut k)↔x∈t.coins/\x.1 ≠ k)/\(JX (t.cut k)).length+1=t.coins.length:=by
 induction t using Tr.ri with
 | leaf k' o'=>
  simp only[near]at hk;subst hk;refine⟨λt' h=>by simp[cut]at h,λx=>?_,by simp[cut,JX,coins]⟩;simp only[cut,JX,coins,Qt];constructor
  ·intro h;cases h
  ·rintro⟨rfl,h⟩;exact absurd rfl h
 | br b l r ihl ihr=>
  obtain⟨w1,w2,h0,h1,hs⟩:=hw;simp only[near]at hk;simp only[cut]
  split
  ·rename_i hz;simp only[hz,if_true]at hk;obtain⟨g1,g2,g3⟩:=ihl w1 hk;have hr:∀x∈r.coins,x.1 ≠ k:=by rintro x hx rfl;have:=h1 x hx;omega
   cases hc:l.cut k with
   | none=>
    rw[hc]at g1 g2 g3;refine⟨λt' h=>by simp only[Qh]at h;rw[<-h];exact w2,λx=>?_,by simp only[JX,coins,Qe,Qv]at g3 ⊢;omega⟩;simp only[JX,coins,QE];constructor
    ·intro h;exact⟨.inr h,hr x h⟩
    ·rintro⟨h|h,hn⟩
     ·exact absurd ((g2 x).2 ⟨h,hn⟩) (by simp[JX])
     ·exact h
   | some l'=>
    rw[hc]at g1 g2 g3;refine⟨λt' h=>?_,λx=>?_,by simp only[JX,coins,Qe]at g3 ⊢;omega⟩
    ·simp only[Qh]at h;rw[<-h];have xK:∀x∈l'.coins++r.coins,x∈l.coins++r.coins:=by
      intro x hx;rw[QE]at hx ⊢;rcases hx with hx|hx
      ·exact .inl ((g2 x).1 hx).1
      ·exact .inr hx
     exact⟨g1 l' rfl,w2,λx hx=>h0 x ((g2 x).1 hx).1,h1,λx hx y hy i hi=>hs x (xK x hx) y (xK y hy) i hi⟩
    ·have g2':=g2 x;simp only[JX]at g2';simp only[JX,coins,QE,g2'];constructor
     ·rintro(⟨h,hn⟩|h)
      ·exact⟨.inl h,hn⟩
      ·exact⟨.inr h,hr x h⟩
     ·rintro⟨h|h,hn⟩
      ·exact .inl ⟨h,hn⟩
      ·exact .inr h
  ·rename_i hz;simp only[hz,if_false]at hk;obtain⟨g1,g2,g3⟩:=ihr w2 hk;have hl:∀x∈l.coins,x.1 ≠ k:=by rintro x hx rfl;have:=h0 x hx;omega
   cases hc:r.cut k with
   | none=>
    rw[hc]at g1 g2 g3;refine⟨λt' h=>by simp only[Qh]at h;rw[<-h];exact w1,λx=>?_,by simp only[JX,coins,Qe,Qv]at g3 ⊢;omega⟩;simp only[JX,coins,QE];constructor
    ·intro h;exact⟨.inl h,hl x h⟩
    ·rintro⟨h|h,hn⟩
     ·exact h
     ·exact absurd ((g2 x).2 ⟨h,hn⟩) (by simp[JX])
   | some r'=>
    rw[hc]at g1 g2 g3;refine⟨λt' h=>?_,λx=>?_,by simp only[JX,coins,Qe]at g3 ⊢;omega⟩
    ·simp only[Qh]at h;rw[<-h];have xK:∀x∈l.coins++r'.coins,x∈l.coins++r.coins:=by
      intro x hx;rw[QE]at hx ⊢;rcases hx with hx|hx
      ·exact .inl hx
      ·exact .inr ((g2 x).1 hx).1
     exact⟨w1,g1 r' rfl,h0,λx hx=>h1 x ((g2 x).1 hx).1,λx hx y hy i hi=>hs x (xK x hx) y (xK y hy) i hi⟩
    ·have g2':=g2 x;simp only[JX]at g2';simp only[JX,coins,QE,g2'];constructor
     ·rintro(h|⟨h,hn⟩)
      ·exact⟨.inl h,hl x h⟩
      ·exact⟨.inr h,hn⟩
     ·rintro⟨h|h,hn⟩
      ·exact .inl h
      ·exact .inr ⟨h,hn⟩
def lz8(x:UInt8):Nat:=if 128<=x.toNat then 0 else if 64<=x.toNat then 1 else if 32<=x.toNat then 2 else if 16<=x.toNat then 3 else if 8<=x.toNat then 4 else if 4<=x.toNat then 5 else if 2<=x.toNat then 6 else if 1<=x.toNat then 7 else 8
def fd:Key->Key->Nat
 | x::a,y::b=>if x=y then 8+fd a b else lz8 (x ^^^ y)
 | _,_=>0
theorem JpZ:∀z:Fin 256,z ≠ 0->lz8 (lD z.val)<8/\z.val/2 ^ (7-lz8 (lD z.val)) % 2=1/\∀i:Fin 8,i.val<lz8 (lD z.val)->z.val/2 ^ (7-i.val) % 2=0:=by decide +kernel
theorem JjH(x y i:Nat):(x ^^^ y)/2 ^ i % 2=(x/2 ^ i % 2+y/2 ^ i % 2) % 2:=by
 have h:∀a:Nat,a/2 ^ i % 2=(a.testBit i).toNat:=λa=>by rw[Nat.toNat_testBit]
 rw[h,h,h,Nat.testBit_xor]
 cases x.testBit i<;>cases y.testBit i<;>rfl
theorem JjN:∀(a b:Key),a.length=b.length->a ≠ b->fd a b<8*a.length/\bt a (fd a b) ≠ bt b (fd a b)/\∀i,i<fd a b->bt a i=bt b i:=by
 intro a
 induction a with
 | nil=>intro b h hn;cases b with
  | nil=>exact absurd rfl hn
  | cons=>simp at h
 | cons x a ih=>
  intro b h hn
  cases b with
  | nil=>simp at h
  | cons y b=>
   simp only[Qp,Nat.add_right_cancel_iff]at h;have s1:∀(z:UInt8)(c:Key)(i:Nat),i<8->bt (z::c) i=z.toNat/2 ^ (7-i) % 2:=(by intro z c i hi;unfold bt;rw[Nat.div_eq_of_lt hi,Nat.mod_eq_of_lt hi];rfl);have s2:∀(z:UInt8)(c:Key)(i:Nat),bt (z::c) (8+i)=bt c i:=(by intro z c i;unfold bt;rw[show (8+i)/8=i/8+1 by omega,show (8+i) % 8=i % 8 by omega];rfl);simp only[fd]
   split
   ·rename_i e;subst e;obtain⟨p1,p2,p3⟩:=ih b h (λe=>hn (by rw[e]));refine⟨by simp only[Qp];omega,by rw[s2,s2];exact p2,λi hi=>?_⟩
    by_cases h8:i<8
    ·rw[s1 _ _ _ h8,s1 _ _ _ h8]
    ·obtain⟨j,rfl⟩:∃j,i=8+j:=⟨i-8,by omega⟩
     rw[s2,s2];exact p3 j (by omega)
   ·rename_i e;have hz:(x ^^^ y).toNat ≠ 0:=by
     intro h0;apply e;rw[lI]at h0;apply UInt8.toNat_inj.1;apply Nat.eq_of_testBit_eq;intro i;have:=congrArg (λn=>n.testBit i) h0;simp only[Nat.testBit_xor,Nat.zero_testBit]at this
     revert this
     cases x.toNat.testBit i<;>cases y.toNat.testBit i<;>simp
    have H7:(x ^^^ y).toNat<256:=lE _;obtain⟨q1,q2,q3⟩:=JpZ ⟨(x ^^^ y).toNat,H7⟩ (λe=>hz (by have:=congrArg Fin.val e;exact this));rw[show lD (⟨(x ^^^ y).toNat,H7⟩:Fin 256).val=x ^^^ y from UInt8.ofNat_toNat]at q1 q2 q3;simp only at q2 q3;rw[lI,JjH]at q2;refine⟨by simp only[Qp];omega,?_,λi hi=>?_⟩
    ·rw[s1 _ _ _ q1,s1 _ _ _ q1];omega
    ·have:=q3 ⟨i,by omega⟩ hi;simp only at this;rw[lI,JjH]at this;rw[s1 _ _ _ (by omega),s1 _ _ _ (by omega)];omega


abbrev Er:=Fin 7
abbrev Er.form:Er:=0
abbrev Er.tip:Er:=1
abbrev Er.input:Er:=2
abbrev Er.exist:Er:=3
abbrev Er.sum:Er:=4
abbrev Er.root:Er:=5
abbrev Er.range:Er:=6
theorem Er.on{motive:Er->Prop}(form:motive .form)(tip:motive .tip)(input:motive .input)(exist:motive .exist)(sum:motive .sum)(root:motive .root)(range:motive .range):∀e,motive e
 | 0=>form
 | 1=>tip
 | 2=>input
 | 3=>exist
 | 4=>sum
 | 5=>root
 | 6=>range
def JdD(l1 l2:List (Nat×Nat)):Decidable (Xo l1 l2):=by unfold Xo;infer_instance

def Zo(st:Option Tr)(k:Key)(o:Nat×Nat):Except Er (Option Tr):=
 match st with
 | none=>.ok (Z (.leaf k o))
 | some t=>if (t.near k).1=k then .error .exist else .ok (Z (t.graft k o (fd (t.near k).1 k)))
def JW(st:Option Tr)(k:Key):Except Er (Option Tr×(Nat×Nat)):=
 match st with
 | none=>.error .input
 | some t=>if (t.near k).1=k then .ok (t.cut k,(t.near k).2) else .error .input
def Xd:List (BA×Int)->Option Tr->Except Er (Option Tr×List (Nat×Nat))
 | [],st=>.ok (st,[])
 | c::r,st=>match JW st (Jc c) with
  | .error e=>.error e
  | .ok (kW,o)=>match Xd r kW with
   | .error e=>.error e
   | .ok (jU,os)=>.ok (jU,o::os)
def JA(id:BA):Nat->List (Nat×Nat)->Option Tr->Except Er (Option Tr)
 | _,[],st=>.ok st
 | i,o::r,st=>match Zo st (Jc (id,(i:Int))) o with
  | .error e=>.error e
  | .ok kW=>JA id (i+1) r kW
def JI(dg:List UInt8->BA)(st:Option Tr)(t:TxL):Except Er (Option Tr):=
 match Xd t.1 st with
 | .error e=>.error e
 | .ok (kW,os)=>match JA (dg (84::txB t)) 0 t.2 kW with
  | .error e=>.error e
  | .ok jU=>haveI:=JdD os t.2;if Xo os t.2 then .error .sum else .ok jU
def JH(dg:List UInt8->BA):Option Tr->List TxL->Except Er (Option Tr)
 | st,[]=>.ok st
 | st,t::r=>match JI dg st t with
  | .error e=>.error e
  | .ok kW=>JH dg kW r

abbrev Hd:=(BA×Int)×(Nat×Nat)
def XX(l:List Hd)(c:BA×Int):Option Nat:=l.findIdx? (λh=>decide (h.1=c))
def M64:Nat:=18446744073709551616
def Jnq:List (BA×Int)->List Hd×Nat×Bool->Option (List Hd×Nat×Bool)
 | [],s=>Z s
 | c::r,(now,inn,over)=>match XX now c with
  | none=>Y
  | some k=>Jnq r (now.eraseIdx k,(inn+(now.getD k ((⟨#[]⟩,0),(0,0))).2.1) % M64,over || decide ((inn+(now.getD k ((⟨#[]⟩,0),(0,0))).2.1) % M64<inn))
def ZL(id:BA):Nat->List (Nat×Nat)->List Hd×Nat×Bool->Option (List Hd×Nat×Bool)
 | _,[],s=>Z s
 | i,o::r,(now,out,over)=>match XX now (id,(i:Int)) with
  | some _=>Y
  | none=>ZL id (i+1) r (now++[((id,(i:Int)),o)],(out+o.1) % M64,over || decide ((out+o.1) % M64<out))
def Jqy(dg:List UInt8->BA)(l:List Hd)(t:TxL):Except Er (List Hd):=
 match Jnq t.1 (l,0,false) with
 | none=>.error .input
 | some (now,inn,over)=>match ZL (dg (84::txB t)) 0 t.2 (now,0,over) with
  | none=>.error .exist
  | some (now2,out,over2)=>if over2=true\/inn<out then .error .sum else .ok now2

structure Book(wj:Nat)(st:Option Tr)(l:List Hd):Prop where
 wf:∀t,st=Z t->t.Wf
 ok:∀h∈l,Jj wj h.1/\Jy h.2
 nodup:(l.map (·.1)).Nodup
 mem:∀k o,(k,o)∈JX st↔∃h∈l,Jc h.1=k/\h.2=o
theorem Zy{d:BA×Int}(h1:Jj wj c)(h2:Jj wj d)(h:Jc c=Jc d):c=d:=by
 obtain⟨a1,a2,a3⟩:=h1;obtain⟨b1,b2,b3⟩:=h2;unfold Jc at h;obtain⟨e1,e2⟩:=List.append_inj h (by simp only[QA];exact a1.trans b1.symm);have x1:=Zl c.2 a2 (by omega);have x2:=Zl d.2 b2 (by omega);have y:∀n,n<256->kC (Hf n 1 1)=n:=λn hn=>by rw[YK n 1 (by omega) 1 (Ql _)];simp
 have e3:JD c.2=JD d.2:=by rw[<-y (JD c.2) (by omega),<-y (JD d.2) (by omega),e2]
 have e4:c.2=d.2:=by rw[<-x1,<-x2,e3]
 have e5:c.1=d.1:=by
  have:c.1.data=d.1.data:=by rw[<-Array.toList_inj];exact e1
  cases hc:c.1;cases hd:d.1;rw[hc,hd]at this;simp only at this;rw[this]
 exact Prod.ext e5 e4
theorem Xg(h:Jj wj c):(Jc c).length=wj+1:=by
 unfold Jc;rw[Qe,Jf];have:=h.1;simp only[QA];show c.1.data.size+1=_;rw[<-this];rfl
theorem JbD{l:List Hd}(h:XX l c=Z k):∃hk:k<l.length,l[k].1=c:=by
 unfold XX at h;rw[List.findIdx?_eq_some_iff_getElem]at h;obtain⟨hk,h1,_⟩:=h;exact⟨hk,by simpa using h1⟩
theorem JdO{l:List Hd}(h:XX l c=Y):∀x∈l,x.1 ≠ c:=by
 unfold XX at h;rw[List.findIdx?_eq_none_iff]at h;intro x hx;simpa using h x hx
theorem JkY{l:List Hd}(hn:(l.map (·.1)).Nodup)(hk:k<l.length):∀x,x∈l.eraseIdx k↔x∈l/\x.1 ≠ l[k].1:=by
 intro x;have inj:∀(i j:Nat)(hi:i<l.length)(hj:j<l.length),l[i].1=l[j].1->i=j:=by intro i j hi hj e;have:=(List.getElem_inj (i:=i) (j:=j) (h₀:=by simpa using hi) (h₁:=by simpa using hj) hn).1 (by simpa using e);exact this
 rw[List.mem_eraseIdx_iff_getElem];constructor
 ·rintro⟨i,hi,Hl,rfl⟩;exact⟨Qx hi,λe=>Hl (inj i k hi hk e)⟩
 ·rintro⟨hx,Hl⟩;obtain⟨i,hi,rfl⟩:=List.getElem_of_mem hx;exact⟨i,hi,λe=>Hl (by subst e;rfl),rfl⟩
theorem Book.find{st:Option Tr}{l:List Hd}(B:Book wj st l)(hc:Jj wj c){t:Tr}(ht:st=Z t):(t.near (Jc c)).1=Jc c↔∃k,XX l c=Z k:=by
 subst ht;constructor
 ·intro h;have hm:=t.near_mem (Jc c);have:((t.near (Jc c)).1,(t.near (Jc c)).2)∈JX (Z t):=hm;rw[h]at this;obtain⟨x,hx,h1,h2⟩:=(B.mem _ _).1 this
  cases hf:XX l c with
  | some k=>exact⟨k,rfl⟩
  | none=>exact absurd (Zy (B.ok x hx).1 hc h1) (JdO hf x hx)
 ·rintro⟨k,hk⟩;obtain⟨hl,e⟩:=JbD hk;have:(Jc c,l[k].2)∈JX (Z t):=(B.mem _ _).2 ⟨l[k],Qx hl,by rw[e],rfl⟩;rw[Tr.near_of_mem _ _ t (B.wf t rfl) this]
theorem Book.none{l:List Hd}(B:Book wj lK l):l=[]:=by
 cases l with
 | nil=>rfl
 | cons x r=>exact absurd ((B.mem (Jc x.1) x.2).2 ⟨x,QN,rfl,rfl⟩) (by simp[JX])
theorem Book.without{st:Option Tr}{l:List Hd}(B:Book wj st l)(hc:Jj wj c):
  match XX l c with
  | .none=>JW st (Jc c)=.error .input
  | .some k=>∃st',JW st (Jc c)=.ok (st',(l.getD k ((⟨#[]⟩,0),(0,0))).2)/\Book wj st' (l.eraseIdx k):=by
 cases st with
 | none=>
  obtain rfl:=B.none;rfl
 | some t=>
  have hf:=B.find hc rfl
  cases h:XX l c with
  | none=>
   simp only[JW];rw[if_neg];rw[hf];rintro⟨k,hk⟩;rw[h]at hk;cases hk
  | some k=>
   obtain⟨hl,e⟩:=JbD h;have hn:(t.near (Jc c)).1=Jc c:=hf.2 ⟨k,h⟩;have hm:(Jc c,l[k].2)∈JX (Z t):=(B.mem _ _).2 ⟨l[k],Qx hl,by rw[e],rfl⟩;have fK:=Tr.near_of_mem _ _ t (B.wf t rfl) hm;obtain⟨g1,g2,g3⟩:=Tr.cut_ok (Jc c) t (B.wf t rfl) hn;have hi:=JkY B.nodup hl;refine⟨t.cut (Jc c),?_,⟨g1,λx hx=>B.ok x ((hi x).1 hx).1,?_,λk' o=>?_⟩⟩
   ·simp only[JW];rw[if_pos hn,fK];simp[lC,List.getElem?_eq_getElem hl]
   ·exact B.nodup.sublist ((List.eraseIdx_sublist l k).map _)
   ·rw[g2];show (k',o)∈JX (Z t)/\_↔_;rw[B.mem];constructor
    ·rintro⟨⟨x,hx,h1,h2⟩,h3⟩;exact⟨x,(hi x).2 ⟨hx,λe'=>h3 (by simp only;rw[<-h1,e',e])⟩,h1,h2⟩
    ·rintro⟨x,hx,h1,h2⟩;obtain⟨hx1,hx2⟩:=(hi x).1 hx;exact⟨⟨x,hx1,h1,h2⟩,λe'=>hx2 (by rw[e];simp only at e';exact Zy (B.ok x hx1).1 hc (h1.trans e'))⟩
theorem Book.with{st:Option Tr}{l:List Hd}(B:Book wj st l)(hc:Jj wj c)(ho:Jy o):
  match XX l c with
  | .some _=>Zo st (Jc c) o=.error .exist
  | .none=>∃st',Zo st (Jc c) o=.ok st'/\Book wj st' (l++[(c,o)]):=by
 have Hg:XX l c=lK->∀x∈l++[(c,o)],Jj wj x.1/\Jy x.2:=by
  intro _ x hx;rw[QE,Qt]at hx
  rcases hx with hx|rfl
  ·exact B.ok x hx
  ·exact⟨hc,ho⟩
 have j9:XX l c=lK->((l++[(c,o)]).map (·.1)).Nodup:=by intro hf;rw[List.map_append,List.nodup_append];refine⟨B.nodup,by simp,?_⟩;intro a ha b hb e;simp only[List.map_cons,List.map_nil,Qt]at hb;subst hb;subst e;obtain⟨x,hx,hxe⟩:=QL.1 ha;exact JdO hf x hx hxe
 cases st with
 | none=>
  obtain rfl:=B.none;refine⟨_,rfl,⟨λt ht=>by simp only[Qh]at ht;rw[<-ht];exact trivial,Hg rfl,j9 rfl,λk o'=>?_⟩⟩;simp only[JX,Tr.coins,Qt,lJ,Qw];constructor
  ·rintro⟨rfl,rfl⟩;exact⟨_,rfl,rfl,rfl⟩
  ·rintro⟨x,rfl,h1,h2⟩;exact⟨h1.symm,h2.symm⟩
 | some t=>
  have hf:=B.find hc rfl
  cases h:XX l c with
  | some k=>
   simp only[Zo];rw[if_pos (hf.2 ⟨k,h⟩)]
  | none=>
   have hn:(t.near (Jc c)).1 ≠ Jc c:=(by rw[ne_eq,hf];rintro⟨k,hk⟩;rw[h]at hk;cases hk);have hm:=t.near_mem (Jc c);obtain⟨x,hx,h1,h2⟩:=(B.mem (t.near (Jc c)).1 (t.near (Jc c)).2).1 hm;have Hq:(t.near (Jc c)).1.length=(Jc c).length:=(by rw[<-h1,Xg (B.ok x hx).1,Xg hc]);obtain⟨q1,q2,q3⟩:=JjN (t.near (Jc c)).1 (Jc c) Hq hn;obtain⟨g1,g2,g3⟩:=Tr.graft_ok (Jc c) o (fd (t.near (Jc c)).1 (Jc c)) t (B.wf t rfl) (λe=>q2 e.symm) (λi hi=>(q3 i hi).symm);refine⟨Z (t.graft (Jc c) o (fd (t.near (Jc c)).1 (Jc c))),?_,⟨λt' ht=>by simp only[Qh]at ht;rw[<-ht];exact g1,Hg h,j9 h,λk o'=>?_⟩⟩
   ·simp only[Zo];rw[if_neg hn]
   ·simp only[JX,g2];have:=B.mem k o';simp only[JX]at this;rw[this];constructor
    ·rintro(e|⟨y,hy,e1,e2⟩)
     ·cases e;exact⟨(c,o),by simp,rfl,rfl⟩
     ·exact⟨y,by simp[hy],e1,e2⟩
    ·rintro⟨y,hy,e1,e2⟩;rw[QE,Qt]at hy
     rcases hy with hy|rfl
     ·exact .inr ⟨y,hy,e1,e2⟩
     ·left;rw[<-e1,<-e2]
theorem JeI(o:Nat×Nat)(os:List (Nat×Nat)):Jt (o::os) (o::os).length=o.1+Jt os os.length:=by simp[Jt]
theorem Jce(wj:Nat)(id:BA)(qn:id.size=wj):∀(os:List (Nat×Nat)),(∀o∈os,Jy o)->∀(i:Nat),i+os.length<=3->∀(st:Option Tr)(l:List Hd)(out:Nat)(over:Bool),Book wj st l->
  match ZL id i os (l,out % M64,over) with
  | none=>JA id i os st=.error .exist
  | some (l',out',over')=>∃st',JA id i os st=.ok st'/\Book wj st' l'/\out'=(out+Jt os os.length) % M64/\(over'=true↔over=true\/M64<=out % M64+Jt os os.length):=by
 intro os
 induction os with
 | nil=>intro _ i _ st l out over B;exact⟨st,rfl,B,by simp[Jt],by simp[Jt];intro h;exact absurd h (by have:out % M64<M64:=Nat.mod_lt _ (by decide);omega)⟩
 | cons o r ih=>
  intro ho i hi st l out over B;rw[Qp]at hi;have yf:Jj wj (id,(i:Int)):=⟨qn,by simp only;omega,by simp only;omega⟩
  have hw:=B.with yf (ho o QN);simp only[ZL,JA]
  cases hf:XX l (id,(i:Int)) with
  | some k=>rw[hf]at hw;simp only at hw;simp only[hw]
  | none=>
   rw[hf]at hw;obtain⟨kW,e1,B1⟩:=hw;have ha:o.1<M64:=(ho o QN).1;simp only[e1];have:=ih (λc hc'=>ho c (QQ _ hc')) (i+1) (by omega) kW (l++[((id,(i:Int)),o)]) (out % M64+o.1) (over || decide ((out % M64+o.1) % M64<out % M64)) B1
   cases hs:ZL id (i+1) r (l++[((id,(i:Int)),o)],(out % M64+o.1) % M64,over || decide ((out % M64+o.1) % M64<out % M64)) with
   | none=>rw[hs]at this;simp only at this;simp only[this]
   | some q=>
    obtain⟨l',out',over'⟩:=q;rw[hs]at this;obtain⟨st',e2,B2,e3,e4⟩:=this;refine⟨st',e2,B2,?_,?_⟩
    ·rw[e3,JeI,Nat.add_assoc,Nat.mod_add_mod]
    ·rw[e4,JeI,Bool.or_eq_true,decide_eq_true_iff];generalize Jt r r.length=S;have hm:out % M64<M64:=Nat.mod_lt _ (by decide);generalize out % M64=aT at *;generalize (over=true)=P;unfold M64 at *;constructor
     ·rintro((h|h)|h)
      ·exact .inl h
      ·right;omega
      ·right;omega
     ·rintro(h|h)
      ·exact .inl (.inl h)
      ·by_cases h2:18446744073709551616<=aT+o.1
       ·left;right;omega
       ·right;omega


def Tr.dig(d:List UInt8->BA):Tr->BA
 | ⟨Sum.inl (k,o)⟩=>d (76::(k++outB o))
 | ⟨Sum.inr (b,l,r)⟩=>d (78::(Hf b 2 2++((l.dig d).data.toList++(r.dig d).data.toList)))
def Xh(d:List UInt8->BA):Option Tr->BA
 | none=>d [69]
 | some t=>t.dig d
abbrev Ch:=List (BA×Option Tr)
def Ch.last(ch:Ch):BA×Option Tr:=ch.getLastD (⟨#[]⟩,Y)
def Jbt(d:List UInt8->BA)(ch:Ch)(body:List UInt8)(st:BA):HdL:=(ch.length,d (72::ch.last.1.data.toList),d (66::body),st)
def Jnl(d:List UInt8->BA)(wj:Nat)(ch:Ch)(ts:List TxL):Except Er (List UInt8):=
 match (PS.wr []).body wj ts with
 | some (_,⟨Sum.inr body⟩)=>match JH d ch.last.2 ts with
  | .error e=>.error e
  | .ok st=>match (PS.wr []).hdr wj (Jbt d ch body (Xh d st)) with
   | some (_,⟨Sum.inr h⟩)=>.ok (h++body)
   | _=>.error .form
 | _=>.error .form
def Jcm(d:List UInt8->BA)(wj:Nat)(ch:Ch)(text:List UInt8):Except Er Ch:=
 match (PS.rd [] text).hdr wj (0,⟨#[]⟩,⟨#[]⟩,⟨#[]⟩) with
 | some (h,⟨Sum.inl (H4,body)⟩)=>match (PS.rd H4 body).body wj [] with
  | some (ts,⟨Sum.inl (_,[])⟩)=>if h ≠ Jbt d ch body h.2.2.2 then .error .tip else match JH d ch.last.2 ts with
   | .error e=>.error e
   | .ok st=>if h.2.2.2 ≠ Xh d st then .error .root else .ok (ch++[(⟨(text.take (text.length-body.length)).toArray⟩,st)])
  | _=>.error .form
 | _=>.error .form
theorem Xx(d:List UInt8->BA)(wj:Nat)(hd:∀l,(d l).size=wj)(st:Option Tr):(Xh d st).size=wj:=by
 cases st with
 | none=>exact hd _
 | some t=>cases t using Tr.ri<;>exact hd _
def Jau(d:List UInt8->BA)(ch:Ch)(ts:List TxL)(st:Option Tr):List UInt8:=Ht (Jbt d ch (JL ts) (Xh d st))++JL ts
theorem JmO(d:List UInt8->BA)(wj:Nat)(hd:∀l,(d l).size=wj)(ch:Ch)(hc:ch.length<2 ^ 32)(body:List UInt8)(st:Option Tr):HdOk wj (Jbt d ch body (Xh d st)):=
 ⟨hc,hd _,hd _,Xx d wj hd st⟩
theorem Jj9(d:List UInt8->BA)(wj:Nat)(hd:∀l,(d l).size=wj)(ch:Ch)(hc:ch.length<2 ^ 32)(ts:List TxL)(h:∀t∈ts,TxOk wj t)(h3:ts.length<=3):
  Jnl d wj ch ts=match JH d ch.last.2 ts with | .error e=>.error e | .ok st=>.ok (Jau d ch ts st):=by
 unfold Jnl;rw[(Jj5 wj ts h h3).wr];dsimp only;rw[lJ]
 cases JH d ch.last.2 ts with
 | error e=>rfl
 | ok st=>
  dsimp only;rw[(Ji9 wj _ (0,⟨#[]⟩,⟨#[]⟩,⟨#[]⟩) (JmO d wj hd ch hc (JL ts) st)).wr];rfl

theorem Jgu{k:IntKind}{a b:Int}(h:a=b):Ending.returned (O k a)=aC (O k b):=by rw[h]
theorem bget(t:BA)(m:Nat)(h:m<t.size):t[m]=t.data.getD m 0:=by
 have h':m<t.data.size:=h;simp only[Array.getD];rw[dif_pos h'];rfl
theorem Jn3(n:Nat)(h:n<256):bits .and I (n:Int) 1=((n % 2:Nat):Int):=by
 have:∀m:Fin 256,bits .and I ((m.val:Nat):Int) 1=((m.val % 2:Nat):Int):=by decide +kernel
 exact this ⟨n,h⟩
theorem XL(k:List UInt8)(i:Nat)(hi:i<8*k.length)(hl:k.length<=1000000)(w:aA):
  aB N 288 #[L ⟨k.toArray⟩,O I (i:Int)] w λe w'=>e=aC (O I (bt k i:Int))/\w'=w:=by
 have Hp:=Ji k;have pT:i/8<(⟨k.toArray⟩:BA).size:=by omega
 have HB:J ((⟨k.toArray⟩:BA)[i/8].toNat=(k.getD (i/8) 0).toNat):=by
  show UInt8.toNat _=_
  congr 1
  simp[lC,show i/8<k.length by omega];rfl
 have H7:=lE (⟨k.toArray⟩:BA)[i/8];have yS:J (bt k i=(k.getD (i/8) 0).toNat/2 ^ (7-i % 8) % 2):=rfl;generalize (⟨k.toArray⟩:BA)=tb at *;have hq:((i:Int)/8).toNat=i/8:=by omega
 go_enter func288,ntmps288;go_wp2;go_ret;refine⟨Jgu ?_,rfl⟩;have e1:((tb[i/8].toNat:Int)/2 ^ (7-i % 8))=((tb[i/8].toNat/2 ^ (7-i % 8):Nat):Int):=by simp
 have vk:tb[i/8].toNat/2 ^ (7-i % 8)<=tb[i/8].toNat:=Nat.div_le_self _ _;rw[e1];have e2:wrap64 ((tb[i/8].toNat/2 ^ (7-i % 8):Nat):Int)=((tb[i/8].toNat/2 ^ (7-i % 8):Nat):Int):=by
  have h0:(0:Int)<=((tb[i/8].toNat/2 ^ (7-i % 8):Nat):Int):=Int.natCast_nonneg _;have h1:((tb[i/8].toNat/2 ^ (7-i % 8):Nat):Int)<256:=by omega
  generalize ((tb[i/8].toNat/2 ^ (7-i % 8):Nat):Int)=z at *;unfold wrap64;omega
 rw[e2,Jn3 _ (by omega),yS.o,HB.o]
theorem Jp0(x:UInt8)(w:aA):
  aB N 334 #[O aE (x.toNat:Int)] w λe w'=>e=aC (O I (lz8 x:Int))/\w'=w:=by
 have h:=lE x;obtain⟨n,hn⟩:∃n,n=x.toNat:=⟨_,rfl⟩
 have hx:x=lD n:=by rw[hn];simp
 have HX:J (x=lD n):=hx;rw[<-hn]at h ⊢;clear hn hx;go_enter func334,ntmps334;go_wp2;go_ret;refine⟨Jgu ?_,rfl⟩;rw[HX.o,bget];have h':n<256:=h;clear HX h;rename_i hz;clear hz
 revert n
 decide +kernel

theorem JpY(x:UInt8):lz8 x<=8:=by
 unfold lz8
 repeat (first|omega|split)
theorem Joi:∀(k:Nat)(a b:List UInt8),a.take k=b.take k->k<=a.length->a.length=b.length->fd a b=8*k+fd (a.drop k) (b.drop k):=by
 intro k
 induction k with
 | zero=>intro a b _ _ _;simp
 | succ k ih=>
  intro a b h hl vH
  cases a with
  | nil=>simp at hl
  | cons x a=>cases b with
   | nil=>simp at vH
   | cons y b=>
    simp only[List.take_succ_cons,QH]at h;obtain⟨rfl,h⟩:=h;simp only[fd,if_true,List.drop_succ_cons];rw[ih a b h (by simpa using hl) (by simpa using vH)];omega
theorem JqE(k:Nat)(a b:List UInt8)(ha:k<a.length)(hb:k<b.length)(h:a[k] ≠ b[k]):fd (a.drop k) (b.drop k)=lz8 (a[k] ^^^ b[k]):=by
 rw[List.drop_eq_getElem_cons ha,List.drop_eq_getElem_cons hb];simp only[fd,h,if_false]
theorem JkD(a b:List UInt8)(hl:a.length=b.length)(Hl:a ≠ b)(h1:a.length<=1000000)(w:aA):
  aB Tryz.prog 271 #[L ⟨a.toArray⟩,L ⟨b.toArray⟩] w λe w'=>e=aC (O I (fd a b:Int))/\∃n,w'=w.drewN n:=by
 have hsa:=Ji a;have bO:=Ji b;have HA:J (∀k (h:k<(⟨a.toArray⟩:BA).size) (h':k<a.length),(⟨a.toArray⟩:BA)[k]'h=a[k]'h'):=λk h h'=>by show (⟨a.toArray⟩:BA).data[k]=_;simp
 have HB:J (∀k (h:k<(⟨b.toArray⟩:BA).size) (h':k<b.length),(⟨b.toArray⟩:BA)[k]'h=b[k]'h'):=λk h h'=>by show (⟨b.toArray⟩:BA).data[k]=_;simp
 have HL:J _:=hl;generalize (⟨a.toArray⟩:BA)=A at *;generalize (⟨b.toArray⟩:BA)=B at *;have HSA:J _:=hsa;have fM:J _:=bO;go_enter Tryz.func271,Tryz.ntmps271;go_wp2;go_loopw [5] (λi wr=>∃k:Nat,i=O I (k:Int)/\k<a.length/\J (a.take k=b.take k)/\∃n,wr=w.drewN n) (λi _=>a.length-(intOf i).toNat)
 case atStart=>
  refine⟨0,rfl,?_,(by show _=_;simp),0,rfl⟩
  cases a with
  | nil=>have:=HL.o;simp at this;exact absurd (List.length_eq_zero_iff.1 this.symm).symm Hl
  | cons x a=>simp
 case round=>
  obtain⟨k,rfl,hk,vI,n,rfl⟩:=hrel;have hka:k<A.size:=by rw[HSA.o];exact hk
  have nY:k<B.size:=by rw[fM.o,<-HL.o];exact hk
  have pd:k<b.length:=by rw[<-HL.o];exact hk
  have eA:=HA k hka hk;have eB:=HB k nY pd
  by_cases qD:A[k]=B[k]
  ·have hb:((A[k].toNat:Int) == (B[k].toNat:Int))=true:=(by rw[qD];simp);have HEQ:J (a[k]=b[k]'pd):=(by show _=_;rw[<-eA,<-eB,qD]);clear qD eA eB;go_wp2;go_region;go_wp2;have mv:a.take (k+1)=b.take (k+1):=(by rw[QR hk,QR pd,vI.out,HEQ.o]);refine⟨⟨k+1,by go_num,?_,mv,n+1,rfl⟩,by simp[intOf];omega⟩
   by_cases hl:k+1<a.length
   ·exact hl
   ·exfalso;rw[QS (by omega),QS (by have:=HL.o;omega)]at mv;exact Hl mv
  ·have hb:((A[k].toNat:Int) == (B[k].toNat:Int))=false:=by
    rw[beq_eq_false_iff_ne];intro e;exact qD (UInt8.toNat_inj.1 (by omega))
   have HR:J (fd a b=8*k+lz8 (A[k] ^^^ B[k])):=(by show _=_;rw[Joi k a b vI.out (by omega) HL.o,JqE k a b hk pd (by rw[<-eA,<-eB];exact qD),eA,eB]);have hx:bits .xor aE (A[k].toNat:Int) (B[k].toNat:Int)=((A[k] ^^^ B[k]).toNat:Int):=(by rw[u8_xor_nat _ _ (lE _) (lE _),lI]);have hlz:=Jp0 (A[k] ^^^ B[k]);rw[<-hx]at hlz;have hl8:=JpY (A[k] ^^^ B[k]);have uN:I.wrap (8*(k:Int))=8*(k:Int):=(by simp[IntKind.wrap,IntKind.bits,IntKind.signed];omega);have fQ:I.wrap (8*(k:Int)+(lz8 (A[k] ^^^ B[k]):Int))=8*(k:Int)+(lz8 (A[k] ^^^ B[k]):Int):=(by simp[IntKind.wrap,IntKind.bits,IntKind.signed];omega);clear hx;clear qD eA eB;go_wp2;go_region;go_wp2;go_region_with (go_at_call 334;refine(hlz _).mono ?_;rintro _ _⟨rfl,rfl⟩)
   all_goals go_wp2
   all_goals go_ret
   all_goals exact⟨Jgu (by rw[HR.o];go_num),n+2,rfl⟩

def Jah(dg:BA)(k:Key)(o:Nat×Nat):Array aG:= #[L dg,L ⟨k.toArray⟩,O aD (o.1:Int),O aE (o.2:Int),O I 0,X Y,X Y]
def brC(dg:BA)(b nl nr:Nat):Array aG:= #[L dg,L ⟨#[]⟩,O aD 0,O aE 0,O I (b:Int),X (Z ⟨nl,0,Y⟩),X (Z ⟨nr,0,Y⟩)]
def JlF(d:List UInt8->BA)(F:Nat->Prop)(w:aA):Nat->Tr->Prop
 | n,⟨Sum.inl (k,o)⟩=>F n/\w.heap[n]? =Z (T (Jah (Tr.dig d (.leaf k o)) k o) 243)
 | n,⟨Sum.inr (b,l,r)⟩=>∃nl nr,F n/\w.heap[n]? =Z (T (brC (Tr.dig d (.br b l r)) b nl nr) 243)/\JlF d F w nl l/\JlF d F w nr r
structure Jh(d:List UInt8->BA)(F:Nat->Prop)(w:aA)(n:Nat)(t:Tr):Prop where
 of ::
 a:JlF d F w n t
theorem Jh.leaf(n:Nat)(k:Key)(o:Nat×Nat)(h1:F n)(h2:w.heap[n]? =Z (T (Jah (Tr.dig d (.leaf k o)) k o) 243)):Jh d F w n (.leaf k o):=⟨h1,h2⟩
theorem Jh.br(n b nl nr:Nat)(l r:Tr)(h1:F n)(h2:w.heap[n]? =Z (T (brC (Tr.dig d (.br b l r)) b nl nr) 243))(h3:Jh d F w nl l)(h4:Jh d F w nr r):Jh d F w n (.br b l r):=⟨nl,nr,h1,h2,h3.a,h4.a⟩
theorem Jh.bri{l r:Tr}(h:Jh d F w n (.br b l r)):∃nl nr,F n/\w.heap[n]? =Z (T (brC (Tr.dig d (.br b l r)) b nl nr) 243)/\Jh d F w nl l/\Jh d F w nr r:=by
 obtain⟨nl,nr,h1,h2,h3,h4⟩:=h.a;exact⟨nl,nr,h1,h2,⟨h3⟩,⟨h4⟩⟩
theorem Jh.ri{motive:∀n t,Jh d F w n t->Prop}(leaf:∀n k o hF hr,motive n (.leaf k o) (.leaf n k o hF hr))(br:∀n b nl nr l r hF hr hl kS,motive nl l hl->motive nr r kS->motive n (.br b l r) (.br n b nl nr l r hF hr hl kS)):∀{n t} (h:Jh d F w n t),motive n t h
 | n,⟨Sum.inl (k,o)⟩,⟨h⟩=>leaf n k o h.1 h.2
 | n,⟨Sum.inr (b,l,r)⟩,⟨nl,nr,h1,h2,h3,h4⟩=>br n b nl nr l r h1 h2 ⟨h3⟩ ⟨h4⟩ (Jh.ri leaf br ⟨h3⟩) (Jh.ri leaf br ⟨h4⟩)
theorem Jh.tch{t:Tr}(h:Jh d F w n t)(k:M S w w')(hs:∀j,S j->¬F j):Jh d F w' n t:=by
 induction h using Jh.ri with
 | leaf n key o hF hr=>exact .leaf n key o hF ((k.block n (Jb hr) (λe=>hs n e hF)).trans hr)
 | br n b nl nr l r hF hr _ _ ihl ihr=>exact .br n b nl nr l r hF ((k.block n (Jb hr) (λe=>hs n e hF)).trans hr) ihl ihr
theorem Jh.next{t:Tr}(h:Jh d F w n t)(k:M D w w'):Jh d F w' n t:=h.tch k noE
theorem Jh.mono{t:Tr}(h:Jh d F w n t)(hF:∀j,F j->F' j):Jh d F' w n t:=by
 induction h using Jh.ri with
 | leaf n key o h1 hr=>exact .leaf n key o (hF n h1) hr
 | br n b nl nr l r h1 hr _ _ ihl ihr=>exact .br n b nl nr l r (hF n h1) hr ihl ihr
theorem Jh.own{t:Tr}(h:Jh d F w n t):F n/\n<w.heap.size:=by
 cases h using Jh.ri with
 | leaf _ _ _ h1 hr=>exact⟨h1,(Jb hr)⟩
 | br _ _ _ _ _ _ h1 hr=>exact⟨h1,(Jb hr)⟩
theorem Jh.digCell{t:Tr}(h:Jh d F w n t):w.cell? ⟨n,0,Y⟩=Z (L (t.dig d)):=by
 cases h using Jh.ri with
 | leaf _ _ _ h1 hr=>exact Ja hr
 | br _ _ _ _ _ _ h1 hr=>exact Ja hr
def TrOk(wj:Nat):Tr->Prop
 | ⟨Sum.inl (k,o)⟩=>k.length=wj+1/\(k.getD wj 0).toNat<3/\Jy o
 | ⟨Sum.inr (b,l,r)⟩=>b<8*(wj+1)/\TrOk wj l/\TrOk wj r
theorem Jh1(wj:Nat)(l k:BA)(o:Nat×Nat)(b:Int)(x y:BA)(st s1:Option PS)(h:Jm l.data.toList 1 st=([76],s1)):(Yk wj (l,k,o,b,x,y) st).2=(Jv wj k o s1).2:=by
 unfold Yk;simp[h]
theorem Jln(wj:Nat)(l k:BA)(o:Nat×Nat)(b:Int)(x y:BA)(st s1:Option PS)(h:Jm l.data.toList 1 st=([78],s1)):(Yk wj (l,k,o,b,x,y) st).2=(stBr wj b x y s1).2:=by
 unfold Yk;simp[h]
theorem Jfs(wj:Nat)(k:Key)(o:Nat×Nat)(h:TrOk wj (.leaf k o)):JaN (Yk wj (⟨#[76]⟩,⟨k.toArray⟩,o,0,⟨#[]⟩,⟨#[]⟩) (Z (.wr []))).2=Z (76::(k++outB o)):=by
 obtain⟨h1,h2,h3⟩:=h;have e1:Jm [76] 1 (Z (.wr []))=([76],Z (.wr [76])):=JN rfl;have e2:(PS.wr [76]).txt k (wj+1)=Z (k,.wr ([76]++k)):=by simp only[PS.txt];rw[if_pos h1]
 have e3:YY wj k (Z (.wr [76]))=(k,Z (.wr ([76]++k))):=by unfold YY;rw[JN e2];dsimp only;rw[if_neg (by omega)]
 have e4:(PS.wr ([76]++k)).out o.1 o.2=Z (o,.wr ([76]++k++outB o)):=(Jgv o 0 0 h3).wr _;obtain⟨p1,q1,q2,_⟩:=Jb9 _ _ _ _ _ e4;have e5:stO o (Z (.wr ([76]++k)))=(o,Z (.wr ([76]++k++outB o))):=by unfold stO;rw[JS q1];dsimp only;rw[JS q2]
 have e6:Jv wj ⟨k.toArray⟩ o (Z (.wr [76]))=((k,o),Z (.wr ([76]++k++outB o))):=by unfold Jv;show (((YY wj k _).1,_),_)=_;rw[e3];dsimp only;rw[e5]
 rw[Jh1 wj ⟨#[76]⟩ _ _ _ _ _ _ _ e1,e6];simp[JaN]
theorem JjI(wj:Nat)(b:Nat)(x y:BA)(hw:wj<=1000)(hb:b<8*(wj+1))(hx:x.size=wj)(hy:y.size=wj):JaN (Yk wj (⟨#[78]⟩,⟨#[]⟩,(0,0),(b:Int),x,y) (Z (.wr []))).2=Z (78::(Hf b 2 2++(x.data.toList++y.data.toList))):=by
 have e1:Jm [78] 1 (Z (.wr []))=([78],Z (.wr [78])):=JN rfl;have ex:JD (b:Int)=b:=by unfold JD;omega
 have e2:(PS.wr [78]).num b 2=Z (b,.wr ([78]++Hf b 2 2)):=(Yj b 2 0 (by omega)).wr _;have e3:YR wj (b:Int) (Z (.wr [78]))=(b,Z (.wr ([78]++Hf b 2 2))):=by unfold YR;rw[ex,JS e2];dsimp only;rw[if_neg (by omega)]
 have e4:(PS.wr ([78]++Hf b 2 2)).txt x.data.toList wj=Z (x.data.toList,.wr ([78]++Hf b 2 2++x.data.toList)):=(ZX x.data.toList [] wj (by rw[<-hx];simp)).wr _;have e5:(PS.wr ([78]++Hf b 2 2++x.data.toList)).txt y.data.toList wj=Z (y.data.toList,.wr ([78]++Hf b 2 2++x.data.toList++y.data.toList)):=(ZX y.data.toList [] wj (by rw[<-hy];simp)).wr _;have e6:(stBr wj (b:Int) x y (Z (.wr [78]))).2=Z (.wr ([78]++Hf b 2 2++x.data.toList++y.data.toList)):=by unfold stBr;rw[e3];dsimp only;rw[JN e4];dsimp only;rw[JN e5]
 rw[Jln wj ⟨#[78]⟩ _ _ _ _ _ _ _ e1,e6];simp[JaN]
theorem resN(h:M D (w.alloc (T #[L ⟨#[]⟩,L ⟨#[]⟩,O aD 0,O aE 0,O I 0,L ⟨#[]⟩,L ⟨#[]⟩] 281)).drew w1):
  w1.heap[w.heap.size]? =Z (T #[L ⟨#[]⟩,L ⟨#[]⟩,O aD 0,O aE 0,O I 0,L ⟨#[]⟩,L ⟨#[]⟩] 281)/\w1.cell? ⟨w.heap.size,0,Y⟩=Z (L ⟨#[]⟩)/\w1.cell? ⟨w.heap.size,1,Y⟩=Z (L ⟨#[]⟩)/\w1.cell? ⟨w.heap.size,2,Y⟩=Z (O aD 0)/\w1.cell? ⟨w.heap.size,3,Y⟩=Z (O aE 0)/\w1.cell? ⟨w.heap.size,4,Y⟩=Z (O I 0)/\w1.cell? ⟨w.heap.size,5,Y⟩=Z (L ⟨#[]⟩)/\w1.cell? ⟨w.heap.size,6,Y⟩=Z (L ⟨#[]⟩)/\(∀j,w1.frozen? ⟨w.heap.size,j,Y⟩=false)/\M D w w1:=by
 have r:=(h.block _ (by show _<(w.alloc _).heap.size;simp) (λh=>h)).trans (Qf _ _);exact⟨r,Ja r,Ja r,Ja r,Ja r,Ja r,Ja r,Ja r,λj=>Qg _ _ _ _ _ r,((Ta D w _).trans (Td _ _ 1) (λ_ h=>.inl h)).trans h noE⟩
theorem JiX(n:Nat)(dg:BA)(k:Key)(o:Nat×Nat)(w:aA)(h:w.heap[n]? =Z (T (Jah dg k o) 243)):
  aB N 353 #[X (Z ⟨n,0,Y⟩)] w λe w'=>e=aC (aH (JaL (⟨#[76]⟩,⟨k.toArray⟩,o,0,⟨#[]⟩,⟨#[]⟩)))/\M D w w':=by
 obtain⟨oa,oo⟩:=o;obtain⟨-,c1,c2,c3, -,c5⟩:=rows h;have H7:=(Jb h)
 generalize (⟨k.toArray⟩:BA)=kb at *;have HV:J (JaL (⟨#[76]⟩,kb,(oa,oo),0,⟨#[]⟩,⟨#[]⟩)= #[L ⟨#[76]⟩,L kb,O aD (oa:Int),O aE (oo:Int),O I 0,L ⟨#[]⟩,L ⟨#[]⟩]):=rfl;rw[HV.o];go_enter func353,ntmps353;go_wp2;go_region_with (go_at_call 307;refine(Jaz _ _ _ _).mono ?_;rintro _ w1⟨rfl,H9⟩;obtain⟨(RR:J _),e0,e1,e2,e3,e4,e5,e6,fR,(H5:J _)⟩:=resN H9;clear H9)
 all_goals go_wp2;rw[set7 _ _ _ _ _ _ _ _ _ _ _ _ _ _ _ _ _ RR.out];exact QK (v:=aH #[L ⟨#[76]⟩,L kb,O aD (oa:Int),O aE (oo:Int),O I 0,L ⟨#[]⟩,L ⟨#[]⟩]) (Qq results353 _ _ w.heap.size _ _ (0,0) _ rfl (Qi _ _ _ _ _ _ RR) underlying281 rfl (by kernel_rfl)) rfl ⟨rfl,H5.trans (Ts _ w.heap.size _) (λj hj=>.inr (by omega))⟩
theorem Jhm{g:Nat}{t:TypeId}{a b c d e f h:aG}(hr:w.heap[g]? =Z (T #[a,b,c,d,e,f,h] t (0,0)))(v0 v1 v2 v3 v4 v5 v6:aG){o:Nat}(hn:n<w.heap.size)(Hl:n ≠ g){v:aG}(hc:w.cell? ⟨n,o,Y⟩=Z v):
  (((((((w.setCell ⟨g,0,Y⟩ v0).setCell ⟨g,1,Y⟩ v1).setCell ⟨g,2,Y⟩ v2).setCell ⟨g,3,Y⟩ v3).setCell ⟨g,4,Y⟩ v4).setCell ⟨g,5,Y⟩ v5).setCell ⟨g,6,Y⟩ v6).cell? ⟨n,o,Y⟩=Z v:=by
 rw[set7 w g t a b c d e f h v0 v1 v2 v3 v4 v5 v6 hr];exact((Ts w g _).cell (p:=⟨n,o,Y⟩) hn Hl).trans hc
theorem JmY(n:Nat)(dg:BA)(b nl nr:Nat)(x y:BA)(w:aA)(h:w.heap[n]? =Z (T (brC dg b nl nr) 243))(hx:w.cell? ⟨nl,0,Y⟩=Z (L x))(hy:w.cell? ⟨nr,0,Y⟩=Z (L y))(jb:nl<w.heap.size)(rk:nr<w.heap.size):
  aB N 353 #[X (Z ⟨n,0,Y⟩)] w λe w'=>e=aC (aH (JaL (⟨#[78]⟩,⟨#[]⟩,(0,0),(b:Int),x,y)))/\M D w w':=by
 obtain⟨-, -, -, -,c4,c5,c6⟩:=rows h;have H7:=(Jb h)
 have HV:J (JaL (⟨#[78]⟩,⟨#[]⟩,(0,0),(b:Int),x,y)= #[L ⟨#[78]⟩,L ⟨#[]⟩,O aD 0,O aE 0,O I (b:Int),L x,L y]):=rfl;rw[HV.o];go_enter func353,ntmps353;go_wp2;go_region_held3 (λW=>W.cell? ⟨n,4,Y⟩=Z (O I (b:Int))/\W.cell? ⟨n,5,Y⟩=Z (X (Z ⟨nl,0,Y⟩))/\W.cell? ⟨n,6,Y⟩=Z (X (Z ⟨nr,0,Y⟩))/\W.cell? ⟨nl,0,Y⟩=Z (L x)/\W.cell? ⟨nr,0,Y⟩=Z (L y)) (go_keep) ((go_at_call 309;refine(ZE _ _ _ _).mono ?_;rintro _ w1⟨rfl,H9⟩;obtain⟨(RR:J _),e0,e1,e2,e3,e4,e5,e6,fR,(H5:J _)⟩:=resN H9;have f4:=(H5.cell (p:=⟨n,4,Y⟩) H7 (λh=>h)).trans c4;have f5:=(H5.cell (p:=⟨n,5,Y⟩) H7 (λh=>h)).trans c5;have f6:=(H5.cell (p:=⟨n,6,Y⟩) H7 (λh=>h)).trans c6;have f7:=(H5.cell (p:=⟨nl,0,Y⟩) jb (λh=>h)).trans hx;have f8:=(H5.cell (p:=⟨nr,0,Y⟩) rk (λh=>h)).trans hy;have hz:=H5.size;have g4:=Jhm RR (L ⟨#[78]⟩) (L ⟨#[]⟩) (O aD 0) (O aE 0) (O I (b:Int)) (L x) (L y) (by omega) (by omega) f4;have g5:=Jhm RR (L ⟨#[78]⟩) (L ⟨#[]⟩) (O aD 0) (O aE 0) (O I (b:Int)) (L x) (L y) (by omega) (by omega) f5;have g6:=Jhm RR (L ⟨#[78]⟩) (L ⟨#[]⟩) (O aD 0) (O aE 0) (O I (b:Int)) (L x) (L y) (by omega) (by omega) f6;have g7:=Jhm RR (L ⟨#[78]⟩) (L ⟨#[]⟩) (O aD 0) (O aE 0) (O I (b:Int)) (L x) (L y) (by omega) (by omega) f7;have g8:=Jhm RR (L ⟨#[78]⟩) (L ⟨#[]⟩) (O aD 0) (O aE 0) (O I (b:Int)) (L x) (L y) (by omega) (by omega) f8;clear H9))
 all_goals go_wp2;rw[set7 _ _ _ _ _ _ _ _ _ _ _ _ _ _ _ _ _ RR.out];exact QK (v:=aH #[L ⟨#[78]⟩,L ⟨#[]⟩,O aD 0,O aE 0,O I (b:Int),L x,L y]) (Qq results353 _ _ w.heap.size _ _ (0,0) _ rfl (Qi _ _ _ _ _ _ RR) underlying281 rfl (by kernel_rfl)) rfl ⟨rfl,H5.trans (Ts _ w.heap.size _) (λj hj=>.inr (by omega))⟩

theorem Jqf(w:aA)(g:Nat)(t:TypeId)(a b c d e f h v0:aG)(hr:w.heap[g]? =Z (T #[a,b,c,d,e,f,h] t (0,0))):
  (w.setCell ⟨g,0,Y⟩ v0).heap[g]? =Z (T #[v0,b,c,d,e,f,h] t (0,0))/\M (λk=>k=g) w (w.setCell ⟨g,0,Y⟩ v0):=by
 rw[Qj w g 0 _ t (0,0) v0 hr];refine⟨?_,Ts _ _ _⟩;rw[Qi _ _ _ _ _ _ hr];rfl
theorem JbY(E:Nat->Addr)(wj:Nat)(Hn:1<=wj)(hw:wj<=32)(c1 c2 c3 c4 c5 c6:aG)(nd:JcV)(ho:nd.2.2.1.2<256)(txt:List UInt8)(hl:txt.length<=1000)(w:aA)(hE:Env E w)
 (hc:∃(k:BA)(a o b:Int)(l r:Option Addr),c1=L k/\c2=O aD a/\c3=O aE o/\c4=O I b/\c5=X l/\c6=X r)
 (qq:∀W,M D w W->W.heap[w.heap.size]? =Z (T #[L ⟨#[]⟩,c1,c2,c3,c4,c5,c6] 243)->aB N 353 #[X (Z ⟨w.heap.size,0,Y⟩)] W λe w'=>e=aC (aH (JaL nd))/\M D W w')
 (uP:JaN (Yk wj nd (Z (.wr []))).2=Z txt):
  aB N 331 #[O I (wj:Int),aH #[L ⟨#[]⟩,c1,c2,c3,c4,c5,c6]] w λe w'=>e=aC (aI #[X (Z ⟨w.heap.size,0,Y⟩),aK])/\w'.heap[w.heap.size]? =Z (T #[L (H3 wj txt),c1,c2,c3,c4,c5,c6] 243)/\M D w w':=by
 obtain⟨k,a,o,b,l,r,rfl,rfl,rfl,rfl,rfl,rfl⟩:=hc;have HP:J _:=qq;have HE:J _:=hE;have ki:J _:=uP;obtain⟨nl,nk,⟨na,no⟩,nb,nx,ny⟩:=nd;dsimp only at ho;have HV:J (JaL (nl,nk,(na,no),nb,nx,ny)= #[L nl,L nk,O aD (na:Int),O aE (no:Int),O I nb,L nx,L ny]):=rfl;go_enter func331,ntmps331;go_wp2_with fail;refine(HP _ (Ta _ _ _) (Qf _ _)).mono ?_;rw[HV.o];rintro _ w1⟨rfl,H9⟩;have tA:=(Ta D w _).trans H9 noE;have r1:=(H9.block _ (by simp) (λh=>h)).trans (Qf _ _);have HT:J (aB N 154 _ w1 _):=JaA E wj (by omega) (nl,nk,(na,no),nb,nx,ny) ho w1 (HE.tch tA noE);rw[HV.o,ki.o]at HT;have R1:J _:=r1;have TA:J _:=tA;go_wp2_with fail;refine HT.o.mono ?_;rintro _ w2⟨Ha,rfl⟩;have tB:=TA.trans Ha noE;have r2:=(Ha.block _ (Jb R1) (λh=>h)).trans R1.o;have yU:J (∀W,M D w2 W->_):=λW hT=>JaZ E wj ⟨txt.toArray⟩ W ((HE.tch tB noE).tch hT noE) Hn hw (by rw[Ji];omega);have R2:J _:=r2;have TB:J _:=tB;generalize hTX:(⟨txt.toArray⟩:BA)=tb at *;have gZ:J _:=hTX;go_wp2_with fail;refine(yU w2 (Te _ _)).mono ?_;rintro _ w3⟨rfl,Hs⟩;have r3:=(Hs.block _ (Jb R2) (λh=>h)).trans R2.o;obtain⟨e0, -⟩:=rows r3;have f0:w3.frozen? ⟨w.heap.size,0,Y⟩=false:=Qg _ _ _ _ _ r3;obtain⟨(Q1:J _),(Q2:J _)⟩:=Jqf w3 w.heap.size _ _ _ _ _ _ _ _ (L (H3 wj tb.data.toList)) r3;have TC:J _:=TB.trans Hs noE;have HDL:J (tb.data.toList=txt):=by show _=_;rw[<-gZ.o]
 clear r3 Hs yU;go_wp2;go_ret2;refine⟨rfl,?_,TC.trans Q2 (λj hj=>.inr (by omega))⟩;rw[<-HDL.o];exact Q1.out
theorem JeV(E:Nat->Addr)(wj:Nat)(Hn:1<=wj)(hw:wj<=32)(k:Key)(o:Nat×Nat)(hk:TrOk wj (.leaf k o))(w:aA)(hE:Env E w):
  aB N 331 #[O I (wj:Int),aH (Jah ⟨#[]⟩ k o)] w λe w'=>e=aC (aI #[X (Z ⟨w.heap.size,0,Y⟩),aK])/\w'.heap[w.heap.size]? =Z (T (Jah (Tr.dig (H3 wj) (.leaf k o)) k o) 243)/\M D w w':=by
 have h1:=hk.1;have h2:=hk.2.2.2;exact JbY E wj Hn hw _ _ _ _ _ _ (⟨#[76]⟩,⟨k.toArray⟩,o,0,⟨#[]⟩,⟨#[]⟩) h2 (76::(k++outB o)) (by simp[outB,Jf];omega) w hE ⟨_,_,_,_,_,_,rfl,rfl,rfl,rfl,rfl,rfl⟩ (λW _ hr=>JiX w.heap.size ⟨#[]⟩ k o W hr) (Jfs wj k o hk)
theorem Jg0(E:Nat->Addr)(wj:Nat)(Hn:1<=wj)(hw:wj<=32)(b nl nr:Nat)(l r:Tr)(F:Nat->Prop)(hb:b<8*(wj+1))(w:aA)(hE:Env E w)(hl:Jh (H3 wj) F w nl l)(hr:Jh (H3 wj) F w nr r):
  aB N 331 #[O I (wj:Int),aH (brC ⟨#[]⟩ b nl nr)] w λe w'=>e=aC (aI #[X (Z ⟨w.heap.size,0,Y⟩),aK])/\w'.heap[w.heap.size]? =Z (T (brC (Tr.dig (H3 wj) (.br b l r)) b nl nr) 243)/\M D w w':=by
 have s1:(l.dig (H3 wj)).size=wj:=by cases l using Tr.ri<;>exact Jk wj hw _
 have s2:(r.dig (H3 wj)).size=wj:=by cases r using Tr.ri<;>exact Jk wj hw _
 have n1:(l.dig (H3 wj)).data.toList.length=wj:=by simpa using s1
 have n2:(r.dig (H3 wj)).data.toList.length=wj:=by simpa using s2
 exact JbY E wj Hn hw _ _ _ _ _ _ (⟨#[78]⟩,⟨#[]⟩,(0,0),(b:Int),l.dig (H3 wj),r.dig (H3 wj)) (by show 0<256;decide) (78::(Hf b 2 2++((l.dig (H3 wj)).data.toList++(r.dig (H3 wj)).data.toList))) (by rw[Qp,Qe,Qe,n1,n2,Jf];omega) w hE ⟨_,_,_,_,_,_,rfl,rfl,rfl,rfl,rfl,rfl⟩
  (λW hT hZ=>JmY w.heap.size ⟨#[]⟩ b nl nr _ _ W hZ ((hT.cell (p:=⟨nl,0,Y⟩) hl.own.2 (λh=>h)).trans hl.digCell) ((hT.cell (p:=⟨nr,0,Y⟩) hr.own.2 (λh=>h)).trans hr.digCell) (Qk hl.own.2 hT.size) (Qk hr.own.2 hT.size))
  (JjI wj b _ _ (by omega) hb s1 s2)
theorem Jhv(E:Nat->Addr)(wj:Nat)(Hn:1<=wj)(hw:wj<=32)(k:Key)(o:Nat×Nat)(hk:TrOk wj (.leaf k o))(w:aA)(hE:Env E w):
  aB N 268 #[O I (wj:Int),L ⟨k.toArray⟩,aH #[O aD (o.1:Int),O aE (o.2:Int)]] w λe w'=>∃n,e=aC (aI #[X (Z ⟨n,0,Y⟩),aK])/\w.heap.size<=n/\w'.heap[n]? =Z (T (Jah (Tr.dig (H3 wj) (.leaf k o)) k o) 243)/\M D w w':=by
 obtain⟨oa,oo⟩:=o;have HD:J (∀W,M D w W->_):=λW (hT:M D w W)=>JeV E wj Hn hw k (oa,oo) hk W (hE.tch hT noE);have HV:J (Jah ⟨#[]⟩ k (oa,oo)= #[L ⟨#[]⟩,L ⟨k.toArray⟩,O aD (oa:Int),O aE (oo:Int),O I 0,X Y,X Y]):=rfl;rw[HV.o]at HD;clear hE;generalize (⟨k.toArray⟩:BA)=kb at *;dsimp only;go_enter func268,ntmps268;go_wp2_with fail;refine(HD.o _ (Ta _ _ _)).mono ?_;rintro _ w1⟨rfl,hr,ht⟩;have hz:w.heap.size<=(w.alloc (T #[O aD (oa:Int),O aE (oo:Int)] 80)).heap.size:=by simp
 have HR:J (_=_):=hr;have HT:J (M D w w1):=(Ta D w _).trans ht noE;clear hr ht HD;generalize (w.alloc (T #[O aD (oa:Int),O aE (oo:Int)] 80)).heap.size=n at *;go_wp2;go_ret2;exact⟨n,rfl,hz,HR.o,HT.o⟩
theorem Zj(E:Nat->Addr)(wj:Nat)(Hn:1<=wj)(hw:wj<=32)(b nl nr:Nat)(l r:Tr)(F:Nat->Prop)(hb:b<8*(wj+1))(w:aA)(hE:Env E w)(hl:Jh (H3 wj) F w nl l)(hr:Jh (H3 wj) F w nr r):
  aB N 332 #[O I (wj:Int),O I (b:Int),aH #[X (Z ⟨nl,0,Y⟩),X (Z ⟨nr,0,Y⟩)]] w λe w'=>∃n,e=aC (aI #[X (Z ⟨n,0,Y⟩),aK])/\w.heap.size<=n/\w'.heap[n]? =Z (T (brC (Tr.dig (H3 wj) (.br b l r)) b nl nr) 243)/\M D w w':=by
 have HD:J (∀W,M D w W->_):=λW (hT:M D w W)=>Jg0 E wj Hn hw b nl nr l r F hb W (hE.tch hT noE) (hl.next hT) (hr.next hT);have HV:J (brC ⟨#[]⟩ b nl nr= #[L ⟨#[]⟩,L ⟨#[]⟩,O aD 0,O aE 0,O I (b:Int),X (Z ⟨nl,0,Y⟩),X (Z ⟨nr,0,Y⟩)]):=rfl;rw[HV.o]at HD;go_enter func332,ntmps332;go_wp2_with fail;refine(HD _ (Ta _ _ _)).mono ?_;rintro _ w1⟨rfl,(HR:J _),ht⟩;have hz:w.heap.size<=(w.alloc (T #[X (Z ⟨nl,0,Y⟩),X (Z ⟨nr,0,Y⟩)] 241)).heap.size:=by simp
 have HT:J _:=(Ta D w _).trans ht noE;clear ht HD;generalize (w.alloc (T #[X (Z ⟨nl,0,Y⟩),X (Z ⟨nr,0,Y⟩)] 241)).heap.size=n at *;go_wp2;go_ret2;exact⟨n,rfl,hz,HR,HT⟩

theorem JaT(n:Nat)(dg:BA)(k:Key)(o:Nat×Nat)(w:aA)(h:w.heap[n]? =Z (T (Jah dg k o) 243)):
  aB N 224 #[X (Z ⟨n,0,Y⟩)] w λe w'=>e=aC (aL true)/\w'=w:=by
 have c5:w.cell? ⟨n,5,Y⟩=Z (X Y):=Ja h;clear h;go_enter func224,ntmps224;go_wp2;go_ret;exact⟨rfl,rfl⟩
theorem Jbe(n:Nat)(dg:BA)(b nl nr:Nat)(w:aA)(h:w.heap[n]? =Z (T (brC dg b nl nr) 243)):
  aB N 224 #[X (Z ⟨n,0,Y⟩)] w λe w'=>e=aC (aL false)/\w'=w:=by
 have c5:w.cell? ⟨n,5,Y⟩=Z (X (Z ⟨nl,0,Y⟩)):=Ja h;clear h;go_enter func224,ntmps224;go_wp2;go_ret;exact⟨rfl,rfl⟩
theorem JaC(n one:Option Addr)(at_:Nat)(w:aA):
  aB N 333 #[X n,X one,O I (at_:Int)] w λe w'=>e=aC (if at_=0 then aH #[X one,X n] else aH #[X n,X one])/\M D w w':=by
 by_cases h:at_=0
 ·subst h;rw[if_pos rfl];go_enter func333,ntmps333;go_wp2;exact QK (v:=aH #[X one,X n]) (Qq results333 _ _ w.heap.size _ _ (0,0) _ rfl (Qf _ _) underlying241 rfl (by kernel_rfl)) rfl ⟨rfl,Ta _ _ _⟩
 ·rw[if_neg h];have hb:((at_:Int) == 0)=false:=by rw[beq_eq_false_iff_ne];omega
  go_enter func333,ntmps333;go_wp2;exact QK (v:=aH #[X n,X one]) (Qq results333 _ _ w.heap.size _ _ (0,0) _ rfl (Qf _ _) underlying241 rfl (by kernel_rfl)) rfl ⟨rfl,Ta _ _ _⟩
theorem Jfk(E:Nat->Addr)(wj:Nat)(Hn:1<=wj)(hw:wj<=32)(F:Nat->Prop)(rv:Option Addr)(k:Key)(o:Nat×Nat)(hk:TrOk wj (.leaf k o))(d:Nat)(hd:d<8*(wj+1))(t:Tr)(n ln:Nat)(w:aA)(hE:Env E w)(hF:∀j,w.heap.size<=j->F j)(hn:Jh (H3 wj) F w n t)(qK:Jh (H3 wj) F w ln (.leaf k o))
 (hc:(∀W,M D w W->aB N 224 #[X (Z ⟨n,0,Y⟩)] W λe w'=>e=aC (aL true)/\w'=W)\/∃b:Nat,(∀W,M D w W->aB N 224 #[X (Z ⟨n,0,Y⟩)] W λe w'=>e=aC (aL false)/\w'=W)/\w.cell? ⟨n,4,Y⟩=Z (O I (b:Int))/\(d:Int)<(b:Int)):
  aB N 270 #[aH #[O I (wj:Int),X rv],X (Z ⟨n,0,Y⟩),X (Z ⟨ln,0,Y⟩),O I (d:Int)] w λe w'=>∃m,e=aC (aI #[X (Z ⟨m,0,Y⟩),aK])/\Jh (H3 wj) F w' m (Tr.pair t (.leaf k o) d (bt k d))/\M D w w':=by
 have ng:=hn.own.2
 rcases hc with hc|⟨b,hc,hb4,hdi⟩
 all_goals
  have HC:J _:=hc;have ju:=hk.1;have H7:=qK.own.2;have clk:w.cell? ⟨ln,1,Y⟩=Z (L ⟨k.toArray⟩):=Ja qK.a.2;have zE:J (∀W,_):=λW=>XL k d (by omega) (by omega) W;have HF:J _:=hF;have fT:J (∃a b l r,(if bt k d=0 then Value.agg #[X (Z ⟨ln,0,Y⟩),X (Z ⟨n,0,Y⟩)] else aH #[X (Z ⟨n,0,Y⟩),X (Z ⟨ln,0,Y⟩)])=aH #[X (Z ⟨a,0,Y⟩),X (Z ⟨b,0,Y⟩)]/\Tr.pair t (.leaf k o) d (bt k d)=.br d l r/\Jh (H3 wj) F w a l/\Jh (H3 wj) F w b r):=by
   unfold Tr.pair
   by_cases hb:bt k d=0
   ·rw[if_pos hb,if_pos hb];exact⟨_,_,_,_,rfl,rfl,qK,hn⟩
   ·rw[if_neg hb,if_neg hb];exact⟨_,_,_,_,rfl,rfl,hn,qK⟩
  obtain⟨pa,pb,pl,pr,tK,hpt,qq,hpr⟩:=fT.o;have mw:J (∀W,aB N 333 #[X (Z ⟨n,0,Y⟩),X (Z ⟨ln,0,Y⟩),O I (bt k d:Int)] W λe w'=>e=aC (aH #[X (Z ⟨pa,0,Y⟩),X (Z ⟨pb,0,Y⟩)])/\M D W w'):=λW=>by
   have:=JaC (Z ⟨n,0,Y⟩) (Z ⟨ln,0,Y⟩) (bt k d) W;rw[tK]at this;exact this
  have zo:J (∀W,M D w W->aB N 332 #[O I (wj:Int),O I (d:Int),aH #[X (Z ⟨pa,0,Y⟩),X (Z ⟨pb,0,Y⟩)]] W λe w'=>∃m,e=aC (aI #[X (Z ⟨m,0,Y⟩),aK])/\Jh (H3 wj) F w' m (Tr.pair t (.leaf k o) d (bt k d))/\M D W w'):=λW hT=>by
   refine(Zj E wj Hn hw d pa pb pl pr F hd W (hE.tch hT noE) (qq.next hT) (hpr.next hT)).mono ?_;rintro e w'⟨m,rfl,h1,h2,h3⟩;refine⟨m,rfl,?_,h3⟩;rw[hpt];exact .br m d pa pb pl pr (HF m (Qm hT.size h1)) h2 ((qq.next hT).next h3) ((hpr.next hT).next h3)
  generalize (⟨k.toArray⟩:BA)=kb at *;generalize Tr.pair t (.leaf k o) d (bt k d)=tr at *;generalize bt k d=bk at *;go_enter func270,ntmps270;go_wp2_with fail;refine(HC.o _ (Ta _ _ _)).mono ?_;rintro _ _⟨rfl,rfl⟩;have HA:J (M D w (w.alloc (T #[O I (wj:Int),X rv] 146)).drew):=(Ta D w _).trans (Td _ _ 1) (λ_ h=>.inl h);go_wp2_with fail;go_region_held3 (λW=>W.cell? ⟨w.heap.size,0,Y⟩=Z (O I (wj:Int))/\W.cell? ⟨ln,1,Y⟩=Z (L kb)) (go_keep) ((first|(go_at_call 288;refine(zE _).mono ?_;rintro _ _⟨rfl,rfl⟩)|(go_at_call 333;refine(mw _).mono ?_;rintro _ w1⟨rfl,H9⟩;have jH:w.heap.size<w1.heap.size:=Qk (by simp) H9.size;have hk0:w1.cell? ⟨w.heap.size,0,Y⟩=Z (O I (wj:Int)):=(H9.cell (p:=⟨w.heap.size,0,Y⟩) (by simp) (λh=>h)).trans (Ja (Qf _ _));have qL:w1.cell? ⟨ln,1,Y⟩=Z (L kb):=((HA.trans H9 noE).cell (p:=⟨ln,1,Y⟩) H7 (λh=>h)).trans clk;have H5:J (M D w w1):=HA.trans H9 noE)|(go_at_call 332;refine(zo _ H5).mono ?_;rintro _ w2⟨m,rfl,hm,Ha⟩;have hj0:=(Ha.cell (p:=⟨w.heap.size,0,Y⟩) jH (λh=>h)).trans hk0;have hj1:=(Ha.cell (p:=⟨ln,1,Y⟩) (by have:=H5.o.size;show ln<_;omega) (λh=>h)).trans qL;have HM:J _:=hm;have H6:J (M D w w2):=H5.trans Ha noE)))
  all_goals go_wp2;go_ret2;exact⟨m,rfl,HM,H6⟩
theorem Jmn(E:Nat->Addr)(wj:Nat)(Hn:1<=wj)(hw:wj<=32)(F:Nat->Prop)(rv:Option Addr)(k:Key)(o:Nat×Nat)(hk:TrOk wj (.leaf k o))(d:Nat)(b:Nat)(hb:b<8*(wj+1))(mu:¬d<b)(l r:Tr)(n nl nr ln:Nat)(w:aA)(hE:Env E w)(hF:∀j,w.heap.size<=j->F j)(hZ:w.heap[n]? =Z (T (brC (Tr.dig (H3 wj) (.br b l r)) b nl nr) 243))(jb:Jh (H3 wj) F w nl l)(rk:Jh (H3 wj) F w nr r)(qK:Jh (H3 wj) F w ln (.leaf k o))
 (ih:∀(s:Nat)(tg:Tr),((s=nl/\tg=l.graft k o d/\bt k b=0)\/(s=nr/\tg=r.graft k o d/\bt k b ≠ 0))->∀W,M D w W->aB N 270 #[aH #[O I (wj:Int),X rv],X (Z ⟨s,0,Y⟩),X (Z ⟨ln,0,Y⟩),O I (d:Int)] W λe w'=>∃m,e=aC (aI #[X (Z ⟨m,0,Y⟩),aK])/\Jh (H3 wj) F w' m tg/\M D W w'):
  aB N 270 #[aH #[O I (wj:Int),X rv],X (Z ⟨n,0,Y⟩),X (Z ⟨ln,0,Y⟩),O I (d:Int)] w λe w'=>∃m,e=aC (aI #[X (Z ⟨m,0,Y⟩),aK])/\Jh (H3 wj) F w' m (Tr.graft k o d (.br b l r))/\M D w w':=by
 have ju:=hk.1;have H7:=qK.own.2;have ng:=(Jb hZ)
 have clk:w.cell? ⟨ln,1,Y⟩=Z (L ⟨k.toArray⟩):=Ja qK.a.2;obtain⟨-, -, -, -,c4,c5,c6⟩:=rows hZ;have zE:J (∀W,_):=λW=>XL k b (by omega) (by omega) W;have fU:J (∀W,M D w W->_):=λW hT=>Jbe n _ b nl nr W ((hT.block n ng (λh=>h)).trans hZ);have hdi:¬(d:Int)<(b:Int):=by omega
 have hbt:=Yx k b;have bM:J _:=ih;have ye:(bt k b=0/\Tr.graft k o d (.br b l r)=.br b (l.graft k o d) r)\/(bt k b=1/\Tr.graft k o d (.br b l r)=.br b l (r.graft k o d)):=by
  simp only[Tr.graft];rw[if_neg mu]
  by_cases h0:bt k b=0
  ·exact .inl ⟨h0,by rw[if_pos h0]⟩
  ·exact .inr ⟨by omega,by rw[if_neg h0]⟩
 generalize (⟨k.toArray⟩:BA)=kb at *;have HE:J _:=hE;have HF:J _:=hF;have nh:J _:=jb;have vp:J _:=rk
 rcases ye with⟨(qA:J _),hg⟩|⟨h1,hg⟩
 case' inl=>
  rw[hg];rw[qA]at zE;have pe:J _:=bM nl (l.graft k o d) (.inl ⟨rfl,rfl,qA⟩);have mw:J (∀(m:Nat) W,_):=λm W=>JaC (Z ⟨nr,0,Y⟩) (Z ⟨m,0,Y⟩) 0 W;have zo:J (∀(m:Nat) W,M D w W->Jh (H3 wj) F W m (l.graft k o d)->aB N 332 #[O I (wj:Int),O I (b:Int),aH #[X (Z ⟨m,0,Y⟩),X (Z ⟨nr,0,Y⟩)]] W λe w'=>∃q,e=aC (aI #[X (Z ⟨q,0,Y⟩),aK])/\Jh (H3 wj) F w' q (.br b (l.graft k o d) r)/\M D W w'):=λm W hT hm=>by
   refine(Zj E wj Hn hw b m nr (l.graft k o d) r F hb W (HE.tch hT noE) hm (vp.next hT)).mono ?_;rintro e w'⟨q,rfl,h1,h2,h3⟩;exact⟨q,rfl,.br q b m nr (l.graft k o d) r (HF q (Qm hT.size h1)) h2 (hm.next h3) ((vp.next hT).next h3),h3⟩
  clear hg bM
 case' inr=>
  rw[hg];have qA:J _:=h1;rw[h1]at zE;have pe:J _:=bM nr (r.graft k o d) (.inr ⟨rfl,rfl,by omega⟩);have mw:J (∀(m:Nat) W,_):=λm W=>JaC (Z ⟨nl,0,Y⟩) (Z ⟨m,0,Y⟩) 1 W;have zo:J (∀(m:Nat) W,M D w W->Jh (H3 wj) F W m (r.graft k o d)->aB N 332 #[O I (wj:Int),O I (b:Int),aH #[X (Z ⟨nl,0,Y⟩),X (Z ⟨m,0,Y⟩)]] W λe w'=>∃q,e=aC (aI #[X (Z ⟨q,0,Y⟩),aK])/\Jh (H3 wj) F w' q (.br b l (r.graft k o d))/\M D W w'):=λm W hT hm=>by
   refine(Zj E wj Hn hw b nl m l (r.graft k o d) F hb W (HE.tch hT noE) (nh.next hT) hm).mono ?_;rintro e w'⟨q,rfl,h1,h2,h3⟩;exact⟨q,rfl,.br q b nl m l (r.graft k o d) (HF q (Qm hT.size h1)) h2 ((nh.next hT).next h3) (hm.next h3),h3⟩
 all_goals
  go_enter func270,ntmps270;go_wp2_with fail;refine(fU _ (Ta _ _ _)).mono ?_;rintro _ _⟨rfl,rfl⟩;have qY:M D w (w.alloc (T #[O I (wj:Int),X rv] 146)):=Ta _ _ _;obtain⟨wA,jC⟩:∃wA,wA=w.alloc (T #[O I (wj:Int),X rv] 146):=⟨_,rfl⟩
  rw[<-jC]at qY ⊢;have ni:=xw jC;have hzA:=(Jb ni)
  have xl:J (∀W,M D wA W->(W.cell? ⟨w.heap.size,0,Y⟩=Z (O I (wj:Int))/\W.cell? ⟨w.heap.size,1,Y⟩=Z (X rv)/\W.cell? ⟨ln,1,Y⟩=Z (L kb)/\W.cell? ⟨n,4,Y⟩=Z (O I (b:Int))/\W.cell? ⟨n,5,Y⟩=Z (X (Z ⟨nl,0,Y⟩))/\W.cell? ⟨n,6,Y⟩=Z (X (Z ⟨nr,0,Y⟩)))/\M D w W):=λW hT=>
   ⟨⟨(hT.cell (p:=⟨w.heap.size,0,Y⟩) hzA (λh=>h)).trans (Ja ni),(hT.cell (p:=⟨w.heap.size,1,Y⟩) hzA (λh=>h)).trans (Ja ni),((qY.trans hT noE).cell (p:=⟨ln,1,Y⟩) H7 (λh=>h)).trans clk,((qY.trans hT noE).cell (p:=⟨n,4,Y⟩) ng (λh=>h)).trans c4,((qY.trans hT noE).cell (p:=⟨n,5,Y⟩) ng (λh=>h)).trans c5,((qY.trans hT noE).cell (p:=⟨n,6,Y⟩) ng (λh=>h)).trans c6⟩,qY.trans hT noE⟩
  obtain⟨⟨a0,a1,a2,a3,a4,a5⟩,_⟩:=xl wA (Te _ _);clear qY ni jC clk c4 c5 c6;go_wp2_with fail;go_region_held3 (λW=>W.cell? ⟨ln,1,Y⟩=Z (L kb)/\W.cell? ⟨n,4,Y⟩=Z (O I (b:Int))) (go_keep) ((go_at_call 288;refine(zE _).mono ?_;rintro _ _⟨rfl,rfl⟩));have ge:J (∀q,_):=λq=>(xl _ (Td _ wA q)).2;go_wp2_with fail;go_region_held3 (λW=>W.cell? ⟨w.heap.size,0,Y⟩=Z (O I (wj:Int))/\W.cell? ⟨w.heap.size,1,Y⟩=Z (X rv)/\W.cell? ⟨n,5,Y⟩=Z (X (Z ⟨nl,0,Y⟩))/\W.cell? ⟨n,6,Y⟩=Z (X (Z ⟨nr,0,Y⟩))) (go_keep) ((go_at_call 270;refine(pe _ (ge 2)).mono ?_;rintro _ w2⟨m,rfl,(HM:J _),Ha⟩;have qm:=(Td D wA 2).trans Ha noE;obtain⟨⟨b0,b1,b2,b3,b4,b5⟩,(jD:J _)⟩:=xl w2 qm;have H6:J _:=qm;clear Ha qm))
  all_goals
   have xV:I.wrap 0=0:=(by decide);have jH:I.wrap 1=1:=(by decide);have ge:J (∀q,_):=λq=>H6.trans (Td D w2 q) noE;go_wp2_with fail;go_region_held3 (λW=>W.cell? ⟨w.heap.size,0,Y⟩=Z (O I (wj:Int))/\W.cell? ⟨n,4,Y⟩=Z (O I (b:Int))/\W.cell? ⟨n,5,Y⟩=Z (X (Z ⟨nl,0,Y⟩))/\W.cell? ⟨n,6,Y⟩=Z (X (Z ⟨nr,0,Y⟩))) (go_keep) ((first|(go_at_call 333;refine(mw m _).mono ?_;rintro _ w3⟨rfl,Hs⟩;have vq:=(ge 1).trans Hs noE;obtain⟨⟨d0,d1,d2,d3,d4,d5⟩,(jv:J _)⟩:=xl w3 vq;have bP:J _:=(HM.next (Td D w2 1)).next Hs;have Hb:J _:=vq;clear Hs vq)|(go_at_call 332;refine(zo m _ jv bP).mono ?_;rintro _ w4⟨q,rfl,(HQ:J _),Hu⟩;have xD:=Hb.trans Hu noE;obtain⟨⟨f0,f1,f2,f3,f4,f5⟩,(sC:J _)⟩:=xl w4 xD;clear Hu xD)))
   all_goals go_wp2;go_ret2;exact⟨q,rfl,HQ,sC⟩
theorem JkI(E:Nat->Addr)(wj:Nat)(Hn:1<=wj)(hw:wj<=32)(F:Nat->Prop)(rv:Option Addr)(k:Key)(o:Nat×Nat)(hk:TrOk wj (.leaf k o))(d:Nat)(hd:d<8*(wj+1))(ln:Nat):∀(t:Tr)(n:Nat)(w:aA),TrOk wj t->Env E w->(∀j,w.heap.size<=j->F j)->Jh (H3 wj) F w n t->Jh (H3 wj) F w ln (.leaf k o)->
  aB N 270 #[aH #[O I (wj:Int),X rv],X (Z ⟨n,0,Y⟩),X (Z ⟨ln,0,Y⟩),O I (d:Int)] w λe w'=>∃m,e=aC (aI #[X (Z ⟨m,0,Y⟩),aK])/\Jh (H3 wj) F w' m (t.graft k o d)/\M D w w':=by
 intro t
 induction t using Tr.ri with
 | leaf k' o'=>
  intro n w _ hE hF hn qK;refine Jfk E wj Hn hw F rv k o hk d hd (.leaf k' o') n ln w hE hF hn qK (.inl λW hT=>?_);obtain⟨_,hr⟩:=hn.a;exact JaT n _ k' o' W ((hT.block n (Jb hr) (λh=>h)).trans hr)
 | br b l r ihl ihr=>
  intro n w Hg hE hF hn qK;obtain⟨hb,vJ,vK⟩:=Hg;have my:=hn;obtain⟨nl,nr,hFn,hr,jb,rk⟩:=hn.bri
  by_cases mu:d<b
  ·have:=Jfk E wj Hn hw F rv k o hk d hd (.br b l r) n ln w hE hF my qK (.inr ⟨b,λW hT=>Jbe n _ b nl nr W ((hT.block n (Jb hr) (λh=>h)).trans hr),Ja hr,by omega⟩);have e:Tr.graft k o d (.br b l r)=Tr.pair (.br b l r) (.leaf k o) d (bt k d):=(by simp only[Tr.graft];rw[if_pos mu]);rw[e];exact this
  ·refine Jmn E wj Hn hw F rv k o hk d b hb mu l r n nl nr ln w hE hF hr jb rk qK ?_;rintro s tg (⟨rfl,rfl,_⟩|⟨rfl,rfl,_⟩) W hT
   ·exact ihl s W vJ (hE.tch hT noE) (λj hj=>hF j (Qm hT.size hj)) (jb.next hT) (qK.next hT)
   ·exact ihr s W vK (hE.tch hT noE) (λj hj=>hF j (Qm hT.size hj)) (rk.next hT) (qK.next hT)

def StAt(d:List UInt8->BA)(F:Nat->Prop)(w:aA):Option Nat->Option Tr->Prop
 | none,Y=>True
 | some n,Z t=>Jh d F w n t
 | _,_=>False
abbrev Jl(q:Option Nat):aG:=X (q.map λn=>⟨n,0,Y⟩)
theorem StAt.tch{st:Option Tr}(h:StAt d F w q st)(k:M S w w')(hs:∀j,S j->¬F j):StAt d F w' q st:=by
 cases q<;>cases st<;>first|exact h|exact Jh.tch h k hs
theorem StAt.next{st:Option Tr}(h:StAt d F w q st)(k:M D w w'):StAt d F w' q st:=h.tch k noE
theorem StAt.mono{st:Option Tr}(h:StAt d F w q st)(hF:∀j,F j->F' j):StAt d F' w q st:=by
 cases q<;>cases st<;>first|exact h|exact Jh.mono h hF
def StOk(wj:Nat):Option Tr->Prop
 | none=>True
 | some t=>TrOk wj t
abbrev JgI(wj:Nat)(F:Nat->Prop)(r:Option Tr)(W:aA)(e:Ending)(w':aA):Prop:=∃q,e=aC (aI #[Jl q,aK])/\StAt (H3 wj) F w' q r/\M D W w'
theorem StAt.of_some{t:Tr}(h:StAt d F w q (Z t)):∃m,q=Option.some m/\Jh d F w m t:=by
 cases q with
 | none=>exact h.elim
 | some m=>exact⟨m,rfl,h⟩
theorem StAt.of_none(h:StAt d F w q lK):q=lK:=by
 cases q with
 | none=>rfl
 | some m=>exact h.elim
theorem Jmb(wj:Nat)(F:Nat->Prop)(rv:Option Addr)(k:Key)(n:Nat)(w:aA)(k':Key)(o':Nat×Nat)(hn:Jh (H3 wj) F w n (.leaf k' o')):
  aB N 339 #[aH #[O I (wj:Int),X rv],X (Z ⟨n,0,Y⟩),L ⟨k.toArray⟩] w λe w'=>JgI wj F Y w e w':=by
 have fU:J (∀W,M D w W->aB N 224 #[X (Z ⟨n,0,Y⟩)] W λe w'=>e=aC (aL true)/\w'=W):=λW hT=>by
  obtain⟨_,hr⟩:=hn.a;exact JaT n _ k' o' W ((hT.block n (Jb hr) (λh=>h)).trans hr)
 clear hn;generalize (⟨k.toArray⟩:BA)=kb at *;go_enter func339,ntmps339;go_wp2_with fail;refine(fU.o _ (Ta _ _ _)).mono ?_;rintro _ _⟨rfl,rfl⟩;go_wp2;go_ret2;exact⟨Y,rfl,trivial,Ta _ _ _⟩
theorem Jma(wj:Nat)(F:Nat->Prop)(rv:Option Addr)(k:Key)(ju:k.length=wj+1)(hw:wj<=32)(b:Nat)(hb:b<8*(wj+1))(n nl nr:Nat)(w:aA)(d:BA)(hZ:w.heap[n]? =Z (T (brC d b nl nr) 243))(v nc no:Nat)(hv:(v=0/\nl=nc/\nr=no)\/(v=1/\nl=no/\nr=nc))(hbt:bt k b=v)(st res:Option Tr)
 (ih:∀W,M D w W->aB N 339 #[aH #[O I (wj:Int),X rv],X (Z ⟨nc,0,Y⟩),L ⟨k.toArray⟩] W λe w'=>JgI wj F st W e w')
 (hN:st=Y->∀W,M D w W->StAt (H3 wj) F W (Z no) res)
 (hS:∀s,st=Z s->∀(m:Nat) W,M D w W->Jh (H3 wj) F W m s->aB N 332 #[O I (wj:Int),O I (b:Int),if v=0 then aH #[X (Z ⟨m,0,Y⟩),X (Z ⟨no,0,Y⟩)] else aH #[X (Z ⟨no,0,Y⟩),X (Z ⟨m,0,Y⟩)]] W λe w'=>∃q,e=aC (aI #[X (Z ⟨q,0,Y⟩),aK])/\StAt (H3 wj) F w' (Z q) res/\M D W w'):
  aB N 339 #[aH #[O I (wj:Int),X rv],X (Z ⟨n,0,Y⟩),L ⟨k.toArray⟩] w λe w'=>JgI wj F res w e w':=by
 have ng:=(Jb hZ)
 obtain⟨-, -, -, -,c4,c5,c6⟩:=rows hZ;have zE:J (∀W,aB N 288 #[L ⟨k.toArray⟩,O I (b:Int)] W λe w'=>e=aC (O I (v:Int))/\W=w'):=λW=>by
  have:=XL k b (by omega) (by omega) W;rw[hbt]at this;exact this.mono λe w' h=>⟨h.1,h.2.symm⟩
 have fU:J (∀W,M D w W->_):=λW hT=>Jbe n _ b nl nr W ((hT.block n ng (λh=>h)).trans hZ);have pe:J _:=ih;have mw:J (∀(m:Nat) W,_):=λm W=>JaC (Z ⟨no,0,Y⟩) (Z ⟨m,0,Y⟩) v W;have HN:J _:=hN;have HS:J _:=hS;generalize (⟨k.toArray⟩:BA)=kb at *;have qY:M D w (w.alloc (T #[O I (wj:Int),X rv] 146)):=Ta _ _ _;obtain⟨wA,(HWA:J _)⟩:∃wA,wA=w.alloc (T #[O I (wj:Int),X rv] 146):=⟨_,rfl⟩
 rw[<-HWA]at qY;have ni:wA.heap[w.heap.size]? =Z (T #[O I (wj:Int),X rv] 146):=by rw[HWA];exact Qf _ _
 have hzA:=(Jb ni)
 have xl:J (∀W,M D wA W->(W.cell? ⟨w.heap.size,0,Y⟩=Z (O I (wj:Int))/\W.cell? ⟨w.heap.size,1,Y⟩=Z (X rv)/\W.cell? ⟨n,4,Y⟩=Z (O I (b:Int))/\W.cell? ⟨n,5,Y⟩=Z (X (Z ⟨nl,0,Y⟩))/\W.cell? ⟨n,6,Y⟩=Z (X (Z ⟨nr,0,Y⟩)))/\M D w W):=λW hT=>by
  have h1:=(hT.block _ hzA (λh=>h)).trans ni;have h2:=qY.trans hT noE;have h3:=(h2.block n ng (λh=>h)).trans hZ;exact⟨⟨Ja h1,Ja h1,Ja h3,Ja h3,Ja h3⟩,h2⟩
 have ge:J (∀q,_):=λq=>(xl _ (Td _ wA q)).2;have xV:I.wrap 0=0:=by decide
 have jH:I.wrap 1=1:=by decide
 clear qY ni hZ
 rcases hv with⟨rfl,rfl,rfl⟩|⟨rfl,rfl,rfl⟩
 all_goals
  simp only[if_true,Nat.succ_ne_self,if_false,Int.natCast_zero,Int.natCast_one]at mw HS zE;go_enter func339,ntmps339;go_wp2_with fail;refine(fU _ (Ta _ _ _)).mono ?_;rintro _ _⟨rfl,rfl⟩;rw[<-HWA.o];obtain⟨⟨a0,a1,a3,a4,a5⟩,_⟩:=xl wA (Te _ _);go_wp2_with fail;refine(zE _).mono ?_;rintro _ _⟨rfl,rfl⟩;go_wp2_with fail
  cases st
  all_goals go_region_held3 (λW=>W.cell? ⟨w.heap.size,0,Y⟩=Z (O I (wj:Int))/\W.cell? ⟨w.heap.size,1,Y⟩=Z (X rv)/\W.cell? ⟨n,5,Y⟩=Z (X (Z ⟨nl,0,Y⟩))/\W.cell? ⟨n,6,Y⟩=Z (X (Z ⟨nr,0,Y⟩))) (go_keep) ((go_at_call 339;refine(pe _ (ge 1)).mono ?_;rintro _ w2⟨q,rfl,hq,Ha⟩;have qm:=(Td D wA 1).trans Ha noE;obtain⟨⟨b0,b1,b3,b4,b5⟩,(jD:J _)⟩:=xl w2 qm;(first|(obtain⟨m,rfl,(HM:J _)⟩:=hq.of_some)|(obtain rfl:=hq.of_none));have H6:J _:=qm;clear Ha qm))
  ·go_wp2;go_ret2;exact⟨Z _,rfl,HN (by trivial) _ jD,jD⟩
  ·have ge:J (∀q,_):=λq=>H6.trans (Td D w2 q) noE;go_wp2_with fail;go_region_held3 (λW=>W.cell? ⟨w.heap.size,0,Y⟩=Z (O I (wj:Int))/\W.cell? ⟨n,4,Y⟩=Z (O I (b:Int))) (go_keep) ((first|(go_at_call 333;refine(mw m _).mono ?_;rintro _ w3⟨rfl,Hs⟩;have vq:=(ge 1).trans Hs noE;obtain⟨⟨d0,d1,d3,d4,d5⟩,(jv:J _)⟩:=xl w3 vq;have bP:J _:=(HM.next (Td D w2 1)).next Hs;have Hb:J _:=vq;clear Hs vq)|(go_at_call 332;refine(HS _ rfl m _ jv bP).mono ?_;rintro _ w4⟨q,rfl,(HQ:J _),Hu⟩;have xD:=Hb.trans Hu noE;obtain⟨⟨f0,f1,f3,f4,f5⟩,(sC:J _)⟩:=xl w4 xD;clear Hu xD)))
   all_goals go_wp2;go_ret2;exact⟨Z q,rfl,HQ,sC⟩
theorem Jof(E:Nat->Addr)(wj:Nat)(Hn:1<=wj)(hw:wj<=32)(F:Nat->Prop)(rv:Option Addr)(k:Key)(ju:k.length=wj+1):∀(t:Tr)(n:Nat)(w:aA),TrOk wj t->Env E w->(∀j,w.heap.size<=j->F j)->Jh (H3 wj) F w n t->
  aB N 339 #[aH #[O I (wj:Int),X rv],X (Z ⟨n,0,Y⟩),L ⟨k.toArray⟩] w λe w'=>JgI wj F (t.cut k) w e w':=by
 intro t
 induction t using Tr.ri with
 | leaf k' o'=>
  intro n w _ _ _ hn;exact Jmb wj F rv k n w k' o' hn
 | br b l r ihl ihr=>
  intro n w Hg hE hF hn;obtain⟨hb,vJ,vK⟩:=Hg;obtain⟨nl,nr,hFn,hr,jb,rk⟩:=hn.bri;have il:∀W,M D w W->_:=λW (hT:M D w W)=>ihl nl W vJ (hE.tch hT noE) (λj hj=>hF j (Qm hT.size hj)) (jb.next hT);have ir:∀W,M D w W->_:=λW (hT:M D w W)=>ihr nr W vK (hE.tch hT noE) (λj hj=>hF j (Qm hT.size hj)) (rk.next hT);have nb:∀(a c:Tr)(x y:Nat) W,M D w W->Jh (H3 wj) F W x a->Jh (H3 wj) F W y c->aB N 332 #[O I (wj:Int),O I (b:Int),aH #[X (Z ⟨x,0,Y⟩),X (Z ⟨y,0,Y⟩)]] W λe w'=>∃q,e=aC (aI #[X (Z ⟨q,0,Y⟩),aK])/\StAt (H3 wj) F w' (Z q) (Z (.br b a c))/\M D W w':=λa c x y W hT hx hy=>by
   refine(Zj E wj Hn hw b x y a c F hb W (hE.tch hT noE) hx hy).mono ?_;rintro e w'⟨q,rfl,h1,h2,h3⟩;exact⟨q,rfl,.br q b x y a c (hF q (Qm hT.size h1)) h2 (hx.next h3) (hy.next h3),h3⟩
  simp only[Tr.cut]
  by_cases h0:bt k b=0
  ·rw[if_pos h0];refine Jma wj F rv k ju hw b hb n nl nr w _ hr 0 nl nr (.inl ⟨rfl,rfl,rfl⟩) h0 _ _ il (λh W hT=>?_) (λs h m W hT hm=>?_)
   ·rw[h];exact rk.next hT
   ·rw[h];exact nb s r m nr W hT hm (rk.next hT)
  ·have h1:bt k b=1:=(by have:=Yx k b;omega);rw[if_neg h0];refine Jma wj F rv k ju hw b hb n nl nr w _ hr 1 nr nl (.inr ⟨rfl,rfl,rfl⟩) h1 _ _ ir (λh W hT=>?_) (λs h m W hT hm=>?_)
   ·rw[h];exact jb.next hT
   ·rw[h];exact nb l s nl m W hT (jb.next hT) hm
open Go.RowKit Go.Shelf

attribute [local go_sem] Oper.semAt_some

theorem Jid(n:Nat)(dg:BA)(k':Key)(o:Nat×Nat)(k:Key)(hk:1<=k.length)(gS:k.length<=1000000)(w:aA)(h:w.heap[n]? =Z (T (Jah dg k' o) 243)):
  aB N 296 #[X (Z ⟨n,0,Y⟩),L ⟨k.toArray⟩] w λe w'=>e=aC (X Y)/\∃m,w'=w.drewN m:=by
 obtain⟨-, -, -, -,c4,c5,c6⟩:=rows h;have HB:J (∀W,_):=λW=>XL k 0 (by omega) gS W;have hb:=Yx k 0;generalize (⟨k.toArray⟩:BA)=kb at *;generalize bt k 0=a at *;obtain rfl|rfl:a=0\/a=1:=by omega
 all_goals
  go_enter func296,ntmps296;go_wp2;go_region_with (go_at_call 288;refine(HB _).mono ?_;rintro _ _⟨rfl,rfl⟩)
  all_goals go_wp2
  all_goals go_ret
  all_goals exact⟨rfl,1,rfl⟩
theorem Jlu(n:Nat)(dg:BA)(b nl nr:Nat)(k:Key)(hk:b<8*k.length)(gS:k.length<=1000000)(w:aA)(h:w.heap[n]? =Z (T (brC dg b nl nr) 243)):
  aB N 296 #[X (Z ⟨n,0,Y⟩),L ⟨k.toArray⟩] w λe w'=>e=aC (X (Z ⟨if bt k b=0 then nl else nr,0,Y⟩))/\∃m,w'=w.drewN m:=by
 obtain⟨-, -, -, -,c4,c5,c6⟩:=rows h;have HB:J (∀W,_):=λW=>XL k b hk gS W;have hb:=Yx k b;generalize (⟨k.toArray⟩:BA)=kb at *;generalize bt k b=a at *;obtain rfl|rfl:a=0\/a=1:=by omega
 ·rw[if_pos rfl];go_enter func296,ntmps296;go_wp2;go_region_with (go_at_call 288;refine(HB _).mono ?_;rintro _ _⟨rfl,rfl⟩)
  all_goals go_wp2
  all_goals go_ret
  all_goals exact⟨rfl,1,rfl⟩
 ·rw[if_neg (by decide)];go_enter func296,ntmps296;go_wp2;go_region_with (go_at_call 288;refine(HB _).mono ?_;rintro _ _⟨rfl,rfl⟩)
  all_goals go_wp2
  all_goals go_ret
  all_goals exact⟨rfl,1,rfl⟩

attribute [local go_sem] Oper.semAt_some

def Way(n₀:Nat)(k:Key)(W:aA):Option Nat->List Nat->Prop
 | q,[]=>q=Y
 | q,x::xs=>q=Z x/\x<n₀/\((∃dg k' o,W.heap[x]? =Z (T (Jah dg k' o) 243)/\xs=[])\/(∃dg b nl nr,W.heap[x]? =Z (T (brC dg b nl nr) 243)/\b<8*k.length/\Way n₀ k W (Z (if bt k b=0 then nl else nr)) xs))
theorem Way.below{k:Key}{A B:aA}(h:Below n₀ A B):∀{q:Option Nat} {xs:List Nat},Way n₀ k A q xs->Way n₀ k B q xs
 | _,[],hl=>hl
 | _,x::xs,⟨h1,h2,h3⟩=>⟨h1,h2,by
   rcases h3 with⟨dg,k',o,hr,he⟩|⟨dg,b,nl,nr,hr,hb,hw⟩
   ·exact .inl ⟨dg,k',o,(h.block x h2).trans hr,he⟩
   ·exact .inr ⟨dg,b,nl,nr,(h.block x h2).trans hr,hb,Way.below h hw⟩⟩
theorem JfI{dg dg':BA}{k':Key}{nl nr:Nat}(h:W.heap[x]? =Z (T (Jah dg k' o) 243))(h':W.heap[x]? =Z (T (brC dg' b nl nr) 243)):False:=by
 rw[h]at h';simp[Jah,brC]at h'
theorem Way.unique{k:Key} :∀{q:Option Nat} {xs ys:List Nat},Way n₀ k W q xs->Way n₀ k W q ys->xs=ys
 | _,[],[],_,_=>rfl
 | _,[],_::_,h,⟨h',_⟩=>by rw[h]at h';cases h'
 | _,_::_,[],⟨h',_⟩,h=>by rw[h]at h';cases h'
 | _,x::xs,y::ys,⟨h1,_,h3⟩,⟨k1,_,k3⟩=>by
  rw[h1]at k1
  cases k1
  rcases h3 with⟨dg,k',o,hr,rfl⟩|⟨dg,b,nl,nr,hr,hb,hw⟩
  ·rcases k3 with⟨_,_,_,_,rfl⟩|⟨_,_,_,_,kS,_⟩
   ·rfl
   ·exact(JfI hr kS).elim
  ·rcases k3 with⟨_,_,_,kS,_⟩|⟨dg',b',nl',nr',kS,_,zD⟩
   ·exact(JfI kS hr).elim
   ·rw[hr]at kS;simp only[brC,Qh,Obj.cells.injEq,and_true]at kS;have e4:=congrArg (λa=>a[4]?) kS;have e5:=congrArg (λa=>a[5]?) kS;have e6:=congrArg (λa=>a[6]?) kS;simp at e4 e5 e6;obtain rfl:b=b':=(by omega);subst e5 e6;rw[Way.unique hw zD]
theorem Jlf{q':Option Nat}(h:Jl q=Jl q'):q=q':=by
 cases q<;>cases q'<;>simp[Jl]at h ⊢
 exact h
theorem Jpe(n₀:Nat)(k:Key):∃f:aA->aG->Nat,∀W q xs,Way n₀ k W q xs->f W (Jl q)=xs.length:=by
 classical
 refine⟨λW v=>if h:∃r:Option Nat×List Nat,v=Jl r.1/\Way n₀ k W r.1 r.2 then (Classical.choose h).2.length else 0,λW q xs h=>?_⟩;have bQ:∃r:Option Nat×List Nat,Jl q=Jl r.1/\Way n₀ k W r.1 r.2:=⟨(q,xs),rfl,h⟩
 simp only;rw[dif_pos bQ];obtain⟨e,hl⟩:=Classical.choose_spec bQ;rw[<-Jlf e]at hl;rw[Way.unique hl h]
theorem Jh.way{t:Tr}{k:Key}(hk:k.length=wj+1)(h:Jh d F w n t)(Hg:TrOk wj t):∃xs m,Way w.heap.size k w (Z n) xs/\xs.getLast? =Z m/\Jh d F w m (.leaf (t.near k).1 (t.near k).2):=by
 induction h using Jh.ri with
 | leaf n k' o hF hr=>exact⟨[n],n,⟨rfl,(Jb hr),.inl ⟨_,_,_,hr,rfl⟩⟩,rfl,.leaf n k' o hF hr⟩
 | br n b nl nr l r hF hr hl kS ihl ihr=>
  obtain⟨hb,vJ,vK⟩:=Hg;simp only[Tr.near]
  by_cases h0:bt k b=0
  ·obtain⟨xs,m,h1,h2,h3⟩:=ihl vJ;refine⟨n::xs,m,⟨rfl,(Jb hr),.inr ⟨_,b,nl,nr,hr,by omega,by rw[if_pos h0];exact h1⟩⟩,?_,by rw[if_pos h0];exact h3⟩
   cases xs with
   | nil=>cases h2
   | cons x xs=>rw[List.getLast?_cons_cons];exact h2
  ·obtain⟨xs,m,h1,h2,h3⟩:=ihr vK;refine⟨n::xs,m,⟨rfl,(Jb hr),.inr ⟨_,b,nl,nr,hr,by omega,by rw[if_neg h0];exact h1⟩⟩,?_,by rw[if_neg h0];exact h3⟩
   cases xs with
   | nil=>cases h2
   | cons x xs=>rw[List.getLast?_cons_cons];exact h2
theorem JjL(wj:Int)(rv:Option Addr)(kb:BA)(w:aA):
  CallsIn Fence.wide 3 N 223 #[aH #[O I wj,X rv],L kb] w λe w'=>e=aC (.func (.func 295) #[] #[X (Z ⟨w.heap.size,0,Y⟩),X (Z ⟨w.heap.size+1,0,Y⟩)])/\w'=(w.alloc (T #[O I wj,X rv] 146)).alloc (T #[L kb] 9):=by
 refine callsIn_wide.2 ?_;have uQ:∀(fn:Fn)(first cap:Array aG)(w:aA),(Instr.makeFunc fn first cap).run N w=.ok (.func fn first cap) w:=λ_ _ _ _=>rfl;go_enter func223,ntmps223;go_wp2;go_ret;exact⟨rfl,rfl⟩
def JgK(n₀ Bk:Nat)(W W':aA):Prop:=Below n₀ W W'/\∀v,W.cell? ⟨Bk,0,Y⟩=Z v->W'.cell? ⟨Bk,0,Y⟩=Z v
theorem Jg1(n:Nat)(hn:2<=n)(l Bt Bk n₀:Nat)(k:Key)(qL:1<=k.length)(gS:k.length<=1000000)(q:Option Nat)(xs:List Nat)(aR Jx:List Nat->aA->Prop)
 (hJ:∀H4 W m,aR H4 W->aR H4 (W.drewN m))
 (hY:∀H4 x W,aR H4 W->xs[H4.length]? =Z x->YieldAt Fence.wide (n-1) N l #[X (Z ⟨x,0,Y⟩)] W λe W'=>
 (e=aC (aL true)/\aR (H4++[x]) W'/\JgK n₀ Bk W W')\/(e=aC (aL false)/\Jx (H4++[x]) W'))
 (W:aA) (hBt:W.cell? ⟨Bt,1,Y⟩=Z (Jl q)) (fV:W.cell? ⟨Bk,0,Y⟩=Z (L ⟨k.toArray⟩)) (hL:Way n₀ k W q xs) (h0:aR [] W):
  CallsIn Fence.wide n N 295 #[.func (.yield l) #[] #[],X (Z ⟨Bt,0,Y⟩),X (Z ⟨Bk,0,Y⟩)] W λe W'=>(∃v,e=aC v)/\
   ((∃ys,ys=xs/\aR ys W')\/(∃H4,H4 <+:xs/\Jx H4 W')):=by
 obtain⟨fw,(HFW:J _)⟩:=Jpe n₀ k;refine callsIn_of_wp func295 rfl trivial ?_ rfl;simp only[ntmps295,List.size_toArray,Qp,Qv,Nat.reduceAdd,Nat.reduceSub,Array.replicate_succ,Array.replicate_zero,List.push_toArray,List.append_toArray,lJ,List.cons_append];gi_wp2;gi_loopw [4] (λp wr=>∃(H4 rest:List Nat)(q:Option Nat),p=Jl q/\xs=H4++rest/\Way n₀ k wr q rest/\wr.cell? ⟨Bk,0,Y⟩=Z (L ⟨k.toArray⟩)/\aR H4 wr)
  (λp wr=>fw wr p)
 case atStart=>exact⟨[],xs,q,rfl,rfl,hL,fV,h0⟩
 case round=>
  obtain⟨H4,rest,q,rfl,hx,hl,hbk',hJs⟩:=hrel
  cases rest with
  | nil=>
   obtain rfl:q=Y:=hl;rw[show Jl Y=X Y from rfl];gi_wp2;refine⟨λ_ h=>(by cases h),?_⟩;gi_wp2;exact bodyPost_end (v:=aI #[]) (results_none results295 _ _ _) rfl ⟨⟨_,rfl⟩,.inl ⟨H4,by simp[hx],hJs⟩⟩
  | cons x rest=>
   have sD:=hl;obtain⟨rfl,H7,hr⟩:=hl;obtain⟨fn,tmps,assign,body,hy,hR⟩:=hY H4 x wr hJs (by rw[hx];simp);rw[show Jl (Z x)=X (Z ⟨x,0,Y⟩) from rfl];gi_wp2;refine⟨λ_=>by omega,hR.mono ?_⟩;clear hR hy hY;rintro e W3 (⟨rfl,fW,zg⟩|⟨rfl,sE⟩)
   ·have hb3:W3.cell? ⟨Bk,0,Y⟩=Z (L ⟨k.toArray⟩):=zg.2 _ hbk';have jw:=Way.below zg.1 sD;obtain⟨_,_,k8⟩:=jw;have nj:fw wr (Jl (Z x))=rest.length+1:=HFW.o _ _ _ sD;have fX:J (_=_):=nj;clear hr sD nj;generalize yI:(⟨k.toArray⟩:BA)=kb at *;have qp:J (_=kb):=yI;clear yI
    rcases k8 with⟨dg,k',o,hZ,rfl⟩|⟨dg,b,nl,nr,hZ,tu,hw⟩
    ·have ht:=Jid x dg k' o k qL gS W3 hZ;rw[qp.o]at ht;gi_wp2;refine⟨trivial,λ_=>by omega,(callsIn_wide.2 ht).mono ?_⟩;rintro _ _⟨rfl,m,rfl⟩;gi_wp2;go_roundw
     case rel=>exact⟨H4++[x],[],Y,rfl,by simp[hx],rfl,by rw[qp.o];exact hb3,hJ _ _ m fW⟩
     case measure=>rw[show lG Y=Jl Y from rfl,HFW.o _ _ [] (show Way n₀ k _ Y [] from rfl),show lG (Z ⟨x,0,Y⟩)=Jl (Z x) from rfl,fX.out];simp
    ·have ht:=Jlu x dg b nl nr k tu gS W3 hZ;rw[qp.o]at ht;gi_wp2;refine⟨trivial,λ_=>by omega,(callsIn_wide.2 ht).mono ?_⟩;rintro _ _⟨rfl,m,rfl⟩;have hwm:Way n₀ k (W3.drewN m) (Z (if bt k b=0 then nl else nr)) rest:=Way.below (A:=W3) (B:=W3.drewN m) ⟨rfl,rfl,rfl,Ql _,λ_ _=>rfl⟩ hw;generalize (if bt k b=0 then nl else nr)=nx at *;gi_wp2;go_roundw
     case rel=>exact⟨H4++[x],rest,Z nx,rfl,by simp[hx],hwm,by rw[qp.o];exact hb3,hJ _ _ m fW⟩
     case measure=>rw[show lG (Z ⟨nx,0,Y⟩)=Jl (Z nx) from rfl,HFW.o _ _ _ hwm,show lG (Z ⟨x,0,Y⟩)=Jl (Z x) from rfl,fX.out];omega
   ·gi_wp2;refine bodyPost_end (v:=aI #[]) (results_none results295 _ _ _) rfl ?_;exact⟨⟨_,rfl⟩,.inr ⟨H4++[x],⟨rest,by simp[hx]⟩,sE⟩⟩
theorem Jg2(n:Nat)(hn:2<=n)(Bt Bk n₀:Nat)(k:Key)(qL:1<=k.length)(gS:k.length<=1000000)(q:Option Nat)(xs:List Nat)(w:aA)(hBt:Bt<w.heap.size)(fV:Bk<w.heap.size)(hn₀:n₀<=w.heap.size)(c1:w.cell? ⟨Bt,1,Y⟩=Z (Jl q))(c2:w.cell? ⟨Bk,0,Y⟩=Z (L ⟨k.toArray⟩))(hL:Way n₀ k w q xs):
  SeqStopsK Fence.wide n N 295 #[X (Z ⟨Bt,0,Y⟩),X (Z ⟨Bk,0,Y⟩)] (λx:Nat=> #[lG (Z ⟨x,0,Y⟩)]) (JgK n₀ Bk) (λys=>ys=xs) (λH4=>H4 <+:xs) xs.length w:=λl aR Jx W hW hJ _ hY h0=>
 Jg1 n hn l Bt Bk n₀ k qL gS q xs aR Jx (λH4 W' m h=>hJ H4 W' (W'.drewN m) Y h ⟨rfl,rfl,rfl,Ql _,λ_ _ _=>rfl⟩ (λr e=>by cases e)) (λH4 x W hJ hx=>hY H4 x W hJ (Qo.1 hx).1) W ((hW.cell (p:=⟨Bt,1,Y⟩) hBt).trans c1) ((hW.cell (p:=⟨Bk,0,Y⟩) fV).trans c2) (Way.below (hW.mono hn₀) hL) h0
theorem JdZ(wj:Int)(q:Option Nat)(k:Key)(qL:1<=k.length)(gS:k.length<=1000000)(xs:List Nat)(w:aA)(hL:Way w.heap.size k w q xs):
  CallsIn Fence.wide 4 N 269 #[aH #[O I wj,Jl q],L ⟨k.toArray⟩] w λe W'=>e=aC (Jl xs.getLast?)/\Below w.heap.size w W':=by
 have h1:1<=4:=by omega
 have yJ:Fence.wide.round=Y:=rfl;have HL:J (Way w.heap.size k w q xs):=hL;clear hL;obtain⟨rv,kE⟩:∃rv,rv=(q.map λn=>(⟨n,0,Y⟩:Addr)):=⟨_,rfl⟩
 have jy:J (Jl q=X rv):=by rw[kE];rfl
 rw[jy.o];clear kE;refine callsIn_of_wp_marks func269 rfl trivial ?_ yJ;simp only[ntmps269,List.size_toArray,Qp,Qv,Nat.reduceAdd,Nat.reduceSub,Array.replicate_succ,Array.replicate_zero,List.push_toArray,List.append_toArray,lJ,List.cons_append];gi_wp2;refine⟨trivial,(JjL _ _ _ _).mono ?_⟩;rintro _ _⟨rfl,rfl⟩;gi_wp2;obtain⟨WD,jd⟩:∃WD,WD=(((w.alloc (T #[O I wj,X rv] 146)).alloc (T #[X Y] 144)).alloc (T #[O I wj,X rv] 146)).alloc (T #[L ⟨k.toArray⟩] 9):=⟨_,rfl⟩
 rw[<-jd];have qr:Below w.heap.size w WD:=by rw[jd];exact((((Below.refl _ w).alloc (Ql _) _).alloc (by simp) _).alloc (by simp;omega) _).alloc (by simp;omega) _
 have hz:WD.heap.size=w.heap.size+4:=by rw[jd];simp
 have r1:WD.heap[w.heap.size+1]? =Z (T #[X Y] 144):=by rw[jd];exact(Below.heap_alloc _ _ _ (by simp)).trans (JQ _ _ _ _)
 have r2:WD.heap[w.heap.size+2]? =Z (T #[O I wj,X rv] 146):=by rw[jd];exact(Below.heap_alloc _ _ _ (by simp)).trans (JE _ _ _ _)
 have r3:WD.heap[w.heap.size+3]? =Z (T #[L ⟨k.toArray⟩] 9):=by rw[jd];have:=Qf (((w.alloc (T #[O I wj,X rv] 146)).alloc (T #[X Y] 144)).alloc (T #[O I wj,X rv] 146)) (T #[L ⟨k.toArray⟩] 9);simpa using this
 have xt:WD.cell? ⟨w.heap.size+1,0,Y⟩=Z (X Y):=Ja r1;have kZ:WD.frozen? ⟨w.heap.size+1,0,Y⟩=false:=Qg _ _ _ _ _ r1;refine wpIn_rangeFunc_ownF yJ h1 (gf:=295) (lb:= #[X (Z ⟨w.heap.size+1+1,0,Y⟩),X (Z ⟨w.heap.size+1+1+1,0,Y⟩)]) rfl trivial (enters_of func295 (by kernel_rfl) rfl)
  (Jg2 3 (by omega) (w.heap.size+1+1) (w.heap.size+1+1+1) w.heap.size k qL gS q xs WD (by omega) (by omega) (by omega) (by rw[jy.o];exact Ja r2) (Ja r3) (Way.below qr HL.o)) (λh k=>⟨h.1.trans k.1,λv hv=>k.2 v (h.2 v hv)⟩)
  (λW l o o' hl ho hc zD=>⟨belowK_b (w:=w) (Ql _) W l o o' (by omega) ho hc zD,λv hv=>cell_kept hv (grownBy_putObj' _ l o') (λr e=>by cases e;exact⟨o,ho,hc⟩)⟩) (Below.refl _ _) (λ_=>rfl)
  (λH4 W=>(W.cell? ⟨w.heap.size+1,0,Y⟩=Z (Jl H4.getLast?)/\W.frozen? ⟨w.heap.size+1,0,Y⟩=false)/\Below w.heap.size w W)
  (λ_ _ _=>False)
  (OwnFrom.and (Own.from (λs A B row hs hg hr=>⟨cell_kept hs.1 hg hr,(frozen_kept hs.1 hg hr).trans hs.2⟩) _) (ownFrom_below (Ql _) (by omega)))
  (λ_ _ _ _ _ hs _ _=>hs)
  ⟨⟨xt,kZ⟩,qr⟩
  (λx=>{ tmps:= #[aH #[O I wj,X rv],L ⟨k.toArray⟩,X (Z ⟨w.heap.size,0,Y⟩),undef,X Y,X (Z ⟨w.heap.size+1,0,Y⟩),X (Z ⟨x,0,Y⟩),aH #[O I wj,X rv],L ⟨k.toArray⟩,.func (.func 295) #[] #[X (Z ⟨w.heap.size+1+1,0,Y⟩),X (Z ⟨w.heap.size+1+1+1,0,Y⟩)],X (Z ⟨x,0,Y⟩),undef,undef],defers:=[] }) ?assign ?body ?done ?stop
 case assign=>intro l x W K hK;gi_wp2;exact hK
 case body=>
  rintro l H4 x W⟨⟨hc,hf⟩,hB⟩ _;gi_wp2;refine⟨KeepsOthers.setCell _ _ _,⟨(Below.refl w.heap.size W).setCell (p:=⟨w.heap.size+1,0,Y⟩) (by simp) _,λv hv=>?_⟩,⟨?_,by rw[World.frozen?_setCell];exact hf⟩,hB.setCell (p:=⟨w.heap.size+1,0,Y⟩) (by simp) _⟩
  ·rw[World.cell?_setCell_other _ _ _ _ (by simp)];exact hv
  ·rw[List.getLast?_concat];exact World.cell?_setCell_same' _ _ _ (by rw[hc];rfl)
 case done=>rintro aV ys W hD rfl⟨⟨hc,_⟩,hB⟩ hK;gi_wp2;refine⟨by simp,.inl ⟨_,_,rfl,run_takeDeferred hK,?_⟩⟩;exact⟨_,results_tmp rfl _ _ _,rfl,hB.trans (belowK_b (w:=w) (Ql _) W aV _ _ (by omega) hK rfl rfl)⟩
 case stop=>rintro aV c H4 W _ _ h _;exact h.elim
theorem Jb6(wj:Int)(k:Key)(qL:1<=k.length)(gS:k.length<=1000000)(w:aA):
  aB N 269 #[aH #[O I wj,X Y],L ⟨k.toArray⟩] w λe w'=>e=aC (X Y)/\M D w w':=
 (callsIn_wide.1 (JdZ wj Y k qL gS [] w rfl)).mono λ_ _ h=>⟨h.1,(M.of_below h.2).mono (λ_ hj=>.inr hj)⟩
theorem Jb7(wj:Nat)(hw:wj<=1000)(d:List UInt8->BA)(F:Nat->Prop)(n:Nat)(t:Tr)(k:Key)(hk:k.length=wj+1)(w:aA)(h:Jh d F w n t)(Hg:TrOk wj t):
  aB N 269 #[aH #[O I (wj:Int),X (Z ⟨n,0,Y⟩)],L ⟨k.toArray⟩] w λe w'=>∃m,e=aC (X (Z ⟨m,0,Y⟩))/\Jh d F w' m (.leaf (t.near k).1 (t.near k).2)/\M D w w':=by
 obtain⟨xs,m,h1,h2,h3⟩:=h.way hk Hg;refine(callsIn_wide.1 (JdZ (wj:Int) (Z n) k (by omega) (by omega) xs w h1)).mono ?_;rintro e w'⟨rfl,hB⟩;have hT:M D w w':=(M.of_below hB).mono (λ_ hj=>.inr hj);exact⟨m,by rw[h2];rfl,h3.next hT,hT⟩

abbrev JB(wj:Nat)(q:Option Nat):aG:=aH #[O I (wj:Int),Jl q]
theorem Jbg(E:Nat->Addr)(wj:Nat)(hw:wj<=32)(c:BA×Int)(hc:Jj wj c)(w:aA)(hE:Env E w):
  aB N 145 #[O I (wj:Int),aH #[L c.1,O I c.2]] w λe w'=>e=aC (aI #[L ⟨(Jc c).toArray⟩,aK])/\M D w w':=by
 refine(JdR E wj (by omega) c w hE).mono ?_;rintro e w'⟨h1,h2⟩;have:=(Jdc wj c c (.wr []) _ ((Jj6 wj c c hc).wr [])).1;rw[this]at h2;exact⟨h2,h1⟩
theorem Jbc(hc:Jj wj c)(ho:Jy o):TrOk wj (.leaf (Jc c) o):=by
 obtain⟨h1,h2,h3⟩:=hc;have hl:c.1.data.toList.length=wj:=by simpa using h1
 refine⟨by simp[Jc,Jf];exact h1,?_,ho⟩;have hx:=Zl c.2 h2 (by omega);have e:(Jc c).getD wj 0=lD (JD c.2):=by unfold Jc;rw[Qn,Qz (by omega),hl,Nat.sub_self];simp[Hf]
 rw[e,UInt8.toNat_ofNat'];omega
theorem ZP(E:Nat->Addr)(wj:Nat)(Hn:1<=wj)(hw:wj<=32)(F:Nat->Prop)(q:Option Nat)(st:Option Tr)(w:aA)(hE:Env E w)(h:StAt (H3 wj) F w q st):
  aB N 83 #[JB wj q] w λe w'=>e=aC (L (Xh (H3 wj) st))/\M D w w':=by
 cases st with
 | none=>
  obtain rfl:=h.of_none;have HO:J (∀W,M D w W->_):=λW hT=>JaZ E wj ⟨#[69]⟩ W (hE.tch hT noE) Hn hw (by decide);show aB _ _ #[aH #[_,X Y]] _ _;go_enter func83,ntmps83;go_wp2_with fail;refine(HO _ (Ta _ _ _)).mono ?_;rintro _ w1⟨rfl,ht⟩;have HT:J _:=(Ta D w _).trans ht noE;go_wp2;go_ret;exact⟨rfl,HT⟩
 | some t=>
  obtain⟨n,rfl,hn⟩:=h.of_some;have c0:=hn.digCell;have H7:=hn.own.2;show aB _ _ #[aH #[_,X (Z ⟨n,0,Y⟩)]] _ _;go_enter func83,ntmps83;go_wp2;go_ret;exact⟨rfl,Ta _ _ _⟩
theorem Je{P:Program}{fn:Func}{p t:Tmp}{ty:TypeId}(h:fn.results= #[.cell p ty,.tmp t])(tmps:Array aG)(w:aA)(g:Nat)(aY:TypeId)(cs:Array aG)(fr:Nat×Nat)(d:TypeDesc)
 (hp:tmps.getD p undef=X (Z ⟨g,0,Y⟩)) (hg:w.heap[g]? =Z (T cs aY fr))
 (hu:P.underlying ty=Z d) (hd:(match d with | .struct _ | .array _ _=>true|_=>false)=true) (hi:(P.info? ty).map (·.size)=Z cs.size):
  (results fn tmps).run P w=.ok (aI #[aH cs,tmps.getD t undef]) w:=by
 have vF:tmps[p]?.getD undef=X (Z ⟨g,0,Y⟩):=by simpa using hp
 simp[results,h,vF,asAddr,run_loadVar_row w g aY ty cs fr d hg hu hd hi]
structure JbT(w W:aA)(wj:Nat)(q:Option Nat)(c:BA×Int)(o:Nat×Nat):Prop where
 t:W.heap[w.heap.size]? =Z (T #[O I (wj:Int),Jl q] 146)
 c:W.heap[w.heap.size+1]? =Z (T #[L c.1,O I c.2] 49)
 oo:W.heap[w.heap.size+2]? =Z (T #[O aD (o.1:Int),O aE (o.2:Int)] 80)
 r:W.heap[w.heap.size+3]? =Z (T #[O I 0,X Y] 146)
theorem JbT.next{W':aA}(h:JbT w W wj q c o)(k:M D W W'):JbT w W' wj q c o:=
 ⟨(k.block _ (Jb h.t) (λh=>h)).trans h.t,(k.block _ (Jb h.c) (λh=>h)).trans h.c,(k.block _ (Jb h.oo) (λh=>h)).trans h.oo,(k.block _ (Jb h.r) (λh=>h)).trans h.r⟩
theorem Jbs(w:aA)(o0 o1 o2 o3:Obj):((((w.alloc o0).alloc o1).alloc o2).alloc o3).heap[w.heap.size+3]? =Z o3:=by
 have:=Qf (((w.alloc o0).alloc o1).alloc o2) o3;simpa using this
theorem Xs(w:aA)(o0 o1 o2 o3:Obj)(k:Nat)(h:k<w.heap.size+3):((((w.alloc o0).alloc o1).alloc o2).alloc o3).heap[k]? =(((w.alloc o0).alloc o1).alloc o2).heap[k]? :=Below.heap_alloc _ _ _ (by simp;omega)
theorem Jin(w:aA)(wj:Nat)(q:Option Nat)(c:BA×Int)(o:Nat×Nat):JbT w ((((w.alloc (T #[O I (wj:Int),Jl q] 146)).alloc (T #[L c.1,O I c.2] 49)).alloc (T #[O aD (o.1:Int),O aE (o.2:Int)] 80)).alloc (T #[O I 0,X Y] 146)) wj q c o:=
 ⟨(Xs _ _ _ _ _ _ (by omega)).trans (JU _ _ _ _),(Xs _ _ _ _ _ _ (by omega)).trans (JQ _ _ _ _),(Xs _ _ _ _ _ _ (by omega)).trans (JE _ _ _ _),Jbs _ _ _ _ _⟩
theorem Jh.tchT{t:Tr}(h:Jh d F w n t)(k:M S w w')(hs:∀j cs,S j->w.heap[j]? ≠ Z (T cs 243)):Jh d F w' n t:=by
 induction h using Jh.ri with
 | leaf n key o hF hr=>exact .leaf n key o hF ((k.block n (Jb hr) (λe=>hs n _ e hr)).trans hr)
 | br n b nl nr l r hF hr _ _ ihl ihr=>exact .br n b nl nr l r hF ((k.block n (Jb hr) (λe=>hs n _ e hr)).trans hr) ihl ihr
theorem StAt.row{st:Option Tr}{g:Nat}{cur cs:Array aG}{aY:TypeId}(h:StAt d F w q st)(hr:w.heap[g]? =Z (T cur aY))(hT:aY ≠ 243):StAt d F (w.setRow g cs) q st:=by
 have hs:∀j c,j=g->w.heap[j]? ≠ Z (T c 243):=λj c e e'=>by
  subst e;rw[hr]at e';simp at e';exact hT e'.2
 cases q<;>cases st<;>first|exact h|exact Jh.tchT h (Ts w g cs) hs
def JlP(E:Nat->Addr)(wj:Nat)(F:Nat->Prop)(r:Except Er (Option Tr))(e:Ending)(w':aA):Prop:=match r with
 | .ok st'=>∃q',e=aC (aI #[JB wj q',aK])/\StAt (H3 wj) F w' q' st'
 | .error _=>e=aC (aI #[aH #[O I 0,X Y],eV E 2])
theorem TrOk.near{t:Tr}{k:Key}(h:TrOk wj t):(t.near k).1.length=wj+1:=by
 induction t using Tr.ri with
 | leaf k' o=>exact h.1
 | br b l r ihl ihr=>
  simp only[Tr.near]
  split
  ·exact ihl h.2.1
  ·exact ihr h.2.2
theorem JnT(E:Nat->Addr)(wj:Nat)(Hn:1<=wj)(hw:wj<=32)(F:Nat->Prop)(q:Option Nat)(st:Option Tr)(c:BA×Int)(hc:Jj wj c)(o:Nat×Nat)(ho:Jy o)(w:aA)(hE:Env E w)(hF:∀j,w.heap.size<=j->F j)(hs:StAt (H3 wj) F w q st)(Hg:StOk wj st):
  aB N 191 #[JB wj q,aH #[L c.1,O I c.2],aH #[O aD (o.1:Int),O aE (o.2:Int)]] w λe w'=>M D w w'/\JlP E wj F (Zo st (Jc c) o) e w':=by
 have ju:=Xg hc;have HL:J _:=Jbc hc ho;have bR:J (∀W,M D w W->_):=λW hT=>Jbg E wj hw c hc W (hE.tch hT noE);have nh:J (∀W,M D w W->aB N 268 #[O I (wj:Int),L ⟨(Jc c).toArray⟩,aH #[O aD (o.1:Int),O aE (o.2:Int)]] W λe w'=>∃n,e=aC (aI #[X (Z ⟨n,0,Y⟩),aK])/\Jh (H3 wj) F w' n (.leaf (Jc c) o)/\M D W w'):=λW hT=>(Jhv E wj Hn hw (Jc c) o HL W (hE.tch hT noE)).mono λe w' ⟨n,h1,h2,h3,h4⟩=>⟨n,h1,.leaf n _ _ (hF n (Qm hT.size h2)) h3,h4⟩
 have HS:J (StAt (H3 wj) F w q st):=hs;have HE:J _:=hE;have HF:J _:=hF;have yF:J _:=Hg;have kN:=Jin w wj q c o;obtain⟨rv,kE⟩:∃rv,rv=(q.map λn=>(⟨n,0,Y⟩:Addr)):=⟨_,rfl⟩
 have mz:Jl q=X rv:=by rw[kE]
 obtain⟨cs,cn⟩:=c;obtain⟨oa,oo⟩:=o;dsimp only at bR nh kN ⊢;show aB _ _ #[aH #[_,Jl q],_,_] _ _;rw[mz];have zF:J _:=mz;clear mz kE;have qY:M D w ((((w.alloc (T #[O I (wj:Int),X rv] 146)).alloc (T #[L cs,O I cn] 49)).alloc (T #[O aD (oa:Int),O aE (oo:Int)] 80)).alloc (T #[O I 0,X Y] 146)):=(M.allocs3 D w _ _ _).trans (Ta _ _ _) (λ_ h=>.inl h);have bS:J _:=qY;have qA:J (JbT w ((((w.alloc (T #[O I (wj:Int),X rv] 146)).alloc (T #[L cs,O I cn] 49)).alloc (T #[O aD (oa:Int),O aE (oo:Int)] 80)).alloc (T #[O I 0,X Y] 146)) wj q (cs,cn) (oa,oo)):=by rw[<-zF.o];exact kN
 go_enter func191,ntmps191;go_wp2_with fail;refine(bR _ bS).mono ?_;rintro _ w1⟨rfl,H9⟩;have H5:J (M D w w1):=bS.trans H9 noE;have b1:=qA.o.next H9;have kf:J _:=b1;obtain⟨a0, -⟩:=rows b1.t;obtain⟨a1,a2⟩:=rows b1.oo;generalize yI:(⟨(Jc (cs,cn)).toArray⟩:BA)=kb at *;have qp:J _:=yI;go_wp2_with fail;refine(nh.o _ H5.o).mono ?_;rintro _ w2⟨ln,rfl,(gd:J _),Ha⟩;have H6:J _:=H5.trans Ha noE;have b2:=kf.o.next Ha;have jo:J _:=b2;obtain⟨d0, -⟩:=rows b2.t;have d1:w2.cell? ⟨w.heap.size,1,Y⟩=Z (X rv):=by rw[<-zF.o];exact Ja b2.t
 clear Ha b2 nh kf H5 a0 a1 a2
 cases st with
 | none=>
  obtain rfl:=HS.of_none;obtain rfl:rv=Y:=by have:=zF.o;simpa [Jl]using this.symm
  have HN:J (aB N 269 #[aH #[O I (wj:Int),X Y],L kb] w2 λe w'=>e=aC (X Y)/\M D w2 w'):=by have:=Jb6 (wj:Int) (Jc (cs,cn)) (by omega) (by omega) w2;rw[qp.o]at this;exact this
  go_wp2_with fail;refine HN.o.mono ?_;rintro _ w3⟨rfl,Hs⟩;have b3:=jo.o.next Hs;obtain⟨e0, -⟩:=rows b3.t;obtain⟨r0,r1⟩:=rows b3.r;have fR:∀j,w3.frozen? ⟨w.heap.size+1+1+1,j,Y⟩=false:=λj=>Qg _ _ _ _ _ b3.r;have RR:J _:=b3.r;have Hb:J _:=H6.trans Hs noE;have sF:J _:=gd.next Hs;go_wp2;rw[set2 _ _ _ _ _ _ _ RR.out];refine QK (v:=aI #[aH #[O I (wj:Int),X (Z ⟨ln,0,Y⟩)],aK]) (Je results191 _ _ (w.heap.size+1+1+1) _ _ (0,0) _ rfl (Qi _ _ _ _ _ _ RR) underlying146 rfl (by kernel_rfl)) rfl ⟨?_,Z ln,rfl,?_⟩
  ·exact Hb.trans (Ts _ _ _) (λj hj=>.inr (by omega))
  ·exact StAt.row (q:=Z ln) (st:=Z _) sF RR (by decide)
 | some t=>
  obtain⟨n,rfl,hn⟩:=HS.of_some;obtain rfl:rv=Z ⟨n,0,Y⟩:=by have:=zF.o;simpa [Jl]using this.symm
  have rl:J _:=yF.o;have rp:J _:=hn.next H6.o;have HN:J (aB N 269 #[aH #[O I (wj:Int),X (Z ⟨n,0,Y⟩)],L kb] w2 λe w'=>∃m,e=aC (X (Z ⟨m,0,Y⟩))/\Jh (H3 wj) F w' m (.leaf (t.near (Jc (cs,cn))).1 (t.near (Jc (cs,cn))).2)/\M D w2 w'):=by have:=Jb7 wj (by omega) (H3 wj) F n t (Jc (cs,cn)) ju w2 rp rl.o;rw[qp.o]at this;exact this
  go_wp2_with fail;refine HN.mono ?_;rintro _ w3⟨m,rfl,hm,Hs⟩;have b3:=jo.o.next Hs;obtain⟨e0,e1⟩:=rows b3.t;obtain⟨r0,r1⟩:=rows b3.r;have fR:∀j,w3.frozen? ⟨w.heap.size+1+1+1,j,Y⟩=false:=λj=>Qg _ _ _ _ _ b3.r;have qZ:w3.cell? ⟨m,1,Y⟩=Z (L ⟨(t.near (Jc (cs,cn))).1.toArray⟩):=Ja hm.a.2;have xy:=hm.own.2;have hnk:=rl.o.near (k:=Jc (cs,cn));have Hb:J _:=H6.trans Hs noE;have sF:J _:=gd.next Hs;have dA:J _:=rp.next Hs;have yi:J _:=b3;have bQ:=(HE.tch Hb noE).exist;generalize hNB:(⟨(t.near (Jc (cs,cn))).1.toArray⟩:BA)=nb at *;have zo:J _:=hNB
  by_cases qD:(t.near (Jc (cs,cn))).1=Jc (cs,cn)
  ·have rq:nb=kb:=(by rw[<-zo.o,qD];exact qp.o);have HWE:J (Zo (Z t) (Jc (cs,cn)) (oa,oo)=.error .exist):=if_pos qD;subst rq;go_wp2;go_region
   all_goals
    go_wp2;rw[set2 _ _ _ _ _ _ _ yi.o.r];refine QK (v:=aI #[aH #[O I 0,X Y],eV E 2]) (Je results191 _ _ (w.heap.size+1+1+1) _ _ (0,0) _ rfl (Qi _ _ _ _ _ _ yi.r) underlying146 rfl (by kernel_rfl)) rfl ⟨?_,?_⟩
    ·exact(Hb.trans (Td D w3 1) noE).trans (Ts _ _ _) (λj hj=>.inr (by omega))
    ·rw[HWE.o];rfl
  ·have jb:nb.data.toList=(t.near (Jc (cs,cn))).1:=(by rw[<-zo.o]);have sG:kb.data.toList=Jc (cs,cn):=(by rw[<-qp.o]);have Hl:(nb.toList == kb.toList)=false:=by
    rw[ByteArray.toList_eq,ByteArray.toList_eq,jb,sG];simpa using qD
   have zl:J (Zo (Z t) (Jc (cs,cn)) (oa,oo)=.ok (Z (t.graft (Jc (cs,cn)) (oa,oo) (fd (t.near (Jc (cs,cn))).1 (Jc (cs,cn)))))):=if_neg qD;have hfd:=JjN (t.near (Jc (cs,cn))).1 (Jc (cs,cn)) (by omega) qD;have HFD:J (∀W,aB N 271 #[L nb,L kb] W λe w'=>e=aC (O I (fd (t.near (Jc (cs,cn))).1 (Jc (cs,cn)):Int))/\∃n,w'=W.drewN n):=λW=>by
    have:=JkD (t.near (Jc (cs,cn))).1 (Jc (cs,cn)) (by omega) qD (by omega) W;rw[zo.o,qp.o]at this;exact this
   have uR:J (∀W,M D w3 W->aB N 270 #[aH #[O I (wj:Int),X (Z ⟨n,0,Y⟩)],X (Z ⟨n,0,Y⟩),X (Z ⟨ln,0,Y⟩),O I (fd (t.near (Jc (cs,cn))).1 (Jc (cs,cn)):Int)] W λe w'=>∃m,e=aC (aI #[X (Z ⟨m,0,Y⟩),aK])/\Jh (H3 wj) F w' m (t.graft (Jc (cs,cn)) (oa,oo) (fd (t.near (Jc (cs,cn))).1 (Jc (cs,cn))))/\M D W w'):=λW hT=>
    JkI E wj Hn hw F _ _ _ HL _ (by have:=hfd.1;omega) ln t n W rl (HE.tch (Hb.trans hT noE) noE) (λj hj=>HF j (Qm (Hb.trans hT noE).size hj)) (dA.next hT) (sF.next hT)
   generalize fd (t.near (Jc (cs,cn))).1 (Jc (cs,cn))=dd at *;have hz3:=(Jb yi.r)
   go_wp2_with fail;go_region_held3 (λW=>W.cell? ⟨w.heap.size,0,Y⟩=Z (O I (wj:Int))/\W.cell? ⟨w.heap.size,1,Y⟩=Z (X (Z ⟨n,0,Y⟩))/\W.cell? ⟨m,1,Y⟩=Z (L nb)) (go_keep) ((first|(go_at_call 271;refine(HFD _).mono ?_;rintro _ _⟨rfl,m5,rfl⟩)|(go_at_call 270;refine(uR _ (Td D w3 _)).mono ?_;rintro _ w4⟨g4,rfl,(sH:J _),Hu⟩;have xD:=(Td D w3 _).trans Hu noE;have f0:=(xD.cell (p:=⟨w.heap.size,0,Y⟩) (by show w.heap.size<_;omega) (λh=>h)).trans e0;have f1:=(xD.cell (p:=⟨w.heap.size,1,Y⟩) (by show w.heap.size<_;omega) (λh=>h)).trans e1;have f2:=(xD.cell (p:=⟨m,1,Y⟩) xy (λh=>h)).trans qZ;have Hm:J _:=xD;clear Hu xD)))
   all_goals
    have b4:=yi.o.next Hm.o;obtain⟨s0,s1⟩:=rows b4.r;have fS:∀j,w4.frozen? ⟨w.heap.size+1+1+1,j,Y⟩=false:=λj=>Qg _ _ _ _ _ b4.r;have RR:J _:=b4.r;go_wp2;rw[set2 _ _ _ _ _ _ _ RR.out];refine QK (v:=aI #[aH #[O I (wj:Int),X (Z ⟨g4,0,Y⟩)],aK]) (Je results191 _ _ (w.heap.size+1+1+1) _ _ (0,0) _ rfl (Qi _ _ _ _ _ _ RR) underlying146 rfl (by kernel_rfl)) rfl ⟨?_,?_⟩
    ·exact(Hb.trans Hm noE).trans (Ts _ _ _) (λj hj=>.inr (by omega))
    ·rw[zl.o];exact⟨Z g4,rfl,StAt.row (q:=Z g4) (st:=Z _) sH RR (by decide)⟩
