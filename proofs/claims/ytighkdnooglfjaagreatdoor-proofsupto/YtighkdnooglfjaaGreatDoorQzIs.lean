import Derived.Test.YtighkdnooglfjaaGreatDoorQzNum
import Derived.Stop.Asserts
import Derived.RowKitTokens
open Go renaming Calls->aB,Value->aG,World->aA
open Go.Ending renaming returned->aC
open Go.IntKind renaming i64->I,u64->aD,u8->aE,u64->lM
open Go.Obj renaming cells->T
open Go.Proofs.Tryz renaming prog->N
open Go.RowKit renaming Hid->J
open Go.Value renaming agg->aH,bool->aL,iface->aJ,int->O,nilIface->aK,pointer->X,slice->R,string->L,tuple->aI
open Option renaming none->Y,some->Z,none->lE,map_eq_some_iff->lG
open Or renaming inl->aM,inr->aN
open Array renaming toList_inj->lK
open Go.Instr renaming typeAssert->lD
open List renaming replicate->lC,append_inj->lF,headD_cons->lH,size_toArray->lI,getElem_map->lJ
open UInt8 renaming ofNat->lN
set_option maxRecDepth 100000
set_option maxHeartbeats 2000000
namespace Go.Proofs.YtighkdnooglfjaaGreatDoor
open Tryz
open Go.RowKit Go.Extern.Stop Go.Stop Go.Extern

variable {cs cur:Array aG}{a what:BA}{c:BA×Int}{e:Ending}{wj:Int}{s:List UInt8}{d:List UInt8->BA}{l:List VV}{B aZ b k least m most n r size x:Nat}{E:Nat->Addr}{S:Nat->Prop}{g g':Option Nat}{st st2:Option PS}{p p1:PS}{α:Type}{aY:TypeId}{v:aG}{w w' w1 w2:aA}
def Jpf:Array aG->Sem aG:=Extern.ReflectliteType.method λt=>do Extern.Rtype.noPackHeld "Comparable" t;pure (aL (<-typeInfo t).comparable)
theorem Jme(v:aG)(w:aA):(Extern.ReflectliteType.typeOf #[aJ 509 v]).run N w=.ok (aJ 338 (aH #[X (Z ⟨18,509,Y⟩)])) w:=by kernel_rfl
theorem Jf3(w:aA):(Jpf #[aH #[X (Z ⟨18,509,Y⟩)]]).run N w=.ok (aL true) w:=by kernel_rfl
theorem JbD(v:aG)(w:aA):(Go.method 641 338 v "Comparable").run N w=.ok (392,v) w:=by kernel_rfl
theorem JpC:(prog.info? 509).map (·.comparable)=Z true:=by kernel_rfl
theorem JpD:(prog.info? 531).map (·.size)=Z 1:=by kernel_rfl
theorem Jqy(v:aG)(xT:TypeId)(w:aA):(lD (aJ 509 v) xT 340 true).run N w=.ok (aI #[aK,aL false]) w:=run_typeAssert_lacksB underlying340 (by kernel_rfl) (by kernel_rfl) v xT w
theorem JkL(v:aG)(xT:TypeId)(w:aA):(lD (aJ 509 v) xT 343 true).run N w=.ok (aI #[aK,aL false]) w:=run_typeAssert_lacksB underlying343 (by kernel_rfl) (by kernel_rfl) v xT w
theorem JiJ(v:aG)(xT:TypeId)(w:aA):(lD (aJ 509 v) xT 344 true).run N w=.ok (aI #[aK,aL false]) w:=run_typeAssert_lacksB underlying344 (by kernel_rfl) (by kernel_rfl) v xT w
theorem Jqz(v:aG)(xT:TypeId)(w:aA):(lD (aJ 235 v) xT 340 true).run N w=.ok (aI #[aK,aL false]) w:=run_typeAssert_lacksB underlying340 (by kernel_rfl) (by kernel_rfl) v xT w
theorem Jiy(v:aG)(xT:TypeId)(w:aA):(lD (aJ 235 v) xT 343 true).run N w=.ok (aI #[aJ 235 v,aL true]) w:=run_typeAssert_hasB underlying343 (by kernel_rfl) v xT w
theorem Jga(v:aG)(w:aA):(Go.method 641 235 v "Unwrap").run N w=.ok (387,v) w:=by kernel_rfl

def Ss:List Nat:=[0,1,2,3,4,5,6,7]
structure Sent(E:Nat->Addr)(w:aA):Prop where
 row:∀g∈Ss,∃ca ta,w.heap[(E g).block]? =Z (T ca ta (0,0))
 inj:∀g∈Ss,∀h∈Ss,E g=E h->g=h
theorem Sent.tch(h:Sent E w)(k:M S w w')(hs:∀g∈Ss,¬S (E g).block):Sent E w':=
 ⟨λg hg=>by obtain⟨ca,ta,hr⟩:=h.row g hg;exact⟨ca,ta,(k.block _ (Jb hr) (hs g hg)).trans hr⟩,h.inj⟩
inductive ErrN (E:Nat->Addr) (g:Nat) (w:aA):aG->Nat->Prop where
 | base:ErrN E g w (eV E g) 0
 | wrap (p:Nat) (s:BA) (v:aG) (n:Nat):w.heap[p]? =Z (T #[L s,v] 237)->ErrN E g w v n->ErrN E g w (aJ 235 (X (Z ⟨p,0,Y⟩))) (n+1)
theorem Jn.len{g:Nat}(h:Jn E g w v):∃n,ErrN E g w v n:=by
 induction h with
 | base=>exact⟨0,.base⟩
 | wrap p s u hp _ ih=>obtain⟨n,hn⟩:=ih;exact⟨n+1,.wrap p s u n hp hn⟩
theorem ErrN.unique{g:Nat}(h:ErrN E g w v n)(h':ErrN E g w v m):n=m:=by
 induction h generalizing m with
 | base=>cases h';rfl
 | wrap p s u n hp h1 ih=>
  cases h' with
  | wrap _ s2 u2 n2 kJ h2=>
   rw[hp]at kJ;simp only[Qh,Obj.cells.injEq,and_true]at kJ;have:u=u2:=(by have:=congrArg (λa=>a[1]?) kJ;simpa using this);subst this;rw[ih h2]
open Classical in
noncomputable def Jf1(E:Nat->Addr)(g:Nat)(w:aA)(v:aG):Nat:=if h:∃n,ErrN E g w v n then h.choose else 0
theorem Jfd{g:Nat}(h:ErrN E g w v n):Jf1 E g w v=n:=by
 unfold Jf1;rw[dif_pos ⟨n,h⟩];exact ErrN.unique (Exists.choose_spec ⟨n,h⟩) h

theorem JpE(g t:Nat)(hg:g∈Ss)(ht:t∈Ss)(hS:Sent E w)(v:aG)(n:Nat)(hv:ErrN E g w v n):
  aB N 132 #[v,eV E t,aL true] w λe w'=>e=aC (aL (g == t))/\w'=w:=by
 obtain⟨i,hi,zK⟩:=lG.1 JpC;obtain⟨j,hj,hjs⟩:=lG.1 JpD;obtain⟨ca,ta,ha⟩:=hS.row g hg;obtain⟨cb,tb,hb⟩:=hS.row t ht;have HI:J (E g=E t->g=t):=hS.inj g hg t ht;clear hS hg ht;have nE:=Jqy;have uE:=JkL;have vE:=JiJ;have nW:=Jqz;have uW:=Jiy;have mU:=Jga;go_enter func132,ntmps132;go_wp2;go_loopw [0] (λE' wl=>wl=w/\∃m,ErrN E g w E' m) (λE' _=>Jf1 E g w E')
 case atStart=>exact⟨rfl,n,hv⟩
 case round=>
  obtain⟨rfl,m,hm⟩:=hrel
  cases hm with
  | base=>
   by_cases zL:g=t
   ·subst zL;have jb:=run_eql_iface_ptr_same (P:=N) wr (E g) underlying92 underlying509 hi zK hj;go_wp2;go_ret;exact⟨by simp,rfl⟩
   ·have Hd:E g ≠ E t:=λe=>zL (HI.o e);have jb:=run_eql_iface_ptr_other (P:=N) wr underlying92 underlying509 hi zK hj (by rw[hjs];decide) Hd ha hb;go_wp2;go_ret;exact⟨by rw[beq_eq_false_iff_ne.2 zL];rfl,rfl⟩
  | wrap p s u m1 hp h1=>
   have hty:=run_eql_iface_types (P:=N) 235 509 (X (Z ⟨p,0,Y⟩)) (X (Z (E t))) underlying92 (by decide) wr;have Hl:=Jfd h1;have zp:=Jfd (ErrN.wrap p s u m1 hp h1);have c1:wr.cell? ⟨p,1,Y⟩=Z u:=Ja hp;have Hd:∃a b,u=aJ a b:=(by cases h1<;>exact⟨_,_,rfl⟩);obtain⟨u1,v1,rfl⟩:=Hd;have HC:J _:=h1;clear h1;go_wp2;go_roundw
   case rel=>exact⟨trivial,m1,HC.o⟩
   case measure=>show Jf1 E g wr (aJ u1 v1)<_;rw[Hl,zp];omega

theorem Jpl(g t:Nat)(hg:g∈Ss)(ht:t∈Ss)(hS:Sent E w)(v:aG)(hv:Jn E g w v):
  aB N 75 #[v,eV E t] w λe w'=>e=aC (aL (g == t))/\w'=w:=by
 have h10:= @run_callFunc_extern N 131 _ Extern.ReflectliteType.typeOf func131 (by kernel_rfl) (by kernel_rfl) (by kernel_rfl) (by kernel_rfl);have h30:= @run_callFunc_extern N 392 _ Jpf func392 (by kernel_rfl) (by kernel_rfl) (by kernel_rfl) (by kernel_rfl);have tT:=Jme;have cT:=Jf3;have mR:=JbD;obtain⟨a,b,rfl⟩:=hv.iface;obtain⟨n,hn⟩:=hv.len;have hcon:=JpE g t hg ht hS (aJ a b) n hn;clear hv hn hS hg ht;go_enter func75,ntmps75;go_wp2_with (first|(go_at_call 132;refine hcon.mono ?_;rintro e w'⟨rfl,rfl⟩)|go_in);go_ret;exact⟨rfl,rfl⟩
open Go.RowKit

def JlU(g:Nat):Int:=if g=0 then 2 else if g=1 then 3 else if g=2 then 4 else if g=3 then 5 else if g=4 then 6 else if g=5 then 7 else if g=6 then 8 else 1
theorem Jbb(w:aA):aB N 42 #[aK] w λe w'=>e=aC (O I 0)/\w'=w:=by
 go_enter func42,ntmps42;go_wp2;go_ret;exact⟨rfl,rfl⟩
theorem Jkp(g:Nat)(hg:g∈Ss)(hE:Env E w)(hS:Sent E w)(v:aG)(hv:Jn E g w v):
  aB N 42 #[v] w λe w'=>e=aC (O I (JlU g))/\w'=w:=by
 have HI:J (∀t∈Ss,_):=λt ht=>Jpl g t hg ht hS v hv;obtain⟨a,b,rfl⟩:=hv.iface;have c0:=hE.tip;have c1:=hE.input;have c2:=hE.exist;have c3:=hE.sum;have c4:=hE.root;have c5:=hE.range;have c6:=hE.form;have c7:=hE.torn;have hg':g=0\/g=1\/g=2\/g=3\/g=4\/g=5\/g=6\/g=7:=by simpa [Ss]using hg
 rcases hg' with rfl|rfl|rfl|rfl|rfl|rfl|rfl|rfl
 all_goals go_enter func42,ntmps42;go_wp2_with (go_at_call 75;refine(HI _ (by decide)).mono ?_;rintro _ _⟨rfl,rfl⟩);go_ret;exact⟨rfl,rfl⟩

def Jg(E:Nat->Addr)(w:aA)(b:Nat)(g:Option Nat)(wj:Int):Option PS->Prop
 | some p=>Jd w b g wj aK p
 | none=>∃p t u,Jd w b g wj (aJ t u) p/\Jn E 7 w (aJ t u)
def JP:Option PS->Nat
 | some p=>p.len
 | none=>0
def JF(x k:Nat)(st:Option PS):Nat×Option PS:=match st.bind (PS.num x k) with
 | some (m,p)=>(m,Z p)
 | none=>(0,Y)
def Jk(s:List UInt8)(k:Nat)(st:Option PS):List UInt8×Option PS:=match st.bind (PS.txt s k) with
 | some (t,p)=>(t,Z p)
 | none=>([],Y)
theorem JS(h:p.num x k=Z (m,p1)):JF x k (Z p)=(m,Z p1):=by simp[JF,h]
theorem ZL(h:p.num x k=Y):JF x k (Z p)=(0,Y):=by simp[JF,h]
theorem Jld(x k:Nat):JF x k Y=(0,Y):=rfl
theorem JN{t:List UInt8}(h:p.txt s k=Z (t,p1)):Jk s k (Z p)=(t,Z p1):=by simp[Jk,h]
theorem Yb(h:p.txt s k=Y):Jk s k (Z p)=([],Y):=by simp[Jk,h]
theorem Jg.at(h:Jg E w b g wj st):∃p e,Jd w b g wj e p/\(e=aK\/∃t u,e=aJ t u):=by
 cases st with
 | some p=>exact⟨p,_,h,aM rfl⟩
 | none=>obtain⟨p,t,u,h,_⟩:=h;exact⟨p,_,h,aN ⟨t,u,rfl⟩⟩
theorem Jg.lt(h:Jg E w b g wj st):b<w.heap.size:=by
 obtain⟨p,e,h,_⟩:=h.at;exact h.lt
theorem Jg.own(h:Jg E w b g wj st):∀k,g=Z k->b<k/\k<w.heap.size:=by
 obtain⟨p,e,h,_⟩:=h.at;exact h.own
theorem Jg.width(h:Jg E w b g wj st):w.cell? ⟨b,1,Y⟩=Z (O I wj):=by
 obtain⟨p,e,h,_⟩:=h.at
 cases p with
 | rd q r=>exact Ja h.2
 | wr d=>obtain⟨v,_,_,hr⟩:=h;exact Ja hr
theorem Jg.same{width':Int}{st':Option PS}(h:Jg E w b g wj st)(k:Jg E w b g' width' st'):g=g':=by
 obtain⟨p,e,h,_⟩:=h.at;obtain⟨p',e',k,_⟩:=k.at;exact h.same k
theorem Jg.tch(h:Jg E w b g wj st)(k:M S w w')(hb:¬S b)(hg:∀j,g=Z j->¬S j)(hs:∀p s u,w.heap[p]? =Z (T #[L s,u] 237)->¬S p):Jg E w' b g wj st:=by
 cases st with
 | some p=>exact Jd.tch h k hb hg
 | none=>obtain⟨p,t,u,h1,h2⟩:=h;exact⟨p,t,u,h1.tch k hb hg,h2.tch k hs⟩
theorem Jg.next(h:Jg E w b g wj st)(k:M D w w'):Jg E w' b g wj st:=
 h.tch k (λh=>h) (λ_ _ h=>h) (λ_ _ _ _ h=>h)
theorem Jg.row(h:Jg E w b g wj st)(hr:w.heap[r]? =Z (T cur aY))(hT:aY ≠ 237)(hb:¬(r=b\/Z r=g)):Jg E (w.setRow r cs) b g wj st:=
 h.tch (Ts w r cs) (λe=>hb (aM e.symm)) (λj hj e=>hb (aN (by rw[hj,e]))) (λp s u hp e=>by subst e;rw[hr]at hp;simp at hp;exact hT hp.2)
def StTo(E:Nat->Addr)(w w':aA)(b:Nat)(g:Option Nat)(wj:Int)(st':Option PS):Prop:=
 ∃g',Jg E w' b g' wj st'/\Jq w g g'/\M (λk=>k=b\/Z k=g) w w'
theorem StTo.trans{g1:Option Nat}(hm:Jq w g g1)(h:M (λk=>k=b\/Z k=g) w w1)(k:StTo E w1 w2 b g1 wj st2):StTo E w w2 b g wj st2:=by
 obtain⟨g2,h1,h2,h3⟩:=k;exact⟨g2,h1,hm.trans h2 h.size,Yx h h3 hm⟩
theorem StTo.fresh(h:M D w w1)(k:StTo E w1 w2 b g wj st2):StTo E w w2 b g wj st2:=by
 obtain⟨g2,h1,h2,h3⟩:=k;refine⟨g2,h1,?_,(h.mono noE).trans h3 (λ_ h=>aM h)⟩
 rcases h2 with h2|⟨i,h2,hi⟩
 ·exact aM h2
 ·exact aN ⟨i,h2,Qm h.size hi⟩
theorem StTo.row(k:StTo E w w2 b g wj st2)(hw:w.heap.size<=r)(hr:w2.heap[r]? =Z (T cur aY))(hT:aY ≠ 237)(hb:¬r=b)(hg:∀g',Jq w g g'->Jg E w2 b g' wj st2->Z r ≠ g'):StTo E w (w2.setRow r cs) b g wj st2:=by
 obtain⟨g2,h1,h2,h3⟩:=k;exact⟨g2,h1.row hr hT (by rintro(e|e);exact hb e;exact hg g2 h2 h1 e),h2,h3.trans (Ts w2 r cs) (λj hj=>aN (by omega))⟩
theorem Jcj(ri:18<=b)(h:Jg E w b g wj st):∀j,(j=b\/Z j=g)->18<=j:=by
 rintro j (rfl|e)
 ·exact ri
 ·have:=(h.own j e.symm).1;omega
theorem Ji7(h:Jg E w b g wj st)(k:Nat)(hk:w.heap.size<=k):¬(k=b\/Z k=g):=by
 have h1:=h.lt;rintro(rfl|e)
 ·omega
 ·have:=(h.own k e.symm).2;omega
theorem Jck{wA:aA}(h:Jg E w b g wj st)(hm:Jq wA g g')(k:Nat)(hk:w.heap.size<=k)(hA:k<wA.heap.size):¬(k=b\/Z k=g'):=by
 rcases hm with rfl|⟨i,rfl,hi⟩
 ·exact Ji7 h k hk
 ·have h1:=h.lt;rintro(rfl|e)
  ·omega
  ·cases e;omega
theorem Jbm(x k:Nat)(st:Option PS):JP (JF x k st).2<=JP st+k:=by
 unfold JF
 cases st with
 | none=>simp[JP]
 | some p=>
  simp only[Qu]
  cases h:p.num x k with
  | none=>simp[JP]
  | some r=>exact ZP _ _ _ _ _ h
theorem YD(s:List UInt8)(k:Nat)(st:Option PS):JP (Jk s k st).2<=JP st+k:=by
 unfold Jk
 cases st with
 | none=>simp[JP]
 | some p=>
  simp only[Qu]
  cases h:p.txt s k with
  | none=>simp[JP]
  | some r=>exact Jgw _ _ _ _ _ h
theorem Jch(x k:Nat)(st:Option PS):(JF x k st).1<256 ^ k:=by
 have qX:0<256 ^ k:=Nat.pow_pos (by decide);unfold JF
 cases st with
 | none=>exact qX
 | some p=>
  simp only[Qu]
  cases h:p.num x k with
  | none=>exact qX
  | some r=>
   obtain⟨m,p'⟩:=r;show m<256 ^ k
   cases p with
   | rd q r=>
    simp only[PS.num]at h
    split at h
    ·cases h
     have h1:=Ys (r.take k);have h2:256 ^ (r.take k).length<=256 ^ k:=Nat.pow_le_pow_right (by decide) (by rw[QB];omega);omega
    ·cases h
   | wr d=>
    simp only[PS.num]at h
    split at h
    ·rename_i hx
     cases h
     rw[Nat.div_eq_zero_iff]at hx;have e:(256:Nat) ^ k=2 ^ (8*k):=by rw[Nat.pow_mul]
     rcases hx with hx|hx
     ·have:0<2 ^ (8*k):=Nat.pow_pos (by decide);omega
     ·omega
    ·cases h
theorem Jah(E:Nat->Addr)(b:Nat)(g:Option Nat)(wj:Int)(x n:Nat)(st:Option PS)(w:aA)(hE:Env E w)(hp:Jg E w b g wj st)(h8:n<=8)(hd:JP st<=10000000000000):
  aB N 138 #[X (Z ⟨b,0,Y⟩),O aD (x:Int),O I (n:Int)] w λe w'=>e=aC (O aD ((JF x n st).1:Int))/\StTo E w w' b g wj (JF x n st).2:=by
 unfold JF
 cases st with
 | none=>
  obtain⟨p,t,u,h1,h2⟩:=hp;refine(Jax b g wj _ _ p t u w h1).mono ?_;rintro e w'⟨rfl,rfl⟩;exact⟨rfl,g,⟨p,t,u,h1,h2⟩,aM rfl,Te _ _⟩
 | some p=>
  simp only[Qu]
  cases h:p.num x n with
  | none=>
   refine(Zm E b g wj x n p w hE hp h8 hd h).mono ?_;rintro e w'⟨rfl,h1,h2⟩;exact⟨rfl,g,⟨p,_,_,h1,.base⟩,aM rfl,h2.mono (λ_ h=>aM (aM h))⟩
  | some r=>
   obtain⟨m,p'⟩:=r;exact(Xu b g wj x n m p p' w hp h8 hd h).mono λe w' ⟨h1,h2⟩=>⟨h1,h2⟩
theorem Jgv(E:Nat->Addr)(b:Nat)(g:Option Nat)(wj:Int)(s:BA)(n:Nat)(st:Option PS)(w:aA)(hE:Env E w)(hp:Jg E w b g wj st)(hd:JP st+n<=10000000000000):
  aB N 209 #[X (Z ⟨b,0,Y⟩),L s,O I (n:Int)] w λe w'=>e=aC (L ⟨(Jk s.data.toList n st).1.toArray⟩)/\StTo E w w' b g wj (Jk s.data.toList n st).2:=by
 unfold Jk
 cases st with
 | none=>
  obtain⟨p,t,u,h1,h2⟩:=hp;refine(Jh3 b g wj _ _ p t u w h1).mono ?_;rintro e w'⟨rfl,rfl⟩;exact⟨rfl,g,⟨p,t,u,h1,h2⟩,aM rfl,Te _ _⟩
 | some p=>
  simp only[Qu]
  cases h:p.txt s.data.toList n with
  | none=>
   refine(JfK E b g wj s n p w hE hp (by simp only[JP]at hd;omega) h).mono ?_;rintro e w'⟨rfl,h1,h2⟩;exact⟨rfl,g,⟨p,_,_,h1,.base⟩,aM rfl,h2.mono (λ_ h=>aM (aM h))⟩
  | some r=>
   obtain⟨m,p'⟩:=r;exact(Jan b g wj s n m p p' w hp hd h).mono λe w' ⟨h1,h2⟩=>⟨h1,h2⟩
theorem Jal(E:Nat->Addr)(b:Nat)(g:Option Nat)(wj:Int)(s:BA)(st:Option PS)(w:aA)(hE:Env E w)(hp:Jg E w b g wj st):
  aB N 200 #[X (Z ⟨b,0,Y⟩),L s] w λe w'=>e=aC (aI #[])/\StTo E w w' b g wj Y:=by
 cases st with
 | none=>
  obtain⟨p,t,u,h1,h2⟩:=hp;refine(JbJ b g wj _ p t u w h1).mono ?_;rintro e w'⟨rfl,rfl⟩;exact⟨rfl,g,⟨p,t,u,h1,h2⟩,aM rfl,Te _ _⟩
 | some p=>
  refine(Jek E b g wj s p w hE hp).mono ?_;rintro e w'⟨rfl,h1,h2,h3⟩;exact⟨rfl,g,⟨p,_,_,h1,h2⟩,aM rfl,h3.mono (λ_ h=>aM (aM h))⟩
theorem YZ(E:Nat->Addr)(b:Nat)(g:Option Nat)(wj:Nat)(s:BA)(st:Option PS)(w:aA)(hE:Env E w)(hp:Jg E w b g wj st)(hd:JP st+wj<=10000000000000):
  aB N 139 #[X (Z ⟨b,0,Y⟩),L s] w λe w'=>e=aC (L ⟨(Jk s.data.toList wj st).1.toArray⟩)/\StTo E w w' b g wj (Jk s.data.toList wj st).2:=by
 have c1:=hp.width;have HC:J (aB N 209 _ w _):=Jgv E b g wj s wj st w hE hp hd;go_enter func139,ntmps139;go_wp2_with fail;refine HC.o.mono ?_;rintro _ w1⟨rfl,h⟩;have HS:J _:=h;go_wp2;go_ret;exact⟨rfl,HS⟩

def ShO(x:VV):Prop:=∃(a:Int)(o:Int),x=(O aD a,O aE o)
def ShC(x:VV):Prop:=∃(a:BA)(o:Int),x=(L a,O I o)
def ShT(x:VV):Prop:=∃(a:Sl)(o:Sl),x=(R a.1 a.2.1 a.2.2,R o.1 o.2.1 o.2.2)
def ShS(x:VV):Prop:=∃(a:Int)(o:BA),x=(O I a,L o)
abbrev lkO:LK:=⟨80,22,351,205⟩
abbrev lkC:LK:=⟨49,96,349,203⟩
abbrev lkT:LK:=⟨98,73,234,134⟩
abbrev lkS:LK:=⟨366,255,367,218⟩
abbrev zO:VV:=(O aD 0,O aE 0)
abbrev zC:VV:=(L ⟨#[]⟩,O I 0)
abbrev zT:VV:=(R Y 0 0,R Y 0 0)
abbrev zS:VV:=(O I 0,L ⟨#[]⟩)
structure LX where
 k:LK
 fE:FuncId
 fS:FuncId
 fL:FuncId
 z:VV
 Sh:VV->Prop
 by_:Nat
abbrev xO:LX:=⟨lkO,189,282,204,zO,ShO,16⟩
abbrev xC:LX:=⟨lkC,280,281,202,zC,ShC,24⟩
abbrev xT:LX:=⟨lkT,135,201,133,zT,ShT,48⟩
abbrev xS:LX:=⟨lkS,286,291,216,zS,ShS,24⟩
def IsL(K:LX):Prop:=K=xO\/K=xC\/K=xT\/K=xS
theorem isO:IsL xO:=aM rfl
theorem isC:IsL xC:=aN (aM rfl)
theorem isT:IsL xT:=aN (aN (aM rfl))
theorem isS:IsL xS:=aN (aN (aN rfl))
def Tag(_:LX):Prop:=True
abbrev Tag.K{K:LX}(_:Tag K):LX:=K
theorem Jm7{K:LX}(hK:IsL K){x:VV}(h:K.Sh x):x.1.oneCell'=true/\x.2.oneCell'=true:=by
 rcases hK with rfl|rfl|rfl|rfl
 all_goals obtain⟨a,o,rfl⟩:=h;exact⟨rfl,rfl⟩
theorem JjJ(a b:aG):∀n:Nat,madeCells #[a,b] (n*2)=vvA (lC n (a,b)):=by
 intro n;apply Array.ext_getElem?;intro k
 by_cases hk:k<n*2
 ·obtain⟨e0,e1⟩:=Yt (lC n (a,b)) (k/2) (by rw[List.length_replicate];omega);rw[List.getElem_replicate]at e0 e1;have hm:(madeCells #[a,b] (n*2))[k]? =Z (#[a,b][k % 2]!):=by simp[madeCells,hk]
  rw[hm]
  rcases Nat.mod_two_eq_zero_or_one k with hp|hp
  ·rw[hp,show k=k/2*2 by omega,e0];rfl
  ·rw[hp,show k=k/2*2+1 by omega,e1];rfl
 ·rw[Array.getElem?_eq_none (by rw[size_madeCells];omega),Array.getElem?_eq_none (by rw[Yr,List.length_replicate];omega)]
theorem JjE{K:LX}(hK:IsL K):(prog.info? K.k.tE).map (λi=>(i.zero,i.size,i.bytes))=Z (Z (aH #[K.z.1,K.z.2]),2,K.by_)/\prog.underlying K.k.tS=Z (.slice K.k.tE)/\(Value.agg #[K.z.1,K.z.2]).cells= #[K.z.1,K.z.2]/\K.by_<=48/\(prog.info? K.k.tE).map (·.size)=Z 2:=by
 rcases hK with rfl|rfl|rfl|rfl
 all_goals refine⟨by kernel_rfl,by kernel_rfl,rfl,by decide,by kernel_rfl⟩
theorem mkL{K:LX}(hK:IsL K)(n:Nat)(h:n<=264)(w:aA):(Instr.makeSlice K.k.tS (O aD (n:Int)) (O aD (n:Int))).run N w=.ok (R (Z ⟨w.heap.size,0,Y⟩) n n) (w.alloc (T (vvA (lC n K.z)) K.k.tE)):=by
 obtain⟨h1,hu,hc,hb,_⟩:=JjE hK;obtain⟨i,hi,hp⟩:=lG.1 h1;simp only[Qw]at hp;obtain⟨hz,Hi,gJ⟩:=hp;have:=run_makeSlice (P:=N) (w:=w) K.k.tS K.k.tE i _ hu hi hz aD aD (n:Int) (n:Int) (by omega) (by omega) (by rw[Hi];omega) (by rw[gJ];have:=Nat.mul_le_mul hb h;omega) (by omega);rw[this,Int.toNat_natCast,Hi,hc,JjJ]

theorem JjC{K:LX}(hK:IsL K)(f:FuncId)(caps:Array aG)(what:BA)(g off n cap:Nat)(x:Nat->VV)(hx:∀i,i<n->K.Sh (x i))(Inv:Nat->aA->Prop)(Bad:aG->aA->Prop)(H:JcW f caps g off n x Inv Bad)(hn:n<=264)(hIt:∀v W,Bad v W->∀i:Nat,i<n->aB N 101 #[O I (i:Int)] W λe w'=>(∃s:BA,s.size<=30/\e=aC (L s))/\Below W.heap.size W w')(hw:what.size<=1000)(w:aA)(h0:Inv 0 w):
  aB N K.fE #[L what,R (Z ⟨g,off,Y⟩) n cap,.func (.func f) #[] caps] w λe w'=>ToE Inv Bad n e w':=by
 have HX:J _:=hx;have HIT:J _:=hIt;have hk:Tag K:=trivial
 rcases hK with rfl|rfl|rfl|rfl
 all_goals
  first|go_enter func189,ntmps189|go_enter func280,ntmps280|go_enter func135,ntmps135|go_enter func286,ntmps286
  go_wp2;go_loopw [12] (λi wr=>∃k:Nat,k<=n/\i=O I k/\Inv k wr) (λi _=>n-(intOf i).toNat)
  case atStart=>exact⟨0,by omega,rfl,h0⟩
  case round=>
   obtain⟨k,hk,rfl,hI⟩:=hrel
   by_cases H5:k<n
   ·obtain⟨c0,c1⟩:=H.read k _ H5 hI;have p8:=λW=>H.call k W H5;obtain⟨xa,xo,hxk⟩:=HX k H5;rw[hxk]at c0 c1 p8;have yg:J _:=p8;have kT:(k:Int)<(n:Int):=(by omega);have hen:=H.enter;go_wp2_with fail;refine(yg.o _ (H.alloc k _ _ hI)).mono ?_;rintro _ w1 (⟨rfl,uq⟩|⟨t,v,rfl,hB⟩)
    ·go_wp2;go_roundw
     case rel=>exact⟨k+1,by omega,by go_num,uq⟩
     case measure=>simp[intOf];omega
    ·have HB:J _:=hB;go_wp2_with fail;refine(HIT _ _ HB k H5).mono ?_;rintro _ w2⟨⟨s1,qq,rfl⟩,(jM:J _)⟩;have bN:(what++(⟨#[32]⟩:BA)).size<=1001:=(by rw[ByteArray.size_append];show what.size+1<=1001;omega);generalize what++(⟨#[32]⟩:BA)=ws at *;have uH:¬(ws.size+s1.size > 9223372036854775807):=(by omega);go_wp2_with fail;refine(Xk (ws++s1) t v _).mono ?_;rintro _ _⟨rfl,rfl⟩;go_wp2;go_ret;exact aN ⟨w2.heap.size,ws++s1,aJ t v,w1,rfl,Qf _ _,HB,jM.alloc jM.size _⟩
   ·have HK:J (k=n):=(by omega:k=n)
    have gI:¬(k:Int)<(n:Int):=(by omega);have HI:J _:=hI;go_wp2;go_ret;exact aM ⟨rfl,by rw[<-HK.o];exact HI⟩

theorem JcC{K:LX}(hK:IsL K)(f:FuncId)(caps:Array aG)(what:BA)(g off n cap:Nat)(x:Nat->VV)(hx:∀i,i<n->K.Sh (x i))(Inv:Nat->aA->Prop)(Bad:aG->aA->Prop)(H:JcW f caps g off n x Inv Bad)(hn:n<=3)(hw:what.size<=1000)(w:aA)(h0:Inv 0 w):
  aB N K.fE #[L what,R (Z ⟨g,off,Y⟩) n cap,.func (.func f) #[] caps] w λe w'=>ToE Inv Bad n e w':=
 JjC hK f caps what g off n cap x hx Inv Bad H (by omega) (λ_ W _ i hi=>(JiB i (by omega) W).mono λe w' h=>by
  obtain⟨⟨s,h1,h2⟩,rfl⟩:=h;exact⟨⟨s,by omega,h2⟩,Below.refl _ _⟩) hw w h0
theorem JqL{K:LX}(hK:IsL K){E:Nat->Addr}{b wj lim:Nat}{α:Type}{Q:XY α}(H:Zh E b wj lim K.k.fP Q K.Sh)(aZ gp cnt:Nat)(w:aA)(g:Option Nat)(i:Nat)(x:VV)(a:α)(l:List VV)(p:PS)(hE:Env E w)(hL:YT K.k w b g aZ gp cnt l)(hp:Jd w b g wj aK p)(hI:Q.Init b w p x a)(hi:i<cnt)(hd:p.len<=lim):
  aB N K.fS #[O I (i:Int),aH #[x.1,x.2],X (Z ⟨aZ+2,0,Y⟩),X (Z ⟨gp+1,0,Y⟩),X (Z ⟨aZ,0,Y⟩)] w λe w'=>Jlw K.k E w b g wj aZ gp cnt i Q l (Q.f a p) e w':=by
 have c0:=rows hL.box0;have c1:w.cell? ⟨aZ+2,0,Y⟩=Z (.func (.func K.k.fP) #[X (Z ⟨b,0,Y⟩)] #[]):=Ja hL.box1;have c2:w.cell? ⟨gp+1,0,Y⟩=Z (R (Z ⟨gp,0,Y⟩) cnt cnt):=Ja hL.box2;have H5:=hp.lt;have l2:=(Jb hL.box2)
 have hh:=hL.high;have n0:aZ<w.heap.size:=by omega
 have n1:aZ+2<w.heap.size:=by omega
 have hii:(i:Int)<(cnt:Int):=by omega
 have qW:=H.init_shape hI;have tA:M D w (w.alloc (T #[x.1,x.2] K.k.tE)).drew:=(Ta _ w _).trans (Td _ _ 1) (λ_ h=>aM h);have hLA:J (YT K.k (w.alloc (T #[x.1,x.2] K.k.tE)).drew b g aZ gp cnt l):=hL.tch tA noE (aM rfl);have HC:J (aB N K.k.fP #[X (Z ⟨b,0,Y⟩),aH #[x.1,x.2]] (w.alloc (T #[x.1,x.2] K.k.tE)).drew _):=H.call (x:=x) (hE.tch tA noE) (hp.tch tA (λh=>h) (λ_ _ h=>h)) (H.init_tch hI tA noE (PS.like.refl _)) hd;have TA:J _:=tA;have HDT:J (∀{w w':aA} {B:Nat} {g g':Option Nat} {x:VV} {a:α} {S:Nat->Prop},Q.Done w B g x a->M S w w'->(∀j,S j->j<B\/Z j=g\/w.heap.size<=j)->Jq w g g'->Q.Done w' B g' x a):=H.done_tch;have HDM:J (∀{w:aA} {B B':Nat} {g:Option Nat} {x:VV} {a:α},Q.Done w B g x a->B'<=B->Q.Done w B' g x a):=H.done_mono;clear hL hp hE hI tA H;have hk:Tag K:=trivial
 rcases hK with rfl|rfl|rfl|rfl
 all_goals
  obtain⟨xa,xo,rfl⟩:=qW;dsimp only at hLA HC TA
  first|go_enter func282,ntmps282|go_enter func281,ntmps281|go_enter func201,ntmps201|go_enter func291,ntmps291
  go_wp2;go_region_with ((first|go_at_call 205|go_at_call 203|go_at_call 134|go_at_call 218);refine HC.o.mono ?_;rintro _ w1⟨_,⟨ya,yo,rfl⟩,rfl,g1,err,p1,Hs,js,H6,kG⟩;have s8:J (YT _ w1 b g1 aZ gp cnt l):=hLA.out.tch H6 (λj h=>by rcases h with h|h;exact aM h;exact aN (aM h)) js;obtain⟨x0,y0,d0,d1,d2,d3⟩:=Jhm s8.o hi;have e2:w1.cell? ⟨gp+1,0,Y⟩=Z (R (Z ⟨gp,0,Y⟩) cnt cnt):=Ja s8.o.box2;have Hq:J (Jd _ _ _ _ _ _):=Hs;have jO:J (Jq _ _ _):=js;have H3:J (M _ _ _):=H6;have jB:J (match Q.f a p with|some (a,p2)=>p1=p2/\err=aK/\Q.Done w1 _ g1 _ a|none=>Jn E 7 w1 err):=kG;clear Hs js H6 kG)
  all_goals
   first
    | (obtain⟨j0,je,q1,q2,q3⟩:=Jbf s8.o Hq.o hi (O aD ya) (O aE yo);generalize (w1.setCell ⟨gp,i*2,Y⟩ (O aD ya)).setCell ⟨gp,i*2+1,Y⟩ (O aE yo)=W3 at *)
    | (obtain⟨j0,je,q1,q2,q3⟩:=Jbf s8.o Hq.o hi (L ya) (O I yo);generalize (w1.setCell ⟨gp,i*2,Y⟩ (L ya)).setCell ⟨gp,i*2+1,Y⟩ (O I yo)=W3 at *)
    | (obtain⟨j0,je,q1,q2,q3⟩:=Jbf s8.o Hq.o hi (R ya.1 ya.2.1 ya.2.2) (R yo.1 yo.2.1 yo.2.2);generalize (w1.setCell ⟨gp,i*2,Y⟩ (R ya.1 ya.2.1 ya.2.2)).setCell ⟨gp,i*2+1,Y⟩ (R yo.1 yo.2.1 yo.2.2)=W3 at *)
    | (obtain⟨j0,je,q1,q2,q3⟩:=Jbf s8.o Hq.o hi (O I ya) (L yo);generalize (w1.setCell ⟨gp,i*2,Y⟩ (O I ya)).setCell ⟨gp,i*2+1,Y⟩ (L yo)=W3 at *)
   have Q1:J (YT _ _ _ _ _ _ _ _):=q1;have Q2:J (Jd _ _ _ _ _ _):=q2;have Q3:J (M _ _ _):=q3;clear q1 q2 q3;go_wp2;go_ret;have Hi:=TA.out.size;have hm:Jq w g g1:=by
    rcases jO.o with h|⟨j,h,hj⟩
    ·exact aM h
    ·exact aN ⟨j,h,Qm Hi hj⟩
   have ht:M (λk=>k=b\/Z k=g\/k=gp) w W3:=((TA.out.mono noE).trans H3.o (λj h=>by rcases h with h|h;exact aM (aM h);exact aM (aN (aM h)))).trans Q3.out (λj h=>aM (aN (aN h)));refine⟨ht,?_⟩;have hr:=jB.o
   cases hq:Q.f a p with
   | some r=>
    obtain⟨a',p2⟩:=r;rw[hq]at hr;obtain⟨rfl,rfl,hdn⟩:=hr;have z:∀o,w.heap.size+1=(w.alloc o).drew.heap.size:=λ_=>by simp
    exact⟨rfl,g1,(_,_),Q2.out,Q1.out,HDT.o (HDM.o hdn (by rw[<-z];omega)) Q3.out (λj h=>aM (by omega)) (aM rfl),hm⟩
   | none=>
    rw[hq]at hr;exact⟨err,rfl,hr.tch Q3.out (λq s u hq e=>by subst e;rw[s8.o.arr]at hq;simp at hq),g1,p1,Q2.out,hm,Q1.out.box0⟩

theorem Jmu(what:BA)(kq:what.size<=1000):∃s1 s2:BA,(∀W,(Op.stringOp .add (⟨#[110,117,109,98,101,114,32,111,102,32]⟩:BA) what).run N W=.ok (L s1) W)/\∀W,(Op.stringOp .add s1 (⟨#[115]⟩:BA)).run N W=.ok (L s2) W:=by
 obtain⟨s1,qq,xu⟩:∃s1:BA,s1.size<=1010/\∀W,(Op.stringOp .add (⟨#[110,117,109,98,101,114,32,111,102,32]⟩:BA) what).run N W=.ok (L s1) W:=
  ⟨_,by rw[ByteArray.size_append];show 10+what.size<=1010;omega,λW=>run_string_add_sum (P:=N) W _ _ (by show 10+what.size<=_;omega)⟩
 obtain⟨s2,zG⟩:∃s2:BA,∀W,(Op.stringOp .add s1 (⟨#[115]⟩:BA)).run N W=.ok (L s2) W:=
  ⟨_,λW=>run_string_add_sum (P:=N) W _ _ (by show s1.size+1<=_;omega)⟩
 exact⟨s1,s2,xu,zG⟩
structure BoxL(K:LX)(w:aA)(aZ b:Nat)(what:BA)(size least most:Nat):Prop where
 c:w.heap[aZ]? =Z (T #[X (Z ⟨b,0,Y⟩)] 230)
 of:w.heap[aZ+1]? =Z (T #[L what,O I (size:Int),O aD (least:Int),O aD (most:Int)] 233)
 part:w.heap[aZ+2]? =Z (T #[.func (.func K.k.fP) #[X (Z ⟨b,0,Y⟩)] #[]] K.k.tF)
theorem BoxL.tch{K:LX}(h:BoxL K w aZ b what size least most)(k:M S w w')(hs:∀j,aZ<=j->j<aZ+3->¬S j):BoxL K w' aZ b what size least most:=
 ⟨(k.block _ (Jb h.c) (hs _ (by omega) (by omega))).trans h.c,(k.block _ (Jb h.of) (hs _ (by omega) (by omega))).trans h.of,(k.block _ (Jb h.part) (hs _ (by omega) (by omega))).trans h.part⟩
theorem BoxL.cells{K:LX}(h:BoxL K w aZ b what size least most):w.cell? ⟨aZ,0,Y⟩=Z (X (Z ⟨b,0,Y⟩))/\w.cell? ⟨aZ+1,0,Y⟩=Z (L what)/\w.cell? ⟨aZ+1,2,Y⟩=Z (O aD (least:Int))/\w.cell? ⟨aZ+1,3,Y⟩=Z (O aD (most:Int)):=
 ⟨Ja h.c,Ja h.of,Ja h.of,Ja h.of⟩

def JcX(b:Nat)(g:Option Nat)(v:aG):Prop:=∀a n c,v=R (Z a) n c->a.block ≠ b/\Z a.block ≠ g
theorem JcX.nil(b:Nat)(g:Option Nat):JcX b g (R Y 0 0):=λa n c h=>by cases h
theorem VAt.tchF(h:VAt B w v l)(k:M S w w')(hs:∀a n c,v=R (Z a) n c->¬S a.block):VAt B w' v l:=by
 rcases h with h|⟨gi,oi,c,hv,h1,h2,h3⟩
 ·exact aM h
 ·refine aN ⟨gi,oi,c,hv,h1,Qk h2 k.size,λi hi=>?_⟩;have hc:∀o,w'.cell? ⟨gi,o,lE⟩=w.cell? ⟨gi,o,lE⟩:=λo=>k.cell (p:=⟨gi,o,lE⟩) h2 (show ¬S gi from hs ⟨gi,oi,lE⟩ _ _ hv);rw[hc,hc];exact h3 i hi
theorem VAt.free{e:aG}(h:VAt b w v l)(hp:Jd w b g wj e p):JcX b g v:=by
 intro a n c e
 rcases h with⟨h,_⟩|⟨gi,oi,c,hv,h1,_⟩
 ·rw[h]at e;cases e
 ·rw[hv]at e
  cases e
  exact⟨by show gi ≠ b;omega,λe=>by have:=(hp.own _ e.symm).1;simp only at this;omega⟩
theorem Jbg{K:LX}(hK:IsL K)(b:Nat)(g:Option Nat)(wj:Nat)(what:BA)(kq:what.size<=1000)(size least most:Nat)(v:aG)(ia:Option Addr)(n ic:Nat)(Hx:v=R ia n ic)(p0:PS)(t:TypeId)(u:aG)(w:aA)(hp:Jd w b g wj (aJ t u) p0):
  aB N K.fL #[X (Z ⟨b,0,Y⟩),aH #[L what,O I (size:Int),O aD (least:Int),O aD (most:Int)],v,.func (.func K.k.fP) #[X (Z ⟨b,0,Y⟩)] #[]] w λe w'=>e=aC (R Y 0 0)/\Jd w' b g wj (aJ t u) p0/\M D w w':=by
 have H5:=hp.lt;subst Hx;obtain⟨s1,s2,xu,zG⟩:=Jmu what kq;have hk:Tag K:=trivial
 rcases hK with rfl|rfl|rfl|rfl
 all_goals
  first|go_enter func204,ntmps204|go_enter func202,ntmps202|go_enter func133,ntmps133|go_enter func216,ntmps216
  go_wp2_with fail;refine(Jax b g wj _ _ p0 t u _ (hp.allocs3 _ _ _)).mono ?_;rintro _ w1⟨rfl,Hf⟩;have HP:J (Jd w1 b g wj (aJ t u) p0):=by rw[<-Hf];exact hp.allocs3 _ _ _
  have HT:J (M D w w1):=by rw[<-Hf];exact M.allocs3 _ _ _ _ _
  obtain⟨c0,cA,cB,cC⟩:=(show BoxL hk.K w1 w.heap.size b what size least most by rw[<-Hf];exact⟨JU _ _ _ _,JQ _ _ _ _,JE _ _ _ _⟩).cells;have ce:=HP.o.errCell;clear hp Hf;go_wp2_with (go_at_call 200;refine(JbJ b g wj _ p0 t u _ HP.o).mono ?_;rintro _ _⟨rfl,rfl⟩)
  all_goals go_ret
  all_goals exact⟨rfl,HP.o,HT.o⟩

theorem Joi{K:LX}(hK:IsL K)(E:Nat->Addr)(b:Nat)(g:Option Nat)(wj:Nat)(what:BA)(kq:what.size<=1000)(size least most:Nat)(v:aG)(ia:Option Addr)(n ic:Nat)(Hx:v=R ia n ic)(p0:PS)(w:aA)(hE:Env E w)(hp:Jd w b g wj aK p0)(hn:n<1000000)(hd:p0.len<=10000000000000)(Hi:size<=8)(h1:p0.num n size=Y):
  aB N K.fL #[X (Z ⟨b,0,Y⟩),aH #[L what,O I (size:Int),O aD (least:Int),O aD (most:Int)],v,.func (.func K.k.fP) #[X (Z ⟨b,0,Y⟩)] #[]] w λe w'=>(∃a n c,e=aC (R a n c))/\JbR E w w' b g wj:=by
 have H5:=hp.lt;subst Hx;have hlw:lM.wrap (n:Int)=(n:Int):=JK _ (by omega) (by omega);obtain⟨s1,s2,xu,zG⟩:=Jmu what kq;have hk:Tag K:=trivial
 rcases hK with rfl|rfl|rfl|rfl
 all_goals
  first|go_enter func204,ntmps204|go_enter func202,ntmps202|go_enter func133,ntmps133|go_enter func216,ntmps216
  go_wp2_with fail;refine(Zm E b g wj n size p0 _ (hE.allocs3 _ _ _) (hp.allocs3 _ _ _) Hi hd h1).mono ?_;rintro _ w1⟨rfl,Hs,H6⟩;obtain⟨c0,cA,cB,cC⟩:=(BoxL.tch (K:=hk.K) (b:=b) (what:=what) (size:=size) (least:=least) (most:=most) ⟨JU _ _ _ _,JQ _ _ _ _,JE _ _ _ _⟩ H6 (λj h1 h2 e=>by omega)).cells;have ce:=Hs.errCell;have Hq:J _:=Hs;have H3:J _:=H6;go_wp2_with (go_at_call 200;refine(JbJ b g wj _ p0 _ _ _ Hq).mono ?_;rintro _ _⟨rfl,rfl⟩)
  all_goals go_ret
  all_goals exact⟨⟨_,_,_,rfl⟩,g,p0,_,Hq,.base,aM rfl,(M.allocs3 _ _ _ _ _).trans H3 (λj h=>aM (aM h))⟩

theorem Joj{K:LX}(hK:IsL K)(E:Nat->Addr)(b:Nat)(Hc:18<=b)(g:Option Nat)(wj:Nat)(what:BA)(kq:what.size<=1000)(size least most:Nat)(v:aG)(ia:Option Addr)(n ic cnt:Nat)(Hx:v=R ia n ic)(p0 p:PS)(w:aA)(hE:Env E w)(hp:Jd w b g wj aK p0)(hn:n<1000000)(hd:p0.len<=10000000000000)(Hi:size<=8)(h1:p0.num n size=Z (cnt,p))(hr:cnt<least\/most<cnt):
  aB N K.fL #[X (Z ⟨b,0,Y⟩),aH #[L what,O I (size:Int),O aD (least:Int),O aD (most:Int)],v,.func (.func K.k.fP) #[X (Z ⟨b,0,Y⟩)] #[]] w λe w'=>(∃a n c,e=aC (R a n c))/\JbR E w w' b g wj:=by
 have H5:=hp.lt;subst Hx;have hlw:lM.wrap (n:Int)=(n:Int):=JK _ (by omega) (by omega);obtain⟨s1,s2,xu,zG⟩:=Jmu what kq;have hk:Tag K:=trivial
 rcases hK with rfl|rfl|rfl|rfl
 all_goals
  first|go_enter func204,ntmps204|go_enter func202,ntmps202|go_enter func133,ntmps133|go_enter func216,ntmps216
  go_wp2_with fail;refine(Xu b g wj n size cnt p0 p _ (hp.allocs3 _ _ _) Hi hd h1).mono ?_;rintro _ w1⟨rfl,g1,Hs,js,H6⟩;have hB:=BoxL.tch (K:=hk.K) (b:=b) (what:=what) (size:=size) (least:=least) (most:=most) ⟨JU _ _ _ _,JQ _ _ _ _,JE _ _ _ _⟩ H6 (λj h1 h2=>Yo hp j h1);obtain⟨c0,cA,cB,cC⟩:=hB.cells;have ce:=Hs.errCell;have qo:J _:=(hE.allocs3 _ _ _).tch H6 (Jbi Hc hp);have qq:=H6.size;simp at qq;have HB:J (BoxL hk.K w1 w.heap.size b what size least most):=hB;have Hq:J _:=Hs;have jO:J (Jq _ g g1):=js;have H3:J (M _ _ w1):=H6;clear hp Hs js H6 hE hB h1;have vR:(decide (cnt<least) || decide (most<cnt))=true:=by simpa using hr
  clear hr;go_wp2_with fail
  all_goals refine(Jek E b g1 wj s2 p w1 qo.o Hq.o).mono ?_;rintro _ w5⟨rfl,hp5,bU,kI⟩;obtain⟨k0,_,_,_⟩:=(HB.o.tch kI (λj h1 h2 e=>by omega)).cells;have ce5:=hp5.errCell;have HP5:J (Jd _ _ _ _ _ _):=hp5;have ui:J (Jn _ _ _ _):=bU;have Hu:J (M _ _ _):=kI;clear hp5 bU kI;go_wp2;go_ret;exact⟨⟨_,_,_,rfl⟩,g1,p,_,HP5.o,ui.o,jO.o.allocs3,((M.allocs3 _ _ _ _ _).trans H3.o (λj h=>aM h)).trans Hu.o (λj h=>aM (aM h))⟩

theorem Jok{K:LX}(hK:IsL K)(mx:Nat)(hmx:mx<=264){wj lim:Nat}{Q:XY α}(H:Zh E b wj lim K.k.fP Q K.Sh)(hz:Q.zeroV=K.z)(Hc:18<=b)(g:Option Nat)(what:BA)(kq:what.size<=1000)(size least most:Nat)(v:aG)(l:List VV)(xa:List α)(cnt:Nat)(p0 p:PS)(w:aA)
 (hE:Env E w) (hp:Jd w b g wj aK p0) (hv:VAt w.heap.size w v l) (qL:JcX b g v) (hl:l.length=xa.length) (hn:xa.length<1000000) (hd:p0.len+8+Q.grow*mx<=lim) (ur:lim<=10000000000000) (Hi:size<=8) (qY:most<=mx) (h1:p0.num xa.length size=Z (cnt,p)) (hlo:least<=cnt) (hhi:cnt<=most) (xM:v=R Y 0 0\/xa.length=cnt)
 (ku:∀(j:Nat) x a,l[j]? =Z x->xa[j]? =Z a->Q.Init b w p0 x a):
  aB N K.fL #[X (Z ⟨b,0,Y⟩),aH #[L what,O I (size:Int),O aD (least:Int),O aD (most:Int)],v,.func (.func K.k.fP) #[X (Z ⟨b,0,Y⟩)] #[]] w λe w'=>ToL K.k E w b g wj Q (PS.many Q.f (Jw Q.zero xa cnt) p) e w':=by
 have H5:=hp.lt;obtain⟨ia,ic,Hx⟩:=hv.shape;rw[hl]at Hx;have hlw:lM.wrap (xa.length:Int)=(xa.length:Int):=JK _ (by omega) (by omega);have aa:∀x∈l,x.1.oneCell'=true/\x.2.oneCell'=true:=λx hx=>by
  obtain⟨j,hj,rfl⟩:=List.getElem_of_mem hx;exact Jm7 hK (H.init_shape (ku j l[j] xa[j] (Qd hj) (Qd (by omega))))
 have HONE:J _:=aa;have HV:J (VAt w.heap.size w v l):=hv;have HVB:J _:=qL;have HVC:J _:=xM;have yH:J _:=ku;have HL:J _:=hl;have H1:J (p0.num xa.length size=Z (cnt,p)):=h1;clear hv qL xM ku hl aa;subst Hx;have jp:=mkL hK cnt (by omega);obtain⟨_,(HUN:J _),_,_,(HIF:J _)⟩:=JjE hK;have hEa:= @JjC K hK;have i7:= @JqL K hK E b wj lim α Q H;have hk:Tag K:=trivial
 rcases hK with rfl|rfl|rfl|rfl
 all_goals
  have xI:J _:=hEa;have gy:J _:=i7;clear hEa i7
  first|go_enter func204,ntmps204|go_enter func202,ntmps202|go_enter func133,ntmps133|go_enter func216,ntmps216
  go_wp2_with fail;refine(Xu b g wj xa.length size cnt p0 p _ (hp.allocs3 _ _ _) Hi (by omega) h1).mono ?_;rintro _ w1⟨rfl,g1,Hs,(jO:J _),H6⟩;have hB:=BoxL.tch (K:=hk.K) (b:=b) (what:=what) (size:=size) (least:=least) (most:=most) ⟨JU _ _ _ _,JQ _ _ _ _,JE _ _ _ _⟩ H6 (λj h1 h2=>Yo hp j h1);obtain⟨c0,cA,cB,cC⟩:=hB.cells;have ce:=Hs.errCell;have t1:¬(cnt:Int)<(least:Int):=by omega
  have t2:¬(most:Int)<(cnt:Int):=by omega
  have HP:J (Jd w b g wj aK p0):=hp;have Hq:J _:=Hs;have H3:J _:=H6;have HB:J _:=hB;have HE:J _:=hE;have HH:J _:=H;have HZ:J _:=hz;clear hp Hs H6 hB hE H hz h1;have qq:=H3.o.size;simp at qq;obtain⟨rr,uI⟩:=JnY (z:=hk.K.z) (gp:=w1.heap.size) (cnt:=cnt) (w:=(w1.alloc (T (vvA (lC cnt hk.K.z)) hk.K.k.tE)).alloc (T #[R (Z ⟨w1.heap.size,0,Y⟩) cnt cnt] hk.K.k.tS)) HUN HIF HONE.o
   ((HV.o.tch (M.allocs3 D w _ _ _) noE).tchF H3.o (λa n c e hj=>by
    rcases hj with hj|hj
    ·exact(HVB a n c e).1 hj
    ·exact(HVB a n c e).2 hj) |>.tch (M.allocs D w1 _ _) noE) (heap_alloc2_old _ _ _) (by rw[HL.o];exact HVC)
  have mM:=Jbx hk.K.z HV rfl (by rw[HL.o];exact HVC);have mN:=Jbx Q.zero HV HL HVC.o;obtain⟨W3,qp,F3⟩:=Jhn (K:=hk.K.k) (z:=hk.K.z) (w1:=w1) (st:=Jw hk.K.z l cnt) HP Hq jO H3 HB.c HB.part HE Hc qq mM;rw[<-qp]at uI;have hcp3:=uI 3;obtain⟨(G1:J _),F2,F4,F5,F6,F8,F7⟩:=F3;obtain⟨k0,kA,_,_⟩:=(HB.o.tch F8 (λ_ _ _ h=>h)).cells;have k2:W3.cell? ⟨w1.heap.size+1,0,Y⟩=Z (R (Z ⟨w1.heap.size,0,Y⟩) cnt cnt):=Ja G1.box2;have G2:J (Jd _ _ _ _ _ _):=F2;have G4:J (Env E W3):=F4;have G5:J (Jq _ _ _):=F5;have G6:J (M _ _ _):=F6;have jw:=ZP _ _ _ _ _ H1.o;have hgr:Q.grow*cnt<=Q.grow*mx:=Nat.mul_le_mul_left _ (by omega);have HS:J (JcW _ _ _ _ _ _ (InvV hk.K.k E W3 b g1 wj w.heap.size w1.heap.size cnt Q (Jw hk.K.z l cnt) (Jw Q.zero xa cnt) p) (BadV E W3 b g1 wj w.heap.size w1.heap.size Q (Jw Q.zero xa cnt) p)):=JqM HH.o hk.K.fS (λ_ _=>by kernel_rfl) W3 Hc g1 w.heap.size w1.heap.size cnt (Jw hk.K.z l cnt) (Jw Q.zero xa cnt) p mM mN (by omega) (by omega) (λW g i x a l p=>gy.o _ _ _ W g i x a l p);have tD:=Td D W3 1;have ac:J (∀(j:Nat) x t,(Jw hk.K.z l cnt)[j]? =Z x->(Jw Q.zero xa cnt)[j]? =Z t->Q.Init b W3.drew p x t):=by
   have:=Jhf HH.o (cnt:=cnt) HL.o (λj x t a c=>HH.o.init_tch (HH.o.init_tch (yH.o j x t a c) G6.out (λj hj=>by
    rcases hj with rfl|hj
    ·exact Ql _
    ·have:=(HP.o.own j hj.symm).1;omega) (Yn H1.o)) tD noE (PS.like.refl _))
   rw[HZ.o]at this;exact this
  have HI:J (InvV hk.K.k E W3 b g1 wj w.heap.size w1.heap.size cnt Q (Jw hk.K.z l cnt) (Jw Q.zero xa cnt) p 0 W3.drew):=⟨g1,[],[],p,by simp[PS.many],rfl,G2.out.tch tD (λh=>h) (λ_ _ h=>h),G1.out.tch tD noE (aM rfl),λj x t a=>by simp at a,ac.o,G4.out.tch tD noE,aM rfl,tD.mono noE,PS.like.refl _,by omega⟩
  have cO:J (∀i,i<cnt->hk.K.Sh ((Jw hk.K.z l cnt).getD i Q.zeroV)):=λi hi=>by
   have xV:i<(Jw hk.K.z l cnt).length:=(by omega);have e:(Jw hk.K.z l cnt).getD i Q.zeroV=(Jw hk.K.z l cnt)[i]:=(by simp[List.getD_eq_getElem?_getD,xV]);rw[e];exact HH.o.init_shape (ac.o i _ ((Jw Q.zero xa cnt)[i]'(by omega)) (Qd xV) (Qd (by omega)))
  have HXL:J ((Jw Q.zero xa cnt).length=cnt):=mN;have HIT:J (∀v W,BadV E W3 b g1 wj w.heap.size w1.heap.size Q (Jw Q.zero xa cnt) p v W->∀i:Nat,i<cnt->aB N 101 #[O I (i:Int)] W λe w'=>(∃s:BA,s.size<=30/\e=aC (L s))/\Below W.heap.size W w'):=λv W hB i hi=>by
   obtain⟨_,_,_,_,_,_,ht,_⟩:=hB;refine JdP (G4.out.tch ht (λj hj=>?_)) i (by omega)
   rcases hj with rfl|hj|rfl
   ·exact Hc
   ·have:=(G2.out.own j hj.symm).1;omega
   ·have:=HP.o.lt;omega
  have hlN:w.heap.size+1<W3.heap.size:=by omega
  have HKA:J (∀w4,M (λk=>k=b\/Z k=g1\/k=w1.heap.size) W3 w4->w4.cell? ⟨w.heap.size+1,0,Y⟩=Z (L what)):=λw4 ht=>(ht.cell (p:=⟨w.heap.size+1,0,Y⟩) hlN (by
   show ¬(w.heap.size+1=b\/Z (w.heap.size+1)=g1\/w.heap.size+1=w1.heap.size);have:=JbE HP.o _ _ _ jO.o (w.heap.size+1) (by omega) (by omega);rintro(e|e|e)
   ·omega
   ·exact this (aN e)
   ·omega)).trans kA
  clear uI qp F2 F4 F5 F6 F8 tD mM mN;have vF:∀(fn:Fn)(first cap:Array aG)(w:aA),(Instr.makeFunc fn first cap).run N w=.ok (.func fn first cap) w:=λ_ _ _ _=>rfl
  cases hq:PS.many Q.f (Jw Q.zero xa cnt) p with
  | some r=>
   obtain⟨ys,p2⟩:=r;have HQ:J (_=_):=hq;clear hq;go_wp2;go_region_held3 (λW=>W.cell? ⟨w.heap.size,0,Y⟩=Z (X (Z ⟨b,0,Y⟩))/\W.cell? ⟨w.heap.size+1,0,Y⟩=Z (L what)/\W.cell? ⟨w1.heap.size+1,0,Y⟩=Z (R (Z ⟨w1.heap.size,0,Y⟩) cnt cnt)) (go_keep) (((first|go_at_call 189|go_at_call 280|go_at_call 135|go_at_call 286);refine(xI.o _ _ what w1.heap.size 0 cnt cnt _ cO.o _ _ HS.o (by omega) HIT.o kq _ HI.o).mono ?_;intro e w4 h4;obtain⟨err,g4,p4,v4,rfl,qW,xp,pZ,Ho,ae,p9,af⟩:=Jfc h4 G1.out HXL.o;rw[HQ.o]at af;obtain⟨rfl,rfl,xs,hL4,ut,mE⟩:=af;obtain⟨d2,f2,q1,q2⟩:=XO (n:=0) (e':=aK) xp;rw[World.drewN_zero]at d2 f2 q1 q2;have k4:w4.cell? ⟨w.heap.size,0,Y⟩=Z (X (Z ⟨b,0,Y⟩)):=Ja ae;have kA4:w4.cell? ⟨w.heap.size+1,0,Y⟩=Z (L what):=HKA.o w4 Ho;have kB4:w4.cell? ⟨w1.heap.size+1,0,Y⟩=Z (R (Z ⟨w1.heap.size,0,Y⟩) cnt cnt):=Ja p9;have ip:=Qm F7 Ho.size;have j4:=(q2.cell (p:=⟨w.heap.size,0,Y⟩) (by show w.heap.size<_;omega) (by show ¬w.heap.size=b;omega)).trans k4;have jA4:=(q2.cell (p:=⟨w.heap.size+1,0,Y⟩) (by show w.heap.size+1<_;omega) (by show ¬w.heap.size+1=b;omega)).trans kA4;have jB4:=(q2.cell (p:=⟨w1.heap.size+1,0,Y⟩) (Jb p9) (by show ¬w1.heap.size+1=b;omega)).trans kB4;have Q1:J (Jd _ _ _ _ _ _):=q1;have Q2:J (M _ _ _):=q2;have M4:J (Jq _ _ _):=pZ;have T4:J (M _ _ _):=Ho;have L4:J (YT _ _ _ _ _ _ _ _):=hL4;have D4:J (∀(j:Nat) x a,_):=mE;have YL:J (ys.length=cnt):=ut;clear h4 q1 q2 pZ Ho ae p9 hL4 xp qW mE ut))
   all_goals
    have L5:J (YT _ (w4.setCell ⟨b,2,Y⟩ aK) b g4 w.heap.size w1.heap.size cnt xs):=L4.out.tch Q2.out (λj h=>aM h) (aM rfl);have k5:(w4.setCell ⟨b,2,Y⟩ aK).cell? ⟨w1.heap.size+1,0,Y⟩=Z (R (Z ⟨w1.heap.size,0,Y⟩) cnt cnt):=Ja L5.out.box2;have D5:J (∀(j:Nat) x t,xs[j]? =Z x->ys[j]? =Z t->Q.Done (w4.setCell ⟨b,2,Y⟩ aK) (w1.heap.size+1) g4 x t):=λj x t a c=>HH.o.done_tch (D4.out j x t a c) Q2.out (λj h=>aM (by omega)) (aM rfl);generalize w4.setCell ⟨b,2,Y⟩ aK=W5 at *;go_wp2;go_ret;show ToL _ E w b g wj Q (PS.many Q.f (Jw Q.zero xa cnt) p) _ _;rw[HQ.o];refine⟨w1.heap.size,xs,by rw[YL.out];rfl,by omega,L5.out.arr,by rw[YL.out];exact L5.out.len,g4,Q1.out,L5.out.apart _ (by simp),D5.out,G5.out.trans M4.out G6.out.size,?_⟩;refine(G6.out.trans T4.out (λj h=>?_)).trans Q2.out (λj h=>aM (aM h))
    rcases h with h|h|h
    ·exact aM (aM h)
    ·rcases G5.out with e|⟨i,e,hi⟩
     ·rw[e]at h;exact aM (aN h)
     ·rw[e]at h;cases h;exact aN hi
    ·exact aN (by omega)
  | none=>
   have HQ:J (_=_):=hq;clear hq;go_wp2;go_region_held3 (λW=>W.cell? ⟨w.heap.size,0,Y⟩=Z (X (Z ⟨b,0,Y⟩))/\W.cell? ⟨w.heap.size+1,0,Y⟩=Z (L what)/\W.cell? ⟨w1.heap.size+1,0,Y⟩=Z (R (Z ⟨w1.heap.size,0,Y⟩) cnt cnt)) (go_keep) (((first|go_at_call 189|go_at_call 280|go_at_call 135|go_at_call 286);refine(xI.o _ _ what w1.heap.size 0 cnt cnt _ cO.o _ _ HS.o (by omega) HIT.o kq _ HI.o).mono ?_;intro e w4 h4;obtain⟨err,g4,p4,v4,rfl,qW,xp,pZ,Ho,ae,p9,af⟩:=Jfc h4 G1.out HXL.o;rw[HQ.o]at af;obtain⟨pp,ss,vv,rfl,ag,uT⟩:=af;obtain⟨d2,f2,q1,q2⟩:=XO (n:=0) (e':=aJ 235 (X (Z ⟨pp,0,Y⟩))) xp;rw[World.drewN_zero]at d2 f2 q1 q2;have k4:w4.cell? ⟨w.heap.size,0,Y⟩=Z (X (Z ⟨b,0,Y⟩)):=Ja ae;have kA4:w4.cell? ⟨w.heap.size+1,0,Y⟩=Z (L what):=HKA.o w4 Ho;have kB4:w4.cell? ⟨w1.heap.size+1,0,Y⟩=Z (R (Z ⟨w1.heap.size,0,Y⟩) cnt cnt):=Ja p9;have ip:=Qm F7 Ho.size;have j4:=(q2.cell (p:=⟨w.heap.size,0,Y⟩) (by show w.heap.size<_;omega) (by show ¬w.heap.size=b;omega)).trans k4;have jA4:=(q2.cell (p:=⟨w.heap.size+1,0,Y⟩) (by show w.heap.size+1<_;omega) (by show ¬w.heap.size+1=b;omega)).trans kA4;have jB4:=(q2.cell (p:=⟨w1.heap.size+1,0,Y⟩) (Jb p9) (by show ¬w1.heap.size+1=b;omega)).trans kB4;have Q1:J (Jd _ _ _ _ _ _):=q1;have Q2:J (M _ _ _):=q2;have M4:J (Jq _ _ _):=pZ;have T4:J (M _ _ _):=Ho;have B4:J (w4.heap[_]? =_):=p9;have PL:J (w4.heap[_]? =_):=ag;have EV:J (Jn _ _ _ _):=uT;have P4:J (Jd _ _ _ _ _ _):=xp;clear h4 q1 q2 pZ Ho ae p9 xp qW ag uT))
   all_goals
    have hb4:=P4.out.lt;have k5:(w4.setCell ⟨b,2,Y⟩ (aJ 235 (X (Z ⟨pp,0,Y⟩)))).cell? ⟨w1.heap.size+1,0,Y⟩=Z (R (Z ⟨w1.heap.size,0,Y⟩) cnt cnt):=Ja ((Q2.out.block _ (Jb B4.out) (by omega)).trans B4.out);have h6:J (Jn E 7 (w4.setCell ⟨b,2,Y⟩ (aJ 235 (X (Z ⟨pp,0,Y⟩)))) (aJ 235 (X (Z ⟨pp,0,Y⟩)))):=(Jn.wrap pp ss vv PL.out EV.out).tch Q2.out (λq s u hq e=>JmJ hq P4.out e);generalize w4.setCell ⟨b,2,Y⟩ (aJ 235 (X (Z ⟨pp,0,Y⟩)))=W5 at *;go_wp2;go_ret;show ToL _ E w b g wj Q (PS.many Q.f (Jw Q.zero xa cnt) p) _ _;rw[HQ.o];refine⟨⟨_,_,_,rfl⟩,g4,p4,_,Q1.out,h6.out,G5.out.trans M4.out G6.out.size,?_⟩;refine(G6.out.trans T4.out (λj h=>?_)).trans Q2.out (λj h=>aM (aM h))
    rcases h with h|h|h
    ·exact aM (aM h)
    ·rcases G5.out with e|⟨i,e,hi⟩
     ·rw[e]at h;exact aM (aN h)
     ·rw[e]at h;cases h;exact aN hi
    ·exact aN (by omega)

theorem ZO{K:LX}(hK:IsL K)(mx:Nat)(hmx:mx<=264){E:Nat->Addr}{b wj lim:Nat}{α:Type}{Q:XY α}(H:Zh E b wj lim K.k.fP Q K.Sh)(hz:Q.zeroV=K.z)(Hc:18<=b)(g:Option Nat)(what:BA)(kq:what.size<=1000)(size least most:Nat)(v:aG)(l:List VV)(xa:List α)(p0:PS)(w:aA)
  (hE:Env E w) (hp:Jd w b g wj aK p0) (hv:VAt w.heap.size w v l) (qL:JcX b g v) (hl:l.length=xa.length) (hn:xa.length<1000000) (hd:p0.len+8+Q.grow*mx<=lim) (ur:lim<=10000000000000) (Hi:size<=8) (qY:most<=mx) (zM:p0.takes v)
  (ku:∀(j:Nat) x a,l[j]? =Z x->xa[j]? =Z a->Q.Init b w p0 x a):
  aB N K.fL #[X (Z ⟨b,0,Y⟩),aH #[L what,O I (size:Int),O aD (least:Int),O aD (most:Int)],v,.func (.func K.k.fP) #[X (Z ⟨b,0,Y⟩)] #[]] w λe w'=>ToL K.k E w b g wj Q (p0.lst Q.f Q.zero size least most xa) e w':=by
 unfold PS.lst;obtain⟨ia,ic,Hx⟩:=hv.shape;rw[hl]at Hx
 cases h1:p0.num xa.length size with
 | none=>exact Joi hK E b g wj what kq size least most v ia _ ic Hx p0 w hE hp hn (by omega) Hi h1
 | some r=>
  obtain⟨cnt,p⟩:=r
  by_cases hr:cnt<least\/most<cnt
  ·simp only[hr,if_true];exact Joj hK E b Hc g wj what kq size least most v ia _ ic cnt Hx p0 p w hE hp hn (by omega) Hi h1 hr
  ·simp only[hr,if_false];exact Jok hK mx hmx H hz Hc g what kq size least most v l xa cnt p0 p w hE hp hv qL hl hn hd ur Hi qY h1 (by omega) (by omega) (Jfu zM h1) ku
theorem Jom:type_of% (@Jbg xO isO):= @Jbg xO isO
theorem Jol:type_of% (@ZO xO isO 3 (by decide)):= @ZO xO isO 3 (by decide)
theorem Jqn:type_of% (@JcC xO isO):= @JcC xO isO
theorem Joh:type_of% (@Jbg xC isC):= @Jbg xC isC
theorem Jog:type_of% (@ZO xC isC 3 (by decide)):= @ZO xC isC 3 (by decide)
theorem Jqm:type_of% (@JcC xC isC):= @JcC xC isC
theorem Jop:type_of% (@Jbg xT isT):= @Jbg xT isT
theorem Joo:type_of% (@ZO xT isT 3 (by decide)):= @ZO xT isT 3 (by decide)
theorem Jqp:type_of% (@JcC xT isT):= @JcC xT isT
theorem Jon:type_of% (@ZO xS isS 264 (by decide)):= @ZO xS isS 264 (by decide)
theorem Jqo:type_of% (@JjC xS isS):= @JjC xS isS

theorem JdJ(n:Int):lM.wrap n=(JD n:Int):=by
 simp[IntKind.wrap,IntKind.bits,IntKind.signed,JD];omega
def Zc(wj:Nat)(c:BA×Int)(st:Option PS):(List UInt8×Nat)×Option PS:=
 (((Jk c.1.data.toList wj st).1,(JF (JD c.2) 1 (Jk c.1.data.toList wj st).2).1),if 3<=(JF (JD c.2) 1 (Jk c.1.data.toList wj st).2).1 then Y else (JF (JD c.2) 1 (Jk c.1.data.toList wj st).2).2)
theorem Jdb(wj:Nat)(c:BA×Int)(p:PS)(h:p.coin wj c=Y):(Zc wj c (Z p)).2=Y:=by
 unfold Zc;unfold PS.coin at h
 cases h1:p.txt c.1.data.toList wj with
 | none=>rw[Yb h1,Jld];rfl
 | some r=>
  obtain⟨t,p1⟩:=r;rw[JN h1];simp only[h1]at h
  cases h2:p1.num (JD c.2) 1 with
  | none=>rw[ZL h2];rfl
  | some r=>
   obtain⟨m,p2⟩:=r;rw[JS h2];simp only[h2]at h
   split at h
   ·cases h
   ·exact if_pos (by simp only;omega)
theorem Jdc(wj:Nat)(c y:BA×Int)(p p2:PS)(h:p.coin wj c=Z (y,p2)):(Zc wj c (Z p)).2=Z p2/\y=(⟨(Zc wj c (Z p)).1.1.toArray⟩,((Zc wj c (Z p)).1.2:Int)):=by
 unfold Zc;unfold PS.coin at h
 cases h1:p.txt c.1.data.toList wj with
 | none=>rw[h1]at h;cases h
 | some r=>
  obtain⟨t,p1⟩:=r;rw[JN h1];simp only[h1]at h
  cases h2:p1.num (JD c.2) 1 with
  | none=>rw[h2]at h;cases h
  | some r=>
   obtain⟨m,p2'⟩:=r;rw[JS h2];simp only[h2]at h
   split at h
   ·rename_i h3;simp only[Qh,Qw]at h;obtain⟨rfl,rfl⟩:=h;exact⟨if_neg (by simp only;omega),rfl⟩
   ·cases h
theorem Jiz(m:Nat)(h:m<256):I.wrap (m:Int)=(m:Int):=Jo _ (by omega) (by omega)

theorem Jjz(E:Nat->Addr)(b:Nat)(Hc:18<=b)(g:Option Nat)(wj:Nat)(c:BA×Int)(st:Option PS)(w:aA)(hE:Env E w)(hp:Jg E w b g wj st)(hd:JP st+wj<=90000000):
  aB N 203 #[X (Z ⟨b,0,Y⟩),aH #[L c.1,O I c.2]] w λe w'=>e=aC (aH #[L ⟨(Zc wj c st).1.1.toArray⟩,O I ((Zc wj c st).1.2:Int)])/\StTo E w w' b g wj (Zc wj c st).2:=by
 have H5:=hp.lt;have hx:=JdJ c.2;obtain⟨s,aZ⟩:=c;simp only at hx;have HC:J (Zc wj (s,aZ) st=(((Jk s.data.toList wj st).1,(JF (JD aZ) 1 (Jk s.data.toList wj st).2).1),if 3<=(JF (JD aZ) 1 (Jk s.data.toList wj st).2).1 then Y else (JF (JD aZ) 1 (Jk s.data.toList wj st).2).2)):=rfl;simp only;go_enter func203,ntmps203;go_wp2_with fail;refine(YZ E b g wj s st _ (hE.allocs _ _) (hp.next (M.allocs _ _ _ _)) (by omega)).mono ?_;rintro _ w1⟨rfl,g1,(Hq:J _),js,H6⟩;have j5:=YD s.data.toList wj st;generalize uw:(Jk s.data.toList wj st).2=st1 at *;generalize hTB:(⟨(Jk s.data.toList wj st).1.toArray⟩:BA)=tb at *;have ki:J _:=uw;have gE:J _:=hTB;have cB:=(H6.cell (p:=⟨w.heap.size,1,Y⟩) (by simp;omega) (Ji7 hp _ (Ql _))).trans (Ja (heap_alloc2_old _ _ _));have rR:=(H6.block _ (by simp) (Ji7 hp _ (by omega))).trans (heap_alloc2_new _ _ _);have rj:=H6.size;simp at rj;have qo:J _:=(hE.allocs _ _).tch H6 (Jcj Hc hp);have HN:J (∀g',Jq w1 g1 g'->¬(w.heap.size+1=b\/Z (w.heap.size+1)=g')):=λg' hm=>Jck hp (js.trans hm H6.size) _ (by omega) (by simp);have RR:J _:=rR;have jO:J (Jq _ _ _):=js;have H3:J (M _ _ _):=H6;clear rR js H6 hp hE;go_wp2_with fail;refine(Jah E b g1 wj (JD aZ) 1 st1 _ qo Hq (by omega) (by omega)).mono ?_;rintro _ w2⟨rfl,g2,kJ,kn,H7⟩;have hm:=Jch (JD aZ) 1 st1;generalize uy:(JF (JD aZ) 1 st1).2=st2 at *;generalize hM:(JF (JD aZ) 1 st1).1=m at *;have jL:J _:=uy;have HMM:J _:=hM;have ql:=Jiz m (by omega);have rR2:w2.heap[w.heap.size+1]? =Z (T #[L ⟨#[]⟩,O I 0] 49):=(H7.block _ (by omega) (HN g1 (aM rfl))).trans RR.out;have RR2:J _:=rR2;have vN:J _:=qo.tch H7 (Jcj Hc Hq);have Hw:J _:=kJ;have mO:J (Jq _ _ _):=kn;have H4:J _:=H7;have TA:J _:=Yx H3 H7 jO.o;have MA:J (Jq _ g g2):=jO.o.trans kn H3.o.size
 by_cases h3:3<=m
 ·have rk:(3:Int)<=(m:Int):=by omega
  go_wp2_with fail;refine(Jal E b g2 wj _ st2 w2 vN Hw).mono ?_;rintro _ w3⟨rfl,g3,mP,qY,(H8:J _)⟩;have rR3:=(H8.block _ (Jb RR2) (HN g2 mO)).trans RR2.out;obtain⟨e0,e1⟩:=rows rR3;have fR:∀j,w3.frozen? ⟨w.heap.size+1,j,Y⟩=false:=λj=>Qg _ _ _ _ _ rR3;have RR3:J _:=rR3;have jy:J (Jg _ _ _ _ _ _):=mP;have cP:J (Jq _ _ _):=qY;clear rR3 mP qY;go_wp2;rw[set2 _ _ _ _ _ _ _ RR3.out];obtain rfl:=gE.o;obtain rfl:=jL.o;obtain rfl:=HMM.o;obtain rfl:=ki.o;refine QK (v:=aH #[L _,O I _]) (Qq results203 _ _ (w.heap.size+1) _ _ (0,0) _ rfl (Qi _ _ _ _ _ _ RR3) underlying49 rfl (by kernel_rfl)) rfl ⟨by rw[HC.o],?_⟩;rw[HC.o,if_pos h3];refine StTo.row (StTo.fresh (M.allocs _ _ _ _) (StTo.trans MA TA ⟨g3,jy,cP,H8⟩)) (by omega) RR3 (by decide) (by omega) (λg' _ hg e=>?_);exact HN.o g3 (mO.o.trans cP.o H4.o.size) (aN (by rw[e];exact hg.same jy.o))
 ·have rk:¬(3:Int)<=(m:Int):=by omega
  obtain⟨e0,e1⟩:=rows rR2;have fR:∀j,w2.frozen? ⟨w.heap.size+1,j,Y⟩=false:=λj=>Qg _ _ _ _ _ rR2;go_wp2;rw[set2 _ _ _ _ _ _ _ RR2.out];obtain rfl:=gE.o;obtain rfl:=jL.o;obtain rfl:=HMM.o;obtain rfl:=ki.o;refine QK (v:=aH #[L _,O I _]) (Qq results203 _ _ (w.heap.size+1) _ _ (0,0) _ rfl (Qi _ _ _ _ _ _ RR2) underlying49 rfl (by kernel_rfl)) rfl ⟨by rw[HC.o],?_⟩;rw[HC.o,if_neg h3];refine StTo.row (StTo.fresh (M.allocs _ _ _ _) ⟨g2,Hw,MA,TA⟩) (by omega) RR2 (by decide) (by omega) (λg' _ hg e=>?_);exact HN g2 mO (aN (by rw[e];exact hg.same Hw))

theorem JoA(x m:Nat)(p p1:PS)(h:p.num x 1=Z (m,p1)):m<256:=by
 have:=Jch x 1 (Z p);rw[JS h]at this;simpa using this
theorem Jb8(a o:Nat)(y:Nat×Nat)(p p2:PS)(h:p.out a o=Z (y,p2)):∃p1,p.num a 8=Z (y.1,p1)/\p1.num o 1=Z (y.2,p2)/\p1.len<=p.len+8/\p2.len<=p.len+9/\y.2<256:=by
 unfold PS.out at h
 cases q:p.num a 8 with
 | none=>simp[q]at h
 | some r=>
  obtain⟨a',p1⟩:=r;simp only[q]at h
  cases q2:p1.num o 1 with
  | none=>simp[q2]at h
  | some s=>
   obtain⟨o',p2'⟩:=s;simp only[q2,Qh,Qw]at h;obtain⟨rfl,rfl⟩:=h;have l1:=ZP _ _ _ _ _ q;have l2:=ZP _ _ _ _ _ q2;exact⟨p1,rfl,q2,l1,by omega,JoA _ _ _ _ q2⟩
def encO(o:Nat×Nat):VV:=(O aD (o.1:Int),O aE (o.2:Int))
def Jc8:XY (Nat×Nat) where
 f:=λo p=>p.out o.1 o.2
 grow:=9
 zero:=(0,0)
 zeroV:=zO
 Init:=λ_ _ _ x o=>x=encO o/\o.2<256
 Done:=λ_ _ _ x o=>x=encO o
theorem lawO(E:Nat->Addr)(b:Nat)(Hc:18<=b)(wj lim:Nat)(hl:lim<=80000000):Zh E b wj lim lkO.fP Jc8 ShO where
 init_tch:=λh _ _ _=>h
 init_zero:=λ_ _=>⟨rfl,by decide⟩
 init_shape:=λh=>⟨_,_,h.1⟩
 done_tch:=λh _ _ _=>h
 done_mono:=λh _=>h
 like:=λ{a a' p p'} h=>by
  obtain⟨p1,h1,h2,_⟩:=Jb8 _ _ _ _ _ h;exact(Yn h1).trans (Yn h2)
 len:=λ{w x a a' p p'} _ h=>by
  obtain⟨p1,_,_,_,h2,_⟩:=Jb8 _ _ _ _ _ h;exact h2
 call:=λ{w g p x a} hE hp hI hd=>by
  obtain⟨rfl,ha⟩:=hI;show aB _ _ #[_,aH #[O aD (a.1:Int),O aE (a.2:Int)]] _ _;show aB _ _ _ _ λe w'=>∃y,ShO y/\e=_/\ToP E w b g wj Jc8 (p.out a.1 a.2) y w'
  cases h:p.out a.1 a.2 with
  | none=>
   have kX:aB N 205 #[X (Z ⟨b,0,Y⟩),aH #[O aD (a.1:Int),O aE (a.2:Int)]] w λe w'=>∃x y:Int,e=aC (aH #[O aD x,O aE y])/\Jbz E w w' b g wj:=by
    unfold PS.out at h
    cases h1:p.num a.1 8 with
    | none=>exact JkP E b g wj a.1 a.2 p w hE hp (by omega) h1
    | some r=>
     obtain⟨a',p1⟩:=r;simp only[h1]at h
     cases h2:p1.num a.2 1 with
     | none=>exact JkQ E b Hc g wj a.1 a.2 a' p p1 w hE hp (by omega) ha h1 h2
     | some r=>simp[h2]at h
   refine kX.mono ?_;rintro e w'⟨x,y,rfl,g',p',h1,h2,h3⟩;exact⟨(O aD x,O aE y),⟨_,_,rfl⟩,rfl,g',_,p',h1,h2,h3,.base⟩
  | some r=>
   obtain⟨y,p2⟩:=r;obtain⟨p1,h1,h2,l1,l2,hy⟩:=Jb8 _ _ _ _ _ h;refine(JmF b g wj a.1 a.2 y.1 y.2 p p1 p2 w hp (by omega) (by omega) ha h1 h2 hy).mono ?_;rintro e w'⟨rfl,g',k1,k2,k3⟩;exact⟨encO y,⟨_,_,rfl⟩,rfl,g',_,p2,k1,k2,k3,rfl,rfl,rfl⟩
def encC(c:BA×Int):VV:=(L c.1,O I c.2)
def Jc7(wj:Nat):XY (BA×Int) where
 f:=λc p=>p.coin wj c
 grow:=wj+1
 zero:=(⟨#[]⟩,0)
 zeroV:=zC
 Init:=λ_ _ _ x c=>x=encC c
 Done:=λ_ _ _ x c=>x=encC c
theorem Jas{wj:Nat}{y:BA×Int}{p2:PS}(h:p.coin wj c=Z (y,p2)):p.like p2/\p2.len<=p.len+(wj+1):=by
 unfold PS.coin at h
 cases q:p.txt c.1.data.toList wj with
 | none=>simp[q]at h
 | some r=>
  obtain⟨t,p1⟩:=r;simp only[q]at h
  cases q2:p1.num (JD c.2) 1 with
  | none=>simp[q2]at h
  | some s=>
   obtain⟨m,p2'⟩:=s;simp only[q2]at h
   split at h
   ·simp only[Qh,Qw]at h;obtain⟨_,rfl⟩:=h;have l1:=Jgw _ _ _ _ _ q;have l2:=ZP _ _ _ _ _ q2;exact⟨(Jh9 q).trans (Yn q2),by omega⟩
   ·cases h
theorem lawC(E:Nat->Addr)(b:Nat)(Hc:18<=b)(wj lim:Nat)(hl:lim+wj<=80000000):Zh E b wj lim lkC.fP (Jc7 wj) ShC where
 init_tch:=λh _ _ _=>h
 init_zero:=λ_ _=>rfl
 init_shape:=λh=>⟨_,_,h⟩
 done_tch:=λh _ _ _=>h
 done_mono:=λh _=>h
 like:=λh=>(Jas h).1
 len:=λ_ h=>(Jas h).2
 call:=λ{w g p x a} hE hp hI hd=>by
  obtain rfl:=hI;show aB _ _ #[_,aH #[L a.1,O I a.2]] _ _;refine(Jjz E b Hc g wj a (Z p) w hE hp (by simp only[JP];omega)).mono ?_;rintro e w'⟨rfl,g',k1,k2,k3⟩;refine⟨(L _,O I _),⟨_,_,rfl⟩,rfl,?_⟩;show ToP E w b g wj (Jc7 wj) (p.coin wj a) _ w'
  cases h:p.coin wj a with
  | none=>
   rw[Jdb wj a p h]at k1;obtain⟨p',t,u,h1,h2⟩:=k1;exact⟨g',_,p',h1,k2,k3,h2⟩
  | some r=>
   obtain⟨y,p2⟩:=r;obtain⟨e1,e2⟩:=Jdc wj a y p p2 h;rw[e1]at k1;exact⟨g',_,p2,k1,k2,k3,rfl,rfl,by rw[e2];rfl⟩
theorem Jft:∀(l:List (Nat×Nat))(p:PS),PS.many Jc8.f l p=PS.outs l p
 | [],_=>rfl
 | x::r,p=>by
  simp only[PS.many,PS.outs];have e:Jc8.f x p=p.out x.1 x.2:=rfl;rw[e]
  cases p.out x.1 x.2 with
  | none=>rfl
  | some q=>simp only[Jft r];cases PS.outs r q.2<;>rfl
theorem JdX(wj:Nat):∀(l:List (BA×Int))(p:PS),PS.many (Jc7 wj).f l p=PS.coins wj l p
 | [],_=>rfl
 | x::r,p=>by
  simp only[PS.many,PS.coins];have e:(Jc7 wj).f x p=p.coin wj x:=rfl;rw[e]
  cases p.coin wj x with
  | none=>rfl
  | some q=>simp only[JdX wj r];cases PS.coins wj r q.2<;>rfl
theorem Jng(l:List (Nat×Nat))(cnt:Nat):Jw (0,0) l cnt=Zd l cnt:=by
 unfold Jw Zd
 cases l<;>simp
theorem Jnf(l:List (BA×Int))(cnt:Nat):Jw (⟨#[]⟩,0) l cnt=Yy l cnt:=by
 unfold Jw Yy
 cases l<;>simp
theorem Jms(least most:Nat)(l:List (Nat×Nat))(p:PS):p.lst Jc8.f Jc8.zero 1 least most l=p.listO least most l:=by
 unfold PS.lst PS.listO
 cases p.num l.length 1 with
 | none=>rfl
 | some r=>simp only[Jft,<-Jng];rfl
theorem Jmr(wj least most:Nat)(l:List (BA×Int))(p:PS):p.lst (Jc7 wj).f (Jc7 wj).zero 1 least most l=p.listC wj least most l:=by
 unfold PS.lst PS.listC
 cases p.num l.length 1 with
 | none=>rfl
 | some r=>simp only[JdX,<-Jnf];rfl
theorem Jr.vat{l:List (Nat×Nat)}(h:Jr B w v l):VAt B w v (l.map encO):=by
 rcases h with⟨h1,h2⟩|⟨gi,oi,c,h1,h2,h3,h4⟩
 ·exact aM ⟨h1,by rw[h2];rfl⟩
 ·exact aN ⟨gi,oi,c,by rw[QM];exact h1,h2,h3,λi hi=>by
   rw[lJ];exact h4 i (by simpa using hi)⟩
theorem JG.vat{l:List (BA×Int)}(h:JG B w v l):VAt B w v (l.map encC):=by
 rcases h with⟨h1,h2⟩|⟨gi,oi,c,h1,h2,h3,h4⟩
 ·exact aM ⟨h1,by rw[h2];rfl⟩
 ·exact aN ⟨gi,oi,c,by rw[QM];exact h1,h2,h3,λi hi=>by
   rw[lJ];exact h4 i (by simpa using hi)⟩
theorem Jc5(enc:α->VV):∀(xs:List VV)(ys:List α),xs.length=ys.length->(∀(j:Nat) x a,xs[j]? =Z x->ys[j]? =Z a->x=enc a)->xs=ys.map enc:=by
 intro xs ys hl h;apply List.ext_getElem (by simpa using hl);intro j h1 h2;rw[lJ];exact h j _ _ (Qd h1) (Qd (by omega))
def ToO(E:Nat->Addr)(w:aA)(b:Nat)(g:Option Nat)(wj:Nat)(r:Option (List (Nat×Nat)×PS))(e:Ending)(w':aA):Prop:=
 match r with
 | some (ys,p2)=>∃gp,e=aC (R (Z ⟨gp,0,Y⟩) ys.length ys.length)/\w.heap.size<=gp/\w'.heap[gp]? =Z (T (vvA (ys.map encO)) 80)/\∃g',Jd w' b g' wj aK p2/\Z gp ≠ g'/\Jq w g g'/\M (λk=>k=b\/Z k=g) w w'
 | none=>(∃a n c,e=aC (R a n c))/\JbR E w w' b g wj
def ToC(E:Nat->Addr)(w:aA)(b:Nat)(g:Option Nat)(wj:Nat)(r:Option (List (BA×Int)×PS))(e:Ending)(w':aA):Prop:=
 match r with
 | some (ys,p2)=>∃gp,e=aC (R (Z ⟨gp,0,Y⟩) ys.length ys.length)/\w.heap.size<=gp/\w'.heap[gp]? =Z (T (vvA (ys.map encC)) 49)/\∃g',Jd w' b g' wj aK p2/\Z gp ≠ g'/\Jq w g g'/\M (λk=>k=b\/Z k=g) w w'
 | none=>(∃a n c,e=aC (R a n c))/\JbR E w w' b g wj
theorem ToO.of{wj:Nat}{r:Option (List (Nat×Nat)×PS)}(h:ToL lkO E w b g wj Jc8 r e w'):ToO E w b g wj r e w':=by
 cases r with
 | none=>exact h
 | some r=>
  obtain⟨ys,p2⟩:=r;obtain⟨gp,xs,h1,h2,h3,h4,g',h5,h6,h7,h8,h9⟩:=h;exact⟨gp,h1,h2,by rw[Jc5 encO xs ys h4 h7]at h3;exact h3,g',h5,h6,h8,h9⟩
theorem ToC.of{wj:Nat}{r:Option (List (BA×Int)×PS)}(h:ToL lkC E w b g wj (Jc7 wj) r e w'):ToC E w b g wj r e w':=by
 cases r with
 | none=>exact h
 | some r=>
  obtain⟨ys,p2⟩:=r;obtain⟨gp,xs,h1,h2,h3,h4,g',h5,h6,h7,h8,h9⟩:=h;exact⟨gp,h1,h2,by rw[Jc5 encC xs ys h4 h7]at h3;exact h3,g',h5,h6,h8,h9⟩
theorem ToO.shape{wj:Nat}{r:Option (List (Nat×Nat)×PS)}(h:ToO E w b g wj r e w'):∃a n c,e=aC (R a n c):=by
 cases r with
 | none=>exact h.1
 | some r=>obtain⟨gp,he,_⟩:=h;exact⟨_,_,_,he⟩
theorem ToC.shape{wj:Nat}{r:Option (List (BA×Int)×PS)}(h:ToC E w b g wj r e w'):∃a n c,e=aC (R a n c):=by
 cases r with
 | none=>exact h.1
 | some r=>obtain⟨gp,he,_⟩:=h;exact⟨_,_,_,he⟩
theorem Jfr(E:Nat->Addr)(b:Nat)(Hc:18<=b)(g:Option Nat)(wj:Nat)(what:BA)(v:aG)(l:List (Nat×Nat))(least most:Nat)(p0:PS)(w:aA)
 (hE:Env E w) (hp:Jd w b g wj aK p0) (hv:Jr b w v l) (kq:what.size<=1000) (yL:l.length<1000000) (qY:most<=3) (xM:p0.takes v) (ho:∀x∈l,x.2<256) (hd:p0.len<=70000000):
  aB N 204 #[X (Z ⟨b,0,Y⟩),aH #[L what,O I ((1:Nat):Int),O aD (least:Int),O aD (most:Int)],v,.func (.func 205) #[X (Z ⟨b,0,Y⟩)] #[]] w λe w'=>ToO E w b g wj (p0.listO least most l) e w':=by
 rw[<-Jms];exact(Jol (lawO E b Hc wj 80000000 (by omega)) rfl Hc g what kq 1 least most v (l.map encO) l p0 w hE hp (hv.vat.up (Nat.le_of_lt hp.lt)) (hv.vat.free hp) (by simp) yL (by simp only[Jc8];omega) (by omega) (by omega) qY xM (λj x a h1 h2=>by
  rw[List.getElem?_map,h2]at h1;simp only[Option.map_some,Qh]at h1;exact⟨h1.symm,ho a (QT h2)⟩)).mono λe w' h=>ToO.of h
theorem JkD(E:Nat->Addr)(b:Nat)(Hc:18<=b)(g:Option Nat)(wj:Nat)(hw:wj<=1000)(what:BA)(v:aG)(l:List (BA×Int))(least most:Nat)(p0:PS)(w:aA)
 (hE:Env E w) (hp:Jd w b g wj aK p0) (hv:JG b w v l) (kq:what.size<=1000) (yL:l.length<1000000) (qY:most<=3) (xM:p0.takes v) (hd:p0.len<=70000000):
  aB N 202 #[X (Z ⟨b,0,Y⟩),aH #[L what,O I ((1:Nat):Int),O aD (least:Int),O aD (most:Int)],v,.func (.func 203) #[X (Z ⟨b,0,Y⟩)] #[]] w λe w'=>ToC E w b g wj (p0.listC wj least most l) e w':=by
 rw[<-Jmr];exact(Jog (lawC E b Hc wj 79000000 (by omega)) rfl Hc g what kq 1 least most v (l.map encC) l p0 w hE hp (hv.vat.up (Nat.le_of_lt hp.lt)) (hv.vat.free hp) (by simp) yL (by simp only[Jc7];omega) (by omega) (by omega) qY xM (λj x a h1 h2=>by
  rw[List.getElem?_map,h2]at h1;simp only[Option.map_some,Qh]at h1;exact h1.symm)).mono λe w' h=>ToC.of h
theorem Jbp(E:Nat->Addr)(b:Nat)(Hc:18<=b)(g:Option Nat)(wj:Nat)(v:aG)(l:List (Nat×Nat))(p0:PS)(w:aA)
 (hE:Env E w) (hp:Jd w b g wj aK p0) (hv:Jr b w v l) (yL:l.length<1000000) (xM:p0.takes v) (ho:∀x∈l,x.2<256) (hd:p0.len<=70000000):
  aB N 188 #[X (Z ⟨b,0,Y⟩),v] w λe w'=>
   ToO E w b g wj (p0.listO 1 3 l) e w':=by
 obtain⟨ia,ic,Hx⟩:=hv.shape;have vF:∀(fn:Fn)(first cap:Array aG)(w:aA),(Instr.makeFunc fn first cap).run N w=.ok (.func fn first cap) w:=λ_ _ _ _=>rfl;have ah:J (∀what:BA,what.size<=1000->_):=λwhat kq=>Jfr E b Hc g wj what v l 1 3 p0 w hE hp hv kq yL (by omega) xM ho hd;clear hE hp hv xM ho;subst Hx;go_enter func188,ntmps188;go_wp2_with fail;refine(ah.out _ (by decide)).mono ?_;clear ah;intro e w1 h;obtain⟨a,n,c,rfl⟩:=h.shape;have HH:J (ToO _ _ _ _ _ _ _ _):=h;clear h;go_wp2;go_ret;exact HH.o


inductive Er where|form|tip|input|exist|sum|root|range
 deriving DecidableEq
instance (l1 l2:List (Nat×Nat)):Decidable (Xm l1 l2):=by unfold Xm;infer_instance

def Zn(st:Option Tr)(k:Key)(o:Nat×Nat):Except Er (Option Tr):=
 match st with
 | none=>.ok (Z (.leaf k o))
 | some t=>if (t.near k).1=k then .error .exist else .ok (Z (t.graft k o (fd (t.near k).1 k)))
def JW(st:Option Tr)(k:Key):Except Er (Option Tr×(Nat×Nat)):=
 match st with
 | none=>.error .input
 | some t=>if (t.near k).1=k then .ok (t.cut k,(t.near k).2) else .error .input
def Xd:List (BA×Int)->Option Tr->Except Er (Option Tr×List (Nat×Nat))
 | [],st=>.ok (st,[])
 | c::r,st=>match JW st (Jc c) with
  | .error e=>.error e
  | .ok (st1,o)=>match Xd r st1 with
   | .error e=>.error e
   | .ok (st2,os)=>.ok (st2,o::os)
def Jz(id:BA):Nat->List (Nat×Nat)->Option Tr->Except Er (Option Tr)
 | _,[],st=>.ok st
 | i,o::r,st=>match Zn st (Jc (id,(i:Int))) o with
  | .error e=>.error e
  | .ok st1=>Jz id (i+1) r st1
def JI(dg:List UInt8->BA)(st:Option Tr)(t:TxL):Except Er (Option Tr):=
 match Xd t.1 st with
 | .error e=>.error e
 | .ok (st1,os)=>match Jz (dg (84::txB t)) 0 t.2 st1 with
  | .error e=>.error e
  | .ok st2=>if Xm os t.2 then .error .sum else .ok st2
def JH(dg:List UInt8->BA):Option Tr->List TxL->Except Er (Option Tr)
 | st,[]=>.ok st
 | st,t::r=>match JI dg st t with
  | .error e=>.error e
  | .ok st1=>JH dg st1 r

abbrev H9:=(BA×Int)×(Nat×Nat)
def XX(l:List H9)(c:BA×Int):Option Nat:=l.findIdx? (λh=>decide (h.1=c))
def M64:Nat:=18446744073709551616
def Jnb:List (BA×Int)->List H9×Nat×Bool->Option (List H9×Nat×Bool)
 | [],s=>Z s
 | c::r,(now,inn,over)=>match XX now c with
  | none=>Y
  | some k=>Jnb r (now.eraseIdx k,(inn+(now.getD k ((⟨#[]⟩,0),(0,0))).2.1) % M64,over || decide ((inn+(now.getD k ((⟨#[]⟩,0),(0,0))).2.1) % M64<inn))
def ZJ(id:BA):Nat->List (Nat×Nat)->List H9×Nat×Bool->Option (List H9×Nat×Bool)
 | _,[],s=>Z s
 | i,o::r,(now,out,over)=>match XX now (id,(i:Int)) with
  | some _=>Y
  | none=>ZJ id (i+1) r (now++[((id,(i:Int)),o)],(out+o.1) % M64,over || decide ((out+o.1) % M64<out))
def Jqk(dg:List UInt8->BA)(l:List H9)(t:TxL):Except Er (List H9):=
 match Jnb t.1 (l,0,false) with
 | none=>.error .input
 | some (now,inn,over)=>match ZJ (dg (84::txB t)) 0 t.2 (now,0,over) with
  | none=>.error .exist
  | some (now2,out,over2)=>if over2=true\/inn<out then .error .sum else .ok now2

structure Book(wj:Nat)(st:Option Tr)(l:List H9):Prop where
 wf:∀t,st=Z t->t.Wf
 ok:∀h∈l,Ji wj h.1/\JC h.2
 nodup:(l.map (·.1)).Nodup
 mem:∀k o,(k,o)∈JX st↔∃h∈l,Jc h.1=k/\h.2=o
theorem Zx{wj:Nat}{d:BA×Int}(h1:Ji wj c)(h2:Ji wj d)(h:Jc c=Jc d):c=d:=by
 obtain⟨a1,a2,a3⟩:=h1;obtain⟨b1,b2,b3⟩:=h2;unfold Jc at h;obtain⟨e1,e2⟩:=lF h (by simp only[QA];exact a1.trans b1.symm);have x1:=Zk c.2 a2 (by omega);have x2:=Zk d.2 b2 (by omega);have y:∀n,n<256->numL (beL n 1 1)=n:=λn hn=>by rw[YH n 1 (by omega) 1 (Ql _)];simp
 have e3:JD c.2=JD d.2:=by rw[<-y (JD c.2) (by omega),<-y (JD d.2) (by omega),e2]
 have e4:c.2=d.2:=by rw[<-x1,<-x2,e3]
 have e5:c.1=d.1:=by
  have:c.1.data=d.1.data:=by rw[<-lK];exact e1
  cases hc:c.1;cases hd:d.1;rw[hc,hd]at this;simp only at this;rw[this]
 exact Prod.ext e5 e4
theorem Xg{wj:Nat}(h:Ji wj c):(Jc c).length=wj+1:=by
 unfold Jc;rw[Qe,Jf];have:=h.1;simp only[QA];show c.1.data.size+1=_;rw[<-this];rfl
theorem JbB{l:List H9}(h:XX l c=Z k):∃hk:k<l.length,l[k].1=c:=by
 unfold XX at h;rw[List.findIdx?_eq_some_iff_getElem]at h;obtain⟨hk,h1,_⟩:=h;exact⟨hk,by simpa using h1⟩
theorem JdN{l:List H9}(h:XX l c=Y):∀x∈l,x.1 ≠ c:=by
 unfold XX at h;rw[List.findIdx?_eq_none_iff]at h;intro x hx;simpa using h x hx
theorem JkM{l:List H9}(hn:(l.map (·.1)).Nodup)(hk:k<l.length):∀x,x∈l.eraseIdx k↔x∈l/\x.1 ≠ l[k].1:=by
 intro x;have inj:∀(i j:Nat)(hi:i<l.length)(hj:j<l.length),l[i].1=l[j].1->i=j:=by intro i j hi hj e;have:=(List.getElem_inj (i:=i) (j:=j) (h₀:=by simpa using hi) (h₁:=by simpa using hj) hn).1 (by simpa using e);exact this
 rw[List.mem_eraseIdx_iff_getElem];constructor
 ·rintro⟨i,hi,Hd,rfl⟩;exact⟨Qx hi,λe=>Hd (inj i k hi hk e)⟩
 ·rintro⟨hx,Hd⟩;obtain⟨i,hi,rfl⟩:=List.getElem_of_mem hx;exact⟨i,hi,λe=>Hd (by subst e;rfl),rfl⟩
theorem Book.find{wj:Nat}{st:Option Tr}{l:List H9}(B:Book wj st l)(hc:Ji wj c){t:Tr}(ht:st=Z t):(t.near (Jc c)).1=Jc c↔∃k,XX l c=Z k:=by
 subst ht;constructor
 ·intro h;have hm:=t.near_mem (Jc c);have:((t.near (Jc c)).1,(t.near (Jc c)).2)∈JX (Z t):=hm;rw[h]at this;obtain⟨x,hx,h1,h2⟩:=(B.mem _ _).1 this
  cases hf:XX l c with
  | some k=>exact⟨k,rfl⟩
  | none=>exact absurd (Zx (B.ok x hx).1 hc h1) (JdN hf x hx)
 ·rintro⟨k,hk⟩;obtain⟨hl,e⟩:=JbB hk;have:(Jc c,l[k].2)∈JX (Z t):=(B.mem _ _).2 ⟨l[k],Qx hl,by rw[e],rfl⟩;rw[Tr.near_of_mem _ _ t (B.wf t rfl) this]
theorem Book.none{wj:Nat}{l:List H9}(B:Book wj lE l):l=[]:=by
 cases l with
 | nil=>rfl
 | cons x r=>exact absurd ((B.mem (Jc x.1) x.2).2 ⟨x,QN,rfl,rfl⟩) (by simp[JX])
theorem Book.without{wj:Nat}{st:Option Tr}{l:List H9}(B:Book wj st l)(hc:Ji wj c):
  match XX l c with
  | .none=>JW st (Jc c)=.error .input
  | .some k=>∃st',JW st (Jc c)=.ok (st',(l.getD k ((⟨#[]⟩,0),(0,0))).2)/\Book wj st' (l.eraseIdx k):=by
 cases st with
 | none=>
  obtain rfl:=B.none;rfl
 | some t=>
  have hf:=B.find hc rfl
  cases h:XX l c with
  | none=>
   simp only[JW];rw[if_neg];rw[hf];rintro⟨k,hk⟩;rw[h]at hk;cases hk
  | some k=>
   obtain⟨hl,e⟩:=JbB h;have hn:(t.near (Jc c)).1=Jc c:=hf.2 ⟨k,h⟩;have hm:(Jc c,l[k].2)∈JX (Z t):=(B.mem _ _).2 ⟨l[k],Qx hl,by rw[e],rfl⟩;have ai:=Tr.near_of_mem _ _ t (B.wf t rfl) hm;obtain⟨g1,g2,g3⟩:=Tr.cut_ok (Jc c) t (B.wf t rfl) hn;have hi:=JkM B.nodup hl;refine⟨t.cut (Jc c),?_,⟨g1,λx hx=>B.ok x ((hi x).1 hx).1,?_,λk' o=>?_⟩⟩
   ·simp only[JW];rw[if_pos hn,ai];simp[List.getD_eq_getElem?_getD,List.getElem?_eq_getElem hl]
   ·exact B.nodup.sublist ((List.eraseIdx_sublist l k).map _)
   ·rw[g2];show (k',o)∈JX (Z t)/\_↔_;rw[B.mem];constructor
    ·rintro⟨⟨x,hx,h1,h2⟩,h3⟩;exact⟨x,(hi x).2 ⟨hx,λe'=>h3 (by simp only;rw[<-h1,e',e])⟩,h1,h2⟩
    ·rintro⟨x,hx,h1,h2⟩;obtain⟨hx1,hx2⟩:=(hi x).1 hx;exact⟨⟨x,hx1,h1,h2⟩,λe'=>hx2 (by rw[e];simp only at e';exact Zx (B.ok x hx1).1 hc (h1.trans e'))⟩
theorem Book.with{wj:Nat}{st:Option Tr}{l:List H9}(B:Book wj st l)(hc:Ji wj c){o:Nat×Nat}(ho:JC o):
  match XX l c with
  | .some _=>Zn st (Jc c) o=.error .exist
  | .none=>∃st',Zn st (Jc c) o=.ok st'/\Book wj st' (l++[(c,o)]):=by
 have Hb:XX l c=lE->∀x∈l++[(c,o)],Ji wj x.1/\JC x.2:=by
  intro _ x hx;rw[QE,Qt]at hx
  rcases hx with hx|rfl
  ·exact B.ok x hx
  ·exact⟨hc,ho⟩
 have jK:XX l c=lE->((l++[(c,o)]).map (·.1)).Nodup:=by intro hf;rw[List.map_append,List.nodup_append];refine⟨B.nodup,by simp,?_⟩;intro a ha b hb e;simp only[List.map_cons,List.map_nil,Qt]at hb;subst hb;subst e;obtain⟨x,hx,hxe⟩:=QL.1 ha;exact JdN hf x hx hxe
 cases st with
 | none=>
  obtain rfl:=B.none;refine⟨_,rfl,⟨λt ht=>by simp only[Qh]at ht;rw[<-ht];exact trivial,Hb rfl,jK rfl,λk o'=>?_⟩⟩;simp only[JX,Tr.coins,Qt,List.nil_append,Qw];constructor
  ·rintro⟨rfl,rfl⟩;exact⟨_,rfl,rfl,rfl⟩
  ·rintro⟨x,rfl,h1,h2⟩;exact⟨h1.symm,h2.symm⟩
 | some t=>
  have hf:=B.find hc rfl
  cases h:XX l c with
  | some k=>
   simp only[Zn];rw[if_pos (hf.2 ⟨k,h⟩)]
  | none=>
   have hn:(t.near (Jc c)).1 ≠ Jc c:=(by rw[ne_eq,hf];rintro⟨k,hk⟩;rw[h]at hk;cases hk);have hm:=t.near_mem (Jc c);obtain⟨x,hx,h1,h2⟩:=(B.mem (t.near (Jc c)).1 (t.near (Jc c)).2).1 hm;have Hl:(t.near (Jc c)).1.length=(Jc c).length:=(by rw[<-h1,Xg (B.ok x hx).1,Xg hc]);obtain⟨q1,q2,q3⟩:=JjD (t.near (Jc c)).1 (Jc c) Hl hn;obtain⟨g1,g2,g3⟩:=Tr.graft_ok (Jc c) o (fd (t.near (Jc c)).1 (Jc c)) t (B.wf t rfl) (λe=>q2 e.symm) (λi hi=>(q3 i hi).symm);refine⟨Z (t.graft (Jc c) o (fd (t.near (Jc c)).1 (Jc c))),?_,⟨λt' ht=>by simp only[Qh]at ht;rw[<-ht];exact g1,Hb h,jK h,λk o'=>?_⟩⟩
   ·simp only[Zn];rw[if_neg hn]
   ·simp only[JX,g2];have:=B.mem k o';simp only[JX]at this;rw[this];constructor
    ·rintro(e|⟨y,hy,e1,e2⟩)
     ·cases e;exact⟨(c,o),by simp,rfl,rfl⟩
     ·exact⟨y,by simp[hy],e1,e2⟩
    ·rintro⟨y,hy,e1,e2⟩;rw[QE,Qt]at hy
     rcases hy with hy|rfl
     ·exact aN ⟨y,hy,e1,e2⟩
     ·left;rw[<-e1,<-e2]
theorem JeH(o:Nat×Nat)(os:List (Nat×Nat)):Jt (o::os) (o::os).length=o.1+Jt os os.length:=by simp[Jt]
theorem Jcd(wj:Nat)(id:BA)(jS:id.size=wj):∀(os:List (Nat×Nat)),(∀o∈os,JC o)->∀(i:Nat),i+os.length<=3->∀(st:Option Tr)(l:List H9)(out:Nat)(over:Bool),Book wj st l->
  match ZJ id i os (l,out % M64,over) with
  | none=>Jz id i os st=.error .exist
  | some (l',out',over')=>∃st',Jz id i os st=.ok st'/\Book wj st' l'/\out'=(out+Jt os os.length) % M64/\(over'=true↔over=true\/M64<=out % M64+Jt os os.length):=by
 intro os
 induction os with
 | nil=>intro _ i _ st l out over B;exact⟨st,rfl,B,by simp[Jt],by simp[Jt];intro h;exact absurd h (by have:out % M64<M64:=Nat.mod_lt _ (by decide);omega)⟩
 | cons o r ih=>
  intro ho i hi st l out over B;rw[Qp]at hi;have xg:Ji wj (id,(i:Int)):=⟨jS,by simp only;omega,by simp only;omega⟩
  have hw:=B.with xg (ho o QN);simp only[ZJ,Jz]
  cases hf:XX l (id,(i:Int)) with
  | some k=>rw[hf]at hw;simp only at hw;simp only[hw]
  | none=>
   rw[hf]at hw;obtain⟨st1,e1,B1⟩:=hw;have ha:o.1<M64:=(ho o QN).1;simp only[e1];have:=ih (λc hc'=>ho c (QQ _ hc')) (i+1) (by omega) st1 (l++[((id,(i:Int)),o)]) (out % M64+o.1) (over || decide ((out % M64+o.1) % M64<out % M64)) B1
   cases hs:ZJ id (i+1) r (l++[((id,(i:Int)),o)],(out % M64+o.1) % M64,over || decide ((out % M64+o.1) % M64<out % M64)) with
   | none=>rw[hs]at this;simp only at this;simp only[this]
   | some q=>
    obtain⟨l',out',over'⟩:=q;rw[hs]at this;obtain⟨st',e2,B2,e3,e4⟩:=this;refine⟨st',e2,B2,?_,?_⟩
    ·rw[e3,JeH,Nat.add_assoc,Nat.mod_add_mod]
    ·rw[e4,JeH,Bool.or_eq_true,decide_eq_true_iff];generalize Jt r r.length=S;have hm:out % M64<M64:=Nat.mod_lt _ (by decide);generalize out % M64=aT at *;generalize (over=true)=P;unfold M64 at *;constructor
     ·rintro((h|h)|h)
      ·exact aM h
      ·right;omega
      ·right;omega
     ·rintro(h|h)
      ·exact aM (aM h)
      ·by_cases h2:18446744073709551616<=aT+o.1
       ·left;right;omega
       ·right;omega


def Tr.dig(d:List UInt8->BA):Tr->BA
 | .leaf k o=>d (76::(k++outB o))
 | .br b l r=>d (78::(beL b 2 2++((l.dig d).data.toList++(r.dig d).data.toList)))
def Xh(d:List UInt8->BA):Option Tr->BA
 | none=>d [69]
 | some t=>t.dig d
abbrev Ch:=List (BA×Option Tr)
def Ch.last(ch:Ch):BA×Option Tr:=ch.getLastD (⟨#[]⟩,Y)
def Jbr(d:List UInt8->BA)(ch:Ch)(body:List UInt8)(st:BA):HdL:=(ch.length,d (72::ch.last.1.data.toList),d (66::body),st)
def Jm6(d:List UInt8->BA)(wj:Nat)(ch:Ch)(ts:List TxL):Except Er (List UInt8):=
 match (PS.wr []).body wj ts with
 | some (_,.wr body)=>match JH d ch.last.2 ts with
  | .error e=>.error e
  | .ok st=>match (PS.wr []).hdr wj (Jbr d ch body (Xh d st)) with
   | some (_,.wr h)=>.ok (h++body)
   | _=>.error .form
 | _=>.error .form
def Jcl(d:List UInt8->BA)(wj:Nat)(ch:Ch)(text:List UInt8):Except Er Ch:=
 match (PS.rd [] text).hdr wj (0,⟨#[]⟩,⟨#[]⟩,⟨#[]⟩) with
 | some (h,.rd pre body)=>match (PS.rd pre body).body wj [] with
  | some (ts,.rd _ [])=>if h ≠ Jbr d ch body h.2.2.2 then .error .tip else match JH d ch.last.2 ts with
   | .error e=>.error e
   | .ok st=>if h.2.2.2 ≠ Xh d st then .error .root else .ok (ch++[(⟨(text.take (text.length-body.length)).toArray⟩,st)])
  | _=>.error .form
 | _=>.error .form
theorem Xw(d:List UInt8->BA)(wj:Nat)(hd:∀l,(d l).size=wj)(st:Option Tr):(Xh d st).size=wj:=by
 cases st with
 | none=>exact hd _
 | some t=>cases t<;>exact hd _
def Jar(d:List UInt8->BA)(ch:Ch)(ts:List TxL)(st:Option Tr):List UInt8:=Hn (Jbr d ch (JL ts) (Xh d st))++JL ts
theorem Jmy(d:List UInt8->BA)(wj:Nat)(hd:∀l,(d l).size=wj)(ch:Ch)(hc:ch.length<2 ^ 32)(body:List UInt8)(st:Option Tr):HdOk wj (Jbr d ch body (Xh d st)):=
 ⟨hc,hd _,hd _,Xw d wj hd st⟩
theorem JjX(d:List UInt8->BA)(wj:Nat)(hd:∀l,(d l).size=wj)(ch:Ch)(hc:ch.length<2 ^ 32)(ts:List TxL)(h:∀t∈ts,TxOk wj t)(h3:ts.length<=3):
  Jm6 d wj ch ts=match JH d ch.last.2 ts with | .error e=>.error e | .ok st=>.ok (Jar d ch ts st):=by
 unfold Jm6;rw[(JjT wj ts h h3).wr];dsimp only;rw[List.nil_append]
 cases JH d ch.last.2 ts with
 | error e=>rfl
 | ok st=>
  dsimp only;rw[(JiZ wj _ (0,⟨#[]⟩,⟨#[]⟩,⟨#[]⟩) (Jmy d wj hd ch hc (JL ts) st)).wr];rfl

def RdOk{α:Type}(f:PS->Option (α×PS))(Ok:α->Prop)(m:Nat):Prop:=∀q r y p',f (.rd q r)=Z (y,p')->∃b r',b.length<=m/\r=b++r'/\p'=.rd (q++b) r'/\Ok y
theorem ZI(x k:Nat):RdOk (PS.num x k) (λn=>n<256 ^ k) k:=by
 intro q r y p' h;simp only[PS.num]at h
 split at h
 ·rename_i hk
  cases h
  refine⟨r.take k,r.drop k,by simp;omega,(List.take_append_drop k r).symm,rfl,?_⟩;have:=Ys (r.take k)
  rwa [QB,Nat.min_eq_left hk]at this
 ·cases h
theorem Jcc(s:List UInt8)(k:Nat):RdOk (PS.txt s k) (λt=>t.length=k) k:=by
 intro q r y p' h;simp only[PS.txt]at h
 split at h
 ·rename_i hk
  cases h
  exact⟨r.take k,r.drop k,by simp;omega,(List.take_append_drop k r).symm,rfl,by simp;omega⟩
 ·cases h
theorem RdOk.bind{β:Type}{f:PS->Option (α×PS)}{g:α->PS->Option (β×PS)}{h:PS->Option (β×PS)}{A:α->Prop}{B:β->Prop}(hf:RdOk f A m)(hg:∀a,A a->RdOk (g a) B n)(hh:∀p y p',h p=Z (y,p')->∃a p1,f p=Z (a,p1)/\g a p1=Z (y,p')):RdOk h B (m+n):=by
 intro q r y p' e;obtain⟨a,p1,e1,e2⟩:=hh _ _ _ e;obtain⟨b,r1,l1,rfl,rfl,ha⟩:=hf _ _ _ _ e1;obtain⟨b2,r2,l2,rfl,rfl,hb⟩:=hg a ha _ _ _ _ e2;exact⟨b++b2,r2,by rw[Qe];omega,by rw[Qs],by rw[Qs],hb⟩
theorem RdOk.mono{f:PS->Option (α×PS)}{A B:α->Prop}(h:RdOk f A m)(zL:∀a,A a->B a)(hmn:m<=n):RdOk f B n:=by
 intro q r y p' e;obtain⟨b,r1,l1,e1,e2,ha⟩:=h _ _ _ _ e;exact⟨b,r1,by omega,e1,e2,zL _ ha⟩
theorem RdOk.ret(y:α){A:α->Prop}(h:A y):RdOk (λp=>Z (y,p)) A 0:=by
 intro q r z p' e
 cases e
 exact⟨[],r,Ql _,rfl,by rw[QC],h⟩
theorem JmZ(a o:Nat):RdOk (PS.out a o) JC 9:=by
 refine RdOk.bind (n:=1) (ZI a 8) (g:=λn p=>(p.num o 1).bind λq=>Z ((n,q.1),q.2)) (λn hn=>?_) ?_
 ·refine RdOk.bind (n:=0) (ZI o 1) (g:=λk p=>Z ((n,k),p)) (λk hk=>RdOk.ret (n,k) ⟨by simpa using hn,by simpa using hk⟩) ?_;intro p y p' e
  cases h1:p.num o 1 with
  | none=>rw[h1]at e;cases e
  | some r=>rw[h1]at e;cases e;exact⟨_,_,rfl,rfl⟩
 ·intro p y p' e;unfold PS.out at e
  cases h1:p.num a 8 with
  | none=>rw[h1]at e;cases e
  | some r=>
   obtain⟨n,p1⟩:=r;rw[h1]at e;dsimp only at e;refine⟨n,p1,rfl,?_⟩
   cases h2:p1.num o 1 with
   | none=>rw[h2]at e;cases e
   | some r2=>obtain⟨k,p2⟩:=r2;rw[h2]at e;cases e;rfl
theorem JkY(wj:Nat)(c:BA×Int):RdOk (PS.coin wj c) (Ji wj) (wj+1):=by
 intro q r y p' e;unfold PS.coin at e
 cases h1:(PS.rd q r).txt c.1.data.toList wj with
 | none=>rw[h1]at e;cases e
 | some r1=>
  obtain⟨t,p1⟩:=r1;rw[h1]at e;dsimp only at e;obtain⟨b,r',l1,rfl,rfl,ht⟩:=Jcc _ _ _ _ _ _ h1
  cases h2:(PS.rd (q++b) r').num (JD c.2) 1 with
  | none=>rw[h2]at e;cases e
  | some r2=>
   obtain⟨m,p2⟩:=r2;rw[h2]at e;dsimp only at e;obtain⟨b2,r2',l2,rfl,rfl,hm⟩:=ZI _ _ _ _ _ _ h2
   split at e
   ·rename_i h3
    cases e
    exact⟨b++b2,r2',by rw[Qe];omega,by rw[Qs],by rw[Qs],by show t.toArray.size=_;simpa using ht,by show (0:Int)<=(m:Int);omega,by show (m:Int)<3;omega⟩
   ·cases e
theorem JiU(wj:Nat):∀(l:List (BA×Int)),RdOk (PS.coins wj l) (λys=>ys.length=l.length/\∀y∈ys,Ji wj y) (l.length*(wj+1)):=by
 intro l
 induction l with
 | nil=>rw[Qv,Nat.zero_mul];exact RdOk.ret [] ⟨rfl,λ_ h=>by cases h⟩
 | cons x r ih=>
  refine(RdOk.bind (B:=λys=>ys.length=r.length+1/\∀y∈ys,Ji wj y) (n:=r.length*(wj+1)) (JkY wj x) (g:=λy p=>(PS.coins wj r p).bind λq=>Z (y::q.1,q.2)) (λy hy=>?_) ?_).mono (λ_ h=>h) (by rw[Qp,Nat.succ_mul];omega)
  ·have:=RdOk.bind (n:=0) (h:=λp=>(PS.coins wj r p).bind λq=>Z (y::q.1,q.2)) ih (g:=λys p=>Z (y::ys,p)) (B:=λys=>ys.length=r.length+1/\∀y∈ys,Ji wj y) (λys zr=>RdOk.ret (y::ys) ⟨by simp[zr.1],λz hz=>by rcases List.mem_cons.1 hz with rfl|hz;exact hy;exact zr.2 z hz⟩) (λp z p' e=>by
    cases h1:PS.coins wj r p with
    | none=>rw[h1]at e;cases e
    | some r=>rw[h1]at e;cases e;exact⟨_,_,rfl,rfl⟩)
   rwa [Nat.add_zero]at this
  ·intro p z p' e;unfold PS.coins at e
   cases h1:p.coin wj x with
   | none=>rw[h1]at e;cases e
   | some r1=>
    obtain⟨y,p1⟩:=r1;rw[h1]at e;dsimp only at e;refine⟨y,p1,rfl,?_⟩
    cases h2:PS.coins wj r p1 with
    | none=>rw[h2]at e;cases e
    | some r2=>obtain⟨ys,p2⟩:=r2;rw[h2]at e;cases e;rfl
theorem JkZ:∀(l:List (Nat×Nat)),RdOk (PS.outs l) (λys=>ys.length=l.length/\∀y∈ys,JC y) (l.length*9):=by
 intro l
 induction l with
 | nil=>rw[Qv,Nat.zero_mul];exact RdOk.ret [] ⟨rfl,λ_ h=>by cases h⟩
 | cons x r ih=>
  refine(RdOk.bind (B:=λys=>ys.length=r.length+1/\∀y∈ys,JC y) (n:=r.length*9) (JmZ x.1 x.2) (g:=λy p=>(PS.outs r p).bind λq=>Z (y::q.1,q.2)) (λy hy=>?_) ?_).mono (λ_ h=>h) (by rw[Qp,Nat.succ_mul];omega)
  ·have:=RdOk.bind (n:=0) (h:=λp=>(PS.outs r p).bind λq=>Z (y::q.1,q.2)) ih (g:=λys p=>Z (y::ys,p)) (B:=λys=>ys.length=r.length+1/\∀y∈ys,JC y) (λys zr=>RdOk.ret (y::ys) ⟨by simp[zr.1],λz hz=>by rcases List.mem_cons.1 hz with rfl|hz;exact hy;exact zr.2 z hz⟩) (λp z p' e=>by
    cases h1:PS.outs r p with
    | none=>rw[h1]at e;cases e
    | some r=>rw[h1]at e;cases e;exact⟨_,_,rfl,rfl⟩)
   rwa [Nat.add_zero]at this
  ·intro p z p' e;unfold PS.outs at e
   cases h1:p.out x.1 x.2 with
   | none=>rw[h1]at e;cases e
   | some r1=>
    obtain⟨y,p1⟩:=r1;rw[h1]at e;dsimp only at e;refine⟨y,p1,rfl,?_⟩
    cases h2:PS.outs r p1 with
    | none=>rw[h2]at e;cases e
    | some r2=>obtain⟨ys,p2⟩:=r2;rw[h2]at e;cases e;rfl
theorem Jez(n:Nat):(Yy [] n).length=n:=by simp[Yy]
theorem JeA(n:Nat):(Zd [] n).length=n:=by simp[Zd]
theorem JiV(wj least:Nat)(hw:wj<=32):RdOk (PS.listC wj least 3 []) (λys=>least<=ys.length/\ys.length<=3/\∀y∈ys,Ji wj y) 100:=by
 refine(RdOk.bind (n:=99) (ZI 0 1) (g:=λcnt p=>if cnt<least\/3<cnt then Y else PS.coins wj (Yy [] cnt) p) (λcnt _=>?_) ?_).mono (λ_ h=>h) (by omega)
 ·by_cases h:cnt<least\/3<cnt
  ·intro q r y p' e;simp only[if_pos h]at e;cases e
  ·simp only[if_neg h];refine(JiU wj (Yy [] cnt)).mono (λys hy=>?_) ?_
   ·rw[Jez]at hy;exact⟨by omega,by omega,hy.2⟩
   ·rw[Jez];have:cnt*(wj+1)<=3*33:=Nat.mul_le_mul (by omega) (by omega);omega
 ·intro p y p' e;unfold PS.listC at e
  cases h1:p.num ([]:List (BA×Int)).length 1 with
  | none=>rw[h1]at e;cases e
  | some r1=>obtain⟨cnt,p1⟩:=r1;rw[h1]at e;exact⟨cnt,p1,rfl,e⟩
theorem JiW:RdOk (PS.listO 0 3 []) (λys=>ys.length<=3/\∀y∈ys,JC y) 28:=by
 refine(RdOk.bind (n:=27) (ZI 0 1) (g:=λcnt p=>if cnt<0\/3<cnt then Y else PS.outs (Zd [] cnt) p) (λcnt _=>?_) ?_).mono (λ_ h=>h) (by omega)
 ·by_cases h:cnt<0\/3<cnt
  ·intro q r y p' e;simp only[if_pos h]at e;cases e
  ·simp only[if_neg h];refine(JkZ (Zd [] cnt)).mono (λys hy=>?_) ?_
   ·rw[JeA]at hy;exact⟨by omega,hy.2⟩
   ·rw[JeA];omega
 ·intro p y p' e;unfold PS.listO at e
  cases h1:p.num ([]:List (Nat×Nat)).length 1 with
  | none=>rw[h1]at e;cases e
  | some r1=>obtain⟨cnt,p1⟩:=r1;rw[h1]at e;exact⟨cnt,p1,rfl,e⟩
theorem JoF(wj:Nat)(hw:wj<=32):RdOk (PS.tx wj ([],[])) (TxOk wj) 128:=by
 refine RdOk.bind (n:=28) (JiV wj 1 hw) (g:=λys p=>(p.listO 0 3 []).bind λq=>Z ((ys,q.1),q.2)) (λys hy=>?_) ?_
 ·refine RdOk.bind (n:=0) JiW (g:=λzs p=>Z ((ys,zs),p)) (λzs hz=>RdOk.ret (ys,zs) ⟨hy.2.2,hz.2,hy.1,hy.2.1,hz.1⟩) ?_;intro p y p' e
  cases h1:p.listO 0 3 [] with
  | none=>rw[h1]at e;cases e
  | some r=>rw[h1]at e;cases e;exact⟨_,_,rfl,rfl⟩
 ·intro p y p' e;unfold PS.tx at e
  cases h1:p.listC wj 1 3 [] with
  | none=>rw[h1]at e;cases e
  | some r=>
   obtain⟨ys,p1⟩:=r;rw[h1]at e;dsimp only at e;refine⟨ys,p1,rfl,?_⟩
   cases h2:p1.listO 0 3 [] with
   | none=>rw[h2]at e;cases e
   | some r2=>obtain⟨k,p2⟩:=r2;rw[h2]at e;cases e;rfl
theorem Jm0(wj:Nat)(hw:wj<=32):∀n,RdOk (PS.txs wj (lC n ([],[]))) (λys=>ys.length=n/\∀y∈ys,TxOk wj y) (n*128):=by
 intro n
 induction n with
 | zero=>rw[Nat.zero_mul];exact RdOk.ret [] ⟨rfl,λ_ h=>by cases h⟩
 | succ n ih=>
  rw[List.replicate_succ];refine(RdOk.bind (B:=λys=>ys.length=n+1/\∀y∈ys,TxOk wj y) (n:=n*128) (JoF wj hw) (g:=λy p=>(PS.txs wj (lC n ([],[])) p).bind λq=>Z (y::q.1,q.2)) (λy hy=>?_) ?_).mono (λ_ h=>h) (by omega)
  ·have:=RdOk.bind (n:=0) (h:=λp=>(PS.txs wj (lC n ([],[])) p).bind λq=>Z (y::q.1,q.2)) ih (g:=λys p=>Z (y::ys,p)) (B:=λys=>ys.length=n+1/\∀y∈ys,TxOk wj y) (λys zr=>RdOk.ret (y::ys) ⟨by simp[zr.1],λz hz=>by rcases List.mem_cons.1 hz with rfl|hz;exact hy;exact zr.2 z hz⟩) (λp z p' e=>by
    cases h1:PS.txs wj (lC n ([],[])) p with
    | none=>rw[h1]at e;cases e
    | some r=>rw[h1]at e;cases e;exact⟨_,_,rfl,rfl⟩)
   rwa [Nat.add_zero]at this
  ·intro p z p' e;unfold PS.txs at e
   cases h1:p.tx wj ([],[]) with
   | none=>rw[h1]at e;cases e
   | some r1=>
    obtain⟨y,p1⟩:=r1;rw[h1]at e;dsimp only at e;refine⟨y,p1,rfl,?_⟩
    cases h2:PS.txs wj (lC n ([],[])) p1 with
    | none=>rw[h2]at e;cases e
    | some r2=>obtain⟨ys,p2⟩:=r2;rw[h2]at e;cases e;rfl
theorem Jaj(wj:Nat)(hw:wj<=32):RdOk (PS.body wj []) (λts=>ts.length<=3/\∀t∈ts,TxOk wj t) 385:=by
 refine RdOk.bind (m:=1) (n:=384) (ZI 0 1) (g:=λcnt p=>if 3<cnt then Y else PS.txs wj (Zq [] cnt) p) (λcnt _=>?_) ?_
 ·by_cases h:3<cnt
  ·intro q r y p' e;simp only[if_pos h]at e;cases e
  ·simp only[if_neg h];exact(Jm0 wj hw cnt).mono (λys hy=>⟨by omega,hy.2⟩) (by omega)
 ·intro p y p' e;unfold PS.body at e
  cases h1:p.num ([]:List TxL).length 1 with
  | none=>rw[h1]at e;cases e
  | some r1=>obtain⟨cnt,p1⟩:=r1;rw[h1]at e;exact⟨cnt,p1,rfl,e⟩
theorem JhH(wj:Nat)(hw:wj<=32)(z:HdL):RdOk (PS.hdr wj z) (HdOk wj) 100:=by
 intro q r y p' e;unfold PS.hdr at e
 cases h1:(PS.rd q r).num z.1 4 with
 | none=>rw[h1]at e;cases e
 | some r1=>
  obtain⟨n,p1⟩:=r1;rw[h1]at e;dsimp only at e;obtain⟨b1,s1,l1,rfl,rfl,k1⟩:=ZI _ _ _ _ _ _ h1
  cases h2:(PS.rd (q++b1) s1).txt z.2.1.data.toList wj with
  | none=>rw[h2]at e;cases e
  | some r2=>
   obtain⟨t2,p2⟩:=r2;rw[h2]at e;dsimp only at e;obtain⟨b2,s2,l2,rfl,rfl,k2⟩:=Jcc _ _ _ _ _ _ h2
   cases h3:(PS.rd (q++b1++b2) s2).txt z.2.2.1.data.toList wj with
   | none=>rw[h3]at e;cases e
   | some r3=>
    obtain⟨t3,p3⟩:=r3;rw[h3]at e;dsimp only at e;obtain⟨b3,s3,l3,rfl,rfl,k3⟩:=Jcc _ _ _ _ _ _ h3
    cases h4:(PS.rd (q++b1++b2++b3) s3).txt z.2.2.2.data.toList wj with
    | none=>rw[h4]at e;cases e
    | some r4=>
     obtain⟨t4,p4⟩:=r4;rw[h4]at e;dsimp only at e;obtain⟨b4,s4,l4,rfl,rfl,k4⟩:=Jcc _ _ _ _ _ _ h4
     cases e
     refine⟨b1++b2++b3++b4,s4,by simp only[Qe];omega,by simp only[Qs],by simp only[Qs],?_⟩;exact⟨by simpa using k1,(lI).trans k2,(lI).trans k3,(lI).trans k4⟩

def Tr.text(d:List UInt8->BA):Tr->List UInt8
 | .leaf k o=>76::(k++outB o)
 | .br b l r=>78::(beL b 2 2++((l.dig d).data.toList++(r.dig d).data.toList))
theorem Tr.dig_text(d:List UInt8->BA)(t:Tr):t.dig d=d (t.text d):=by cases t<;>rfl
def Ji5(d:List UInt8->BA):Option Tr->List UInt8
 | none=>[69]
 | some t=>t.text d
theorem Jev(d:List UInt8->BA)(st:Option Tr):Xh d st=d (Ji5 d st):=by
 cases st with
 | none=>rfl
 | some t=>exact t.dig_text d
abbrev KO:=Key×(Nat×Nat)
def Fork(l:List KO)(b:Nat):Prop:=(∀x∈l,∀y∈l,∀i,i<b->bt x.1 i=bt y.1 i)/\∃x∈l,∃y∈l,bt x.1 b ≠ bt y.1 b
def side(l:List KO)(b v:Nat):List KO:=l.filter λx=>bt x.1 b=v
inductive Root (d:List UInt8->BA):List KO->List UInt8->Prop where
 | none:Root d [] [69]
 | one (k:Key) (o:Nat×Nat):Root d [(k,o)] (76::(k++outB o))
 | two (l:List KO) (b:Nat) (x y:List UInt8):Fork l b->Root d (side l b 0) x->Root d (side l b 1) y->Root d l (78::(beL b 2 2++((d x).data.toList++(d y).data.toList)))
theorem Fork.unique{l:List KO}{b':Nat}(h:Fork l b)(h':Fork l b'):b=b':=by
 obtain⟨p1,x,hx,y,hy,p2⟩:=h;obtain⟨q1,u,hu,v,hv,q2⟩:=h'
 rcases Nat.lt_trichotomy b b' with h|h|h
 ·exact absurd (q1 x hx y hy b h) p2
 ·exact h
 ·exact absurd (p1 u hu v hv b' h) q2
theorem Fork.two{l:List KO}(h:Fork l b):2<=l.length:=by
 obtain⟨_,x,hx,y,hy,h⟩:=h
 match l,hx,hy with
 | [],hx,_=>cases hx
 | [a],hx,hy=>simp only[Qt]at hx hy;rw[hx,hy]at h;exact absurd rfl h
 | _::_::_,_,_=>simp
theorem Root.of_tree(t:Tr):∀(l:List KO)(s:List UInt8),t.Wf->(∀x,x∈l↔x∈t.coins)->(l.map (·.1)).Nodup->Root d l s->s=t.text d:=by
 induction t with
 | leaf k o=>
  intro l s _ hm hn hr;simp only[Tr.coins,Qt]at hm;have hl:l=[(k,o)]:=by
   match l,hm,hn with
   | [],hm,_=>exact absurd ((hm (k,o)).2 rfl) (by simp)
   | [a],hm,_=>rw[(hm a).1 (by simp)]
   | a::b::r,hm,hn=>
    have e1:=(hm a).1 (by simp);have e2:=(hm b).1 (by simp);simp[e1,e2]at hn
  subst hl
  cases hr with
  | one=>rfl
  | two _ b x y hf _ _=>exact absurd hf.two (by simp)
 | br b lt rt ihl ihr=>
  intro l s hw hm hn hr;obtain⟨w1,w2,h0,h1,hs⟩:=hw;have hf:Fork l b:=by obtain⟨x,hx⟩:=List.exists_mem_of_ne_nil _ lt.coins_ne;obtain⟨y,hy⟩:=List.exists_mem_of_ne_nil _ rt.coins_ne;refine⟨λx hx y hy i hi=>hs x ((hm x).1 hx) y ((hm y).1 hy) i hi,x,(hm x).2 (by simp[Tr.coins,hx]),y,(hm y).2 (by simp[Tr.coins,hy]),?_⟩;rw[h0 x hx,h1 y hy];decide
  have jk:=hf.two
  cases hr with
  | none=>simp at jk
  | one=>simp at jk
  | two _ b' x y hf' hx hy=>
   obtain rfl:=hf.unique hf';have mQ:=ihl (side l b 0) x w1 (λz=>by
    unfold side;rw[QO,hm];simp only[Tr.coins,QE,decide_eq_true_iff];constructor
    ·rintro⟨h|h,h2⟩
     ·exact h
     ·have:=h1 z h;omega
    ·intro h;exact⟨aM h,h0 z h⟩) (hn.sublist (List.Sublist.map _ List.filter_sublist)) hx
   have hy':=ihr (side l b 1) y w2 (λz=>by
    unfold side;rw[QO,hm];simp only[Tr.coins,QE,decide_eq_true_iff];constructor
    ·rintro⟨h|h,h2⟩
     ·have:=h0 z h;omega
     ·exact h
    ·intro h;exact⟨aN h,h1 z h⟩) (hn.sublist (List.Sublist.map _ List.filter_sublist)) hy
   rw[mQ,hy',<-Tr.dig_text d lt,<-Tr.dig_text d rt];rfl
theorem Root.of_state{st:Option Tr}{l:List KO}(hw:∀t,st=Z t->t.Wf)(hm:∀x,x∈l↔x∈JX st)(hn:(l.map (·.1)).Nodup)(hr:Root d l s):s=Ji5 d st:=by
 cases st with
 | none=>
  cases l with
  | nil=>cases hr with
   | none=>rfl
   | two _ b x y hf _ _=>exact absurd hf.two (by simp)
  | cons a r=>exact absurd ((hm a).1 (by simp)) (by simp[JX])
 | some t=>exact Root.of_tree t l s (hw t rfl) hm hn hr

abbrev Stp:=Nat×BA
abbrev Wy:=List Stp×Option KO
def Tr.way(d:List UInt8->BA)(k:Key):Tr->List Stp×KO
 | .leaf k' o=>([],(k',o))
 | .br b l r=>if bt k b=0 then (((b,r.dig d)::(l.way d k).1),(l.way d k).2) else (((b,l.dig d)::(r.way d k).1),(r.way d k).2)
def YQ(d:List UInt8->BA)(k:Key):Option Tr->Wy
 | none=>([],Y)
 | some t=>((t.way d k).1,Z (t.way d k).2)
def Xb:Option KO->List UInt8
 | none=>[69]
 | some (k,o)=>76::(k++outB o)
def Xo(w:Wy):Key:=match w.2 with|none=>[]|some (k,_)=>k
def JM(d:List UInt8->BA)(key:Key)(e:List UInt8):List Stp->List (List UInt8)
 | []=>[e]
 | (b,oth)::r=>(78::(beL b 2 2++(if bt key b=0 then (d ((JM d key e r).headD [])).data.toList++oth.data.toList else oth.data.toList++(d ((JM d key e r).headD [])).data.toList)))::JM d key e r
def Wy.nodes(d:List UInt8->BA)(w:Wy):List (List UInt8):=JM d (Xo w) (Xb w.2) w.1
theorem Tr.way_near(d:List UInt8->BA)(k:Key)(t:Tr):(t.way d k).2=t.near k:=by
 induction t with
 | leaf=>rfl
 | br b l r ihl ihr=>simp only[way,near];split<;>assumption
theorem JZ(d:List UInt8->BA)(key:Key)(e:List UInt8)(l:List Stp):(JM d key e l).length=l.length+1:=by
 induction l with
 | nil=>rfl
 | cons s r ih=>obtain⟨b,o⟩:=s;simp[JM,ih]
def Wy.said(w:Wy)(k:Key):Option (Nat×Nat):=match w.2 with|none=>Y|some (k',o)=>if k'=k then Z o else Y
structure Wy.Holds(d:List UInt8->BA)(k:Key)(state:BA)(w:Wy):Prop where
 bits:∀s∈w.1,bt k s.1=bt (Xo w) s.1
 small:∀s∈w.1,s.1<65536
 wide:∀s∈w.1,∀l,s.2.size=(d l).size
 bare:w.2=Y->w.1=[]
 key:w.2 ≠ Y->(Xo w).length=k.length
 root:d ((w.nodes d).headD [])=state
def Ya:List (List UInt8)->List (List UInt8)->Option (List UInt8×List UInt8)
 | x::a,y::b=>if x=y then Ya a b else Z (x,y)
 | _,_=>Y
theorem JlP{a:Nat}(ha:a<65536)(hb:b<65536)(h:beL a 2 2=beL b 2 2):a=b:=by
 have y:∀n,n<65536->numL (beL n 2 2)=n:=λn hn=>by rw[YH n 2 (by omega) 2 (Ql _)];simp
 rw[<-y a ha,<-y b hb,h]
theorem Jim{b:BA}(h:a.data.toList=b.data.toList):a=b:=by
 cases a;cases b;simp only at h;rw[lK]at h;rw[h]
theorem Jgi(d:List UInt8->BA)(wj:Nat)(hd:∀l,(d l).size=wj)(k:Key)(k1 k2:Key)(e1 e2:List UInt8)(aj:e1.head? ≠ Z 78)(u9:e2.head? ≠ Z 78):∀(l1 l2:List Stp),
  (∀s∈l1,bt k s.1=bt k1 s.1/\s.1<65536/\s.2.size=wj)->(∀s∈l2,bt k s.1=bt k2 s.1/\s.1<65536/\s.2.size=wj)->d ((JM d k1 e1 l1).headD [])=d ((JM d k2 e2 l2).headD [])->
  (∃x y,Ya (JM d k1 e1 l1) (JM d k2 e2 l2)=Z (x,y)/\x ≠ y/\d x=d y)\/(Ya (JM d k1 e1 l1) (JM d k2 e2 l2)=Y/\l1.length=l2.length/\e1=e2):=by
 intro l1
 induction l1 with
 | nil=>
  intro l2 _ h2 hr
  cases l2 with
  | nil=>
   simp only[JM,lH]at hr;simp only[JM,Ya]
   by_cases he:e1=e2
   ·right;rw[if_pos he];exact⟨by trivial,by trivial,he⟩
   ·left;rw[if_neg he];exact⟨_,_,rfl,he,hr⟩
  | cons s r=>
   obtain⟨b,o⟩:=s;left;simp only[JM,lH]at hr;simp only[JM,Ya];have Hd:e1 ≠ 78::(beL b 2 2++(if bt k2 b=0 then (d ((JM d k2 e2 r).headD [])).data.toList++o.data.toList else o.data.toList++(d ((JM d k2 e2 r).headD [])).data.toList)):=(by intro h;rw[h]at aj;exact aj rfl);rw[if_neg Hd];exact⟨_,_,rfl,Hd,hr⟩
 | cons s l1 ih=>
  obtain⟨b,o⟩:=s;intro l2 h1 h2 hr
  cases l2 with
  | nil=>
   left;simp only[JM,lH]at hr;simp only[JM,Ya];have Hd:¬(78::(beL b 2 2++(if bt k1 b=0 then (d ((JM d k1 e1 l1).headD [])).data.toList++o.data.toList else o.data.toList++(d ((JM d k1 e1 l1).headD [])).data.toList)))=e2:=(by intro h;rw[<-h]at u9;exact u9 rfl);rw[if_neg Hd];exact⟨_,_,rfl,Hd,hr⟩
  | cons s' l2=>
   obtain⟨b',o'⟩:=s';obtain⟨a1,a2,a3⟩:=h1 (b,o) (by simp);obtain⟨c1,c2,c3⟩:=h2 (b',o') (by simp);simp only at a1 a2 a3 c1 c2 c3;generalize hX:(78::(beL b 2 2++(if bt k1 b=0 then (d ((JM d k1 e1 l1).headD [])).data.toList++o.data.toList else o.data.toList++(d ((JM d k1 e1 l1).headD [])).data.toList)))=aX;generalize hY:(78::(beL b' 2 2++(if bt k2 b'=0 then (d ((JM d k2 e2 l2).headD [])).data.toList++o'.data.toList else o'.data.toList++(d ((JM d k2 e2 l2).headD [])).data.toList)))=aP;have eX:JM d k1 e1 ((b,o)::l1)=aX::JM d k1 e1 l1:=(by rw[<-hX];rfl);have eY:JM d k2 e2 ((b',o')::l2)=aP::JM d k2 e2 l2:=(by rw[<-hY];rfl);rw[eX,eY]at hr ⊢;simp only[lH]at hr;simp only[Ya]
   by_cases mS:aX=aP
   ·rw[if_pos mS];rw[<-hX,<-hY,QH]at mS;obtain⟨_,mS⟩:=mS;obtain⟨hb,hs⟩:=lF mS (by rw[Jf,Jf]);obtain rfl:=JlP a2 c2 hb;have sz:∀x:BA,x.data.toList.length=x.size:=λx=>by simp only[QA];rfl
    have hdd:d ((JM d k1 e1 l1).headD [])=d ((JM d k2 e2 l2).headD []):=by
     rw[<-a1,<-c1]at hs
     split at hs
     ·exact Jim (lF hs (by rw[sz,sz,hd,hd])).1
     ·exact Jim (lF hs (by rw[sz,sz,a3,c3])).2
    have:=ih l2 (λs hs=>h1 s (by simp[hs])) (λs hs=>h2 s (by simp[hs])) hdd
    rcases this with⟨x,y,q1,q2,q3⟩|⟨q1,q2,q3⟩
    ·exact aM ⟨x,y,q1,q2,q3⟩
    ·exact aN ⟨q1,by simp[q2],q3⟩
   ·rw[if_neg mS];exact aM ⟨_,_,rfl,mS,hr⟩
theorem JbY(e:Option KO):(Xb e).head? ≠ Z 78:=by
 cases e with
 | none=>simp[Xb]
 | some x=>obtain⟨k,o⟩:=x;simp[Xb]
theorem Wy.sound(d:List UInt8->BA)(wj:Nat)(hd:∀l,(d l).size=wj)(k:Key)(state:BA)(w1 w2:Wy)(h1:w1.Holds d k state)(h2:w2.Holds d k state)(se:∀x,w1.2=Z x->JC x.2)(ak:∀x,w2.2=Z x->JC x.2)(Hd:w1.said k ≠ w2.said k):
  ∃x y,Ya (w1.nodes d) (w2.nodes d)=Z (x,y)/\x ≠ y/\d x=d y:=by
 have:=Jgi d wj hd k (Xo w1) (Xo w2) (Xb w1.2) (Xb w2.2) (JbY _) (JbY _) w1.1 w2.1 (λs hs=>⟨h1.bits s hs,h1.small s hs,(h1.wide s hs []).trans (hd _)⟩) (λs hs=>⟨h2.bits s hs,h2.small s hs,(h2.wide s hs []).trans (hd _)⟩) (h1.root.trans h2.root.symm)
 rcases this with h|⟨_,_,he⟩
 ·exact h
 ·exfalso;apply Hd;unfold said;obtain⟨l1,e1⟩:=w1;obtain⟨l2,e2⟩:=w2;simp only at he se ak ⊢
  cases e1 with
  | none=>cases e2 with
   | none=>rfl
   | some y=>obtain⟨k2,o2⟩:=y;simp[Xb]at he
  | some x=>
   obtain⟨k1,o1⟩:=x
   cases e2 with
   | none=>simp[Xb]at he
   | some y=>
    obtain⟨k2,o2⟩:=y;have l1':=h1.key (by simp);have l2':=h2.key (by simp);simp only[Xo]at l1' l2';simp only[Xb,QH,true_and]at he;obtain⟨e1,e2⟩:=lF he (by rw[l1',l2']);subst e1;have p1:=se _ rfl;have p2:=ak _ rfl;have:o1=o2:=(by have r1:=(Jgp o1 0 0 p1).rd [] [];have r2:=(Jgp o2 0 0 p2).rd [] [];rw[e2,r2]at r1;simp only[Qh,Qw]at r1;exact r1.1.symm);subst this;rfl

theorem M.box(w:aA)(o:Obj):M D w (w.alloc o).drew:=(Ta _ w o).trans (Td _ (w.alloc o) 1) (λ_ h=>aM h)
theorem M.box2(w:aA)(o o':Obj):M D w ((w.alloc o).alloc o').drew:=((Ta _ w o).trans (Ta _ (w.alloc o) o') (λ_ h=>aM h)).trans (Td _ ((w.alloc o).alloc o') 1) (λ_ h=>aM h)
theorem Bs.tchOwn{base:Nat}{xs:List aG}(h:Bs base w v xs)(hg:w.grownBy w' v.ownBlock){W:aA}(hW:W.heap.size<=base)(k:M D W w):M D W w':=
 k.trans (Tg hg) (λj hj=>by
  have:=(h.own j hj.symm).1;exact aN (by omega))
theorem YK{b:BA}(h:a.data.toList=b.data.toList):a=b:=by
 cases a;cases b;simp only at h;rw[lK]at h;rw[h]
theorem Jb0(b:Nat)(w:aA)(k:Nat)(hb:b<256)(hc:w.cell? ⟨k,0,Y⟩=Z (O aE (b:Int))):(convert 52 9 (R (Z ⟨k,0,Y⟩) 1 1)).run N w=.ok (L ⟨#[lN b]⟩) w:=by
 have:=run_convert_bytes_back (P:=N) w 52 9 5 ⟨k,0,Y⟩ 1 [lN b] underlying52 underlying5 underlying9 (λj hj=>by
  obtain rfl:j=0:=by simpa using hj
  rw[Addr.add_lit,Nat.zero_add,hc];simp[Nat.mod_eq_of_lt hb])
 exact this
theorem JiC(b:Nat)(w:aA)(hb:b<256):(convert 52 9 (R (Z ⟨w.heap.size,0,Y⟩) 1 1)).run N (w.alloc (T #[O aE (b:Int)] 5))=.ok (L ⟨#[lN b]⟩) (w.alloc (T #[O aE (b:Int)] 5)):=by
 have:=run_convert_bytes_back (P:=N) (w.alloc (T #[O aE (b:Int)] 5)) 52 9 5 ⟨w.heap.size,0,Y⟩ 1 [lN b] underlying52 underlying5 underlying9 (λj hj=>by
  obtain rfl:j=0:=by simpa using hj
  rw[Addr.add_lit,Nat.zero_add,Ja (Qf _ _)];simp[Nat.mod_eq_of_lt hb])
 exact this
