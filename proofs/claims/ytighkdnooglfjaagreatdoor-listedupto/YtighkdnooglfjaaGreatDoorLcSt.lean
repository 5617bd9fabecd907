import Derived.Test.YtighkdnooglfjaaGreatDoorLcLst
namespace Go.Proofs.YtighkdnooglfjaaGreatDoor
open Tryz
set_option maxRecDepth 100000
set_option maxHeartbeats 400000
open Go.RowKit

variable {cs cur:Array Value}{c:BA×Int}{wj:Int}{s:List UInt8}{d:List UInt8->BA}{b k r x:Nat}{E:Nat->Addr}{g g':Option Nat}{st st2:Option PS}{p p1:PS}{α:Type}{T:TypeId}{w w' w1 w2:World}
def Ji(E:Nat->Addr)(w:World)(b:Nat)(g:Option Nat)(wj:Int):Option PS->Prop
 | some p=>Jc w b g wj .nilIface p
 | none=>∃p t u,Jc w b g wj (.iface t u) p/\Jp E 7 w (.iface t u)
def Xb:Option PS->Nat
 | some p=>p.len
 | none=>0
def JQ(x k:Nat)(st:Option PS):Nat×Option PS:=match st.bind (PS.num x k) with
 | some (m,p)=>(m,some p)
 | none=>(0,none)
def Jl(s:List UInt8)(k:Nat)(st:Option PS):List UInt8×Option PS:=match st.bind (PS.txt s k) with
 | some (t,p)=>(t,some p)
 | none=>([],none)
theorem XQ{m:Nat}(h:p.num x k=some (m,p1)):JQ x k (some p)=(m,some p1):=by simp[JQ,h]
theorem Jbk(h:p.num x k=none):JQ x k (some p)=(0,none):=by simp[JQ,h]
theorem JjX(x k:Nat):JQ x k none=(0,none):=rfl
theorem Xg{t:List UInt8}(h:p.txt s k=some (t,p1)):Jl s k (some p)=(t,some p1):=by simp[Jl,h]
theorem YM(h:p.txt s k=none):Jl s k (some p)=([],none):=by simp[Jl,h]
theorem Ji.at(h:Ji E w b g wj st):∃p e,Jc w b g wj e p/\(e=.nilIface\/∃t u,e=.iface t u):=by
 cases st with
 | some p=>exact⟨p,_,h,.inl rfl⟩
 | none=>obtain⟨p,t,u,h,_⟩:=h;exact⟨p,_,h,.inr ⟨t,u,rfl⟩⟩
theorem Ji.lt(h:Ji E w b g wj st):b<w.heap.size:=by
 obtain⟨p,e,h,_⟩:=h.at;exact h.lt
theorem Ji.own(h:Ji E w b g wj st):∀k,g=some k->b<k/\k<w.heap.size:=by
 obtain⟨p,e,h,_⟩:=h.at;exact h.own
theorem Ji.width(h:Ji E w b g wj st):w.cell? ⟨b,1,none⟩=some (.int .i64 wj):=by
 obtain⟨p,e,h,_⟩:=h.at
 cases p using PS.on with
 | rd q r=>exact Ja h.2
 | wr d=>obtain⟨v,_,_,hr⟩:=h;exact Ja hr
theorem Ji.same{width':Int}{st':Option PS}(h:Ji E w b g wj st)(k:Ji E w b g' width' st'):g=g':=by
 obtain⟨p,e,h,_⟩:=h.at;obtain⟨p',e',k,_⟩:=k.at;exact h.same k
theorem Ji.tch{S:Nat->Prop}(h:Ji E w b g wj st)(k:Tch S w w')(hb:¬S b)(hg:∀j,g=some j->¬S j)(hs:∀p s u,w.heap[p]? =some (.cells #[.string s,u] 237)->¬S p):Ji E w' b g wj st:=by
 cases st with
 | some p=>exact Jc.tch h k hb hg
 | none=>obtain⟨p,t,u,h1,h2⟩:=h;exact⟨p,t,u,h1.tch k hb hg,h2.tch k hs⟩
theorem Ji.next(h:Ji E w b g wj st)(k:Tch NoB w w'):Ji E w' b g wj st:=
 h.tch k (λh=>h) (λ_ _ h=>h) (λ_ _ _ _ h=>h)
theorem Ji.row(h:Ji E w b g wj st)(hr:w.heap[r]? =some (.cells cur T))(hT:T ≠ 237)(hb:¬(r=b\/some r=g)):Ji E (w.setRow r cs) b g wj st:=
 h.tch (Ts w r cs) (λe=>hb (.inl e.symm)) (λj hj e=>hb (.inr (by rw[hj,e]))) (λp s u hp e=>by subst e;rw[hr]at hp;simp at hp;exact hT hp.2)
def StTo(E:Nat->Addr)(w w':World)(b:Nat)(g:Option Nat)(wj:Int)(st':Option PS):Prop:=
 ∃g',Ji E w' b g' wj st'/\Jm w g g'/\Tch (λk=>k=b\/some k=g) w w'
theorem StTo.trans{g1:Option Nat}(hm:Jm w g g1)(h:Tch (λk=>k=b\/some k=g) w w1)(k:StTo E w1 w2 b g1 wj st2):StTo E w w2 b g wj st2:=by
 obtain⟨g2,h1,h2,h3⟩:=k;exact⟨g2,h1,hm.trans h2 h.size,Yp h h3 hm⟩
theorem StTo.fresh(h:Tch NoB w w1)(k:StTo E w1 w2 b g wj st2):StTo E w w2 b g wj st2:=by
 obtain⟨g2,h1,h2,h3⟩:=k;refine⟨g2,h1,?_,(h.mono noE).trans h3 (λ_ h=>.inl h)⟩
 rcases h2 with h2|⟨i,h2,hi⟩
 ·exact .inl h2
 ·exact .inr ⟨i,h2,Qm h.size hi⟩
theorem StTo.row(k:StTo E w w2 b g wj st2)(hw:w.heap.size<=r)(hr:w2.heap[r]? =some (.cells cur T))(hT:T ≠ 237)(hb:¬r=b)(hg:∀g',Jm w g g'->Ji E w2 b g' wj st2->some r ≠ g'):StTo E w (w2.setRow r cs) b g wj st2:=by
 obtain⟨g2,h1,h2,h3⟩:=k;exact⟨g2,h1.row hr hT (by rintro(e|e);exact hb e;exact hg g2 h2 h1 e),h2,h3.trans (Ts w2 r cs) (λj hj=>.inr (by omega))⟩
theorem JbO(h12:18<=b)(h:Ji E w b g wj st):∀j,(j=b\/some j=g)->18<=j:=by
 rintro j (rfl|e)
 ·exact h12
 ·have:=(h.own j e.symm).1;omega
theorem JhP(h:Ji E w b g wj st)(k:Nat)(hk:w.heap.size<=k):¬(k=b\/some k=g):=by
 have h1:=h.lt;rintro(rfl|e)
 ·omega
 ·have:=(h.own k e.symm).2;omega
theorem JbP{wA:World}(h:Ji E w b g wj st)(hm:Jm wA g g')(k:Nat)(hk:w.heap.size<=k)(hA:k<wA.heap.size):¬(k=b\/some k=g'):=by
 rcases hm with rfl|⟨i,rfl,hi⟩
 ·exact JhP h k hk
 ·have h1:=h.lt;rintro(rfl|e)
  ·omega
  ·cases e;omega
theorem JaY(x k:Nat)(st:Option PS):Xb (JQ x k st).2<=Xb st+k:=by
 unfold JQ
 cases st with
 | none=>simp[Xb]
 | some p=>
  simp only[Qu]
  cases h:p.num x k with
  | none=>simp[Xb]
  | some r=>exact Jaf _ _ _ _ _ h
theorem Yx(s:List UInt8)(k:Nat)(st:Option PS):Xb (Jl s k st).2<=Xb st+k:=by
 unfold Jl
 cases st with
 | none=>simp[Xb]
 | some p=>
  simp only[Qu]
  cases h:p.txt s k with
  | none=>simp[Xb]
  | some r=>exact JiD _ _ _ _ _ h
theorem JbN(x k:Nat)(st:Option PS):(JQ x k st).1<256 ^ k:=by
 have hpos:0<256 ^ k:=Nat.pow_pos (by decide);unfold JQ
 cases st with
 | none=>exact hpos
 | some p=>
  simp only[Qu]
  cases h:p.num x k with
  | none=>exact hpos
  | some r=>
   obtain⟨m,p'⟩:=r;show m<256 ^ k
   cases p using PS.on with
   | rd q r=>
    simp only[PS.num]at h
    split at h
    ·cases h
     have h1:=JcQ (r.take k);have h2:256 ^ (r.take k).length<=256 ^ k:=Nat.pow_le_pow_right (by decide) (by rw[QB];omega);omega
    ·cases h
   | wr d=>
    simp only[PS.num]at h
    split at h
    ·rename_i hx
     cases h
     rw[Nat.div_eq_zero_iff]at hx;have e:(256:Nat) ^ k=2 ^ (8*k):=by rw[Nat.pow_mul]
     rcases hx with hx|hx
     ·have:0<2 ^ (8*k):=Nat.pow_pos (by decide);omega
     ·omega
    ·cases h
theorem ZS(E:Nat->Addr)(b:Nat)(g:Option Nat)(wj:Int)(x n:Nat)(st:Option PS)(w:World)(hE:Env E w)(hp:Ji E w b g wj st)(h8:n<=8)(hd:Xb st<=10000000000000):
  Calls prog 138 #[.pointer (some ⟨b,0,none⟩),.int .u64 (x:Int),.int .i64 (n:Int)] w λe w'=>e=.returned (.int .u64 ((JQ x n st).1:Int))/\StTo E w w' b g wj (JQ x n st).2:=by
 unfold JQ
 cases st with
 | none=>
  obtain⟨p,t,u,h1,h2⟩:=hp;refine(Jag b g wj _ _ p t u w h1).mono ?_;rintro e w'⟨rfl,rfl⟩;exact⟨rfl,g,⟨p,t,u,h1,h2⟩,.inl rfl,Te _ _⟩
 | some p=>
  simp only[Qu]
  cases h:p.num x n with
  | none=>
   refine(YU E b g wj x n p w hE hp h8 hd h).mono ?_;rintro e w'⟨rfl,h1,h2⟩;exact⟨rfl,g,⟨p,_,_,h1,.base⟩,.inl rfl,h2.mono (λ_ h=>.inl (.inl h))⟩
  | some r=>
   obtain⟨m,p'⟩:=r;exact(Xs b g wj x n m p p' w hp h8 hd h).mono λe w' ⟨h1,h2⟩=>⟨h1,h2⟩
theorem JfB(E:Nat->Addr)(b:Nat)(g:Option Nat)(wj:Int)(s:BA)(n:Nat)(st:Option PS)(w:World)(hE:Env E w)(hp:Ji E w b g wj st)(hd:Xb st+n<=10000000000000):
  Calls prog 209 #[.pointer (some ⟨b,0,none⟩),.string s,.int .i64 (n:Int)] w λe w'=>e=.returned (.string ⟨(Jl s.data.toList n st).1.toArray⟩)/\StTo E w w' b g wj (Jl s.data.toList n st).2:=by
 unfold Jl
 cases st with
 | none=>
  obtain⟨p,t,u,h1,h2⟩:=hp;refine(Jg1 b g wj _ _ p t u w h1).mono ?_;rintro e w'⟨rfl,rfl⟩;exact⟨rfl,g,⟨p,t,u,h1,h2⟩,.inl rfl,Te _ _⟩
 | some p=>
  simp only[Qu]
  cases h:p.txt s.data.toList n with
  | none=>
   refine(JeJ E b g wj s n p w hE hp (by simp only[Xb]at hd;omega) h).mono ?_;rintro e w'⟨rfl,h1,h2⟩;exact⟨rfl,g,⟨p,_,_,h1,.base⟩,.inl rfl,h2.mono (λ_ h=>.inl (.inl h))⟩
  | some r=>
   obtain⟨m,p'⟩:=r;exact(Zk b g wj s n m p p' w hp hd h).mono λe w' ⟨h1,h2⟩=>⟨h1,h2⟩
theorem JaU(E:Nat->Addr)(b:Nat)(g:Option Nat)(wj:Int)(s:BA)(st:Option PS)(w:World)(hE:Env E w)(hp:Ji E w b g wj st):
  Calls prog 200 #[.pointer (some ⟨b,0,none⟩),.string s] w λe w'=>e=.returned (.tuple #[])/\StTo E w w' b g wj none:=by
 cases st with
 | none=>
  obtain⟨p,t,u,h1,h2⟩:=hp;refine(Jbj b g wj _ p t u w h1).mono ?_;rintro e w'⟨rfl,rfl⟩;exact⟨rfl,g,⟨p,t,u,h1,h2⟩,.inl rfl,Te _ _⟩
 | some p=>
  refine(Jdr E b g wj s p w hE hp).mono ?_;rintro e w'⟨rfl,h1,h2,h3⟩;exact⟨rfl,g,⟨p,_,_,h1,h2⟩,.inl rfl,h3.mono (λ_ h=>.inl (.inl h))⟩
theorem Zi(E:Nat->Addr)(b:Nat)(g:Option Nat)(wj:Nat)(s:BA)(st:Option PS)(w:World)(hE:Env E w)(hp:Ji E w b g wj st)(hd:Xb st+wj<=10000000000000):
  Calls prog 139 #[.pointer (some ⟨b,0,none⟩),.string s] w λe w'=>e=.returned (.string ⟨(Jl s.data.toList wj st).1.toArray⟩)/\StTo E w w' b g wj (Jl s.data.toList wj st).2:=by
 have c1:=hp.width;have HC:Hid (Calls prog 209 _ w _):=JfB E b g wj s wj st w hE hp hd;go_enter func139,ntmps139;go_wp2_with fail;refine HC.o.mono ?_;rintro _ w1⟨rfl,h⟩;have HS:Hid _:=h;go_wp2;go_ret;exact⟨rfl,HS⟩


structure Rt{α:Type}(fw fr:PS->Option (α×PS))(y:α)(bs:List UInt8):Prop where
 wr:∀d,fw (.wr d)=some (y,.wr (d++bs))
 rd:∀q r,fr (.rd q (bs++r))=some (y,.rd (q++bs) r)
 cut:∀q j,j<bs.length->fr (.rd q (bs.take j))=none
theorem Rt.ret(y:α)(fw fr:PS->Option (α×PS))(hw:∀p,fw p=some (y,p))(hr:∀p,fr p=some (y,p)):Rt fw fr y []:=
 ⟨λd=>by rw[hw,QC],λq r=>by rw[QC];exact hr _,λq j hj=>absurd hj (by simp)⟩
theorem Rt.bind{β:Type}{f f':PS->Option (α×PS)}{K K':α->PS->Option (β×PS)}{F F':PS->Option (β×PS)}{a:α}{y:β}{b1 b2:List UInt8}
 (hf:Rt f f' a b1) (hk:Rt (K a) (K' a) y b2) (hF:∀p,F p=(f p).bind λq=>K q.1 q.2) (hF':∀p,F' p=(f' p).bind λq=>K' q.1 q.2):Rt F F' y (b1++b2):=by
 refine⟨λd=>?_,λq r=>?_,λq j hj=>?_⟩
 ·rw[hF,hf.wr];simp only[Qu];rw[hk.wr,Qs]
 ·rw[hF',Qs,hf.rd];simp only[Qu];rw[hk.rd,Qs]
 ·rw[hF']
  by_cases h:j<b1.length
  ·rw[List.take_append_of_le_length (by omega),hf.cut q j h];rfl
  ·have e:(b1++b2).take j=b1++b2.take (j-b1.length):=(by rw[List.take_append];rw[QR (by omega)]);rw[e,hf.rd];simp only[Qu];exact hk.cut _ _ (by rw[Qe]at hj;omega)
theorem Jab(x k:Nat)(h:x<2 ^ (8*k)):∀j,j<=k->numL (beL x k j)=x/2 ^ (8*(k-j)):=by
 intro j
 induction j with
 | zero=>intro _;simp only[beL,Nat.sub_zero];rw[Nat.div_eq_of_lt h];rfl
 | succ j ih=>
  intro hj;simp only[beL];rw[JaR,ih (by omega)];have e:8*(k-j)=8*(k-1-j)+8:=by omega
  have e2:k-(j+1)=k-1-j:=by omega
  rw[e,e2,Nat.pow_add,<-Nat.div_div_eq_div_mul];generalize x/2 ^ (8*(k-1-j))=y;rw[UInt8.toNat_ofNat'];omega
theorem JaF(x k z:Nat)(h:x<2 ^ (8*k)):Rt (PS.num x k) (PS.num z k) x (beL x k k):=by
 have hn:numL (beL x k k)=x:=by rw[Jab x k h k (Ql _),Nat.sub_self];simp
 have hl:=Jf x k k;refine⟨λd=>?_,λq r=>?_,λq j hj=>?_⟩
 ·simp only[PS.num];rw[if_pos (Nat.div_eq_of_lt h)]
 ·simp only[PS.num,Qe];rw[if_pos (by omega)];rw[List.take_append_of_le_length (by omega),QR (by omega),hn,List.drop_append_of_le_length (by omega),List.drop_eq_nil_of_le (by omega)];rfl
 ·simp only[PS.num];rw[if_neg (by rw[QB];omega)]
theorem Jcd(s z:List UInt8)(k:Nat)(h:s.length=k):Rt (PS.txt s k) (PS.txt z k) s s:=by
 refine⟨λd=>?_,λq r=>?_,λq j hj=>?_⟩
 ·simp only[PS.txt];rw[if_pos h]
 ·simp only[PS.txt,Qe];rw[if_pos (by omega)];rw[List.take_append_of_le_length (by omega),QR (by omega),List.drop_append_of_le_length (by omega),List.drop_eq_nil_of_le (by omega)];rfl
 ·simp only[PS.txt];rw[if_neg (by rw[QB];omega)]

def outB(o:Nat×Nat):List UInt8:=beL o.1 8 8++beL o.2 1 1
def Jy(o:Nat×Nat):Prop:=o.1<2 ^ 64/\o.2<256
def Je(c:BA×Int):List UInt8:=c.1.data.toList++beL (JE c.2) 1 1
def Jk(wj:Nat)(c:BA×Int):Prop:=c.1.size=wj/\0<=c.2/\c.2<3
theorem Jlx(o:Nat×Nat)(z1 z2:Nat)(h:Jy o):Rt (PS.out o.1 o.2) (PS.out z1 z2) o (outB o):=by
 refine Rt.bind (K:=λa p=>(p.num o.2 1).bind λq=>some ((a,q.1),q.2)) (K':=λa p=>(p.num z2 1).bind λq=>some ((a,q.1),q.2)) (JaF o.1 8 z1 (by have:=h.1;omega)) ?_ ?_ ?_
 ·have:=Rt.bind (F:=λp=>(p.num o.2 1).bind λq=>some ((o.1,q.1),q.2)) (F':=λp=>(p.num z2 1).bind λq=>some ((o.1,q.1),q.2)) (JaF o.2 1 z2 (by have:=h.2;omega)) (Rt.ret o (λp=>some ((o.1,o.2),p)) (λp=>some ((o.1,o.2),p)) (λ_=>rfl) (λ_=>rfl)) (K:=λb p=>some ((o.1,b),p)) (K':=λb p=>some ((o.1,b),p)) (λ_=>rfl) (λ_=>rfl);rw[QC]at this;exact this
 ·intro p;unfold PS.out;cases p.num o.1 8 with
  | none=>rfl
  | some q=>obtain⟨a,p1⟩:=q;simp only[Qu];cases p1.num o.2 1<;>rfl
 ·intro p;unfold PS.out;cases p.num z1 8 with
  | none=>rfl
  | some q=>obtain⟨a,p1⟩:=q;simp only[Qu];cases p1.num z2 1<;>rfl
theorem Yv(n:Int)(h0:0<=n)(h:n<18446744073709551616):(JE n:Int)=n:=by unfold JE;omega
theorem Jiw(wj:Nat)(c z:BA×Int)(h:Jk wj c):Rt (PS.coin wj c) (PS.coin wj z) c (Je c):=by
 obtain⟨h1,h2,h3⟩:=h;have hx:=Yv c.2 h2 (by omega);have hx3:JE c.2<3:=by omega
 refine Rt.bind (K:=λt p=>(p.num (JE c.2) 1).bind λq=>if q.1<3 then some ((⟨t.toArray⟩,(q.1:Int)),q.2) else none) (K':=λt p=>(p.num (JE z.2) 1).bind λq=>if q.1<3 then some ((⟨t.toArray⟩,(q.1:Int)),q.2) else none) (Jcd c.1.data.toList z.1.data.toList wj (by rw[<-h1];simp)) ?_ ?_ ?_
 ·have:=Rt.bind (F:=λp=>(p.num (JE c.2) 1).bind λq=>if q.1<3 then some (((⟨c.1.data.toList.toArray⟩:BA),(q.1:Int)),q.2) else none) (F':=λp=>(p.num (JE z.2) 1).bind λq=>if q.1<3 then some (((⟨c.1.data.toList.toArray⟩:BA),(q.1:Int)),q.2) else none) (JaF (JE c.2) 1 (JE z.2) (by omega)) (Rt.ret c (λp=>if JE c.2<3 then some (((⟨c.1.data.toList.toArray⟩:BA),(JE c.2:Int)),p) else none) (λp=>if JE c.2<3 then some (((⟨c.1.data.toList.toArray⟩:BA),(JE c.2:Int)),p) else none) (λp=>by rw[if_pos hx3,hx]) (λp=>by rw[if_pos hx3,hx])) (K:=λ(b:Nat) p=>if b<3 then some ((⟨c.1.data.toList.toArray⟩,(b:Int)),p) else none) (K':=λ(b:Nat) p=>if b<3 then some ((⟨c.1.data.toList.toArray⟩,(b:Int)),p) else none) (λ_=>rfl) (λ_=>rfl);rw[QC]at this;exact this
 ·intro p;unfold PS.coin;cases p.txt c.1.data.toList wj with
  | none=>rfl
  | some q=>obtain⟨a,p1⟩:=q;simp only[Qu];cases p1.num (JE c.2) 1<;>rfl
 ·intro p;unfold PS.coin;cases p.txt z.1.data.toList wj with
  | none=>rfl
  | some q=>obtain⟨a,p1⟩:=q;simp only[Qu];cases p1.num (JE z.2) 1<;>rfl
theorem JmP:∀(l:List (Nat×Nat)),(∀x∈l,Jy x)->Rt (PS.outs l) (PS.outs (List.replicate l.length (0,0))) l (l.flatMap outB):=by
 intro l
 induction l with
 | nil=>intro _;exact Rt.ret [] _ _ (λ_=>rfl) (λ_=>rfl)
 | cons x r ih=>
  intro h;have hr:=ih (λy hy=>h y (QP _ hy));rw[QG];refine Rt.bind (K:=λy p=>(PS.outs r p).bind λq=>some (y::q.1,q.2)) (K':=λy p=>(PS.outs (List.replicate r.length (0,0)) p).bind λq=>some (y::q.1,q.2)) (Jlx x 0 0 (h x QM)) ?_ ?_ ?_
  ·have:=Rt.bind (F:=λp=>(PS.outs r p).bind λq=>some (x::q.1,q.2)) (F':=λp=>(PS.outs (List.replicate r.length (0,0)) p).bind λq=>some (x::q.1,q.2)) hr (Rt.ret (x::r) (λp=>some (x::r,p)) (λp=>some (x::r,p)) (λ_=>rfl) (λ_=>rfl)) (K:=λb p=>some (x::b,p)) (K':=λb p=>some (x::b,p)) (λ_=>rfl) (λ_=>rfl);rw[QC]at this;exact this
  ·intro p;simp only[PS.outs];cases p.out x.1 x.2 with
   | none=>rfl
   | some q=>obtain⟨a,p1⟩:=q;simp only[Qu];cases PS.outs r p1<;>rfl
  ·intro p;simp only[Qp,List.replicate_succ,PS.outs];cases p.out 0 0 with
   | none=>rfl
   | some q=>obtain⟨a,p1⟩:=q;simp only[Qu];cases PS.outs (List.replicate r.length (0,0)) p1<;>rfl
theorem Jlv(wj:Nat):∀(l:List (BA×Int)),(∀x∈l,Jk wj x)->Rt (PS.coins wj l) (PS.coins wj (List.replicate l.length (⟨#[]⟩,0))) l (l.flatMap Je):=by
 intro l
 induction l with
 | nil=>intro _;exact Rt.ret [] _ _ (λ_=>rfl) (λ_=>rfl)
 | cons x r ih=>
  intro h;have hr:=ih (λy hy=>h y (QP _ hy));rw[QG];refine Rt.bind (K:=λy p=>(PS.coins wj r p).bind λq=>some (y::q.1,q.2)) (K':=λy p=>(PS.coins wj (List.replicate r.length (⟨#[]⟩,0)) p).bind λq=>some (y::q.1,q.2)) (Jiw wj x (⟨#[]⟩,0) (h x QM)) ?_ ?_ ?_
  ·have:=Rt.bind (F:=λp=>(PS.coins wj r p).bind λq=>some (x::q.1,q.2)) (F':=λp=>(PS.coins wj (List.replicate r.length (⟨#[]⟩,0)) p).bind λq=>some (x::q.1,q.2)) hr (Rt.ret (x::r) (λp=>some (x::r,p)) (λp=>some (x::r,p)) (λ_=>rfl) (λ_=>rfl)) (K:=λb p=>some (x::b,p)) (K':=λb p=>some (x::b,p)) (λ_=>rfl) (λ_=>rfl);rw[QC]at this;exact this
  ·intro p;simp only[PS.coins];cases p.coin wj x with
   | none=>rfl
   | some q=>obtain⟨a,p1⟩:=q;simp only[Qu];cases PS.coins wj r p1<;>rfl
  ·intro p;simp only[Qp,List.replicate_succ,PS.coins];cases p.coin wj (⟨#[]⟩,0) with
   | none=>rfl
   | some q=>obtain⟨a,p1⟩:=q;simp only[Qu];cases PS.coins wj (List.replicate r.length (⟨#[]⟩,0)) p1<;>rfl
def XE(l:List (Nat×Nat)):List UInt8:=beL l.length 1 1++l.flatMap outB
def Jfa(l:List (BA×Int)):List UInt8:=beL l.length 1 1++l.flatMap Je
theorem Jdx(least most:Nat)(l:List (Nat×Nat))(h:∀x∈l,Jy x)(h1:least<=l.length)(h2:l.length<=most)(h3:l.length<256):Rt (PS.listO least most l) (PS.listO least most []) l (XE l):=by
 have hg:¬(l.length<least\/most<l.length):=by omega
 refine Rt.bind (K:=λcnt p=>if cnt<least\/most<cnt then none else PS.outs (Za l cnt) p) (K':=λcnt p=>if cnt<least\/most<cnt then none else PS.outs (Za [] cnt) p) (JaF l.length 1 0 (by omega)) ?_ ?_ ?_
 ·have hs:Za l l.length=l:=by unfold Za;split<;>simp_all
  have hz:Za [] l.length=List.replicate l.length (0,0):=rfl;simp only[hg,if_false,hs,hz];exact JmP l h
 ·intro p;unfold PS.listO;cases p.num l.length 1<;>rfl
 ·intro p;unfold PS.listO;simp only[Qv];cases p.num 0 1<;>rfl
theorem Jlw(wj least most:Nat)(l:List (BA×Int))(h:∀x∈l,Jk wj x)(h1:least<=l.length)(h2:l.length<=most)(h3:l.length<256):Rt (PS.listC wj least most l) (PS.listC wj least most []) l (Jfa l):=by
 have hg:¬(l.length<least\/most<l.length):=by omega
 refine Rt.bind (K:=λcnt p=>if cnt<least\/most<cnt then none else PS.coins wj (YZ l cnt) p) (K':=λcnt p=>if cnt<least\/most<cnt then none else PS.coins wj (YZ [] cnt) p) (JaF l.length 1 0 (by omega)) ?_ ?_ ?_
 ·have hs:YZ l l.length=l:=by unfold YZ;split<;>simp_all
  have hz:YZ [] l.length=List.replicate l.length (⟨#[]⟩,0):=rfl;simp only[hg,if_false,hs,hz];exact Jlv wj l h
 ·intro p;unfold PS.listC;cases p.num l.length 1<;>rfl
 ·intro p;unfold PS.listC;simp only[Qv];cases p.num 0 1<;>rfl
def txB(t:TxL):List UInt8:=Jfa t.1++XE t.2
structure TxOk(wj:Nat)(t:TxL):Prop where
 coins:∀x∈t.1,Jk wj x
 outs:∀x∈t.2,Jy x
 one:1<=t.1.length
 ins:t.1.length<=3
 made:t.2.length<=3
theorem Jnh(wj:Nat)(t:TxL)(h:TxOk wj t):Rt (PS.tx wj t) (PS.tx wj ([],[])) t (txB t):=by
 refine Rt.bind (K:=λys p=>(p.listO 0 3 t.2).bind λq=>some ((ys,q.1),q.2)) (K':=λys p=>(p.listO 0 3 []).bind λq=>some ((ys,q.1),q.2)) (Jlw wj 1 3 t.1 h.coins h.one h.ins (by have:=h.ins;omega)) ?_ ?_ ?_
 ·have:=Rt.bind (F:=λp=>(p.listO 0 3 t.2).bind λq=>some ((t.1,q.1),q.2)) (F':=λp=>(p.listO 0 3 []).bind λq=>some ((t.1,q.1),q.2)) (Jdx 0 3 t.2 h.outs (by omega) h.made (by have:=h.made;omega)) (Rt.ret t (λp=>some ((t.1,t.2),p)) (λp=>some ((t.1,t.2),p)) (λ_=>rfl) (λ_=>rfl)) (K:=λb p=>some ((t.1,b),p)) (K':=λb p=>some ((t.1,b),p)) (λ_=>rfl) (λ_=>rfl);rw[QC]at this;exact this
 ·intro p;unfold PS.tx;cases p.listC wj 1 3 t.1 with
  | none=>rfl
  | some q=>obtain⟨a,p1⟩:=q;simp only[Qu];cases p1.listO 0 3 t.2<;>rfl
 ·intro p;unfold PS.tx;simp only;cases p.listC wj 1 3 [] with
  | none=>rfl
  | some q=>obtain⟨a,p1⟩:=q;simp only[Qu];cases p1.listO 0 3 []<;>rfl
theorem JnT(wj:Nat):∀(l:List TxL),(∀x∈l,TxOk wj x)->Rt (PS.txs wj l) (PS.txs wj (List.replicate l.length ([],[]))) l (l.flatMap txB):=by
 intro l
 induction l with
 | nil=>intro _;exact Rt.ret [] _ _ (λ_=>rfl) (λ_=>rfl)
 | cons x r ih=>
  intro h;have hr:=ih (λy hy=>h y (QP _ hy));rw[QG];refine Rt.bind (K:=λy p=>(PS.txs wj r p).bind λq=>some (y::q.1,q.2)) (K':=λy p=>(PS.txs wj (List.replicate r.length ([],[])) p).bind λq=>some (y::q.1,q.2)) (Jnh wj x (h x QM)) ?_ ?_ ?_
  ·have:=Rt.bind (F:=λp=>(PS.txs wj r p).bind λq=>some (x::q.1,q.2)) (F':=λp=>(PS.txs wj (List.replicate r.length ([],[])) p).bind λq=>some (x::q.1,q.2)) hr (Rt.ret (x::r) (λp=>some (x::r,p)) (λp=>some (x::r,p)) (λ_=>rfl) (λ_=>rfl)) (K:=λb p=>some (x::b,p)) (K':=λb p=>some (x::b,p)) (λ_=>rfl) (λ_=>rfl);rw[QC]at this;exact this
  ·intro p;simp only[PS.txs];cases p.tx wj x with
   | none=>rfl
   | some q=>obtain⟨a,p1⟩:=q;simp only[Qu];cases PS.txs wj r p1<;>rfl
  ·intro p;simp only[Qp,List.replicate_succ,PS.txs];cases p.tx wj ([],[]) with
   | none=>rfl
   | some q=>obtain⟨a,p1⟩:=q;simp only[Qu];cases PS.txs wj (List.replicate r.length ([],[])) p1<;>rfl
def Xr(ts:List TxL):List UInt8:=beL ts.length 1 1++ts.flatMap txB
theorem Jft(wj:Nat)(ts:List TxL)(h:∀t∈ts,TxOk wj t)(h3:ts.length<=3):Rt (PS.body wj ts) (PS.body wj []) ts (Xr ts):=by
 have hg:¬3<ts.length:=by omega
 refine Rt.bind (K:=λcnt p=>if 3<cnt then none else PS.txs wj (Jal ts cnt) p) (K':=λcnt p=>if 3<cnt then none else PS.txs wj (Jal [] cnt) p) (JaF ts.length 1 0 (by omega)) ?_ ?_ ?_
 ·have hs:Jal ts ts.length=ts:=by unfold Jal;split<;>simp_all
  have hz:Jal [] ts.length=List.replicate ts.length ([],[]):=rfl;simp only[hg,if_false,hs,hz];exact JnT wj ts h
 ·intro p;unfold PS.body;cases p.num ts.length 1<;>rfl
 ·intro p;unfold PS.body;simp only[Qv];cases p.num 0 1<;>rfl
abbrev HdL:=Nat×BA×BA×BA
def hdrB(h:HdL):List UInt8:=beL h.1 4 4++(h.2.1.data.toList++(h.2.2.1.data.toList++h.2.2.2.data.toList))
structure HdOk(wj:Nat)(h:HdL):Prop where
 height:h.1<2 ^ 32
 a:h.2.1.size=wj
 b:h.2.2.1.size=wj
 c:h.2.2.2.size=wj
theorem Jfu(wj:Nat)(h z:HdL)(hk:HdOk wj h):Rt (PS.hdr wj h) (PS.hdr wj z) h (hdrB h):=by
 obtain⟨k1,k2,k3,k4⟩:=hk;obtain⟨n,a,b,c⟩:=h;have r3:=Rt.bind (F:=λp=>(p.txt c.data.toList wj).bind λq=>some (((n,a,b,(⟨q.1.toArray⟩:BA)):HdL),q.2)) (F':=λp=>(p.txt z.2.2.2.data.toList wj).bind λq=>some ((n,a,b,(⟨q.1.toArray⟩:BA)),q.2)) (Jcd c.data.toList z.2.2.2.data.toList wj (by rw[<-k4];simp)) (Rt.ret (n,a,b,c) (λp=>some ((n,a,b,c),p)) (λp=>some ((n,a,b,c),p)) (λ_=>rfl) (λ_=>rfl)) (K:=λt p=>some ((n,a,b,⟨t.toArray⟩),p)) (K':=λt p=>some ((n,a,b,⟨t.toArray⟩),p)) (λ_=>rfl) (λ_=>rfl);rw[QC]at r3;have r2:=Rt.bind (F:=λp=>(p.txt b.data.toList wj).bind λq1=>(q1.2.txt c.data.toList wj).bind λq=>some (((n,a,(⟨q1.1.toArray⟩:BA),(⟨q.1.toArray⟩:BA)):HdL),q.2)) (F':=λp=>(p.txt z.2.2.1.data.toList wj).bind λq1=>(q1.2.txt z.2.2.2.data.toList wj).bind λq=>some ((n,a,(⟨q1.1.toArray⟩:BA),(⟨q.1.toArray⟩:BA)),q.2)) (Jcd b.data.toList z.2.2.1.data.toList wj (by rw[<-k3];simp)) r3 (K:=λt p=>(p.txt c.data.toList wj).bind λq=>some ((n,a,(⟨t.toArray⟩:BA),(⟨q.1.toArray⟩:BA)),q.2)) (K':=λt p=>(p.txt z.2.2.2.data.toList wj).bind λq=>some ((n,a,(⟨t.toArray⟩:BA),(⟨q.1.toArray⟩:BA)),q.2)) (λ_=>rfl) (λ_=>rfl);have r1:=Rt.bind (F:=λp=>(p.txt a.data.toList wj).bind λq2=>(q2.2.txt b.data.toList wj).bind λq1=>(q1.2.txt c.data.toList wj).bind λq=>some (((n,(⟨q2.1.toArray⟩:BA),(⟨q1.1.toArray⟩:BA),(⟨q.1.toArray⟩:BA)):HdL),q.2)) (F':=λp=>(p.txt z.2.1.data.toList wj).bind λq2=>(q2.2.txt z.2.2.1.data.toList wj).bind λq1=>(q1.2.txt z.2.2.2.data.toList wj).bind λq=>some ((n,(⟨q2.1.toArray⟩:BA),(⟨q1.1.toArray⟩:BA),(⟨q.1.toArray⟩:BA)),q.2)) (Jcd a.data.toList z.2.1.data.toList wj (by rw[<-k2];simp)) r2 (K:=λt p=>(p.txt b.data.toList wj).bind λq1=>(q1.2.txt c.data.toList wj).bind λq=>some ((n,(⟨t.toArray⟩:BA),(⟨q1.1.toArray⟩:BA),(⟨q.1.toArray⟩:BA)),q.2)) (K':=λt p=>(p.txt z.2.2.1.data.toList wj).bind λq1=>(q1.2.txt z.2.2.2.data.toList wj).bind λq=>some ((n,(⟨t.toArray⟩:BA),(⟨q1.1.toArray⟩:BA),(⟨q.1.toArray⟩:BA)),q.2)) (λ_=>rfl) (λ_=>rfl);refine Rt.bind (JaF n 4 z.1 (by simp only at k1;omega)) r1 (K:=λm p=>(p.txt a.data.toList wj).bind λq2=>(q2.2.txt b.data.toList wj).bind λq1=>(q1.2.txt c.data.toList wj).bind λq=>some ((m,(⟨q2.1.toArray⟩:BA),(⟨q1.1.toArray⟩:BA),(⟨q.1.toArray⟩:BA)),q.2)) (K':=λm p=>(p.txt z.2.1.data.toList wj).bind λq2=>(q2.2.txt z.2.2.1.data.toList wj).bind λq1=>(q1.2.txt z.2.2.2.data.toList wj).bind λq=>some ((m,(⟨q2.1.toArray⟩:BA),(⟨q1.1.toArray⟩:BA),(⟨q.1.toArray⟩:BA)),q.2)) ?_ ?_
 ·intro p;unfold PS.hdr;simp only;cases p.num n 4 with
  | none=>rfl
  | some q=>obtain⟨x,p1⟩:=q;simp only[Qu];cases p1.txt a.data.toList wj with
   | none=>rfl
   | some q=>obtain⟨x,p1⟩:=q;simp only[Qu];cases p1.txt b.data.toList wj with
    | none=>rfl
    | some q=>obtain⟨x,p1⟩:=q;simp only[Qu];cases p1.txt c.data.toList wj<;>rfl
 ·intro p;unfold PS.hdr;cases p.num z.1 4 with
  | none=>rfl
  | some q=>obtain⟨x,p1⟩:=q;simp only[Qu];cases p1.txt z.2.1.data.toList wj with
   | none=>rfl
   | some q=>obtain⟨x,p1⟩:=q;simp only[Qu];cases p1.txt z.2.2.1.data.toList wj with
    | none=>rfl
    | some q=>obtain⟨x,p1⟩:=q;simp only[Qu];cases p1.txt z.2.2.2.data.toList wj<;>rfl


def bt(k:List UInt8)(i:Nat):Nat:=(k.getD (i/8) 0).toNat/2 ^ (7-i % 8) % 2
theorem Yf(k:List UInt8)(i:Nat):bt k i<2:=Nat.mod_lt _ (by decide)
abbrev Key:=List UInt8
structure Tr where
 of ::
 v:(Key×(Nat×Nat)) ⊕ (Nat×Tr×Tr)
abbrev Tr.leaf(key:Key)(out:Nat×Nat):Tr:=⟨.inl (key,out)⟩
abbrev Tr.br(bit:Nat)(l r:Tr):Tr:=⟨.inr (bit,l,r)⟩
theorem Tr.ri{motive:Tr->Prop}(leaf:∀key out,motive (.leaf key out))(br:∀bit l r,motive l->motive r->motive (.br bit l r)):∀t,motive t
 | ⟨.inl (k,o)⟩=>leaf k o
 | ⟨.inr (b,l,r)⟩=>br b l r (Tr.ri leaf br l) (Tr.ri leaf br r)
def Tr.coins:Tr->List (Key×(Nat×Nat))
 | ⟨.inl (k,o)⟩=>[(k,o)]
 | ⟨.inr (_,l,r)⟩=>l.coins++r.coins
def Tr.near(k:Key):Tr->Key×(Nat×Nat)
 | ⟨.inl (k',o)⟩=>(k',o)
 | ⟨.inr (b,l,r)⟩=>if bt k b=0 then l.near k else r.near k
def Tr.pair(n one:Tr)(b at_:Nat):Tr:=if at_=0 then .br b one n else .br b n one
def Tr.graft(k:Key)(o:Nat×Nat)(d:Nat):Tr->Tr
 | ⟨.inl (k',o')⟩=>Tr.pair (.leaf k' o') (.leaf k o) d (bt k d)
 | ⟨.inr (b,l,r)⟩=>if d<b then Tr.pair (.br b l r) (.leaf k o) d (bt k d) else if bt k b=0 then .br b (l.graft k o d) r else .br b l (r.graft k o d)
def Tr.cut(k:Key):Tr->Option Tr
 | ⟨.inl (_,_)⟩=>none
 | ⟨.inr (b,l,r)⟩=>if bt k b=0 then (match l.cut k with|none=>some r|some l'=>some (.br b l' r)) else (match r.cut k with|none=>some l|some r'=>some (.br b l r'))
def Tr.Wf:Tr->Prop
 | ⟨.inl (_,_)⟩=>True
 | ⟨.inr (b,l,r)⟩=>l.Wf/\r.Wf/\(∀x∈l.coins,bt x.1 b=0)/\(∀x∈r.coins,bt x.1 b=1)/\∀x∈l.coins++r.coins,∀y∈l.coins++r.coins,∀i,i<b->bt x.1 i=bt y.1 i
theorem Tr.coins_ne(t:Tr):t.coins ≠ []:=by
 induction t using Tr.ri with
 | leaf=>simp[coins]
 | br b l r ihl ihr=>simp[coins,ihl]
theorem Tr.near_mem(k:Key)(t:Tr):t.near k∈t.coins:=by
 induction t using Tr.ri with
 | leaf=>simp[near,coins]
 | br b l r ihl ihr=>simp only[near,coins,QE];split<;>simp[*]
theorem Tr.near_of_mem(k:Key)(o:Nat×Nat)(t:Tr)(hw:t.Wf)(h:(k,o)∈t.coins):t.near k=(k,o):=by
 induction t using Tr.ri with
 | leaf=>simp only[coins,Qt]at h;rw[h];rfl
 | br b l r ihl ihr=>
  obtain⟨w1,w2,h0,h1,_⟩:=hw;simp only[coins,QE]at h;simp only[near]
  rcases h with h|h
  ·have:=h0 _ h;simp only at this;rw[if_pos this];exact ihl w1 h
  ·have:=h1 _ h;simp only at this;rw[if_neg (by omega)];exact ihr w2 h
theorem Tr.graft_ok(k:Key)(o:Nat×Nat)(d:Nat)(t:Tr)(hw:t.Wf)(hd:bt k d ≠ bt (t.near k).1 d)(hi:∀i,i<d->bt k i=bt (t.near k).1 i):
  (t.graft k o d).Wf/\(∀x,x∈(t.graft k o d).coins↔x=(k,o)\/x∈t.coins)/\(t.graft k o d).coins.length=t.coins.length+1:=by
 have hpair:∀n:Tr,n.Wf->(∀x∈n.coins,bt x.1 d ≠ bt k d)->(∀x∈n.coins,∀i,i<d->bt x.1 i=bt k i)->(Tr.pair n (.leaf k o) d (bt k d)).Wf/\(∀x,x∈(Tr.pair n (.leaf k o) d (bt k d)).coins↔x=(k,o)\/x∈n.coins)/\(Tr.pair n (.leaf k o) d (bt k d)).coins.length=n.coins.length+1:=by
  intro n wn hn hs;have k2:=Yf k d;unfold pair
  split
  ·refine⟨⟨trivial,wn,?_,?_,?_⟩,?_,?_⟩
   ·intro x hx;simp only[coins,Qt]at hx;rw[hx];assumption
   ·intro x hx;have:=hn x hx;have:=Yf x.1 d;omega
   ·intro x hx y hy i hid;simp only[coins,QE,Qt]at hx hy;have e1:bt x.1 i=bt k i:=(by rcases hx with rfl|hx;rfl;exact hs x hx i hid);have e2:bt y.1 i=bt k i:=(by rcases hy with rfl|hy;rfl;exact hs y hy i hid);rw[e1,e2]
   ·intro x;simp[coins]
   ·simp[coins]
  ·refine⟨⟨wn,trivial,?_,?_,?_⟩,?_,?_⟩
   ·intro x hx;have:=hn x hx;have:=Yf x.1 d;omega
   ·intro x hx;simp only[coins,Qt]at hx;rw[hx];simp only;omega
   ·intro x hx y hy i hid;simp only[coins,QE,Qt]at hx hy;have e1:bt x.1 i=bt k i:=(by rcases hx with hx|rfl;exact hs x hx i hid;rfl);have e2:bt y.1 i=bt k i:=(by rcases hy with hy|rfl;exact hs y hy i hid;rfl);rw[e1,e2]
   ·intro x;simp only[coins,QE,Qt];exact Or.comm
   ·simp[coins]
 induction t using Tr.ri with
 | leaf k' o'=>
  simp only[near]at hd hi;exact hpair _ trivial (by intro x hx;simp only[coins,Qt]at hx;rw[hx];exact λe=>hd e.symm) (by intro x hx i hid;simp only[coins,Qt]at hx;rw[hx];exact(hi i hid).symm)
 | br b l r ihl ihr=>
  have hw':=hw;obtain⟨w1,w2,h0,h1,hs⟩:=hw;simp only[graft];have hm:=near_mem k (.br b l r)
  split
  ·rename_i hdb;refine hpair _ hw' ?_ ?_
   ·intro x hx e;exact hd (by rw[<-e];exact hs _ hx _ hm d hdb)
   ·intro x hx i hid;rw[hi i hid];exact hs _ hx _ hm i (by omega)
  ·rename_i hdb;simp only[near]at hd hi hm;have k2:=Yf k b
   split
   ·rename_i hz;simp only[hz,if_true]at hd hi hm;obtain⟨g1,g2,g3⟩:=ihl w1 hd hi;have hnm:=near_mem k l;have hne:b ≠ d:=(by rintro rfl;exact hd (by rw[hz];exact(h0 _ hnm).symm));refine⟨⟨g1,w2,?_,h1,?_⟩,?_,?_⟩
    ·intro x hx;rw[g2]at hx;rcases hx with rfl|hx
     ·exact hz
     ·exact h0 x hx
    ·have ek:∀x∈l.coins++r.coins,∀i,i<b->bt x.1 i=bt k i:=by
      intro x hx i hib;rw[hi i (by omega)];exact hs _ hx _ (List.mem_append_left _ hnm) i hib
     intro x hx y hy i hib;have e:∀x∈(l.graft k o d).coins++r.coins,bt x.1 i=bt k i:=by
      intro x hx;simp only[QE,g2]at hx
      rcases hx with(rfl|hx)|hx
      ·rfl
      ·exact ek x (List.mem_append_left _ hx) i hib
      ·exact ek x (List.mem_append_right _ hx) i hib
     rw[e x hx,e y hy]
    ·intro x;simp only[coins,QE,g2];exact or_assoc
    ·simp only[coins,Qe,g3];omega
   ·rename_i hz;simp only[hz,if_false]at hd hi hm;obtain⟨g1,g2,g3⟩:=ihr w2 hd hi;have hnm:=near_mem k r;have hne:b ≠ d:=(by rintro rfl;exact hd (by rw[h1 _ hnm];omega));refine⟨⟨w1,g1,h0,?_,?_⟩,?_,?_⟩
    ·intro x hx;rw[g2]at hx;rcases hx with rfl|hx
     ·simp only;omega
     ·exact h1 x hx
    ·have ek:∀x∈l.coins++r.coins,∀i,i<b->bt x.1 i=bt k i:=by
      intro x hx i hib;rw[hi i (by omega)];exact hs _ hx _ (List.mem_append_right _ hnm) i hib
     intro x hx y hy i hib;have e:∀x∈l.coins++(r.graft k o d).coins,bt x.1 i=bt k i:=by
      intro x hx;simp only[QE,g2]at hx
      rcases hx with hx|rfl|hx
      ·exact ek x (List.mem_append_left _ hx) i hib
      ·rfl
      ·exact ek x (List.mem_append_right _ hx) i hib
     rw[e x hx,e y hy]
    ·intro x;simp only[coins,QE,g2];constructor
     ·rintro(h|h|h)<;>simp[h]
     ·rintro(h|h|h)<;>simp[h]
    ·simp only[coins,Qe,g3];omega
def Jr:Option Tr->List (Key×(Nat×Nat))
 | none=>[]
 | some t=>t.coins
theorem Tr.cut_ok(k:Key)(t:Tr)(hw:t.Wf)(hk:(t.near k).1=k):
  (∀t',t.cut k=some t'->t'.Wf)/\(∀x,x∈Jr (t.cut k)↔x∈t.coins/\x.1 ≠ k)/\(Jr (t.cut k)).length+1=t.coins.length:=by
 induction t using Tr.ri with
 | leaf k' o'=>
  simp only[near]at hk;subst hk;refine⟨λt' h=>by simp[cut]at h,λx=>?_,by simp[cut,Jr,coins]⟩;simp only[cut,Jr,coins,Qt];constructor
  ·intro h;cases h
  ·rintro⟨rfl,h⟩;exact absurd rfl h
 | br b l r ihl ihr=>
  obtain⟨w1,w2,h0,h1,hs⟩:=hw;simp only[near]at hk;simp only[cut]
  split
  ·rename_i hz;simp only[hz,if_true]at hk;obtain⟨g1,g2,g3⟩:=ihl w1 hk;have hr:∀x∈r.coins,x.1 ≠ k:=by rintro x hx rfl;have:=h1 x hx;omega
   cases hc:l.cut k with
   | none=>
    rw[hc]at g1 g2 g3;refine⟨λt' h=>by simp only[Qh]at h;rw[<-h];exact w2,λx=>?_,by simp only[Jr,coins,Qe,Qv]at g3 ⊢;omega⟩;simp only[Jr,coins,QE];constructor
    ·intro h;exact⟨.inr h,hr x h⟩
    ·rintro⟨h|h,hn⟩
     ·exact absurd ((g2 x).2 ⟨h,hn⟩) (by simp[Jr])
     ·exact h
   | some l'=>
    rw[hc]at g1 g2 g3;refine⟨λt' h=>?_,λx=>?_,by simp only[Jr,coins,Qe]at g3 ⊢;omega⟩
    ·simp only[Qh]at h;rw[<-h];have hsub:∀x∈l'.coins++r.coins,x∈l.coins++r.coins:=by
      intro x hx;rw[QE]at hx ⊢;rcases hx with hx|hx
      ·exact .inl ((g2 x).1 hx).1
      ·exact .inr hx
     exact⟨g1 l' rfl,w2,λx hx=>h0 x ((g2 x).1 hx).1,h1,λx hx y hy i hi=>hs x (hsub x hx) y (hsub y hy) i hi⟩
    ·have g2':=g2 x;simp only[Jr]at g2';simp only[Jr,coins,QE,g2'];constructor
     ·rintro(⟨h,hn⟩|h)
      ·exact⟨.inl h,hn⟩
      ·exact⟨.inr h,hr x h⟩
     ·rintro⟨h|h,hn⟩
      ·exact .inl ⟨h,hn⟩
      ·exact .inr h
  ·rename_i hz;simp only[hz,if_false]at hk;obtain⟨g1,g2,g3⟩:=ihr w2 hk;have hl:∀x∈l.coins,x.1 ≠ k:=by rintro x hx rfl;have:=h0 x hx;omega
   cases hc:r.cut k with
   | none=>
    rw[hc]at g1 g2 g3;refine⟨λt' h=>by simp only[Qh]at h;rw[<-h];exact w1,λx=>?_,by simp only[Jr,coins,Qe,Qv]at g3 ⊢;omega⟩;simp only[Jr,coins,QE];constructor
    ·intro h;exact⟨.inl h,hl x h⟩
    ·rintro⟨h|h,hn⟩
     ·exact h
     ·exact absurd ((g2 x).2 ⟨h,hn⟩) (by simp[Jr])
   | some r'=>
    rw[hc]at g1 g2 g3;refine⟨λt' h=>?_,λx=>?_,by simp only[Jr,coins,Qe]at g3 ⊢;omega⟩
    ·simp only[Qh]at h;rw[<-h];have hsub:∀x∈l.coins++r'.coins,x∈l.coins++r.coins:=by
      intro x hx;rw[QE]at hx ⊢;rcases hx with hx|hx
      ·exact .inl hx
      ·exact .inr ((g2 x).1 hx).1
     exact⟨w1,g1 r' rfl,h0,λx hx=>h1 x ((g2 x).1 hx).1,λx hx y hy i hi=>hs x (hsub x hx) y (hsub y hy) i hi⟩
    ·have g2':=g2 x;simp only[Jr]at g2';simp only[Jr,coins,QE,g2'];constructor
     ·rintro(h|⟨h,hn⟩)
      ·exact⟨.inl h,hl x h⟩
      ·exact⟨.inr h,hn⟩
     ·rintro⟨h|h,hn⟩
      ·exact .inl h
      ·exact .inr ⟨h,hn⟩
def lz8(x:UInt8):Nat:=if 128<=x.toNat then 0 else if 64<=x.toNat then 1 else if 32<=x.toNat then 2 else if 16<=x.toNat then 3 else if 8<=x.toNat then 4 else if 4<=x.toNat then 5 else if 2<=x.toNat then 6 else if 1<=x.toNat then 7 else 8
def fd:Key->Key->Nat
 | x::a,y::b=>if x=y then 8+fd a b else lz8 (x ^^^ y)
 | _,_=>0
theorem JnI:∀z:Fin 256,z ≠ 0->lz8 (UInt8.ofNat z.val)<8/\z.val/2 ^ (7-lz8 (UInt8.ofNat z.val)) % 2=1/\∀i:Fin 8,i.val<lz8 (UInt8.ofNat z.val)->z.val/2 ^ (7-i.val) % 2=0:=by decide +kernel
theorem Jie(x y i:Nat):(x ^^^ y)/2 ^ i % 2=(x/2 ^ i % 2+y/2 ^ i % 2) % 2:=by
 have h:∀a:Nat,a/2 ^ i % 2=(a.testBit i).toNat:=λa=>by rw[Nat.toNat_testBit]
 rw[h,h,h,Nat.testBit_xor]
 cases x.testBit i<;>cases y.testBit i<;>rfl
theorem Jij:∀(a b:Key),a.length=b.length->a ≠ b->fd a b<8*a.length/\bt a (fd a b) ≠ bt b (fd a b)/\∀i,i<fd a b->bt a i=bt b i:=by
 intro a
 induction a with
 | nil=>intro b h hn;cases b with
  | nil=>exact absurd rfl hn
  | cons=>simp at h
 | cons x a ih=>
  intro b h hn
  cases b with
  | nil=>simp at h
  | cons y b=>
   simp only[Qp,Nat.add_right_cancel_iff]at h;have s1:∀(z:UInt8)(c:Key)(i:Nat),i<8->bt (z::c) i=z.toNat/2 ^ (7-i) % 2:=(by intro z c i hi;unfold bt;rw[Nat.div_eq_of_lt hi,Nat.mod_eq_of_lt hi];rfl);have s2:∀(z:UInt8)(c:Key)(i:Nat),bt (z::c) (8+i)=bt c i:=(by intro z c i;unfold bt;rw[show (8+i)/8=i/8+1 by omega,show (8+i) % 8=i % 8 by omega];rfl);simp only[fd]
   split
   ·rename_i e;subst e;obtain⟨p1,p2,p3⟩:=ih b h (λe=>hn (by rw[e]));refine⟨by simp only[Qp];omega,by rw[s2,s2];exact p2,λi hi=>?_⟩
    by_cases h8:i<8
    ·rw[s1 _ _ _ h8,s1 _ _ _ h8]
    ·obtain⟨j,rfl⟩:∃j,i=8+j:=⟨i-8,by omega⟩
     rw[s2,s2];exact p3 j (by omega)
   ·rename_i e;have hz:(x ^^^ y).toNat ≠ 0:=by
     intro h0;apply e;rw[UInt8.toNat_xor]at h0;apply UInt8.toNat_inj.1;apply Nat.eq_of_testBit_eq;intro i;have:=congrArg (λn=>n.testBit i) h0;simp only[Nat.testBit_xor,Nat.zero_testBit]at this
     revert this
     cases x.toNat.testBit i<;>cases y.toNat.testBit i<;>simp
    have hlt:(x ^^^ y).toNat<256:=UInt8.toNat_lt _;obtain⟨q1,q2,q3⟩:=JnI ⟨(x ^^^ y).toNat,hlt⟩ (λe=>hz (by have:=congrArg Fin.val e;exact this));rw[show UInt8.ofNat (⟨(x ^^^ y).toNat,hlt⟩:Fin 256).val=x ^^^ y from UInt8.ofNat_toNat]at q1 q2 q3;simp only at q2 q3;rw[UInt8.toNat_xor,Jie]at q2;refine⟨by simp only[Qp];omega,?_,λi hi=>?_⟩
    ·rw[s1 _ _ _ q1,s1 _ _ _ q1];omega
    ·have:=q3 ⟨i,by omega⟩ hi;simp only at this;rw[UInt8.toNat_xor,Jie]at this;rw[s1 _ _ _ (by omega),s1 _ _ _ (by omega)];omega


abbrev Er:=Fin 7
abbrev Er.form:Er:=0
abbrev Er.tip:Er:=1
abbrev Er.input:Er:=2
abbrev Er.exist:Er:=3
abbrev Er.sum:Er:=4
abbrev Er.root:Er:=5
abbrev Er.range:Er:=6
theorem Er.on{motive:Er->Prop}(form:motive .form)(tip:motive .tip)(input:motive .input)(exist:motive .exist)(sum:motive .sum)(root:motive .root)(range:motive .range):∀e,motive e
 | 0=>form
 | 1=>tip
 | 2=>input
 | 3=>exist
 | 4=>sum
 | 5=>root
 | 6=>range
def JeU(l1 l2:List (Nat×Nat)):Decidable (XF l1 l2):=by unfold XF;infer_instance

def YW(st:Option Tr)(k:Key)(o:Nat×Nat):Except Er (Option Tr):=
 match st with
 | none=>.ok (some (.leaf k o))
 | some t=>if (t.near k).1=k then .error .exist else .ok (some (t.graft k o (fd (t.near k).1 k)))
def Xi(st:Option Tr)(k:Key):Except Er (Option Tr×(Nat×Nat)):=
 match st with
 | none=>.error .input
 | some t=>if (t.near k).1=k then .ok (t.cut k,(t.near k).2) else .error .input
def Yg:List (BA×Int)->Option Tr->Except Er (Option Tr×List (Nat×Nat))
 | [],st=>.ok (st,[])
 | c::r,st=>match Xi st (Je c) with
  | .error e=>.error e
  | .ok (st1,o)=>match Yg r st1 with
   | .error e=>.error e
   | .ok (st2,os)=>.ok (st2,o::os)
def JX(id:BA):Nat->List (Nat×Nat)->Option Tr->Except Er (Option Tr)
 | _,[],st=>.ok st
 | i,o::r,st=>match YW st (Je (id,(i:Int))) o with
  | .error e=>.error e
  | .ok st1=>JX id (i+1) r st1
def Xj(dg:List UInt8->BA)(st:Option Tr)(t:TxL):Except Er (Option Tr):=
 match Yg t.1 st with
 | .error e=>.error e
 | .ok (st1,os)=>match JX (dg (84::txB t)) 0 t.2 st1 with
  | .error e=>.error e
  | .ok st2=>haveI:=JeU os t.2;if XF os t.2 then .error .sum else .ok st2
def JZ(dg:List UInt8->BA):Option Tr->List TxL->Except Er (Option Tr)
 | st,[]=>.ok st
 | st,t::r=>match Xj dg st t with
  | .error e=>.error e
  | .ok st1=>JZ dg st1 r

abbrev Held:=(BA×Int)×(Nat×Nat)
def JO(l:List Held)(c:BA×Int):Option Nat:=l.findIdx? (λh=>decide (h.1=c))
def M64:Nat:=18446744073709551616
def Xo:List (BA×Int)->List Held×Nat×Bool->Option (List Held×Nat×Bool)
 | [],s=>some s
 | c::r,(now,inn,over)=>match JO now c with
  | none=>none
  | some k=>Xo r (now.eraseIdx k,(inn+(now.getD k ((⟨#[]⟩,0),(0,0))).2.1) % M64,over || decide ((inn+(now.getD k ((⟨#[]⟩,0),(0,0))).2.1) % M64<inn))
def JM(id:BA):Nat->List (Nat×Nat)->List Held×Nat×Bool->Option (List Held×Nat×Bool)
 | _,[],s=>some s
 | i,o::r,(now,out,over)=>match JO now (id,(i:Int)) with
  | some _=>none
  | none=>JM id (i+1) r (now++[((id,(i:Int)),o)],(out+o.1) % M64,over || decide ((out+o.1) % M64<out))
def Xw(dg:List UInt8->BA)(l:List Held)(t:TxL):Except Er (List Held):=
 match Xo t.1 (l,0,false) with
 | none=>.error .input
 | some (now,inn,over)=>match JM (dg (84::txB t)) 0 t.2 (now,0,over) with
  | none=>.error .exist
  | some (now2,out,over2)=>if over2=true\/inn<out then .error .sum else .ok now2

structure Book(wj:Nat)(st:Option Tr)(l:List Held):Prop where
 wf:∀t,st=some t->t.Wf
 ok:∀h∈l,Jk wj h.1/\Jy h.2
 nodup:(l.map (·.1)).Nodup
 mem:∀k o,(k,o)∈Jr st↔∃h∈l,Je h.1=k/\h.2=o
theorem YJ{wj:Nat}{d:BA×Int}(h1:Jk wj c)(h2:Jk wj d)(h:Je c=Je d):c=d:=by
 obtain⟨a1,a2,a3⟩:=h1;obtain⟨b1,b2,b3⟩:=h2;unfold Je at h;obtain⟨e1,e2⟩:=List.append_inj h (by simp only[QA];exact a1.trans b1.symm);have x1:=Yv c.2 a2 (by omega);have x2:=Yv d.2 b2 (by omega);have y:∀n,n<256->numL (beL n 1 1)=n:=λn hn=>by rw[Jab n 1 (by omega) 1 (Ql _)];simp
 have e3:JE c.2=JE d.2:=by rw[<-y (JE c.2) (by omega),<-y (JE d.2) (by omega),e2]
 have e4:c.2=d.2:=by rw[<-x1,<-x2,e3]
 have e5:c.1=d.1:=by
  have:c.1.data=d.1.data:=by rw[<-Array.toList_inj];exact e1
  cases hc:c.1;cases hd:d.1;rw[hc,hd]at this;simp only at this;rw[this]
 exact Prod.ext e5 e4
theorem Yu{wj:Nat}(h:Jk wj c):(Je c).length=wj+1:=by
 unfold Je;rw[Qe,Jf];have:=h.1;simp only[QA];show c.1.data.size+1=_;rw[<-this];rfl
theorem Xy{l:List Held}(h:JO l c=some k):∃hk:k<l.length,l[k].1=c:=by
 unfold JO at h;rw[List.findIdx?_eq_some_iff_getElem]at h;obtain⟨hk,h1,_⟩:=h;exact⟨hk,by simpa using h1⟩
theorem Jad{l:List Held}(h:JO l c=none):∀x∈l,x.1 ≠ c:=by
 unfold JO at h;rw[List.findIdx?_eq_none_iff]at h;intro x hx;simpa using h x hx
theorem Jjv{l:List Held}(hn:(l.map (·.1)).Nodup)(hk:k<l.length):∀x,x∈l.eraseIdx k↔x∈l/\x.1 ≠ l[k].1:=by
 intro x;have inj:∀(i j:Nat)(hi:i<l.length)(hj:j<l.length),l[i].1=l[j].1->i=j:=by intro i j hi hj e;have:=(List.getElem_inj (i:=i) (j:=j) (h₀:=by simpa using hi) (h₁:=by simpa using hj) hn).1 (by simpa using e);exact this
 rw[List.mem_eraseIdx_iff_getElem];constructor
 ·rintro⟨i,hi,hne,rfl⟩;exact⟨Qx hi,λe=>hne (inj i k hi hk e)⟩
 ·rintro⟨hx,hne⟩;obtain⟨i,hi,rfl⟩:=List.getElem_of_mem hx;exact⟨i,hi,λe=>hne (by subst e;rfl),rfl⟩
theorem Book.find{wj:Nat}{st:Option Tr}{l:List Held}(B:Book wj st l)(hc:Jk wj c){t:Tr}(ht:st=some t):(t.near (Je c)).1=Je c↔∃k,JO l c=some k:=by
 subst ht;constructor
 ·intro h;have hm:=t.near_mem (Je c);have:((t.near (Je c)).1,(t.near (Je c)).2)∈Jr (some t):=hm;rw[h]at this;obtain⟨x,hx,h1,h2⟩:=(B.mem _ _).1 this
  cases hf:JO l c with
  | some k=>exact⟨k,rfl⟩
  | none=>exact absurd (YJ (B.ok x hx).1 hc h1) (Jad hf x hx)
 ·rintro⟨k,hk⟩;obtain⟨hl,e⟩:=Xy hk;have:(Je c,l[k].2)∈Jr (some t):=(B.mem _ _).2 ⟨l[k],Qx hl,by rw[e],rfl⟩;rw[Tr.near_of_mem _ _ t (B.wf t rfl) this]
theorem Book.none{wj:Nat}{l:List Held}(B:Book wj Option.none l):l=[]:=by
 cases l with
 | nil=>rfl
 | cons x r=>exact absurd ((B.mem (Je x.1) x.2).2 ⟨x,QM,rfl,rfl⟩) (by simp[Jr])
theorem Book.without{wj:Nat}{st:Option Tr}{l:List Held}(B:Book wj st l)(hc:Jk wj c):
  match JO l c with
  | .none=>Xi st (Je c)=.error .input
  | .some k=>∃st',Xi st (Je c)=.ok (st',(l.getD k ((⟨#[]⟩,0),(0,0))).2)/\Book wj st' (l.eraseIdx k):=by
 cases st with
 | none=>
  obtain rfl:=B.none;rfl
 | some t=>
  have hf:=B.find hc rfl
  cases h:JO l c with
  | none=>
   simp only[Xi];rw[if_neg];rw[hf];rintro⟨k,hk⟩;rw[h]at hk;cases hk
  | some k=>
   obtain⟨hl,e⟩:=Xy h;have hn:(t.near (Je c)).1=Je c:=hf.2 ⟨k,h⟩;have hm:(Je c,l[k].2)∈Jr (some t):=(B.mem _ _).2 ⟨l[k],Qx hl,by rw[e],rfl⟩;have hnear:=Tr.near_of_mem _ _ t (B.wf t rfl) hm;obtain⟨g1,g2,g3⟩:=Tr.cut_ok (Je c) t (B.wf t rfl) hn;have hi:=Jjv B.nodup hl;refine⟨t.cut (Je c),?_,⟨g1,λx hx=>B.ok x ((hi x).1 hx).1,?_,λk' o=>?_⟩⟩
   ·simp only[Xi];rw[if_pos hn,hnear];simp[List.getD_eq_getElem?_getD,List.getElem?_eq_getElem hl]
   ·exact B.nodup.sublist ((List.eraseIdx_sublist l k).map _)
   ·rw[g2];show (k',o)∈Jr (some t)/\_↔_;rw[B.mem];constructor
    ·rintro⟨⟨x,hx,h1,h2⟩,h3⟩;exact⟨x,(hi x).2 ⟨hx,λe'=>h3 (by simp only;rw[<-h1,e',e])⟩,h1,h2⟩
    ·rintro⟨x,hx,h1,h2⟩;obtain⟨hx1,hx2⟩:=(hi x).1 hx;exact⟨⟨x,hx1,h1,h2⟩,λe'=>hx2 (by rw[e];simp only at e';exact YJ (B.ok x hx1).1 hc (h1.trans e'))⟩
theorem Book.with{wj:Nat}{st:Option Tr}{l:List Held}(B:Book wj st l)(hc:Jk wj c){o:Nat×Nat}(ho:Jy o):
  match JO l c with
  | .some _=>YW st (Je c) o=.error .exist
  | .none=>∃st',YW st (Je c) o=.ok st'/\Book wj st' (l++[(c,o)]):=by
 have hok:JO l c=Option.none->∀x∈l++[(c,o)],Jk wj x.1/\Jy x.2:=by
  intro _ x hx;rw[QE,Qt]at hx
  rcases hx with hx|rfl
  ·exact B.ok x hx
  ·exact⟨hc,ho⟩
 have hnd:JO l c=Option.none->((l++[(c,o)]).map (·.1)).Nodup:=by intro hf;rw[List.map_append,List.nodup_append];refine⟨B.nodup,by simp,?_⟩;intro a ha b hb e;simp only[List.map_cons,List.map_nil,Qt]at hb;subst hb;subst e;obtain⟨x,hx,hxe⟩:=QK.1 ha;exact Jad hf x hx hxe
 cases st with
 | none=>
  obtain rfl:=B.none;refine⟨_,rfl,⟨λt ht=>by simp only[Qh]at ht;rw[<-ht];exact trivial,hok rfl,hnd rfl,λk o'=>?_⟩⟩;simp only[Jr,Tr.coins,Qt,List.nil_append,Qw];constructor
  ·rintro⟨rfl,rfl⟩;exact⟨_,rfl,rfl,rfl⟩
  ·rintro⟨x,rfl,h1,h2⟩;exact⟨h1.symm,h2.symm⟩
 | some t=>
  have hf:=B.find hc rfl
  cases h:JO l c with
  | some k=>
   simp only[YW];rw[if_pos (hf.2 ⟨k,h⟩)]
  | none=>
   have hn:(t.near (Je c)).1 ≠ Je c:=(by rw[ne_eq,hf];rintro⟨k,hk⟩;rw[h]at hk;cases hk);have hm:=t.near_mem (Je c);obtain⟨x,hx,h1,h2⟩:=(B.mem (t.near (Je c)).1 (t.near (Je c)).2).1 hm;have hlen:(t.near (Je c)).1.length=(Je c).length:=(by rw[<-h1,Yu (B.ok x hx).1,Yu hc]);obtain⟨q1,q2,q3⟩:=Jij (t.near (Je c)).1 (Je c) hlen hn;obtain⟨g1,g2,g3⟩:=Tr.graft_ok (Je c) o (fd (t.near (Je c)).1 (Je c)) t (B.wf t rfl) (λe=>q2 e.symm) (λi hi=>(q3 i hi).symm);refine⟨some (t.graft (Je c) o (fd (t.near (Je c)).1 (Je c))),?_,⟨λt' ht=>by simp only[Qh]at ht;rw[<-ht];exact g1,hok h,hnd h,λk o'=>?_⟩⟩
   ·simp only[YW];rw[if_neg hn]
   ·simp only[Jr,g2];have:=B.mem k o';simp only[Jr]at this;rw[this];constructor
    ·rintro(e|⟨y,hy,e1,e2⟩)
     ·cases e;exact⟨(c,o),by simp,rfl,rfl⟩
     ·exact⟨y,by simp[hy],e1,e2⟩
    ·rintro⟨y,hy,e1,e2⟩;rw[QE,Qt]at hy
     rcases hy with hy|rfl
     ·exact .inr ⟨y,hy,e1,e2⟩
     ·left;rw[<-e1,<-e2]
theorem Jam(o:Nat×Nat)(os:List (Nat×Nat)):JP (o::os) (o::os).length=o.1+JP os os.length:=by simp[JP]
theorem JhK(wj:Nat):∀(cs:List (BA×Int)),(∀c∈cs,Jk wj c)->∀(st:Option Tr)(l:List Held)(inn:Nat)(over:Bool),Book wj st l->
  match Xo cs (l,inn % M64,over) with
  | none=>Yg cs st=.error .input
  | some (l',inn',over')=>∃st' os,Yg cs st=.ok (st',os)/\Book wj st' l'/\inn'=(inn+JP os os.length) % M64/\(over'=true↔over=true\/M64<=inn % M64+JP os os.length):=by
 intro cs
 induction cs with
 | nil=>intro _ st l inn over B;exact⟨st,[],rfl,B,by simp[JP],by simp[JP];intro h;exact absurd h (by have:inn % M64<M64:=Nat.mod_lt _ (by decide);omega)⟩
 | cons c r ih=>
  intro hc st l inn over B;have hw:=B.without (hc c QM);simp only[Xo,Yg]
  cases hf:JO l c with
  | none=>rw[hf]at hw;simp only at hw;simp only[hw]
  | some k=>
   rw[hf]at hw;obtain⟨st1,e1,B1⟩:=hw;obtain⟨hl,_⟩:=Xy hf;have ha:(l.getD k ((⟨#[]⟩,0),(0,0))).2.1<M64:=by simp only[Qn,Qd hl,Option.getD_some];exact(B.ok _ (Qx hl)).2.1
   dsimp only;generalize (l.getD k ((⟨#[]⟩,0),(0,0))).2=o at *;simp only[e1];have:=ih (λc hc'=>hc c (QP _ hc')) st1 (l.eraseIdx k) (inn % M64+o.1) (over || decide ((inn % M64+o.1) % M64<inn % M64)) B1
   cases hs:Xo r (l.eraseIdx k,(inn % M64+o.1) % M64,over || decide ((inn % M64+o.1) % M64<inn % M64)) with
   | none=>rw[hs]at this;simp only at this;simp only[this]
   | some q=>
    obtain⟨l',inn',over'⟩:=q;rw[hs]at this;obtain⟨st',os,e2,B2,e3,e4⟩:=this;refine⟨st',o::os,by simp only[e2],B2,?_,?_⟩
    ·rw[e3,Jam,Nat.add_assoc,Nat.mod_add_mod]
    ·rw[e4,Jam,Bool.or_eq_true,decide_eq_true_iff];generalize JP os os.length=S;have hm:inn % M64<M64:=Nat.mod_lt _ (by decide);generalize inn % M64=I at *;generalize (over=true)=P;unfold M64 at *;constructor
     ·rintro((h|h)|h)
      ·exact .inl h
      ·right;omega
      ·right;omega
     ·rintro(h|h)
      ·exact .inl (.inl h)
      ·by_cases h2:18446744073709551616<=I+o.1
       ·left;right;omega
       ·right;omega
theorem Jaj(wj:Nat)(id:BA)(hid:id.size=wj):∀(os:List (Nat×Nat)),(∀o∈os,Jy o)->∀(i:Nat),i+os.length<=3->∀(st:Option Tr)(l:List Held)(out:Nat)(over:Bool),Book wj st l->
  match JM id i os (l,out % M64,over) with
  | none=>JX id i os st=.error .exist
  | some (l',out',over')=>∃st',JX id i os st=.ok st'/\Book wj st' l'/\out'=(out+JP os os.length) % M64/\(over'=true↔over=true\/M64<=out % M64+JP os os.length):=by
 intro os
 induction os with
 | nil=>intro _ i _ st l out over B;exact⟨st,rfl,B,by simp[JP],by simp[JP];intro h;exact absurd h (by have:out % M64<M64:=Nat.mod_lt _ (by decide);omega)⟩
 | cons o r ih=>
  intro ho i hi st l out over B;rw[Qp]at hi;have hco:Jk wj (id,(i:Int)):=⟨hid,by simp only;omega,by simp only;omega⟩
  have hw:=B.with hco (ho o QM);simp only[JM,JX]
  cases hf:JO l (id,(i:Int)) with
  | some k=>rw[hf]at hw;simp only at hw;simp only[hw]
  | none=>
   rw[hf]at hw;obtain⟨st1,e1,B1⟩:=hw;have ha:o.1<M64:=(ho o QM).1;simp only[e1];have:=ih (λc hc'=>ho c (QP _ hc')) (i+1) (by omega) st1 (l++[((id,(i:Int)),o)]) (out % M64+o.1) (over || decide ((out % M64+o.1) % M64<out % M64)) B1
   cases hs:JM id (i+1) r (l++[((id,(i:Int)),o)],(out % M64+o.1) % M64,over || decide ((out % M64+o.1) % M64<out % M64)) with
   | none=>rw[hs]at this;simp only at this;simp only[this]
   | some q=>
    obtain⟨l',out',over'⟩:=q;rw[hs]at this;obtain⟨st',e2,B2,e3,e4⟩:=this;refine⟨st',e2,B2,?_,?_⟩
    ·rw[e3,Jam,Nat.add_assoc,Nat.mod_add_mod]
    ·rw[e4,Jam,Bool.or_eq_true,decide_eq_true_iff];generalize JP r r.length=S;have hm:out % M64<M64:=Nat.mod_lt _ (by decide);generalize out % M64=I at *;generalize (over=true)=P;unfold M64 at *;constructor
     ·rintro((h|h)|h)
      ·exact .inl h
      ·right;omega
      ·right;omega
     ·rintro(h|h)
      ·exact .inl (.inl h)
      ·by_cases h2:18446744073709551616<=I+o.1
       ·left;right;omega
       ·right;omega
theorem JeR(wj:Nat)(dg:List UInt8->BA)(hdg:∀l,(dg l).size=wj)(t:TxL)(ht:TxOk wj t)(st:Option Tr)(l:List Held)(B:Book wj st l):
  match Xw dg l t with
  | .error e=>Xj dg st t=.error e
  | .ok l'=>∃st',Xj dg st t=.ok st'/\Book wj st' l':=by
 have h1:=JhK wj t.1 ht.coins st l 0 false B;simp only[Xw,Xj];rw[show (0:Nat) % M64=0 from rfl]at h1
 cases hs:Xo t.1 (l,0,false) with
 | none=>rw[hs]at h1;simp only at h1;simp only[h1]
 | some q=>
  obtain⟨l1,inn,ov⟩:=q;rw[hs]at h1;obtain⟨st1,os,e1,B1,e2,e3⟩:=h1;simp only[e1];have h2:=Jaj wj (dg (84::txB t)) (hdg _) t.2 ht.outs 0 (by have:=ht.made;omega) st1 l1 0 ov B1;rw[show (0:Nat) % M64=0 from rfl]at h2
  cases hr:JM (dg (84::txB t)) 0 t.2 (l1,0,ov) with
  | none=>rw[hr]at h2;simp only at h2;simp only[h2]
  | some q=>
   obtain⟨l2,out,ov2⟩:=q;rw[hr]at h2;obtain⟨st2,e4,B2,e5,e6⟩:=h2;simp only[e4];have hb:(ov2=true\/inn<out)↔XF os t.2:=by rw[e6,e3,e2,e5];unfold XF;simp only[Nat.zero_add];simp only[Bool.false_eq_true,false_or];generalize JP os os.length=A;generalize JP t.2 t.2.length=C;unfold M64;omega
   by_cases hbs:XF os t.2
   ·rw[if_pos (hb.2 hbs),if_pos hbs]
   ·rw[if_neg (λh=>hbs (hb.1 h)),if_neg hbs];exact⟨st2,rfl,B2⟩


def Tr.dig(d:List UInt8->BA):Tr->BA
 | ⟨.inl (k,o)⟩=>d (76::(k++outB o))
 | ⟨.inr (b,l,r)⟩=>d (78::(beL b 2 2++((l.dig d).data.toList++(r.dig d).data.toList)))
def JV(d:List UInt8->BA):Option Tr->BA
 | none=>d [69]
 | some t=>t.dig d
abbrev Ch:=List (BA×Option Tr)
def Ch.last(ch:Ch):BA×Option Tr:=ch.getLastD (⟨#[]⟩,none)
def ZB(d:List UInt8->BA)(ch:Ch)(body:List UInt8)(st:BA):HdL:=(ch.length,d (72::ch.last.1.data.toList),d (66::body),st)
def JgL(d:List UInt8->BA)(wj:Nat)(ch:Ch)(ts:List TxL):Except Er (List UInt8):=
 match (PS.wr []).body wj ts with
 | some (_,⟨.inr body⟩)=>match JZ d ch.last.2 ts with
  | .error e=>.error e
  | .ok st=>match (PS.wr []).hdr wj (ZB d ch body (JV d st)) with
   | some (_,⟨.inr h⟩)=>.ok (h++body)
   | _=>.error .form
 | _=>.error .form
def YQ(d:List UInt8->BA)(wj:Nat)(ch:Ch)(text:List UInt8):Except Er Ch:=
 match (PS.rd [] text).hdr wj (0,⟨#[]⟩,⟨#[]⟩,⟨#[]⟩) with
 | some (h,⟨.inl (pre,body)⟩)=>match (PS.rd pre body).body wj [] with
  | some (ts,⟨.inl (_,[])⟩)=>if h ≠ ZB d ch body h.2.2.2 then .error .tip else match JZ d ch.last.2 ts with
   | .error e=>.error e
   | .ok st=>if h.2.2.2 ≠ JV d st then .error .root else .ok (ch++[(⟨(text.take (text.length-body.length)).toArray⟩,st)])
  | _=>.error .form
 | _=>.error .form
theorem Yq(d:List UInt8->BA)(wj:Nat)(hd:∀l,(d l).size=wj)(st:Option Tr):(JV d st).size=wj:=by
 cases st with
 | none=>exact hd _
 | some t=>cases t using Tr.ri<;>exact hd _
def Yz(d:List UInt8->BA)(ch:Ch)(ts:List TxL)(st:Option Tr):List UInt8:=hdrB (ZB d ch (Xr ts) (JV d st))++Xr ts
theorem Jgx(d:List UInt8->BA)(wj:Nat)(hd:∀l,(d l).size=wj)(ch:Ch)(hc:ch.length<2 ^ 32)(body:List UInt8)(st:Option Tr):HdOk wj (ZB d ch body (JV d st)):=
 ⟨hc,hd _,hd _,Yq d wj hd st⟩
theorem Jix(d:List UInt8->BA)(wj:Nat)(hd:∀l,(d l).size=wj)(ch:Ch)(hc:ch.length<2 ^ 32)(ts:List TxL)(h:∀t∈ts,TxOk wj t)(h3:ts.length<=3):
  JgL d wj ch ts=match JZ d ch.last.2 ts with | .error e=>.error e | .ok st=>.ok (Yz d ch ts st):=by
 unfold JgL;rw[(Jft wj ts h h3).wr];dsimp only;rw[List.nil_append]
 cases JZ d ch.last.2 ts with
 | error e=>rfl
 | ok st=>
  dsimp only;rw[(Jfu wj _ (0,⟨#[]⟩,⟨#[]⟩,⟨#[]⟩) (Jgx d wj hd ch hc (Xr ts) st)).wr];rfl
theorem JfR(d:List UInt8->BA)(wj:Nat)(hd:∀l,(d l).size=wj)(ch:Ch)(hc:ch.length<2 ^ 32)(ts:List TxL)(h:∀t∈ts,TxOk wj t)(h3:ts.length<=3)(st:Option Tr)(ha:JZ d ch.last.2 ts=.ok st):
  YQ d wj ch (Yz d ch ts st)=.ok (ch++[(⟨(hdrB (ZB d ch (Xr ts) (JV d st))).toArray⟩,st)]):=by
 have hb:=Jft wj ts h h3;have hh:=Jfu wj _ (0,⟨#[]⟩,⟨#[]⟩,⟨#[]⟩) (Jgx d wj hd ch hc (Xr ts) st);unfold YQ Yz;rw[hh.rd];dsimp only;have:=hb.rd ([]++hdrB (ZB d ch (Xr ts) (JV d st))) [];rw[QC]at this;rw[this];dsimp only;rw[if_neg (by simp[ZB]),ha];dsimp only;rw[if_neg (by simp[ZB])];simp
def XX(dg:List UInt8->BA):List Held->List TxL->Except Er (List Held)
 | l,[]=>.ok l
 | l,t::r=>match Xw dg l t with
  | .error e=>.error e
  | .ok l1=>XX dg l1 r

def Tr.text(d:List UInt8->BA):Tr->List UInt8
 | ⟨.inl (k,o)⟩=>76::(k++outB o)
 | ⟨.inr (b,l,r)⟩=>78::(beL b 2 2++((l.dig d).data.toList++(r.dig d).data.toList))
theorem Tr.dig_text(d:List UInt8->BA)(t:Tr):t.dig d=d (t.text d):=by cases t using Tr.ri<;>rfl
def JhO(d:List UInt8->BA):Option Tr->List UInt8
 | none=>[69]
 | some t=>t.text d
theorem JhL(d:List UInt8->BA)(st:Option Tr):JV d st=d (JhO d st):=by
 cases st with
 | none=>rfl
 | some t=>exact t.dig_text d
abbrev KO:=Key×(Nat×Nat)
def Fork(l:List KO)(b:Nat):Prop:=(∀x∈l,∀y∈l,∀i,i<b->bt x.1 i=bt y.1 i)/\∃x∈l,∃y∈l,bt x.1 b ≠ bt y.1 b
def side(l:List KO)(b v:Nat):List KO:=l.filter λx=>bt x.1 b=v
structure Root(d:List UInt8->BA)(l:List KO)(s:List UInt8):Prop where
 of ::
 c:∀C:List KO->List UInt8->Prop,C [] [69]->(∀k o,C [(k,o)] (76::(k++outB o)))->(∀l b x y,Fork l b->C (side l b 0) x->C (side l b 1) y->C l (78::(beL b 2 2++((d x).data.toList++(d y).data.toList))))->C l s
theorem Root.none:Root d [] [69]:=⟨λ_ h _ _=>h⟩
theorem Root.one(k:Key)(o:Nat×Nat):Root d [(k,o)] (76::(k++outB o)):=⟨λ_ _ h _=>h k o⟩
theorem Root.two(l:List KO)(b:Nat)(x y:List UInt8)(hf:Fork l b)(hx:Root d (side l b 0) x)(hy:Root d (side l b 1) y):Root d l (78::(beL b 2 2++((d x).data.toList++(d y).data.toList))):=⟨λC h1 h2 h3=>h3 l b x y hf (hx.c C h1 h2 h3) (hy.c C h1 h2 h3)⟩
theorem Root.ri{motive:∀l s,Root d l s->Prop}(none:motive _ _ .none)(one:∀k o,motive _ _ (.one k o))(two:∀l b x y hf hx hy,motive _ _ hx->motive _ _ hy->motive _ _ (.two l b x y hf hx hy)):∀{l s} (h:Root d l s),motive l s h:=λ{_ _} h=>
 (h.c (λl s=>∃h:Root d l s,motive l s h) ⟨_,none⟩ (λk o=>⟨_,one k o⟩) λl b x y hf hx hy=>⟨_,two l b x y hf hx.1 hy.1 hx.2 hy.2⟩).2
theorem Root.inv{l:List KO}(h:Root d l s):(l=[]/\s=[69])\/(∃k o,l=[(k,o)]/\s=76::(k++outB o))\/∃b x y,Fork l b/\Root d (side l b 0) x/\Root d (side l b 1) y/\s=(78::(beL b 2 2++((d x).data.toList++(d y).data.toList))):=by
 cases h using Root.ri with
 | none=>exact .inl ⟨rfl,rfl⟩
 | one k o=>exact .inr (.inl ⟨k,o,rfl,rfl⟩)
 | two _ b x y hf hx hy=>exact .inr (.inr ⟨b,x,y,hf,hx,hy,rfl⟩)
theorem Fork.unique{l:List KO}{b':Nat}(h:Fork l b)(h':Fork l b'):b=b':=by
 obtain⟨p1,x,hx,y,hy,p2⟩:=h;obtain⟨q1,u,hu,v,hv,q2⟩:=h'
 rcases Nat.lt_trichotomy b b' with h|h|h
 ·exact absurd (q1 x hx y hy b h) p2
 ·exact h
 ·exact absurd (p1 u hu v hv b' h) q2
theorem Fork.two{l:List KO}(h:Fork l b):2<=l.length:=by
 obtain⟨_,x,hx,y,hy,h⟩:=h
 match l,hx,hy with
 | [],hx,_=>cases hx
 | [a],hx,hy=>simp only[Qt]at hx hy;rw[hx,hy]at h;exact absurd rfl h
 | _::_::_,_,_=>simp
theorem Root.of_tree(t:Tr):∀(l:List KO)(s:List UInt8),t.Wf->(∀x,x∈l↔x∈t.coins)->(l.map (·.1)).Nodup->Root d l s->s=t.text d:=by
 induction t using Tr.ri with
 | leaf k o=>
  intro l s _ hm hn hr;simp only[Tr.coins,Qt]at hm;have hl:l=[(k,o)]:=by
   match l,hm,hn with
   | [],hm,_=>exact absurd ((hm (k,o)).2 rfl) (by simp)
   | [a],hm,_=>rw[(hm a).1 (by simp)]
   | a::b::r,hm,hn=>
    have e1:=(hm a).1 (by simp);have e2:=(hm b).1 (by simp);simp[e1,e2]at hn
  subst hl;obtain⟨h,_⟩|⟨_,_,h,rfl⟩|⟨b,x,y,hf,_⟩:=hr.inv
  ·cases h
  ·cases h;rfl
  ·exact absurd hf.two (by simp)
 | br b lt rt ihl ihr=>
  intro l s hw hm hn hr;obtain⟨w1,w2,h0,h1,hs⟩:=hw;have hf:Fork l b:=by obtain⟨x,hx⟩:=List.exists_mem_of_ne_nil _ lt.coins_ne;obtain⟨y,hy⟩:=List.exists_mem_of_ne_nil _ rt.coins_ne;refine⟨λx hx y hy i hi=>hs x ((hm x).1 hx) y ((hm y).1 hy) i hi,x,(hm x).2 (by simp[Tr.coins,hx]),y,(hm y).2 (by simp[Tr.coins,hy]),?_⟩;rw[h0 x hx,h1 y hy];decide
  have hl2:=hf.two;obtain⟨rfl,_⟩|⟨_,_,rfl,_⟩|⟨b',x,y,hf',hx,hy,rfl⟩:=hr.inv
  ·simp at hl2
  ·simp at hl2
  ·obtain rfl:=hf.unique hf';have hx':=ihl (side l b 0) x w1 (λz=>by
    unfold side;rw[QN,hm];simp only[Tr.coins,QE,decide_eq_true_iff];constructor
    ·rintro⟨h|h,h2⟩
     ·exact h
     ·have:=h1 z h;omega
    ·intro h;exact⟨.inl h,h0 z h⟩) (hn.sublist (List.Sublist.map _ List.filter_sublist)) hx
   have hy':=ihr (side l b 1) y w2 (λz=>by
    unfold side;rw[QN,hm];simp only[Tr.coins,QE,decide_eq_true_iff];constructor
    ·rintro⟨h|h,h2⟩
     ·have:=h0 z h;omega
     ·exact h
    ·intro h;exact⟨.inr h,h1 z h⟩) (hn.sublist (List.Sublist.map _ List.filter_sublist)) hy
   rw[hx',hy',<-Tr.dig_text d lt,<-Tr.dig_text d rt];rfl
theorem Root.of_state{st:Option Tr}{l:List KO}(hw:∀t,st=some t->t.Wf)(hm:∀x,x∈l↔x∈Jr st)(hn:(l.map (·.1)).Nodup)(hr:Root d l s):s=JhO d st:=by
 cases st with
 | none=>
  cases l with
  | nil=>
   obtain⟨_,rfl⟩|⟨_,_,h,_⟩|⟨b,x,y,hf,_⟩:=hr.inv
   ·rfl
   ·cases h
   ·exact absurd hf.two (by simp)
  | cons a r=>exact absurd ((hm a).1 (by simp)) (by simp[Jr])
 | some t=>exact Root.of_tree t l s (hw t rfl) hm hn hr

theorem Jno{a b:BA}(h:a.data.toList=b.data.toList):a=b:=by
 cases a;cases b;simp only at h;rw[Array.toList_inj]at h;rw[h]
