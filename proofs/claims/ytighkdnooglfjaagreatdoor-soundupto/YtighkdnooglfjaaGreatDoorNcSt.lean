import Derived.Test.YtighkdnooglfjaaGreatDoorNcLst
namespace Go.Proofs.YtighkdnooglfjaaGreatDoor
open Tryz
set_option maxRecDepth 100000
set_option maxHeartbeats 400000
open Go.RowKit

def Je (E:Nat->Addr) (w:World) (b:Nat) (g:Option Nat) (wd:Int):Option PS->Prop
 | some p=>Jc w b g wd .nilIface p
 | none=>∃p t u,Jc w b g wd (.iface t u) p/\Jl E 7 w (.iface t u)
def JK:Option PS->Nat
 | some p=>p.len
 | none=>0
def Jz (x k:Nat) (st:Option PS):Nat×Option PS:=match st.bind (PS.num x k) with
 | some (m,p)=>(m,some p)
 | none=>(0,none)
def Ji (s:List UInt8) (k:Nat) (st:Option PS):List UInt8×Option PS:=match st.bind (PS.txt s k) with
 | some (t,p)=>(t,some p)
 | none=>([],none)
theorem JL {x k m:Nat} {p p1:PS} (h:p.num x k=some (m,p1)):Jz x k (some p)=(m,some p1):=by simp [Jz,h]
theorem YV {x k:Nat} {p:PS} (h:p.num x k=none):Jz x k (some p)=(0,none):=by simp [Jz,h]
theorem Jik (x k:Nat):Jz x k none=(0,none):=rfl
theorem JF {s t:List UInt8} {k:Nat} {p p1:PS} (h:p.txt s k=some (t,p1)):Ji s k (some p)=(t,some p1):=by simp [Ji,h]
theorem XF {s:List UInt8} {k:Nat} {p:PS} (h:p.txt s k=none):Ji s k (some p)=([],none):=by simp [Ji,h]
theorem Je.at {E:Nat->Addr} {w:World} {b:Nat} {g:Option Nat} {wd:Int} {st:Option PS} (h:Je E w b g wd st):∃p e,Jc w b g wd e p/\(e=.nilIface\/∃t u,e=.iface t u):=by
 cases st with
 | some p=>exact ⟨p,_,h,.inl rfl⟩
 | none=>obtain ⟨p,t,u,h,_⟩:=h;exact ⟨p,_,h,.inr ⟨t,u,rfl⟩⟩
theorem Je.lt {E:Nat->Addr} {w:World} {b:Nat} {g:Option Nat} {wd:Int} {st:Option PS} (h:Je E w b g wd st):b<w.heap.size:=by
 obtain ⟨p,e,h,_⟩:=h.at;exact h.lt
theorem Je.own {E:Nat->Addr} {w:World} {b:Nat} {g:Option Nat} {wd:Int} {st:Option PS} (h:Je E w b g wd st):∀k,g=some k->b<k/\k<w.heap.size:=by
 obtain ⟨p,e,h,_⟩:=h.at;exact h.own
theorem Je.width {E:Nat->Addr} {w:World} {b:Nat} {g:Option Nat} {wd:Int} {st:Option PS} (h:Je E w b g wd st):w.cell? ⟨b,1,none⟩=some (.int .i64 wd):=by
 obtain ⟨p,e,h,_⟩:=h.at
 cases p using PS.on with
 | rd q r=>exact Ja h.2
 | wr d=>obtain ⟨v,_,_,hr⟩:=h;exact Ja hr
theorem Je.same {E:Nat->Addr} {w:World} {b:Nat} {g g':Option Nat} {wd width':Int} {st st':Option PS} (h:Je E w b g wd st) (k:Je E w b g' width' st'):g=g':=by
 obtain ⟨p,e,h,_⟩:=h.at
 obtain ⟨p',e',k,_⟩:=k.at
 exact h.same k
theorem Je.tch {E:Nat->Addr} {S:Nat->Prop} {w w':World} {b:Nat} {g:Option Nat} {wd:Int} {st:Option PS} (h:Je E w b g wd st) (k:Tch S w w') (hb:¬S b) (hg:∀j,g=some j->¬S j) (hs:∀p s u,w.heap[p]? =some (.cells #[.string s,u] 237)->¬S p):Je E w' b g wd st:=by
 cases st with
 | some p=>exact Jc.tch h k hb hg
 | none=>obtain ⟨p,t,u,h1,h2⟩:=h;exact ⟨p,t,u,h1.tch k hb hg,h2.tch k hs⟩
theorem Je.next {E:Nat->Addr} {w w':World} {b:Nat} {g:Option Nat} {wd:Int} {st:Option PS} (h:Je E w b g wd st) (k:Tch NoB w w'):Je E w' b g wd st:=
 h.tch k (λh=>h) (λ_ _ h=>h) (λ_ _ _ _ h=>h)
theorem Je.row {E:Nat->Addr} {w:World} {b r:Nat} {g:Option Nat} {wd:Int} {st:Option PS} {cur cs:Array Value} {T:TypeId} (h:Je E w b g wd st) (hr:w.heap[r]? =some (.cells cur T)) (hT:T ≠ 237) (hb:¬(r=b\/some r=g)):Je E (w.setRow r cs) b g wd st:=
 h.tch (Ts w r cs) (λe=>hb (.inl e.symm)) (λj hj e=>hb (.inr (by rw [hj,e]))) (λp s u hp e=>by subst e;rw [hr] at hp;simp at hp;exact hT hp.2)
def StTo (E:Nat->Addr) (w w':World) (b:Nat) (g:Option Nat) (wd:Int) (st':Option PS):Prop:=
 ∃g',Je E w' b g' wd st'/\Jn w g g'/\Tch (λk=>k=b\/some k=g) w w'
theorem StTo.trans {E:Nat->Addr} {w w1 w2:World} {b:Nat} {g g1:Option Nat} {wd:Int} {st2:Option PS} (hm:Jn w g g1) (h:Tch (λk=>k=b\/some k=g) w w1) (k:StTo E w1 w2 b g1 wd st2):StTo E w w2 b g wd st2:=by
 obtain ⟨g2,h1,h2,h3⟩:=k
 exact ⟨g2,h1,hm.trans h2 h.size,XV h h3 hm⟩
theorem StTo.fresh {E:Nat->Addr} {w w1 w2:World} {b:Nat} {g:Option Nat} {wd:Int} {st2:Option PS} (h:Tch NoB w w1) (k:StTo E w1 w2 b g wd st2):StTo E w w2 b g wd st2:=by
 obtain ⟨g2,h1,h2,h3⟩:=k
 refine ⟨g2,h1,?_,(h.mono noE).trans h3 (λ_ h=>.inl h)⟩
 rcases h2 with h2 | ⟨i,h2,hi⟩
 ·exact .inl h2
 ·exact .inr ⟨i,h2,Qm h.size hi⟩
theorem StTo.row {E:Nat->Addr} {w w2:World} {b r:Nat} {g:Option Nat} {wd:Int} {st2:Option PS} {cur cs:Array Value} {T:TypeId} (k:StTo E w w2 b g wd st2) (hw:w.heap.size<=r) (hr:w2.heap[r]? =some (.cells cur T)) (hT:T ≠ 237) (hb:¬r=b) (hg:∀g',Jn w g g'->Je E w2 b g' wd st2->some r ≠ g'):StTo E w (w2.setRow r cs) b g wd st2:=by
 obtain ⟨g2,h1,h2,h3⟩:=k
 exact ⟨g2,h1.row hr hT (by rintro (e | e);exact hb e;exact hg g2 h2 h1 e),h2,h3.trans (Ts w2 r cs) (λj hj=>.inr (by omega))⟩
theorem Jbe {E:Nat->Addr} {w:World} {b:Nat} {g:Option Nat} {wd:Int} {st:Option PS} (h12:18<=b) (h:Je E w b g wd st):∀j,(j=b\/some j=g)->18<=j:=by
 rintro j (rfl | e)
 ·exact h12
 ·have:=(h.own j e.symm).1;omega
theorem Jgm {E:Nat->Addr} {w:World} {b:Nat} {g:Option Nat} {wd:Int} {st:Option PS} (h:Je E w b g wd st) (k:Nat) (hk:w.heap.size<=k):¬(k=b\/some k=g):=by
 have h1:=h.lt
 rintro (rfl | e)
 ·omega
 ·have:=(h.own k e.symm).2;omega
theorem Jbf {E:Nat->Addr} {w wA:World} {b:Nat} {g g':Option Nat} {wd:Int} {st:Option PS} (h:Je E w b g wd st) (hm:Jn wA g g') (k:Nat) (hk:w.heap.size<=k) (hA:k<wA.heap.size):¬(k=b\/some k=g'):=by
 rcases hm with rfl | ⟨i,rfl,hi⟩
 ·exact Jgm h k hk
 ·have h1:=h.lt
  rintro (rfl | e)
  ·omega
  ·cases e;omega
theorem Jaw (x k:Nat) (st:Option PS):JK (Jz x k st).2<=JK st+k:=by
 unfold Jz
 cases st with
 | none=>simp [JK]
 | some p=>
  simp only [Qu]
  cases h:p.num x k with
  | none=>simp [JK]
  | some r=>exact Zd _ _ _ _ _ h
theorem XZ (s:List UInt8) (k:Nat) (st:Option PS):JK (Ji s k st).2<=JK st+k:=by
 unfold Ji
 cases st with
 | none=>simp [JK]
 | some p=>
  simp only [Qu]
  cases h:p.txt s k with
  | none=>simp [JK]
  | some r=>exact Jek _ _ _ _ _ h
theorem Jbc (x k:Nat) (st:Option PS):(Jz x k st).1<256 ^ k:=by
 have hpos:0<256 ^ k:=Nat.pow_pos (by decide)
 unfold Jz
 cases st with
 | none=>exact hpos
 | some p=>
  simp only [Qu]
  cases h:p.num x k with
  | none=>exact hpos
  | some r=>
   obtain ⟨m,p'⟩:=r
   show m<256 ^ k
   cases p using PS.on with
   | rd q r=>
    simp only [PS.num] at h
    split at h
    ·cases h
     have h1:=Jas (r.take k)
     have h2:256 ^ (r.take k).length<=256 ^ k:=Nat.pow_le_pow_right (by decide) (by rw [QB];omega)
     omega
    ·cases h
   | wr d=>
    simp only [PS.num] at h
    split at h
    ·rename_i hx
     cases h
     rw [Nat.div_eq_zero_iff] at hx
     have e:(256:Nat) ^ k=2 ^ (8 * k):=by rw [Nat.pow_mul]
     rcases hx with hx | hx
     ·have:0<2 ^ (8 * k):=Nat.pow_pos (by decide);omega
     ·omega
    ·cases h
theorem Zq (E:Nat->Addr) (b:Nat) (g:Option Nat) (wd:Int) (x n:Nat) (st:Option PS) (w:World) (hE:Env E w) (hp:Je E w b g wd st) (h8:n<=8) (hd:JK st<=10000000000000):
  Calls prog 138 #[.pointer (some ⟨b,0,none⟩),.int .u64 (x:Int),.int .i64 (n:Int)] w λe w'=>e=.returned (.int .u64 ((Jz x n st).1:Int))/\StTo E w w' b g wd (Jz x n st).2:=by
 unfold Jz
 cases st with
 | none=>
  obtain ⟨p,t,u,h1,h2⟩:=hp
  refine (ZF b g wd _ _ p t u w h1).mono ?_
  rintro e w' ⟨rfl,rfl⟩
  exact ⟨rfl,g,⟨p,t,u,h1,h2⟩,.inl rfl,Te _ _⟩
 | some p=>
  simp only [Qu]
  cases h:p.num x n with
  | none=>
   refine (Yx E b g wd x n p w hE hp h8 hd h).mono ?_
   rintro e w' ⟨rfl,h1,h2⟩
   exact ⟨rfl,g,⟨p,_,_,h1,.base⟩,.inl rfl,h2.mono (λ_ h=>.inl (.inl h))⟩
  | some r=>
   obtain ⟨m,p'⟩:=r
   exact (Xk b g wd x n m p p' w hp h8 hd h).mono λe w' ⟨h1,h2⟩=>⟨h1,h2⟩
theorem Jej (E:Nat->Addr) (b:Nat) (g:Option Nat) (wd:Int) (s:BA) (n:Nat) (st:Option PS) (w:World) (hE:Env E w) (hp:Je E w b g wd st) (hd:JK st+n<=10000000000000):
  Calls prog 209 #[.pointer (some ⟨b,0,none⟩),.string s,.int .i64 (n:Int)] w λe w'=>e=.returned (.string ⟨(Ji s.data.toList n st).1.toArray⟩)/\StTo E w w' b g wd (Ji s.data.toList n st).2:=by
 unfold Ji
 cases st with
 | none=>
  obtain ⟨p,t,u,h1,h2⟩:=hp
  refine (Jfz b g wd _ _ p t u w h1).mono ?_
  rintro e w' ⟨rfl,rfl⟩
  exact ⟨rfl,g,⟨p,t,u,h1,h2⟩,.inl rfl,Te _ _⟩
 | some p=>
  simp only [Qu]
  cases h:p.txt s.data.toList n with
  | none=>
   refine (JdC E b g wd s n p w hE hp (by simp only [JK] at hd;omega) h).mono ?_
   rintro e w' ⟨rfl,h1,h2⟩
   exact ⟨rfl,g,⟨p,_,_,h1,.base⟩,.inl rfl,h2.mono (λ_ h=>.inl (.inl h))⟩
  | some r=>
   obtain ⟨m,p'⟩:=r
   exact (Zx b g wd s n m p p' w hp hd h).mono λe w' ⟨h1,h2⟩=>⟨h1,h2⟩
theorem Zs (E:Nat->Addr) (b:Nat) (g:Option Nat) (wd:Int) (s:BA) (st:Option PS) (w:World) (hE:Env E w) (hp:Je E w b g wd st):
  Calls prog 200 #[.pointer (some ⟨b,0,none⟩),.string s] w λe w'=>e=.returned (.tuple #[])/\StTo E w w' b g wd none:=by
 cases st with
 | none=>
  obtain ⟨p,t,u,h1,h2⟩:=hp
  refine (JaL b g wd _ p t u w h1).mono ?_
  rintro e w' ⟨rfl,rfl⟩
  exact ⟨rfl,g,⟨p,t,u,h1,h2⟩,.inl rfl,Te _ _⟩
 | some p=>
  refine (Jcu E b g wd s p w hE hp).mono ?_
  rintro e w' ⟨rfl,h1,h2,h3⟩
  exact ⟨rfl,g,⟨p,_,_,h1,h2⟩,.inl rfl,h3.mono (λ_ h=>.inl (.inl h))⟩
theorem Yn (E:Nat->Addr) (b:Nat) (g:Option Nat) (wd:Nat) (s:BA) (st:Option PS) (w:World) (hE:Env E w) (hp:Je E w b g wd st) (hd:JK st+wd<=10000000000000):
  Calls prog 139 #[.pointer (some ⟨b,0,none⟩),.string s] w λe w'=>e=.returned (.string ⟨(Ji s.data.toList wd st).1.toArray⟩)/\StTo E w w' b g wd (Ji s.data.toList wd st).2:=by
 have c1:=hp.width
 have HC:Hid (Calls prog 209 _ w _):=Jej E b g wd s wd st w hE hp hd
 go_enter func139,ntmps139
 go_wp2_with fail
 refine HC.o.mono ?_
 rintro _ w1 ⟨rfl,h⟩
 have HS:Hid _:=h
 go_wp2
 go_ret
 exact ⟨rfl,HS⟩


structure Rt {α:Type} (fw fr:PS->Option (α×PS)) (y:α) (bs:List UInt8):Prop where
 wr:∀d,fw (.wr d)=some (y,.wr (d++bs))
 rd:∀q r,fr (.rd q (bs++r))=some (y,.rd (q++bs) r)
 cut:∀q j,j<bs.length->fr (.rd q (bs.take j))=none
theorem Rt.ret {α:Type} (y:α) (fw fr:PS->Option (α×PS)) (hw:∀p,fw p=some (y,p)) (hr:∀p,fr p=some (y,p)):Rt fw fr y []:=
 ⟨λd=>by rw [hw,QC],λq r=>by rw [QC];exact hr _,λq j hj=>absurd hj (by simp)⟩
theorem Rt.bind {α β:Type} {f f':PS->Option (α×PS)} {K K':α->PS->Option (β×PS)} {F F':PS->Option (β×PS)} {a:α} {y:β} {b1 b2:List UInt8}
  (hf:Rt f f' a b1) (hk:Rt (K a) (K' a) y b2) (hF:∀p,F p=(f p).bind λq=>K q.1 q.2) (hF':∀p,F' p=(f' p).bind λq=>K' q.1 q.2):Rt F F' y (b1++b2):=by
 refine ⟨λd=>?_,λq r=>?_,λq j hj=>?_⟩
 ·rw [hF,hf.wr];simp only [Qu];rw [hk.wr,Qs]
 ·rw [hF',Qs,hf.rd];simp only [Qu];rw [hk.rd,Qs]
 ·rw [hF']
  by_cases h:j<b1.length
  ·rw [List.take_append_of_le_length (by omega),hf.cut q j h];rfl
  ·have e:(b1++b2).take j=b1++b2.take (j - b1.length):=by rw [List.take_append];rw [QQ (by omega)]
   rw [e,hf.rd];simp only [Qu]
   exact hk.cut _ _ (by rw [Qe] at hj;omega)
theorem JaV (x k:Nat) (h:x<2 ^ (8 * k)):∀j,j<=k->numL (beL x k j)=x / 2 ^ (8 * (k - j)):=by
 intro j
 induction j with
 | zero=>intro _;simp only [beL,Nat.sub_zero];rw [Nat.div_eq_of_lt h];rfl
 | succ j ih=>
  intro hj
  simp only [beL]
  rw [YN,ih (by omega)]
  have e:8 * (k - j)=8 * (k - 1 - j)+8:=by omega
  have e2:k - (j+1)=k - 1 - j:=by omega
  rw [e,e2,Nat.pow_add,<-Nat.div_div_eq_div_mul]
  generalize x / 2 ^ (8 * (k - 1 - j))=y
  rw [UInt8.toNat_ofNat']
  omega
theorem XM (x k z:Nat) (h:x<2 ^ (8 * k)):Rt (PS.num x k) (PS.num z k) x (beL x k k):=by
 have hn:numL (beL x k k)=x:=by rw [JaV x k h k (Ql _),Nat.sub_self];simp
 have hl:=Jg x k k
 refine ⟨λd=>?_,λq r=>?_,λq j hj=>?_⟩
 ·simp only [PS.num];rw [if_pos (Nat.div_eq_of_lt h)]
 ·simp only [PS.num,Qe];rw [if_pos (by omega)]
  rw [List.take_append_of_le_length (by omega),QQ (by omega),hn,List.drop_append_of_le_length (by omega),List.drop_eq_nil_of_le (by omega)];rfl
 ·simp only [PS.num];rw [if_neg (by rw [QB];omega)]
theorem Zj (s z:List UInt8) (k:Nat) (h:s.length=k):Rt (PS.txt s k) (PS.txt z k) s s:=by
 refine ⟨λd=>?_,λq r=>?_,λq j hj=>?_⟩
 ·simp only [PS.txt];rw [if_pos h]
 ·simp only [PS.txt,Qe];rw [if_pos (by omega)]
  rw [List.take_append_of_le_length (by omega),QQ (by omega),List.drop_append_of_le_length (by omega),List.drop_eq_nil_of_le (by omega)];rfl
 ·simp only [PS.txt];rw [if_neg (by rw [QB];omega)]

def outB (o:Nat×Nat):List UInt8:=beL o.1 8 8++beL o.2 1 1
def Jr (o:Nat×Nat):Prop:=o.1<2 ^ 64/\o.2<256
def Jd (c:BA×Int):List UInt8:=c.1.data.toList++beL (JC c.2) 1 1
def Jk (wd:Nat) (c:BA×Int):Prop:=c.1.size=wd/\0<=c.2/\c.2<3
theorem Jed (o:Nat×Nat) (z1 z2:Nat) (h:Jr o):Rt (PS.out o.1 o.2) (PS.out z1 z2) o (outB o):=by
 refine Rt.bind (K:=λa p=>(p.num o.2 1).bind λq=>some ((a,q.1),q.2)) (K':=λa p=>(p.num z2 1).bind λq=>some ((a,q.1),q.2)) (XM o.1 8 z1 (by have:=h.1;omega)) ?_ ?_ ?_
 ·have:=Rt.bind (F:=λp=>(p.num o.2 1).bind λq=>some ((o.1,q.1),q.2)) (F':=λp=>(p.num z2 1).bind λq=>some ((o.1,q.1),q.2)) (XM o.2 1 z2 (by have:=h.2;omega)) (Rt.ret o (λp=>some ((o.1,o.2),p)) (λp=>some ((o.1,o.2),p)) (λ_=>rfl) (λ_=>rfl)) (K:=λb p=>some ((o.1,b),p)) (K':=λb p=>some ((o.1,b),p)) (λ_=>rfl) (λ_=>rfl)
  rw [QC] at this;exact this
 ·intro p;unfold PS.out;cases p.num o.1 8 with
  | none=>rfl
  | some q=>obtain ⟨a,p1⟩:=q;simp only [Qu];cases p1.num o.2 1 <;> rfl
 ·intro p;unfold PS.out;cases p.num z1 8 with
  | none=>rfl
  | some q=>obtain ⟨a,p1⟩:=q;simp only [Qu];cases p1.num z2 1 <;> rfl
theorem Yv (n:Int) (h0:0<=n) (h:n<18446744073709551616):(JC n:Int)=n:=by unfold JC;omega
theorem JgY (wd:Nat) (c z:BA×Int) (h:Jk wd c):Rt (PS.coin wd c) (PS.coin wd z) c (Jd c):=by
 obtain ⟨h1,h2,h3⟩:=h
 have hx:=Yv c.2 h2 (by omega)
 have hx3:JC c.2<3:=by omega
 refine Rt.bind (K:=λt p=>(p.num (JC c.2) 1).bind λq=>if q.1<3 then some ((⟨t.toArray⟩,(q.1:Int)),q.2) else none) (K':=λt p=>(p.num (JC z.2) 1).bind λq=>if q.1<3 then some ((⟨t.toArray⟩,(q.1:Int)),q.2) else none) (Zj c.1.data.toList z.1.data.toList wd (by rw [<-h1];simp)) ?_ ?_ ?_
 ·have:=Rt.bind (F:=λp=>(p.num (JC c.2) 1).bind λq=>if q.1<3 then some (((⟨c.1.data.toList.toArray⟩:BA),(q.1:Int)),q.2) else none) (F':=λp=>(p.num (JC z.2) 1).bind λq=>if q.1<3 then some (((⟨c.1.data.toList.toArray⟩:BA),(q.1:Int)),q.2) else none) (XM (JC c.2) 1 (JC z.2) (by omega)) (Rt.ret c (λp=>if JC c.2<3 then some (((⟨c.1.data.toList.toArray⟩:BA),(JC c.2:Int)),p) else none) (λp=>if JC c.2<3 then some (((⟨c.1.data.toList.toArray⟩:BA),(JC c.2:Int)),p) else none) (λp=>by rw [if_pos hx3,hx]) (λp=>by rw [if_pos hx3,hx])) (K:=λ(b:Nat) p=>if b<3 then some ((⟨c.1.data.toList.toArray⟩,(b:Int)),p) else none) (K':=λ(b:Nat) p=>if b<3 then some ((⟨c.1.data.toList.toArray⟩,(b:Int)),p) else none) (λ_=>rfl) (λ_=>rfl)
  rw [QC] at this;exact this
 ·intro p;unfold PS.coin;cases p.txt c.1.data.toList wd with
  | none=>rfl
  | some q=>obtain ⟨a,p1⟩:=q;simp only [Qu];cases p1.num (JC c.2) 1 <;> rfl
 ·intro p;unfold PS.coin;cases p.txt z.1.data.toList wd with
  | none=>rfl
  | some q=>obtain ⟨a,p1⟩:=q;simp only [Qu];cases p1.num (JC z.2) 1 <;> rfl
theorem Jk2:∀(l:List (Nat×Nat)),(∀x∈l,Jr x)->Rt (PS.outs l) (PS.outs (List.replicate l.length (0,0))) l (l.flatMap outB):=by
 intro l
 induction l with
 | nil=>intro _;exact Rt.ret [] _ _ (λ_=>rfl) (λ_=>rfl)
 | cons x r ih=>
  intro h
  have hr:=ih (λy hy=>h y (QO _ hy))
  rw [QG]
  refine Rt.bind (K:=λy p=>(PS.outs r p).bind λq=>some (y :: q.1,q.2)) (K':=λy p=>(PS.outs (List.replicate r.length (0,0)) p).bind λq=>some (y :: q.1,q.2)) (Jed x 0 0 (h x QM)) ?_ ?_ ?_
  ·have:=Rt.bind (F:=λp=>(PS.outs r p).bind λq=>some (x :: q.1,q.2)) (F':=λp=>(PS.outs (List.replicate r.length (0,0)) p).bind λq=>some (x :: q.1,q.2)) hr (Rt.ret (x :: r) (λp=>some (x :: r,p)) (λp=>some (x :: r,p)) (λ_=>rfl) (λ_=>rfl)) (K:=λb p=>some (x :: b,p)) (K':=λb p=>some (x :: b,p)) (λ_=>rfl) (λ_=>rfl)
   rw [QC] at this;exact this
  ·intro p;simp only [PS.outs];cases p.out x.1 x.2 with
   | none=>rfl
   | some q=>obtain ⟨a,p1⟩:=q;simp only [Qu];cases PS.outs r p1 <;> rfl
  ·intro p;simp only [Qp,List.replicate_succ,PS.outs];cases p.out 0 0 with
   | none=>rfl
   | some q=>obtain ⟨a,p1⟩:=q;simp only [Qu];cases PS.outs (List.replicate r.length (0,0)) p1 <;> rfl
theorem JjS (wd:Nat):∀(l:List (BA×Int)),(∀x∈l,Jk wd x)->Rt (PS.coins wd l) (PS.coins wd (List.replicate l.length (⟨#[]⟩,0))) l (l.flatMap Jd):=by
 intro l
 induction l with
 | nil=>intro _;exact Rt.ret [] _ _ (λ_=>rfl) (λ_=>rfl)
 | cons x r ih=>
  intro h
  have hr:=ih (λy hy=>h y (QO _ hy))
  rw [QG]
  refine Rt.bind (K:=λy p=>(PS.coins wd r p).bind λq=>some (y :: q.1,q.2)) (K':=λy p=>(PS.coins wd (List.replicate r.length (⟨#[]⟩,0)) p).bind λq=>some (y :: q.1,q.2)) (JgY wd x (⟨#[]⟩,0) (h x QM)) ?_ ?_ ?_
  ·have:=Rt.bind (F:=λp=>(PS.coins wd r p).bind λq=>some (x :: q.1,q.2)) (F':=λp=>(PS.coins wd (List.replicate r.length (⟨#[]⟩,0)) p).bind λq=>some (x :: q.1,q.2)) hr (Rt.ret (x :: r) (λp=>some (x :: r,p)) (λp=>some (x :: r,p)) (λ_=>rfl) (λ_=>rfl)) (K:=λb p=>some (x :: b,p)) (K':=λb p=>some (x :: b,p)) (λ_=>rfl) (λ_=>rfl)
   rw [QC] at this;exact this
  ·intro p;simp only [PS.coins];cases p.coin wd x with
   | none=>rfl
   | some q=>obtain ⟨a,p1⟩:=q;simp only [Qu];cases PS.coins wd r p1 <;> rfl
  ·intro p;simp only [Qp,List.replicate_succ,PS.coins];cases p.coin wd (⟨#[]⟩,0) with
   | none=>rfl
   | some q=>obtain ⟨a,p1⟩:=q;simp only [Qu];cases PS.coins wd (List.replicate r.length (⟨#[]⟩,0)) p1 <;> rfl
def Xn (l:List (Nat×Nat)):List UInt8:=beL l.length 1 1++l.flatMap outB
def JdX (l:List (BA×Int)):List UInt8:=beL l.length 1 1++l.flatMap Jd
theorem Jcy (least most:Nat) (l:List (Nat×Nat)) (h:∀x∈l,Jr x) (h1:least<=l.length) (h2:l.length<=most) (h3:l.length<256):Rt (PS.listO least most l) (PS.listO least most []) l (Xn l):=by
 have hg:¬(l.length<least\/most<l.length):=by omega
 refine Rt.bind (K:=λcnt p=>if cnt<least\/most<cnt then none else PS.outs (YD l cnt) p) (K':=λcnt p=>if cnt<least\/most<cnt then none else PS.outs (YD [] cnt) p) (XM l.length 1 0 (by omega)) ?_ ?_ ?_
 ·have hs:YD l l.length=l:=by unfold YD;split <;> simp_all
  have hz:YD [] l.length=List.replicate l.length (0,0):=rfl
  simp only [hg,if_false,hs,hz]
  exact Jk2 l h
 ·intro p;unfold PS.listO;cases p.num l.length 1 <;> rfl
 ·intro p;unfold PS.listO;simp only [Qv];cases p.num 0 1 <;> rfl
theorem JjT (wd least most:Nat) (l:List (BA×Int)) (h:∀x∈l,Jk wd x) (h1:least<=l.length) (h2:l.length<=most) (h3:l.length<256):Rt (PS.listC wd least most l) (PS.listC wd least most []) l (JdX l):=by
 have hg:¬(l.length<least\/most<l.length):=by omega
 refine Rt.bind (K:=λcnt p=>if cnt<least\/most<cnt then none else PS.coins wd (YC l cnt) p) (K':=λcnt p=>if cnt<least\/most<cnt then none else PS.coins wd (YC [] cnt) p) (XM l.length 1 0 (by omega)) ?_ ?_ ?_
 ·have hs:YC l l.length=l:=by unfold YC;split <;> simp_all
  have hz:YC [] l.length=List.replicate l.length (⟨#[]⟩,0):=rfl
  simp only [hg,if_false,hs,hz]
  exact JjS wd l h
 ·intro p;unfold PS.listC;cases p.num l.length 1 <;> rfl
 ·intro p;unfold PS.listC;simp only [Qv];cases p.num 0 1 <;> rfl
def txB (t:TxL):List UInt8:=JdX t.1++Xn t.2
structure TxOk (wd:Nat) (t:TxL):Prop where
 coins:∀x∈t.1,Jk wd x
 outs:∀x∈t.2,Jr x
 one:1<=t.1.length
 ins:t.1.length<=3
 made:t.2.length<=3
theorem Jls (wd:Nat) (t:TxL) (h:TxOk wd t):Rt (PS.tx wd t) (PS.tx wd ([],[])) t (txB t):=by
 refine Rt.bind (K:=λys p=>(p.listO 0 3 t.2).bind λq=>some ((ys,q.1),q.2)) (K':=λys p=>(p.listO 0 3 []).bind λq=>some ((ys,q.1),q.2)) (JjT wd 1 3 t.1 h.coins h.one h.ins (by have:=h.ins;omega)) ?_ ?_ ?_
 ·have:=Rt.bind (F:=λp=>(p.listO 0 3 t.2).bind λq=>some ((t.1,q.1),q.2)) (F':=λp=>(p.listO 0 3 []).bind λq=>some ((t.1,q.1),q.2)) (Jcy 0 3 t.2 h.outs (by omega) h.made (by have:=h.made;omega)) (Rt.ret t (λp=>some ((t.1,t.2),p)) (λp=>some ((t.1,t.2),p)) (λ_=>rfl) (λ_=>rfl)) (K:=λb p=>some ((t.1,b),p)) (K':=λb p=>some ((t.1,b),p)) (λ_=>rfl) (λ_=>rfl)
  rw [QC] at this;exact this
 ·intro p;unfold PS.tx;cases p.listC wd 1 3 t.1 with
  | none=>rfl
  | some q=>obtain ⟨a,p1⟩:=q;simp only [Qu];cases p1.listO 0 3 t.2 <;> rfl
 ·intro p;unfold PS.tx;simp only;cases p.listC wd 1 3 [] with
  | none=>rfl
  | some q=>obtain ⟨a,p1⟩:=q;simp only [Qu];cases p1.listO 0 3 [] <;> rfl
theorem JlY (wd:Nat):∀(l:List TxL),(∀x∈l,TxOk wd x)->Rt (PS.txs wd l) (PS.txs wd (List.replicate l.length ([],[]))) l (l.flatMap txB):=by
 intro l
 induction l with
 | nil=>intro _;exact Rt.ret [] _ _ (λ_=>rfl) (λ_=>rfl)
 | cons x r ih=>
  intro h
  have hr:=ih (λy hy=>h y (QO _ hy))
  rw [QG]
  refine Rt.bind (K:=λy p=>(PS.txs wd r p).bind λq=>some (y :: q.1,q.2)) (K':=λy p=>(PS.txs wd (List.replicate r.length ([],[])) p).bind λq=>some (y :: q.1,q.2)) (Jls wd x (h x QM)) ?_ ?_ ?_
  ·have:=Rt.bind (F:=λp=>(PS.txs wd r p).bind λq=>some (x :: q.1,q.2)) (F':=λp=>(PS.txs wd (List.replicate r.length ([],[])) p).bind λq=>some (x :: q.1,q.2)) hr (Rt.ret (x :: r) (λp=>some (x :: r,p)) (λp=>some (x :: r,p)) (λ_=>rfl) (λ_=>rfl)) (K:=λb p=>some (x :: b,p)) (K':=λb p=>some (x :: b,p)) (λ_=>rfl) (λ_=>rfl)
   rw [QC] at this;exact this
  ·intro p;simp only [PS.txs];cases p.tx wd x with
   | none=>rfl
   | some q=>obtain ⟨a,p1⟩:=q;simp only [Qu];cases PS.txs wd r p1 <;> rfl
  ·intro p;simp only [Qp,List.replicate_succ,PS.txs];cases p.tx wd ([],[]) with
   | none=>rfl
   | some q=>obtain ⟨a,p1⟩:=q;simp only [Qu];cases PS.txs wd (List.replicate r.length ([],[])) p1 <;> rfl
def Xe (ts:List TxL):List UInt8:=beL ts.length 1 1++ts.flatMap txB
theorem Jeb (wd:Nat) (ts:List TxL) (h:∀t∈ts,TxOk wd t) (h3:ts.length<=3):Rt (PS.body wd ts) (PS.body wd []) ts (Xe ts):=by
 have hg:¬3<ts.length:=by omega
 refine Rt.bind (K:=λcnt p=>if 3<cnt then none else PS.txs wd (ZK ts cnt) p) (K':=λcnt p=>if 3<cnt then none else PS.txs wd (ZK [] cnt) p) (XM ts.length 1 0 (by omega)) ?_ ?_ ?_
 ·have hs:ZK ts ts.length=ts:=by unfold ZK;split <;> simp_all
  have hz:ZK [] ts.length=List.replicate ts.length ([],[]):=rfl
  simp only [hg,if_false,hs,hz]
  exact JlY wd ts h
 ·intro p;unfold PS.body;cases p.num ts.length 1 <;> rfl
 ·intro p;unfold PS.body;simp only [Qv];cases p.num 0 1 <;> rfl
abbrev HdL:=Nat×BA×BA×BA
def hdrB (h:HdL):List UInt8:=beL h.1 4 4++(h.2.1.data.toList++(h.2.2.1.data.toList++h.2.2.2.data.toList))
structure HdOk (wd:Nat) (h:HdL):Prop where
 height:h.1<2 ^ 32
 a:h.2.1.size=wd
 b:h.2.2.1.size=wd
 c:h.2.2.2.size=wd
theorem Jec (wd:Nat) (h z:HdL) (hk:HdOk wd h):Rt (PS.hdr wd h) (PS.hdr wd z) h (hdrB h):=by
 obtain ⟨k1,k2,k3,k4⟩:=hk
 obtain ⟨n,a,b,c⟩:=h
 have r3:=Rt.bind (F:=λp=>(p.txt c.data.toList wd).bind λq=>some (((n,a,b,(⟨q.1.toArray⟩:BA)):HdL),q.2)) (F':=λp=>(p.txt z.2.2.2.data.toList wd).bind λq=>some ((n,a,b,(⟨q.1.toArray⟩:BA)),q.2)) (Zj c.data.toList z.2.2.2.data.toList wd (by rw [<-k4];simp)) (Rt.ret (n,a,b,c) (λp=>some ((n,a,b,c),p)) (λp=>some ((n,a,b,c),p)) (λ_=>rfl) (λ_=>rfl)) (K:=λt p=>some ((n,a,b,⟨t.toArray⟩),p)) (K':=λt p=>some ((n,a,b,⟨t.toArray⟩),p)) (λ_=>rfl) (λ_=>rfl)
 rw [QC] at r3
 have r2:=Rt.bind (F:=λp=>(p.txt b.data.toList wd).bind λq1=>(q1.2.txt c.data.toList wd).bind λq=>some (((n,a,(⟨q1.1.toArray⟩:BA),(⟨q.1.toArray⟩:BA)):HdL),q.2)) (F':=λp=>(p.txt z.2.2.1.data.toList wd).bind λq1=>(q1.2.txt z.2.2.2.data.toList wd).bind λq=>some ((n,a,(⟨q1.1.toArray⟩:BA),(⟨q.1.toArray⟩:BA)),q.2)) (Zj b.data.toList z.2.2.1.data.toList wd (by rw [<-k3];simp)) r3 (K:=λt p=>(p.txt c.data.toList wd).bind λq=>some ((n,a,(⟨t.toArray⟩:BA),(⟨q.1.toArray⟩:BA)),q.2)) (K':=λt p=>(p.txt z.2.2.2.data.toList wd).bind λq=>some ((n,a,(⟨t.toArray⟩:BA),(⟨q.1.toArray⟩:BA)),q.2)) (λ_=>rfl) (λ_=>rfl)
 have r1:=Rt.bind (F:=λp=>(p.txt a.data.toList wd).bind λq2=>(q2.2.txt b.data.toList wd).bind λq1=>(q1.2.txt c.data.toList wd).bind λq=>some (((n,(⟨q2.1.toArray⟩:BA),(⟨q1.1.toArray⟩:BA),(⟨q.1.toArray⟩:BA)):HdL),q.2)) (F':=λp=>(p.txt z.2.1.data.toList wd).bind λq2=>(q2.2.txt z.2.2.1.data.toList wd).bind λq1=>(q1.2.txt z.2.2.2.data.toList wd).bind λq=>some ((n,(⟨q2.1.toArray⟩:BA),(⟨q1.1.toArray⟩:BA),(⟨q.1.toArray⟩:BA)),q.2)) (Zj a.data.toList z.2.1.data.toList wd (by rw [<-k2];simp)) r2 (K:=λt p=>(p.txt b.data.toList wd).bind λq1=>(q1.2.txt c.data.toList wd).bind λq=>some ((n,(⟨t.toArray⟩:BA),(⟨q1.1.toArray⟩:BA),(⟨q.1.toArray⟩:BA)),q.2)) (K':=λt p=>(p.txt z.2.2.1.data.toList wd).bind λq1=>(q1.2.txt z.2.2.2.data.toList wd).bind λq=>some ((n,(⟨t.toArray⟩:BA),(⟨q1.1.toArray⟩:BA),(⟨q.1.toArray⟩:BA)),q.2)) (λ_=>rfl) (λ_=>rfl)
 refine Rt.bind (XM n 4 z.1 (by simp only at k1;omega)) r1 (K:=λm p=>(p.txt a.data.toList wd).bind λq2=>(q2.2.txt b.data.toList wd).bind λq1=>(q1.2.txt c.data.toList wd).bind λq=>some ((m,(⟨q2.1.toArray⟩:BA),(⟨q1.1.toArray⟩:BA),(⟨q.1.toArray⟩:BA)),q.2)) (K':=λm p=>(p.txt z.2.1.data.toList wd).bind λq2=>(q2.2.txt z.2.2.1.data.toList wd).bind λq1=>(q1.2.txt z.2.2.2.data.toList wd).bind λq=>some ((m,(⟨q2.1.toArray⟩:BA),(⟨q1.1.toArray⟩:BA),(⟨q.1.toArray⟩:BA)),q.2)) ?_ ?_
 ·intro p;unfold PS.hdr;simp only;cases p.num n 4 with
  | none=>rfl
  | some q=>obtain ⟨x,p1⟩:=q;simp only [Qu];cases p1.txt a.data.toList wd with
   | none=>rfl
   | some q=>obtain ⟨x,p1⟩:=q;simp only [Qu];cases p1.txt b.data.toList wd with
    | none=>rfl
    | some q=>obtain ⟨x,p1⟩:=q;simp only [Qu];cases p1.txt c.data.toList wd <;> rfl
 ·intro p;unfold PS.hdr;cases p.num z.1 4 with
  | none=>rfl
  | some q=>obtain ⟨x,p1⟩:=q;simp only [Qu];cases p1.txt z.2.1.data.toList wd with
   | none=>rfl
   | some q=>obtain ⟨x,p1⟩:=q;simp only [Qu];cases p1.txt z.2.2.1.data.toList wd with
    | none=>rfl
    | some q=>obtain ⟨x,p1⟩:=q;simp only [Qu];cases p1.txt z.2.2.2.data.toList wd <;> rfl


def bt (k:List UInt8) (i:Nat):Nat:=(k.getD (i / 8) 0).toNat / 2 ^ (7 - i % 8) % 2
theorem YA (k:List UInt8) (i:Nat):bt k i<2:=Nat.mod_lt _ (by decide)
abbrev Key:=List UInt8
structure Tr where
 of ::
 v:(Key×(Nat×Nat)) ⊕ (Nat×Tr×Tr)
abbrev Tr.leaf (key:Key) (out:Nat×Nat):Tr:=⟨.inl (key,out)⟩
abbrev Tr.br (bit:Nat) (l r:Tr):Tr:=⟨.inr (bit,l,r)⟩
theorem Tr.ri {motive:Tr->Prop} (leaf:∀key out,motive (.leaf key out)) (br:∀bit l r,motive l->motive r->motive (.br bit l r)):∀t,motive t
 | ⟨.inl (k,o)⟩=>leaf k o
 | ⟨.inr (b,l,r)⟩=>br b l r (Tr.ri leaf br l) (Tr.ri leaf br r)
def Tr.coins:Tr->List (Key×(Nat×Nat))
 | ⟨.inl (k,o)⟩=>[(k,o)]
 | ⟨.inr (_,l,r)⟩=>l.coins++r.coins
def Tr.near (k:Key):Tr->Key×(Nat×Nat)
 | ⟨.inl (k',o)⟩=>(k',o)
 | ⟨.inr (b,l,r)⟩=>if bt k b=0 then l.near k else r.near k
def Tr.pair (n one:Tr) (b at_:Nat):Tr:=if at_=0 then .br b one n else .br b n one
def Tr.graft (k:Key) (o:Nat×Nat) (d:Nat):Tr->Tr
 | ⟨.inl (k',o')⟩=>Tr.pair (.leaf k' o') (.leaf k o) d (bt k d)
 | ⟨.inr (b,l,r)⟩=>if d<b then Tr.pair (.br b l r) (.leaf k o) d (bt k d) else if bt k b=0 then .br b (l.graft k o d) r else .br b l (r.graft k o d)
def Tr.cut (k:Key):Tr->Option Tr
 | ⟨.inl (_,_)⟩=>none
 | ⟨.inr (b,l,r)⟩=>if bt k b=0 then (match l.cut k with | none=>some r | some l'=>some (.br b l' r)) else (match r.cut k with | none=>some l | some r'=>some (.br b l r'))
def Tr.Wf:Tr->Prop
 | ⟨.inl (_,_)⟩=>True
 | ⟨.inr (b,l,r)⟩=>l.Wf/\r.Wf/\(∀x∈l.coins,bt x.1 b=0)/\(∀x∈r.coins,bt x.1 b=1)/\∀x∈l.coins++r.coins,∀y∈l.coins++r.coins,∀i,i<b->bt x.1 i=bt y.1 i
theorem Tr.coins_ne (t:Tr):t.coins ≠ []:=by
 induction t using Tr.ri with
 | leaf=>simp [coins]
 | br b l r ihl ihr=>simp [coins,ihl]
theorem Tr.near_mem (k:Key) (t:Tr):t.near k∈t.coins:=by
 induction t using Tr.ri with
 | leaf=>simp [near,coins]
 | br b l r ihl ihr=>simp only [near,coins,QE];split <;> simp [*]
theorem Tr.near_of_mem (k:Key) (o:Nat×Nat) (t:Tr) (hw:t.Wf) (h:(k,o)∈t.coins):t.near k=(k,o):=by
 induction t using Tr.ri with
 | leaf=>simp only [coins,Qt] at h;rw [h];rfl
 | br b l r ihl ihr=>
  obtain ⟨w1,w2,h0,h1,_⟩:=hw
  simp only [coins,QE] at h
  simp only [near]
  rcases h with h | h
  ·have:=h0 _ h;simp only at this;rw [if_pos this];exact ihl w1 h
  ·have:=h1 _ h;simp only at this;rw [if_neg (by omega)];exact ihr w2 h
theorem Tr.graft_ok (k:Key) (o:Nat×Nat) (d:Nat) (t:Tr) (hw:t.Wf) (hd:bt k d ≠ bt (t.near k).1 d) (hi:∀i,i<d->bt k i=bt (t.near k).1 i):
  (t.graft k o d).Wf/\(∀x,x∈(t.graft k o d).coins↔x=(k,o)\/x∈t.coins)/\(t.graft k o d).coins.length=t.coins.length+1:=by
 have hpair:∀n:Tr,n.Wf->(∀x∈n.coins,bt x.1 d ≠ bt k d)->(∀x∈n.coins,∀i,i<d->bt x.1 i=bt k i)->(Tr.pair n (.leaf k o) d (bt k d)).Wf/\(∀x,x∈(Tr.pair n (.leaf k o) d (bt k d)).coins↔x=(k,o)\/x∈n.coins)/\(Tr.pair n (.leaf k o) d (bt k d)).coins.length=n.coins.length+1:=by
  intro n wn hn hs
  have k2:=YA k d
  unfold pair
  split
  ·refine ⟨⟨trivial,wn,?_,?_,?_⟩,?_,?_⟩
   ·intro x hx;simp only [coins,Qt] at hx;rw [hx];assumption
   ·intro x hx;have:=hn x hx;have:=YA x.1 d;omega
   ·intro x hx y hy i hid
    simp only [coins,QE,Qt] at hx hy
    have e1:bt x.1 i=bt k i:=by rcases hx with rfl | hx;rfl;exact hs x hx i hid
    have e2:bt y.1 i=bt k i:=by rcases hy with rfl | hy;rfl;exact hs y hy i hid
    rw [e1,e2]
   ·intro x;simp [coins]
   ·simp [coins]
  ·refine ⟨⟨wn,trivial,?_,?_,?_⟩,?_,?_⟩
   ·intro x hx;have:=hn x hx;have:=YA x.1 d;omega
   ·intro x hx;simp only [coins,Qt] at hx;rw [hx];simp only;omega
   ·intro x hx y hy i hid
    simp only [coins,QE,Qt] at hx hy
    have e1:bt x.1 i=bt k i:=by rcases hx with hx | rfl;exact hs x hx i hid;rfl
    have e2:bt y.1 i=bt k i:=by rcases hy with hy | rfl;exact hs y hy i hid;rfl
    rw [e1,e2]
   ·intro x;simp only [coins,QE,Qt];exact Or.comm
   ·simp [coins]
 induction t using Tr.ri with
 | leaf k' o'=>
  simp only [near] at hd hi
  exact hpair _ trivial (by intro x hx;simp only [coins,Qt] at hx;rw [hx];exact λe=>hd e.symm) (by intro x hx i hid;simp only [coins,Qt] at hx;rw [hx];exact (hi i hid).symm)
 | br b l r ihl ihr=>
  have hw':=hw
  obtain ⟨w1,w2,h0,h1,hs⟩:=hw
  simp only [graft]
  have hm:=near_mem k (.br b l r)
  split
  ·rename_i hdb
   refine hpair _ hw' ?_ ?_
   ·intro x hx e;exact hd (by rw [<-e];exact hs _ hx _ hm d hdb)
   ·intro x hx i hid;rw [hi i hid];exact hs _ hx _ hm i (by omega)
  ·rename_i hdb
   simp only [near] at hd hi hm
   have k2:=YA k b
   split
   ·rename_i hz
    simp only [hz,if_true] at hd hi hm
    obtain ⟨g1,g2,g3⟩:=ihl w1 hd hi
    have hnm:=near_mem k l
    have hne:b ≠ d:=by rintro rfl;exact hd (by rw [hz];exact (h0 _ hnm).symm)
    refine ⟨⟨g1,w2,?_,h1,?_⟩,?_,?_⟩
    ·intro x hx;rw [g2] at hx;rcases hx with rfl | hx
     ·exact hz
     ·exact h0 x hx
    ·have ek:∀x∈l.coins++r.coins,∀i,i<b->bt x.1 i=bt k i:=by
      intro x hx i hib
      rw [hi i (by omega)]
      exact hs _ hx _ (List.mem_append_left _ hnm) i hib
     intro x hx y hy i hib
     have e:∀x∈(l.graft k o d).coins++r.coins,bt x.1 i=bt k i:=by
      intro x hx
      simp only [QE,g2] at hx
      rcases hx with (rfl | hx) | hx
      ·rfl
      ·exact ek x (List.mem_append_left _ hx) i hib
      ·exact ek x (List.mem_append_right _ hx) i hib
     rw [e x hx,e y hy]
    ·intro x;simp only [coins,QE,g2];exact or_assoc
    ·simp only [coins,Qe,g3];omega
   ·rename_i hz
    simp only [hz,if_false] at hd hi hm
    obtain ⟨g1,g2,g3⟩:=ihr w2 hd hi
    have hnm:=near_mem k r
    have hne:b ≠ d:=by rintro rfl;exact hd (by rw [h1 _ hnm];omega)
    refine ⟨⟨w1,g1,h0,?_,?_⟩,?_,?_⟩
    ·intro x hx;rw [g2] at hx;rcases hx with rfl | hx
     ·simp only;omega
     ·exact h1 x hx
    ·have ek:∀x∈l.coins++r.coins,∀i,i<b->bt x.1 i=bt k i:=by
      intro x hx i hib
      rw [hi i (by omega)]
      exact hs _ hx _ (List.mem_append_right _ hnm) i hib
     intro x hx y hy i hib
     have e:∀x∈l.coins++(r.graft k o d).coins,bt x.1 i=bt k i:=by
      intro x hx
      simp only [QE,g2] at hx
      rcases hx with hx | rfl | hx
      ·exact ek x (List.mem_append_left _ hx) i hib
      ·rfl
      ·exact ek x (List.mem_append_right _ hx) i hib
     rw [e x hx,e y hy]
    ·intro x;simp only [coins,QE,g2];constructor
     ·rintro (h | h | h) <;> simp [h]
     ·rintro (h | h | h) <;> simp [h]
    ·simp only [coins,Qe,g3];omega
def JY:Option Tr->List (Key×(Nat×Nat))
 | none=>[]
 | some t=>t.coins
theorem Tr.cut_ok (k:Key) (t:Tr) (hw:t.Wf) (hk:(t.near k).1=k):
  (∀t',t.cut k=some t'->t'.Wf)/\(∀x,x∈JY (t.cut k)↔x∈t.coins/\x.1 ≠ k)/\(JY (t.cut k)).length+1=t.coins.length:=by
 induction t using Tr.ri with
 | leaf k' o'=>
  simp only [near] at hk
  subst hk
  refine ⟨λt' h=>by simp [cut] at h,λx=>?_,by simp [cut,JY,coins]⟩
  simp only [cut,JY,coins,Qt]
  constructor
  ·intro h;cases h
  ·rintro ⟨rfl,h⟩;exact absurd rfl h
 | br b l r ihl ihr=>
  obtain ⟨w1,w2,h0,h1,hs⟩:=hw
  simp only [near] at hk
  simp only [cut]
  split
  ·rename_i hz
   simp only [hz,if_true] at hk
   obtain ⟨g1,g2,g3⟩:=ihl w1 hk
   have hr:∀x∈r.coins,x.1 ≠ k:=by rintro x hx rfl;have:=h1 x hx;omega
   cases hc:l.cut k with
   | none=>
    rw [hc] at g1 g2 g3
    refine ⟨λt' h=>by simp only [Qh] at h;rw [<-h];exact w2,λx=>?_,by simp only [JY,coins,Qe,Qv] at g3 ⊢;omega⟩
    simp only [JY,coins,QE]
    constructor
    ·intro h;exact ⟨.inr h,hr x h⟩
    ·rintro ⟨h | h,hn⟩
     ·exact absurd ((g2 x).2 ⟨h,hn⟩) (by simp [JY])
     ·exact h
   | some l'=>
    rw [hc] at g1 g2 g3
    refine ⟨λt' h=>?_,λx=>?_,by simp only [JY,coins,Qe] at g3 ⊢;omega⟩
    ·simp only [Qh] at h
     rw [<-h]
     have hsub:∀x∈l'.coins++r.coins,x∈l.coins++r.coins:=by
      intro x hx;rw [QE] at hx ⊢;rcases hx with hx | hx
      ·exact .inl ((g2 x).1 hx).1
      ·exact .inr hx
     exact ⟨g1 l' rfl,w2,λx hx=>h0 x ((g2 x).1 hx).1,h1,λx hx y hy i hi=>hs x (hsub x hx) y (hsub y hy) i hi⟩
    ·have g2':=g2 x
     simp only [JY] at g2'
     simp only [JY,coins,QE,g2']
     constructor
     ·rintro (⟨h,hn⟩ | h)
      ·exact ⟨.inl h,hn⟩
      ·exact ⟨.inr h,hr x h⟩
     ·rintro ⟨h | h,hn⟩
      ·exact .inl ⟨h,hn⟩
      ·exact .inr h
  ·rename_i hz
   simp only [hz,if_false] at hk
   obtain ⟨g1,g2,g3⟩:=ihr w2 hk
   have hl:∀x∈l.coins,x.1 ≠ k:=by rintro x hx rfl;have:=h0 x hx;omega
   cases hc:r.cut k with
   | none=>
    rw [hc] at g1 g2 g3
    refine ⟨λt' h=>by simp only [Qh] at h;rw [<-h];exact w1,λx=>?_,by simp only [JY,coins,Qe,Qv] at g3 ⊢;omega⟩
    simp only [JY,coins,QE]
    constructor
    ·intro h;exact ⟨.inl h,hl x h⟩
    ·rintro ⟨h | h,hn⟩
     ·exact h
     ·exact absurd ((g2 x).2 ⟨h,hn⟩) (by simp [JY])
   | some r'=>
    rw [hc] at g1 g2 g3
    refine ⟨λt' h=>?_,λx=>?_,by simp only [JY,coins,Qe] at g3 ⊢;omega⟩
    ·simp only [Qh] at h
     rw [<-h]
     have hsub:∀x∈l.coins++r'.coins,x∈l.coins++r.coins:=by
      intro x hx;rw [QE] at hx ⊢;rcases hx with hx | hx
      ·exact .inl hx
      ·exact .inr ((g2 x).1 hx).1
     exact ⟨w1,g1 r' rfl,h0,λx hx=>h1 x ((g2 x).1 hx).1,λx hx y hy i hi=>hs x (hsub x hx) y (hsub y hy) i hi⟩
    ·have g2':=g2 x
     simp only [JY] at g2'
     simp only [JY,coins,QE,g2']
     constructor
     ·rintro (h | ⟨h,hn⟩)
      ·exact ⟨.inl h,hl x h⟩
      ·exact ⟨.inr h,hn⟩
     ·rintro ⟨h | h,hn⟩
      ·exact .inl h
      ·exact .inr ⟨h,hn⟩
def lz8 (x:UInt8):Nat:=if 128<=x.toNat then 0 else if 64<=x.toNat then 1 else if 32<=x.toNat then 2 else if 16<=x.toNat then 3 else if 8<=x.toNat then 4 else if 4<=x.toNat then 5 else if 2<=x.toNat then 6 else if 1<=x.toNat then 7 else 8
def fd:Key->Key->Nat
 | x :: a,y :: b=>if x=y then 8+fd a b else lz8 (x ^^^ y)
 | _,_=>0
theorem JlS:∀z:Fin 256,z ≠ 0->lz8 (UInt8.ofNat z.val)<8/\z.val / 2 ^ (7 - lz8 (UInt8.ofNat z.val)) % 2=1/\∀i:Fin 8,i.val<lz8 (UInt8.ofNat z.val)->z.val / 2 ^ (7 - i.val) % 2=0:=by decide +kernel
theorem JgL (x y i:Nat):(x ^^^ y) / 2 ^ i % 2=(x / 2 ^ i % 2+y / 2 ^ i % 2) % 2:=by
 have h:∀a:Nat,a / 2 ^ i % 2=(a.testBit i).toNat:=λa=>by rw [Nat.toNat_testBit]
 rw [h,h,h,Nat.testBit_xor]
 cases x.testBit i <;> cases y.testBit i <;> rfl
theorem Jjd:∀(a b:Key),a.length=b.length->a ≠ b->fd a b<8 * a.length/\bt a (fd a b) ≠ bt b (fd a b)/\∀i,i<fd a b->bt a i=bt b i:=by
 intro a
 induction a with
 | nil=>intro b h hn;cases b with
  | nil=>exact absurd rfl hn
  | cons=>simp at h
 | cons x a ih=>
  intro b h hn
  cases b with
  | nil=>simp at h
  | cons y b=>
   simp only [Qp,Nat.add_right_cancel_iff] at h
   have s1:∀(z:UInt8) (c:Key) (i:Nat),i<8->bt (z :: c) i=z.toNat / 2 ^ (7 - i) % 2:=by
    intro z c i hi;unfold bt;rw [Nat.div_eq_of_lt hi,Nat.mod_eq_of_lt hi];rfl
   have s2:∀(z:UInt8) (c:Key) (i:Nat),bt (z :: c) (8+i)=bt c i:=by
    intro z c i;unfold bt;rw [show (8+i) / 8=i / 8+1 by omega,show (8+i) % 8=i % 8 by omega];rfl
   simp only [fd]
   split
   ·rename_i e
    subst e
    obtain ⟨p1,p2,p3⟩:=ih b h (λe=>hn (by rw [e]))
    refine ⟨by simp only [Qp];omega,by rw [s2,s2];exact p2,λi hi=>?_⟩
    by_cases h8:i<8
    ·rw [s1 _ _ _ h8,s1 _ _ _ h8]
    ·obtain ⟨j,rfl⟩:∃j,i=8+j:=⟨i - 8,by omega⟩
     rw [s2,s2];exact p3 j (by omega)
   ·rename_i e
    have hz:(x ^^^ y).toNat ≠ 0:=by
     intro h0
     apply e
     rw [UInt8.toNat_xor] at h0
     apply UInt8.toNat_inj.1
     apply Nat.eq_of_testBit_eq
     intro i
     have:=congrArg (λn=>n.testBit i) h0
     simp only [Nat.testBit_xor,Nat.zero_testBit] at this
     revert this
     cases x.toNat.testBit i <;> cases y.toNat.testBit i <;> simp
    have hlt:(x ^^^ y).toNat<256:=UInt8.toNat_lt _
    obtain ⟨q1,q2,q3⟩:=JlS ⟨(x ^^^ y).toNat,hlt⟩ (λe=>hz (by have:=congrArg Fin.val e;exact this))
    rw [show UInt8.ofNat (⟨(x ^^^ y).toNat,hlt⟩:Fin 256).val=x ^^^ y from UInt8.ofNat_toNat] at q1 q2 q3
    simp only at q2 q3
    rw [UInt8.toNat_xor,JgL] at q2
    refine ⟨by simp only [Qp];omega,?_,λi hi=>?_⟩
    ·rw [s1 _ _ _ q1,s1 _ _ _ q1];omega
    ·have:=q3 ⟨i,by omega⟩ hi
     simp only at this
     rw [UInt8.toNat_xor,JgL] at this
     rw [s1 _ _ _ (by omega),s1 _ _ _ (by omega)];omega
