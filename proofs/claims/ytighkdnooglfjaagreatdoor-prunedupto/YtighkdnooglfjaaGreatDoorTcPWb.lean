import Derived.Test.YtighkdnooglfjaaGreatDoorTcKApp
import Derived.Test.YtighkdnooglfjaaGreatDoorTcTree6
namespace Go.Proofs.YtighkdnooglfjaaGreatDoor

def Yy (s:Stp):List UInt8:=beL s.1 2 2++s.2.data.toList
def endB:Option KO->List UInt8
 | none=>[]
 | some (k,o)=>k++outB o
def wayB (wy:Wy):List UInt8:=beL wy.1.length 2 2++(wy.1.flatMap Yy++endB wy.2)
def Jai (wd:Nat) (s:Stp):Prop:=s.1<8 * (wd+1)/\s.2.size=wd
structure WyOk (wd:Nat) (wy:Wy):Prop where
 steps:∀s∈wy.1,Jai wd s
 rise:YQ wy.1 wy.1.length
 len:wy.1.length<=8 * (wd+1)
 bare:wy.2=none->wy.1=[]
 key:∀x,wy.2=some x->x.1.length=wd+1/\(x.1.getD wd 0).toNat<3/\Jq x.2
theorem Jdx (x:BA):(⟨x.data.toList.toArray⟩:BA)=x:=by cases x;simp
theorem JlK {wd:Nat} (hw:wd<=1000) {s:Stp} (h:Jai wd s) (d:List UInt8):PS.step wd s (.wr d)=some (s,.wr (d++Yy s)):=by
 obtain ⟨h1,h2⟩:=h
 unfold PS.step
 rw [(XT s.1 2 0 (by omega)).wr]
 dsimp only
 rw [if_neg (by omega),(Zx s.2.data.toList [] wd (by rw [<-h2];simp)).wr]
 dsimp only
 rw [Jdx,Qs];rfl
theorem JlI {wd:Nat} (hw:wd<=1000) {s:Stp} (z:Stp) (h:Jai wd s) (q r:List UInt8):PS.step wd z (.rd q (Yy s++r))=some (s,.rd (q++Yy s) r):=by
 obtain ⟨h1,h2⟩:=h
 unfold PS.step Yy
 rw [Qs,(XT s.1 2 z.1 (by omega)).rd]
 dsimp only
 rw [if_neg (by omega),(Zx s.2.data.toList z.2.data.toList wd (by rw [<-h2];simp)).rd]
 dsimp only
 rw [Jdx,Qs]
theorem JkB {wd:Nat} (hw:wd<=1000):∀(l:List Stp) (_:∀s∈l,Jai wd s) (d:List UInt8),PS.many (Jbj wd).f l (.wr d)=some (l,.wr (d++l.flatMap Yy)):=by
 intro l
 induction l with
 | nil=>intro _ d;simp [PS.many]
 | cons s l ih=>
  intro h d
  simp only [PS.many,QG]
  rw [show (Jbj wd).f s (.wr d)=PS.step wd s (.wr d) from rfl,JlK hw (h s (by simp))]
  dsimp only
  rw [ih (λs hs=>h s (by simp [hs])),Qs]
theorem JkA {wd:Nat} (hw:wd<=1000):∀(l:List Stp) (_:∀s∈l,Jai wd s) (q r:List UInt8),PS.many (Jbj wd).f (List.replicate l.length (0,⟨#[]⟩)) (.rd q (l.flatMap Yy++r))=some (l,.rd (q++l.flatMap Yy) r):=by
 intro l
 induction l with
 | nil=>intro _ q r;simp [PS.many]
 | cons s l ih=>
  intro h q r
  simp only [Qp,List.replicate_succ,PS.many,QG,Qs]
  rw [show (Jbj wd).f ((0,⟨#[]⟩):Stp) _=PS.step wd ((0,⟨#[]⟩):Stp) _ from rfl,JlI hw _ (h s (by simp))]
  dsimp only
  rw [ih (λs hs=>h s (by simp [hs])),Qs]
theorem Jlt {wd:Nat} (hw:wd<=1000) (l:List Stp) (h:∀s∈l,Jai wd s) (hl:l.length<=8 * (wd+1)) (d:List UInt8):PS.lstS wd l (.wr d)=some (l,.wr (d++(beL l.length 2 2++l.flatMap Yy))):=by
 unfold PS.lstS PS.lst
 rw [(XT l.length 2 0 (by omega)).wr]
 dsimp only
 rw [if_neg (by omega)]
 have e:Jy ((0,⟨#[]⟩):Stp) l l.length=l:=by unfold Jy;cases l <;> simp
 rw [e,JkB hw l h,Qs]
theorem Jls {wd:Nat} (hw:wd<=1000) (l:List Stp) (h:∀s∈l,Jai wd s) (hl:l.length<=8 * (wd+1)) (q r:List UInt8):PS.lstS wd [] (.rd q (beL l.length 2 2++(l.flatMap Yy++r)))=some (l,.rd (q++(beL l.length 2 2++l.flatMap Yy)) r):=by
 unfold PS.lstS PS.lst
 rw [Qv,(XT l.length 2 0 (by omega)).rd]
 dsimp only
 rw [if_neg (by omega)]
 have e:Jy ((0,⟨#[]⟩):Stp) [] l.length=List.replicate l.length (0,⟨#[]⟩):=by simp [Jy]
 rw [e,JkA hw l h,Qs]
theorem Jm8 {wd:Nat} (k:BA) (o:Nat×Nat) (h1:k.data.toList.length=wd+1) (h2:(k.data.toList.getD wd 0).toNat<3) (h3:Jq o) (d:List UInt8):JI wd k o (some (.wr d))=((k.data.toList,o),some (.wr (d++(k.data.toList++outB o)))):=by
 have e1:=JK ((Zx k.data.toList [] (wd+1) h1).wr d)
 have e2:YO wd k.data.toList (some (.wr d))=(k.data.toList,some (.wr (d++k.data.toList))):=by unfold YO;rw [e1];dsimp only;rw [if_neg (by omega)]
 have e3:JE o.1 8 (some (.wr (d++k.data.toList)))=(o.1,some (.wr (d++k.data.toList++beL o.1 8 8))):=JX ((XT o.1 8 0 (by have:=h3.1;omega)).wr _)
 have e4:JE o.2 1 (some (.wr (d++k.data.toList++beL o.1 8 8)))=(o.2,some (.wr (d++k.data.toList++beL o.1 8 8++beL o.2 1 1))):=JX ((XT o.2 1 0 (by have:=h3.2;omega)).wr _)
 unfold JI stO
 rw [e2]
 dsimp only
 rw [e3]
 dsimp only
 rw [e4]
 simp [outB,List.append_assoc]
theorem Jm7 {wd:Nat} (k z:BA) (o y:Nat×Nat) (h1:k.data.toList.length=wd+1) (h2:(k.data.toList.getD wd 0).toNat<3) (h3:Jq o) (q r:List UInt8):JI wd z y (some (.rd q (k.data.toList++outB o++r)))=((k.data.toList,o),some (.rd (q++(k.data.toList++outB o)) r)):=by
 have e1:Jj z.data.toList (wd+1) (some (.rd q (k.data.toList++(outB o++r))))=(k.data.toList,some (.rd (q++k.data.toList) (outB o++r))):=JK ((Zx k.data.toList z.data.toList (wd+1) h1).rd q _)
 have e2:YO wd z.data.toList (some (.rd q (k.data.toList++(outB o++r))))=(k.data.toList,some (.rd (q++k.data.toList) (outB o++r))):=by unfold YO;rw [e1];dsimp only;rw [if_neg (by omega)]
 have e3:JE y.1 8 (some (.rd (q++k.data.toList) (outB o++r)))=(o.1,some (.rd (q++k.data.toList++beL o.1 8 8) (beL o.2 1 1++r))):=by unfold outB;rw [Qs];exact JX ((XT o.1 8 y.1 (by have:=h3.1;omega)).rd _ _)
 have e4:JE y.2 1 (some (.rd (q++k.data.toList++beL o.1 8 8) (beL o.2 1 1++r)))=(o.2,some (.rd (q++k.data.toList++beL o.1 8 8++beL o.2 1 1) r)):=JX ((XT o.2 1 y.2 (by have:=h3.2;omega)).rd _ _)
 unfold JI stO
 rw [Qs,e2]
 dsimp only
 rw [e3]
 dsimp only
 rw [e4]
 simp [outB,List.append_assoc]
def wyK (wy:Wy):BA:=match wy.2 with | none=>⟨#[]⟩ | some x=>⟨x.1.toArray⟩
def wyO (wy:Wy):Nat×Nat:=match wy.2 with | none=>(0,0) | some x=>x.2
theorem JmT {wd:Nat} (hw:wd<=1000) {wy:Wy} (h:WyOk wd wy) (d:List UInt8):PS.way wd wy.1 wy.2.isSome (wyK wy) (wyO wy) (.wr d)=some (wy,.wr (d++wayB wy)):=by
 obtain ⟨l,e⟩:=wy
 unfold PS.way
 rw [Jlt hw l h.steps h.len]
 dsimp only
 have hr:Xo l (some (PS.wr (d++(beL l.length 2 2++l.flatMap Yy))))=some (PS.wr (d++(beL l.length 2 2++l.flatMap Yy))):=by unfold Xo;rw [if_pos h.rise]
 rw [hr]
 cases e with
 | none=>
  obtain rfl:l=[]:=h.bare rfl
  rw [if_pos ⟨rfl,rfl⟩]
  simp [wayB,endB]
 | some x=>
  obtain ⟨k,o⟩:=x
  obtain ⟨h1,h2,h3⟩:=h.key _ rfl
  rw [if_neg (by simp [Zy])]
  have e1:=Jm8 (wd:=wd) ⟨k.toArray⟩ o h1 h2 h3 (d++(beL l.length 2 2++l.flatMap Yy))
  simp only [wyK,wyO]
  rw [e1]
  simp [wayB,endB,List.append_assoc]
theorem JmS {wd:Nat} (hw:wd<=1000) {wy:Wy} (h:WyOk wd wy) (k:BA) (o:Nat×Nat) (q:List UInt8):PS.way wd [] false k o (.rd q (wayB wy))=some (wy,.rd (q++wayB wy) []):=by
 obtain ⟨l,e⟩:=wy
 unfold PS.way
 have e0:wayB (l,e)=beL l.length 2 2++(l.flatMap Yy++endB e):=rfl
 rw [e0,Jls hw l h.steps h.len]
 dsimp only
 have hr:∀p,Xo l (some p)=some p:=λp=>by unfold Xo;rw [if_pos h.rise]
 rw [hr]
 cases e with
 | none=>
  obtain rfl:l=[]:=h.bare rfl
  rw [if_pos ⟨rfl,by simp [Zy,endB]⟩]
  simp [endB]
 | some x=>
  obtain ⟨k',o'⟩:=x
  obtain ⟨h1,h2,h3⟩:=h.key _ rfl
  rw [if_neg (by simp [Zy,endB];intro _ h;exact absurd h (by intro e;simp [e] at h1))]
  have e1:=Jm7 (wd:=wd) ⟨k'.toArray⟩ k o' o h1 h2 h3 (q++(beL l.length 2 2++l.flatMap Yy)) []
  simp only [QC] at e1
  simp only [endB]
  rw [e1]
  simp [List.append_assoc]
theorem Tr.bit_lt {b b':Nat} {l' r' t r:Tr} (ht:t=.br b' l' r') (h:(Tr.br b t r).Wf\/(Tr.br b r t).Wf):b<b':=by
 subst ht
 obtain ⟨x,hx⟩:=List.exists_mem_of_ne_nil _ (Tr.coins_ne l')
 obtain ⟨y,hy⟩:=List.exists_mem_of_ne_nil _ (Tr.coins_ne r')
 apply Nat.lt_of_not_le
 intro hle
 rcases h with ⟨⟨_,_,h0,h1,_⟩,_,k0,k1,k2⟩ | ⟨_,⟨_,_,h0,h1,_⟩,k0,k1,k2⟩
 ·have e0:=h0 x hx
  have e1:=h1 y hy
  by_cases he:b'=b
  ·subst he
   have:=k0 y (by simp [Tr.coins,hy])
   omega
  ·have:=k2 x (by simp [Tr.coins,hx]) y (by simp [Tr.coins,hy]) b' (by omega)
   omega
 ·have e0:=h0 x hx
  have e1:=h1 y hy
  by_cases he:b'=b
  ·subst he
   have:=k1 x (by simp [Tr.coins,hx])
   omega
  ·have:=k2 x (by simp [Tr.coins,hx]) y (by simp [Tr.coins,hy]) b' (by omega)
   omega
theorem JdR {s:Stp} {l:List Stp} (h:YQ l l.length) (hs:∀x,l.head? =some x->s.1<x.1):YQ (s :: l) (s :: l).length:=by
 intro i h1 h2 x y hx hy
 obtain ⟨j,rfl⟩:∃j,i=j+1:=⟨i - 1,by omega⟩
 simp only [Nat.add_sub_cancel,List.getElem?_cons_succ] at hx hy
 cases j with
 | zero=>
  simp only [List.getElem?_cons_zero,Qh] at hx
  subst hx
  exact hs y (by rw [List.head?_eq_getElem?];exact hy)
 | succ j=>
  simp only [List.getElem?_cons_succ] at hx
  exact h (j+1) (by omega) (by simp at h2;omega) x y (by simpa using hx) hy
theorem Tr.way_head (d:List UInt8->BA) (k:Key) (t:Tr) (x:Stp) (h:(t.way d k).1.head? =some x):∃l r,t=.br x.1 l r:=by
 cases t using Tr.ri with
 | leaf=>simp [way] at h
 | br b l r=>
  simp only [way] at h
  split at h
  ·simp at h;subst h;exact ⟨l,r,rfl⟩
  ·simp at h;subst h;exact ⟨l,r,rfl⟩
theorem Tr.way_rise (d:List UInt8->BA) (k:Key) (t:Tr) (hw:t.Wf):YQ (t.way d k).1 (t.way d k).1.length:=by
 induction t using Tr.ri with
 | leaf=>intro i h1 h2;simp [way] at h2
 | br b l r ihl ihr=>
  have hw':=hw
  obtain ⟨w1,w2,_⟩:=hw
  simp only [way]
  split
  ·refine JdR (ihl w1) (λx hx=>?_)
   obtain ⟨l',r',e⟩:=Tr.way_head d k l x hx
   exact Tr.bit_lt e (.inl hw')
  ·refine JdR (ihr w2) (λx hx=>?_)
   obtain ⟨l',r',e⟩:=Tr.way_head d k r x hx
   exact Tr.bit_lt e (.inr hw')
theorem Tr.way_steps (d:List UInt8->BA) (wd:Nat) (hd:∀l,(d l).size=wd) (k:Key) (t:Tr) (h:TrOk wd t):∀s∈(t.way d k).1,Jai wd s:=by
 induction t using Tr.ri with
 | leaf=>intro s hs;cases hs
 | br b l r ihl ihr=>
  obtain ⟨hb,h1,h2⟩:=h
  intro s hs
  simp only [way] at hs
  split at hs
  ·simp only [List.mem_cons] at hs
   rcases hs with rfl | hs
   ·exact ⟨hb,by rw [Tr.dig_text,hd]⟩
   ·exact ihl h1 s hs
  ·simp only [List.mem_cons] at hs
   rcases hs with rfl | hs
   ·exact ⟨hb,by rw [Tr.dig_text,hd]⟩
   ·exact ihr h2 s hs
theorem Tr.near_ok (wd:Nat) (k:Key) (t:Tr) (h:TrOk wd t):(t.near k).1.length=wd+1/\((t.near k).1.getD wd 0).toNat<3/\Jq (t.near k).2:=by
 induction t using Tr.ri with
 | leaf=>exact h
 | br b l r ihl ihr=>
  obtain ⟨_,h1,h2⟩:=h
  simp only [near]
  split
  ·exact ihl h1
  ·exact ihr h2
theorem Jkl (n:Nat) (l:List Stp) (h:YQ l l.length) (hb:∀s∈l,s.1<n):l.length<=n:=by
 have key:∀i (hi:i<l.length),i<=l[i].1:=by
  intro i
  induction i with
  | zero=>intro _;omega
  | succ i ih=>
   intro hi
   have h1:=ih (by omega)
   have h2:=h (i+1) (by omega) hi l[i] l[i+1] (by simp) (by simp)
   omega
 by_cases h0:l.length=0
 ·omega
 ·have h1:=key (l.length - 1) (by omega)
  have h2:=hb l[l.length - 1] (Qx _)
  omega
theorem JcZ (d:List UInt8->BA) (wd:Nat) (hd:∀l,(d l).size=wd) (k:Key) (st:Option Tr) (hw:∀t,st=some t->t.Wf/\TrOk wd t):WyOk wd (Yx d k st):=by
 cases st with
 | none=>exact ⟨λs hs=>(by cases hs),λi h1 h2=>(by simp [Yx] at h2),by simp [Yx],λ_=>rfl,λx hx=>(by cases hx)⟩
 | some t=>
  obtain ⟨h1,h2⟩:=hw t rfl
  have hs:=Tr.way_steps d wd hd k t h2
  exact ⟨hs,Tr.way_rise d k t h1,Jkl _ _ (Tr.way_rise d k t h1) (λs h=>(hs s h).1),λh=>(by cases h),λx hx=>(by cases hx;rw [Tr.way_near];exact Tr.near_ok wd k t h2)⟩
theorem JjF {wd:Nat}:∀(l:List Stp),(∀s∈l,Jai wd s)->(l.flatMap Yy).length=(wd+2) * l.length:=by
 intro l
 induction l with
 | nil=>intro _;rfl
 | cons s l ih=>
  intro h
  have h1:=(h s (by simp)).2
  have e:s.2.data.toList.length=wd:=by rw [<-h1];simp
  rw [QG,Qe,ih (λs hs=>h s (by simp [hs])),Yy,Qe,Je,e,Qp,Nat.mul_add]
  omega
theorem JfV {wd:Nat} {wy:Wy} (h:WyOk wd wy):(wayB wy).length<=2+8 * (wd+1) * (2+wd)+wd+10:=by
 obtain ⟨l,e⟩:=wy
 have h1:=JjF l h.steps
 have h2:=h.len
 simp only at h2
 have h3:(wd+2) * l.length<=(wd+2) * (8 * (wd+1)):=Nat.mul_le_mul_left _ h2
 have h4:(wd+2) * (8 * (wd+1))=8 * (wd+1) * (2+wd):=by rw [Nat.mul_comm,Nat.add_comm wd 2]
 simp only [wayB,Qe,Je,h1]
 cases e with
 | none=>simp [endB];omega
 | some x=>
  obtain ⟨k,o⟩:=x
  have:=(h.key _ rfl).1
  simp only at this
  simp only [endB,Qe,outB,Je]
  omega
open Tryz
set_option maxRecDepth 100000
set_option maxHeartbeats 4000000
open Go.RowKit Go.Shelf

attribute [local go_sem] Oper.semAt_some

theorem Jf0 (n:Nat) (dg:BA) (b nl nr:Nat) (k:Key) (hk:b<8 * k.length) (hk2:k.length<=1000000) (w:World) (h:w.heap[n]? =some (.cells (brC dg b nl nr) 243)):
  Calls prog 225 #[.pointer (some ⟨n,0,none⟩),.string ⟨k.toArray⟩] w λe w'=>e=.returned (.pointer (some ⟨if bt k b=0 then nr else nl,0,none⟩))/\∃m,w'=w.drewN m:=by
 obtain ⟨-, -, -, -,c4,c5,c6⟩:=rows h
 have HB:Hid (∀W,_):=λW=>XG k b hk hk2 W
 have hb:=Xz k b
 generalize (⟨k.toArray⟩:BA)=kb at *
 generalize bt k b=a at *
 obtain rfl | rfl:a=0\/a=1:=by omega
 ·rw [if_pos rfl]
  go_enter func225,ntmps225
  go_wp2
  go_region_with (go_at_call 288;refine (HB _).mono ?_;rintro _ _ ⟨rfl,rfl⟩)
  all_goals go_wp2
  all_goals go_ret
  all_goals exact ⟨rfl,1,rfl⟩
 ·rw [if_neg (by decide)]
  go_enter func225,ntmps225
  go_wp2
  go_region_with (go_at_call 288;refine (HB _).mono ?_;rintro _ _ ⟨rfl,rfl⟩)
  all_goals go_wp2
  all_goals go_ret
  all_goals exact ⟨rfl,1,rfl⟩

def stpC (h:Stp):List Value:=[.int .i64 (h.1:Int),.string h.2]
def stpV (l:List Stp):List Value:=l.flatMap stpC
theorem JkC (l:List Stp):∀u∈stpV l,u.oneCell'=true:=by
 intro u hu
 simp only [stpV,List.mem_flatMap,stpC] at hu
 obtain ⟨x,_,hu⟩:=hu
 simp only [List.mem_cons,QD,or_false] at hu
 rcases hu with rfl | rfl <;> rfl
theorem JlL (l:List Stp):stpV l=(vvA (l.map encS)).toList:=by
 simp [stpV,vvA,encS,List.flatMap_map]
 rfl
def POwn (base:Nat) (w:World) (v:Value) (l:List Stp):Prop:=w.ownsRow base 366 2 v l.length (stpV l)
theorem POwn.nil (base:Nat) (w:World):POwn base w (.slice none 0 0) []:=⟨rfl,.inl ⟨rfl,rfl⟩⟩
theorem POwn.own {base:Nat} {w:World} {v:Value} {l:List Stp} (h:POwn base w v l):∀k,v.ownBlock=some k->base<=k/\∃cs m,w.heap[k]? =some (.cells cs 366 m):=by
 obtain ⟨_,⟨rfl,h0⟩ | ⟨g,cap,cur,rfl,hb,hrow,_⟩⟩:=h
 ·intro k hk;cases hk
 ·intro k hk;cases hk;exact ⟨hb,_,_,hrow⟩
theorem POwn.tch {base:Nat} {w w':World} {v:Value} {l:List Stp} {S:Nat->Prop} (h:POwn base w v l) (k:Tch S w w') (hs:∀j,v.ownBlock=some j->¬S j):POwn base w' v l:=by
 obtain ⟨h1,⟨rfl,h0⟩ | ⟨g,cap,cur,rfl,hb,hrow,h2⟩⟩:=h
 ·exact ⟨h1,.inl ⟨rfl,h0⟩⟩
 ·exact ⟨h1,.inr ⟨g,cap,cur,rfl,hb,(k.block g (Jb hrow) (hs g rfl)).trans hrow,h2⟩⟩
theorem POwn.shape {base:Nat} {w:World} {v:Value} {l:List Stp} (h:POwn base w v l):∃a c,v=.slice a l.length c:=by
 obtain ⟨_,⟨rfl,h0⟩ | ⟨g,cap,cur,rfl,hb,hrow,_⟩⟩:=h
 ·exact ⟨none,0,by rw [h0]⟩
 ·exact ⟨_,_,rfl⟩
theorem POwn.vat {base:Nat} {w:World} {v:Value} {l:List Stp} (h:POwn base w v l):VAt w.heap.size w v (l.map encS):=by
 obtain ⟨_,⟨rfl,h0⟩ | ⟨g,cap,cur,rfl,_,hrow,_,_,hsz,htake⟩⟩:=h
 ·exact .inl ⟨rfl,by rw [QO h0];rfl⟩
 ·have hlt:=(Jb hrow)
  refine .inr ⟨g,0,cap,by rw [QL],hlt,hlt,λi hi=>?_⟩
  obtain ⟨e0,e1⟩:=Yt (l.map encS) i hi
  have hc:∀j u,(vvA (l.map encS))[j]? =some u->w.cell? ⟨g,0+j,none⟩=some u:=by
   intro j u hu
   rw [<-Array.getElem?_toList,<-JlL,<-htake] at hu
   have hj:=(Qo.1 hu).1
   rw [List.getElem?_take_of_lt (by rw [QB] at hj;omega)] at hu
   rw [Ja hrow,Nat.zero_add,<-Array.getElem?_toList]
   exact hu
  exact ⟨hc _ _ e0,hc _ _ e1⟩
theorem Xb {W W':World} {row:Option Nat} {B:Nat} {cs:Array Value} {T:TypeId} {m:Nat×Nat} (h:W.heap[B]? =some (.cells cs T m)) (hg:W.grownBy W' row) (hr:∀r,row=some r->∃o:Obj,W.heap[r]? =some o/\o.isCells=false):W'.heap[B]? =some (.cells cs T m):=by
 refine (hg.block B (Jb h) (λe=>?_)).trans h
 obtain ⟨o,ho,hc⟩:=hr B e.symm
 rw [h] at ho
 cases ho
 cases hc
theorem POwn.kept {base:Nat} {W W':World} {v:Value} {l:List Stp} {row:Option Nat} (h:POwn base W v l) (hg:W.grownBy W' row) (hr:∀r,row=some r->∃o:Obj,W.heap[r]? =some o/\o.isCells=false):POwn base W' v l:=by
 obtain ⟨h1,⟨rfl,h0⟩ | ⟨g,cap,cur,rfl,hb,hrow,h2⟩⟩:=h
 ·exact ⟨h1,.inl ⟨rfl,h0⟩⟩
 ·exact ⟨h1,.inr ⟨g,cap,cur,rfl,hb,Xb hrow hg hr,h2⟩⟩
theorem JbC {S:Nat->Prop} {W W':World} (h:Tch S W W') (hs:∀j,S j->∃cs T m,W.heap[j]? =some (.cells cs T m)):KeepsOthers W W':=by
 refine ⟨h.size,λk o hk ho=>(h.block k (Jb hk) (λhS=>?_)).trans hk⟩
 obtain ⟨cs,T,m,e⟩:=hs k hS
 rw [hk] at e
 cases e
 cases ho

def Jl9 (w:World) (k:Key):Nat×(KO ⊕ Stp)->Prop
 | (x,.inl (k',o))=>∃dg,w.heap[x]? =some (.cells (Yp dg k' o) 243)
 | (x,.inr (b,od))=>∃dg nl nr cs,w.heap[x]? =some (.cells (brC dg b nl nr) 243)/\b<8 * k.length/\w.heap[if bt k b=0 then nr else nl]? =some (.cells cs 243)/\cs[0]? =some (.string od)
abbrev XP (w:World) (k:Key):={ y:Nat×(KO ⊕ Stp) // Jl9 w k y }
theorem Jf.dig {d:List UInt8->BA} {F:Nat->Prop} {w:World} {n:Nat} {t:Tr} (h:Jf d F w n t):∃cs,w.heap[n]? =some (.cells cs 243)/\cs[0]? =some (.string (t.dig d)):=by
 cases h using Jf.ri with
 | leaf _ k o hF hr=>exact ⟨_,hr,rfl⟩
 | br _ b nl nr l r hF hr=>exact ⟨_,hr,rfl⟩
theorem Jf.wayD {d:List UInt8->BA} {F:Nat->Prop} {w:World} {n wd:Nat} {t:Tr} {k:Key} (hk:k.length=wd+1) (h:Jf d F w n t) (hok:TrOk wd t):∃ds:List (XP w k),Way w.heap.size k w (some n) (ds.map (·.1.1))/\ds.map (·.1.2)=(t.way d k).1.map .inr++[.inl (t.way d k).2]:=by
 induction h using Jf.ri with
 | leaf n k' o hF hr=>exact ⟨[⟨(n,.inl (k',o)),_,hr⟩],⟨rfl,(Jb hr),.inl ⟨_,_,_,hr,rfl⟩⟩,rfl⟩
 | br n b nl nr l r hF hr hl hr' ihl ihr=>
  obtain ⟨hb,hokl,hokr⟩:=hok
  by_cases h0:bt k b=0
  ·have ew:(Tr.br b l r).way d k=((b,r.dig d) :: (l.way d k).1,(l.way d k).2):=by simp only [Tr.way];rw [if_pos h0]
   rw [ew]
   obtain ⟨ds,h1,h2⟩:=ihl hokl
   obtain ⟨cs,e1,e2⟩:=hr'.dig
   refine ⟨⟨(n,.inr (b,r.dig d)),_,nl,nr,cs,hr,by omega,by rw [if_pos h0];exact e1,e2⟩ :: ds,⟨rfl,(Jb hr),.inr ⟨_,b,nl,nr,hr,by omega,by rw [if_pos h0];exact h1⟩⟩,?_⟩
   exact congrArg (List.cons _) h2
  ·have ew:(Tr.br b l r).way d k=((b,l.dig d) :: (r.way d k).1,(r.way d k).2):=by simp only [Tr.way];rw [if_neg h0]
   rw [ew]
   obtain ⟨ds,h1,h2⟩:=ihr hokr
   obtain ⟨cs,e1,e2⟩:=hl.dig
   refine ⟨⟨(n,.inr (b,l.dig d)),_,nl,nr,cs,hr,by omega,by rw [if_neg h0];exact e1,e2⟩ :: ds,⟨rfl,(Jb hr),.inr ⟨_,b,nl,nr,hr,by omega,by rw [if_neg h0];exact h1⟩⟩,?_⟩
   exact congrArg (List.cons _) h2
theorem Jeb (n:Nat) (hn:2<=n) (Bt Bk n₀:Nat) (k:Key) (hk1:1<=k.length) (hk2:k.length<=1000000) (q:Option Nat) (v:World) (ds:List (XP v k)) (w:World) (hBt:Bt<w.heap.size) (hBk:Bk<w.heap.size) (hn₀:n₀<=w.heap.size) (c1:w.cell? ⟨Bt,1,none⟩=some (Jh q)) (c2:w.cell? ⟨Bk,0,none⟩=some (.string ⟨k.toArray⟩)) (hL:Way n₀ k w q (ds.map (·.1.1))):
  SeqStopsK Fence.wide n prog 295 #[.pointer (some ⟨Bt,0,none⟩),.pointer (some ⟨Bk,0,none⟩)] (λy:XP v k=> #[Value.pointer (some ⟨y.1.1,0,none⟩)]) (JeM n₀ Bk) (λys=>ys=ds) (λpre=>pre <+:ds) ds.length w:=λl J Jx W hW hJ _ hY h0=>by
 refine (Je5 n hn l Bt Bk n₀ k hk1 hk2 q (ds.map (·.1.1)) (λp W=>∃pre:List (XP v k),pre <+:ds/\pre.map (·.1.1)=p/\J pre W) (λp W=>∃pre:List (XP v k),pre <+:ds/\pre.map (·.1.1)=p/\Jx pre W) (λp W' m ⟨pre,h1,h2,h⟩=>⟨pre,h1,h2,hJ pre W' (W'.drewN m) none h ⟨rfl,rfl,rfl,Ql _,λ_ _ _=>rfl⟩ (λr e=>by cases e)⟩) ?_ W ((hW.cell (p:=⟨Bt,1,none⟩) hBt).trans c1) ((hW.cell (p:=⟨Bk,0,none⟩) hBk).trans c2) (Way.below (hW.mono hn₀) hL) ⟨[],List.nil_prefix,rfl,h0⟩).mono ?_
 ·rintro p x W1 ⟨pre,hp,rfl,hJ1⟩ hx
  rw [QL,List.getElem?_map] at hx
  cases hy:ds[pre.length]? with
  | none=>rw [hy] at hx;cases hx
  | some y=>
   rw [hy] at hx
   simp only [Option.map_some,Qh] at hx
   have hlt:=(Qo.1 hy).1
   have hpy:pre++[y] <+:ds:=by
    obtain ⟨r,rfl⟩:=hp
    rw [Qz (Ql _),Nat.sub_self] at hy
    cases r with
    | nil=>cases hy
    | cons z r=>simp at hy;subst hy;exact ⟨r,by simp⟩
   have:=hY pre y W1 hJ1 hlt
   subst hx
   refine YieldAt.mono this ?_
   rintro e W' (⟨rfl,h1,h2⟩ | ⟨rfl,h1⟩)
   ·exact .inl ⟨rfl,⟨pre++[y],hpy,by simp,h1⟩,h2⟩
   ·exact .inr ⟨rfl,⟨pre++[y],hpy,by simp,h1⟩⟩
 ·rintro e W' ⟨hv,⟨ys,hys,pre,hp,hm,h⟩ | ⟨p,_,pre,hp,_,h⟩⟩
  ·refine ⟨hv,.inl ⟨pre,?_,h⟩⟩
   have hl:pre.length=ds.length:=by have:=congrArg List.length (hm.trans hys);simpa using this
   exact hp.eq_of_length hl
  ·exact ⟨hv,.inr ⟨pre,hp,h⟩⟩

attribute [local go_sem] Oper.semAt_some

def Jn {w:World} {k:Key} (l:List (XP w k)):List Stp:=l.filterMap λy=>match y.1.2 with | .inl _=>none | .inr s=>some s
def Jv (v:Value) (m:Bool) (kb:BA) (a o:Nat):Array Value:= #[v,.bool m,.string kb,.int .u64 (a:Int),.int .u8 (o:Int)]
def WayV (base:Nat) (w:World) (wy:Wy) (e:Ending):Prop:=∃v,e=.returned (.agg (Jv v wy.2.isSome (wyK wy) (wyO wy).1 (wyO wy).2))/\POwn base w v wy.1
theorem Jh6:(prog.info? 366).map (λi=>(i.zero,i.size,i.bytes))=some (some (.agg #[.int .i64 0,.string ⟨#[]⟩]),2,24):=by kernel_rfl
theorem Jaf {P:Program} {ops:Array Oper} {o:Oper} {a:Act} {w w':World} {K:Act->World->Prop} {Q:Exit->Act->World->Prop} {E:Prop} {v xv v':Value} (hgd:o.guard=none) (s x:Operand) (T:TypeId) (ho:o.op=.call { callee:=.builtin .append,args:= #[s,x],argTypes:= #[T,T] })
  (hv:a.eval s=v) (hx:a.eval x=xv) (hr:(Builtin.append_ #[T,T] o.type #[v,xv]).run P w=.ok v' w') (hK:K (a.put o.dst v') w'):if Region.wanted o (yielded ops a.tmps)=true then Oper.wp P o a w K Q else E:=by
 have hw:Region.wanted o (yielded ops a.tmps)=true:=by simp [Region.wanted,hgd]
 rw [if_pos hw]
 unfold Oper.wp
 simp [execOp,ho,resolve,invoke,builtin,hv,hx,hr,Result.andThen]
 exact hK
structure WayI (w:World) (k:Key) (pre:List (XP w k)) (W:World):Prop where
 below:Below w.heap.size w W
 brs:∀y∈pre,∃s,y.1.2=.inr s
 row:∃v,W.heap[w.heap.size+3]? =some (.cells (Jv v false ⟨#[]⟩ 0 0) 258)/\POwn w.heap.size W v (Jn pre)
 key:W.heap[w.heap.size+1]? =some (.cells #[.string ⟨k.toArray⟩] 9)
 cap:W.heap[w.heap.size+5]? =some (.cells #[.string ⟨k.toArray⟩] 9)
 res:W.heap[w.heap.size+2]? =some (.cells (Jv (.slice none 0 0) false ⟨#[]⟩ 0 0) 258)
structure WayX (w:World) (k:Key) (pre:List (XP w k)) (W:World):Prop where
 below:Below w.heap.size w W
 row:∃q y v x,pre=q++[y]/\y.1.2=.inl x/\(∀y∈q,∃s,y.1.2=.inr s)/\W.heap[w.heap.size+3]? =some (.cells (Jv v true ⟨x.1.toArray⟩ x.2.1 x.2.2) 258)/\POwn w.heap.size W v (Jn q)
 res:W.heap[w.heap.size+2]? =some (.cells (Jv (.slice none 0 0) false ⟨#[]⟩ 0 0) 258)
theorem WayI.own {w:World} {k:Key} {B:Nat} (hB:w.heap.size+4<=B):OwnFrom B (WayI w k):=by
 intro s W W' row h hg hr
 have hr':∀r,row=some r->∃o:Obj,W.heap[r]? =some o/\o.isCells=false:=λr e=>(hr r e).2
 obtain ⟨v,h1,h2⟩:=h.row
 exact ⟨ownFrom_below (β:=List (XP w k)) (w₀:=w) (n₀:=w.heap.size) (B:=B) (Ql _) (by omega) s W W' row h.below hg hr,h.brs,⟨v,Xb h1 hg hr',h2.kept hg hr'⟩,Xb h.key hg hr',Xb h.cap hg hr',Xb h.res hg hr'⟩
theorem WayX.own {w:World} {k:Key} {B:Nat} (hB:w.heap.size+4<=B):OwnFrom B (WayX w k):=by
 intro s W W' row h hg hr
 have hr':∀r,row=some r->∃o:Obj,W.heap[r]? =some o/\o.isCells=false:=λr e=>(hr r e).2
 obtain ⟨q,y,v,x,e1,e2,e3,h1,h2⟩:=h.row
 exact ⟨ownFrom_below (β:=List (XP w k)) (w₀:=w) (n₀:=w.heap.size) (B:=B) (Ql _) (by omega) s W W' row h.below hg hr,⟨q,y,v,x,e1,e2,e3,Xb h1 hg hr',h2.kept hg hr'⟩,Xb h.res hg hr'⟩
theorem Jc5 {w:World} {k:Key} (l m:List (XP w k)):Jn (l++m)=Jn l++Jn m:=by simp [Jn]
theorem JfO {w:World} {k:Key} (l:List (XP w k)):(Jn l).length<=l.length:=List.length_filterMap_le _ _
theorem JfP {w:World} {k:Key} {y:XP w k} {s:Stp} (h:y.1.2=.inr s):Jn [y]=[s]:=by simp [Jn,h]
theorem WayI.add {w W w3:World} {k:Key} {pre:List (XP w k)} {v v':Value} {y:XP w k} {s:Stp} (HI:WayI w k pre W) (hpo:POwn w.heap.size W v (Jn pre)) (hT:Tch (λj=>some j=v.ownBlock) W w3) (hown:POwn w.heap.size w3 v' (Jn pre++[s])) (hrow:w3.heap[w.heap.size+3]? =some (.cells (Jv v false ⟨#[]⟩ 0 0) 258)) (hy:y.1.2=.inr s):
  KeepsOthers W (w3.setCell ⟨w.heap.size+3,0,none⟩ v')/\JeM w.heap.size (w.heap.size+5) W (w3.setCell ⟨w.heap.size+3,0,none⟩ v')/\WayI w k (pre++[y]) (w3.setCell ⟨w.heap.size+3,0,none⟩ v'):=by
 have hset:w3.setCell ⟨w.heap.size+3,0,none⟩ v'=w3.setRow (w.heap.size+3) (Jv v' false ⟨#[]⟩ 0 0):=Qj w3 (w.heap.size+3) 0 _ _ (0,0) v' hrow
 rw [hset]
 obtain ⟨v0,hv0,_⟩:=HI.row
 have hT4:Tch (λj=>some j=v.ownBlock\/j=w.heap.size+3) W (w3.setRow (w.heap.size+3) (Jv v' false ⟨#[]⟩ 0 0)):=(hT.mono (λ_ h=>.inl (.inl h))).trans (Ts _ _ _) (λ_ h=>.inl (.inr h))
 have hkeep:∀{j:Nat} {cs:Array Value} {T:TypeId},T ≠ 366->j ≠ w.heap.size+3->W.heap[j]? =some (.cells cs T)->_:=λhne hj h=>(hT4.block _ (Jb h) (λe=>by
  rcases e with e | e
  ·obtain ⟨_,cs,m,hc⟩:=hpo.own _ e.symm
   rw [h] at hc
   simp only [Qh,Obj.cells.injEq] at hc
   exact hne hc.2.1
  ·exact hj e)).trans h
 have hz:=HI.below.size
 have hge:∀j,(some j=v.ownBlock\/j=w.heap.size+3)->w.heap.size<=j:=λj e=>by
  rcases e with e | e
  ·exact (hpo.own _ e.symm).1
  ·omega
 have hB:=hT4.below hz hge
 have hcap:=hkeep (by decide) (by omega) HI.cap
 refine ⟨JbC hT4 (λj e=>?_),⟨hB,λu hu=>?_⟩,HI.below.trans hB,?_,⟨v',Qi _ _ _ _ _ _ hrow,?_⟩,hkeep (by decide) (by omega) HI.key,hcap,hkeep (by decide) (by omega) HI.res⟩
 ·rcases e with e | e
  ·obtain ⟨_,cs,m,hc⟩:=hpo.own _ e.symm
   exact ⟨cs,_,m,hc⟩
  ·exact ⟨_,_,_,by rw [e];exact hv0⟩
 ·rw [Ja HI.cap] at hu
  rw [Ja hcap]
  exact hu
 ·intro z hz
  rcases QE.1 hz with hz | hz
  ·exact HI.brs z hz
  ·simp only [Qt] at hz
   exact ⟨s,by rw [hz];exact hy⟩
 ·rw [Jc5,JfP hy]
  refine hown.tch (Ts _ _ _) (λj hj e=>?_)
  obtain ⟨_,cs,m,hc⟩:=hown.own _ hj
  rw [e,hrow] at hc
  simp only [Qh,Obj.cells.injEq] at hc
  exact absurd hc.2.1 (by decide)
theorem WayI.leaf {w W:World} {k:Key} {pre:List (XP w k)} {y:XP w k} {x:KO} (HI:WayI w k pre W) {v:Value} (hrow:W.heap[w.heap.size+3]? =some (.cells (Jv v false ⟨#[]⟩ 0 0) 258)) (hpo:POwn w.heap.size W v (Jn pre)) (hy:y.1.2=.inl x) (n:Nat):
  KeepsOthers W ((W.drewN n).setRow (w.heap.size+3) (Jv v true ⟨x.1.toArray⟩ x.2.1 x.2.2))/\JeM w.heap.size (w.heap.size+5) W ((W.drewN n).setRow (w.heap.size+3) (Jv v true ⟨x.1.toArray⟩ x.2.1 x.2.2))/\WayX w k (pre++[y]) ((W.drewN n).setRow (w.heap.size+3) (Jv v true ⟨x.1.toArray⟩ x.2.1 x.2.2)):=by
 have hT4:Tch (λj=>j=w.heap.size+3) W ((W.drewN n).setRow (w.heap.size+3) (Jv v true ⟨x.1.toArray⟩ x.2.1 x.2.2)):=(Td _ W n).trans (Ts _ _ _) (λ_ h=>.inl h)
 have hz:=HI.below.size
 have hB:=hT4.below hz (λj e=>by omega)
 have hkeep:∀{j:Nat} {o:Obj},j ≠ w.heap.size+3->W.heap[j]? =some o->_:=λhj h=>(hT4.block _ (Jb h) hj).trans h
 have hcap:=hkeep (by omega) HI.cap
 refine ⟨JbC hT4 (λj e=>by subst e;exact ⟨_,_,_,hrow⟩),⟨hB,λu hu=>?_⟩,HI.below.trans hB,⟨pre,y,v,x,rfl,hy,HI.brs,Qi _ _ _ _ _ _ (show (W.drewN n).heap[w.heap.size+3]? =_ from hrow),?_⟩,hkeep (by omega) HI.res⟩
 ·rw [Ja HI.cap] at hu
  rw [Ja hcap]
  exact hu
 ·refine hpo.tch hT4 (λj hj e=>?_)
  obtain ⟨_,cs,m,hc⟩:=hpo.own _ hj
  rw [e,hrow] at hc
  simp only [Qh,Obj.cells.injEq] at hc
  exact absurd hc.2.1 (by decide)
theorem Jhu {α β:Type} {x x':α}:∀(Q A:List β) (R:List (α ⊕ β)),Q.map Sum.inr++(Sum.inl x :: R)=A.map Sum.inr++[Sum.inl x']->Q=A/\x=x'
 | [],[],R,h=>by simp at h;exact ⟨rfl,h.1⟩
 | [],a :: A,R,h=>by simp at h
 | q :: Q,[],R,h=>by simp at h
 | q :: Q,a :: A,R,h=>by
  simp only [List.map_cons,List.cons_append,QH,Sum.inr.injEq] at h
  obtain ⟨h1,h2⟩:=Jhu Q A R h.2
  exact ⟨by rw [h.1,h1],h2⟩
theorem Jb7 {w:World} {k:Key}:∀(q:List (XP w k)),(∀z∈q,∃s,z.1.2=.inr s)->q.map (·.1.2)=(Jn q).map Sum.inr
 | [],_=>rfl
 | z :: q,h=>by
  obtain ⟨s,hs⟩:=h z (by simp)
  have ih:=Jb7 q (λy hy=>h y (by simp [hy]))
  rw [show Jn (z :: q)=s :: Jn q by simp [Jn,hs],List.map_cons,List.map_cons,ih,hs]
theorem JlT {w:World} {k:Key} {ds pre q:List (XP w k)} {y:XP w k} {x:KO} {wy:Wy} (hp:pre <+:ds) (e1:pre=q++[y]) (e2:y.1.2=.inl x) (e3:∀z∈q,∃s,z.1.2=.inr s)
  (h:(ds=[]/\wy=([],none))\/ds.map (·.1.2)=wy.1.map .inr++(wy.2.toList.map .inl)/\wy.2 ≠ none):wy=(Jn q,some x):=by
 obtain ⟨r,hr⟩:=hp
 rcases h with ⟨h,_⟩ | ⟨h,hn⟩
 ·rw [h,e1] at hr;simp at hr
 ·obtain ⟨A,e⟩:=wy
  cases e with
  | none=>exact absurd rfl hn
  | some x'=>
   rw [<-hr,e1,List.map_append,List.map_append,Jb7 q e3] at h
   simp only [List.map_cons,List.map_nil,e2,Qs,List.cons_append,List.nil_append,Option.toList_some] at h
   obtain ⟨h1,h2⟩:=Jhu _ _ _ h
   rw [h1,h2]
theorem JfW (wd:Int) (q:Option Nat) (k:Key) (hk1:1<=k.length) (hk2:k.length<=1000000) (w:World) (ds:List (XP w k)) (hdl:ds.length<=1000000) (hL:Way w.heap.size k w q (ds.map (·.1.1))) (wy:Wy) (hne:ds=[]↔q=none) (hwy:(ds=[]/\wy=([],none))\/ds.map (·.1.2)=wy.1.map .inr++(wy.2.toList.map .inl)/\wy.2 ≠ none):
  CallsIn Fence.wide 5 prog 147 #[.agg #[.int .i64 wd,Jh q],.string ⟨k.toArray⟩] w λe W'=>WayV w.heap.size W' wy e/\Below w.heap.size w W':=by
 have h1:1<=5:=by omega
 have hro:Fence.wide.round=none:=rfl
 have HL:Hid _:=hL
 have HNE:Hid _:=hne
 have HWY:Hid _:=hwy
 clear hL hne hwy
 obtain ⟨rv,hrv⟩:∃rv,rv=(q.map λn=>(⟨n,0,none⟩:Addr)):=⟨_,rfl⟩
 have HRV:Hid (Jh q=.pointer rv):=by rw [hrv];rfl
 rw [HRV.o]
 clear hrv
 refine callsIn_of_wp_marks func147 rfl trivial ?_ hro
 simp only [ntmps147,List.size_toArray,Qp,Qv,Nat.reduceAdd,Nat.reduceSub,Array.replicate_succ,Array.replicate_zero,List.push_toArray,List.append_toArray,List.nil_append,List.cons_append]
 gi_wp2
 refine ⟨trivial,(callsIn_wide.2 (callsIn_wide.1 (Jhf _ _ _ _))).mono ?_⟩
 rintro _ _ ⟨rfl,rfl⟩
 gi_wp2
 obtain ⟨WD,hWD⟩:∃WD,WD=(((((w.alloc (.cells #[.int .i64 wd,.pointer rv] 146)).alloc (.cells #[.string ⟨k.toArray⟩] 9)).alloc (.cells #[.slice none 0 0,.bool false,.string ⟨#[]⟩,.int .u64 0,.int .u8 0] 258)).alloc (.cells #[.slice none 0 0,.bool false,.string ⟨#[]⟩,.int .u64 0,.int .u8 0] 258)).alloc (.cells #[.int .i64 wd,.pointer rv] 146)).alloc (.cells #[.string ⟨k.toArray⟩] 9):=⟨_,rfl⟩
 rw [<-hWD]
 have hB0:Below w.heap.size w WD:=by rw [hWD];exact ((((((Below.refl _ w).alloc (Ql _) _).alloc (by simp) _).alloc (by simp;omega) _).alloc (by simp;omega) _).alloc (by simp;omega) _).alloc (by simp;omega) _
 have hz:WD.heap.size=w.heap.size+6:=by rw [hWD];simp
 have hal:∀(V:World) (o:Obj) (j:Nat) (x:Obj),V.heap[j]? =some x->_:=λV o j x h=>(Below.heap_alloc V o j (Jb h)).trans h
 have hnw:∀(V:World) (o:Obj) (j:Nat),V.heap.size=j->(V.alloc o).heap[j]? =some o:=λV o j h=>by subst h;exact Qf V o
 have r1:WD.heap[w.heap.size+1]? =some (.cells #[.string ⟨k.toArray⟩] 9):=by rw [hWD];exact hal _ _ _ _ (hal _ _ _ _ (hal _ _ _ _ (hal _ _ _ _ (hnw _ _ _ (by simp)))))
 have r2:WD.heap[w.heap.size+2]? =some (.cells #[.slice none 0 0,.bool false,.string ⟨#[]⟩,.int .u64 0,.int .u8 0] 258):=by rw [hWD];exact hal _ _ _ _ (hal _ _ _ _ (hal _ _ _ _ (hnw _ _ _ (by simp))))
 have r3:WD.heap[w.heap.size+3]? =some (.cells #[.slice none 0 0,.bool false,.string ⟨#[]⟩,.int .u64 0,.int .u8 0] 258):=by rw [hWD];exact hal _ _ _ _ (hal _ _ _ _ (hnw _ _ _ (by simp)))
 have r4:WD.heap[w.heap.size+4]? =some (.cells #[.int .i64 wd,.pointer rv] 146):=by rw [hWD];exact hal _ _ _ _ (hnw _ _ _ (by simp))
 have r5:WD.heap[w.heap.size+5]? =some (.cells #[.string ⟨k.toArray⟩] 9):=by rw [hWD];exact hnw _ _ _ (by simp)
 have hI0:WayI w k [] WD:=⟨hB0,λy hy=>(by cases hy),⟨.slice none 0 0,r3,POwn.nil _ _⟩,r1,r5,r2⟩
 clear hal hnw
 refine wpIn_rangeFunc_ownF hro h1 (gf:=295) (lb:= #[.pointer (some ⟨w.heap.size+1+1+1+1,0,none⟩),.pointer (some ⟨w.heap.size+1+1+1+1+1,0,none⟩)]) rfl trivial (enters_of func295 (by kernel_rfl) rfl)
  (Jeb 4 (by omega) (w.heap.size+1+1+1+1) (w.heap.size+1+1+1+1+1) w.heap.size k hk1 hk2 q w ds WD (by omega) (by omega) (by omega) (by rw [HRV.o];exact Ja r4) (Ja r5) (Way.below hB0 HL)) (λh k=>⟨h.1.trans k.1,λv hv=>k.2 v (h.2 v hv)⟩)
  (λW l o o' hl ho hc hw'=>⟨belowK_b (w:=w) (Ql _) W l o o' (by omega) ho hc hw',λv hv=>cell_kept hv (grownBy_putObj' _ l o') (λr e=>by cases e;exact ⟨o,ho,hc⟩)⟩) (Below.refl _ _) (λ_=>rfl)
  (WayI w k) (λc pre W=>c=.exit 0/\WayX w k pre W) (WayI.own (by omega)) (λc=>λs W W' row h hg hr=>⟨h.1,WayX.own (by omega) s W W' row h.2 hg hr⟩) hI0
  (λx=>{ tmps:= #[.agg #[.int .i64 wd,.pointer rv],.string ⟨k.toArray⟩,.pointer (some ⟨w.heap.size,0,none⟩),.pointer (some ⟨w.heap.size+1,0,none⟩),.pointer (some ⟨w.heap.size+1+1,0,none⟩),.pointer (some ⟨w.heap.size+1+1+1,0,none⟩),.pointer (some ⟨x.1.1,0,none⟩),.agg #[.int .i64 wd,.pointer rv],.string ⟨k.toArray⟩,.func (.func 295) #[] #[.pointer (some ⟨w.heap.size+1+1+1+1,0,none⟩),.pointer (some ⟨w.heap.size+1+1+1+1+1,0,none⟩)],.pointer (some ⟨x.1.1,0,none⟩),undef,undef,undef,undef,undef,undef,undef,undef,undef,undef,undef,undef,undef,undef,undef,undef,undef,undef,undef,undef,undef,undef,undef,undef,undef,undef,undef,undef,undef,undef],defers:=[] }) ?assign ?body ?done ?stop
 case assign=>
  intro l x W K hK
  gi_wp2
  exact hK
 case body=>
  clear r1 r2 r3 r4 r5 hB0 hI0 HL HNE HWY
  rintro l pre y W hI hpl
  obtain ⟨x,dsc,hyx⟩:∃x dsc,y.1=(x,dsc):=⟨_,_,rfl⟩
  have hx:=y.2
  rw [hyx] at hx
  have hy1:y.1.1=x:=by rw [hyx]
  rw [hy1]
  clear hy1
  obtain ⟨v,hrow,hpo⟩:=hI.row
  have c0:=rows hrow
  cases dsc with
  | inl kd=>
   obtain ⟨k',oa,oo⟩:=kd
   obtain ⟨dg,hlr⟩:=hx
   have hxl:=(Jb hlr)
   have hlr':=(hI.below.block x hxl).trans hlr
   have hil:=Zn x dg k' (oa,oo) W hlr'
   have HI:Hid _:=hI
   have HROW:Hid _:=hrow
   have HPO:Hid _:=hpo
   have HXN:Hid (x ≠ w.heap.size+1+1+1):=(by omega:x ≠ w.heap.size+1+1+1)
   have s0:(λ(X:World)=>X.cell? ⟨x,1,none⟩=some (.string ⟨k'.toArray⟩)/\X.cell? ⟨x,2,none⟩=some (.int .u64 (oa:Int))/\X.cell? ⟨x,3,none⟩=some (.int .u8 (oo:Int))) W.drew:=⟨Ja hlr',Ja hlr',Ja hlr'⟩
   obtain ⟨-,c1⟩:=rows (show W.drew.heap[w.heap.size+3]? =_ from hrow)
   have f1:W.drew.frozen? ⟨w.heap.size+1+1+1,1,none⟩=false:=Qg _ _ _ _ _ (show W.drew.heap[w.heap.size+3]? =_ from hrow)
   clear hI hrow hpo hlr' hlr c0 hxl
   generalize hKB':(⟨k'.toArray⟩:BA)=kb' at *
   gi_wp2
   refine ⟨trivial,(CallsIn.inRound l (callsIn_wide.2 hil)).mono ?_⟩
   rintro _ X ⟨rfl,hX⟩
   rw [hX]
   clear hil hX X
   gi_wp2
   have hmx:prog.follows .mixedOrders=true:=by kernel_rfl
   refine Yz (S:=(λ(X:World)=>X.cell? ⟨x,1,none⟩=some (.string kb')/\X.cell? ⟨x,2,none⟩=some (.int .u64 (oa:Int))/\X.cell? ⟨x,3,none⟩=some (.int .u8 (oo:Int)))) 17 (by simp) (by kernel_rfl) (by kernel_rfl) (by simp) ?hq s0 (λhHeld l0 o0 hl0 ho0=>?_)
   case hq=>rintro ⟨_,_,h⟩;exact h
   simp only [List.dropLast,List.getLast_cons_cons,List.getLast_singleton] at hl0 ho0
   subst hl0;subst ho0
   refine tkL 0 ?_
   simp only [Act.put,Qa,Qb,Qc]
   refine tkL 1 ?_
   simp only [Act.put,Qa,Qb,Qc]
   refine tkL 2 ?_
   simp only [Act.put,Qa,Qb,Qc]
   refine tkL 3 ?_
   simp only [Act.put,Qa,Qb,Qc]
   refine tkL 4 ?_
   simp only [Act.put,Qa,Qb,Qc]
   refine tkL 5 ?_
   simp only [Act.put,Qa,Qb,Qc]
   refine tkL 6 ?_
   simp only [Act.put,Qa,Qb,Qc]
   refine tkL 7 ?_
   simp only [Act.put,Qa,Qb,Qc]
   refine tkL 8 ?_
   simp only [Act.put,Qa,Qb,Qc]
   refine tkL 9 ?_
   simp only [Act.put,Qa,Qb,Qc]
   refine YW (i:=10) rfl (by kernel_rfl) (λK hK=>?_)
   go_simp
   obtain ⟨u0,u1,u2⟩:=s0
   have s1:(λ(X:World)=>X.cell? ⟨x,1,none⟩=some (.string kb')/\X.cell? ⟨x,2,none⟩=some (.int .u64 (oa:Int))/\X.cell? ⟨x,3,none⟩=some (.int .u8 (oo:Int))) (W.drew.setCell ⟨w.heap.size+1+1+1,1,none⟩ (.bool true)):=⟨(World.cell?_setCell_other _ _ _ _ (by have:=HXN.o;simp)).trans u0,(World.cell?_setCell_other _ _ _ _ (by have:=HXN.o;simp)).trans u1,(World.cell?_setCell_other _ _ _ _ (by have:=HXN.o;simp)).trans u2⟩
   refine hK _ _ s1 (λhHeld2=>?_)
   clear hK K hHeld
   try simp only [Act.put,Qa,Qb,Qc]
   refine tkL 11 ?_
   simp only [Act.put,Qa,Qb,Qc]
   have hset1:(W.setCell ⟨w.heap.size+1+1+1,1,none⟩ (.bool true)).drew=W.drew.setRow (w.heap.size+3) (Jv v true ⟨#[]⟩ 0 0):=(congrArg World.drew (Qj W (w.heap.size+3) 1 _ _ (0,0) (.bool true) HROW)).trans rfl
   rw [hset1]
   have hr1:(W.drew.setRow (w.heap.size+3) (Jv v true ⟨#[]⟩ 0 0)).heap[w.heap.size+3]? =some (.cells (Jv v true ⟨#[]⟩ 0 0) 258):=Qi _ _ _ _ _ _ (show W.drew.heap[w.heap.size+3]? =_ from HROW)
   have HR1:Hid _:=hr1
   have g2:(W.drew.setRow (w.heap.size+3) (Jv v true ⟨#[]⟩ 0 0)).cell? ⟨w.heap.size+1+1+1,2,none⟩=some (.string ⟨#[]⟩):=Ja hr1
   have g3:(W.drew.setRow (w.heap.size+3) (Jv v true ⟨#[]⟩ 0 0)).cell? ⟨w.heap.size+1+1+1,3,none⟩=some (.int .u64 0):=Ja hr1
   have g4:(W.drew.setRow (w.heap.size+3) (Jv v true ⟨#[]⟩ 0 0)).cell? ⟨w.heap.size+1+1+1,4,none⟩=some (.int .u8 0):=Ja hr1
   have fg:∀j,(W.drew.setRow (w.heap.size+3) (Jv v true ⟨#[]⟩ 0 0)).frozen? ⟨w.heap.size+1+1+1,j,none⟩=false:=λj=>Qg _ _ _ _ _ hr1
   clear hr1 hset1 c1 f1 s1
   obtain ⟨W1,(HW1:Hid _)⟩:∃W1,W1=W.drew.setRow (w.heap.size+3) (Jv v true ⟨#[]⟩ 0 0):=⟨_,rfl⟩
   rw [<-HW1] at g2 g3 g4 fg HR1 ⊢
   refine wpAnyH_done (by kernel_rfl) ?_ _
   show wpList _ _ _ [_] _ _
   go_wp2
   gi_wp2
   subst hKB'
   have hset:((W1.setCell ⟨w.heap.size+1+1+1,2,none⟩ (.string ⟨k'.toArray⟩)).setCell ⟨w.heap.size+1+1+1,3,none⟩ (.int .u64 (oa:Int))).setCell ⟨w.heap.size+1+1+1,4,none⟩ (.int .u8 (oo:Int))=(W.drewN 1).setRow (w.heap.size+3) (Jv v true ⟨k'.toArray⟩ oa oo):=by
    rw [Qj W1 (w.heap.size+3) 2 _ _ (0,0) _ HR1.o,Qj _ (w.heap.size+3) 3 _ _ (0,0) _ (Qi _ _ _ _ _ _ HR1.o),QI,Qj _ (w.heap.size+3) 4 _ _ (0,0) _ (Qi _ _ _ _ _ _ HR1.o),QI,HW1.o,QI]
    rfl
   have hlf:=HI.o.leaf (x:=(k',oa,oo)) HROW HPO (y:=y) (by rw [hyx]) 1
   rw [hset]
   exact ⟨hlf.1,rfl,hlf.2.2⟩
  | inr s=>
   obtain ⟨b,od⟩:=s
   obtain ⟨dg,nl,nr,cs,hbr,hb8,hor,hod⟩:=hx
   have hbr':=(hI.below.block x (Jb hbr)).trans hbr
   have hor':=(hI.below.block _ (Jb hor)).trans hor
   have hil:=ZE x dg b nl nr W hbr'
   obtain ⟨va,vc,hvs⟩:=hpo.shape
   subst hvs
   have hzW:=hI.below.size
   have HBES:Hid (∀X,Tch NoB W X->Calls prog 225 #[.pointer (some ⟨x,0,none⟩),.string ⟨k.toArray⟩] X λe w'=>e=.returned (.pointer (some ⟨if bt k b=0 then nr else nl,0,none⟩))/\Tch NoB W w'):=λX hT=>(Jf0 x dg b nl nr k hb8 hk2 X ((hT.block x (Jb hbr') (λh=>h)).trans hbr')).mono λe w' ⟨h1,m,h2⟩=>⟨h1,by rw [h2];exact hT.trans (Td NoB X m) (λ_ h=>.inl h)⟩
   have HC:Hid (∀X,Tch NoB W X->X.cell? ⟨w.heap.size+1+1+1,0,none⟩=some (.slice va (Jn pre).length vc)/\X.cell? ⟨w.heap.size+1,0,none⟩=some (.string ⟨k.toArray⟩)/\X.cell? ⟨x,4,none⟩=some (.int .i64 (b:Int))/\X.cell? ⟨if bt k b=0 then nr else nl,0,none⟩=some (.string od)):=λX hT=>by
    have hb:∀{j:Nat} {o:Obj},W.heap[j]? =some o->_:=λh=>(hT.block _ (Jb h) (λh=>h)).trans h
    exact ⟨Ja (hb hrow),Ja (hb hI.key),Ja (hb hbr'),(Ja (hb hor')).trans hod⟩
   have HI:Hid _:=hI
   have HROW:Hid _:=hrow
   have HPO:Hid (POwn w.heap.size W (.slice va (Jn pre).length vc) (Jn pre)):=hpo
   have HZW:Hid _:=hzW
   have HLEN:Hid ((Jn pre).length<=1000000):=by have:=JfO pre;exact (by omega:(Jn pre).length<=1000000)
   have HAPP:Hid (∀X,Tch NoB W X->∃va' vc' w3,(Builtin.append_ #[255,255] 255 #[.slice va (Jn pre).length vc,.slice (some ⟨X.heap.size,0,none⟩) 1 1]).run prog (X.alloc (.cells #[.int .i64 (b:Int),.string od] 366))=.ok (.slice va' ((Jn pre).length+1) vc') w3/\POwn w.heap.size w3 (.slice va' ((Jn pre).length+1) vc') (Jn pre++[(b,od)])/\(X.alloc (.cells #[.int .i64 (b:Int),.string od] 366)).grownBy w3 (Value.ownBlock (.slice va (Jn pre).length vc))/\w3.cell? ⟨w.heap.size+1+1+1,0,none⟩=some (.slice va (Jn pre).length vc)/\w3.frozen? ⟨w.heap.size+1+1+1,0,none⟩=false/\w3.heap[w.heap.size+3]? =some (.cells (Jv (.slice va (Jn pre).length vc) false ⟨#[]⟩ 0 0) 258)/\((w3.cell? ⟨w.heap.size+1,0,none⟩=some (.string ⟨k.toArray⟩)/\w3.cell? ⟨x,4,none⟩=some (.int .i64 (b:Int))/\w3.cell? ⟨if bt k b=0 then nr else nl,0,none⟩=some (.string od))/\w3.heap[w.heap.size+5]? =some (.cells #[.string ⟨k.toArray⟩] 9)/\Tch (λj=>some j=Value.ownBlock (.slice va (Jn pre).length vc)) W w3)):=λX hT=>by
    obtain ⟨i0,hi,hp⟩:=Option.map_eq_some_iff.1 Jh6
    simp only [Qw] at hp
    obtain ⟨hz0,hz1,hz2⟩:=hp
    have hTa:Tch NoB W (X.alloc (.cells #[.int .i64 (b:Int),.string od] 366)):=hT.trans (Ta NoB X _) noE
    have hzX:=hTa.size
    have hnrow:=Qf X (.cells #[.int .i64 (b:Int),.string od] 366)
    obtain ⟨v',w3,hr,h2,h3,_⟩:=run_append_own (P:=prog) (X.alloc (.cells #[.int .i64 (b:Int),.string od] 366)) w.heap.size 255 255 366 i0 _ 2 24 underlying255 hi hz0 hz1 hz2 rfl (by omega) (.slice va (Jn pre).length vc) (Jn pre).length (stpV (Jn pre)) (HPO.o.tch hTa (λ_ _ h=>h)) ⟨X.heap.size,0,none⟩ 1 1 (stpV [(b,od)]) rfl (λj u hu=>by
     rw [Addr.add_lit,Nat.zero_add,Ja hnrow,<-Array.getElem?_toList]
     exact hu) (JkC _) (by have:=HLEN.o;simp only [maxLen];omega) (by have:=HLEN.o;omega) (by have:=HZW.o;omega)
    have h2':POwn w.heap.size w3 v' (Jn pre++[(b,od)]):=by unfold POwn;rw [Qe,show stpV (Jn pre++[(b,od)])=stpV (Jn pre)++stpV [(b,od)] by simp [stpV]];exact h2
    obtain ⟨a',c',hv'⟩:=h2'.shape
    rw [Qe] at hv'
    have hv':=hv'
    subst hv'
    have hTg:=(hTa.mono noE).trans (Tg h3) (λ_ h=>.inl h)
    have hkeep:∀{j:Nat} {cs:Array Value} {T:TypeId},T ≠ 366->W.heap[j]? =some (.cells cs T)->_:=λhne h=>(hTg.block _ (Jb h) (λe=>by
     obtain ⟨_,cs,m,hc⟩:=HPO.o.own _ e.symm
     rw [h] at hc
     simp only [Qh,Obj.cells.injEq] at hc
     exact hne hc.2.1)).trans h
    have e3:=hkeep (by decide) HROW.o
    exact ⟨a',c',w3,hr,h2',h3,Ja e3,Qg _ _ _ _ _ e3,e3,⟨Ja (hkeep (by decide) HI.key),Ja (hkeep (by decide) hbr'),(Ja (hkeep (by decide) hor')).trans hod⟩,hkeep (by decide) HI.cap,hTg⟩
   have hmx:prog.follows .mixedOrders=true:=by kernel_rfl
   obtain ⟨d0,d1,d2,d3⟩:=HC W (Te _ _)
   clear hI hrow hpo hbr' hor' hbr hor c0 hzW
   generalize (if bt k b=0 then nr else nl)=oth at *
   gi_wp2
   refine ⟨trivial,(CallsIn.inRound l (callsIn_wide.2 hil)).mono ?_⟩
   rintro _ X ⟨rfl,hX⟩
   rw [hX]
   clear hil hX X
   generalize hKB:(⟨k.toArray⟩:BA)=kb at *
   gi_wp2
   have s0:=HC _ (Td NoB W 1)
   refine Yz (S:=(λ(X:World)=>X.cell? ⟨w.heap.size+1+1+1,0,none⟩=some (.slice va (Jn pre).length vc)/\X.cell? ⟨w.heap.size+1,0,none⟩=some (.string kb)/\X.cell? ⟨x,4,none⟩=some (.int .i64 (b:Int))/\X.cell? ⟨oth,0,none⟩=some (.string od))) 17 (by simp) (by kernel_rfl) (by kernel_rfl) (by simp) ?hq s0 (λhHeld l0 o0 hl0 ho0=>?_)
   case hq=>rintro ⟨_,_,h⟩;exact h
   simp only [List.dropLast,List.getLast_cons_cons,List.getLast_singleton] at hl0 ho0
   subst hl0;subst ho0
   refine tkL 0 ?_
   simp only [Act.put,Qa,Qb,Qc]
   refine tkL 1 ?_
   simp only [Act.put,Qa,Qb,Qc]
   refine tkL 2 ?_
   simp only [Act.put,Qa,Qb,Qc]
   refine tkL 3 ?_
   simp only [Act.put,Qa,Qb,Qc]
   refine tkL 4 ?_
   simp only [Act.put,Qa,Qb,Qc]
   refine tkL 5 ?_
   simp only [Act.put,Qa,Qb,Qc]
   refine tkL 6 ?_
   simp only [Act.put,Qa,Qb,Qc]
   refine tkL 7 ?_
   simp only [Act.put,Qa,Qb,Qc]
   refine YW (i:=8) rfl (by kernel_rfl) (λK hK=>?_)
   go_simp
   refine (HBES _ (Td NoB _ 1)).mono ?_
   rintro _ W2 ⟨rfl,hT2⟩
   have s2:=HC _ hT2
   refine hK _ _ s2 (λhHeld2=>?_)
   clear hK K hHeld
   try simp only [Act.put,Qa,Qb,Qc]
   refine tkL 9 ?_
   simp only [Act.put,Qa,Qb,Qc]
   refine tkL 10 ?_
   simp only [Act.put,Qa,Qb,Qc]
   refine tkL 11 ?_
   simp only [Act.put,Qa,Qb,Qc]
   refine tkL 12 ?_
   simp only [Act.put,Qa,Qb,Qc]
   refine YW (i:=13) rfl (by kernel_rfl) (λK hK=>?_)
   go_simp
   have s3:(λ(X:World)=>X.cell? ⟨w.heap.size+1+1+1,0,none⟩=some (.slice va (Jn pre).length vc)/\X.cell? ⟨w.heap.size+1,0,none⟩=some (.string kb)/\X.cell? ⟨x,4,none⟩=some (.int .i64 (b:Int))/\X.cell? ⟨oth,0,none⟩=some (.string od)) (W2.alloc (.cells #[.int .i64 (b:Int),.string od] 366)):=HC _ (hT2.trans (Ta NoB W2 _) noE)
   refine hK _ _ s3 (λhHeld3=>?_)
   clear hK K hHeld2
   try simp only [Act.put,Qa,Qb,Qc]
   obtain ⟨va',vc',w3,hrun,hown3,hg3,g0,g1,g2,gk,g5,hTw⟩:=HAPP W2 hT2
   refine YW (i:=14) rfl (by kernel_rfl) (λK hK=>?_)
   refine Jaf rfl _ _ 255 rfl rfl rfl hrun ?_
   have s4:(λ(X:World)=>X.cell? ⟨w.heap.size+1+1+1,0,none⟩=some (.slice va (Jn pre).length vc)/\X.cell? ⟨w.heap.size+1,0,none⟩=some (.string kb)/\X.cell? ⟨x,4,none⟩=some (.int .i64 (b:Int))/\X.cell? ⟨oth,0,none⟩=some (.string od)) w3:=⟨g0,gk⟩
   refine hK _ _ s4 (λhHeld4=>?_)
   clear hK K hHeld3
   try simp only [Act.put,Qa,Qb,Qc]
   refine tkL 15 ?_
   simp only [Act.put,Qa,Qb,Qc]
   refine wpAnyH_done (by kernel_rfl) ?_ _
   show wpList _ _ _ [_] _ _
   go_wp2
   exact HI.add HPO hTw hown3 g2 (by rw [hyx])
 case done=>
  rintro D ys W hD rfl hI hK
  have hds:ys=[]/\wy=([],none):=by
   rcases HWY with h | ⟨h1,h2⟩
   ·exact h
   ·exfalso
    cases hw2:wy.2 with
    | none=>exact h2 hw2
    | some x=>
     rw [hw2] at h1
     have:(Sum.inl x)∈ys.map (·.1.2):=by rw [h1];simp
     obtain ⟨y,hy,e⟩:=QK.1 this
     obtain ⟨s,hs⟩:=hI.brs y hy
     rw [hs] at e
     cases e
  obtain ⟨rfl,rfl⟩:=hds
  obtain ⟨v,hrow,hpo⟩:=hI.row
  have hbe:=hI.below
  have hres:=hI.res
  obtain ⟨va,vc,hvs⟩:=hpo.shape
  subst hvs
  clear hI
  obtain ⟨vn,mm,kb,oa,oo,e1,e2,e3,e4,e5⟩:∃(vn:Nat) (mm:Bool) (kb:BA) (oa oo:Nat),vn=(Jn ([]:List (XP w k))).length/\mm=false/\kb=⟨#[]⟩/\oa=0/\oo=0:=⟨_,_,_,_,_,rfl,rfl,rfl,rfl,rfl⟩
  rw [<-e1] at hpo
  have hrow:W.heap[w.heap.size+3]? =some (.cells (Jv (.slice va vn vc) mm kb oa oo) 258):=by rw [e1,e2,e3,e4,e5];exact hrow
  have HWV:Hid (Jv (.slice va vn vc) mm kb oa oo=Jv (.slice va vn vc) (([],none):Wy).2.isSome (wyK ([],none)) (wyO ([],none)).1 (wyO ([],none)).2):=by rw [e2,e3,e4,e5];rfl
  clear e1 e2 e3 e4 e5
  obtain ⟨c0,c1,c2,c3,c4⟩:=rows hrow
  obtain ⟨d0,d1,d2,d3,d4⟩:=rows hres
  have fd:∀j,W.frozen? ⟨w.heap.size+1+1,j,none⟩=false:=λj=>Qg _ _ _ _ _ hres
  have HRES:Hid _:=hres
  have HPO:Hid (POwn _ _ _ _):=hpo
  have HBE:Hid _:=hbe
  clear hres hpo hbe hrow HL HNE HWY r1 r2 r3 r4 r5 hI0
  gi_wp2
  rw [set5 _ _ _ _ _ _ _ _ _ _ _ _ _ HRES.o]
  have hne:D ≠ w.heap.size+2:=λe=>by rw [e,HRES.o] at hK;simp at hK
  have hK2:(W.setRow (w.heap.size+2) (Jv (.slice va vn vc) mm kb oa oo)).heap[D]? =some (.deferred (some [])):=(setRow_other _ _ _ _ hne).trans hK
  have hrow2:(W.setRow (w.heap.size+2) (Jv (.slice va vn vc) mm kb oa oo)).heap[w.heap.size+2]? =some (.cells (Jv (.slice va vn vc) mm kb oa oo) 258):=Qi _ _ _ _ _ _ HRES.o
  have hg:=grownBy_putObj' (W.setRow (w.heap.size+2) (Jv (.slice va vn vc) mm kb oa oo)) D (.deferred none)
  have hr':∀r,some D=some r->∃o:Obj,(W.setRow (w.heap.size+2) (Jv (.slice va vn vc) mm kb oa oo)).heap[r]? =some o/\o.isCells=false:=λr e=>by cases e;exact ⟨_,hK2,rfl⟩
  refine ⟨by simp,.inl ⟨_,_,rfl,run_takeDeferred hK2,?_⟩⟩
  refine ⟨_,Qq results147 _ _ (w.heap.size+2) _ _ (0,0) _ rfl (Xb hrow2 hg hr') underlying258 rfl (by kernel_rfl),⟨⟨_,congrArg (λx=>Ending.returned (.agg x)) HWV,?_⟩,?_⟩⟩
  ·refine (HPO.tch (Ts W (w.heap.size+2) (Jv (.slice va vn vc) mm kb oa oo)) (λj hj e=>?_)).kept hg hr'
   obtain ⟨_,cs,m,hc⟩:=HPO.own _ hj
   rw [e,HRES.o] at hc
   simp only [Qh,Obj.cells.injEq] at hc
   exact absurd hc.2.1 (by decide)
  ·refine HBE.trans ?_
   have t1:Below w.heap.size W (W.setRow (w.heap.size+2) (Jv (.slice va vn vc) mm kb oa oo)):=(Ts W (w.heap.size+2) _).below HBE.size (λj hj=>by omega)
   exact t1.trans (belowK_b (w:=w) (Ql _) _ D _ _ (by omega) hK2 rfl rfl)
 case stop=>
  rintro D c pre W hD hpre ⟨rfl,hX⟩ hK
  obtain ⟨q0,y,v,x,e1,e2,e3,hrow,hpo⟩:=hX.row
  have hbe:=hX.below
  have hres:=hX.res
  have hwy:=JlT hpre e1 e2 e3 HWY.o
  obtain ⟨va,vc,hvs⟩:=hpo.shape
  subst hvs
  subst hwy
  clear hX hpre e1 e2 e3
  obtain ⟨vn,mm,kb,oa,oo,e1,e2,e3,e4,e5⟩:∃(vn:Nat) (mm:Bool) (kb:BA) (oa oo:Nat),vn=(Jn q0).length/\mm=true/\kb=⟨x.1.toArray⟩/\oa=x.2.1/\oo=x.2.2:=⟨_,_,_,_,_,rfl,rfl,rfl,rfl,rfl⟩
  rw [<-e1] at hpo
  have hrow:W.heap[w.heap.size+3]? =some (.cells (Jv (.slice va vn vc) mm kb oa oo) 258):=by rw [e1,e2,e3,e4,e5];exact hrow
  have HWV:Hid (Jv (.slice va vn vc) mm kb oa oo=Jv (.slice va vn vc) ((Jn q0,some x):Wy).2.isSome (wyK (Jn q0,some x)) (wyO (Jn q0,some x)).1 (wyO (Jn q0,some x)).2):=by rw [e2,e3,e4,e5];rfl
  clear e1 e2 e3 e4 e5
  obtain ⟨c0,c1,c2,c3,c4⟩:=rows hrow
  obtain ⟨d0,d1,d2,d3,d4⟩:=rows hres
  have fd:∀j,W.frozen? ⟨w.heap.size+1+1,j,none⟩=false:=λj=>Qg _ _ _ _ _ hres
  have HRES:Hid _:=hres
  have HPO:Hid (POwn _ _ _ _):=hpo
  have HBE:Hid _:=hbe
  clear hres hpo hbe hrow HL HNE HWY r1 r2 r3 r4 r5 hI0
  gi_wp2
  rw [set5 _ _ _ _ _ _ _ _ _ _ _ _ _ HRES.o]
  have hne:D ≠ w.heap.size+2:=λe=>by rw [e,HRES.o] at hK;simp at hK
  have hK2:(W.setRow (w.heap.size+2) (Jv (.slice va vn vc) mm kb oa oo)).heap[D]? =some (.deferred (some [])):=(setRow_other _ _ _ _ hne).trans hK
  have hrow2:(W.setRow (w.heap.size+2) (Jv (.slice va vn vc) mm kb oa oo)).heap[w.heap.size+2]? =some (.cells (Jv (.slice va vn vc) mm kb oa oo) 258):=Qi _ _ _ _ _ _ HRES.o
  have hg:=grownBy_putObj' (W.setRow (w.heap.size+2) (Jv (.slice va vn vc) mm kb oa oo)) D (.deferred none)
  have hr':∀r,some D=some r->∃o:Obj,(W.setRow (w.heap.size+2) (Jv (.slice va vn vc) mm kb oa oo)).heap[r]? =some o/\o.isCells=false:=λr e=>by cases e;exact ⟨_,hK2,rfl⟩
  refine ⟨by simp,.inl ⟨_,_,rfl,run_takeDeferred hK2,?_⟩⟩
  refine ⟨_,Qq results147 _ _ (w.heap.size+2) _ _ (0,0) _ rfl (Xb hrow2 hg hr') underlying258 rfl (by kernel_rfl),⟨⟨_,congrArg (λx=>Ending.returned (.agg x)) HWV,?_⟩,?_⟩⟩
  ·refine (HPO.tch (Ts W (w.heap.size+2) (Jv (.slice va vn vc) mm kb oa oo)) (λj hj e=>?_)).kept hg hr'
   obtain ⟨_,cs,m,hc⟩:=HPO.own _ hj
   rw [e,HRES.o] at hc
   simp only [Qh,Obj.cells.injEq] at hc
   exact absurd hc.2.1 (by decide)
  ·refine HBE.trans ?_
   have t1:Below w.heap.size W (W.setRow (w.heap.size+2) (Jv (.slice va vn vc) mm kb oa oo)):=(Ts W (w.heap.size+2) _).below HBE.size (λj hj=>by omega)
   exact t1.trans (belowK_b (w:=w) (Ql _) _ D _ _ (by omega) hK2 rfl rfl)
open Go.RowKit

theorem JkM (wd:Nat) (hw:wd<=32) (F:Nat->Prop) (q:Option Nat) (st:Option Tr) (k:Key) (hk:k.length=wd+1) (w:World) (hs:StAt (dgW wd) F w q st) (hok:∀t,st=some t->t.Wf/\TrOk wd t):
  Calls prog 147 #[Jt wd q,.string ⟨k.toArray⟩] w λe W'=>WayV w.heap.size W' (Yx (dgW wd) k st) e/\Tch NoB w W':=by
 have HT:∀{W':World},Below w.heap.size w W'->Tch NoB w W':=λh=>(Tch.of_below h).mono (λ_ hj=>.inr hj)
 cases st with
 | none=>
  obtain rfl:=hs.of_none
  exact (callsIn_wide.1 (JfW (wd:Int) none k (by omega) (by omega) w [] (by simp) rfl ([],none) (by simp) (.inl ⟨rfl,rfl⟩))).mono λe W' h=>⟨h.1,HT h.2⟩
 | some t=>
  obtain ⟨n,rfl,hn⟩:=hs.of_some
  obtain ⟨_,h2⟩:=hok t rfl
  obtain ⟨ds,hL,hd⟩:=hn.wayD hk h2
  have hlen:=congrArg List.length hd
  simp only [QL,Qe,Qp,Qv] at hlen
  have h3:(t.way (dgW wd) k).1.length<=8 * (wd+1):=(JcZ (dgW wd) wd (Jp wd hw) k (some t) hok).len
  refine (callsIn_wide.1 (JfW (wd:Int) (some n) k (by omega) (by omega) w ds (by omega) hL ((t.way (dgW wd) k).1,some (t.way (dgW wd) k).2) ?_ (.inr ⟨hd,λe=>(by cases e)⟩))).mono λe W' h=>⟨h.1,HT h.2⟩
  constructor
  ·intro e
   rw [e] at hlen
   simp at hlen
  ·intro e
   cases e
theorem Xt {wd:Nat} {c:BA×Int} (hc:Ji wd c):(Jd c).length=wd+1:=(Jbv hc (o:=(0,0)) ⟨by decide,by decide⟩).1
theorem JlU (E:Nat->Addr) (b:Nat) (hb12:18<=b) (wd:Nat) (hw:wd<=32) (wy:Wy) (hok:WyOk wd wy) (v:Value) (w:World) (hE:Env E w) (hp:Jc w b none (wd:Int) .nilIface (.wr [])) (base:Nat) (hb:b<base) (hv:POwn base w v wy.1):
  Calls prog 146 #[.pointer (some ⟨b,0,none⟩),.agg (Jv v wy.2.isSome (wyK wy) (wyO wy).1 (wyO wy).2)] w λe w'=>∃r g',e=.returned r/\Jg E w' b g' (wd:Int) (some (.wr (wayB wy)))/\Tch (λk=>k=b\/some k=none) w w':=by
 obtain ⟨v1,v3,rfl⟩:=hv.shape
 have ho:(wyO wy).2<256:=by
  unfold wyO
  cases h:wy.2 with
  | none=>decide
  | some x=>exact (hok.key x h).2.2.2
 refine (JkN E b hb12 none wd hw v1 wy.1.length v3 wy.1 wy.2.isSome (wyK wy) (wyO wy).1 (wyO wy).2 ho (.wr []) w hE hp hv.vat ?_ (by have:=hok.len;omega) (λs hs=>by have:=(hok.steps s hs).1;omega) ?_ (by simp [PS.len])).mono ?_
 ·intro a n c e
  simp only [Qy] at e
  obtain ⟨rfl,_,_⟩:=e
  exact ⟨λe=>by have:=(hv.own _ rfl).1;omega,λe=>by cases e⟩
 ·simp [PS.takes]
 ·rintro e w' ⟨x1,x2,x3,m,k,a,o,g',rfl,h1,_,h3,_⟩
  rw [JmT (by omega) hok] at h1
  exact ⟨_,g',rfl,h1,h3⟩
theorem Jke (E:Nat->Addr) (wd:Nat) (hw:wd<=32) (F:Nat->Prop) (q:Option Nat) (st:Option Tr) (c:BA×Int) (hc:Ji wd c) (w:World) (hE:Env E w) (hs:StAt (dgW wd) F w q st) (hok:∀t,st=some t->t.Wf/\TrOk wd t):
  Calls prog 93 #[Jt wd q,.agg #[.string c.1,.int .i64 c.2]] w λe w'=>e=.returned (.tuple #[.string ⟨(wayB (Yx (dgW wd) (Jd c) st)).toArray⟩,.nilIface])/\Tch NoB w w':=by
 have hsz:=hE.size
 have HSZ:Hid (18<=w.heap.size):=hsz
 have HE:Hid (Env E w):=hE
 have HOK:=JcZ (dgW wd) wd (Jp wd hw) (Jd c) st hok
 have HK:Hid (∀W,Tch NoB w W->_):=λW hT=>Jaz E wd hw c hc W (hE.tch hT noE)
 have HWT:Hid (∀W,Tch NoB w W->_):=λW hT=>JkM wd hw F q st (Jd c) (Xt hc) W (hs.next hT) hok
 generalize Yx (dgW wd) (Jd c) st=wy at *
 have HWY:Hid (WyOk wd wy):=HOK
 obtain ⟨rv,hrv⟩:∃rv,rv=(q.map λn=>(⟨n,0,none⟩:Addr)):=⟨_,rfl⟩
 have e0:Jh q=.pointer rv:=by rw [hrv]
 have e1:Jt wd q=.agg #[.int .i64 (wd:Int),.pointer rv]:=by show Value.agg _=_;rw [e0]
 rw [e1] at HWT ⊢
 obtain ⟨s,N⟩:=c
 dsimp only at HK ⊢
 generalize (⟨(Jd (s,N)).toArray⟩:BA)=kb at *
 go_enter func93,ntmps93
 go_wp2_with fail
 refine (HK _ (Tch.allocs NoB w _ _)).mono ?_
 rintro _ w1 ⟨rfl,ht1⟩
 have hB0:=heap_alloc2_old w (.cells #[.int .i64 (wd:Int),.pointer rv] 146) (.cells #[.string s,.int .i64 N] 49)
 have hT1:=(Tch.allocs NoB w _ _).trans ht1 noE
 have r1:=(ht1.block _ (by simp;omega) (λh=>h)).trans hB0
 have hz1:w.heap.size+2<=w1.heap.size:=by have:=ht1.size;simp at this;omega
 obtain ⟨c0,c1⟩:=rows r1
 have HT1:Hid _:=hT1
 have HZ1:Hid (w.heap.size+2<=w1.heap.size):=hz1
 have R1:Hid _:=r1
 go_wp2_with fail
 refine (JY _ _).mono ?_
 rintro _ w2 ⟨rfl,hp2,ht2⟩
 have hT2:=HT1.trans ht2 noE
 have r2:=(ht2.block _ (by have:=HZ1.o;omega) (λh=>h)).trans R1.o
 obtain ⟨c0,c1⟩:=rows r2
 have HT2:Hid (Tch NoB w w2):=hT2
 have HP2:Hid (Jc w2 w1.heap.size none (wd:Int) .nilIface (.wr [])):=hp2
 generalize hbb:w1.heap.size=b at *
 have HBB:Hid _:=hbb
 have HWW:Hid (∀W v,Tch NoB w2 W->POwn w2.heap.size W v wy.1->Calls prog 146 _ W _):=λW v hT hv=>JlU E b (by have:=HZ1.o;have:=HSZ.o;omega) wd hw wy HWY.o v W ((HE.o.tch HT2.o noE).tch hT noE) (HP2.o.tch hT (λh=>h) (λ_ _ h=>h)) w2.heap.size HP2.o.lt hv
 go_wp2_with fail
 go_region_with (first
  | (go_at_call 147;refine (HWT _ (HT2.trans (Td NoB w2 1) noE)).mono ?_;rintro _ w3 ⟨⟨v,rfl,(HV:Hid _)⟩,ht3⟩;have HT3:Hid _:=(Td NoB w2 1).trans ht3 noE;clear ht3)
  | (go_at_call 146;refine (HWW _ _ HT3 HV).mono ?_;rintro _ w4 ⟨r,g',rfl,(HP4:Hid _),(HT4:Hid _)⟩))
 all_goals
  have HT5:Hid _:=(HT2.trans HT3 noE).trans HT4 (λj hj=>by
   rcases hj with rfl | hj
   ·exact .inr (by have:=HZ1.o;omega)
   ·cases hj)
  have HR:Hid (Calls prog 79 _ w4 _):=ZM E b g' wd (some (.wr (wayB wy))) (λp hp=>by cases hp;exact ⟨_,rfl⟩) w4 HP4.o
  go_wp2_with fail
  refine HR.o.mono ?_
  rintro _ w5 ⟨ht5,rfl⟩
  have HT6:Hid _:=HT5.trans ht5 noE
  go_wp2
  go_ret2
  exact ⟨rfl,HT6⟩
