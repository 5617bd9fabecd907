import Derived.Test.YtighkdnooglfjaaGreatDoorNcWyW
import Derived.Test.YtighkdnooglfjaaGreatDoorNcTree6
namespace Go.Proofs.YtighkdnooglfjaaGreatDoor

def XG (s:Stp):List UInt8:=beL s.1 2 2++s.2.data.toList
def endB:Option KO->List UInt8
 | none=>[]
 | some (k,o)=>k++outB o
def wayB (wy:Wy):List UInt8:=beL wy.1.length 2 2++(wy.1.flatMap XG++endB wy.2)
def YY (wd:Nat) (s:Stp):Prop:=s.1<8 * (wd+1)/\s.2.size=wd
structure WyOk (wd:Nat) (wy:Wy):Prop where
 steps:∀s∈wy.1,YY wd s
 rise:Ym wy.1 wy.1.length
 len:wy.1.length<=8 * (wd+1)
 bare:wy.2=none->wy.1=[]
 key:∀x,wy.2=some x->x.1.length=wd+1/\(x.1.getD wd 0).toNat<3/\Jr x.2
theorem Jdb (x:BA):(⟨x.data.toList.toArray⟩:BA)=x:=by cases x;simp
theorem Jk7 {wd:Nat} (hw:wd<=1000) {s:Stp} (h:YY wd s) (d:List UInt8):PS.step wd s (.wr d)=some (s,.wr (d++XG s)):=by
 obtain ⟨h1,h2⟩:=h
 unfold PS.step
 rw [(XM s.1 2 0 (by omega)).wr]
 dsimp only
 rw [if_neg (by omega),(Zj s.2.data.toList [] wd (by rw [<-h2];simp)).wr]
 dsimp only
 rw [Jdb,Qs];rfl
theorem Jk5 {wd:Nat} (hw:wd<=1000) {s:Stp} (z:Stp) (h:YY wd s) (q r:List UInt8):PS.step wd z (.rd q (XG s++r))=some (s,.rd (q++XG s) r):=by
 obtain ⟨h1,h2⟩:=h
 unfold PS.step XG
 rw [Qs,(XM s.1 2 z.1 (by omega)).rd]
 dsimp only
 rw [if_neg (by omega),(Zj s.2.data.toList z.2.data.toList wd (by rw [<-h2];simp)).rd]
 dsimp only
 rw [Jdb,Qs]
theorem Jj5 {wd:Nat} (hw:wd<=1000):∀(l:List Stp) (_:∀s∈l,YY wd s) (d:List UInt8),PS.many (ZQ wd).f l (.wr d)=some (l,.wr (d++l.flatMap XG)):=by
 intro l
 induction l with
 | nil=>intro _ d;simp [PS.many]
 | cons s l ih=>
  intro h d
  simp only [PS.many,QG]
  rw [show (ZQ wd).f s (.wr d)=PS.step wd s (.wr d) from rfl,Jk7 hw (h s (by simp))]
  dsimp only
  rw [ih (λs hs=>h s (by simp [hs])),Qs]
theorem Jj4 {wd:Nat} (hw:wd<=1000):∀(l:List Stp) (_:∀s∈l,YY wd s) (q r:List UInt8),PS.many (ZQ wd).f (List.replicate l.length (0,⟨#[]⟩)) (.rd q (l.flatMap XG++r))=some (l,.rd (q++l.flatMap XG) r):=by
 intro l
 induction l with
 | nil=>intro _ q r;simp [PS.many]
 | cons s l ih=>
  intro h q r
  simp only [Qp,List.replicate_succ,PS.many,QG,Qs]
  rw [show (ZQ wd).f ((0,⟨#[]⟩):Stp) _=PS.step wd ((0,⟨#[]⟩):Stp) _ from rfl,Jk5 hw _ (h s (by simp))]
  dsimp only
  rw [ih (λs hs=>h s (by simp [hs])),Qs]
theorem JkR {wd:Nat} (hw:wd<=1000) (l:List Stp) (h:∀s∈l,YY wd s) (hl:l.length<=8 * (wd+1)) (d:List UInt8):PS.lstS wd l (.wr d)=some (l,.wr (d++(beL l.length 2 2++l.flatMap XG))):=by
 unfold PS.lstS PS.lst
 rw [(XM l.length 2 0 (by omega)).wr]
 dsimp only
 rw [if_neg (by omega)]
 have e:Ju ((0,⟨#[]⟩):Stp) l l.length=l:=by unfold Ju;cases l <;> simp
 rw [e,Jj5 hw l h,Qs]
theorem JkQ {wd:Nat} (hw:wd<=1000) (l:List Stp) (h:∀s∈l,YY wd s) (hl:l.length<=8 * (wd+1)) (q r:List UInt8):PS.lstS wd [] (.rd q (beL l.length 2 2++(l.flatMap XG++r)))=some (l,.rd (q++(beL l.length 2 2++l.flatMap XG)) r):=by
 unfold PS.lstS PS.lst
 rw [Qv,(XM l.length 2 0 (by omega)).rd]
 dsimp only
 rw [if_neg (by omega)]
 have e:Ju ((0,⟨#[]⟩):Stp) [] l.length=List.replicate l.length (0,⟨#[]⟩):=by simp [Ju]
 rw [e,Jj4 hw l h,Qs]
theorem Jmo {wd:Nat} (k:BA) (o:Nat×Nat) (h1:k.data.toList.length=wd+1) (h2:(k.data.toList.getD wd 0).toNat<3) (h3:Jr o) (d:List UInt8):Jt wd k o (some (.wr d))=((k.data.toList,o),some (.wr (d++(k.data.toList++outB o)))):=by
 have e1:=JF ((Zj k.data.toList [] (wd+1) h1).wr d)
 have e2:Yk wd k.data.toList (some (.wr d))=(k.data.toList,some (.wr (d++k.data.toList))):=by unfold Yk;rw [e1];dsimp only;rw [if_neg (by omega)]
 have e3:Jz o.1 8 (some (.wr (d++k.data.toList)))=(o.1,some (.wr (d++k.data.toList++beL o.1 8 8))):=JL ((XM o.1 8 0 (by have:=h3.1;omega)).wr _)
 have e4:Jz o.2 1 (some (.wr (d++k.data.toList++beL o.1 8 8)))=(o.2,some (.wr (d++k.data.toList++beL o.1 8 8++beL o.2 1 1))):=JL ((XM o.2 1 0 (by have:=h3.2;omega)).wr _)
 unfold Jt stO
 rw [e2]
 dsimp only
 rw [e3]
 dsimp only
 rw [e4]
 simp [outB,List.append_assoc]
theorem Jmn {wd:Nat} (k z:BA) (o y:Nat×Nat) (h1:k.data.toList.length=wd+1) (h2:(k.data.toList.getD wd 0).toNat<3) (h3:Jr o) (q r:List UInt8):Jt wd z y (some (.rd q (k.data.toList++outB o++r)))=((k.data.toList,o),some (.rd (q++(k.data.toList++outB o)) r)):=by
 have e1:Ji z.data.toList (wd+1) (some (.rd q (k.data.toList++(outB o++r))))=(k.data.toList,some (.rd (q++k.data.toList) (outB o++r))):=JF ((Zj k.data.toList z.data.toList (wd+1) h1).rd q _)
 have e2:Yk wd z.data.toList (some (.rd q (k.data.toList++(outB o++r))))=(k.data.toList,some (.rd (q++k.data.toList) (outB o++r))):=by unfold Yk;rw [e1];dsimp only;rw [if_neg (by omega)]
 have e3:Jz y.1 8 (some (.rd (q++k.data.toList) (outB o++r)))=(o.1,some (.rd (q++k.data.toList++beL o.1 8 8) (beL o.2 1 1++r))):=by unfold outB;rw [Qs];exact JL ((XM o.1 8 y.1 (by have:=h3.1;omega)).rd _ _)
 have e4:Jz y.2 1 (some (.rd (q++k.data.toList++beL o.1 8 8) (beL o.2 1 1++r)))=(o.2,some (.rd (q++k.data.toList++beL o.1 8 8++beL o.2 1 1) r)):=JL ((XM o.2 1 y.2 (by have:=h3.2;omega)).rd _ _)
 unfold Jt stO
 rw [Qs,e2]
 dsimp only
 rw [e3]
 dsimp only
 rw [e4]
 simp [outB,List.append_assoc]
def wyK (wy:Wy):BA:=match wy.2 with | none=>⟨#[]⟩ | some x=>⟨x.1.toArray⟩
def wyO (wy:Wy):Nat×Nat:=match wy.2 with | none=>(0,0) | some x=>x.2
theorem Jl9 {wd:Nat} (hw:wd<=1000) {wy:Wy} (h:WyOk wd wy) (d:List UInt8):PS.way wd wy.1 wy.2.isSome (wyK wy) (wyO wy) (.wr d)=some (wy,.wr (d++wayB wy)):=by
 obtain ⟨l,e⟩:=wy
 unfold PS.way
 rw [JkR hw l h.steps h.len]
 dsimp only
 have hr:Xa l (some (PS.wr (d++(beL l.length 2 2++l.flatMap XG))))=some (PS.wr (d++(beL l.length 2 2++l.flatMap XG))):=by unfold Xa;rw [if_pos h.rise]
 rw [hr]
 cases e with
 | none=>
  obtain rfl:l=[]:=h.bare rfl
  rw [if_pos ⟨rfl,rfl⟩]
  simp [wayB,endB]
 | some x=>
  obtain ⟨k,o⟩:=x
  obtain ⟨h1,h2,h3⟩:=h.key _ rfl
  rw [if_neg (by simp [Zk])]
  have e1:=Jmo (wd:=wd) ⟨k.toArray⟩ o h1 h2 h3 (d++(beL l.length 2 2++l.flatMap XG))
  simp only [wyK,wyO]
  rw [e1]
  simp [wayB,endB,List.append_assoc]
theorem Jkj {wd:Nat} (hw:wd<=1000) {wy:Wy} (h:WyOk wd wy) (k:BA) (o:Nat×Nat) (q:List UInt8):PS.way wd [] false k o (.rd q (wayB wy))=some (wy,.rd (q++wayB wy) []):=by
 obtain ⟨l,e⟩:=wy
 unfold PS.way
 have e0:wayB (l,e)=beL l.length 2 2++(l.flatMap XG++endB e):=rfl
 rw [e0,JkQ hw l h.steps h.len]
 dsimp only
 have hr:∀p,Xa l (some p)=some p:=λp=>by unfold Xa;rw [if_pos h.rise]
 rw [hr]
 cases e with
 | none=>
  obtain rfl:l=[]:=h.bare rfl
  rw [if_pos ⟨rfl,by simp [Zk,endB]⟩]
  simp [endB]
 | some x=>
  obtain ⟨k',o'⟩:=x
  obtain ⟨h1,h2,h3⟩:=h.key _ rfl
  rw [if_neg (by simp [Zk,endB];intro _ h;exact absurd h (by intro e;simp [e] at h1))]
  have e1:=Jmn (wd:=wd) ⟨k'.toArray⟩ k o' o h1 h2 h3 (q++(beL l.length 2 2++l.flatMap XG)) []
  simp only [QC] at e1
  simp only [endB]
  rw [e1]
  simp [List.append_assoc]
theorem Tr.bit_lt {b b':Nat} {l' r' t r:Tr} (ht:t=.br b' l' r') (h:(Tr.br b t r).Wf\/(Tr.br b r t).Wf):b<b':=by
 subst ht
 obtain ⟨x,hx⟩:=List.exists_mem_of_ne_nil _ (Tr.coins_ne l')
 obtain ⟨y,hy⟩:=List.exists_mem_of_ne_nil _ (Tr.coins_ne r')
 apply Nat.lt_of_not_le
 intro hle
 rcases h with ⟨⟨_,_,h0,h1,_⟩,_,k0,k1,k2⟩ | ⟨_,⟨_,_,h0,h1,_⟩,k0,k1,k2⟩
 ·have e0:=h0 x hx
  have e1:=h1 y hy
  by_cases he:b'=b
  ·subst he
   have:=k0 y (by simp [Tr.coins,hy])
   omega
  ·have:=k2 x (by simp [Tr.coins,hx]) y (by simp [Tr.coins,hy]) b' (by omega)
   omega
 ·have e0:=h0 x hx
  have e1:=h1 y hy
  by_cases he:b'=b
  ·subst he
   have:=k1 x (by simp [Tr.coins,hx])
   omega
  ·have:=k2 x (by simp [Tr.coins,hx]) y (by simp [Tr.coins,hy]) b' (by omega)
   omega
theorem Jdy {s:Stp} {l:List Stp} (h:Ym l l.length) (hs:∀x,l.head? =some x->s.1<x.1):Ym (s :: l) (s :: l).length:=by
 intro i h1 h2 x y hx hy
 obtain ⟨j,rfl⟩:∃j,i=j+1:=⟨i - 1,by omega⟩
 simp only [Nat.add_sub_cancel,List.getElem?_cons_succ] at hx hy
 cases j with
 | zero=>
  simp only [List.getElem?_cons_zero,Qh] at hx
  subst hx
  exact hs y (by rw [List.head?_eq_getElem?];exact hy)
 | succ j=>
  simp only [List.getElem?_cons_succ] at hx
  exact h (j+1) (by omega) (by simp at h2;omega) x y (by simpa using hx) hy
theorem Tr.way_head (d:List UInt8->BA) (k:Key) (t:Tr) (x:Stp) (h:(t.way d k).1.head? =some x):∃l r,t=.br x.1 l r:=by
 cases t using Tr.ri with
 | leaf=>simp [way] at h
 | br b l r=>
  simp only [way] at h
  split at h
  ·simp at h;subst h;exact ⟨l,r,rfl⟩
  ·simp at h;subst h;exact ⟨l,r,rfl⟩
theorem Tr.way_rise (d:List UInt8->BA) (k:Key) (t:Tr) (hw:t.Wf):Ym (t.way d k).1 (t.way d k).1.length:=by
 induction t using Tr.ri with
 | leaf=>intro i h1 h2;simp [way] at h2
 | br b l r ihl ihr=>
  have hw':=hw
  obtain ⟨w1,w2,_⟩:=hw
  simp only [way]
  split
  ·refine Jdy (ihl w1) (λx hx=>?_)
   obtain ⟨l',r',e⟩:=Tr.way_head d k l x hx
   exact Tr.bit_lt e (.inl hw')
  ·refine Jdy (ihr w2) (λx hx=>?_)
   obtain ⟨l',r',e⟩:=Tr.way_head d k r x hx
   exact Tr.bit_lt e (.inr hw')
theorem Tr.way_steps (d:List UInt8->BA) (wd:Nat) (hd:∀l,(d l).size=wd) (k:Key) (t:Tr) (h:TrOk wd t):∀s∈(t.way d k).1,YY wd s:=by
 induction t using Tr.ri with
 | leaf=>intro s hs;cases hs
 | br b l r ihl ihr=>
  obtain ⟨hb,h1,h2⟩:=h
  intro s hs
  simp only [way] at hs
  split at hs
  ·simp only [List.mem_cons] at hs
   rcases hs with rfl | hs
   ·exact ⟨hb,by rw [Tr.dig_text,hd]⟩
   ·exact ihl h1 s hs
  ·simp only [List.mem_cons] at hs
   rcases hs with rfl | hs
   ·exact ⟨hb,by rw [Tr.dig_text,hd]⟩
   ·exact ihr h2 s hs
theorem Tr.near_ok (wd:Nat) (k:Key) (t:Tr) (h:TrOk wd t):(t.near k).1.length=wd+1/\((t.near k).1.getD wd 0).toNat<3/\Jr (t.near k).2:=by
 induction t using Tr.ri with
 | leaf=>exact h
 | br b l r ihl ihr=>
  obtain ⟨_,h1,h2⟩:=h
  simp only [near]
  split
  ·exact ihl h1
  ·exact ihr h2
theorem JjR (n:Nat) (l:List Stp) (h:Ym l l.length) (hb:∀s∈l,s.1<n):l.length<=n:=by
 have key:∀i (hi:i<l.length),i<=l[i].1:=by
  intro i
  induction i with
  | zero=>intro _;omega
  | succ i ih=>
   intro hi
   have h1:=ih (by omega)
   have h2:=h (i+1) (by omega) hi l[i] l[i+1] (by simp) (by simp)
   omega
 by_cases h0:l.length=0
 ·omega
 ·have h1:=key (l.length - 1) (by omega)
  have h2:=hb l[l.length - 1] (Qx _)
  omega
theorem Jbd (d:List UInt8->BA) (wd:Nat) (hd:∀l,(d l).size=wd) (k:Key) (st:Option Tr) (hw:∀t,st=some t->t.Wf/\TrOk wd t):WyOk wd (Ye d k st):=by
 cases st with
 | none=>exact ⟨λs hs=>(by cases hs),λi h1 h2=>(by simp [Ye] at h2),by simp [Ye],λ_=>rfl,λx hx=>(by cases hx)⟩
 | some t=>
  obtain ⟨h1,h2⟩:=hw t rfl
  have hs:=Tr.way_steps d wd hd k t h2
  exact ⟨hs,Tr.way_rise d k t h1,JjR _ _ (Tr.way_rise d k t h1) (λs h=>(hs s h).1),λh=>(by cases h),λx hx=>(by cases hx;rw [Tr.way_near];exact Tr.near_ok wd k t h2)⟩
theorem Jjf {wd:Nat}:∀(l:List Stp),(∀s∈l,YY wd s)->(l.flatMap XG).length=(wd+2) * l.length:=by
 intro l
 induction l with
 | nil=>intro _;rfl
 | cons s l ih=>
  intro h
  have h1:=(h s (by simp)).2
  have e:s.2.data.toList.length=wd:=by rw [<-h1];simp
  rw [QG,Qe,ih (λs hs=>h s (by simp [hs])),XG,Qe,Jg,e,Qp,Nat.mul_add]
  omega
theorem JcR {wd:Nat} {wy:Wy} (h:WyOk wd wy):(wayB wy).length<=2+8 * (wd+1) * (2+wd)+wd+10:=by
 obtain ⟨l,e⟩:=wy
 have h1:=Jjf l h.steps
 have h2:=h.len
 simp only at h2
 have h3:(wd+2) * l.length<=(wd+2) * (8 * (wd+1)):=Nat.mul_le_mul_left _ h2
 have h4:(wd+2) * (8 * (wd+1))=8 * (wd+1) * (2+wd):=by rw [Nat.mul_comm,Nat.add_comm wd 2]
 simp only [wayB,Qe,Jg,h1]
 cases e with
 | none=>simp [endB];omega
 | some x=>
  obtain ⟨k,o⟩:=x
  have:=(h.key _ rfl).1
  simp only at this
  simp only [endB,Qe,outB,Jg]
  omega
open Go.Proofs.Tryz
set_option maxRecDepth 100000
set_option maxHeartbeats 400000
open Go.RowKit Go.Shelf

attribute [local go_sem] Oper.semAt_some

theorem JfK (n:Nat) (dg:BA) (b nl nr:Nat) (k:Key) (hk:b<8 * k.length) (hk2:k.length<=1000000) (w:World) (h:w.heap[n]? =some (.cells (brC dg b nl nr) 243)):
  Calls prog 225 #[.pointer (some ⟨n,0,none⟩),.string ⟨k.toArray⟩] w λe w'=>e=.returned (.pointer (some ⟨if bt k b=0 then nr else nl,0,none⟩))/\∃m,w'=w.drewN m:=by
 obtain ⟨-, -, -, -,c4,c5,c6⟩:=rows h
 have HB:Hid (∀W,_):=λW=>Xw k b hk hk2 W
 have hb:=YA k b
 generalize (⟨k.toArray⟩:BA)=kb at *
 generalize bt k b=a at *
 obtain rfl | rfl:a=0\/a=1:=by omega
 ·rw [if_pos rfl]
  go_enter func225,ntmps225
  go_wp2
  go_region_with (go_at_call 288;refine (HB _).mono ?_;rintro _ _ ⟨rfl,rfl⟩)
  all_goals go_wp2
  all_goals go_ret
  all_goals exact ⟨rfl,1,rfl⟩
 ·rw [if_neg (by decide)]
  go_enter func225,ntmps225
  go_wp2
  go_region_with (go_at_call 288;refine (HB _).mono ?_;rintro _ _ ⟨rfl,rfl⟩)
  all_goals go_wp2
  all_goals go_ret
  all_goals exact ⟨rfl,1,rfl⟩

def stpC (h:Stp):List Value:=[.int .i64 (h.1:Int),.string h.2]
def stpV (l:List Stp):List Value:=l.flatMap stpC
theorem Jj6 (l:List Stp):∀u∈stpV l,u.oneCell'=true:=by
 intro u hu
 simp only [stpV,List.mem_flatMap,stpC] at hu
 obtain ⟨x,_,hu⟩:=hu
 simp only [List.mem_cons,QD,or_false] at hu
 rcases hu with rfl | rfl <;> rfl
theorem Jk8 (l:List Stp):stpV l=(vvA (l.map encS)).toList:=by
 simp [stpV,vvA,encS,List.flatMap_map]
 rfl
def POwn (base:Nat) (w:World) (v:Value) (l:List Stp):Prop:=w.ownsRow base 366 2 v l.length (stpV l)
theorem POwn.nil (base:Nat) (w:World):POwn base w (.slice none 0 0) []:=⟨rfl,.inl ⟨rfl,rfl⟩⟩
theorem POwn.own {base:Nat} {w:World} {v:Value} {l:List Stp} (h:POwn base w v l):∀k,v.ownBlock=some k->base<=k/\∃cs m,w.heap[k]? =some (.cells cs 366 m):=by
 obtain ⟨_,⟨rfl,h0⟩ | ⟨g,cap,cur,rfl,hb,hrow,_⟩⟩:=h
 ·intro k hk;cases hk
 ·intro k hk;cases hk;exact ⟨hb,_,_,hrow⟩
theorem POwn.tch {base:Nat} {w w':World} {v:Value} {l:List Stp} {S:Nat->Prop} (h:POwn base w v l) (k:Tch S w w') (hs:∀j,v.ownBlock=some j->¬S j):POwn base w' v l:=by
 obtain ⟨h1,⟨rfl,h0⟩ | ⟨g,cap,cur,rfl,hb,hrow,h2⟩⟩:=h
 ·exact ⟨h1,.inl ⟨rfl,h0⟩⟩
 ·exact ⟨h1,.inr ⟨g,cap,cur,rfl,hb,(k.block g (Jb hrow) (hs g rfl)).trans hrow,h2⟩⟩
theorem POwn.shape {base:Nat} {w:World} {v:Value} {l:List Stp} (h:POwn base w v l):∃a c,v=.slice a l.length c:=by
 obtain ⟨_,⟨rfl,h0⟩ | ⟨g,cap,cur,rfl,hb,hrow,_⟩⟩:=h
 ·exact ⟨none,0,by rw [h0]⟩
 ·exact ⟨_,_,rfl⟩
theorem POwn.vat {base:Nat} {w:World} {v:Value} {l:List Stp} (h:POwn base w v l):VAt w.heap.size w v (l.map encS):=by
 obtain ⟨_,⟨rfl,h0⟩ | ⟨g,cap,cur,rfl,_,hrow,_,_,hsz,htake⟩⟩:=h
 ·exact .inl ⟨rfl,by rw [QN h0];rfl⟩
 ·have hlt:=(Jb hrow)
  refine .inr ⟨g,0,cap,by rw [QL],hlt,hlt,λi hi=>?_⟩
  obtain ⟨e0,e1⟩:=Yf (l.map encS) i hi
  have hc:∀j u,(vvA (l.map encS))[j]? =some u->w.cell? ⟨g,0+j,none⟩=some u:=by
   intro j u hu
   rw [<-Array.getElem?_toList,<-Jk8,<-htake] at hu
   have hj:=(Qo.1 hu).1
   rw [List.getElem?_take_of_lt (by rw [QB] at hj;omega)] at hu
   rw [Ja hrow,Nat.zero_add,<-Array.getElem?_toList]
   exact hu
  exact ⟨hc _ _ e0,hc _ _ e1⟩
theorem Jq {W W':World} {row:Option Nat} {B:Nat} {cs:Array Value} {T:TypeId} {m:Nat×Nat} (h:W.heap[B]? =some (.cells cs T m)) (hg:W.grownBy W' row) (hr:∀r,row=some r->∃o:Obj,W.heap[r]? =some o/\o.isCells=false):W'.heap[B]? =some (.cells cs T m):=by
 refine (hg.block B (Jb h) (λe=>?_)).trans h
 obtain ⟨o,ho,hc⟩:=hr B e.symm
 rw [h] at ho
 cases ho
 cases hc
theorem POwn.kept {base:Nat} {W W':World} {v:Value} {l:List Stp} {row:Option Nat} (h:POwn base W v l) (hg:W.grownBy W' row) (hr:∀r,row=some r->∃o:Obj,W.heap[r]? =some o/\o.isCells=false):POwn base W' v l:=by
 obtain ⟨h1,⟨rfl,h0⟩ | ⟨g,cap,cur,rfl,hb,hrow,h2⟩⟩:=h
 ·exact ⟨h1,.inl ⟨rfl,h0⟩⟩
 ·exact ⟨h1,.inr ⟨g,cap,cur,rfl,hb,Jq hrow hg hr,h2⟩⟩
theorem Jan {S:Nat->Prop} {W W':World} (h:Tch S W W') (hs:∀j,S j->∃cs T m,W.heap[j]? =some (.cells cs T m)):KeepsOthers W W':=by
 refine ⟨h.size,λk o hk ho=>(h.block k (Jb hk) (λhS=>?_)).trans hk⟩
 obtain ⟨cs,T,m,e⟩:=hs k hS
 rw [hk] at e
 cases e
 cases ho

def Jlw (w:World) (k:Key):Nat×(KO ⊕ Stp)->Prop
 | (x,.inl (k',o))=>∃dg,w.heap[x]? =some (.cells (Zo dg k' o) 243)
 | (x,.inr (b,od))=>∃dg nl nr cs,w.heap[x]? =some (.cells (brC dg b nl nr) 243)/\b<8 * k.length/\w.heap[if bt k b=0 then nr else nl]? =some (.cells cs 243)/\cs[0]? =some (.string od)
abbrev XJ (w:World) (k:Key):={ y:Nat×(KO ⊕ Stp) // Jlw w k y }
theorem Jf.dig {d:List UInt8->BA} {F:Nat->Prop} {w:World} {n:Nat} {t:Tr} (h:Jf d F w n t):∃cs,w.heap[n]? =some (.cells cs 243)/\cs[0]? =some (.string (t.dig d)):=by
 cases h using Jf.ri with
 | leaf _ k o hF hr=>exact ⟨_,hr,rfl⟩
 | br _ b nl nr l r hF hr=>exact ⟨_,hr,rfl⟩
theorem Jf.wayD {d:List UInt8->BA} {F:Nat->Prop} {w:World} {n wd:Nat} {t:Tr} {k:Key} (hk:k.length=wd+1) (h:Jf d F w n t) (hok:TrOk wd t):∃ds:List (XJ w k),Way w.heap.size k w (some n) (ds.map (·.1.1))/\ds.map (·.1.2)=(t.way d k).1.map .inr++[.inl (t.way d k).2]:=by
 induction h using Jf.ri with
 | leaf n k' o hF hr=>exact ⟨[⟨(n,.inl (k',o)),_,hr⟩],⟨rfl,(Jb hr),.inl ⟨_,_,_,hr,rfl⟩⟩,rfl⟩
 | br n b nl nr l r hF hr hl hr' ihl ihr=>
  obtain ⟨hb,hokl,hokr⟩:=hok
  by_cases h0:bt k b=0
  ·have ew:(Tr.br b l r).way d k=((b,r.dig d) :: (l.way d k).1,(l.way d k).2):=by simp only [Tr.way];rw [if_pos h0]
   rw [ew]
   obtain ⟨ds,h1,h2⟩:=ihl hokl
   obtain ⟨cs,e1,e2⟩:=hr'.dig
   refine ⟨⟨(n,.inr (b,r.dig d)),_,nl,nr,cs,hr,by omega,by rw [if_pos h0];exact e1,e2⟩ :: ds,⟨rfl,(Jb hr),.inr ⟨_,b,nl,nr,hr,by omega,by rw [if_pos h0];exact h1⟩⟩,?_⟩
   exact congrArg (List.cons _) h2
  ·have ew:(Tr.br b l r).way d k=((b,l.dig d) :: (r.way d k).1,(r.way d k).2):=by simp only [Tr.way];rw [if_neg h0]
   rw [ew]
   obtain ⟨ds,h1,h2⟩:=ihr hokr
   obtain ⟨cs,e1,e2⟩:=hl.dig
   refine ⟨⟨(n,.inr (b,l.dig d)),_,nl,nr,cs,hr,by omega,by rw [if_neg h0];exact e1,e2⟩ :: ds,⟨rfl,(Jb hr),.inr ⟨_,b,nl,nr,hr,by omega,by rw [if_neg h0];exact h1⟩⟩,?_⟩
   exact congrArg (List.cons _) h2
theorem JdR (n:Nat) (hn:2<=n) (Bt Bk n₀:Nat) (k:Key) (hk1:1<=k.length) (hk2:k.length<=1000000) (q:Option Nat) (v:World) (ds:List (XJ v k)) (w:World) (hBt:Bt<w.heap.size) (hBk:Bk<w.heap.size) (hn₀:n₀<=w.heap.size) (c1:w.cell? ⟨Bt,1,none⟩=some (Jj q)) (c2:w.cell? ⟨Bk,0,none⟩=some (.string ⟨k.toArray⟩)) (hL:Way n₀ k w q (ds.map (·.1.1))):
  SeqStopsK Fence.wide n prog 295 #[.pointer (some ⟨Bt,0,none⟩),.pointer (some ⟨Bk,0,none⟩)] (λy:XJ v k=> #[Value.pointer (some ⟨y.1.1,0,none⟩)]) (Jeq n₀ Bk) (λys=>ys=ds) (λpre=>pre <+:ds) ds.length w:=λl J Jx W hW hJ _ hY h0=>by
 refine (JeH n hn l Bt Bk n₀ k hk1 hk2 q (ds.map (·.1.1)) (λp W=>∃pre:List (XJ v k),pre <+:ds/\pre.map (·.1.1)=p/\J pre W) (λp W=>∃pre:List (XJ v k),pre <+:ds/\pre.map (·.1.1)=p/\Jx pre W) (λp W' m ⟨pre,h1,h2,h⟩=>⟨pre,h1,h2,hJ pre W' (W'.drewN m) none h ⟨rfl,rfl,rfl,Ql _,λ_ _ _=>rfl⟩ (λr e=>by cases e)⟩) ?_ W ((hW.cell (p:=⟨Bt,1,none⟩) hBt).trans c1) ((hW.cell (p:=⟨Bk,0,none⟩) hBk).trans c2) (Way.below (hW.mono hn₀) hL) ⟨[],List.nil_prefix,rfl,h0⟩).mono ?_
 ·rintro p x W1 ⟨pre,hp,rfl,hJ1⟩ hx
  rw [QL,List.getElem?_map] at hx
  cases hy:ds[pre.length]? with
  | none=>rw [hy] at hx;cases hx
  | some y=>
   rw [hy] at hx
   simp only [Option.map_some,Qh] at hx
   have hlt:=(Qo.1 hy).1
   have hpy:pre++[y] <+:ds:=by
    obtain ⟨r,rfl⟩:=hp
    rw [Qz (Ql _),Nat.sub_self] at hy
    cases r with
    | nil=>cases hy
    | cons z r=>simp at hy;subst hy;exact ⟨r,by simp⟩
   have:=hY pre y W1 hJ1 hlt
   subst hx
   refine YieldAt.mono this ?_
   rintro e W' (⟨rfl,h1,h2⟩ | ⟨rfl,h1⟩)
   ·exact .inl ⟨rfl,⟨pre++[y],hpy,by simp,h1⟩,h2⟩
   ·exact .inr ⟨rfl,⟨pre++[y],hpy,by simp,h1⟩⟩
 ·rintro e W' ⟨hv,⟨ys,hys,pre,hp,hm,h⟩ | ⟨p,_,pre,hp,_,h⟩⟩
  ·refine ⟨hv,.inl ⟨pre,?_,h⟩⟩
   have hl:pre.length=ds.length:=by have:=congrArg List.length (hm.trans hys);simpa using this
   exact hp.eq_of_length hl
  ·exact ⟨hv,.inr ⟨pre,hp,h⟩⟩
