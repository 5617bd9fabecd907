import Derived.Test.YtighkdnooglfjaaGreatDoorOxPBook
import Derived.Test.YtighkdnooglfjaaGreatDoorOxWNode
import Derived.Deep.DeepCutAuto
namespace Go.Proofs.YtighkdnooglfjaaGreatDoor

def Tr.text (d:List UInt8->BA):Tr->List UInt8
 | .leaf k o=>76 :: (k++outB o)
 | .br b l r=>78 :: (beL b 2 2++((l.dig d).data.toList++(r.dig d).data.toList))
theorem Tr.dig_text (d:List UInt8->BA) (t:Tr):t.dig d=d (t.text d):=by cases t <;> rfl
def JmR (d:List UInt8->BA):Option Tr->List UInt8
 | none=>[69]
 | some t=>t.text d
theorem JgN (d:List UInt8->BA) (st:Option Tr):Xm d st=d (JmR d st):=by
 cases st with
 | none=>rfl
 | some t=>exact t.dig_text d
abbrev KO:=Key×(Nat×Nat)

abbrev Stp:=Nat×BA
abbrev Wy:=List Stp×Option KO
def Tr.way (d:List UInt8->BA) (k:Key):Tr->List Stp×KO
 | .leaf k' o=>([],(k',o))
 | .br b l r=>if bt k b=0 then (((b,r.dig d) :: (l.way d k).1),(l.way d k).2) else (((b,l.dig d) :: (r.way d k).1),(r.way d k).2)
def Yr (d:List UInt8->BA) (k:Key):Option Tr->Wy
 | none=>([],none)
 | some t=>((t.way d k).1,some (t.way d k).2)
def Yi:Option KO->List UInt8
 | none=>[69]
 | some (k,o)=>76 :: (k++outB o)
def XI (w:Wy):Key:=match w.2 with | none=>[] | some (k,_)=>k
def Yx (d:List UInt8->BA) (key:Key) (e:List UInt8):List Stp->List (List UInt8)
 | []=>[e]
 | (b,oth) :: r=>(78 :: (beL b 2 2++(if bt key b=0 then (d ((Yx d key e r).headD [])).data.toList++oth.data.toList else oth.data.toList++(d ((Yx d key e r).headD [])).data.toList))) :: Yx d key e r
def Wy.nodes (d:List UInt8->BA) (w:Wy):List (List UInt8):=Yx d (XI w) (Yi w.2) w.1
theorem Tr.way_near (d:List UInt8->BA) (k:Key) (t:Tr):(t.way d k).2=t.near k:=by
 induction t with
 | leaf=>rfl
 | br b l r ihl ihr=>simp only [way,near];split <;> assumption
theorem Tr.way_bits (d:List UInt8->BA) (k:Key) (t:Tr) (hw:t.Wf):∀s∈(t.way d k).1,bt (t.near k).1 s.1=bt k s.1:=by
 induction t with
 | leaf=>intro s hs;cases hs
 | br b l r ihl ihr=>
  obtain ⟨w1,w2,h0,h1,_⟩:=hw
  have k2:=YH k b
  intro s hs
  simp only [way] at hs
  simp only [near]
  split at hs <;> rename_i hz
  ·simp only [hz,if_true]
   simp only [List.mem_cons] at hs
   rcases hs with rfl | hs
   ·have:=h0 _ (near_mem k l);simp only;omega
   ·exact ihl w1 s hs
  ·simp only [hz,if_false]
   simp only [List.mem_cons] at hs
   rcases hs with rfl | hs
   ·have:=h1 _ (near_mem k r);simp only;omega
   ·exact ihr w2 s hs
theorem YB (d:List UInt8->BA) (key:Key) (e:List UInt8) (l:List Stp):(Yx d key e l).length=l.length+1:=by
 induction l with
 | nil=>rfl
 | cons s r ih=>obtain ⟨b,o⟩:=s;simp [Yx,ih]
theorem Tr.way_root (d:List UInt8->BA) (k:Key) (t:Tr) (hw:t.Wf) (key:Key) (hk:∀s∈(t.way d k).1,bt key s.1=bt k s.1):(Yx d key (Yi (some (t.way d k).2)) (t.way d k).1).headD []=t.text d:=by
 induction t with
 | leaf=>rfl
 | br b l r ihl ihr=>
  obtain ⟨w1,w2,h0,h1,_⟩:=hw
  have k2:=YH k b
  simp only [way] at hk ⊢
  split
  ·rename_i hz
   simp only [hz,if_true] at hk
   have hb:=hk (b,r.dig d) (by simp)
   simp only at hb
   have:=ihl w1 (λs hs=>hk s (by simp [hs]))
   simp only [Yx,List.headD_cons]
   rw [hb,this,if_pos hz,<-Tr.dig_text d l];rfl
  ·rename_i hz
   simp only [hz,if_false] at hk
   have hb:=hk (b,l.dig d) (by simp)
   simp only at hb
   have:=ihr w2 (λs hs=>hk s (by simp [hs]))
   simp only [Yx,List.headD_cons]
   rw [hb,this,if_neg hz,<-Tr.dig_text d r];rfl
def Wy.said (w:Wy) (k:Key):Option (Nat×Nat):=match w.2 with | none=>none | some (k',o)=>if k'=k then some o else none
theorem Jmp {a b:BA} (h:a.data.toList=b.data.toList):a=b:=by
 cases a;cases b;simp only at h;rw [Array.toList_inj] at h;rw [h]
theorem JgR (d:List UInt8->BA) (wd:Nat) (st:Option Tr) (l:List Held) (B:Book wd st l) (c:BA×Int) (hc:Jp wd c):(Yr d (Jd c) st).said (Jd c)=(Xa l c).map λk=>(l.getD k ((⟨#[]⟩,0),(0,0))).2:=by
 have hw:=B.without hc
 cases st with
 | none=>
  obtain rfl:=B.none
  rfl
 | some t=>
  simp only [Yr,Wy.said,Tr.way_near]
  cases h:Xa l c with
  | none=>
   rw [h] at hw
   simp only [JR] at hw
   split at hw
   ·cases hw
   ·rw [if_neg (by assumption)];rfl
  | some k=>
   rw [h] at hw
   obtain ⟨st',e,_⟩:=hw
   simp only [JR] at e
   split at e
   ·rename_i hk
    simp only [Except.ok.injEq,Qw] at e
    rw [if_pos hk,e.2];rfl
   ·cases e
open Tryz
set_option maxRecDepth 100000
set_option maxHeartbeats 2000000
open Go.RowKit

def PS.step (wd:Nat) (s:Stp) (p:PS):Option (Stp×PS):=
 match p.num s.1 2 with
 | none=>none
 | some (m,p1)=>if 8 * (wd+1)<=m then none else match p1.txt s.2.data.toList wd with
  | none=>none
  | some (t,p2)=>some ((m,⟨t.toArray⟩),p2)
def Zg (wd:Nat) (k:Int) (x:BA) (st:Option PS):(Nat×List UInt8)×Option PS:=(((Yl wd k st).1,(Ji x.data.toList wd (Yl wd k st).2).1),(Ji x.data.toList wd (Yl wd k st).2).2)
theorem JlR (E:Nat->Addr) (b:Nat) (hb12:18<=b) (g:Option Nat) (wd:Nat) (hw:wd<=1000) (k:Int) (x:BA) (st:Option PS) (w:World) (hE:Env E w) (hp:Jh E w b g wd st) (hd:JO st<=80000000):
  Calls prog 218 #[.pointer (some ⟨b,0,none⟩),.agg #[.int .i64 k,.string x]] w λe w'=>e=.returned (.agg #[.int .i64 ((Zg wd k x st).1.1:Int),.string ⟨(Zg wd k x st).1.2.toArray⟩])/\StTo E w w' b g wd (Zg wd k x st).2:=by
 have hlt:=hp.lt
 have HR0:=Run.start hb12 hE hp (Tch.allocs NoB w (.cells #[.int .i64 k,.string x] 366) (.cells #[.int .i64 0,.string ⟨#[]⟩] 366))
 have hl0:=Jd8 wd k st
 have RUN:Hid (Run _ _ _ _ _ _ _ _ _):=HR0
 clear hE hp HR0
 go_enter func218,ntmps218
 go_wp2_with fail
 refine (JjA E b hb12 g wd hw k st _ RUN.out.env RUN.out.port (by omega)).mono ?_
 rintro _ w1 ⟨rfl,h⟩
 obtain ⟨g1,R1⟩:=RUN.out.step h
 have bx1:=(R1.box (k:=w.heap.size) (Ql _) (heap_alloc2_old _ _ _)).1
 have c1:w1.cell? ⟨w.heap.size,1,none⟩=some (.string x):=Ja bx1
 have RUN1:Hid (Run _ _ _ _ _ _ _ _ _):=R1
 clear R1 bx1 h
 go_wp2_with fail
 refine (Yu E b g1 wd x _ _ RUN1.out.env RUN1.out.port (by omega)).mono ?_
 rintro _ w3 ⟨rfl,h⟩
 obtain ⟨g3,R3⟩:=RUN1.out.step h
 have rR:=(R3.box (k:=w.heap.size+1) (by omega) (heap_alloc2_new _ _ _)).1
 have e0:w3.cell? ⟨w.heap.size+1,0,none⟩=some (.int .i64 0):=Ja rR
 have e1:w3.cell? ⟨w.heap.size+1,1,none⟩=some (.string ⟨#[]⟩):=Ja rR
 have fR:∀j,w3.frozen? ⟨w.heap.size+1,j,none⟩=false:=λj=>Qg _ _ _ _ _ rR
 have RUN3:Hid (Run _ _ _ _ _ _ _ _ _):=R3
 have RR:Hid (_=_):=rR
 clear R3 rR h
 go_wp2
 rw [set2 _ _ _ _ _ _ _ RR.out]
 exact QJ (v:=.agg #[.int .i64 ((Zg wd k x st).1.1:Int),.string ⟨(Zg wd k x st).1.2.toArray⟩]) (Qq results218 _ _ (w.heap.size+1) _ _ (0,0) _ rfl (Qi _ _ _ _ _ _ RR.out) underlying366 rfl (by kernel_rfl)) rfl ⟨rfl,RUN3.out.done (k:=w.heap.size+1) (by omega) (heap_alloc2_new _ _ _) (by decide)⟩
theorem JdJ (n:Nat) (h:n<65536):JE (n:Int)=n:=by unfold JE;omega
theorem JfV (wd:Nat) (s:Stp) (hs:s.1<65536) (p:PS) (h:p.step wd s=none):(Zg wd (s.1:Int) s.2 (some p)).2=none:=by
 unfold Zg Yl
 rw [JdJ _ hs]
 unfold PS.step at h
 cases h1:p.num s.1 2 with
 | none=>rw [ZU h1];dsimp only;split <;> rfl
 | some r=>
  obtain ⟨m,p1⟩:=r
  rw [h1] at h
  dsimp only at h
  rw [JT h1]
  dsimp only
  split at h
  ·rename_i hm;rw [if_pos hm];rfl
  ·rename_i hm
   rw [if_neg hm]
   cases h2:p1.txt s.2.data.toList wd with
   | none=>rw [XX h2]
   | some r2=>rw [h2] at h;cases h
theorem JfW (wd:Nat) (s y:Stp) (hs:s.1<65536) (p p2:PS) (h:p.step wd s=some (y,p2)):(Zg wd (s.1:Int) s.2 (some p)).2=some p2/\y=((Zg wd (s.1:Int) s.2 (some p)).1.1,⟨(Zg wd (s.1:Int) s.2 (some p)).1.2.toArray⟩):=by
 unfold Zg Yl
 rw [JdJ _ hs]
 unfold PS.step at h
 cases h1:p.num s.1 2 with
 | none=>rw [h1] at h;cases h
 | some r=>
  obtain ⟨m,p1⟩:=r
  rw [h1] at h
  dsimp only at h
  rw [JT h1]
  dsimp only
  split at h
  ·cases h
  ·rename_i hm
   rw [if_neg hm]
   cases h2:p1.txt s.2.data.toList wd with
   | none=>rw [h2] at h;cases h
   | some r2=>
    obtain ⟨t,p3⟩:=r2
    rw [h2] at h
    simp only [Qh,Qw] at h
    obtain ⟨rfl,rfl⟩:=h
    rw [JM h2]
    exact ⟨rfl,rfl⟩
def encS (s:Stp):VV:=(.int .i64 (s.1:Int),.string s.2)
def Jbk (wd:Nat):XG Stp where
 f:=λs p=>p.step wd s
 grow:=wd+2
 zero:=(0,⟨#[]⟩)
 zeroV:=zS
 Init:=λ_ _ _ x s=>x=encS s/\s.1<65536
 Done:=λ_ _ _ x s=>x=encS s
theorem JaV {wd:Nat} {s y:Stp} {p p2:PS} (h:p.step wd s=some (y,p2)):p.like p2/\p2.len<=p.len+(wd+2):=by
 unfold PS.step at h
 cases h1:p.num s.1 2 with
 | none=>rw [h1] at h;cases h
 | some r=>
  obtain ⟨m,p1⟩:=r
  rw [h1] at h
  dsimp only at h
  split at h
  ·cases h
  ·cases h2:p1.txt s.2.data.toList wd with
   | none=>rw [h2] at h;cases h
   | some r2=>
    obtain ⟨t,p3⟩:=r2
    rw [h2] at h
    simp only [Qh,Qw] at h
    obtain ⟨_,rfl⟩:=h
    have l1:=Zo _ _ _ _ _ h1
    have l2:=JeS _ _ _ _ _ h2
    exact ⟨(XR h1).trans (Jf4 h2),by omega⟩
theorem lawS (E:Nat->Addr) (b:Nat) (hb12:18<=b) (wd lim:Nat) (hw:wd<=1000) (hl:lim<=80000000):Yf E b wd lim lkS.fP (Jbk wd) ShS where
 init_tch:=λh _ _ _=>h
 init_zero:=λ_ _=>⟨rfl,by show 0<65536;omega⟩
 init_shape:=λh=>⟨_,_,h.1⟩
 done_tch:=λh _ _ _=>h
 done_mono:=λh _=>h
 like:=λh=>(JaV h).1
 len:=λ_ h=>(JaV h).2
 call:=λ{w g p x a} hE hp hI hd=>by
  obtain ⟨rfl,ha⟩:=hI
  show Calls _ _ #[_,.agg #[.int .i64 (a.1:Int),.string a.2]] _ _
  refine (JlR E b hb12 g wd hw (a.1:Int) a.2 (some p) w hE hp (by simp only [JO];omega)).mono ?_
  rintro e w' ⟨rfl,g',k1,k2,k3⟩
  refine ⟨(.int .i64 _,.string _),⟨_,_,rfl⟩,rfl,?_⟩
  show ToP E w b g wd (Jbk wd) (p.step wd a) _ w'
  cases h:p.step wd a with
  | none=>
   rw [JfV wd a ha p h] at k1
   obtain ⟨p',t,u,h1,h2⟩:=k1
   exact ⟨g',_,p',h1,k2,k3,h2⟩
  | some r=>
   obtain ⟨y,p2⟩:=r
   obtain ⟨e1,e2⟩:=JfW wd a y ha p p2 h
   rw [e1] at k1
   exact ⟨g',_,p2,k1,k2,k3,rfl,rfl,by rw [e2];rfl⟩

theorem JdQ (a:Int) (w:World):Calls prog 344 #[.int .i64 a] w λe w'=>e=.returned (.bool false)/\w'=w:=by
 go_enter func344,ntmps344
 go_wp2
 go_ret
 exact ⟨by simp,rfl⟩
def sgn (a b:Int):Int:=if a<b then -1 else if b<a then 1 else 0
theorem JmO (a b:Int):(0<=sgn a b)↔¬a<b:=by unfold sgn;split <;> (try split) <;> omega
theorem Jfe (a b:Int) (w:World):Calls prog 293 #[.int .i64 a,.int .i64 b] w λe w'=>e=.returned (.int .i64 (sgn a b))/\w'=w:=by
 go_enter func293,ntmps293
 go_wp2_with fail
 refine (JdQ _ _).mono ?_
 rintro _ _ ⟨rfl,rfl⟩
 go_wp2_with fail
 refine (JdQ _ _).mono ?_
 rintro _ _ ⟨rfl,rfl⟩
 by_cases h1:a<b
 ·have HS:Hid (sgn a b= -1):=(by unfold sgn;rw [if_pos h1]:sgn a b= -1)
  go_wp2
  go_ret
  exact ⟨by rw [HS.o];rfl,rfl⟩
 ·by_cases h2:b<a
  ·have HS:Hid (sgn a b=1):=(by unfold sgn;rw [if_neg h1,if_pos h2]:sgn a b=1)
   go_wp2
   go_ret
   exact ⟨by rw [HS.o];rfl,rfl⟩
  ·have HS:Hid (sgn a b=0):=(by unfold sgn;rw [if_neg h1,if_neg h2]:sgn a b=0)
   go_wp2
   go_ret
   exact ⟨by rw [HS.o];rfl,rfl⟩
theorem Jgf (a b:Int) (x y:BA) (w:World):Calls prog 220 #[.agg #[.int .i64 a,.string x],.agg #[.int .i64 b,.string y]] w λe w'=>e=.returned (.int .i64 (sgn a b))/\Tch NoB w w':=by
 go_enter func220,ntmps220
 go_wp2_with fail
 refine (Jfe _ _ _).mono ?_
 rintro _ _ ⟨rfl,rfl⟩
 go_wp2
 go_ret
 exact ⟨rfl,Tch.allocs _ w _ _⟩

theorem Jev (a:Addr) (w:World):(method 641 170 (.pointer (some a)) "trove/wire.more").run prog w=.ok (140,.pointer (some a)) w:=by kernel_rfl
theorem Jew (a:Addr) (w:World):(method 641 153 (.pointer (some a)) "trove/wire.more").run prog w=.ok (377,.pointer (some a)) w:=by kernel_rfl
theorem Ji9 (a:Value) (m:Bool) (w:World):Calls prog 377 #[a,.bool m] w λe w'=>e=.returned (.bool m)/\w'=w:=by
 go_enter func377,ntmps377
 go_wp2
 go_ret
 exact ⟨rfl,rfl⟩
def Zw (m:Bool):Option PS->Bool
 | none=>false
 | some (.rd _ rest)=> !rest.isEmpty
 | some (.wr _)=>m
theorem Jlz (E:Nat->Addr) (b:Nat) (g:Option Nat) (wd:Int) (m:Bool) (st:Option PS) (w:World) (hp:Jh E w b g wd st):
  Calls prog 221 #[.pointer (some ⟨b,0,none⟩),.bool m] w λe w'=>e=.returned (.bool (Zw m st))/\Tch NoB w w':=by
 cases st with
 | none=>
  obtain ⟨p,t,u,h1,_⟩:=hp
  have ce:=h1.errCell
  clear h1
  go_enter func221,ntmps221
  go_wp2
  go_ret
  exact ⟨rfl,Tch.refl _ _⟩
 | some p=>
  have hp:Jc w b g wd .nilIface p:=hp
  have ce:=hp.errCell
  cases p with
  | rd pre rest=>
   have c0:w.cell? ⟨b,0,none⟩=some (.iface 170 (.pointer (some ⟨b,0,none⟩))):=Ja hp.2
   have hm:=Jev ⟨b,0,none⟩
   have HP:Hid _:=hp
   clear hp
   go_enter func221,ntmps221
   go_wp2_with fail
   refine (JbL b g wd .nilIface _ pre rest w HP.o).mono ?_
   rintro _ w1 ⟨rfl,ht⟩
   have HT:Hid _:=ht
   clear ht
   go_wp2
   go_ret
   exact ⟨rfl,HT.o⟩
  | wr d=>
   have c0:w.cell? ⟨b,0,none⟩=some (.iface 153 (.pointer (some ⟨b,0,none⟩))):=by obtain ⟨v,_,_,hr⟩:=hp;exact Ja hr
   have hm:=Jew ⟨b,0,none⟩
   clear hp
   go_enter func221,ntmps221
   go_wp2_with fail
   refine (Ji9 _ m w).mono ?_
   rintro _ _ ⟨rfl,rfl⟩
   go_wp2
   go_ret
   exact ⟨rfl,Tch.refl _ _⟩
def YW (ys:List Stp) (k:Nat):Prop:=∀i,1<=i->i<k->∀x y,ys[i - 1]? =some x->ys[i]? =some y->x.1<y.1
open Classical in
noncomputable def Xn (ys:List Stp) (st:Option PS):Option PS:=if YW ys ys.length then st else none
theorem JfJ (E:Nat->Addr) (b:Nat) (g:Option Nat) (wd:Int) (what:Value) (a:Option Addr) (n c:Nat) (w:World) (hp:Jh E w b g wd none):
  Calls prog 219 #[.pointer (some ⟨b,0,none⟩),what,.slice a n c,.func (.func 220) #[] #[]] w λe w'=>e=.returned (.tuple #[])/\w'=w:=by
 obtain ⟨p,t,u,h1,_⟩:=hp
 have ce:=h1.errCell
 clear h1
 go_enter func219,ntmps219
 go_wp2
 go_loopw [8] (λi wr=>i=.int .i64 1/\wr=w) (λ_ _=>0)
 case atStart=>exact ⟨rfl,rfl⟩
 case round=>
  obtain ⟨rfl,rfl⟩:=hrel
  by_cases hlt:1<n
  ·have hlti:(1:Int)<(n:Int):=by omega
   go_wp2
   exact bodyPost_end (v:=.tuple #[]) (results_none results219 _ _ _) rfl ⟨rfl,rfl⟩
  ·have hlti:¬(1:Int)<(n:Int):=by omega
   go_wp2
   exact bodyPost_end (v:=.tuple #[]) (results_none results219 _ _ _) rfl ⟨rfl,rfl⟩
theorem JfK (E:Nat->Addr) (b:Nat) (g:Option Nat) (wd:Int) (what:BA) (hwh:what.size<=1000) (gp:Nat) (ys:List Stp) (hn:ys.length<=300) (p:PS) (w:World) (hE:Env E w) (hp:Jh E w b g wd (some p)) (hr:w.heap[gp]? =some (.cells (vvA (ys.map encS)) 366)) (hgb:gp ≠ b) (hgg:some gp ≠ g):
  Calls prog 219 #[.pointer (some ⟨b,0,none⟩),.string what,.slice (some ⟨gp,0,none⟩) ys.length ys.length,.func (.func 220) #[] #[]] w λe w'=>e=.returned (.tuple #[])/\StTo E w w' b g wd (Xn ys (some p)):=by
 have HG:Hid (gp ≠ b/\some gp ≠ g):=⟨hgb,hgg⟩
 have HE:Hid (Env E w):=hE
 have HP:Hid (Jh E w b g wd (some p)):=hp
 have HR:Hid (w.heap[gp]? =some (.cells (vvA (ys.map encS)) 366)):=hr
 have HN:Hid _:=hn
 clear hE hp hr hgb hgg hn
 go_enter func219,ntmps219
 go_wp2
 go_loopw [8] (λi wr=>∃k:Nat,1<=k/\i=.int .i64 k/\((Hid (Tch NoB w wr)/\Hid (YW ys k))\/(Hid (StTo E w wr b g wd none)/\Hid (¬YW ys ys.length)))) (λi _=>ys.length+1 - (intOf i).toNat)
 case atStart=>exact ⟨1,by omega,rfl,.inl ⟨Tch.refl _ w,λi h1 h2=>by omega⟩⟩
 case round=>
  obtain ⟨k,hk1,rfl,⟨hT,hRi⟩ | ⟨hS,hNR⟩⟩:=hrel
  ·by_cases hlt:k<ys.length
   ·have hrow:=(hT.out.block gp (Jb HR.o) (λh=>h)).trans HR.o
    have hpk:=HP.o.next hT.out
    have ce:=Jc.errCell hpk
    have hlen:ys.length<=300:=HN.o
    have hgk:=λi (hi:i<ys.length)=>Ym (ys.map encS) i (by simpa using hi)
    have cell:∀i (hi:i<ys.length),wr.cell? ⟨gp,i * 2,none⟩=some (.int .i64 (ys[i].1:Int))/\wr.cell? ⟨gp,i * 2+1,none⟩=some (.string ys[i].2):=λi hi=>by
     obtain ⟨e1,e2⟩:=hgk i hi
     rw [List.getElem_map] at e1 e2
     exact ⟨(Ja hrow).trans e1,(Ja hrow).trans e2⟩
    obtain ⟨j,hjk⟩:∃j,k=j+1:=⟨k - 1,by omega⟩
    obtain ⟨a0,a1⟩:=cell j (by omega)
    obtain ⟨b0,b1⟩:=cell k hlt
    have HLT:Hid _:=hlt
    have HA:Hid (ys[j]? =some ys[j]):=Qd (by omega)
    have HB:Hid (ys[k]? =some ys[k]):=Qd hlt
    have hlti:(k:Int)<(ys.length:Int):=by omega
    have hsub:IntKind.i64.wrap ((k:Int) - 1)=(j:Int):=by rw [JD _ (by omega) (by omega)];omega
    have hj0:j<ys.length:=by omega
    have hji:(j:Int)<(ys.length:Int):=by omega
    have HJK:Hid (k=j+1):=hjk
    clear cell hgk hrow
    generalize hX:ys[j]=X at *
    generalize hY:ys[k]=Y at *
    obtain ⟨x0,x1⟩:=X
    obtain ⟨y0,y1⟩:=Y
    dsimp only at a0 a1 b0 b1
    clear hX hY hpk hlt hjk
    go_upto_region 3 with fail
    go_cut [33] (λvb wx=>vb=.bool (decide (0<=sgn (x0:Int) (y0:Int)))/\Hid (Tch NoB wr wx))
    case first=>
     clear hRi hT HA HB HE HP HR HN
     go_region_with (go_at_call 220;refine (Jgf _ _ _ _ _).mono ?_;rintro _ w1 ⟨rfl,ht⟩;have HT1:Hid _:=ht;clear ht)
     all_goals
      go_wp2
      go_meet
      exact ⟨rfl,(Tch.drewN NoB wr 1).trans HT1.o (λ_ h=>.inl h)⟩
    case rest=>
    obtain ⟨rfl,hTx⟩:=hcut
    obtain ⟨wA,hwA⟩:∃wA,wA=wc:=⟨_,rfl⟩
    have HTX:Hid (Tch NoB w wA):=hT.out.trans (hwA ▸ hTx.out) (λ_ h=>.inl h)
    subst hwA
    have hpA:=HP.o.next HTX.o
    have hSG:(0<=sgn (x0:Int) (y0:Int))↔¬x0<y0:=by rw [JmO];omega
    by_cases hlt:x0<y0
    ·have hdec:decide (0<=sgn (x0:Int) (y0:Int))=false:=by simp [hSG,hlt]
     rw [hdec]
     have HRI:Hid (YW ys (k+1)):=λi h1 h2 x y hx hy=>by
      by_cases hi:i<k
      ·exact hRi.out i h1 hi x y hx hy
      ·obtain rfl:i=k:=by omega
       rw [show i - 1=j by have:=HJK.o;omega,HA.o] at hx
       rw [HB.o] at hy
       cases hx;cases hy;exact hlt
     clear hRi hSG hdec hlt hpA
     go_wp2
     go_roundw
     case rel=>exact ⟨k+1,by omega,by go_num,.inl ⟨HTX.o,HRI.o⟩⟩
     case measure=>have:=HLT.o;simp [intOf];omega
    ·have hdec:decide (0<=sgn (x0:Int) (y0:Int))=true:=by simp [hSG,hlt]
     rw [hdec]
     have HNR:Hid (¬YW ys ys.length):=λh=>hlt (h k hk1 HLT.o _ _ (by rw [show k - 1=j by have:=HJK.o;omega];exact HA.o) HB.o)
     have HEA:Hid (Env E wA):=HE.o.tch HTX.o noE
     have HPA:Hid (Jh E wA b g wd (some p)):=hpA
     clear hRi hSG hdec hlt hpA
     have hws:(what++(⟨#[32]⟩:BA)).size<=1001:=by rw [ByteArray.size_append];show what.size+1<=1001;omega
     have hnb0:¬(what.size+(⟨#[32]⟩:BA).size > 9223372036854775807):=by show ¬(what.size+1 > 9223372036854775807);omega
     go_wp2_with fail
     refine (JcE HEA.o k (by omega)).mono ?_
     rintro _ w2 ⟨⟨s1,hs1,rfl⟩,hb2⟩
     have HT2:Hid (Tch NoB wA w2):=(Tch.of_below hb2).mono (λ_ h=>.inr h)
     clear hb2
     generalize what++(⟨#[32]⟩:BA)=ws at *
     have hnb:¬(ws.size+s1.size > 9223372036854775807):=by omega
     go_wp2_with fail
     refine (ZE E b g wd (ws++s1) _ w2 (HEA.o.tch HT2.o noE) (HPA.o.next HT2.o)).mono ?_
     rintro _ w3 ⟨rfl,hs3⟩
     have HS3:Hid (StTo E w w3 b g wd none):=StTo.fresh (HTX.o.trans HT2.o (λ_ h=>.inl h)) hs3
     clear hs3
     go_wp2
     go_roundw
     case rel=>exact ⟨k+1,by omega,by go_num,.inr ⟨HS3.o,HNR.o⟩⟩
     case measure=>have:=HLT.o;simp [intOf];omega
   ·have HRI:Hid (YW ys ys.length):=λi h1 h2=>hRi.out i h1 (by omega)
    have hlti:¬((k:Nat):Int)<(ys.length:Int):=by omega
    go_wp2
    refine bodyPost_end (v:=.tuple #[]) (results_none results219 _ _ _) rfl ⟨rfl,?_⟩
    unfold Xn
    rw [if_pos HRI.o]
    exact ⟨g,HP.o.next hT.out,.inl rfl,hT.out.mono noE⟩
  ·have hev:=hS.out.choose_spec.1.err
   obtain ⟨_,t,u,ce⟩ | ⟨⟨_,h⟩,_⟩:=hev
   ·by_cases hlt:k<ys.length
    ·have hlti:((k:Nat):Int)<(ys.length:Int):=by omega
     go_wp2
     refine bodyPost_end (v:=.tuple #[]) (results_none results219 _ _ _) rfl ⟨rfl,?_⟩
     unfold Xn
     rw [if_neg hNR.out]
     exact hS.out
    ·have hlti:¬((k:Nat):Int)<(ys.length:Int):=by omega
     go_wp2
     refine bodyPost_end (v:=.tuple #[]) (results_none results219 _ _ _) rfl ⟨rfl,?_⟩
     unfold Xn
     rw [if_neg hNR.out]
     exact hS.out
   ·cases h
