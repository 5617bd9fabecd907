/-
  Pure: the root of a sorted tree is what the document says of its coins.
  Pure: ways down a tree: the ledger's own way says what is so; two ways that hold and say otherwise part at two texts of one digest.
  Steps of a way: (*wire.Coder).step; lists of steps.
  cmp.Compare of ints, byBits, rising of steps, (*wire.Coder).more.
-/
import Derived.Test.YtighkdnooglfjaaGreatDoorSwPBook
import Derived.Test.YtighkdnooglfjaaGreatDoorSwShI
import Derived.Test.YtighkdnooglfjaaGreatDoorSwWNode
import Derived.Test.YtighkdnooglfjaaGreatDoorSwHdr2
import Derived.Deep.CutRange
import Derived.Deep.DeepCutAuto
import Derived.BigQuiet
namespace Go.Proofs.YtighkdnooglfjaaGreatDoor

def Tr.text (d:List UInt8->ByteArray):Tr->List UInt8
 | .leaf k o=>76 :: (k++outB o)
 | .br b l r=>78 :: (beL b 2 2++((l.dig d).data.toList++(r.dig d).data.toList))
theorem Tr.dig_text (d:List UInt8->ByteArray) (t:Tr):t.dig d=d (t.text d):=by cases t <;> rfl
def stText (d:List UInt8->ByteArray):Option Tr->List UInt8
 | none=>[69]
 | some t=>t.text d
theorem stDig_text (d:List UInt8->ByteArray) (st:Option Tr):stDig d st=d (stText d st):=by
 cases st with
 | none=>rfl
 | some t=>exact t.dig_text d
abbrev KO:=Key×(Nat×Nat)
end Go.Proofs.YtighkdnooglfjaaGreatDoor
namespace Go.Proofs.YtighkdnooglfjaaGreatDoor

abbrev Stp:=Nat×ByteArray
abbrev Wy:=List Stp×Option KO
def Tr.way (d:List UInt8->ByteArray) (k:Key):Tr->List Stp×KO
 | .leaf k' o=>([],(k',o))
 | .br b l r=>if bt k b=0 then (((b,r.dig d) :: (l.way d k).1),(l.way d k).2) else (((b,l.dig d) :: (r.way d k).1),(r.way d k).2)
def stWay (d:List UInt8->ByteArray) (k:Key):Option Tr->Wy
 | none=>([],none)
 | some t=>((t.way d k).1,some (t.way d k).2)
def endText:Option KO->List UInt8
 | none=>[69]
 | some (k,o)=>76 :: (k++outB o)
def wyKey (w:Wy):Key:=match w.2 with | none=>[] | some (k,_)=>k
def nodesT (d:List UInt8->ByteArray) (key:Key) (e:List UInt8):List Stp->List (List UInt8)
 | []=>[e]
 | (b,oth) :: r=>(78 :: (beL b 2 2++(if bt key b=0 then (d ((nodesT d key e r).headD [])).data.toList++oth.data.toList else oth.data.toList++(d ((nodesT d key e r).headD [])).data.toList))) :: nodesT d key e r
def Wy.nodes (d:List UInt8->ByteArray) (w:Wy):List (List UInt8):=nodesT d (wyKey w) (endText w.2) w.1
theorem Tr.way_near (d:List UInt8->ByteArray) (k:Key) (t:Tr):(t.way d k).2=t.near k:=by
 induction t with
 | leaf=>rfl
 | br b l r ihl ihr=>simp only [way,near];split <;> assumption
theorem Tr.way_bits (d:List UInt8->ByteArray) (k:Key) (t:Tr) (hw:t.Wf):∀s∈(t.way d k).1,bt (t.near k).1 s.1=bt k s.1:=by
 induction t with
 | leaf=>intro s hs;cases hs
 | br b l r ihl ihr=>
  obtain ⟨w1,w2,h0,h1,_⟩:=hw
  have k2:=bt_two k b
  intro s hs
  simp only [way] at hs
  simp only [near]
  split at hs <;> rename_i hz
  ·simp only [hz,if_true]
   simp only [List.mem_cons] at hs
   rcases hs with rfl | hs
   ·have:=h0 _ (near_mem k l);simp only;omega
   ·exact ihl w1 s hs
  ·simp only [hz,if_false]
   simp only [List.mem_cons] at hs
   rcases hs with rfl | hs
   ·have:=h1 _ (near_mem k r);simp only;omega
   ·exact ihr w2 s hs
theorem nodesT_length (d:List UInt8->ByteArray) (key:Key) (e:List UInt8) (l:List Stp):(nodesT d key e l).length=l.length+1:=by
 induction l with
 | nil=>rfl
 | cons s r ih=>obtain ⟨b,o⟩:=s;simp [nodesT,ih]
theorem Tr.way_root (d:List UInt8->ByteArray) (k:Key) (t:Tr) (hw:t.Wf) (key:Key) (hk:∀s∈(t.way d k).1,bt key s.1=bt k s.1):(nodesT d key (endText (some (t.way d k).2)) (t.way d k).1).headD []=t.text d:=by
 induction t with
 | leaf=>rfl
 | br b l r ihl ihr=>
  obtain ⟨w1,w2,h0,h1,_⟩:=hw
  have k2:=bt_two k b
  simp only [way] at hk ⊢
  split
  ·rename_i hz
   simp only [hz,if_true] at hk
   have hb:=hk (b,r.dig d) (by simp)
   simp only at hb
   have:=ihl w1 (λs hs=>hk s (by simp [hs]))
   simp only [nodesT,List.headD_cons]
   rw [hb,this,if_pos hz,<-Tr.dig_text d l];rfl
  ·rename_i hz
   simp only [hz,if_false] at hk
   have hb:=hk (b,l.dig d) (by simp)
   simp only at hb
   have:=ihr w2 (λs hs=>hk s (by simp [hs]))
   simp only [nodesT,List.headD_cons]
   rw [hb,this,if_neg hz,<-Tr.dig_text d r];rfl
def Wy.said (w:Wy) (k:Key):Option (Nat×Nat):=match w.2 with | none=>none | some (k',o)=>if k'=k then some o else none
theorem ba_ext {a b:ByteArray} (h:a.data.toList=b.data.toList):a=b:=by
 cases a;cases b;simp only at h;rw [Array.toList_inj] at h;rw [h]
theorem stWay_said (d:List UInt8->ByteArray) (width:Nat) (st:Option Tr) (l:List Held) (B:Book width st l) (c:ByteArray×Int) (hc:CoinOk width c):(stWay d (coinB c) st).said (coinB c)=(findL l c).map λk=>(l.getD k ((⟨#[]⟩,0),(0,0))).2:=by
 have hw:=B.without hc
 cases st with
 | none=>
  obtain rfl:=B.none
  rfl
 | some t=>
  simp only [stWay,Wy.said,Tr.way_near]
  cases h:findL l c with
  | none=>
   rw [h] at hw
   simp only [withoutT] at hw
   split at hw
   ·cases hw
   ·rw [if_neg (by assumption)];rfl
  | some k=>
   rw [h] at hw
   obtain ⟨st',e,_⟩:=hw
   simp only [withoutT] at e
   split at e
   ·rename_i hk
    simp only [Except.ok.injEq,Prod.mk.injEq] at e
    rw [if_pos hk,e.2];rfl
   ·cases e
end Go.Proofs.YtighkdnooglfjaaGreatDoor
namespace Go.Proofs.YtighkdnooglfjaaGreatDoor
open Go.RowKit

def PS.step (width:Nat) (s:Stp) (p:PS):Option (Stp×PS):=
 match p.num s.1 2 with
 | none=>none
 | some (m,p1)=>if 8 * (width+1)<=m then none else match p1.txt s.2.data.toList width with
  | none=>none
  | some (t,p2)=>some ((m,⟨t.toArray⟩),p2)
def stStep (width:Nat) (k:Int) (x:ByteArray) (st:Option PS):(Nat×List UInt8)×Option PS:=(((stBit width k st).1,(stTxt x.data.toList width (stBit width k st).2).1),(stTxt x.data.toList width (stBit width k st).2).2)
set_option maxRecDepth 100000 in
set_option maxHeartbeats 1000000 in
theorem step_st (E:Nat->Addr) (b:Nat) (hb12:18<=b) (g:Option Nat) (width:Nat) (hw:width<=1000) (k:Int) (x:ByteArray) (st:Option PS) (w:World) (hE:Env E w) (hp:PortSt E w b g width st) (hd:stLen st<=80000000):
  Calls Tryz.prog 218 #[.pointer (some ⟨b,0,none⟩),.agg #[.int .i64 k,.string x]] w λe w'=>e=.returned (.agg #[.int .i64 ((stStep width k x st).1.1:Int),.string ⟨(stStep width k x st).1.2.toArray⟩])/\StTo E w w' b g width (stStep width k x st).2:=by
 have hlt:=hp.lt
 have HR0:=Run.start hb12 hE hp (Tch.allocs (λ_=>False) w (.cells #[.int .i64 k,.string x] 366) (.cells #[.int .i64 0,.string ⟨#[]⟩] 366))
 have hl0:=stBit_len width k st
 have RUN:Hid (Run _ _ _ _ _ _ _ _ _):=HR0
 clear hE hp HR0
 go_enter Tryz.func218,Tryz.ntmps218
 go_wp2_with fail
 refine (bit_st E b hb12 g width hw k st _ RUN.out.env RUN.out.port (by omega)).mono ?_
 rintro _ w1 ⟨rfl,h⟩
 obtain ⟨g1,R1⟩:=RUN.out.step h
 have bx1:=(R1.box (k:=w.heap.size) (Nat.le_refl _) (heap_alloc2_old _ _ _)).1
 have c1:w1.cell? ⟨w.heap.size,1,none⟩=some (.string x):=cell_row bx1
 have RUN1:Hid (Run _ _ _ _ _ _ _ _ _):=R1
 clear R1 bx1 h
 go_wp2_with fail
 refine (digest_st E b g1 width x _ _ RUN1.out.env RUN1.out.port (by omega)).mono ?_
 rintro _ w3 ⟨rfl,h⟩
 obtain ⟨g3,R3⟩:=RUN1.out.step h
 have rR:=(R3.box (k:=w.heap.size+1) (by omega) (heap_alloc2_new _ _ _)).1
 have e0:w3.cell? ⟨w.heap.size+1,0,none⟩=some (.int .i64 0):=cell_row rR
 have e1:w3.cell? ⟨w.heap.size+1,1,none⟩=some (.string ⟨#[]⟩):=cell_row rR
 have fR:∀j,w3.frozen? ⟨w.heap.size+1,j,none⟩=false:=λj=>frozen_of_row _ _ _ _ _ rR
 have RUN3:Hid (Run _ _ _ _ _ _ _ _ _):=R3
 have RR:Hid (_=_):=rR
 clear R3 rR h
 go_wp2
 rw [set2 _ _ _ _ _ _ _ RR.out]
 exact bodyPost_ret (v:=.agg #[.int .i64 ((stStep width k x st).1.1:Int),.string ⟨(stStep width k x st).1.2.toArray⟩]) (results_cell_row Tryz.results218 _ _ (w.heap.size+1) _ _ (0,0) _ rfl (setRow_heap _ _ _ _ _ _ RR.out) Tryz.underlying366 rfl (by kernel_rfl)) rfl ⟨rfl,RUN3.out.done (k:=w.heap.size+1) (by omega) (heap_alloc2_new _ _ _) (by decide)⟩
theorem coinX_nat (n:Nat) (h:n<65536):coinX (n:Int)=n:=by unfold coinX;omega
theorem stStep_none (width:Nat) (s:Stp) (hs:s.1<65536) (p:PS) (h:p.step width s=none):(stStep width (s.1:Int) s.2 (some p)).2=none:=by
 unfold stStep stBit
 rw [coinX_nat _ hs]
 unfold PS.step at h
 cases h1:p.num s.1 2 with
 | none=>rw [stNum_none h1];dsimp only;split <;> rfl
 | some r=>
  obtain ⟨m,p1⟩:=r
  rw [h1] at h
  dsimp only at h
  rw [stNum_some h1]
  dsimp only
  split at h
  ·rename_i hm;rw [if_pos hm];rfl
  ·rename_i hm
   rw [if_neg hm]
   cases h2:p1.txt s.2.data.toList width with
   | none=>rw [stTxt_none h2]
   | some r2=>rw [h2] at h;cases h
theorem stStep_some (width:Nat) (s y:Stp) (hs:s.1<65536) (p p2:PS) (h:p.step width s=some (y,p2)):(stStep width (s.1:Int) s.2 (some p)).2=some p2/\y=((stStep width (s.1:Int) s.2 (some p)).1.1,⟨(stStep width (s.1:Int) s.2 (some p)).1.2.toArray⟩):=by
 unfold stStep stBit
 rw [coinX_nat _ hs]
 unfold PS.step at h
 cases h1:p.num s.1 2 with
 | none=>rw [h1] at h;cases h
 | some r=>
  obtain ⟨m,p1⟩:=r
  rw [h1] at h
  dsimp only at h
  rw [stNum_some h1]
  dsimp only
  split at h
  ·cases h
  ·rename_i hm
   rw [if_neg hm]
   cases h2:p1.txt s.2.data.toList width with
   | none=>rw [h2] at h;cases h
   | some r2=>
    obtain ⟨t,p3⟩:=r2
    rw [h2] at h
    simp only [Option.some.injEq,Prod.mk.injEq] at h
    obtain ⟨rfl,rfl⟩:=h
    rw [stTxt_some h2]
    exact ⟨rfl,rfl⟩
def encS (s:Stp):VV:=(.int .i64 (s.1:Int),.string s.2)
def partS (width:Nat):PartOf Stp where
 f:=λs p=>p.step width s
 grow:=width+2
 zero:=(0,⟨#[]⟩)
 zeroV:=zS
 Init:=λ_ _ _ x s=>x=encS s/\s.1<65536
 Done:=λ_ _ _ x s=>x=encS s
theorem step_parts {width:Nat} {s y:Stp} {p p2:PS} (h:p.step width s=some (y,p2)):p.like p2/\p2.len<=p.len+(width+2):=by
 unfold PS.step at h
 cases h1:p.num s.1 2 with
 | none=>rw [h1] at h;cases h
 | some r=>
  obtain ⟨m,p1⟩:=r
  rw [h1] at h
  dsimp only at h
  split at h
  ·cases h
  ·cases h2:p1.txt s.2.data.toList width with
   | none=>rw [h2] at h;cases h
   | some r2=>
    obtain ⟨t,p3⟩:=r2
    rw [h2] at h
    simp only [Option.some.injEq,Prod.mk.injEq] at h
    obtain ⟨_,rfl⟩:=h
    have l1:=num_len _ _ _ _ _ h1
    have l2:=txt_len _ _ _ _ _ h2
    exact ⟨(num_like h1).trans (txt_like h2),by omega⟩
theorem lawS (E:Nat->Addr) (b:Nat) (hb12:18<=b) (width lim:Nat) (hw:width<=1000) (hl:lim<=80000000):PartLaw E b width lim lkS.fP (partS width) ShS where
 init_tch:=λh _ _ _=>h
 init_zero:=λ_ _=>⟨rfl,by show 0<65536;omega⟩
 init_shape:=λh=>⟨_,_,h.1⟩
 done_tch:=λh _ _ _=>h
 done_mono:=λh _=>h
 like:=λh=>(step_parts h).1
 len:=λ_ h=>(step_parts h).2
 call:=λ{w g p x a} hE hp hI hd=>by
  obtain ⟨rfl,ha⟩:=hI
  show Calls _ _ #[_,.agg #[.int .i64 (a.1:Int),.string a.2]] _ _
  refine (step_st E b hb12 g width hw (a.1:Int) a.2 (some p) w hE hp (by simp only [stLen];omega)).mono ?_
  rintro e w' ⟨rfl,g',k1,k2,k3⟩
  refine ⟨(.int .i64 _,.string _),⟨_,_,rfl⟩,rfl,?_⟩
  show ToP E w b g width (partS width) (p.step width a) _ w'
  cases h:p.step width a with
  | none=>
   rw [stStep_none width a ha p h] at k1
   obtain ⟨p',t,u,h1,h2⟩:=k1
   exact ⟨g',_,p',h1,k2,k3,h2⟩
  | some r=>
   obtain ⟨y,p2⟩:=r
   obtain ⟨e1,e2⟩:=stStep_some width a y ha p p2 h
   rw [e1] at k1
   exact ⟨g',_,p2,k1,k2,k3,rfl,rfl,by rw [e2];rfl⟩
end Go.Proofs.YtighkdnooglfjaaGreatDoor
namespace Go.Proofs.YtighkdnooglfjaaGreatDoor
open Go.RowKit

set_option maxRecDepth 100000 in
set_option maxHeartbeats 400000 in
theorem isNaN_int (a:Int) (w:World):Calls Tryz.prog 344 #[.int .i64 a] w λe w'=>e=.returned (.bool false)/\w'=w:=by
 go_enter Tryz.func344,Tryz.ntmps344
 go_wp2
 go_ret
 exact ⟨by simp,rfl⟩
def sgn (a b:Int):Int:=if a<b then -1 else if b<a then 1 else 0
theorem sgn_ge (a b:Int):(0<=sgn a b)↔¬a<b:=by unfold sgn;split <;> (try split) <;> omega
set_option maxRecDepth 100000 in
set_option maxHeartbeats 400000 in
theorem compare_int (a b:Int) (w:World):Calls Tryz.prog 293 #[.int .i64 a,.int .i64 b] w λe w'=>e=.returned (.int .i64 (sgn a b))/\w'=w:=by
 go_enter Tryz.func293,Tryz.ntmps293
 go_wp2_with fail
 refine (isNaN_int _ _).mono ?_
 rintro _ _ ⟨rfl,rfl⟩
 go_wp2_with fail
 refine (isNaN_int _ _).mono ?_
 rintro _ _ ⟨rfl,rfl⟩
 by_cases h1:a<b
 ·have HS:Hid (sgn a b= -1):=(by unfold sgn;rw [if_pos h1]:sgn a b= -1)
  go_wp2
  go_ret
  exact ⟨by rw [HS.out];rfl,rfl⟩
 ·by_cases h2:b<a
  ·have HS:Hid (sgn a b=1):=(by unfold sgn;rw [if_neg h1,if_pos h2]:sgn a b=1)
   go_wp2
   go_ret
   exact ⟨by rw [HS.out];rfl,rfl⟩
  ·have HS:Hid (sgn a b=0):=(by unfold sgn;rw [if_neg h1,if_neg h2]:sgn a b=0)
   go_wp2
   go_ret
   exact ⟨by rw [HS.out];rfl,rfl⟩
set_option maxRecDepth 100000 in
set_option maxHeartbeats 400000 in
theorem byBits_any (a b:Int) (x y:ByteArray) (w:World):Calls Tryz.prog 220 #[.agg #[.int .i64 a,.string x],.agg #[.int .i64 b,.string y]] w λe w'=>e=.returned (.int .i64 (sgn a b))/\Tch (λ_=>False) w w':=by
 go_enter Tryz.func220,Tryz.ntmps220
 go_wp2_with fail
 refine (compare_int _ _ _).mono ?_
 rintro _ _ ⟨rfl,rfl⟩
 go_wp2
 go_ret
 exact ⟨rfl,Tch.allocs _ w _ _⟩

theorem meth_rd_more (a:Addr) (w:World):(method 641 170 (.pointer (some a)) "trove/wire.more").run Tryz.prog w=.ok (140,.pointer (some a)) w:=by kernel_rfl
theorem meth_wr_more (a:Addr) (w:World):(method 641 153 (.pointer (some a)) "trove/wire.more").run Tryz.prog w=.ok (377,.pointer (some a)) w:=by kernel_rfl
set_option maxRecDepth 100000 in
set_option maxHeartbeats 400000 in
theorem wmore_any (a:Value) (m:Bool) (w:World):Calls Tryz.prog 377 #[a,.bool m] w λe w'=>e=.returned (.bool m)/\w'=w:=by
 go_enter Tryz.func377,Tryz.ntmps377
 go_wp2
 go_ret
 exact ⟨rfl,rfl⟩
def stMore (m:Bool):Option PS->Bool
 | none=>false
 | some (.rd _ rest)=> !rest.isEmpty
 | some (.wr _)=>m
set_option maxRecDepth 100000 in
set_option maxHeartbeats 400000 in
theorem more_st (E:Nat->Addr) (b:Nat) (g:Option Nat) (width:Int) (m:Bool) (st:Option PS) (w:World) (hp:PortSt E w b g width st):
  Calls Tryz.prog 221 #[.pointer (some ⟨b,0,none⟩),.bool m] w λe w'=>e=.returned (.bool (stMore m st))/\Tch (λ_=>False) w w':=by
 cases st with
 | none=>
  obtain ⟨p,t,u,h1,_⟩:=hp
  have ce:=h1.errCell
  clear h1
  go_enter Tryz.func221,Tryz.ntmps221
  go_wp2
  go_ret
  exact ⟨rfl,Tch.refl _ _⟩
 | some p=>
  have hp:PortAt w b g width .nilIface p:=hp
  have ce:=hp.errCell
  cases p with
  | rd pre rest=>
   have c0:w.cell? ⟨b,0,none⟩=some (.iface 170 (.pointer (some ⟨b,0,none⟩))):=cell_row hp.2
   have hm:=meth_rd_more ⟨b,0,none⟩
   have HP:Hid (PortAt _ _ _ _ _ _):=hp
   clear hp
   go_enter Tryz.func221,Tryz.ntmps221
   go_wp2_with fail
   refine (rmore_any b g width .nilIface _ pre rest w HP.out).mono ?_
   rintro _ w1 ⟨rfl,ht⟩
   have HT:Hid (Tch _ _ _):=ht
   clear ht
   go_wp2
   go_ret
   exact ⟨rfl,HT.out⟩
  | wr d=>
   have c0:w.cell? ⟨b,0,none⟩=some (.iface 153 (.pointer (some ⟨b,0,none⟩))):=by obtain ⟨v,_,_,hr⟩:=hp;exact cell_row hr
   have hm:=meth_wr_more ⟨b,0,none⟩
   clear hp
   go_enter Tryz.func221,Tryz.ntmps221
   go_wp2_with fail
   refine (wmore_any _ m w).mono ?_
   rintro _ _ ⟨rfl,rfl⟩
   go_wp2
   go_ret
   exact ⟨rfl,Tch.refl _ _⟩
def RiseTo (ys:List Stp) (k:Nat):Prop:=∀i,1<=i->i<k->∀x y,ys[i - 1]? =some x->ys[i]? =some y->x.1<y.1
open Classical in
noncomputable def stRise (ys:List Stp) (st:Option PS):Option PS:=if RiseTo ys ys.length then st else none
set_option maxRecDepth 100000 in
set_option maxHeartbeats 1000000 in
theorem rising_none (E:Nat->Addr) (b:Nat) (g:Option Nat) (width:Int) (what:Value) (a:Option Addr) (n c:Nat) (w:World) (hp:PortSt E w b g width none):
  Calls Tryz.prog 219 #[.pointer (some ⟨b,0,none⟩),what,.slice a n c,.func (.func 220) #[] #[]] w λe w'=>e=.returned (.tuple #[])/\w'=w:=by
 obtain ⟨p,t,u,h1,_⟩:=hp
 have ce:=h1.errCell
 clear h1
 go_enter Tryz.func219,Tryz.ntmps219
 go_wp2
 go_loopw [8] (λi wr=>i=.int .i64 1/\wr=w) (λ_ _=>0)
 case atStart=>exact ⟨rfl,rfl⟩
 case round=>
  obtain ⟨rfl,rfl⟩:=hrel
  by_cases hlt:1<n
  ·have hlti:(1:Int)<(n:Int):=by omega
   go_wp2
   exact bodyPost_end (v:=.tuple #[]) (results_none Tryz.results219 _ _ _) rfl ⟨rfl,rfl⟩
  ·have hlti:¬(1:Int)<(n:Int):=by omega
   go_wp2
   exact bodyPost_end (v:=.tuple #[]) (results_none Tryz.results219 _ _ _) rfl ⟨rfl,rfl⟩
set_option maxRecDepth 100000 in
set_option maxHeartbeats 2000000 in
theorem rising_some (E:Nat->Addr) (b:Nat) (g:Option Nat) (width:Int) (what:ByteArray) (hwh:what.size<=1000) (gp:Nat) (ys:List Stp) (hn:ys.length<=300) (p:PS) (w:World) (hE:Env E w) (hp:PortSt E w b g width (some p)) (hr:w.heap[gp]? =some (.cells (vvA (ys.map encS)) 366)) (hgb:gp ≠ b) (hgg:some gp ≠ g):
  Calls Tryz.prog 219 #[.pointer (some ⟨b,0,none⟩),.string what,.slice (some ⟨gp,0,none⟩) ys.length ys.length,.func (.func 220) #[] #[]] w λe w'=>e=.returned (.tuple #[])/\StTo E w w' b g width (stRise ys (some p)):=by
 have HG:Hid (gp ≠ b/\some gp ≠ g):=⟨hgb,hgg⟩
 have HE:Hid (Env E w):=hE
 have HP:Hid (PortSt E w b g width (some p)):=hp
 have HR:Hid (w.heap[gp]? =some (.cells (vvA (ys.map encS)) 366)):=hr
 have HN:Hid (ys.length<=300):=hn
 clear hE hp hr hgb hgg hn
 go_enter Tryz.func219,Tryz.ntmps219
 go_wp2
 go_loopw [8] (λi wr=>∃k:Nat,1<=k/\i=.int .i64 k/\((Hid (Tch (λ_=>False) w wr)/\Hid (RiseTo ys k))\/(Hid (StTo E w wr b g width none)/\Hid (¬RiseTo ys ys.length)))) (λi _=>ys.length+1 - (intOf i).toNat)
 case atStart=>exact ⟨1,by omega,rfl,.inl ⟨Tch.refl _ w,λi h1 h2=>by omega⟩⟩
 case round=>
  obtain ⟨k,hk1,rfl,⟨hT,hRi⟩ | ⟨hS,hNR⟩⟩:=hrel
  ·by_cases hlt:k<ys.length
   ·have hrow:=(hT.out.block gp (row_lt HR.out) (λh=>h)).trans HR.out
    have hpk:=HP.out.next hT.out
    have ce:=PortAt.errCell hpk
    have hlen:ys.length<=300:=HN.out
    have hgk:=λi (hi:i<ys.length)=>vvA_get (ys.map encS) i (by simpa using hi)
    have cell:∀i (hi:i<ys.length),wr.cell? ⟨gp,i * 2,none⟩=some (.int .i64 (ys[i].1:Int))/\wr.cell? ⟨gp,i * 2+1,none⟩=some (.string ys[i].2):=λi hi=>by
     obtain ⟨e1,e2⟩:=hgk i hi
     rw [List.getElem_map] at e1 e2
     exact ⟨(cell_row hrow).trans e1,(cell_row hrow).trans e2⟩
    obtain ⟨j,hjk⟩:∃j,k=j+1:=⟨k - 1,by omega⟩
    obtain ⟨a0,a1⟩:=cell j (by omega)
    obtain ⟨b0,b1⟩:=cell k hlt
    have HLT:Hid (k<ys.length):=hlt
    have HA:Hid (ys[j]? =some ys[j]):=List.getElem?_eq_getElem (by omega)
    have HB:Hid (ys[k]? =some ys[k]):=List.getElem?_eq_getElem hlt
    have hlti:(k:Int)<(ys.length:Int):=by omega
    have hsub:IntKind.i64.wrap ((k:Int) - 1)=(j:Int):=by rw [i64wrap_small _ (by omega) (by omega)];omega
    have hj0:j<ys.length:=by omega
    have hji:(j:Int)<(ys.length:Int):=by omega
    have HJK:Hid (k=j+1):=hjk
    clear cell hgk hrow
    generalize hX:ys[j]=X at *
    generalize hY:ys[k]=Y at *
    obtain ⟨x0,x1⟩:=X
    obtain ⟨y0,y1⟩:=Y
    dsimp only at a0 a1 b0 b1
    clear hX hY hpk hlt hjk
    go_upto_region 3 with fail
    go_cut [33] (λvb wx=>vb=.bool (decide (0<=sgn (x0:Int) (y0:Int)))/\Hid (Tch (λ_=>False) wr wx))
    case first=>
     clear hRi hT HA HB HE HP HR HN
     go_region_with (go_at_call 220;refine (byBits_any _ _ _ _ _).mono ?_;rintro _ w1 ⟨rfl,ht⟩;have HT1:Hid (Tch _ _ _):=ht;clear ht)
     all_goals
      go_wp2
      go_meet
      exact ⟨rfl,(Tch.drewN (λ_=>False) wr 1).trans HT1.out (λ_ h=>.inl h)⟩
    case rest=>
    obtain ⟨rfl,hTx⟩:=hcut
    obtain ⟨wA,hwA⟩:∃wA,wA=wc:=⟨_,rfl⟩
    have HTX:Hid (Tch (λ_=>False) w wA):=hT.out.trans (hwA ▸ hTx.out) (λ_ h=>.inl h)
    subst hwA
    have hpA:=HP.out.next HTX.out
    have hSG:(0<=sgn (x0:Int) (y0:Int))↔¬x0<y0:=by rw [sgn_ge];omega
    by_cases hlt:x0<y0
    ·have hdec:decide (0<=sgn (x0:Int) (y0:Int))=false:=by simp [hSG,hlt]
     rw [hdec]
     have HRI:Hid (RiseTo ys (k+1)):=λi h1 h2 x y hx hy=>by
      by_cases hi:i<k
      ·exact hRi.out i h1 hi x y hx hy
      ·obtain rfl:i=k:=by omega
       rw [show i - 1=j by have:=HJK.out;omega,HA.out] at hx
       rw [HB.out] at hy
       cases hx;cases hy;exact hlt
     clear hRi hSG hdec hlt hpA
     go_wp2
     go_roundw
     case rel=>exact ⟨k+1,by omega,by go_num,.inl ⟨HTX.out,HRI.out⟩⟩
     case measure=>have:=HLT.out;simp [intOf];omega
    ·have hdec:decide (0<=sgn (x0:Int) (y0:Int))=true:=by simp [hSG,hlt]
     rw [hdec]
     have HNR:Hid (¬RiseTo ys ys.length):=λh=>hlt (h k hk1 HLT.out _ _ (by rw [show k - 1=j by have:=HJK.out;omega];exact HA.out) HB.out)
     have HEA:Hid (Env E wA):=HE.out.tch HTX.out noE
     have HPA:Hid (PortSt E wA b g width (some p)):=hpA
     clear hRi hSG hdec hlt hpA
     have hws:(what++(⟨#[32]⟩:ByteArray)).size<=1001:=by rw [ByteArray.size_append];show what.size+1<=1001;omega
     have hnb0:¬(what.size+(⟨#[32]⟩:ByteArray).size > 9223372036854775807):=by show ¬(what.size+1 > 9223372036854775807);omega
     go_wp2_with fail
     refine (itoa_env HEA.out k (by omega)).mono ?_
     rintro _ w2 ⟨⟨s1,hs1,rfl⟩,hb2⟩
     have HT2:Hid (Tch (λ_=>False) wA w2):=(Tch.of_below hb2).mono (λ_ h=>.inr h)
     clear hb2
     generalize what++(⟨#[32]⟩:ByteArray)=ws at *
     have hnb:¬(ws.size+s1.size > 9223372036854775807):=by omega
     go_wp2_with fail
     refine (refuse_st E b g width (ws++s1) _ w2 (HEA.out.tch HT2.out noE) (HPA.out.next HT2.out)).mono ?_
     rintro _ w3 ⟨rfl,hs3⟩
     have HS3:Hid (StTo E w w3 b g width none):=StTo.fresh (HTX.out.trans HT2.out (λ_ h=>.inl h)) hs3
     clear hs3
     go_wp2
     go_roundw
     case rel=>exact ⟨k+1,by omega,by go_num,.inr ⟨HS3.out,HNR.out⟩⟩
     case measure=>have:=HLT.out;simp [intOf];omega
   ·have HRI:Hid (RiseTo ys ys.length):=λi h1 h2=>hRi.out i h1 (by omega)
    have hlti:¬((k:Nat):Int)<(ys.length:Int):=by omega
    go_wp2
    refine bodyPost_end (v:=.tuple #[]) (results_none Tryz.results219 _ _ _) rfl ⟨rfl,?_⟩
    unfold stRise
    rw [if_pos HRI.out]
    exact ⟨g,HP.out.next hT.out,.inl rfl,hT.out.mono noE⟩
  ·have hev:=hS.out.choose_spec.1.err
   obtain ⟨_,t,u,ce⟩ | ⟨⟨_,h⟩,_⟩:=hev
   ·by_cases hlt:k<ys.length
    ·have hlti:((k:Nat):Int)<(ys.length:Int):=by omega
     go_wp2
     refine bodyPost_end (v:=.tuple #[]) (results_none Tryz.results219 _ _ _) rfl ⟨rfl,?_⟩
     unfold stRise
     rw [if_neg hNR.out]
     exact hS.out
    ·have hlti:¬((k:Nat):Int)<(ys.length:Int):=by omega
     go_wp2
     refine bodyPost_end (v:=.tuple #[]) (results_none Tryz.results219 _ _ _) rfl ⟨rfl,?_⟩
     unfold stRise
     rw [if_neg hNR.out]
     exact hS.out
   ·cases h
end Go.Proofs.YtighkdnooglfjaaGreatDoor
