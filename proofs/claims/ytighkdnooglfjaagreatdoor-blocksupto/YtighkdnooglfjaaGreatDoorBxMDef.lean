import Derived.Test.YtighkdnooglfjaaGreatDoorBxWr
import Derived.Stop.Asserts
import Derived.RowKitTokens
namespace Go.Proofs.YtighkdnooglfjaaGreatDoor
open Go.RowKit

def Jr (B:Nat) (w:World) (v:Value) (l:List (Nat×Nat)):Prop:=
 (v=.slice none 0 0/\l=[])\/∃gi oi c,v=.slice (some ⟨gi,oi,none⟩) l.length c/\gi<B/\gi<w.heap.size/\∀i (h:i<l.length),w.cell? ⟨gi,oi+i * 2,none⟩=some (.int .u64 ((l[i].1:Nat):Int))/\w.cell? ⟨gi,oi+i * 2+1,none⟩=some (.int .u8 ((l[i].2:Nat):Int))
theorem Jr.tch {B:Nat} {w w':World} {v:Value} {l:List (Nat×Nat)} {S:Nat->Prop} (h:Jr B w v l) (k:Tch S w w') (hs:∀j,S j->B<=j):Jr B w' v l:=by
 rcases h with h | ⟨gi,oi,c,hv,h1,h2,h3⟩
 ·exact .inl h
 ·refine .inr ⟨gi,oi,c,hv,h1,Qk h2 k.size,λi hi=>?_⟩
  have hc:∀o,w'.cell? ⟨gi,o,none⟩=w.cell? ⟨gi,o,none⟩:=λo=>k.cell (p:=⟨gi,o,none⟩) h2 (λe=>by have:=hs gi e;omega)
  rw [hc,hc];exact h3 i hi
theorem Jr.shape {B:Nat} {w:World} {v:Value} {l:List (Nat×Nat)} (h:Jr B w v l):∃a c,v=.slice a l.length c:=by
 rcases h with ⟨rfl,rfl⟩ | ⟨gi,oi,c,rfl,_⟩
 ·exact ⟨none,0,rfl⟩
 ·exact ⟨_,_,rfl⟩
def Jz (B:Nat) (w:World) (v:Value) (l:List (BA×Int)):Prop:=
 (v=.slice none 0 0/\l=[])\/∃gi oi c,v=.slice (some ⟨gi,oi,none⟩) l.length c/\gi<B/\gi<w.heap.size/\∀i (h:i<l.length),w.cell? ⟨gi,oi+i * 2,none⟩=some (.string l[i].1)/\w.cell? ⟨gi,oi+i * 2+1,none⟩=some (.int .i64 l[i].2)
theorem Jz.tch {B:Nat} {w w':World} {v:Value} {l:List (BA×Int)} {S:Nat->Prop} (h:Jz B w v l) (k:Tch S w w') (hs:∀j,S j->B<=j):Jz B w' v l:=by
 rcases h with h | ⟨gi,oi,c,hv,h1,h2,h3⟩
 ·exact .inl h
 ·refine .inr ⟨gi,oi,c,hv,h1,Qk h2 k.size,λi hi=>?_⟩
  have hc:∀o,w'.cell? ⟨gi,o,none⟩=w.cell? ⟨gi,o,none⟩:=λo=>k.cell (p:=⟨gi,o,none⟩) h2 (λe=>by have:=hs gi e;omega)
  rw [hc,hc];exact h3 i hi
theorem Jz.shape {B:Nat} {w:World} {v:Value} {l:List (BA×Int)} (h:Jz B w v l):∃a c,v=.slice a l.length c:=by
 rcases h with ⟨rfl,rfl⟩ | ⟨gi,oi,c,rfl,_⟩
 ·exact ⟨none,0,rfl⟩
 ·exact ⟨_,_,rfl⟩
abbrev Sl:=Option Addr×Nat×Nat
def JR (B:Nat) (w:World) (v:Value) (l:List (Sl×Sl)):Prop:=
 (v=.slice none 0 0/\l=[])\/∃gi oi c,v=.slice (some ⟨gi,oi,none⟩) l.length c/\gi<B/\gi<w.heap.size/\∀i (h:i<l.length),w.cell? ⟨gi,oi+i * 2,none⟩=some (.slice l[i].1.1 l[i].1.2.1 l[i].1.2.2)/\w.cell? ⟨gi,oi+i * 2+1,none⟩=some (.slice l[i].2.1 l[i].2.2.1 l[i].2.2.2)
theorem JR.tch {B:Nat} {w w':World} {v:Value} {l:List (Sl×Sl)} {S:Nat->Prop} (h:JR B w v l) (k:Tch S w w') (hs:∀j,S j->B<=j):JR B w' v l:=by
 rcases h with h | ⟨gi,oi,c,hv,h1,h2,h3⟩
 ·exact .inl h
 ·refine .inr ⟨gi,oi,c,hv,h1,Qk h2 k.size,λi hi=>?_⟩
  have hc:∀o,w'.cell? ⟨gi,o,none⟩=w.cell? ⟨gi,o,none⟩:=λo=>k.cell (p:=⟨gi,o,none⟩) h2 (λe=>by have:=hs gi e;omega)
  rw [hc,hc];exact h3 i hi
theorem JR.shape {B:Nat} {w:World} {v:Value} {l:List (Sl×Sl)} (h:JR B w v l):∃a c,v=.slice a l.length c:=by
 rcases h with ⟨rfl,rfl⟩ | ⟨gi,oi,c,rfl,_⟩
 ·exact ⟨none,0,rfl⟩
 ·exact ⟨_,_,rfl⟩
theorem Jz.up {B B':Nat} {w:World} {v:Value} {l:List (BA×Int)} (h:Jz B w v l) (hb:B<=B'):Jz B' w v l:=by
 rcases h with h | ⟨gi,oi,c,h1,h2,h3⟩
 ·exact .inl h
 ·exact .inr ⟨gi,oi,c,h1,by omega,h3⟩
theorem Jr.up {B B':Nat} {w:World} {v:Value} {l:List (Nat×Nat)} (h:Jr B w v l) (hb:B<=B'):Jr B' w v l:=by
 rcases h with h | ⟨gi,oi,c,h1,h2,h3⟩
 ·exact .inl h
 ·exact .inr ⟨gi,oi,c,h1,by omega,h3⟩

def PS.out (a o:Nat) (p:PS):Option ((Nat×Nat)×PS):=
 match p.num a 8 with
 | none=>none
 | some (a',p1)=>match p1.num o 1 with
  | none=>none
  | some (o',p2)=>some ((a',o'),p2)
def Jw (n:Int):Nat:=(n % 18446744073709551616).toNat
def PS.coin (wj:Nat) (c:BA×Int) (p:PS):Option ((BA×Int)×PS):=
 match p.txt c.1.data.toList wj with
 | none=>none
 | some (t,p1)=>match p1.num (Jw c.2) 1 with
  | none=>none
  | some (m,p2)=>if m<3 then some ((⟨t.toArray⟩,(m:Int)),p2) else none
def PS.coins (wj:Nat):List (BA×Int)->PS->Option (List (BA×Int)×PS)
 | [],p=>some ([],p)
 | x :: r,p=>match p.coin wj x with
  | none=>none
  | some (y,p1)=>match PS.coins wj r p1 with
   | none=>none
   | some (ys,p2)=>some (y :: ys,p2)
def PS.outs:List (Nat×Nat)->PS->Option (List (Nat×Nat)×PS)
 | [],p=>some ([],p)
 | x :: r,p=>match p.out x.1 x.2 with
  | none=>none
  | some (y,p1)=>match PS.outs r p1 with
   | none=>none
   | some (ys,p2)=>some (y :: ys,p2)
def XX (l:List (BA×Int)) (cnt:Nat):List (BA×Int):=if l=[] then List.replicate cnt (⟨#[]⟩,0) else l
def Yq (l:List (Nat×Nat)) (cnt:Nat):List (Nat×Nat):=if l=[] then List.replicate cnt (0,0) else l
def PS.listC (wj least most:Nat) (l:List (BA×Int)) (p:PS):Option (List (BA×Int)×PS):=
 match p.num l.length 1 with
 | none=>none
 | some (cnt,p1)=>if cnt<least\/most<cnt then none else PS.coins wj (XX l cnt) p1
def PS.listO (least most:Nat) (l:List (Nat×Nat)) (p:PS):Option (List (Nat×Nat)×PS):=
 match p.num l.length 1 with
 | none=>none
 | some (cnt,p1)=>if cnt<least\/most<cnt then none else PS.outs (Yq l cnt) p1
abbrev TxL:=List (BA×Int)×List (Nat×Nat)
def PS.tx (wj:Nat) (t:TxL) (p:PS):Option (TxL×PS):=
 match p.listC wj 1 3 t.1 with
 | none=>none
 | some (ys,p1)=>match p1.listO 0 3 t.2 with
  | none=>none
  | some (zs,p2)=>some ((ys,zs),p2)
def PS.txs (wj:Nat):List TxL->PS->Option (List TxL×PS)
 | [],p=>some ([],p)
 | x :: r,p=>match p.tx wj x with
  | none=>none
  | some (y,p1)=>match PS.txs wj r p1 with
   | none=>none
   | some (ys,p2)=>some (y :: ys,p2)
def YD (ts:List TxL) (cnt:Nat):List TxL:=if ts=[] then List.replicate cnt ([],[]) else ts
def PS.body (wj:Nat) (ts:List TxL) (p:PS):Option (List TxL×PS):=
 match p.num ts.length 1 with
 | none=>none
 | some (cnt,p1)=>if 3<cnt then none else PS.txs wj (YD ts cnt) p1
def PS.hdr (wj:Nat) (h:Nat×BA×BA×BA) (p:PS):Option ((Nat×BA×BA×BA)×PS):=
 match p.num h.1 4 with
 | none=>none
 | some (n,p1)=>match p1.txt h.2.1.data.toList wj with
  | none=>none
  | some (t1,p2)=>match p2.txt h.2.2.1.data.toList wj with
   | none=>none
   | some (t2,p3)=>match p3.txt h.2.2.2.data.toList wj with
    | none=>none
    | some (t3,p4)=>some ((n,⟨t1.toArray⟩,⟨t2.toArray⟩,⟨t3.toArray⟩),p4)
def Jn (l:List (Nat×Nat)) (k:Nat):Nat:=((l.take k).map (·.1)).sum
def Xb (l1 l2:List (Nat×Nat)):Prop:=18446744073709551616<=Jn l1 l1.length\/18446744073709551616<=Jn l2 l2.length\/Jn l1 l1.length<Jn l2 l2.length
open Tryz
set_option maxRecDepth 100000
set_option maxHeartbeats 1000000

def Jaz (E:Nat->Addr) (w w':World) (b:Nat) (g:Option Nat) (wj:Int):Prop:=
 ∃g' p',Jc w' b g' wj (eV E 7) p'/\Jp w g g'/\Tch (λk=>k=b\/some k=g) w w'
theorem Tch.allocs (S:Nat->Prop) (w:World) (o o':Obj):Tch S w ((w.alloc o).alloc o'):=(Ta S w o).trans (Ta S _ o') (λ_ h=>.inl h)
theorem Jc.allocs {w:World} {b:Nat} {g:Option Nat} {wj:Int} {err:Value} {p:PS} (h:Jc w b g wj err p) (o o':Obj):Jc ((w.alloc o).alloc o') b g wj err p:=
 h.tch (Tch.allocs NoB w o o') (λh=>h) (λ_ _ h=>h)
theorem Env.allocs {E:Nat->Addr} {w:World} (h:Env E w) (o o':Obj):Env E ((w.alloc o).alloc o'):=h.tch (Tch.allocs NoB w o o') noE
theorem set2 (w:World) (g:Nat) (t:TypeId) (a b v0 v1:Value) (h:w.heap[g]? =some (.cells #[a,b] t (0,0))):
  (w.setCell ⟨g,0,none⟩ v0).setCell ⟨g,1,none⟩ v1=w.setRow g #[v0,v1]:=by
 rw [Qj w g 0 _ t (0,0) v0 h,Qj _ g 1 _ t (0,0) v1 (Qi _ _ _ _ _ _ h),QI]
 refine congrArg (w.setRow g) ?_
 simp
theorem Xs.fresh {w w2 w3:World} {b k:Nat} {g g2:Option Nat} {wj:Int} {err:Value} {p p2:PS} (_hp:Jc w b g wj err p) (o o':Obj) (hm:Jp ((w.alloc o).alloc o') g g2) (ht:Tch (λk=>k=b\/some k=g) ((w.alloc o).alloc o') w2)
  (hp2:Jc w3 b g2 wj .nilIface p2) (h3:Tch (λj=>j=k) w2 w3) (hk:w.heap.size<=k):Xs w w3 b g wj p2:=by
 refine ⟨g2,hp2,?_,((Tch.allocs _ w o o').trans ht (λ_ h=>.inl h)).trans h3 (λj hj=>by subst hj;exact .inr hk)⟩
 rcases hm with hm | ⟨i,hi,hle⟩
 ·exact .inl hm
 ·exact .inr ⟨i,hi,by simp at hle;omega⟩
theorem Jaz.fresh {E:Nat->Addr} {w w2 w3:World} {b k:Nat} {g g2:Option Nat} {wj:Int} {err:Value} {p p2:PS} (_hp:Jc w b g wj err p) (o o':Obj) (hm:Jp ((w.alloc o).alloc o') g g2) (ht:Tch (λk=>k=b\/some k=g) ((w.alloc o).alloc o') w2)
  (hp2:Jc w3 b g2 wj (eV E 7) p2) (h3:Tch (λj=>j=k) w2 w3) (hk:w.heap.size<=k):Jaz E w w3 b g wj:=by
 refine ⟨g2,p2,hp2,?_,((Tch.allocs _ w o o').trans ht (λ_ h=>.inl h)).trans h3 (λj hj=>by subst hj;exact .inr hk)⟩
 rcases hm with hm | ⟨i,hi,hle⟩
 ·exact .inl hm
 ·exact .inr ⟨i,hi,by simp at hle;omega⟩
theorem XQ {w:World} {b:Nat} {g:Option Nat} {wj:Int} {err:Value} {p:PS} (h:Jc w b g wj err p) (k:Nat) (hk:w.heap.size<=k):¬(k=b\/some k=g):=by
 have h1:=h.lt
 rintro (rfl | e)
 ·omega
 ·have:=(h.own k e.symm).2;omega
theorem Jag {w:World} {b:Nat} {g:Option Nat} {wj:Int} {err:Value} {p:PS} (h12:18<=b) (h:Jc w b g wj err p):∀j,(j=b\/some j=g)->18<=j:=by
 rintro j (rfl | e)
 ·exact h12
 ·have:=(h.own j e.symm).1;omega
theorem Jbx {w:World} {b:Nat} {g g':Option Nat} {wj:Int} {err:Value} {p:PS} (h:Jc w b g wj err p) (o o':Obj) (hm:Jp ((w.alloc o).alloc o') g g') (k:Nat) (hk:w.heap.size<=k) (hk2:k<w.heap.size+2):¬(k=b\/some k=g'):=by
 rcases hm with rfl | ⟨i,rfl,hi⟩
 ·exact XQ h k hk
 ·have h1:=h.lt
  rintro (rfl | e)
  ·omega
  ·cases e;simp at hi;omega

theorem Jbi (x:Int) (h0:0<=x) (h:x<256):IntKind.u8.wrap x=x:=by
 simp [IntKind.wrap,IntKind.bits,IntKind.signed];omega

theorem Jjk (b:Nat) (g:Option Nat) (wj:Int) (a o a' o':Nat) (p p1 p2:PS) (w:World) (hp:Jc w b g wj .nilIface p) (hd:p.len<=90000000) (hd1:p1.len<=90000000) (ho:o<256) (h1:p.num a 8=some (a',p1)) (h2:p1.num o 1=some (o',p2)) (ho':o'<256):
  Calls prog 205 #[.pointer (some ⟨b,0,none⟩),.agg #[.int .u64 (a:Int),.int .u8 (o:Int)]] w λe w'=>e=.returned (.agg #[.int .u64 (a':Int),.int .u8 (o':Int)])/\Xs w w' b g wj p2:=by
 have hlt:=hp.lt
 go_enter func205,ntmps205
 go_wp2_with fail
 refine (Xh b g wj a 8 a' p p1 _ (hp.allocs _ _) (by omega) (by omega) h1).mono ?_
 rintro _ w1 ⟨rfl,g1,hp1,hm1,ht1⟩
 have cB:w1.cell? ⟨w.heap.size,1,none⟩=some (.int .u8 (o:Int)):=(ht1.cell (p:=⟨w.heap.size,1,none⟩) (by simp;omega) (XQ hp _ (Ql _))).trans (Ja (heap_alloc2_old _ _ _))
 have rR:w1.heap[w.heap.size+1]? =some (.cells #[.int .u64 0,.int .u8 0] 80):=(ht1.block _ (by simp) (XQ hp _ (by omega))).trans (heap_alloc2_new _ _ _)
 have hw:IntKind.u64.wrap (o:Int)=(o:Int):=JF _ (by omega) (by omega)
 have hw2:IntKind.u8.wrap (o':Int)=(o':Int):=Jbi _ (by omega) (by omega)
 have RR:Hid (_=_):=rR
 have HM1:Hid (Jp _ _ _):=hm1
 have HT1:Hid (Tch _ _ _):=ht1
 have HP:Hid (Jc _ _ _ _ _ _):=hp
 clear rR hm1 ht1 hp
 go_wp2_with fail
 refine (Xh b g1 wj o 1 o' p1 p2 _ hp1 (by omega) (by omega) h2).mono ?_
 rintro _ w2 ⟨rfl,g2,hp2,hm2,ht2⟩
 have rR2:w2.heap[w.heap.size+1]? =some (.cells #[.int .u64 0,.int .u8 0] 80):=(ht2.block _ (by have:=HT1.o.size;simp at this;omega) (Jbx HP.o _ _ HM1.o _ (by omega) (by omega))).trans RR.out
 have e0:w2.cell? ⟨w.heap.size+1,0,none⟩=some (.int .u64 0):=Ja rR2
 have e1:w2.cell? ⟨w.heap.size+1,1,none⟩=some (.int .u8 0):=Ja rR2
 have fR:∀j,w2.frozen? ⟨w.heap.size+1,j,none⟩=false:=λj=>Qg _ _ _ _ _ rR2
 have RR2:Hid (_=_):=rR2
 clear rR2
 go_wp2
 rw [set2 _ _ _ _ _ _ _ RR2.out]
 refine QK (v:=.agg #[.int .u64 (a':Int),.int .u8 (o':Int)]) (Qq results205 _ _ (w.heap.size+1) _ _ (0,0) _ rfl (Qi w2 _ _ _ _ _ RR2.out) underlying80 rfl (by kernel_rfl)) rfl ⟨rfl,?_⟩
 have hn2:¬(w.heap.size+1=b\/some (w.heap.size+1)=g2):=by
  have h3:=HM1.o.trans hm2 HT1.o.size
  exact Jbx HP.o _ _ h3 _ (by omega) (by omega)
 refine Xs.fresh HP.o _ _ (HM1.o.trans hm2 HT1.o.size) (XW HT1.o ht2 HM1.o) ?_ (Ts w2 (w.heap.size+1) _) (by omega)
 exact hp2.tch (Ts w2 (w.heap.size+1) _) (λe=>hn2 (.inl e.symm)) (λj hj e=>hn2 (.inr (by rw [hj,e])))

theorem JhP (E:Nat->Addr) (b:Nat) (g:Option Nat) (wj:Int) (a o:Nat) (p:PS) (w:World) (hE:Env E w) (hp:Jc w b g wj .nilIface p) (hd:p.len<=90000000) (h1:p.num a 8=none):
  Calls prog 205 #[.pointer (some ⟨b,0,none⟩),.agg #[.int .u64 (a:Int),.int .u8 (o:Int)]] w λe w'=>∃x y:Int,e=.returned (.agg #[.int .u64 x,.int .u8 y])/\Jaz E w w' b g wj:=by
 have hlt:=hp.lt
 go_enter func205,ntmps205
 go_wp2_with fail
 refine (YA E b g wj a 8 p _ (hE.allocs _ _) (hp.allocs _ _) (by omega) (by omega) h1).mono ?_
 rintro _ w2 ⟨rfl,hp1,ht1⟩
 have hb1:w.heap.size ≠ b:=by omega
 have hb2:w.heap.size+1 ≠ b:=by omega
 have cB:w2.cell? ⟨w.heap.size,1,none⟩=some (.int .u8 (o:Int)):=(ht1.cell (p:=⟨w.heap.size,1,none⟩) (by simp;omega) hb1).trans (Ja (heap_alloc2_old _ _ _))
 have rR2:w2.heap[w.heap.size+1]? =some (.cells #[.int .u64 0,.int .u8 0] 80):=(ht1.block _ (by simp) hb2).trans (heap_alloc2_new _ _ _)
 have e0:w2.cell? ⟨w.heap.size+1,0,none⟩=some (.int .u64 0):=Ja rR2
 have e1:w2.cell? ⟨w.heap.size+1,1,none⟩=some (.int .u8 0):=Ja rR2
 have fR:∀j,w2.frozen? ⟨w.heap.size+1,j,none⟩=false:=λj=>Qg _ _ _ _ _ rR2
 have RR2:Hid (_=_):=rR2
 have HT1:Hid (Tch _ _ _):=ht1
 have HP:Hid (Jc _ _ _ _ _ _):=hp
 clear rR2 ht1 hp hE
 go_wp2_with fail
 refine (Zx b g wj _ _ p _ _ _ hp1).mono ?_
 rintro _ _ ⟨rfl,rfl⟩
 go_wp2
 rw [set2 _ _ _ _ _ _ _ RR2.out]
 refine QK (v:=.agg #[.int .u64 0,.int .u8 0]) (Qq results205 _ _ (w.heap.size+1) _ _ (0,0) _ rfl (Qi w2 _ _ _ _ _ RR2.out) underlying80 rfl (by kernel_rfl)) rfl ⟨0,0,rfl,?_⟩
 refine Jaz.fresh (p2:=p) HP.o _ _ (.inl rfl) (HT1.o.mono (λj h=>.inl (.inl h))) ?_ (Ts w2 (w.heap.size+1) _) (by omega)
 exact hp1.tch (Ts w2 (w.heap.size+1) _) (λe=>hb2 e.symm) (λj hj e=>by subst e;have:=(HP.o.own _ hj).2;omega)

theorem JhQ (E:Nat->Addr) (b:Nat) (hb12:18<=b) (g:Option Nat) (wj:Int) (a o a':Nat) (p p1:PS) (w:World) (hE:Env E w) (hp:Jc w b g wj .nilIface p) (hd:p.len<=90000000) (ho:o<256) (h1:p.num a 8=some (a',p1)) (h2:p1.num o 1=none):
  Calls prog 205 #[.pointer (some ⟨b,0,none⟩),.agg #[.int .u64 (a:Int),.int .u8 (o:Int)]] w λe w'=>∃x y:Int,e=.returned (.agg #[.int .u64 x,.int .u8 y])/\Jaz E w w' b g wj:=by
 have hlt:=hp.lt
 go_enter func205,ntmps205
 go_wp2_with fail
 refine (Xh b g wj a 8 a' p p1 _ (hp.allocs _ _) (by omega) (by omega) h1).mono ?_
 rintro _ w1 ⟨rfl,g1,hp1,hm1,ht1⟩
 have cB:w1.cell? ⟨w.heap.size,1,none⟩=some (.int .u8 (o:Int)):=(ht1.cell (p:=⟨w.heap.size,1,none⟩) (by simp;omega) (XQ hp _ (Ql _))).trans (Ja (heap_alloc2_old _ _ _))
 have rR:w1.heap[w.heap.size+1]? =some (.cells #[.int .u64 0,.int .u8 0] 80):=(ht1.block _ (by simp) (XQ hp _ (by omega))).trans (heap_alloc2_new _ _ _)
 have hw:IntKind.u64.wrap (o:Int)=(o:Int):=JF _ (by omega) (by omega)
 have RR:Hid (_=_):=rR
 have HM1:Hid _:=hm1
 have HT1:Hid _:=ht1
 have HP:Hid _:=hp
 have hE1:Env E w1:=(hE.allocs _ _).tch ht1 (Jag hb12 hp)
 clear rR hm1 ht1 hp hE
 go_wp2_with fail
 refine (YA E b g1 wj o 1 p1 _ hE1 hp1 (by omega) (by have:=Zw _ _ _ _ _ h1;omega) h2).mono ?_
 rintro _ w2 ⟨rfl,hp2,ht2⟩
 have hb2:w.heap.size+1 ≠ b:=by omega
 have rR2:w2.heap[w.heap.size+1]? =some (.cells #[.int .u64 0,.int .u8 0] 80):=(ht2.block _ (by have:=HT1.o.size;simp at this;omega) hb2).trans RR.out
 have e0:w2.cell? ⟨w.heap.size+1,0,none⟩=some (.int .u64 0):=Ja rR2
 have e1:w2.cell? ⟨w.heap.size+1,1,none⟩=some (.int .u8 0):=Ja rR2
 have fR:∀j,w2.frozen? ⟨w.heap.size+1,j,none⟩=false:=λj=>Qg _ _ _ _ _ rR2
 have RR2:Hid (_=_):=rR2
 clear rR2
 go_wp2
 rw [set2 _ _ _ _ _ _ _ RR2.out]
 refine QK (v:=.agg #[.int .u64 (a':Int),.int .u8 0]) (Qq results205 _ _ (w.heap.size+1) _ _ (0,0) _ rfl (Qi w2 _ _ _ _ _ RR2.out) underlying80 rfl (by kernel_rfl)) rfl ⟨(a':Int),0,rfl,?_⟩
 have hn2:¬(w.heap.size+1=b\/some (w.heap.size+1)=g1):=Jbx HP.o _ _ HM1.o _ (by omega) (by omega)
 refine Jaz.fresh (p2:=p1) HP.o _ _ HM1.o (HT1.o.trans ht2 (λj h=>.inl (.inl h))) ?_ (Ts w2 (w.heap.size+1) _) (by omega)
 exact hp2.tch (Ts w2 (w.heap.size+1) _) (λe=>hn2 (.inl e.symm)) (λj hj e=>hn2 (.inr (by rw [hj,e])))

inductive Jm (E:Nat->Addr) (g:Nat) (w:World):Value->Prop where
 | base:Jm E g w (eV E g)
 | wrap (p:Nat) (s:BA) (v:Value):w.heap[p]? =some (.cells #[.string s,v] 237)->Jm E g w v->Jm E g w (.iface 235 (.pointer (some ⟨p,0,none⟩)))
theorem Jm.tch {E:Nat->Addr} {g:Nat} {w w':World} {v:Value} {S:Nat->Prop} (h:Jm E g w v) (k:Tch S w w') (hs:∀p s u,w.heap[p]? =some (.cells #[.string s,u] 237)->¬S p):Jm E g w' v:=by
 induction h with
 | base=>exact .base
 | wrap p s u hp _ ih=>exact .wrap p s u ((k.block p (Jb hp) (hs p s u hp)).trans hp) ih
theorem Jm.later {E:Nat->Addr} {g:Nat} {w w':World} {v:Value} (h:Jm E g w v) (k:Below w.heap.size w w'):Jm E g w' v:=
 h.tch (Tch.of_below k) (λp _ _ hp hj=>by have:=(Jb hp);omega)
theorem Jm.iface {E:Nat->Addr} {g:Nat} {w:World} {v:Value} (h:Jm E g w v):∃t u,v=.iface t u:=by
 cases h with
 | base=>exact ⟨_,_,rfl⟩
 | wrap p s u _ _=>exact ⟨_,_,rfl⟩

theorem XA (s:BA) (t:TypeId) (v:Value) (w:World):Calls prog 80 #[.string s,.iface t v] w λe w'=>e=.returned (.iface 235 (.pointer (some ⟨w.heap.size,0,none⟩)))/\w'=w.alloc (.cells #[.string s,.iface t v] 237):=by
 go_enter func80,ntmps80
 go_wp2
 go_ret
 exact ⟨rfl,rfl⟩
theorem JfY (i:Nat) (hi:i<10) (w:World):Calls prog 101 #[.int .i64 (i:Int)] w λe w'=>(∃s:BA,s.size<=10/\e=.returned (.string s))/\w=w':=by
 have h0:(0:Int)<=(i:Int):=by omega
 have h1:(i:Int)<100:=by omega
 have h2:(i:Int)<10:=by omega
 go_enter func101,ntmps101
 go_wp2
 go_ret
 refine ⟨⟨_,?_,rfl⟩,rfl⟩
 rw [ByteArray.size_extract];omega
open Go.RowKit Go.Extern.Stop Go.Stop Go.Extern

def Jlt:Array Value->Sem Value:=Extern.ReflectliteType.method λt=>do Extern.Rtype.noPackHeld "Comparable" t;pure (.bool (<-typeInfo t).comparable)
theorem JiX (v:Value) (w:World):(Extern.ReflectliteType.typeOf #[.iface 509 v]).run prog w=.ok (.iface 338 (.agg #[.pointer (some ⟨18,509,none⟩)])) w:=by kernel_rfl
theorem Jed (w:World):(Jlt #[.agg #[.pointer (some ⟨18,509,none⟩)]]).run prog w=.ok (.bool true) w:=by kernel_rfl
theorem JaC (v:Value) (w:World):(Go.method 641 338 v "Comparable").run prog w=.ok (392,v) w:=by kernel_rfl
theorem JlO:(prog.info? 509).map (·.comparable)=some true:=by kernel_rfl
theorem JlP:(prog.info? 531).map (·.size)=some 1:=by kernel_rfl
theorem JmE (v:Value) (xT:TypeId) (w:World):(Instr.typeAssert (.iface 509 v) xT 340 true).run prog w=.ok (.tuple #[.nilIface,.bool false]) w:=run_typeAssert_lacksB underlying340 (by kernel_rfl) (by kernel_rfl) v xT w
theorem JhL (v:Value) (xT:TypeId) (w:World):(Instr.typeAssert (.iface 509 v) xT 343 true).run prog w=.ok (.tuple #[.nilIface,.bool false]) w:=run_typeAssert_lacksB underlying343 (by kernel_rfl) (by kernel_rfl) v xT w
theorem Jf6 (v:Value) (xT:TypeId) (w:World):(Instr.typeAssert (.iface 509 v) xT 344 true).run prog w=.ok (.tuple #[.nilIface,.bool false]) w:=run_typeAssert_lacksB underlying344 (by kernel_rfl) (by kernel_rfl) v xT w
theorem JmF (v:Value) (xT:TypeId) (w:World):(Instr.typeAssert (.iface 235 v) xT 340 true).run prog w=.ok (.tuple #[.nilIface,.bool false]) w:=run_typeAssert_lacksB underlying340 (by kernel_rfl) (by kernel_rfl) v xT w
theorem JfV (v:Value) (xT:TypeId) (w:World):(Instr.typeAssert (.iface 235 v) xT 343 true).run prog w=.ok (.tuple #[.iface 235 v,.bool true]) w:=run_typeAssert_hasB underlying343 (by kernel_rfl) v xT w
theorem Jei (v:Value) (w:World):(Go.method 641 235 v "Unwrap").run prog w=.ok (387,v) w:=by kernel_rfl

def Ss:List Nat:=[0,1,2,3,4,5,6,7]
structure Sent (E:Nat->Addr) (w:World):Prop where
 row:∀g∈Ss,∃ca ta,w.heap[(E g).block]? =some (.cells ca ta (0,0))
 inj:∀g∈Ss,∀h∈Ss,E g=E h->g=h
theorem Sent.tch {E:Nat->Addr} {S:Nat->Prop} {w w':World} (h:Sent E w) (k:Tch S w w') (hs:∀g∈Ss,¬S (E g).block):Sent E w':=
 ⟨λg hg=>by obtain ⟨ca,ta,hr⟩:=h.row g hg;exact ⟨ca,ta,(k.block _ (Jb hr) (hs g hg)).trans hr⟩,h.inj⟩
inductive ErrN (E:Nat->Addr) (g:Nat) (w:World):Value->Nat->Prop where
 | base:ErrN E g w (eV E g) 0
 | wrap (p:Nat) (s:BA) (v:Value) (n:Nat):w.heap[p]? =some (.cells #[.string s,v] 237)->ErrN E g w v n->ErrN E g w (.iface 235 (.pointer (some ⟨p,0,none⟩))) (n+1)
theorem Jm.len {E:Nat->Addr} {g:Nat} {w:World} {v:Value} (h:Jm E g w v):∃n,ErrN E g w v n:=by
 induction h with
 | base=>exact ⟨0,.base⟩
 | wrap p s u hp _ ih=>obtain ⟨n,hn⟩:=ih;exact ⟨n+1,.wrap p s u n hp hn⟩
theorem ErrN.unique {E:Nat->Addr} {g:Nat} {w:World} {v:Value} {n m:Nat} (h:ErrN E g w v n) (h':ErrN E g w v m):n=m:=by
 induction h generalizing m with
 | base=>cases h';rfl
 | wrap p s u n hp h1 ih=>
  cases h' with
  | wrap _ s2 u2 n2 hp2 h2=>
   rw [hp] at hp2
   simp only [Qh,Obj.cells.injEq,and_true] at hp2
   have:u=u2:=by have:=congrArg (λa=>a[1]?) hp2;simpa using this
   subst this
   rw [ih h2]
open Classical in
noncomputable def Jec (E:Nat->Addr) (g:Nat) (w:World) (v:Value):Nat:=if h:∃n,ErrN E g w v n then h.choose else 0
theorem Jdv {E:Nat->Addr} {g:Nat} {w:World} {v:Value} {n:Nat} (h:ErrN E g w v n):Jec E g w v=n:=by
 unfold Jec
 rw [dif_pos ⟨n,h⟩]
 exact ErrN.unique (Exists.choose_spec ⟨n,h⟩) h

theorem JlQ {E:Nat->Addr} {w:World} (g t:Nat) (hg:g∈Ss) (ht:t∈Ss) (hS:Sent E w) (v:Value) (n:Nat) (hv:ErrN E g w v n):
  Calls prog 132 #[v,eV E t,.bool true] w λe w'=>e=.returned (.bool (g == t))/\w'=w:=by
 obtain ⟨i,hi,hcmp⟩:=Option.map_eq_some_iff.1 JlO
 obtain ⟨j,hj,hjs⟩:=Option.map_eq_some_iff.1 JlP
 obtain ⟨ca,ta,ha⟩:=hS.row g hg
 obtain ⟨cb,tb,hb⟩:=hS.row t ht
 have HI:Hid (E g=E t->g=t):=hS.inj g hg t ht
 clear hS hg ht
 have nE:=JmE
 have uE:=JhL
 have vE:=Jf6
 have nW:=JmF
 have uW:=JfV
 have mU:=Jei
 go_enter func132,ntmps132
 go_wp2
 go_loopw [0] (λE' wl=>wl=w/\∃m,ErrN E g w E' m) (λE' _=>Jec E g w E')
 case atStart=>exact ⟨rfl,n,hv⟩
 case round=>
  obtain ⟨rfl,m,hm⟩:=hrel
  cases hm with
  | base=>
   by_cases hab:g=t
   ·subst hab
    have heq:=run_eql_iface_ptr_same (P:=prog) wr (E g) underlying92 underlying509 hi hcmp hj
    go_wp2
    go_ret
    exact ⟨by simp,rfl⟩
   ·have hne:E g ≠ E t:=λe=>hab (HI.o e)
    have heq:=run_eql_iface_ptr_other (P:=prog) wr underlying92 underlying509 hi hcmp hj (by rw [hjs];decide) hne ha hb
    go_wp2
    go_ret
    exact ⟨by rw [beq_eq_false_iff_ne.2 hab];rfl,rfl⟩
  | wrap p s u m1 hp h1=>
   have hty:=run_eql_iface_types (P:=prog) 235 509 (.pointer (some ⟨p,0,none⟩)) (.pointer (some (E t))) underlying92 (by decide) wr
   have hlen:=Jdv h1
   have hlen0:=Jdv (ErrN.wrap p s u m1 hp h1)
   have c1:wr.cell? ⟨p,1,none⟩=some u:=Ja hp
   have hne:∃a b,u=.iface a b:=by cases h1 <;> exact ⟨_,_,rfl⟩
   obtain ⟨u1,v1,rfl⟩:=hne
   have HC:Hid _:=h1
   clear h1
   go_wp2
   go_roundw
   case rel=>exact ⟨trivial,m1,HC.o⟩
   case measure=>
    show Jec E g wr (.iface u1 v1)<_
    rw [hlen,hlen0];omega

theorem JlA {E:Nat->Addr} {w:World} (g t:Nat) (hg:g∈Ss) (ht:t∈Ss) (hS:Sent E w) (v:Value) (hv:Jm E g w v):
  Calls prog 75 #[v,eV E t] w λe w'=>e=.returned (.bool (g == t))/\w'=w:=by
 have h10:= @run_callFunc_extern prog 131 _ Extern.ReflectliteType.typeOf func131 (by kernel_rfl) (by kernel_rfl) (by kernel_rfl) (by kernel_rfl)
 have h30:= @run_callFunc_extern prog 392 _ Jlt func392 (by kernel_rfl) (by kernel_rfl) (by kernel_rfl) (by kernel_rfl)
 have tT:=JiX
 have cT:=Jed
 have mR:=JaC
 obtain ⟨a,b,rfl⟩:=hv.iface
 obtain ⟨n,hn⟩:=hv.len
 have hcon:=JlQ g t hg ht hS (.iface a b) n hn
 clear hv hn hS hg ht
 go_enter func75,ntmps75
 go_wp2_with (first | (go_at_call 132;refine hcon.mono ?_;rintro e w' ⟨rfl,rfl⟩) | go_in)
 go_ret
 exact ⟨rfl,rfl⟩

def JiF (g:Nat):Int:=if g=0 then 2 else if g=1 then 3 else if g=2 then 4 else if g=3 then 5 else if g=4 then 6 else if g=5 then 7 else if g=6 then 8 else 1
theorem Jbt (w:World):Calls prog 42 #[.nilIface] w λe w'=>e=.returned (.int .i64 0)/\w'=w:=by
 go_enter func42,ntmps42
 go_wp2
 go_ret
 exact ⟨rfl,rfl⟩
theorem Jht {E:Nat->Addr} {w:World} (g:Nat) (hg:g∈Ss) (hE:Env E w) (hS:Sent E w) (v:Value) (hv:Jm E g w v):
  Calls prog 42 #[v] w λe w'=>e=.returned (.int .i64 (JiF g))/\w'=w:=by
 have HI:Hid (∀t∈Ss,Calls prog 75 #[v,eV E t] w λe w'=>e=.returned (.bool (g == t))/\w'=w):=λt ht=>JlA g t hg ht hS v hv
 obtain ⟨a,b,rfl⟩:=hv.iface
 have c0:=hE.tip
 have c1:=hE.input
 have c2:=hE.exist
 have c3:=hE.sum
 have c4:=hE.root
 have c5:=hE.range
 have c6:=hE.form
 have c7:=hE.torn
 clear hE hS hv
 have hg':g=0\/g=1\/g=2\/g=3\/g=4\/g=5\/g=6\/g=7:=by simpa [Ss] using hg
 clear hg
 rcases hg' with rfl | rfl | rfl | rfl | rfl | rfl | rfl | rfl
 all_goals
  go_enter func42,ntmps42
  go_wp2_with (go_at_call 75;refine (HI.o _ (by decide)).mono ?_;rintro _ _ ⟨rfl,rfl⟩)
  go_ret
  exact ⟨rfl,rfl⟩

theorem JcC {w:World} {g:Nat} {a b:Value} {T:TypeId} (h:w.heap[g]? =some (.cells #[a,b] T)) (x0 x1:Value):
  ((w.setCell ⟨g,0,none⟩ x0).setCell ⟨g,1,none⟩ x1).heap[g]? =some (.cells #[x0,x1] T)/\Tch (λx=>x=g) w ((w.setCell ⟨g,0,none⟩ x0).setCell ⟨g,1,none⟩ x1):=by
 have h0:=Qi w g _ #[x0,b] T _ h
 have e0:w.setCell ⟨g,0,none⟩ x0=w.setRow g #[x0,b]:=Qj w g 0 _ _ _ _ h
 rw [<-e0] at h0
 have t0:Tch (λx=>x=g) w (w.setCell ⟨g,0,none⟩ x0):=by rw [e0];exact Ts _ _ _
 generalize w.setCell ⟨g,0,none⟩ x0=w0 at *
 have h1:=Qi w0 g _ #[x0,x1] T _ h0
 have e1:w0.setCell ⟨g,1,none⟩ x1=w0.setRow g #[x0,x1]:=Qj w0 g 1 _ _ _ _ h0
 rw [<-e1] at h1
 exact ⟨h1,by rw [e1];exact t0.trans (Ts _ _ _) (λ_ h=>.inl h)⟩
def Emp (v:Value):Prop:=v=.slice none 0 0\/∃a c,v=.slice (some a) 0 c
theorem Emp.shape {v:Value} (h:Emp v):∃a c,v=.slice a 0 c:=by
 rcases h with rfl | ⟨a,c,rfl⟩
 ·exact ⟨_,_,rfl⟩
 ·exact ⟨_,_,rfl⟩
def XE (B:Nat) (w:World) (v:Value) (l:List (Nat×Nat)):Prop:=
 (Emp v/\l=[])\/∃gi oi c,v=.slice (some ⟨gi,oi,none⟩) l.length c/\gi<B/\gi<w.heap.size/\∀i (h:i<l.length),w.cell? ⟨gi,oi+i * 2,none⟩=some (.int .u64 ((l[i].1:Nat):Int))/\w.cell? ⟨gi,oi+i * 2+1,none⟩=some (.int .u8 ((l[i].2:Nat):Int))
theorem Jr.raw {B:Nat} {w:World} {v:Value} {l:List (Nat×Nat)} (h:Jr B w v l):XE B w v l:=h.imp_left λh=>⟨.inl h.1,h.2⟩
theorem XE.tch {B:Nat} {w w':World} {v:Value} {l:List (Nat×Nat)} {S:Nat->Prop} (h:XE B w v l) (k:Tch S w w') (hs:∀j,S j->B<=j):XE B w' v l:=by
 rcases h with h | h
 ·exact .inl h
 ·exact (Jr.tch (.inr h) k hs).raw
theorem XE.shape {B:Nat} {w:World} {v:Value} {l:List (Nat×Nat)} (h:XE B w v l):∃a c,v=.slice a l.length c:=by
 rcases h with ⟨h,rfl⟩ | ⟨gi,oi,c,rfl,_⟩
 ·exact h.shape
 ·exact ⟨_,_,rfl⟩
def XL (B:Nat) (w:World) (v:Value) (l:List (BA×Int)):Prop:=
 (Emp v/\l=[])\/∃gi oi c,v=.slice (some ⟨gi,oi,none⟩) l.length c/\gi<B/\gi<w.heap.size/\∀i (h:i<l.length),w.cell? ⟨gi,oi+i * 2,none⟩=some (.string l[i].1)/\w.cell? ⟨gi,oi+i * 2+1,none⟩=some (.int .i64 l[i].2)
theorem Jz.raw {B:Nat} {w:World} {v:Value} {l:List (BA×Int)} (h:Jz B w v l):XL B w v l:=h.imp_left λh=>⟨.inl h.1,h.2⟩
theorem XL.tch {B:Nat} {w w':World} {v:Value} {l:List (BA×Int)} {S:Nat->Prop} (h:XL B w v l) (k:Tch S w w') (hs:∀j,S j->B<=j):XL B w' v l:=by
 rcases h with h | h
 ·exact .inl h
 ·exact (Jz.tch (.inr h) k hs).raw
theorem XL.shape {B:Nat} {w:World} {v:Value} {l:List (BA×Int)} (h:XL B w v l):∃a c,v=.slice a l.length c:=by
 rcases h with ⟨h,rfl⟩ | ⟨gi,oi,c,rfl,_⟩
 ·exact h.shape
 ·exact ⟨_,_,rfl⟩
def TxsR (B:Nat) (w:World) (v:Value) (l:List (Sl×Sl)):Prop:=
 (Emp v/\l=[])\/∃gi oi c,v=.slice (some ⟨gi,oi,none⟩) l.length c/\gi<B/\gi<w.heap.size/\∀i (h:i<l.length),w.cell? ⟨gi,oi+i * 2,none⟩=some (.slice l[i].1.1 l[i].1.2.1 l[i].1.2.2)/\w.cell? ⟨gi,oi+i * 2+1,none⟩=some (.slice l[i].2.1 l[i].2.2.1 l[i].2.2.2)
theorem JR.raw {B:Nat} {w:World} {v:Value} {l:List (Sl×Sl)} (h:JR B w v l):TxsR B w v l:=h.imp_left λh=>⟨.inl h.1,h.2⟩
theorem TxsR.tch {B:Nat} {w w':World} {v:Value} {l:List (Sl×Sl)} {S:Nat->Prop} (h:TxsR B w v l) (k:Tch S w w') (hs:∀j,S j->B<=j):TxsR B w' v l:=by
 rcases h with h | h
 ·exact .inl h
 ·exact (JR.tch (.inr h) k hs).raw
theorem TxsR.shape {B:Nat} {w:World} {v:Value} {l:List (Sl×Sl)} (h:TxsR B w v l):∃a c,v=.slice a l.length c:=by
 rcases h with ⟨h,rfl⟩ | ⟨gi,oi,c,rfl,_⟩
 ·exact h.shape
 ·exact ⟨_,_,rfl⟩
