import Derived.Test.YtighkdnooglfjaaGreatDoorOxWr
namespace Go.Proofs.YtighkdnooglfjaaGreatDoor
open Go.RowKit

def Jo (B:Nat) (w:World) (v:Value) (l:List (Nat×Nat)):Prop:=
 (v=.slice none 0 0/\l=[])\/∃gi oi c,v=.slice (some ⟨gi,oi,none⟩) l.length c/\gi<B/\gi<w.heap.size/\∀i (h:i<l.length),w.cell? ⟨gi,oi+i * 2,none⟩=some (.int .u64 ((l[i].1:Nat):Int))/\w.cell? ⟨gi,oi+i * 2+1,none⟩=some (.int .u8 ((l[i].2:Nat):Int))
theorem Jo.tch {B:Nat} {w w':World} {v:Value} {l:List (Nat×Nat)} {S:Nat->Prop} (h:Jo B w v l) (k:Tch S w w') (hs:∀j,S j->B<=j):Jo B w' v l:=by
 rcases h with h | ⟨gi,oi,c,hv,h1,h2,h3⟩
 ·exact .inl h
 ·refine .inr ⟨gi,oi,c,hv,h1,Qk h2 k.size,λi hi=>?_⟩
  have hc:∀o,w'.cell? ⟨gi,o,none⟩=w.cell? ⟨gi,o,none⟩:=λo=>k.cell (p:=⟨gi,o,none⟩) h2 (λe=>by have:=hs gi e;omega)
  rw [hc,hc];exact h3 i hi
theorem Jo.shape {B:Nat} {w:World} {v:Value} {l:List (Nat×Nat)} (h:Jo B w v l):∃a c,v=.slice a l.length c:=by
 rcases h with ⟨rfl,rfl⟩ | ⟨gi,oi,c,rfl,_⟩
 ·exact ⟨none,0,rfl⟩
 ·exact ⟨_,_,rfl⟩
def JC (B:Nat) (w:World) (v:Value) (l:List (BA×Int)):Prop:=
 (v=.slice none 0 0/\l=[])\/∃gi oi c,v=.slice (some ⟨gi,oi,none⟩) l.length c/\gi<B/\gi<w.heap.size/\∀i (h:i<l.length),w.cell? ⟨gi,oi+i * 2,none⟩=some (.string l[i].1)/\w.cell? ⟨gi,oi+i * 2+1,none⟩=some (.int .i64 l[i].2)
theorem JC.tch {B:Nat} {w w':World} {v:Value} {l:List (BA×Int)} {S:Nat->Prop} (h:JC B w v l) (k:Tch S w w') (hs:∀j,S j->B<=j):JC B w' v l:=by
 rcases h with h | ⟨gi,oi,c,hv,h1,h2,h3⟩
 ·exact .inl h
 ·refine .inr ⟨gi,oi,c,hv,h1,Qk h2 k.size,λi hi=>?_⟩
  have hc:∀o,w'.cell? ⟨gi,o,none⟩=w.cell? ⟨gi,o,none⟩:=λo=>k.cell (p:=⟨gi,o,none⟩) h2 (λe=>by have:=hs gi e;omega)
  rw [hc,hc];exact h3 i hi
theorem JC.shape {B:Nat} {w:World} {v:Value} {l:List (BA×Int)} (h:JC B w v l):∃a c,v=.slice a l.length c:=by
 rcases h with ⟨rfl,rfl⟩ | ⟨gi,oi,c,rfl,_⟩
 ·exact ⟨none,0,rfl⟩
 ·exact ⟨_,_,rfl⟩
abbrev Sl:=Option Addr×Nat×Nat
def Xf (B:Nat) (w:World) (v:Value) (l:List (Sl×Sl)):Prop:=
 (v=.slice none 0 0/\l=[])\/∃gi oi c,v=.slice (some ⟨gi,oi,none⟩) l.length c/\gi<B/\gi<w.heap.size/\∀i (h:i<l.length),w.cell? ⟨gi,oi+i * 2,none⟩=some (.slice l[i].1.1 l[i].1.2.1 l[i].1.2.2)/\w.cell? ⟨gi,oi+i * 2+1,none⟩=some (.slice l[i].2.1 l[i].2.2.1 l[i].2.2.2)
theorem Xf.tch {B:Nat} {w w':World} {v:Value} {l:List (Sl×Sl)} {S:Nat->Prop} (h:Xf B w v l) (k:Tch S w w') (hs:∀j,S j->B<=j):Xf B w' v l:=by
 rcases h with h | ⟨gi,oi,c,hv,h1,h2,h3⟩
 ·exact .inl h
 ·refine .inr ⟨gi,oi,c,hv,h1,Qk h2 k.size,λi hi=>?_⟩
  have hc:∀o,w'.cell? ⟨gi,o,none⟩=w.cell? ⟨gi,o,none⟩:=λo=>k.cell (p:=⟨gi,o,none⟩) h2 (λe=>by have:=hs gi e;omega)
  rw [hc,hc];exact h3 i hi
theorem Xf.shape {B:Nat} {w:World} {v:Value} {l:List (Sl×Sl)} (h:Xf B w v l):∃a c,v=.slice a l.length c:=by
 rcases h with ⟨rfl,rfl⟩ | ⟨gi,oi,c,rfl,_⟩
 ·exact ⟨none,0,rfl⟩
 ·exact ⟨_,_,rfl⟩
theorem JC.up {B B':Nat} {w:World} {v:Value} {l:List (BA×Int)} (h:JC B w v l) (hb:B<=B'):JC B' w v l:=by
 rcases h with h | ⟨gi,oi,c,h1,h2,h3⟩
 ·exact .inl h
 ·exact .inr ⟨gi,oi,c,h1,by omega,h3⟩
theorem Jo.up {B B':Nat} {w:World} {v:Value} {l:List (Nat×Nat)} (h:Jo B w v l) (hb:B<=B'):Jo B' w v l:=by
 rcases h with h | ⟨gi,oi,c,h1,h2,h3⟩
 ·exact .inl h
 ·exact .inr ⟨gi,oi,c,h1,by omega,h3⟩

def PS.out (a o:Nat) (p:PS):Option ((Nat×Nat)×PS):=
 match p.num a 8 with
 | none=>none
 | some (a',p1)=>match p1.num o 1 with
  | none=>none
  | some (o',p2)=>some ((a',o'),p2)
def JE (n:Int):Nat:=(n % 18446744073709551616).toNat
def PS.coin (wd:Nat) (c:BA×Int) (p:PS):Option ((BA×Int)×PS):=
 match p.txt c.1.data.toList wd with
 | none=>none
 | some (t,p1)=>match p1.num (JE c.2) 1 with
  | none=>none
  | some (m,p2)=>if m<3 then some ((⟨t.toArray⟩,(m:Int)),p2) else none
def PS.coins (wd:Nat):List (BA×Int)->PS->Option (List (BA×Int)×PS)
 | [],p=>some ([],p)
 | x :: r,p=>match p.coin wd x with
  | none=>none
  | some (y,p1)=>match PS.coins wd r p1 with
   | none=>none
   | some (ys,p2)=>some (y :: ys,p2)
def PS.outs:List (Nat×Nat)->PS->Option (List (Nat×Nat)×PS)
 | [],p=>some ([],p)
 | x :: r,p=>match p.out x.1 x.2 with
  | none=>none
  | some (y,p1)=>match PS.outs r p1 with
   | none=>none
   | some (ys,p2)=>some (y :: ys,p2)
def YI (l:List (BA×Int)) (cnt:Nat):List (BA×Int):=if l=[] then List.replicate cnt (⟨#[]⟩,0) else l
def YJ (l:List (Nat×Nat)) (cnt:Nat):List (Nat×Nat):=if l=[] then List.replicate cnt (0,0) else l
def PS.listC (wd least most:Nat) (l:List (BA×Int)) (p:PS):Option (List (BA×Int)×PS):=
 match p.num l.length 1 with
 | none=>none
 | some (cnt,p1)=>if cnt<least\/most<cnt then none else PS.coins wd (YI l cnt) p1
def PS.listO (least most:Nat) (l:List (Nat×Nat)) (p:PS):Option (List (Nat×Nat)×PS):=
 match p.num l.length 1 with
 | none=>none
 | some (cnt,p1)=>if cnt<least\/most<cnt then none else PS.outs (YJ l cnt) p1
abbrev TxL:=List (BA×Int)×List (Nat×Nat)
def PS.tx (wd:Nat) (t:TxL) (p:PS):Option (TxL×PS):=
 match p.listC wd 1 3 t.1 with
 | none=>none
 | some (ys,p1)=>match p1.listO 0 3 t.2 with
  | none=>none
  | some (zs,p2)=>some ((ys,zs),p2)
def PS.txs (wd:Nat):List TxL->PS->Option (List TxL×PS)
 | [],p=>some ([],p)
 | x :: r,p=>match p.tx wd x with
  | none=>none
  | some (y,p1)=>match PS.txs wd r p1 with
   | none=>none
   | some (ys,p2)=>some (y :: ys,p2)
def ZV (ts:List TxL) (cnt:Nat):List TxL:=if ts=[] then List.replicate cnt ([],[]) else ts
def PS.body (wd:Nat) (ts:List TxL) (p:PS):Option (List TxL×PS):=
 match p.num ts.length 1 with
 | none=>none
 | some (cnt,p1)=>if 3<cnt then none else PS.txs wd (ZV ts cnt) p1
def PS.hdr (wd:Nat) (h:Nat×BA×BA×BA) (p:PS):Option ((Nat×BA×BA×BA)×PS):=
 match p.num h.1 4 with
 | none=>none
 | some (n,p1)=>match p1.txt h.2.1.data.toList wd with
  | none=>none
  | some (t1,p2)=>match p2.txt h.2.2.1.data.toList wd with
   | none=>none
   | some (t2,p3)=>match p3.txt h.2.2.2.data.toList wd with
    | none=>none
    | some (t3,p4)=>some ((n,⟨t1.toArray⟩,⟨t2.toArray⟩,⟨t3.toArray⟩),p4)
def JK (l:List (Nat×Nat)) (k:Nat):Nat:=((l.take k).map (·.1)).sum
def Xs (l1 l2:List (Nat×Nat)):Prop:=18446744073709551616<=JK l1 l1.length\/18446744073709551616<=JK l2 l2.length\/JK l1 l1.length<JK l2 l2.length
open Tryz
set_option maxRecDepth 100000
set_option maxHeartbeats 1000000

def JaK (E:Nat->Addr) (w w':World) (b:Nat) (g:Option Nat) (wd:Int):Prop:=
 ∃g' p',Jc w' b g' wd (eV E 7) p'/\Jm w g g'/\Tch (λk=>k=b\/some k=g) w w'
theorem Tch.allocs (S:Nat->Prop) (w:World) (o o':Obj):Tch S w ((w.alloc o).alloc o'):=(Tch.alloc S w o).trans (Tch.alloc S _ o') (λ_ h=>.inl h)
theorem Jc.allocs {w:World} {b:Nat} {g:Option Nat} {wd:Int} {err:Value} {p:PS} (h:Jc w b g wd err p) (o o':Obj):Jc ((w.alloc o).alloc o') b g wd err p:=
 h.tch (Tch.allocs NoB w o o') (λh=>h) (λ_ _ h=>h)
theorem Env.allocs {E:Nat->Addr} {w:World} (h:Env E w) (o o':Obj):Env E ((w.alloc o).alloc o'):=h.tch (Tch.allocs NoB w o o') noE
theorem set2 (w:World) (g:Nat) (t:TypeId) (a b v0 v1:Value) (h:w.heap[g]? =some (.cells #[a,b] t (0,0))):
  (w.setCell ⟨g,0,none⟩ v0).setCell ⟨g,1,none⟩ v1=w.setRow g #[v0,v1]:=by
 rw [Qj w g 0 _ t (0,0) v0 h,Qj _ g 1 _ t (0,0) v1 (Qi _ _ _ _ _ _ h),QI]
 refine congrArg (w.setRow g) ?_
 simp
theorem XE.fresh {w w2 w3:World} {b k:Nat} {g g2:Option Nat} {wd:Int} {err:Value} {p p2:PS} (_hp:Jc w b g wd err p) (o o':Obj) (hm:Jm ((w.alloc o).alloc o') g g2) (ht:Tch (λk=>k=b\/some k=g) ((w.alloc o).alloc o') w2)
  (hp2:Jc w3 b g2 wd .nilIface p2) (h3:Tch (λj=>j=k) w2 w3) (hk:w.heap.size<=k):XE w w3 b g wd p2:=by
 refine ⟨g2,hp2,?_,((Tch.allocs _ w o o').trans ht (λ_ h=>.inl h)).trans h3 (λj hj=>by subst hj;exact .inr hk)⟩
 rcases hm with hm | ⟨i,hi,hle⟩
 ·exact .inl hm
 ·exact .inr ⟨i,hi,by simp at hle;omega⟩
theorem JaK.fresh {E:Nat->Addr} {w w2 w3:World} {b k:Nat} {g g2:Option Nat} {wd:Int} {err:Value} {p p2:PS} (_hp:Jc w b g wd err p) (o o':Obj) (hm:Jm ((w.alloc o).alloc o') g g2) (ht:Tch (λk=>k=b\/some k=g) ((w.alloc o).alloc o') w2)
  (hp2:Jc w3 b g2 wd (eV E 7) p2) (h3:Tch (λj=>j=k) w2 w3) (hk:w.heap.size<=k):JaK E w w3 b g wd:=by
 refine ⟨g2,p2,hp2,?_,((Tch.allocs _ w o o').trans ht (λ_ h=>.inl h)).trans h3 (λj hj=>by subst hj;exact .inr hk)⟩
 rcases hm with hm | ⟨i,hi,hle⟩
 ·exact .inl hm
 ·exact .inr ⟨i,hi,by simp at hle;omega⟩
theorem XS {w:World} {b:Nat} {g:Option Nat} {wd:Int} {err:Value} {p:PS} (h:Jc w b g wd err p) (k:Nat) (hk:w.heap.size<=k):¬(k=b\/some k=g):=by
 have h1:=h.lt
 rintro (rfl | e)
 ·omega
 ·have:=(h.own k e.symm).2;omega
theorem Jaz {w:World} {b:Nat} {g:Option Nat} {wd:Int} {err:Value} {p:PS} (h12:18<=b) (h:Jc w b g wd err p):∀j,(j=b\/some j=g)->18<=j:=by
 rintro j (rfl | e)
 ·exact h12
 ·have:=(h.own j e.symm).1;omega
theorem JbH {w:World} {b:Nat} {g g':Option Nat} {wd:Int} {err:Value} {p:PS} (h:Jc w b g wd err p) (o o':Obj) (hm:Jm ((w.alloc o).alloc o') g g') (k:Nat) (hk:w.heap.size<=k) (hk2:k<w.heap.size+2):¬(k=b\/some k=g'):=by
 rcases hm with rfl | ⟨i,rfl,hi⟩
 ·exact XS h k hk
 ·have h1:=h.lt
  rintro (rfl | e)
  ·omega
  ·cases e;simp at hi;omega

theorem Jbt (x:Int) (h0:0<=x) (h:x<256):IntKind.u8.wrap x=x:=by
 simp [IntKind.wrap,IntKind.bits,IntKind.signed];omega

theorem Jkj (b:Nat) (g:Option Nat) (wd:Int) (a o a' o':Nat) (p p1 p2:PS) (w:World) (hp:Jc w b g wd .nilIface p) (hd:p.len<=90000000) (hd1:p1.len<=90000000) (ho:o<256) (h1:p.num a 8=some (a',p1)) (h2:p1.num o 1=some (o',p2)) (ho':o'<256):
  Calls prog 205 #[.pointer (some ⟨b,0,none⟩),.agg #[.int .u64 (a:Int),.int .u8 (o:Int)]] w λe w'=>e=.returned (.agg #[.int .u64 (a':Int),.int .u8 (o':Int)])/\XE w w' b g wd p2:=by
 have hlt:=hp.lt
 go_enter func205,ntmps205
 go_wp2_with fail
 refine (Xl b g wd a 8 a' p p1 _ (hp.allocs _ _) (by omega) (by omega) h1).mono ?_
 rintro _ w1 ⟨rfl,g1,hp1,hm1,ht1⟩
 have cB:w1.cell? ⟨w.heap.size,1,none⟩=some (.int .u8 (o:Int)):=(ht1.cell (p:=⟨w.heap.size,1,none⟩) (by simp;omega) (XS hp _ (Ql _))).trans (Ja (heap_alloc2_old _ _ _))
 have rR:w1.heap[w.heap.size+1]? =some (.cells #[.int .u64 0,.int .u8 0] 80):=(ht1.block _ (by simp) (XS hp _ (by omega))).trans (heap_alloc2_new _ _ _)
 have hw:IntKind.u64.wrap (o:Int)=(o:Int):=JB _ (by omega) (by omega)
 have hw2:IntKind.u8.wrap (o':Int)=(o':Int):=Jbt _ (by omega) (by omega)
 have RR:Hid (_=_):=rR
 have HM1:Hid (Jm _ _ _):=hm1
 have HT1:Hid (Tch _ _ _):=ht1
 have HP:Hid (Jc _ _ _ _ _ _):=hp
 clear rR hm1 ht1 hp
 go_wp2_with fail
 refine (Xl b g1 wd o 1 o' p1 p2 _ hp1 (by omega) (by omega) h2).mono ?_
 rintro _ w2 ⟨rfl,g2,hp2,hm2,ht2⟩
 have rR2:w2.heap[w.heap.size+1]? =some (.cells #[.int .u64 0,.int .u8 0] 80):=(ht2.block _ (by have:=HT1.o.size;simp at this;omega) (JbH HP.o _ _ HM1.o _ (by omega) (by omega))).trans RR.out
 have e0:w2.cell? ⟨w.heap.size+1,0,none⟩=some (.int .u64 0):=Ja rR2
 have e1:w2.cell? ⟨w.heap.size+1,1,none⟩=some (.int .u8 0):=Ja rR2
 have fR:∀j,w2.frozen? ⟨w.heap.size+1,j,none⟩=false:=λj=>Qg _ _ _ _ _ rR2
 have RR2:Hid (_=_):=rR2
 clear rR2
 go_wp2
 rw [set2 _ _ _ _ _ _ _ RR2.out]
 refine QJ (v:=.agg #[.int .u64 (a':Int),.int .u8 (o':Int)]) (Qq results205 _ _ (w.heap.size+1) _ _ (0,0) _ rfl (Qi w2 _ _ _ _ _ RR2.out) underlying80 rfl (by kernel_rfl)) rfl ⟨rfl,?_⟩
 have hn2:¬(w.heap.size+1=b\/some (w.heap.size+1)=g2):=by
  have h3:=HM1.o.trans hm2 HT1.o.size
  exact JbH HP.o _ _ h3 _ (by omega) (by omega)
 refine XE.fresh HP.o _ _ (HM1.o.trans hm2 HT1.o.size) (XV HT1.o ht2 HM1.o) ?_ (Tch.setRow w2 (w.heap.size+1) _) (by omega)
 exact hp2.tch (Tch.setRow w2 (w.heap.size+1) _) (λe=>hn2 (.inl e.symm)) (λj hj e=>hn2 (.inr (by rw [hj,e])))

theorem Jiv (E:Nat->Addr) (b:Nat) (g:Option Nat) (wd:Int) (a o:Nat) (p:PS) (w:World) (hE:Env E w) (hp:Jc w b g wd .nilIface p) (hd:p.len<=90000000) (h1:p.num a 8=none):
  Calls prog 205 #[.pointer (some ⟨b,0,none⟩),.agg #[.int .u64 (a:Int),.int .u8 (o:Int)]] w λe w'=>∃x y:Int,e=.returned (.agg #[.int .u64 x,.int .u8 y])/\JaK E w w' b g wd:=by
 have hlt:=hp.lt
 go_enter func205,ntmps205
 go_wp2_with fail
 refine (YE E b g wd a 8 p _ (hE.allocs _ _) (hp.allocs _ _) (by omega) (by omega) h1).mono ?_
 rintro _ w2 ⟨rfl,hp1,ht1⟩
 have hb1:w.heap.size ≠ b:=by omega
 have hb2:w.heap.size+1 ≠ b:=by omega
 have cB:w2.cell? ⟨w.heap.size,1,none⟩=some (.int .u8 (o:Int)):=(ht1.cell (p:=⟨w.heap.size,1,none⟩) (by simp;omega) hb1).trans (Ja (heap_alloc2_old _ _ _))
 have rR2:w2.heap[w.heap.size+1]? =some (.cells #[.int .u64 0,.int .u8 0] 80):=(ht1.block _ (by simp) hb2).trans (heap_alloc2_new _ _ _)
 have e0:w2.cell? ⟨w.heap.size+1,0,none⟩=some (.int .u64 0):=Ja rR2
 have e1:w2.cell? ⟨w.heap.size+1,1,none⟩=some (.int .u8 0):=Ja rR2
 have fR:∀j,w2.frozen? ⟨w.heap.size+1,j,none⟩=false:=λj=>Qg _ _ _ _ _ rR2
 have RR2:Hid (_=_):=rR2
 have HT1:Hid (Tch _ _ _):=ht1
 have HP:Hid (Jc _ _ _ _ _ _):=hp
 clear rR2 ht1 hp hE
 go_wp2_with fail
 refine (Zc b g wd _ _ p _ _ _ hp1).mono ?_
 rintro _ _ ⟨rfl,rfl⟩
 go_wp2
 rw [set2 _ _ _ _ _ _ _ RR2.out]
 refine QJ (v:=.agg #[.int .u64 0,.int .u8 0]) (Qq results205 _ _ (w.heap.size+1) _ _ (0,0) _ rfl (Qi w2 _ _ _ _ _ RR2.out) underlying80 rfl (by kernel_rfl)) rfl ⟨0,0,rfl,?_⟩
 refine JaK.fresh (p2:=p) HP.o _ _ (.inl rfl) (HT1.o.mono (λj h=>.inl (.inl h))) ?_ (Tch.setRow w2 (w.heap.size+1) _) (by omega)
 exact hp1.tch (Tch.setRow w2 (w.heap.size+1) _) (λe=>hb2 e.symm) (λj hj e=>by subst e;have:=(HP.o.own _ hj).2;omega)

theorem Jiw (E:Nat->Addr) (b:Nat) (hb12:18<=b) (g:Option Nat) (wd:Int) (a o a':Nat) (p p1:PS) (w:World) (hE:Env E w) (hp:Jc w b g wd .nilIface p) (hd:p.len<=90000000) (ho:o<256) (h1:p.num a 8=some (a',p1)) (h2:p1.num o 1=none):
  Calls prog 205 #[.pointer (some ⟨b,0,none⟩),.agg #[.int .u64 (a:Int),.int .u8 (o:Int)]] w λe w'=>∃x y:Int,e=.returned (.agg #[.int .u64 x,.int .u8 y])/\JaK E w w' b g wd:=by
 have hlt:=hp.lt
 go_enter func205,ntmps205
 go_wp2_with fail
 refine (Xl b g wd a 8 a' p p1 _ (hp.allocs _ _) (by omega) (by omega) h1).mono ?_
 rintro _ w1 ⟨rfl,g1,hp1,hm1,ht1⟩
 have cB:w1.cell? ⟨w.heap.size,1,none⟩=some (.int .u8 (o:Int)):=(ht1.cell (p:=⟨w.heap.size,1,none⟩) (by simp;omega) (XS hp _ (Ql _))).trans (Ja (heap_alloc2_old _ _ _))
 have rR:w1.heap[w.heap.size+1]? =some (.cells #[.int .u64 0,.int .u8 0] 80):=(ht1.block _ (by simp) (XS hp _ (by omega))).trans (heap_alloc2_new _ _ _)
 have hw:IntKind.u64.wrap (o:Int)=(o:Int):=JB _ (by omega) (by omega)
 have RR:Hid (_=_):=rR
 have HM1:Hid _:=hm1
 have HT1:Hid _:=ht1
 have HP:Hid _:=hp
 have hE1:Env E w1:=(hE.allocs _ _).tch ht1 (Jaz hb12 hp)
 clear rR hm1 ht1 hp hE
 go_wp2_with fail
 refine (YE E b g1 wd o 1 p1 _ hE1 hp1 (by omega) (by have:=Zo _ _ _ _ _ h1;omega) h2).mono ?_
 rintro _ w2 ⟨rfl,hp2,ht2⟩
 have hb2:w.heap.size+1 ≠ b:=by omega
 have rR2:w2.heap[w.heap.size+1]? =some (.cells #[.int .u64 0,.int .u8 0] 80):=(ht2.block _ (by have:=HT1.o.size;simp at this;omega) hb2).trans RR.out
 have e0:w2.cell? ⟨w.heap.size+1,0,none⟩=some (.int .u64 0):=Ja rR2
 have e1:w2.cell? ⟨w.heap.size+1,1,none⟩=some (.int .u8 0):=Ja rR2
 have fR:∀j,w2.frozen? ⟨w.heap.size+1,j,none⟩=false:=λj=>Qg _ _ _ _ _ rR2
 have RR2:Hid (_=_):=rR2
 clear rR2
 go_wp2
 rw [set2 _ _ _ _ _ _ _ RR2.out]
 refine QJ (v:=.agg #[.int .u64 (a':Int),.int .u8 0]) (Qq results205 _ _ (w.heap.size+1) _ _ (0,0) _ rfl (Qi w2 _ _ _ _ _ RR2.out) underlying80 rfl (by kernel_rfl)) rfl ⟨(a':Int),0,rfl,?_⟩
 have hn2:¬(w.heap.size+1=b\/some (w.heap.size+1)=g1):=JbH HP.o _ _ HM1.o _ (by omega) (by omega)
 refine JaK.fresh (p2:=p1) HP.o _ _ HM1.o (HT1.o.trans ht2 (λj h=>.inl (.inl h))) ?_ (Tch.setRow w2 (w.heap.size+1) _) (by omega)
 exact hp2.tch (Tch.setRow w2 (w.heap.size+1) _) (λe=>hn2 (.inl e.symm)) (λj hj e=>hn2 (.inr (by rw [hj,e])))

inductive Jn (E:Nat->Addr) (g:Nat) (w:World):Value->Prop where
 | base:Jn E g w (eV E g)
 | wrap (p:Nat) (s:BA) (v:Value):w.heap[p]? =some (.cells #[.string s,v] 237)->Jn E g w v->Jn E g w (.iface 235 (.pointer (some ⟨p,0,none⟩)))
theorem Jn.tch {E:Nat->Addr} {g:Nat} {w w':World} {v:Value} {S:Nat->Prop} (h:Jn E g w v) (k:Tch S w w') (hs:∀p s u,w.heap[p]? =some (.cells #[.string s,u] 237)->¬S p):Jn E g w' v:=by
 induction h with
 | base=>exact .base
 | wrap p s u hp _ ih=>exact .wrap p s u ((k.block p (Jb hp) (hs p s u hp)).trans hp) ih
theorem Jn.later {E:Nat->Addr} {g:Nat} {w w':World} {v:Value} (h:Jn E g w v) (k:Below w.heap.size w w'):Jn E g w' v:=
 h.tch (Tch.of_below k) (λp _ _ hp hj=>by have:=(Jb hp);omega)
theorem Jn.iface {E:Nat->Addr} {g:Nat} {w:World} {v:Value} (h:Jn E g w v):∃t u,v=.iface t u:=by
 cases h with
 | base=>exact ⟨_,_,rfl⟩
 | wrap p s u _ _=>exact ⟨_,_,rfl⟩

theorem Xz (s:BA) (t:TypeId) (v:Value) (w:World):Calls prog 80 #[.string s,.iface t v] w λe w'=>e=.returned (.iface 235 (.pointer (some ⟨w.heap.size,0,none⟩)))/\w'=w.alloc (.cells #[.string s,.iface t v] 237):=by
 go_enter func80,ntmps80
 go_wp2
 go_ret
 exact ⟨rfl,rfl⟩
theorem Jgr (i:Nat) (hi:i<10) (w:World):Calls prog 101 #[.int .i64 (i:Int)] w λe w'=>(∃s:BA,s.size<=10/\e=.returned (.string s))/\w=w':=by
 have h0:(0:Int)<=(i:Int):=by omega
 have h1:(i:Int)<100:=by omega
 have h2:(i:Int)<10:=by omega
 go_enter func101,ntmps101
 go_wp2
 go_ret
 refine ⟨⟨_,?_,rfl⟩,rfl⟩
 rw [ByteArray.size_extract];omega
