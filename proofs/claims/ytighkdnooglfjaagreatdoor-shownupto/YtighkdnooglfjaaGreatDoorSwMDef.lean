/-
  Lists of outputs, coins and transactions in memory.
  What a port makes of outputs, coins, lists of them, transactions, a body, a header.
  The contracts of (*wire.Coder).Out, digest and Coin.
  The contracts of fault.At, strconv.Itoa (below 10), and what an error is ('ErrIs').
-/
import Derived.Test.YtighkdnooglfjaaGreatDoorSwPort
import Derived.Test.YtighkdnooglfjaaGreatDoorSwWr
namespace Go.Proofs.YtighkdnooglfjaaGreatDoor
open Go.RowKit

def OutsAt (B:Nat) (w:World) (v:Value) (l:List (Nat×Nat)):Prop:=
 (v=.slice none 0 0/\l=[])\/∃gi oi c,v=.slice (some ⟨gi,oi,none⟩) l.length c/\gi<B/\gi<w.heap.size/\∀i (h:i<l.length),w.cell? ⟨gi,oi+i * 2,none⟩=some (.int .u64 ((l[i].1:Nat):Int))/\w.cell? ⟨gi,oi+i * 2+1,none⟩=some (.int .u8 ((l[i].2:Nat):Int))
theorem OutsAt.tch {B:Nat} {w w':World} {v:Value} {l:List (Nat×Nat)} {S:Nat->Prop} (h:OutsAt B w v l) (k:Tch S w w') (hs:∀j,S j->B<=j):OutsAt B w' v l:=by
 rcases h with h | ⟨gi,oi,c,hv,h1,h2,h3⟩
 ·exact .inl h
 ·refine .inr ⟨gi,oi,c,hv,h1,Nat.lt_of_lt_of_le h2 k.size,λi hi=>?_⟩
  have hc:∀o,w'.cell? ⟨gi,o,none⟩=w.cell? ⟨gi,o,none⟩:=λo=>k.cell (p:=⟨gi,o,none⟩) h2 (λe=>by have:=hs gi e;omega)
  rw [hc,hc];exact h3 i hi
theorem OutsAt.shape {B:Nat} {w:World} {v:Value} {l:List (Nat×Nat)} (h:OutsAt B w v l):∃a c,v=.slice a l.length c:=by
 rcases h with ⟨rfl,rfl⟩ | ⟨gi,oi,c,rfl,_⟩
 ·exact ⟨none,0,rfl⟩
 ·exact ⟨_,_,rfl⟩
def CoinsAt (B:Nat) (w:World) (v:Value) (l:List (ByteArray×Int)):Prop:=
 (v=.slice none 0 0/\l=[])\/∃gi oi c,v=.slice (some ⟨gi,oi,none⟩) l.length c/\gi<B/\gi<w.heap.size/\∀i (h:i<l.length),w.cell? ⟨gi,oi+i * 2,none⟩=some (.string l[i].1)/\w.cell? ⟨gi,oi+i * 2+1,none⟩=some (.int .i64 l[i].2)
theorem CoinsAt.tch {B:Nat} {w w':World} {v:Value} {l:List (ByteArray×Int)} {S:Nat->Prop} (h:CoinsAt B w v l) (k:Tch S w w') (hs:∀j,S j->B<=j):CoinsAt B w' v l:=by
 rcases h with h | ⟨gi,oi,c,hv,h1,h2,h3⟩
 ·exact .inl h
 ·refine .inr ⟨gi,oi,c,hv,h1,Nat.lt_of_lt_of_le h2 k.size,λi hi=>?_⟩
  have hc:∀o,w'.cell? ⟨gi,o,none⟩=w.cell? ⟨gi,o,none⟩:=λo=>k.cell (p:=⟨gi,o,none⟩) h2 (λe=>by have:=hs gi e;omega)
  rw [hc,hc];exact h3 i hi
theorem CoinsAt.shape {B:Nat} {w:World} {v:Value} {l:List (ByteArray×Int)} (h:CoinsAt B w v l):∃a c,v=.slice a l.length c:=by
 rcases h with ⟨rfl,rfl⟩ | ⟨gi,oi,c,rfl,_⟩
 ·exact ⟨none,0,rfl⟩
 ·exact ⟨_,_,rfl⟩
abbrev Sl:=Option Addr×Nat×Nat
def TxsAt (B:Nat) (w:World) (v:Value) (l:List (Sl×Sl)):Prop:=
 (v=.slice none 0 0/\l=[])\/∃gi oi c,v=.slice (some ⟨gi,oi,none⟩) l.length c/\gi<B/\gi<w.heap.size/\∀i (h:i<l.length),w.cell? ⟨gi,oi+i * 2,none⟩=some (.slice l[i].1.1 l[i].1.2.1 l[i].1.2.2)/\w.cell? ⟨gi,oi+i * 2+1,none⟩=some (.slice l[i].2.1 l[i].2.2.1 l[i].2.2.2)
theorem TxsAt.tch {B:Nat} {w w':World} {v:Value} {l:List (Sl×Sl)} {S:Nat->Prop} (h:TxsAt B w v l) (k:Tch S w w') (hs:∀j,S j->B<=j):TxsAt B w' v l:=by
 rcases h with h | ⟨gi,oi,c,hv,h1,h2,h3⟩
 ·exact .inl h
 ·refine .inr ⟨gi,oi,c,hv,h1,Nat.lt_of_lt_of_le h2 k.size,λi hi=>?_⟩
  have hc:∀o,w'.cell? ⟨gi,o,none⟩=w.cell? ⟨gi,o,none⟩:=λo=>k.cell (p:=⟨gi,o,none⟩) h2 (λe=>by have:=hs gi e;omega)
  rw [hc,hc];exact h3 i hi
theorem TxsAt.shape {B:Nat} {w:World} {v:Value} {l:List (Sl×Sl)} (h:TxsAt B w v l):∃a c,v=.slice a l.length c:=by
 rcases h with ⟨rfl,rfl⟩ | ⟨gi,oi,c,rfl,_⟩
 ·exact ⟨none,0,rfl⟩
 ·exact ⟨_,_,rfl⟩
theorem CoinsAt.up {B B':Nat} {w:World} {v:Value} {l:List (ByteArray×Int)} (h:CoinsAt B w v l) (hb:B<=B'):CoinsAt B' w v l:=by
 rcases h with h | ⟨gi,oi,c,h1,h2,h3⟩
 ·exact .inl h
 ·exact .inr ⟨gi,oi,c,h1,by omega,h3⟩
theorem OutsAt.up {B B':Nat} {w:World} {v:Value} {l:List (Nat×Nat)} (h:OutsAt B w v l) (hb:B<=B'):OutsAt B' w v l:=by
 rcases h with h | ⟨gi,oi,c,h1,h2,h3⟩
 ·exact .inl h
 ·exact .inr ⟨gi,oi,c,h1,by omega,h3⟩
end Go.Proofs.YtighkdnooglfjaaGreatDoor
namespace Go.Proofs.YtighkdnooglfjaaGreatDoor

def PS.out (a o:Nat) (p:PS):Option ((Nat×Nat)×PS):=
 match p.num a 8 with
 | none=>none
 | some (a',p1)=>match p1.num o 1 with
  | none=>none
  | some (o',p2)=>some ((a',o'),p2)
def coinX (n:Int):Nat:=(n % 18446744073709551616).toNat
def PS.coin (width:Nat) (c:ByteArray×Int) (p:PS):Option ((ByteArray×Int)×PS):=
 match p.txt c.1.data.toList width with
 | none=>none
 | some (t,p1)=>match p1.num (coinX c.2) 1 with
  | none=>none
  | some (m,p2)=>if m<3 then some ((⟨t.toArray⟩,(m:Int)),p2) else none
def PS.coins (width:Nat):List (ByteArray×Int)->PS->Option (List (ByteArray×Int)×PS)
 | [],p=>some ([],p)
 | x :: r,p=>match p.coin width x with
  | none=>none
  | some (y,p1)=>match PS.coins width r p1 with
   | none=>none
   | some (ys,p2)=>some (y :: ys,p2)
def PS.outs:List (Nat×Nat)->PS->Option (List (Nat×Nat)×PS)
 | [],p=>some ([],p)
 | x :: r,p=>match p.out x.1 x.2 with
  | none=>none
  | some (y,p1)=>match PS.outs r p1 with
   | none=>none
   | some (ys,p2)=>some (y :: ys,p2)
def startC (l:List (ByteArray×Int)) (cnt:Nat):List (ByteArray×Int):=if l=[] then List.replicate cnt (⟨#[]⟩,0) else l
def startO (l:List (Nat×Nat)) (cnt:Nat):List (Nat×Nat):=if l=[] then List.replicate cnt (0,0) else l
def PS.listC (width least most:Nat) (l:List (ByteArray×Int)) (p:PS):Option (List (ByteArray×Int)×PS):=
 match p.num l.length 1 with
 | none=>none
 | some (cnt,p1)=>if cnt<least\/most<cnt then none else PS.coins width (startC l cnt) p1
def PS.listO (least most:Nat) (l:List (Nat×Nat)) (p:PS):Option (List (Nat×Nat)×PS):=
 match p.num l.length 1 with
 | none=>none
 | some (cnt,p1)=>if cnt<least\/most<cnt then none else PS.outs (startO l cnt) p1
abbrev TxL:=List (ByteArray×Int)×List (Nat×Nat)
def PS.tx (width:Nat) (t:TxL) (p:PS):Option (TxL×PS):=
 match p.listC width 1 3 t.1 with
 | none=>none
 | some (ys,p1)=>match p1.listO 0 3 t.2 with
  | none=>none
  | some (zs,p2)=>some ((ys,zs),p2)
def PS.txs (width:Nat):List TxL->PS->Option (List TxL×PS)
 | [],p=>some ([],p)
 | x :: r,p=>match p.tx width x with
  | none=>none
  | some (y,p1)=>match PS.txs width r p1 with
   | none=>none
   | some (ys,p2)=>some (y :: ys,p2)
def startL (ts:List TxL) (cnt:Nat):List TxL:=if ts=[] then List.replicate cnt ([],[]) else ts
def PS.body (width:Nat) (ts:List TxL) (p:PS):Option (List TxL×PS):=
 match p.num ts.length 1 with
 | none=>none
 | some (cnt,p1)=>if 3<cnt then none else PS.txs width (startL ts cnt) p1
def PS.hdr (width:Nat) (h:Nat×ByteArray×ByteArray×ByteArray) (p:PS):Option ((Nat×ByteArray×ByteArray×ByteArray)×PS):=
 match p.num h.1 4 with
 | none=>none
 | some (n,p1)=>match p1.txt h.2.1.data.toList width with
  | none=>none
  | some (t1,p2)=>match p2.txt h.2.2.1.data.toList width with
   | none=>none
   | some (t2,p3)=>match p3.txt h.2.2.2.data.toList width with
    | none=>none
    | some (t3,p4)=>some ((n,⟨t1.toArray⟩,⟨t2.toArray⟩,⟨t3.toArray⟩),p4)
def sumTo (l:List (Nat×Nat)) (k:Nat):Nat:=((l.take k).map (·.1)).sum
def badSums (l1 l2:List (Nat×Nat)):Prop:=18446744073709551616<=sumTo l1 l1.length\/18446744073709551616<=sumTo l2 l2.length\/sumTo l1 l1.length<sumTo l2 l2.length
end Go.Proofs.YtighkdnooglfjaaGreatDoor
namespace Go.Proofs.YtighkdnooglfjaaGreatDoor
open Go.RowKit

def PortNo (E:Nat->Addr) (w w':World) (b:Nat) (g:Option Nat) (width:Int):Prop:=
 ∃g' p',PortAt w' b g' width (eV E 7) p'/\Moved w g g'/\Tch (λk=>k=b\/some k=g) w w'
theorem Tch.allocs (S:Nat->Prop) (w:World) (o o':Obj):Tch S w ((w.alloc o).alloc o'):=(Tch.alloc S w o).trans (Tch.alloc S _ o') (λ_ h=>.inl h)
theorem PortAt.allocs {w:World} {b:Nat} {g:Option Nat} {width:Int} {err:Value} {p:PS} (h:PortAt w b g width err p) (o o':Obj):PortAt ((w.alloc o).alloc o') b g width err p:=
 h.tch (Tch.allocs (λ_=>False) w o o') (λh=>h) (λ_ _ h=>h)
theorem Env.allocs {E:Nat->Addr} {w:World} (h:Env E w) (o o':Obj):Env E ((w.alloc o).alloc o'):=h.tch (Tch.allocs (λ_=>False) w o o') noE
theorem set2 (w:World) (g:Nat) (t:TypeId) (a b v0 v1:Value) (h:w.heap[g]? =some (.cells #[a,b] t (0,0))):
  (w.setCell ⟨g,0,none⟩ v0).setCell ⟨g,1,none⟩ v1=w.setRow g #[v0,v1]:=by
 rw [setCell_eq_setRow w g 0 _ t (0,0) v0 h,setCell_eq_setRow _ g 1 _ t (0,0) v1 (setRow_heap _ _ _ _ _ _ h),setRow_setRow]
 refine congrArg (w.setRow g) ?_
 simp
theorem PortTo.fresh {w w2 w3:World} {b k:Nat} {g g2:Option Nat} {width:Int} {err:Value} {p p2:PS} (_hp:PortAt w b g width err p) (o o':Obj) (hm:Moved ((w.alloc o).alloc o') g g2) (ht:Tch (λk=>k=b\/some k=g) ((w.alloc o).alloc o') w2)
  (hp2:PortAt w3 b g2 width .nilIface p2) (h3:Tch (λj=>j=k) w2 w3) (hk:w.heap.size<=k):PortTo w w3 b g width p2:=by
 refine ⟨g2,hp2,?_,((Tch.allocs _ w o o').trans ht (λ_ h=>.inl h)).trans h3 (λj hj=>by subst hj;exact .inr hk)⟩
 rcases hm with hm | ⟨i,hi,hle⟩
 ·exact .inl hm
 ·exact .inr ⟨i,hi,by simp at hle;omega⟩
theorem PortNo.fresh {E:Nat->Addr} {w w2 w3:World} {b k:Nat} {g g2:Option Nat} {width:Int} {err:Value} {p p2:PS} (_hp:PortAt w b g width err p) (o o':Obj) (hm:Moved ((w.alloc o).alloc o') g g2) (ht:Tch (λk=>k=b\/some k=g) ((w.alloc o).alloc o') w2)
  (hp2:PortAt w3 b g2 width (eV E 7) p2) (h3:Tch (λj=>j=k) w2 w3) (hk:w.heap.size<=k):PortNo E w w3 b g width:=by
 refine ⟨g2,p2,hp2,?_,((Tch.allocs _ w o o').trans ht (λ_ h=>.inl h)).trans h3 (λj hj=>by subst hj;exact .inr hk)⟩
 rcases hm with hm | ⟨i,hi,hle⟩
 ·exact .inl hm
 ·exact .inr ⟨i,hi,by simp at hle;omega⟩
theorem port_new {w:World} {b:Nat} {g:Option Nat} {width:Int} {err:Value} {p:PS} (h:PortAt w b g width err p) (k:Nat) (hk:w.heap.size<=k):¬(k=b\/some k=g):=by
 have h1:=h.lt
 rintro (rfl | e)
 ·omega
 ·have:=(h.own k e.symm).2;omega
theorem port_high {w:World} {b:Nat} {g:Option Nat} {width:Int} {err:Value} {p:PS} (h12:18<=b) (h:PortAt w b g width err p):∀j,(j=b\/some j=g)->18<=j:=by
 rintro j (rfl | e)
 ·exact h12
 ·have:=(h.own j e.symm).1;omega
theorem moved_new {w:World} {b:Nat} {g g':Option Nat} {width:Int} {err:Value} {p:PS} (h:PortAt w b g width err p) (o o':Obj) (hm:Moved ((w.alloc o).alloc o') g g') (k:Nat) (hk:w.heap.size<=k) (hk2:k<w.heap.size+2):¬(k=b\/some k=g'):=by
 rcases hm with rfl | ⟨i,rfl,hi⟩
 ·exact port_new h k hk
 ·have h1:=h.lt
  rintro (rfl | e)
  ·omega
  ·cases e;simp at hi;omega

theorem u8wrap_small (x:Int) (h0:0<=x) (h:x<256):IntKind.u8.wrap x=x:=by
 simp [IntKind.wrap,IntKind.bits,IntKind.signed];omega

set_option maxRecDepth 100000 in
set_option maxHeartbeats 1000000 in
theorem out_some (b:Nat) (g:Option Nat) (width:Int) (a o a' o':Nat) (p p1 p2:PS) (w:World) (hp:PortAt w b g width .nilIface p) (hd:p.len<=90000000) (hd1:p1.len<=90000000) (ho:o<256) (h1:p.num a 8=some (a',p1)) (h2:p1.num o 1=some (o',p2)) (ho':o'<256):
  Calls Tryz.prog 205 #[.pointer (some ⟨b,0,none⟩),.agg #[.int .u64 (a:Int),.int .u8 (o:Int)]] w λe w'=>e=.returned (.agg #[.int .u64 (a':Int),.int .u8 (o':Int)])/\PortTo w w' b g width p2:=by
 have hlt:=hp.lt
 go_enter Tryz.func205,Tryz.ntmps205
 go_wp2_with fail
 refine (number_some b g width a 8 a' p p1 _ (hp.allocs _ _) (by omega) (by omega) h1).mono ?_
 rintro _ w1 ⟨rfl,g1,hp1,hm1,ht1⟩
 have cB:w1.cell? ⟨w.heap.size,1,none⟩=some (.int .u8 (o:Int)):=(ht1.cell (p:=⟨w.heap.size,1,none⟩) (by simp;omega) (port_new hp _ (Nat.le_refl _))).trans (cell_row (heap_alloc2_old _ _ _))
 have rR:w1.heap[w.heap.size+1]? =some (.cells #[.int .u64 0,.int .u8 0] 80):=(ht1.block _ (by simp) (port_new hp _ (by omega))).trans (heap_alloc2_new _ _ _)
 have hw:IntKind.u64.wrap (o:Int)=(o:Int):=u64wrap_small _ (by omega) (by omega)
 have hw2:IntKind.u8.wrap (o':Int)=(o':Int):=u8wrap_small _ (by omega) (by omega)
 have RR:Hid (_=_):=rR
 have HM1:Hid (Moved _ _ _):=hm1
 have HT1:Hid (Tch _ _ _):=ht1
 have HP:Hid (PortAt _ _ _ _ _ _):=hp
 clear rR hm1 ht1 hp
 go_wp2_with fail
 refine (number_some b g1 width o 1 o' p1 p2 _ hp1 (by omega) (by omega) h2).mono ?_
 rintro _ w2 ⟨rfl,g2,hp2,hm2,ht2⟩
 have rR2:w2.heap[w.heap.size+1]? =some (.cells #[.int .u64 0,.int .u8 0] 80):=(ht2.block _ (by have:=HT1.out.size;simp at this;omega) (moved_new HP.out _ _ HM1.out _ (by omega) (by omega))).trans RR.out
 have e0:w2.cell? ⟨w.heap.size+1,0,none⟩=some (.int .u64 0):=cell_row rR2
 have e1:w2.cell? ⟨w.heap.size+1,1,none⟩=some (.int .u8 0):=cell_row rR2
 have fR:∀j,w2.frozen? ⟨w.heap.size+1,j,none⟩=false:=λj=>frozen_of_row _ _ _ _ _ rR2
 have RR2:Hid (_=_):=rR2
 clear rR2
 go_wp2
 rw [set2 _ _ _ _ _ _ _ RR2.out]
 refine bodyPost_ret (v:=.agg #[.int .u64 (a':Int),.int .u8 (o':Int)]) (results_cell_row Tryz.results205 _ _ (w.heap.size+1) _ _ (0,0) _ rfl (setRow_heap w2 _ _ _ _ _ RR2.out) Tryz.underlying80 rfl (by kernel_rfl)) rfl ⟨rfl,?_⟩
 have hn2:¬(w.heap.size+1=b\/some (w.heap.size+1)=g2):=by
  have h3:=HM1.out.trans hm2 HT1.out.size
  exact moved_new HP.out _ _ h3 _ (by omega) (by omega)
 refine PortTo.fresh HP.out _ _ (HM1.out.trans hm2 HT1.out.size) (port_trans HT1.out ht2 HM1.out) ?_ (Tch.setRow w2 (w.heap.size+1) _) (by omega)
 exact hp2.tch (Tch.setRow w2 (w.heap.size+1) _) (λe=>hn2 (.inl e.symm)) (λj hj e=>hn2 (.inr (by rw [hj,e])))

set_option maxRecDepth 100000 in
set_option maxHeartbeats 1000000 in
theorem out_none1 (E:Nat->Addr) (b:Nat) (g:Option Nat) (width:Int) (a o:Nat) (p:PS) (w:World) (hE:Env E w) (hp:PortAt w b g width .nilIface p) (hd:p.len<=90000000) (h1:p.num a 8=none):
  Calls Tryz.prog 205 #[.pointer (some ⟨b,0,none⟩),.agg #[.int .u64 (a:Int),.int .u8 (o:Int)]] w λe w'=>∃x y:Int,e=.returned (.agg #[.int .u64 x,.int .u8 y])/\PortNo E w w' b g width:=by
 have hlt:=hp.lt
 go_enter Tryz.func205,Tryz.ntmps205
 go_wp2_with fail
 refine (number_none E b g width a 8 p _ (hE.allocs _ _) (hp.allocs _ _) (by omega) (by omega) h1).mono ?_
 rintro _ w2 ⟨rfl,hp1,ht1⟩
 have hb1:w.heap.size ≠ b:=by omega
 have hb2:w.heap.size+1 ≠ b:=by omega
 have cB:w2.cell? ⟨w.heap.size,1,none⟩=some (.int .u8 (o:Int)):=(ht1.cell (p:=⟨w.heap.size,1,none⟩) (by simp;omega) hb1).trans (cell_row (heap_alloc2_old _ _ _))
 have rR2:w2.heap[w.heap.size+1]? =some (.cells #[.int .u64 0,.int .u8 0] 80):=(ht1.block _ (by simp) hb2).trans (heap_alloc2_new _ _ _)
 have e0:w2.cell? ⟨w.heap.size+1,0,none⟩=some (.int .u64 0):=cell_row rR2
 have e1:w2.cell? ⟨w.heap.size+1,1,none⟩=some (.int .u8 0):=cell_row rR2
 have fR:∀j,w2.frozen? ⟨w.heap.size+1,j,none⟩=false:=λj=>frozen_of_row _ _ _ _ _ rR2
 have RR2:Hid (_=_):=rR2
 have HT1:Hid (Tch _ _ _):=ht1
 have HP:Hid (PortAt _ _ _ _ _ _):=hp
 clear rR2 ht1 hp hE
 go_wp2_with fail
 refine (number_err b g width _ _ p _ _ _ hp1).mono ?_
 rintro _ _ ⟨rfl,rfl⟩
 go_wp2
 rw [set2 _ _ _ _ _ _ _ RR2.out]
 refine bodyPost_ret (v:=.agg #[.int .u64 0,.int .u8 0]) (results_cell_row Tryz.results205 _ _ (w.heap.size+1) _ _ (0,0) _ rfl (setRow_heap w2 _ _ _ _ _ RR2.out) Tryz.underlying80 rfl (by kernel_rfl)) rfl ⟨0,0,rfl,?_⟩
 refine PortNo.fresh (p2:=p) HP.out _ _ (.inl rfl) (HT1.out.mono (λj h=>.inl (.inl h))) ?_ (Tch.setRow w2 (w.heap.size+1) _) (by omega)
 exact hp1.tch (Tch.setRow w2 (w.heap.size+1) _) (λe=>hb2 e.symm) (λj hj e=>by subst e;have:=(HP.out.own _ hj).2;omega)

set_option maxRecDepth 100000 in
set_option maxHeartbeats 1000000 in
theorem out_none2 (E:Nat->Addr) (b:Nat) (hb12:18<=b) (g:Option Nat) (width:Int) (a o a':Nat) (p p1:PS) (w:World) (hE:Env E w) (hp:PortAt w b g width .nilIface p) (hd:p.len<=90000000) (ho:o<256) (h1:p.num a 8=some (a',p1)) (h2:p1.num o 1=none):
  Calls Tryz.prog 205 #[.pointer (some ⟨b,0,none⟩),.agg #[.int .u64 (a:Int),.int .u8 (o:Int)]] w λe w'=>∃x y:Int,e=.returned (.agg #[.int .u64 x,.int .u8 y])/\PortNo E w w' b g width:=by
 have hlt:=hp.lt
 go_enter Tryz.func205,Tryz.ntmps205
 go_wp2_with fail
 refine (number_some b g width a 8 a' p p1 _ (hp.allocs _ _) (by omega) (by omega) h1).mono ?_
 rintro _ w1 ⟨rfl,g1,hp1,hm1,ht1⟩
 have cB:w1.cell? ⟨w.heap.size,1,none⟩=some (.int .u8 (o:Int)):=(ht1.cell (p:=⟨w.heap.size,1,none⟩) (by simp;omega) (port_new hp _ (Nat.le_refl _))).trans (cell_row (heap_alloc2_old _ _ _))
 have rR:w1.heap[w.heap.size+1]? =some (.cells #[.int .u64 0,.int .u8 0] 80):=(ht1.block _ (by simp) (port_new hp _ (by omega))).trans (heap_alloc2_new _ _ _)
 have hw:IntKind.u64.wrap (o:Int)=(o:Int):=u64wrap_small _ (by omega) (by omega)
 have RR:Hid (_=_):=rR
 have HM1:Hid (Moved _ _ _):=hm1
 have HT1:Hid (Tch _ _ _):=ht1
 have HP:Hid (PortAt _ _ _ _ _ _):=hp
 have hE1:Env E w1:=(hE.allocs _ _).tch ht1 (port_high hb12 hp)
 clear rR hm1 ht1 hp hE
 go_wp2_with fail
 refine (number_none E b g1 width o 1 p1 _ hE1 hp1 (by omega) (by have:=num_len _ _ _ _ _ h1;omega) h2).mono ?_
 rintro _ w2 ⟨rfl,hp2,ht2⟩
 have hb2:w.heap.size+1 ≠ b:=by omega
 have rR2:w2.heap[w.heap.size+1]? =some (.cells #[.int .u64 0,.int .u8 0] 80):=(ht2.block _ (by have:=HT1.out.size;simp at this;omega) hb2).trans RR.out
 have e0:w2.cell? ⟨w.heap.size+1,0,none⟩=some (.int .u64 0):=cell_row rR2
 have e1:w2.cell? ⟨w.heap.size+1,1,none⟩=some (.int .u8 0):=cell_row rR2
 have fR:∀j,w2.frozen? ⟨w.heap.size+1,j,none⟩=false:=λj=>frozen_of_row _ _ _ _ _ rR2
 have RR2:Hid (_=_):=rR2
 clear rR2
 go_wp2
 rw [set2 _ _ _ _ _ _ _ RR2.out]
 refine bodyPost_ret (v:=.agg #[.int .u64 (a':Int),.int .u8 0]) (results_cell_row Tryz.results205 _ _ (w.heap.size+1) _ _ (0,0) _ rfl (setRow_heap w2 _ _ _ _ _ RR2.out) Tryz.underlying80 rfl (by kernel_rfl)) rfl ⟨(a':Int),0,rfl,?_⟩
 have hn2:¬(w.heap.size+1=b\/some (w.heap.size+1)=g1):=moved_new HP.out _ _ HM1.out _ (by omega) (by omega)
 refine PortNo.fresh (p2:=p1) HP.out _ _ HM1.out (HT1.out.trans ht2 (λj h=>.inl (.inl h))) ?_ (Tch.setRow w2 (w.heap.size+1) _) (by omega)
 exact hp2.tch (Tch.setRow w2 (w.heap.size+1) _) (λe=>hn2 (.inl e.symm)) (λj hj e=>hn2 (.inr (by rw [hj,e])))
end Go.Proofs.YtighkdnooglfjaaGreatDoor
namespace Go.Proofs.YtighkdnooglfjaaGreatDoor
open Go.RowKit

inductive ErrIs (E:Nat->Addr) (g:Nat) (w:World):Value->Prop where
 | base:ErrIs E g w (eV E g)
 | wrap (p:Nat) (s:ByteArray) (v:Value):w.heap[p]? =some (.cells #[.string s,v] 237)->ErrIs E g w v->ErrIs E g w (.iface 235 (.pointer (some ⟨p,0,none⟩)))
theorem ErrIs.tch {E:Nat->Addr} {g:Nat} {w w':World} {v:Value} {S:Nat->Prop} (h:ErrIs E g w v) (k:Tch S w w') (hs:∀p s u,w.heap[p]? =some (.cells #[.string s,u] 237)->¬S p):ErrIs E g w' v:=by
 induction h with
 | base=>exact .base
 | wrap p s u hp _ ih=>exact .wrap p s u ((k.block p (row_lt hp) (hs p s u hp)).trans hp) ih
theorem ErrIs.later {E:Nat->Addr} {g:Nat} {w w':World} {v:Value} (h:ErrIs E g w v) (k:Below w.heap.size w w'):ErrIs E g w' v:=
 h.tch (Tch.of_below k) (λp _ _ hp hj=>by have:=(row_lt hp);omega)
theorem ErrIs.iface {E:Nat->Addr} {g:Nat} {w:World} {v:Value} (h:ErrIs E g w v):∃t u,v=.iface t u:=by
 cases h with
 | base=>exact ⟨_,_,rfl⟩
 | wrap p s u _ _=>exact ⟨_,_,rfl⟩

set_option maxRecDepth 100000 in
set_option maxHeartbeats 400000 in
theorem at_err (s:ByteArray) (t:TypeId) (v:Value) (w:World):Calls Tryz.prog 80 #[.string s,.iface t v] w λe w'=>e=.returned (.iface 235 (.pointer (some ⟨w.heap.size,0,none⟩)))/\w'=w.alloc (.cells #[.string s,.iface t v] 237):=by
 go_enter Tryz.func80,Tryz.ntmps80
 go_wp2
 go_ret
 exact ⟨rfl,rfl⟩
set_option maxRecDepth 100000 in
set_option maxHeartbeats 400000 in
theorem itoa_small (i:Nat) (hi:i<10) (w:World):Calls Tryz.prog 101 #[.int .i64 (i:Int)] w λe w'=>(∃s:ByteArray,s.size<=10/\e=.returned (.string s))/\w=w':=by
 have h0:(0:Int)<=(i:Int):=by omega
 have h1:(i:Int)<100:=by omega
 have h2:(i:Int)<10:=by omega
 go_enter Tryz.func101,Tryz.ntmps101
 go_wp2
 go_ret
 refine ⟨⟨_,?_,rfl⟩,rfl⟩
 rw [ByteArray.size_extract];omega
end Go.Proofs.YtighkdnooglfjaaGreatDoor
