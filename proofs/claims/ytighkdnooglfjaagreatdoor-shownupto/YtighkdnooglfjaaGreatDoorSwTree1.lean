/-
  The contracts of keys.Bit and keys.FirstDifference.
  The contract of keys.FirstDifference.
  The tree's nodes in memory ('NodeAt'), and the contracts of their small functions.
  The contracts of tree.digested, newLeaf and newBranch.
-/
import Derived.Test.YtighkdnooglfjaaGreatDoorSwWNode
import Derived.Test.YtighkdnooglfjaaGreatDoorSwPRt
import Derived.Test.YtighkdnooglfjaaGreatDoorSwPBook
import Derived.Laws.Externs
import Derived.Laws.BitsAllLaws
import Derived.Deep.RegionHeld3
namespace Go.Proofs.YtighkdnooglfjaaGreatDoor
open Go.RowKit

theorem ret_int {k:IntKind} {a b:Int} (h:a=b):Ending.returned (.int k a)=.returned (.int k b):=by rw [h]
theorem bget (t:ByteArray) (m:Nat) (h:m<t.size):t[m]=t.data.getD m 0:=by
 have h':m<t.data.size:=h
 simp only [Array.getD]
 rw [dif_pos h']
 rfl
theorem and_one (n:Nat) (h:n<256):bits .and .i64 (n:Int) 1=((n % 2:Nat):Int):=by
 have:∀m:Fin 256,bits .and .i64 ((m.val:Nat):Int) 1=((m.val % 2:Nat):Int):=by decide +kernel
 exact this ⟨n,h⟩
set_option maxRecDepth 100000 in
set_option maxHeartbeats 400000 in
theorem keyBit_any (k:List UInt8) (i:Nat) (hi:i<8 * k.length) (hl:k.length<=1000000) (w:World):
  Calls Tryz.prog 288 #[.string ⟨k.toArray⟩,.int .i64 (i:Int)] w λe w'=>e=.returned (.int .i64 (bt k i:Int))/\w'=w:=by
 have hsz:(⟨k.toArray⟩:ByteArray).size=k.length:=str_size k
 have hix:i / 8<(⟨k.toArray⟩:ByteArray).size:=by omega
 have HB:Hid ((⟨k.toArray⟩:ByteArray)[i / 8].toNat=(k.getD (i / 8) 0).toNat):=by
  show UInt8.toNat _=_
  congr 1
  simp [List.getD_eq_getElem?_getD,show i / 8<k.length by omega]
  rfl
 have hlt:=UInt8.toNat_lt (⟨k.toArray⟩:ByteArray)[i / 8]
 have HBT:Hid (bt k i=(k.getD (i / 8) 0).toNat / 2 ^ (7 - i % 8) % 2):=rfl
 clear hsz
 generalize (⟨k.toArray⟩:ByteArray)=tb at *
 have hq:((i:Int) / 8).toNat=i / 8:=by omega
 go_enter Tryz.func288,Tryz.ntmps288
 go_wp2
 go_ret
 refine ⟨ret_int ?_,rfl⟩
 have e1:((tb[i / 8].toNat:Int) / 2 ^ (7 - i % 8))=((tb[i / 8].toNat / 2 ^ (7 - i % 8):Nat):Int):=by simp
 have hle:tb[i / 8].toNat / 2 ^ (7 - i % 8)<=tb[i / 8].toNat:=Nat.div_le_self _ _
 rw [e1]
 have e2:wrap64 ((tb[i / 8].toNat / 2 ^ (7 - i % 8):Nat):Int)=((tb[i / 8].toNat / 2 ^ (7 - i % 8):Nat):Int):=by
  have h0:(0:Int)<=((tb[i / 8].toNat / 2 ^ (7 - i % 8):Nat):Int):=Int.natCast_nonneg _
  have h1:((tb[i / 8].toNat / 2 ^ (7 - i % 8):Nat):Int)<256:=by omega
  generalize ((tb[i / 8].toNat / 2 ^ (7 - i % 8):Nat):Int)=z at *
  unfold wrap64
  omega
 rw [e2,and_one _ (by omega),HBT.out,HB.out]
set_option maxRecDepth 100000 in
theorem lz_try (x:UInt8) (w:World):
  Calls Tryz.prog 334 #[.int .u8 (x.toNat:Int)] w λe w'=>e=.returned (.int .i64 (lz8 x:Int))/\w'=w:=by
 have h:=UInt8.toNat_lt x
 obtain ⟨n,hn⟩:∃n,n=x.toNat:=⟨_,rfl⟩
 have hx:x=UInt8.ofNat n:=by rw [hn];simp
 have HX:Hid (x=UInt8.ofNat n):=hx
 rw [<-hn] at h ⊢
 clear hn hx
 go_enter Tryz.func334,Tryz.ntmps334
 go_wp2
 go_ret
 refine ⟨ret_int ?_,rfl⟩
 rw [HX.out,bget]
 have h':n<256:=h
 clear HX h
 rename_i hz
 clear hz
 revert n
 decide +kernel
end Go.Proofs.YtighkdnooglfjaaGreatDoor
namespace Go.Proofs.YtighkdnooglfjaaGreatDoor
open Go.RowKit

theorem lz8_le (x:UInt8):lz8 x<=8:=by
 unfold lz8
 repeat (first | omega | split)
theorem fd_drop:∀(k:Nat) (a b:List UInt8),a.take k=b.take k->k<=a.length->a.length=b.length->fd a b=8 * k+fd (a.drop k) (b.drop k):=by
 intro k
 induction k with
 | zero=>intro a b _ _ _;simp
 | succ k ih=>
  intro a b h hl hab
  cases a with
  | nil=>simp at hl
  | cons x a=>cases b with
   | nil=>simp at hab
   | cons y b=>
    simp only [List.take_succ_cons,List.cons.injEq] at h
    obtain ⟨rfl,h⟩:=h
    simp only [fd,if_true,List.drop_succ_cons]
    rw [ih a b h (by simpa using hl) (by simpa using hab)]
    omega
theorem fd_at (k:Nat) (a b:List UInt8) (ha:k<a.length) (hb:k<b.length) (h:a[k] ≠ b[k]):fd (a.drop k) (b.drop k)=lz8 (a[k] ^^^ b[k]):=by
 rw [List.drop_eq_getElem_cons ha,List.drop_eq_getElem_cons hb]
 simp only [fd,h,if_false]
set_option maxRecDepth 100000 in
set_option maxHeartbeats 1000000 in
theorem fdiff_any (a b:List UInt8) (hl:a.length=b.length) (hne:a ≠ b) (h1:a.length<=1000000) (w:World):
  Calls Tryz.prog 271 #[.string ⟨a.toArray⟩,.string ⟨b.toArray⟩] w λe w'=>e=.returned (.int .i64 (fd a b:Int))/\∃n,w'=w.drewN n:=by
 have hsa:(⟨a.toArray⟩:ByteArray).size=a.length:=str_size a
 have hsb:(⟨b.toArray⟩:ByteArray).size=b.length:=str_size b
 have HA:Hid (∀k (h:k<(⟨a.toArray⟩:ByteArray).size) (h':k<a.length),(⟨a.toArray⟩:ByteArray)[k]'h=a[k]'h'):=λk h h'=>by show (⟨a.toArray⟩:ByteArray).data[k]=_;simp
 have HB:Hid (∀k (h:k<(⟨b.toArray⟩:ByteArray).size) (h':k<b.length),(⟨b.toArray⟩:ByteArray)[k]'h=b[k]'h'):=λk h h'=>by show (⟨b.toArray⟩:ByteArray).data[k]=_;simp
 have HL:Hid (a.length=b.length):=hl
 clear hl
 generalize (⟨a.toArray⟩:ByteArray)=A at *
 generalize (⟨b.toArray⟩:ByteArray)=B at *
 have HSA:Hid (A.size=a.length):=hsa
 have HSB:Hid (B.size=b.length):=hsb
 clear hsa hsb
 go_enter Tryz.func271,Tryz.ntmps271
 go_wp2
 go_loopw [5] (λi wr=>∃k:Nat,i=.int .i64 (k:Int)/\k<a.length/\Hid (a.take k=b.take k)/\∃n,wr=w.drewN n) (λi _=>a.length - (intOf i).toNat)
 case atStart=>
  refine ⟨0,rfl,?_,(by show _=_;simp),0,rfl⟩
  cases a with
  | nil=>have:=HL.out;simp at this;exact absurd (List.length_eq_zero_iff.1 this.symm).symm hne
  | cons x a=>simp
 case round=>
  obtain ⟨k,rfl,hk,htk,n,rfl⟩:=hrel
  have hka:k<A.size:=by rw [HSA.out];exact hk
  have hkb:k<B.size:=by rw [HSB.out,<-HL.out];exact hk
  have hkb':k<b.length:=by rw [<-HL.out];exact hk
  have eA:=HA.out k hka hk
  have eB:=HB.out k hkb hkb'
  by_cases heq:A[k]=B[k]
  ·have hb:((A[k].toNat:Int) == (B[k].toNat:Int))=true:=by rw [heq];simp
   have HEQ:Hid (a[k]=b[k]'hkb'):=by show _=_;rw [<-eA,<-eB,heq]
   clear heq eA eB
   go_wp2
   go_region
   go_wp2
   have htk1:a.take (k+1)=b.take (k+1):=by
    rw [List.take_succ_eq_append_getElem hk,List.take_succ_eq_append_getElem hkb',htk.out,HEQ.out]
   refine ⟨⟨k+1,by go_num,?_,htk1,n+1,rfl⟩,by simp [intOf];omega⟩
   by_cases hl:k+1<a.length
   ·exact hl
   ·exfalso
    rw [List.take_of_length_le (by omega),List.take_of_length_le (by have:=HL.out;omega)] at htk1
    exact hne htk1
  ·have hb:((A[k].toNat:Int) == (B[k].toNat:Int))=false:=by
    rw [beq_eq_false_iff_ne]
    intro e
    exact heq (UInt8.toNat_inj.1 (by omega))
   have HR:Hid (fd a b=8 * k+lz8 (A[k] ^^^ B[k])):=by
    show _=_
    rw [fd_drop k a b htk.out (by omega) HL.out,fd_at k a b hk hkb' (by rw [<-eA,<-eB];exact heq),eA,eB]
   have hx:bits .xor .u8 (A[k].toNat:Int) (B[k].toNat:Int)=((A[k] ^^^ B[k]).toNat:Int):=by
    rw [u8_xor_nat _ _ (UInt8.toNat_lt _) (UInt8.toNat_lt _),UInt8.toNat_xor]
   have hlz:=lz_try (A[k] ^^^ B[k])
   rw [<-hx] at hlz
   have hl8:=lz8_le (A[k] ^^^ B[k])
   have hw8:IntKind.i64.wrap (8 * (k:Int))=8 * (k:Int):=by simp [IntKind.wrap,IntKind.bits,IntKind.signed];omega
   have hws:IntKind.i64.wrap (8 * (k:Int)+(lz8 (A[k] ^^^ B[k]):Int))=8 * (k:Int)+(lz8 (A[k] ^^^ B[k]):Int):=by simp [IntKind.wrap,IntKind.bits,IntKind.signed];omega
   clear hx
   clear heq eA eB
   go_wp2
   go_region
   go_wp2
   go_region_with (go_at_call 334;refine (hlz _).mono ?_;rintro _ _ ⟨rfl,rfl⟩)
   all_goals go_wp2
   all_goals go_ret
   all_goals exact ⟨ret_int (by rw [HR.out];go_num),n+2,rfl⟩
end Go.Proofs.YtighkdnooglfjaaGreatDoor
namespace Go.Proofs.YtighkdnooglfjaaGreatDoor
open Go.RowKit

def leafC (dg:ByteArray) (k:Key) (o:Nat×Nat):Array Value:= #[.string dg,.string ⟨k.toArray⟩,.int .u64 (o.1:Int),.int .u8 (o.2:Int),.int .i64 0,.pointer none,.pointer none]
def brC (dg:ByteArray) (b nl nr:Nat):Array Value:= #[.string dg,.string ⟨#[]⟩,.int .u64 0,.int .u8 0,.int .i64 (b:Int),.pointer (some ⟨nl,0,none⟩),.pointer (some ⟨nr,0,none⟩)]
inductive NodeAt (d:List UInt8->ByteArray) (F:Nat->Prop) (w:World):Nat->Tr->Prop where
 | leaf (n:Nat) (k:Key) (o:Nat×Nat):F n->w.heap[n]? =some (.cells (leafC (Tr.dig d (.leaf k o)) k o) 243)->NodeAt d F w n (.leaf k o)
 | br (n b nl nr:Nat) (l r:Tr):F n->w.heap[n]? =some (.cells (brC (Tr.dig d (.br b l r)) b nl nr) 243)->NodeAt d F w nl l->NodeAt d F w nr r->NodeAt d F w n (.br b l r)
theorem NodeAt.tch {d:List UInt8->ByteArray} {F:Nat->Prop} {w w':World} {n:Nat} {t:Tr} {S:Nat->Prop} (h:NodeAt d F w n t) (k:Tch S w w') (hs:∀j,S j->¬F j):NodeAt d F w' n t:=by
 induction h with
 | leaf n key o hF hr=>exact .leaf n key o hF ((k.block n (row_lt hr) (λe=>hs n e hF)).trans hr)
 | br n b nl nr l r hF hr _ _ ihl ihr=>exact .br n b nl nr l r hF ((k.block n (row_lt hr) (λe=>hs n e hF)).trans hr) ihl ihr
theorem NodeAt.next {d:List UInt8->ByteArray} {F:Nat->Prop} {w w':World} {n:Nat} {t:Tr} (h:NodeAt d F w n t) (k:Tch (λ_=>False) w w'):NodeAt d F w' n t:=h.tch k noE
theorem NodeAt.mono {d:List UInt8->ByteArray} {F F':Nat->Prop} {w:World} {n:Nat} {t:Tr} (h:NodeAt d F w n t) (hF:∀j,F j->F' j):NodeAt d F' w n t:=by
 induction h with
 | leaf n key o h1 hr=>exact .leaf n key o (hF n h1) hr
 | br n b nl nr l r h1 hr _ _ ihl ihr=>exact .br n b nl nr l r (hF n h1) hr ihl ihr
theorem NodeAt.own {d:List UInt8->ByteArray} {F:Nat->Prop} {w:World} {n:Nat} {t:Tr} (h:NodeAt d F w n t):F n/\n<w.heap.size:=by
 cases h with
 | leaf _ _ _ h1 hr=>exact ⟨h1,(row_lt hr)⟩
 | br _ _ _ _ _ _ h1 hr=>exact ⟨h1,(row_lt hr)⟩
theorem NodeAt.digCell {d:List UInt8->ByteArray} {F:Nat->Prop} {w:World} {n:Nat} {t:Tr} (h:NodeAt d F w n t):w.cell? ⟨n,0,none⟩=some (.string (t.dig d)):=by
 cases h with
 | leaf _ _ _ h1 hr=>exact cell_row hr
 | br _ _ _ _ _ _ h1 hr=>exact cell_row hr
def TrOk (width:Nat):Tr->Prop
 | .leaf k o=>k.length=width+1/\(k.getD width 0).toNat<3/\OutOk o
 | .br b l r=>b<8 * (width+1)/\TrOk width l/\TrOk width r
theorem stNode_leaf (width:Nat) (l k:ByteArray) (o:Nat×Nat) (b:Int) (x y:ByteArray) (st s1:Option PS) (h:stTxt l.data.toList 1 st=([76],s1)):(stNode width (l,k,o,b,x,y) st).2=(stLeaf width k o s1).2:=by
 unfold stNode
 simp [h]
theorem stNode_br (width:Nat) (l k:ByteArray) (o:Nat×Nat) (b:Int) (x y:ByteArray) (st s1:Option PS) (h:stTxt l.data.toList 1 st=([78],s1)):(stNode width (l,k,o,b,x,y) st).2=(stBr width b x y s1).2:=by
 unfold stNode
 simp [h]
theorem leaf_text (width:Nat) (k:Key) (o:Nat×Nat) (h:TrOk width (.leaf k o)):stOut (stNode width (⟨#[76]⟩,⟨k.toArray⟩,o,0,⟨#[]⟩,⟨#[]⟩) (some (.wr []))).2=some (76 :: (k++outB o)):=by
 obtain ⟨h1,h2,h3⟩:=h
 have e1:stTxt [76] 1 (some (.wr []))=([76],some (.wr [76])):=stTxt_some rfl
 have e2:(PS.wr [76]).txt k (width+1)=some (k,.wr ([76]++k)):=by simp only [PS.txt];rw [if_pos h1]
 have e3:stKey width k (some (.wr [76]))=(k,some (.wr ([76]++k))):=by
  unfold stKey
  rw [stTxt_some e2]
  dsimp only
  rw [if_neg (by omega)]
 have e4:(PS.wr ([76]++k)).out o.1 o.2=some (o,.wr ([76]++k++outB o)):=(rt_out o 0 0 h3).wr _
 obtain ⟨p1,q1,q2,_⟩:=out_inv _ _ _ _ _ e4
 have e5:stO o (some (.wr ([76]++k)))=(o,some (.wr ([76]++k++outB o))):=by
  unfold stO
  rw [stNum_some q1]
  dsimp only
  rw [stNum_some q2]
 have e6:stLeaf width ⟨k.toArray⟩ o (some (.wr [76]))=((k,o),some (.wr ([76]++k++outB o))):=by
  unfold stLeaf
  show (((stKey width k _).1,_),_)=_
  rw [e3]
  dsimp only
  rw [e5]
 rw [stNode_leaf width ⟨#[76]⟩ _ _ _ _ _ _ _ e1,e6]
 simp [stOut]
theorem br_text (width:Nat) (b:Nat) (x y:ByteArray) (hw:width<=1000) (hb:b<8 * (width+1)) (hx:x.size=width) (hy:y.size=width):stOut (stNode width (⟨#[78]⟩,⟨#[]⟩,(0,0),(b:Int),x,y) (some (.wr []))).2=some (78 :: (beL b 2 2++(x.data.toList++y.data.toList))):=by
 have e1:stTxt [78] 1 (some (.wr []))=([78],some (.wr [78])):=stTxt_some rfl
 have ex:coinX (b:Int)=b:=by unfold coinX;omega
 have e2:(PS.wr [78]).num b 2=some (b,.wr ([78]++beL b 2 2)):=(rt_num b 2 0 (by omega)).wr _
 have e3:stBit width (b:Int) (some (.wr [78]))=(b,some (.wr ([78]++beL b 2 2))):=by
  unfold stBit
  rw [ex,stNum_some e2]
  dsimp only
  rw [if_neg (by omega)]
 have e4:(PS.wr ([78]++beL b 2 2)).txt x.data.toList width=some (x.data.toList,.wr ([78]++beL b 2 2++x.data.toList)):=(rt_txt x.data.toList [] width (by rw [<-hx];simp)).wr _
 have e5:(PS.wr ([78]++beL b 2 2++x.data.toList)).txt y.data.toList width=some (y.data.toList,.wr ([78]++beL b 2 2++x.data.toList++y.data.toList)):=(rt_txt y.data.toList [] width (by rw [<-hy];simp)).wr _
 have e6:(stBr width (b:Int) x y (some (.wr [78]))).2=some (.wr ([78]++beL b 2 2++x.data.toList++y.data.toList)):=by
  unfold stBr
  rw [e3]
  dsimp only
  rw [stTxt_some e4]
  dsimp only
  rw [stTxt_some e5]
 rw [stNode_br width ⟨#[78]⟩ _ _ _ _ _ _ _ e1,e6]
 simp [stOut]
theorem resN {w w1:World} (h:Tch (λ_=>False) (w.alloc (.cells #[.string ⟨#[]⟩,.string ⟨#[]⟩,.int .u64 0,.int .u8 0,.int .i64 0,.string ⟨#[]⟩,.string ⟨#[]⟩] 281)).drew w1):
  w1.heap[w.heap.size]? =some (.cells #[.string ⟨#[]⟩,.string ⟨#[]⟩,.int .u64 0,.int .u8 0,.int .i64 0,.string ⟨#[]⟩,.string ⟨#[]⟩] 281)/\w1.cell? ⟨w.heap.size,0,none⟩=some (.string ⟨#[]⟩)/\w1.cell? ⟨w.heap.size,1,none⟩=some (.string ⟨#[]⟩)/\w1.cell? ⟨w.heap.size,2,none⟩=some (.int .u64 0)/\w1.cell? ⟨w.heap.size,3,none⟩=some (.int .u8 0)/\w1.cell? ⟨w.heap.size,4,none⟩=some (.int .i64 0)/\w1.cell? ⟨w.heap.size,5,none⟩=some (.string ⟨#[]⟩)/\w1.cell? ⟨w.heap.size,6,none⟩=some (.string ⟨#[]⟩)/\(∀j,w1.frozen? ⟨w.heap.size,j,none⟩=false)/\Tch (λ_=>False) w w1:=by
 have r:w1.heap[w.heap.size]? =some (.cells #[.string ⟨#[]⟩,.string ⟨#[]⟩,.int .u64 0,.int .u8 0,.int .i64 0,.string ⟨#[]⟩,.string ⟨#[]⟩] 281):=(h.block _ (by show _<(w.alloc _).heap.size;simp) (λh=>h)).trans (heap_alloc_new _ _)
 exact ⟨r,cell_row r,cell_row r,cell_row r,cell_row r,cell_row r,cell_row r,cell_row r,λj=>frozen_of_row _ _ _ _ _ r,((Tch.alloc (λ_=>False) w _).trans (Tch.drewN _ _ 1) (λ_ h=>.inl h)).trans h noE⟩
set_option maxRecDepth 100000 in
set_option maxHeartbeats 400000 in
theorem plain_leaf (n:Nat) (dg:ByteArray) (k:Key) (o:Nat×Nat) (w:World) (h:w.heap[n]? =some (.cells (leafC dg k o) 243)):
  Calls Tryz.prog 353 #[.pointer (some ⟨n,0,none⟩)] w λe w'=>e=.returned (.agg (nodeC (⟨#[76]⟩,⟨k.toArray⟩,o,0,⟨#[]⟩,⟨#[]⟩)))/\Tch (λ_=>False) w w':=by
 obtain ⟨oa,oo⟩:=o
 have c1:w.cell? ⟨n,1,none⟩=some (.string ⟨k.toArray⟩):=cell_row h
 have c2:w.cell? ⟨n,2,none⟩=some (.int .u64 (oa:Int)):=cell_row h
 have c3:w.cell? ⟨n,3,none⟩=some (.int .u8 (oo:Int)):=cell_row h
 have c5:w.cell? ⟨n,5,none⟩=some (.pointer none):=cell_row h
 have hlt:n<w.heap.size:=(row_lt h)
 clear h
 generalize (⟨k.toArray⟩:ByteArray)=kb at *
 have HV:Hid (nodeC (⟨#[76]⟩,kb,(oa,oo),0,⟨#[]⟩,⟨#[]⟩)= #[.string ⟨#[76]⟩,.string kb,.int .u64 (oa:Int),.int .u8 (oo:Int),.int .i64 0,.string ⟨#[]⟩,.string ⟨#[]⟩]):=rfl
 rw [HV.out]
 go_enter Tryz.func353,Tryz.ntmps353
 go_wp2
 go_region_with (go_at_call 307;refine (leafNode_any _ _ _ _).mono ?_;rintro _ w1 ⟨rfl,ht1⟩;obtain ⟨rR,e0,e1,e2,e3,e4,e5,e6,fR,ht2⟩:=resN ht1;have RR:Hid (_=_):=rR;have HT1:Hid (Tch _ _ _):=ht2;clear ht1 ht2 rR)
 all_goals
  go_wp2
  rw [set7 _ _ _ _ _ _ _ _ _ _ _ _ _ _ _ _ _ RR.out]
  exact bodyPost_ret (v:=.agg #[.string ⟨#[76]⟩,.string kb,.int .u64 (oa:Int),.int .u8 (oo:Int),.int .i64 0,.string ⟨#[]⟩,.string ⟨#[]⟩]) (results_cell_row Tryz.results353 _ _ w.heap.size _ _ (0,0) _ rfl (setRow_heap _ _ _ _ _ _ RR.out) Tryz.underlying281 rfl (by kernel_rfl)) rfl ⟨rfl,HT1.out.trans (Tch.setRow _ w.heap.size _) (λj hj=>.inr (by omega))⟩
theorem keep7 {w:World} {g:Nat} {t:TypeId} {a b c d e f h:Value} (hr:w.heap[g]? =some (.cells #[a,b,c,d,e,f,h] t (0,0))) (v0 v1 v2 v3 v4 v5 v6:Value) {n o:Nat} (hn:n<w.heap.size) (hne:n ≠ g) {v:Value} (hc:w.cell? ⟨n,o,none⟩=some v):
  (((((((w.setCell ⟨g,0,none⟩ v0).setCell ⟨g,1,none⟩ v1).setCell ⟨g,2,none⟩ v2).setCell ⟨g,3,none⟩ v3).setCell ⟨g,4,none⟩ v4).setCell ⟨g,5,none⟩ v5).setCell ⟨g,6,none⟩ v6).cell? ⟨n,o,none⟩=some v:=by
 rw [set7 w g t a b c d e f h v0 v1 v2 v3 v4 v5 v6 hr]
 exact ((Tch.setRow w g _).cell (p:=⟨n,o,none⟩) hn hne).trans hc
set_option maxRecDepth 100000 in
set_option maxHeartbeats 400000 in
theorem plain_br (n:Nat) (dg:ByteArray) (b nl nr:Nat) (x y:ByteArray) (w:World) (h:w.heap[n]? =some (.cells (brC dg b nl nr) 243)) (hx:w.cell? ⟨nl,0,none⟩=some (.string x)) (hy:w.cell? ⟨nr,0,none⟩=some (.string y)) (hnl:nl<w.heap.size) (hnr:nr<w.heap.size):
  Calls Tryz.prog 353 #[.pointer (some ⟨n,0,none⟩)] w λe w'=>e=.returned (.agg (nodeC (⟨#[78]⟩,⟨#[]⟩,(0,0),(b:Int),x,y)))/\Tch (λ_=>False) w w':=by
 have c4:w.cell? ⟨n,4,none⟩=some (.int .i64 (b:Int)):=cell_row h
 have c5:w.cell? ⟨n,5,none⟩=some (.pointer (some ⟨nl,0,none⟩)):=cell_row h
 have c6:w.cell? ⟨n,6,none⟩=some (.pointer (some ⟨nr,0,none⟩)):=cell_row h
 have hlt:n<w.heap.size:=(row_lt h)
 clear h
 have HV:Hid (nodeC (⟨#[78]⟩,⟨#[]⟩,(0,0),(b:Int),x,y)= #[.string ⟨#[78]⟩,.string ⟨#[]⟩,.int .u64 0,.int .u8 0,.int .i64 (b:Int),.string x,.string y]):=rfl
 rw [HV.out]
 go_enter Tryz.func353,Tryz.ntmps353
 go_wp2
 go_region_held3 (λW=>W.cell? ⟨n,4,none⟩=some (.int .i64 (b:Int))/\W.cell? ⟨n,5,none⟩=some (.pointer (some ⟨nl,0,none⟩))/\W.cell? ⟨n,6,none⟩=some (.pointer (some ⟨nr,0,none⟩))/\W.cell? ⟨nl,0,none⟩=some (.string x)/\W.cell? ⟨nr,0,none⟩=some (.string y)) (go_keep) ((go_at_call 309;refine (branchNode_any _ _ _ _).mono ?_;rintro _ w1 ⟨rfl,ht1⟩;obtain ⟨rR,e0,e1,e2,e3,e4,e5,e6,fR,ht2⟩:=resN ht1;have f4:=(ht2.cell (p:=⟨n,4,none⟩) hlt (λh=>h)).trans c4;have f5:=(ht2.cell (p:=⟨n,5,none⟩) hlt (λh=>h)).trans c5;have f6:=(ht2.cell (p:=⟨n,6,none⟩) hlt (λh=>h)).trans c6;have f7:=(ht2.cell (p:=⟨nl,0,none⟩) hnl (λh=>h)).trans hx;have f8:=(ht2.cell (p:=⟨nr,0,none⟩) hnr (λh=>h)).trans hy;have hz:=ht2.size;have g4:=keep7 rR (.string ⟨#[78]⟩) (.string ⟨#[]⟩) (.int .u64 0) (.int .u8 0) (.int .i64 (b:Int)) (.string x) (.string y) (by omega) (by omega) f4;have g5:=keep7 rR (.string ⟨#[78]⟩) (.string ⟨#[]⟩) (.int .u64 0) (.int .u8 0) (.int .i64 (b:Int)) (.string x) (.string y) (by omega) (by omega) f5;have g6:=keep7 rR (.string ⟨#[78]⟩) (.string ⟨#[]⟩) (.int .u64 0) (.int .u8 0) (.int .i64 (b:Int)) (.string x) (.string y) (by omega) (by omega) f6;have g7:=keep7 rR (.string ⟨#[78]⟩) (.string ⟨#[]⟩) (.int .u64 0) (.int .u8 0) (.int .i64 (b:Int)) (.string x) (.string y) (by omega) (by omega) f7;have g8:=keep7 rR (.string ⟨#[78]⟩) (.string ⟨#[]⟩) (.int .u64 0) (.int .u8 0) (.int .i64 (b:Int)) (.string x) (.string y) (by omega) (by omega) f8;have RR:Hid (_=_):=rR;have HT1:Hid (Tch _ _ _):=ht2;clear ht1 ht2 rR))
 all_goals
  go_wp2
  rw [set7 _ _ _ _ _ _ _ _ _ _ _ _ _ _ _ _ _ RR.out]
  exact bodyPost_ret (v:=.agg #[.string ⟨#[78]⟩,.string ⟨#[]⟩,.int .u64 0,.int .u8 0,.int .i64 (b:Int),.string x,.string y]) (results_cell_row Tryz.results353 _ _ w.heap.size _ _ (0,0) _ rfl (setRow_heap _ _ _ _ _ _ RR.out) Tryz.underlying281 rfl (by kernel_rfl)) rfl ⟨rfl,HT1.out.trans (Tch.setRow _ w.heap.size _) (λj hj=>.inr (by omega))⟩
end Go.Proofs.YtighkdnooglfjaaGreatDoor
namespace Go.Proofs.YtighkdnooglfjaaGreatDoor
open Go.RowKit

theorem set7_0 (w:World) (g:Nat) (t:TypeId) (a b c d e f h v0:Value) (hr:w.heap[g]? =some (.cells #[a,b,c,d,e,f,h] t (0,0))):
  (w.setCell ⟨g,0,none⟩ v0).heap[g]? =some (.cells #[v0,b,c,d,e,f,h] t (0,0))/\Tch (λk=>k=g) w (w.setCell ⟨g,0,none⟩ v0):=by
 rw [setCell_eq_setRow w g 0 _ t (0,0) v0 hr]
 refine ⟨?_,Tch.setRow _ _ _⟩
 rw [setRow_heap _ _ _ _ _ _ hr]
 rfl
set_option maxRecDepth 100000 in
set_option maxHeartbeats 1000000 in
theorem digested_any (E:Nat->Addr) (width:Nat) (hw1:1<=width) (hw:width<=32) (c1 c2 c3 c4 c5 c6:Value) (nd:NodeL) (ho:nd.2.2.1.2<256) (txt:List UInt8) (hl:txt.length<=1000) (w:World) (hE:Env E w)
  (hc:∃(k:ByteArray) (a o b:Int) (l r:Option Addr),c1=.string k/\c2=.int .u64 a/\c3=.int .u8 o/\c4=.int .i64 b/\c5=.pointer l/\c6=.pointer r)
  (hpl:∀W,Tch (λ_=>False) w W->W.heap[w.heap.size]? =some (.cells #[.string ⟨#[]⟩,c1,c2,c3,c4,c5,c6] 243)->Calls Tryz.prog 353 #[.pointer (some ⟨w.heap.size,0,none⟩)] W λe w'=>e=.returned (.agg (nodeC nd))/\Tch (λ_=>False) W w')
  (htx:stOut (stNode width nd (some (.wr []))).2=some txt):
  Calls Tryz.prog 331 #[.int .i64 (width:Int),.agg #[.string ⟨#[]⟩,c1,c2,c3,c4,c5,c6]] w λe w'=>e=.returned (.tuple #[.pointer (some ⟨w.heap.size,0,none⟩),.nilIface])/\w'.heap[w.heap.size]? =some (.cells #[.string (dgW width txt),c1,c2,c3,c4,c5,c6] 243)/\Tch (λ_=>False) w w':=by
 obtain ⟨k,a,o,b,l,r,rfl,rfl,rfl,rfl,rfl,rfl⟩:=hc
 have HP:Hid (∀W,_):=hpl
 have HE:Hid (Env E w):=hE
 have HTX:Hid (_=_):=htx
 clear hpl hE htx
 obtain ⟨nl,nk,⟨na,no⟩,nb,nx,ny⟩:=nd
 dsimp only at ho
 have HV:Hid (nodeC (nl,nk,(na,no),nb,nx,ny)= #[.string nl,.string nk,.int .u64 (na:Int),.int .u8 (no:Int),.int .i64 nb,.string nx,.string ny]):=rfl
 go_enter Tryz.func331,Tryz.ntmps331
 go_wp2_with fail
 refine (HP.out _ (Tch.alloc _ _ _) (heap_alloc_new _ _)).mono ?_
 rw [HV.out]
 rintro _ w1 ⟨rfl,ht1⟩
 have tA:Tch (λ_=>False) w w1:=(Tch.alloc (λ_=>False) w _).trans ht1 noE
 have r1:w1.heap[w.heap.size]? =some (.cells #[.string ⟨#[]⟩,.string k,.int .u64 a,.int .u8 o,.int .i64 b,.pointer l,.pointer r] 243):=(ht1.block _ (by simp) (λh=>h)).trans (heap_alloc_new _ _)
 have HT:Hid (Calls Tryz.prog 154 _ w1 _):=nodeText_any E width (by omega) (nl,nk,(na,no),nb,nx,ny) ho w1 (HE.out.tch tA noE)
 rw [HV.out,HTX.out] at HT
 have R1:Hid (_=_):=r1
 have TA:Hid (Tch _ _ _):=tA
 clear ht1 tA r1 HP
 go_wp2_with fail
 refine HT.out.mono ?_
 rintro _ w2 ⟨ht2,rfl⟩
 have tB:Tch (λ_=>False) w w2:=TA.out.trans ht2 noE
 have r2:w2.heap[w.heap.size]? =some (.cells #[.string ⟨#[]⟩,.string k,.int .u64 a,.int .u8 o,.int .i64 b,.pointer l,.pointer r] 243):=(ht2.block _ (row_lt R1.out) (λh=>h)).trans R1.out
 have HOF:Hid (∀W,Tch (λ_=>False) w2 W->Calls Tryz.prog 130 _ W _):=λW hT=>of_env E width ⟨txt.toArray⟩ W ((HE.out.tch tB noE).tch hT noE) hw1 hw (by rw [str_size];omega)
 have R2:Hid (_=_):=r2
 have TB:Hid (Tch _ _ _):=tB
 clear ht2 tB r2 HT
 generalize hTX:(⟨txt.toArray⟩:ByteArray)=tb at *
 have HTB:Hid (_=tb):=hTX
 clear hTX
 go_wp2_with fail
 refine (HOF.out w2 (Tch.refl _ _)).mono ?_
 rintro _ w3 ⟨rfl,ht3⟩
 have r3:w3.heap[w.heap.size]? =some (.cells #[.string ⟨#[]⟩,.string k,.int .u64 a,.int .u8 o,.int .i64 b,.pointer l,.pointer r] 243):=(ht3.block _ (row_lt R2.out) (λh=>h)).trans R2.out
 have e0:w3.cell? ⟨w.heap.size,0,none⟩=some (.string ⟨#[]⟩):=cell_row r3
 have f0:w3.frozen? ⟨w.heap.size,0,none⟩=false:=frozen_of_row _ _ _ _ _ r3
 obtain ⟨q1,q2⟩:=set7_0 w3 w.heap.size _ _ _ _ _ _ _ _ (.string (dgW width tb.data.toList)) r3
 have Q1:Hid (_=_):=q1
 have Q2:Hid (Tch _ _ _):=q2
 have TC:Hid (Tch (λ_=>False) w w3):=TB.out.trans ht3 noE
 have HDL:Hid (tb.data.toList=txt):=by
  show _=_
  rw [<-HTB.out]
 clear r3 q1 q2 ht3 HOF
 go_wp2
 go_ret2
 refine ⟨rfl,?_,TC.out.trans Q2.out (λj hj=>.inr (by omega))⟩
 rw [<-HDL.out]
 exact Q1.out
theorem digested_leaf (E:Nat->Addr) (width:Nat) (hw1:1<=width) (hw:width<=32) (k:Key) (o:Nat×Nat) (hk:TrOk width (.leaf k o)) (w:World) (hE:Env E w):
  Calls Tryz.prog 331 #[.int .i64 (width:Int),.agg (leafC ⟨#[]⟩ k o)] w λe w'=>e=.returned (.tuple #[.pointer (some ⟨w.heap.size,0,none⟩),.nilIface])/\w'.heap[w.heap.size]? =some (.cells (leafC (Tr.dig (dgW width) (.leaf k o)) k o) 243)/\Tch (λ_=>False) w w':=by
 have h1:=hk.1
 have h2:=hk.2.2.2
 exact digested_any E width hw1 hw _ _ _ _ _ _ (⟨#[76]⟩,⟨k.toArray⟩,o,0,⟨#[]⟩,⟨#[]⟩) h2 (76 :: (k++outB o)) (by simp [outB,beL_length];omega) w hE ⟨_,_,_,_,_,_,rfl,rfl,rfl,rfl,rfl,rfl⟩ (λW _ hr=>plain_leaf w.heap.size ⟨#[]⟩ k o W hr) (leaf_text width k o hk)
theorem digested_br (E:Nat->Addr) (width:Nat) (hw1:1<=width) (hw:width<=32) (b nl nr:Nat) (l r:Tr) (F:Nat->Prop) (hb:b<8 * (width+1)) (w:World) (hE:Env E w) (hl:NodeAt (dgW width) F w nl l) (hr:NodeAt (dgW width) F w nr r):
  Calls Tryz.prog 331 #[.int .i64 (width:Int),.agg (brC ⟨#[]⟩ b nl nr)] w λe w'=>e=.returned (.tuple #[.pointer (some ⟨w.heap.size,0,none⟩),.nilIface])/\w'.heap[w.heap.size]? =some (.cells (brC (Tr.dig (dgW width) (.br b l r)) b nl nr) 243)/\Tch (λ_=>False) w w':=by
 have s1:(l.dig (dgW width)).size=width:=by cases l <;> exact dgW_size width hw _
 have s2:(r.dig (dgW width)).size=width:=by cases r <;> exact dgW_size width hw _
 have n1:(l.dig (dgW width)).data.toList.length=width:=by simpa using s1
 have n2:(r.dig (dgW width)).data.toList.length=width:=by simpa using s2
 exact digested_any E width hw1 hw _ _ _ _ _ _ (⟨#[78]⟩,⟨#[]⟩,(0,0),(b:Int),l.dig (dgW width),r.dig (dgW width)) (by show 0<256;decide) (78 :: (beL b 2 2++((l.dig (dgW width)).data.toList++(r.dig (dgW width)).data.toList))) (by rw [List.length_cons,List.length_append,List.length_append,n1,n2,beL_length];omega) w hE ⟨_,_,_,_,_,_,rfl,rfl,rfl,rfl,rfl,rfl⟩
  (λW hT hrow=>plain_br w.heap.size ⟨#[]⟩ b nl nr _ _ W hrow ((hT.cell (p:=⟨nl,0,none⟩) hl.own.2 (λh=>h)).trans hl.digCell) ((hT.cell (p:=⟨nr,0,none⟩) hr.own.2 (λh=>h)).trans hr.digCell) (Nat.lt_of_lt_of_le hl.own.2 hT.size) (Nat.lt_of_lt_of_le hr.own.2 hT.size))
  (br_text width b _ _ (by omega) hb s1 s2)
set_option maxRecDepth 100000 in
set_option maxHeartbeats 400000 in
theorem newLeaf_any (E:Nat->Addr) (width:Nat) (hw1:1<=width) (hw:width<=32) (k:Key) (o:Nat×Nat) (hk:TrOk width (.leaf k o)) (w:World) (hE:Env E w):
  Calls Tryz.prog 268 #[.int .i64 (width:Int),.string ⟨k.toArray⟩,.agg #[.int .u64 (o.1:Int),.int .u8 (o.2:Int)]] w λe w'=>∃n,e=.returned (.tuple #[.pointer (some ⟨n,0,none⟩),.nilIface])/\w.heap.size<=n/\w'.heap[n]? =some (.cells (leafC (Tr.dig (dgW width) (.leaf k o)) k o) 243)/\Tch (λ_=>False) w w':=by
 obtain ⟨oa,oo⟩:=o
 have HD:Hid (∀W,Tch (λ_=>False) w W->_):=λW (hT:Tch (λ_=>False) w W)=>digested_leaf E width hw1 hw k (oa,oo) hk W (hE.tch hT noE)
 have HV:Hid (leafC ⟨#[]⟩ k (oa,oo)= #[.string ⟨#[]⟩,.string ⟨k.toArray⟩,.int .u64 (oa:Int),.int .u8 (oo:Int),.int .i64 0,.pointer none,.pointer none]):=rfl
 rw [HV.out] at HD
 clear hE
 generalize (⟨k.toArray⟩:ByteArray)=kb at *
 dsimp only
 go_enter Tryz.func268,Tryz.ntmps268
 go_wp2_with fail
 refine (HD.out _ (Tch.alloc _ _ _)).mono ?_
 rintro _ w1 ⟨rfl,hr,ht⟩
 have hz:w.heap.size<=(w.alloc (.cells #[.int .u64 (oa:Int),.int .u8 (oo:Int)] 80)).heap.size:=by simp
 have HR:Hid (_=_):=hr
 have HT:Hid (Tch (λ_=>False) w w1):=(Tch.alloc (λ_=>False) w _).trans ht noE
 clear hr ht HD
 generalize (w.alloc (.cells #[.int .u64 (oa:Int),.int .u8 (oo:Int)] 80)).heap.size=n at *
 go_wp2
 go_ret2
 exact ⟨n,rfl,hz,HR.out,HT.out⟩
set_option maxRecDepth 100000 in
set_option maxHeartbeats 400000 in
theorem newBranch_any (E:Nat->Addr) (width:Nat) (hw1:1<=width) (hw:width<=32) (b nl nr:Nat) (l r:Tr) (F:Nat->Prop) (hb:b<8 * (width+1)) (w:World) (hE:Env E w) (hl:NodeAt (dgW width) F w nl l) (hr:NodeAt (dgW width) F w nr r):
  Calls Tryz.prog 332 #[.int .i64 (width:Int),.int .i64 (b:Int),.agg #[.pointer (some ⟨nl,0,none⟩),.pointer (some ⟨nr,0,none⟩)]] w λe w'=>∃n,e=.returned (.tuple #[.pointer (some ⟨n,0,none⟩),.nilIface])/\w.heap.size<=n/\w'.heap[n]? =some (.cells (brC (Tr.dig (dgW width) (.br b l r)) b nl nr) 243)/\Tch (λ_=>False) w w':=by
 have HD:Hid (∀W,Tch (λ_=>False) w W->_):=λW (hT:Tch (λ_=>False) w W)=>digested_br E width hw1 hw b nl nr l r F hb W (hE.tch hT noE) (hl.next hT) (hr.next hT)
 have HV:Hid (brC ⟨#[]⟩ b nl nr= #[.string ⟨#[]⟩,.string ⟨#[]⟩,.int .u64 0,.int .u8 0,.int .i64 (b:Int),.pointer (some ⟨nl,0,none⟩),.pointer (some ⟨nr,0,none⟩)]):=rfl
 rw [HV.out] at HD
 clear hE hl hr
 go_enter Tryz.func332,Tryz.ntmps332
 go_wp2_with fail
 refine (HD.out _ (Tch.alloc _ _ _)).mono ?_
 rintro _ w1 ⟨rfl,hr,ht⟩
 have hz:w.heap.size<=(w.alloc (.cells #[.pointer (some ⟨nl,0,none⟩),.pointer (some ⟨nr,0,none⟩)] 241)).heap.size:=by simp
 have HR:Hid (_=_):=hr
 have HT:Hid (Tch (λ_=>False) w w1):=(Tch.alloc (λ_=>False) w _).trans ht noE
 clear hr ht HD
 generalize (w.alloc (.cells #[.pointer (some ⟨nl,0,none⟩),.pointer (some ⟨nr,0,none⟩)] 241)).heap.size=n at *
 go_wp2
 go_ret2
 exact ⟨n,rfl,hz,HR.out,HT.out⟩
end Go.Proofs.YtighkdnooglfjaaGreatDoor
