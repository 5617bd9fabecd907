import Derived.Test.YtighkdnooglfjaaGreatDoorBxWNode
import Derived.Test.YtighkdnooglfjaaGreatDoorBxPBook
namespace Go.Proofs.YtighkdnooglfjaaGreatDoor
open Tryz
set_option maxRecDepth 100000
set_option maxHeartbeats 1000000
open Go.RowKit

theorem Jet {k:IntKind} {a b:Int} (h:a=b):Ending.returned (.int k a)=.returned (.int k b):=by rw [h]
theorem bget (t:BA) (m:Nat) (h:m<t.size):t[m]=t.data.getD m 0:=by
 have h':m<t.data.size:=h
 simp only [Array.getD]
 rw [dif_pos h']
 rfl
theorem Jkk (n:Nat) (h:n<256):bits .and .i64 (n:Int) 1=((n % 2:Nat):Int):=by
 have:∀m:Fin 256,bits .and .i64 ((m.val:Nat):Int) 1=((m.val % 2:Nat):Int):=by decide +kernel
 exact this ⟨n,h⟩
theorem YQ (k:List UInt8) (i:Nat) (hi:i<8 * k.length) (hl:k.length<=1000000) (w:World):
  Calls prog 288 #[.string ⟨k.toArray⟩,.int .i64 (i:Int)] w λe w'=>e=.returned (.int .i64 (bt k i:Int))/\w'=w:=by
 have hsz:(⟨k.toArray⟩:BA).size=k.length:=Jk k
 have hix:i / 8<(⟨k.toArray⟩:BA).size:=by omega
 have HB:Hid ((⟨k.toArray⟩:BA)[i / 8].toNat=(k.getD (i / 8) 0).toNat):=by
  show UInt8.toNat _=_
  congr 1
  simp [List.getD_eq_getElem?_getD,show i / 8<k.length by omega]
  rfl
 have hlt:=UInt8.toNat_lt (⟨k.toArray⟩:BA)[i / 8]
 have HBT:Hid (bt k i=(k.getD (i / 8) 0).toNat / 2 ^ (7 - i % 8) % 2):=rfl
 clear hsz
 generalize (⟨k.toArray⟩:BA)=tb at *
 have hq:((i:Int) / 8).toNat=i / 8:=by omega
 go_enter func288,ntmps288
 go_wp2
 go_ret
 refine ⟨Jet ?_,rfl⟩
 have e1:((tb[i / 8].toNat:Int) / 2 ^ (7 - i % 8))=((tb[i / 8].toNat / 2 ^ (7 - i % 8):Nat):Int):=by simp
 have hle:tb[i / 8].toNat / 2 ^ (7 - i % 8)<=tb[i / 8].toNat:=Nat.div_le_self _ _
 rw [e1]
 have e2:wrap64 ((tb[i / 8].toNat / 2 ^ (7 - i % 8):Nat):Int)=((tb[i / 8].toNat / 2 ^ (7 - i % 8):Nat):Int):=by
  have h0:(0:Int)<=((tb[i / 8].toNat / 2 ^ (7 - i % 8):Nat):Int):=Int.natCast_nonneg _
  have h1:((tb[i / 8].toNat / 2 ^ (7 - i % 8):Nat):Int)<256:=by omega
  generalize ((tb[i / 8].toNat / 2 ^ (7 - i % 8):Nat):Int)=z at *
  unfold wrap64
  omega
 rw [e2,Jkk _ (by omega),HBT.o,HB.o]
theorem JlZ (x:UInt8) (w:World):
  Calls prog 334 #[.int .u8 (x.toNat:Int)] w λe w'=>e=.returned (.int .i64 (lz8 x:Int))/\w'=w:=by
 have h:=UInt8.toNat_lt x
 obtain ⟨n,hn⟩:∃n,n=x.toNat:=⟨_,rfl⟩
 have hx:x=UInt8.ofNat n:=by rw [hn];simp
 have HX:Hid _:=hx
 rw [<-hn] at h ⊢
 clear hn hx
 go_enter func334,ntmps334
 go_wp2
 go_ret
 refine ⟨Jet ?_,rfl⟩
 rw [HX.o,bget]
 have h':n<256:=h
 clear HX h
 rename_i hz
 clear hz
 revert n
 decide +kernel

theorem JlX (x:UInt8):lz8 x<=8:=by
 unfold lz8
 repeat (first | omega | split)
theorem Jkw:∀(k:Nat) (a b:List UInt8),a.take k=b.take k->k<=a.length->a.length=b.length->fd a b=8 * k+fd (a.drop k) (b.drop k):=by
 intro k
 induction k with
 | zero=>intro a b _ _ _;simp
 | succ k ih=>
  intro a b h hl hab
  cases a with
  | nil=>simp at hl
  | cons x a=>cases b with
   | nil=>simp at hab
   | cons y b=>
    simp only [List.take_succ_cons,QH] at h
    obtain ⟨rfl,h⟩:=h
    simp only [fd,if_true,List.drop_succ_cons]
    rw [ih a b h (by simpa using hl) (by simpa using hab)]
    omega
theorem Jmy (k:Nat) (a b:List UInt8) (ha:k<a.length) (hb:k<b.length) (h:a[k] ≠ b[k]):fd (a.drop k) (b.drop k)=lz8 (a[k] ^^^ b[k]):=by
 rw [List.drop_eq_getElem_cons ha,List.drop_eq_getElem_cons hb]
 simp only [fd,h,if_false]
theorem Jhu (a b:List UInt8) (hl:a.length=b.length) (hne:a ≠ b) (h1:a.length<=1000000) (w:World):
  Calls Tryz.prog 271 #[.string ⟨a.toArray⟩,.string ⟨b.toArray⟩] w λe w'=>e=.returned (.int .i64 (fd a b:Int))/\∃n,w'=w.drewN n:=by
 have hsa:(⟨a.toArray⟩:BA).size=a.length:=Jk a
 have hsb:(⟨b.toArray⟩:BA).size=b.length:=Jk b
 have HA:Hid (∀k (h:k<(⟨a.toArray⟩:BA).size) (h':k<a.length),(⟨a.toArray⟩:BA)[k]'h=a[k]'h'):=λk h h'=>by show (⟨a.toArray⟩:BA).data[k]=_;simp
 have HB:Hid (∀k (h:k<(⟨b.toArray⟩:BA).size) (h':k<b.length),(⟨b.toArray⟩:BA)[k]'h=b[k]'h'):=λk h h'=>by show (⟨b.toArray⟩:BA).data[k]=_;simp
 have HL:Hid _:=hl
 clear hl
 generalize (⟨a.toArray⟩:BA)=A at *
 generalize (⟨b.toArray⟩:BA)=B at *
 have HSA:Hid _:=hsa
 have HSB:Hid _:=hsb
 clear hsa hsb
 go_enter Tryz.func271,Tryz.ntmps271
 go_wp2
 go_loopw [5] (λi wr=>∃k:Nat,i=.int .i64 (k:Int)/\k<a.length/\Hid (a.take k=b.take k)/\∃n,wr=w.drewN n) (λi _=>a.length - (intOf i).toNat)
 case atStart=>
  refine ⟨0,rfl,?_,(by show _=_;simp),0,rfl⟩
  cases a with
  | nil=>have:=HL.o;simp at this;exact absurd (List.length_eq_zero_iff.1 this.symm).symm hne
  | cons x a=>simp
 case round=>
  obtain ⟨k,rfl,hk,htk,n,rfl⟩:=hrel
  have hka:k<A.size:=by rw [HSA.o];exact hk
  have hkb:k<B.size:=by rw [HSB.o,<-HL.o];exact hk
  have hkb':k<b.length:=by rw [<-HL.o];exact hk
  have eA:=HA.o k hka hk
  have eB:=HB.o k hkb hkb'
  by_cases heq:A[k]=B[k]
  ·have hb:((A[k].toNat:Int) == (B[k].toNat:Int))=true:=by rw [heq];simp
   have HEQ:Hid (a[k]=b[k]'hkb'):=by show _=_;rw [<-eA,<-eB,heq]
   clear heq eA eB
   go_wp2
   go_region
   go_wp2
   have htk1:a.take (k+1)=b.take (k+1):=by
    rw [QR hk,QR hkb',htk.out,HEQ.o]
   refine ⟨⟨k+1,by go_num,?_,htk1,n+1,rfl⟩,by simp [intOf];omega⟩
   by_cases hl:k+1<a.length
   ·exact hl
   ·exfalso
    rw [QS (by omega),QS (by have:=HL.o;omega)] at htk1
    exact hne htk1
  ·have hb:((A[k].toNat:Int) == (B[k].toNat:Int))=false:=by
    rw [beq_eq_false_iff_ne]
    intro e
    exact heq (UInt8.toNat_inj.1 (by omega))
   have HR:Hid (fd a b=8 * k+lz8 (A[k] ^^^ B[k])):=by
    show _=_
    rw [Jkw k a b htk.out (by omega) HL.o,Jmy k a b hk hkb' (by rw [<-eA,<-eB];exact heq),eA,eB]
   have hx:bits .xor .u8 (A[k].toNat:Int) (B[k].toNat:Int)=((A[k] ^^^ B[k]).toNat:Int):=by
    rw [u8_xor_nat _ _ (UInt8.toNat_lt _) (UInt8.toNat_lt _),UInt8.toNat_xor]
   have hlz:=JlZ (A[k] ^^^ B[k])
   rw [<-hx] at hlz
   have hl8:=JlX (A[k] ^^^ B[k])
   have hw8:IntKind.i64.wrap (8 * (k:Int))=8 * (k:Int):=by simp [IntKind.wrap,IntKind.bits,IntKind.signed];omega
   have hws:IntKind.i64.wrap (8 * (k:Int)+(lz8 (A[k] ^^^ B[k]):Int))=8 * (k:Int)+(lz8 (A[k] ^^^ B[k]):Int):=by simp [IntKind.wrap,IntKind.bits,IntKind.signed];omega
   clear hx
   clear heq eA eB
   go_wp2
   go_region
   go_wp2
   go_region_with (go_at_call 334;refine (hlz _).mono ?_;rintro _ _ ⟨rfl,rfl⟩)
   all_goals go_wp2
   all_goals go_ret
   all_goals exact ⟨Jet (by rw [HR.o];go_num),n+2,rfl⟩

def ZO (dg:BA) (k:Key) (o:Nat×Nat):Array Value:= #[.string dg,.string ⟨k.toArray⟩,.int .u64 (o.1:Int),.int .u8 (o.2:Int),.int .i64 0,.pointer none,.pointer none]
def brC (dg:BA) (b nl nr:Nat):Array Value:= #[.string dg,.string ⟨#[]⟩,.int .u64 0,.int .u8 0,.int .i64 (b:Int),.pointer (some ⟨nl,0,none⟩),.pointer (some ⟨nr,0,none⟩)]
inductive Jf (d:List UInt8->BA) (F:Nat->Prop) (w:World):Nat->Tr->Prop where
 | leaf (n:Nat) (k:Key) (o:Nat×Nat):F n->w.heap[n]? =some (.cells (ZO (Tr.dig d (.leaf k o)) k o) 243)->Jf d F w n (.leaf k o)
 | br (n b nl nr:Nat) (l r:Tr):F n->w.heap[n]? =some (.cells (brC (Tr.dig d (.br b l r)) b nl nr) 243)->Jf d F w nl l->Jf d F w nr r->Jf d F w n (.br b l r)
theorem Jf.tch {d:List UInt8->BA} {F:Nat->Prop} {w w':World} {n:Nat} {t:Tr} {S:Nat->Prop} (h:Jf d F w n t) (k:Tch S w w') (hs:∀j,S j->¬F j):Jf d F w' n t:=by
 induction h with
 | leaf n key o hF hr=>exact .leaf n key o hF ((k.block n (Jb hr) (λe=>hs n e hF)).trans hr)
 | br n b nl nr l r hF hr _ _ ihl ihr=>exact .br n b nl nr l r hF ((k.block n (Jb hr) (λe=>hs n e hF)).trans hr) ihl ihr
theorem Jf.next {d:List UInt8->BA} {F:Nat->Prop} {w w':World} {n:Nat} {t:Tr} (h:Jf d F w n t) (k:Tch NoB w w'):Jf d F w' n t:=h.tch k noE
theorem Jf.mono {d:List UInt8->BA} {F F':Nat->Prop} {w:World} {n:Nat} {t:Tr} (h:Jf d F w n t) (hF:∀j,F j->F' j):Jf d F' w n t:=by
 induction h with
 | leaf n key o h1 hr=>exact .leaf n key o (hF n h1) hr
 | br n b nl nr l r h1 hr _ _ ihl ihr=>exact .br n b nl nr l r (hF n h1) hr ihl ihr
theorem Jf.own {d:List UInt8->BA} {F:Nat->Prop} {w:World} {n:Nat} {t:Tr} (h:Jf d F w n t):F n/\n<w.heap.size:=by
 cases h with
 | leaf _ _ _ h1 hr=>exact ⟨h1,(Jb hr)⟩
 | br _ _ _ _ _ _ h1 hr=>exact ⟨h1,(Jb hr)⟩
theorem Jf.digCell {d:List UInt8->BA} {F:Nat->Prop} {w:World} {n:Nat} {t:Tr} (h:Jf d F w n t):w.cell? ⟨n,0,none⟩=some (.string (t.dig d)):=by
 cases h with
 | leaf _ _ _ h1 hr=>exact Ja hr
 | br _ _ _ _ _ _ h1 hr=>exact Ja hr
def TrOk (wj:Nat):Tr->Prop
 | .leaf k o=>k.length=wj+1/\(k.getD wj 0).toNat<3/\JC o
 | .br b l r=>b<8 * (wj+1)/\TrOk wj l/\TrOk wj r
theorem Jfy (wj:Nat) (l k:BA) (o:Nat×Nat) (b:Int) (x y:BA) (st s1:Option PS) (h:Jj l.data.toList 1 st=([76],s1)):(XO wj (l,k,o,b,x,y) st).2=(XH wj k o s1).2:=by
 unfold XO
 simp [h]
theorem Jh7 (wj:Nat) (l k:BA) (o:Nat×Nat) (b:Int) (x y:BA) (st s1:Option PS) (h:Jj l.data.toList 1 st=([78],s1)):(XO wj (l,k,o,b,x,y) st).2=(stBr wj b x y s1).2:=by
 unfold XO
 simp [h]
theorem JhA (wj:Nat) (k:Key) (o:Nat×Nat) (h:TrOk wj (.leaf k o)):ZH (XO wj (⟨#[76]⟩,⟨k.toArray⟩,o,0,⟨#[]⟩,⟨#[]⟩) (some (.wr []))).2=some (76 :: (k++outB o)):=by
 obtain ⟨h1,h2,h3⟩:=h
 have e1:Jj [76] 1 (some (.wr []))=([76],some (.wr [76])):=JW rfl
 have e2:(PS.wr [76]).txt k (wj+1)=some (k,.wr ([76]++k)):=by simp only [PS.txt];rw [if_pos h1]
 have e3:Zn wj k (some (.wr [76]))=(k,some (.wr ([76]++k))):=by
  unfold Zn
  rw [JW e2]
  dsimp only
  rw [if_neg (by omega)]
 have e4:(PS.wr ([76]++k)).out o.1 o.2=some (o,.wr ([76]++k++outB o)):=(JjK o 0 0 h3).wr _
 obtain ⟨p1,q1,q2,_⟩:=Ja1 _ _ _ _ _ e4
 have e5:stO o (some (.wr ([76]++k)))=(o,some (.wr ([76]++k++outB o))):=by
  unfold stO
  rw [Xu q1]
  dsimp only
  rw [Xu q2]
 have e6:XH wj ⟨k.toArray⟩ o (some (.wr [76]))=((k,o),some (.wr ([76]++k++outB o))):=by
  unfold XH
  show (((Zn wj k _).1,_),_)=_
  rw [e3]
  dsimp only
  rw [e5]
 rw [Jfy wj ⟨#[76]⟩ _ _ _ _ _ _ _ e1,e6]
 simp [ZH]
theorem Jkq (wj:Nat) (b:Nat) (x y:BA) (hw:wj<=1000) (hb:b<8 * (wj+1)) (hx:x.size=wj) (hy:y.size=wj):ZH (XO wj (⟨#[78]⟩,⟨#[]⟩,(0,0),(b:Int),x,y) (some (.wr []))).2=some (78 :: (beL b 2 2++(x.data.toList++y.data.toList))):=by
 have e1:Jj [78] 1 (some (.wr []))=([78],some (.wr [78])):=JW rfl
 have ex:Jw (b:Int)=b:=by unfold Jw;omega
 have e2:(PS.wr [78]).num b 2=some (b,.wr ([78]++beL b 2 2)):=(ZV b 2 0 (by omega)).wr _
 have e3:YY wj (b:Int) (some (.wr [78]))=(b,some (.wr ([78]++beL b 2 2))):=by
  unfold YY
  rw [ex,Xu e2]
  dsimp only
  rw [if_neg (by omega)]
 have e4:(PS.wr ([78]++beL b 2 2)).txt x.data.toList wj=some (x.data.toList,.wr ([78]++beL b 2 2++x.data.toList)):=(JbB x.data.toList [] wj (by rw [<-hx];simp)).wr _
 have e5:(PS.wr ([78]++beL b 2 2++x.data.toList)).txt y.data.toList wj=some (y.data.toList,.wr ([78]++beL b 2 2++x.data.toList++y.data.toList)):=(JbB y.data.toList [] wj (by rw [<-hy];simp)).wr _
 have e6:(stBr wj (b:Int) x y (some (.wr [78]))).2=some (.wr ([78]++beL b 2 2++x.data.toList++y.data.toList)):=by
  unfold stBr
  rw [e3]
  dsimp only
  rw [JW e4]
  dsimp only
  rw [JW e5]
 rw [Jh7 wj ⟨#[78]⟩ _ _ _ _ _ _ _ e1,e6]
 simp [ZH]
theorem resN {w w1:World} (h:Tch NoB (w.alloc (.cells #[.string ⟨#[]⟩,.string ⟨#[]⟩,.int .u64 0,.int .u8 0,.int .i64 0,.string ⟨#[]⟩,.string ⟨#[]⟩] 281)).drew w1):
  w1.heap[w.heap.size]? =some (.cells #[.string ⟨#[]⟩,.string ⟨#[]⟩,.int .u64 0,.int .u8 0,.int .i64 0,.string ⟨#[]⟩,.string ⟨#[]⟩] 281)/\w1.cell? ⟨w.heap.size,0,none⟩=some (.string ⟨#[]⟩)/\w1.cell? ⟨w.heap.size,1,none⟩=some (.string ⟨#[]⟩)/\w1.cell? ⟨w.heap.size,2,none⟩=some (.int .u64 0)/\w1.cell? ⟨w.heap.size,3,none⟩=some (.int .u8 0)/\w1.cell? ⟨w.heap.size,4,none⟩=some (.int .i64 0)/\w1.cell? ⟨w.heap.size,5,none⟩=some (.string ⟨#[]⟩)/\w1.cell? ⟨w.heap.size,6,none⟩=some (.string ⟨#[]⟩)/\(∀j,w1.frozen? ⟨w.heap.size,j,none⟩=false)/\Tch NoB w w1:=by
 have r:w1.heap[w.heap.size]? =some (.cells #[.string ⟨#[]⟩,.string ⟨#[]⟩,.int .u64 0,.int .u8 0,.int .i64 0,.string ⟨#[]⟩,.string ⟨#[]⟩] 281):=(h.block _ (by show _<(w.alloc _).heap.size;simp) (λh=>h)).trans (Qf _ _)
 exact ⟨r,Ja r,Ja r,Ja r,Ja r,Ja r,Ja r,Ja r,λj=>Qg _ _ _ _ _ r,((Ta NoB w _).trans (Td _ _ 1) (λ_ h=>.inl h)).trans h noE⟩
theorem Jga (n:Nat) (dg:BA) (k:Key) (o:Nat×Nat) (w:World) (h:w.heap[n]? =some (.cells (ZO dg k o) 243)):
  Calls prog 353 #[.pointer (some ⟨n,0,none⟩)] w λe w'=>e=.returned (.agg (ZG (⟨#[76]⟩,⟨k.toArray⟩,o,0,⟨#[]⟩,⟨#[]⟩)))/\Tch NoB w w':=by
 obtain ⟨oa,oo⟩:=o
 have c1:w.cell? ⟨n,1,none⟩=some (.string ⟨k.toArray⟩):=Ja h
 have c2:w.cell? ⟨n,2,none⟩=some (.int .u64 (oa:Int)):=Ja h
 have c3:w.cell? ⟨n,3,none⟩=some (.int .u8 (oo:Int)):=Ja h
 have c5:w.cell? ⟨n,5,none⟩=some (.pointer none):=Ja h
 have hlt:n<w.heap.size:=(Jb h)
 clear h
 generalize (⟨k.toArray⟩:BA)=kb at *
 have HV:Hid (ZG (⟨#[76]⟩,kb,(oa,oo),0,⟨#[]⟩,⟨#[]⟩)= #[.string ⟨#[76]⟩,.string kb,.int .u64 (oa:Int),.int .u8 (oo:Int),.int .i64 0,.string ⟨#[]⟩,.string ⟨#[]⟩]):=rfl
 rw [HV.o]
 go_enter func353,ntmps353
 go_wp2
 go_region_with (go_at_call 307;refine (JaU _ _ _ _).mono ?_;rintro _ w1 ⟨rfl,ht1⟩;obtain ⟨rR,e0,e1,e2,e3,e4,e5,e6,fR,ht2⟩:=resN ht1;have RR:Hid (_=_):=rR;have HT1:Hid _:=ht2;clear ht1 ht2 rR)
 all_goals
  go_wp2
  rw [set7 _ _ _ _ _ _ _ _ _ _ _ _ _ _ _ _ _ RR.out]
  exact QK (v:=.agg #[.string ⟨#[76]⟩,.string kb,.int .u64 (oa:Int),.int .u8 (oo:Int),.int .i64 0,.string ⟨#[]⟩,.string ⟨#[]⟩]) (Qq results353 _ _ w.heap.size _ _ (0,0) _ rfl (Qi _ _ _ _ _ _ RR.out) underlying281 rfl (by kernel_rfl)) rfl ⟨rfl,HT1.o.trans (Ts _ w.heap.size _) (λj hj=>.inr (by omega))⟩
theorem Je6 {w:World} {g:Nat} {t:TypeId} {a b c d e f h:Value} (hr:w.heap[g]? =some (.cells #[a,b,c,d,e,f,h] t (0,0))) (v0 v1 v2 v3 v4 v5 v6:Value) {n o:Nat} (hn:n<w.heap.size) (hne:n ≠ g) {v:Value} (hc:w.cell? ⟨n,o,none⟩=some v):
  (((((((w.setCell ⟨g,0,none⟩ v0).setCell ⟨g,1,none⟩ v1).setCell ⟨g,2,none⟩ v2).setCell ⟨g,3,none⟩ v3).setCell ⟨g,4,none⟩ v4).setCell ⟨g,5,none⟩ v5).setCell ⟨g,6,none⟩ v6).cell? ⟨n,o,none⟩=some v:=by
 rw [set7 w g t a b c d e f h v0 v1 v2 v3 v4 v5 v6 hr]
 exact ((Ts w g _).cell (p:=⟨n,o,none⟩) hn hne).trans hc
theorem Jjp (n:Nat) (dg:BA) (b nl nr:Nat) (x y:BA) (w:World) (h:w.heap[n]? =some (.cells (brC dg b nl nr) 243)) (hx:w.cell? ⟨nl,0,none⟩=some (.string x)) (hy:w.cell? ⟨nr,0,none⟩=some (.string y)) (hnl:nl<w.heap.size) (hnr:nr<w.heap.size):
  Calls prog 353 #[.pointer (some ⟨n,0,none⟩)] w λe w'=>e=.returned (.agg (ZG (⟨#[78]⟩,⟨#[]⟩,(0,0),(b:Int),x,y)))/\Tch NoB w w':=by
 have c4:w.cell? ⟨n,4,none⟩=some (.int .i64 (b:Int)):=Ja h
 have c5:w.cell? ⟨n,5,none⟩=some (.pointer (some ⟨nl,0,none⟩)):=Ja h
 have c6:w.cell? ⟨n,6,none⟩=some (.pointer (some ⟨nr,0,none⟩)):=Ja h
 have hlt:n<w.heap.size:=(Jb h)
 clear h
 have HV:Hid (ZG (⟨#[78]⟩,⟨#[]⟩,(0,0),(b:Int),x,y)= #[.string ⟨#[78]⟩,.string ⟨#[]⟩,.int .u64 0,.int .u8 0,.int .i64 (b:Int),.string x,.string y]):=rfl
 rw [HV.o]
 go_enter func353,ntmps353
 go_wp2
 go_region_held3 (λW=>W.cell? ⟨n,4,none⟩=some (.int .i64 (b:Int))/\W.cell? ⟨n,5,none⟩=some (.pointer (some ⟨nl,0,none⟩))/\W.cell? ⟨n,6,none⟩=some (.pointer (some ⟨nr,0,none⟩))/\W.cell? ⟨nl,0,none⟩=some (.string x)/\W.cell? ⟨nr,0,none⟩=some (.string y)) (go_keep) ((go_at_call 309;refine (ZI _ _ _ _).mono ?_;rintro _ w1 ⟨rfl,ht1⟩;obtain ⟨rR,e0,e1,e2,e3,e4,e5,e6,fR,ht2⟩:=resN ht1;have f4:=(ht2.cell (p:=⟨n,4,none⟩) hlt (λh=>h)).trans c4;have f5:=(ht2.cell (p:=⟨n,5,none⟩) hlt (λh=>h)).trans c5;have f6:=(ht2.cell (p:=⟨n,6,none⟩) hlt (λh=>h)).trans c6;have f7:=(ht2.cell (p:=⟨nl,0,none⟩) hnl (λh=>h)).trans hx;have f8:=(ht2.cell (p:=⟨nr,0,none⟩) hnr (λh=>h)).trans hy;have hz:=ht2.size;have g4:=Je6 rR (.string ⟨#[78]⟩) (.string ⟨#[]⟩) (.int .u64 0) (.int .u8 0) (.int .i64 (b:Int)) (.string x) (.string y) (by omega) (by omega) f4;have g5:=Je6 rR (.string ⟨#[78]⟩) (.string ⟨#[]⟩) (.int .u64 0) (.int .u8 0) (.int .i64 (b:Int)) (.string x) (.string y) (by omega) (by omega) f5;have g6:=Je6 rR (.string ⟨#[78]⟩) (.string ⟨#[]⟩) (.int .u64 0) (.int .u8 0) (.int .i64 (b:Int)) (.string x) (.string y) (by omega) (by omega) f6;have g7:=Je6 rR (.string ⟨#[78]⟩) (.string ⟨#[]⟩) (.int .u64 0) (.int .u8 0) (.int .i64 (b:Int)) (.string x) (.string y) (by omega) (by omega) f7;have g8:=Je6 rR (.string ⟨#[78]⟩) (.string ⟨#[]⟩) (.int .u64 0) (.int .u8 0) (.int .i64 (b:Int)) (.string x) (.string y) (by omega) (by omega) f8;have RR:Hid (_=_):=rR;have HT1:Hid _:=ht2;clear ht1 ht2 rR))
 all_goals
  go_wp2
  rw [set7 _ _ _ _ _ _ _ _ _ _ _ _ _ _ _ _ _ RR.out]
  exact QK (v:=.agg #[.string ⟨#[78]⟩,.string ⟨#[]⟩,.int .u64 0,.int .u8 0,.int .i64 (b:Int),.string x,.string y]) (Qq results353 _ _ w.heap.size _ _ (0,0) _ rfl (Qi _ _ _ _ _ _ RR.out) underlying281 rfl (by kernel_rfl)) rfl ⟨rfl,HT1.o.trans (Ts _ w.heap.size _) (λj hj=>.inr (by omega))⟩

theorem Jmg (w:World) (g:Nat) (t:TypeId) (a b c d e f h v0:Value) (hr:w.heap[g]? =some (.cells #[a,b,c,d,e,f,h] t (0,0))):
  (w.setCell ⟨g,0,none⟩ v0).heap[g]? =some (.cells #[v0,b,c,d,e,f,h] t (0,0))/\Tch (λk=>k=g) w (w.setCell ⟨g,0,none⟩ v0):=by
 rw [Qj w g 0 _ t (0,0) v0 hr]
 refine ⟨?_,Ts _ _ _⟩
 rw [Qi _ _ _ _ _ _ hr]
 rfl
theorem JaR (E:Nat->Addr) (wj:Nat) (hw1:1<=wj) (hw:wj<=32) (c1 c2 c3 c4 c5 c6:Value) (nd:JbH) (ho:nd.2.2.1.2<256) (txt:List UInt8) (hl:txt.length<=1000) (w:World) (hE:Env E w)
  (hc:∃(k:BA) (a o b:Int) (l r:Option Addr),c1=.string k/\c2=.int .u64 a/\c3=.int .u8 o/\c4=.int .i64 b/\c5=.pointer l/\c6=.pointer r)
  (hpl:∀W,Tch NoB w W->W.heap[w.heap.size]? =some (.cells #[.string ⟨#[]⟩,c1,c2,c3,c4,c5,c6] 243)->Calls prog 353 #[.pointer (some ⟨w.heap.size,0,none⟩)] W λe w'=>e=.returned (.agg (ZG nd))/\Tch NoB W w')
  (htx:ZH (XO wj nd (some (.wr []))).2=some txt):
  Calls prog 331 #[.int .i64 (wj:Int),.agg #[.string ⟨#[]⟩,c1,c2,c3,c4,c5,c6]] w λe w'=>e=.returned (.tuple #[.pointer (some ⟨w.heap.size,0,none⟩),.nilIface])/\w'.heap[w.heap.size]? =some (.cells #[.string (dgW wj txt),c1,c2,c3,c4,c5,c6] 243)/\Tch NoB w w':=by
 obtain ⟨k,a,o,b,l,r,rfl,rfl,rfl,rfl,rfl,rfl⟩:=hc
 have HP:Hid (∀W,_):=hpl
 have HE:Hid (Env E w):=hE
 have HTX:Hid (_=_):=htx
 clear hpl hE htx
 obtain ⟨nl,nk,⟨na,no⟩,nb,nx,ny⟩:=nd
 dsimp only at ho
 have HV:Hid (ZG (nl,nk,(na,no),nb,nx,ny)= #[.string nl,.string nk,.int .u64 (na:Int),.int .u8 (no:Int),.int .i64 nb,.string nx,.string ny]):=rfl
 go_enter func331,ntmps331
 go_wp2_with fail
 refine (HP.o _ (Ta _ _ _) (Qf _ _)).mono ?_
 rw [HV.o]
 rintro _ w1 ⟨rfl,ht1⟩
 have tA:Tch NoB w w1:=(Ta NoB w _).trans ht1 noE
 have r1:w1.heap[w.heap.size]? =some (.cells #[.string ⟨#[]⟩,.string k,.int .u64 a,.int .u8 o,.int .i64 b,.pointer l,.pointer r] 243):=(ht1.block _ (by simp) (λh=>h)).trans (Qf _ _)
 have HT:Hid (Calls prog 154 _ w1 _):=Jej E wj (by omega) (nl,nk,(na,no),nb,nx,ny) ho w1 (HE.o.tch tA noE)
 rw [HV.o,HTX.o] at HT
 have R1:Hid (_=_):=r1
 have TA:Hid _:=tA
 clear ht1 tA r1 HP
 go_wp2_with fail
 refine HT.o.mono ?_
 rintro _ w2 ⟨ht2,rfl⟩
 have tB:Tch NoB w w2:=TA.out.trans ht2 noE
 have r2:w2.heap[w.heap.size]? =some (.cells #[.string ⟨#[]⟩,.string k,.int .u64 a,.int .u8 o,.int .i64 b,.pointer l,.pointer r] 243):=(ht2.block _ (Jb R1.o) (λh=>h)).trans R1.o
 have HOF:Hid (∀W,Tch NoB w2 W->Calls prog 130 _ W _):=λW hT=>Jby E wj ⟨txt.toArray⟩ W ((HE.o.tch tB noE).tch hT noE) hw1 hw (by rw [Jk];omega)
 have R2:Hid (_=_):=r2
 have TB:Hid _:=tB
 clear ht2 tB r2 HT
 generalize hTX:(⟨txt.toArray⟩:BA)=tb at *
 have HTB:Hid (_=tb):=hTX
 clear hTX
 go_wp2_with fail
 refine (HOF.o w2 (Te _ _)).mono ?_
 rintro _ w3 ⟨rfl,ht3⟩
 have r3:w3.heap[w.heap.size]? =some (.cells #[.string ⟨#[]⟩,.string k,.int .u64 a,.int .u8 o,.int .i64 b,.pointer l,.pointer r] 243):=(ht3.block _ (Jb R2.o) (λh=>h)).trans R2.o
 have e0:w3.cell? ⟨w.heap.size,0,none⟩=some (.string ⟨#[]⟩):=Ja r3
 have f0:w3.frozen? ⟨w.heap.size,0,none⟩=false:=Qg _ _ _ _ _ r3
 obtain ⟨q1,q2⟩:=Jmg w3 w.heap.size _ _ _ _ _ _ _ _ (.string (dgW wj tb.data.toList)) r3
 have Q1:Hid (_=_):=q1
 have Q2:Hid _:=q2
 have TC:Hid (Tch NoB w w3):=TB.out.trans ht3 noE
 have HDL:Hid (tb.data.toList=txt):=by
  show _=_
  rw [<-HTB.o]
 clear r3 q1 q2 ht3 HOF
 go_wp2
 go_ret2
 refine ⟨rfl,?_,TC.out.trans Q2.out (λj hj=>.inr (by omega))⟩
 rw [<-HDL.o]
 exact Q1.out
theorem Jde (E:Nat->Addr) (wj:Nat) (hw1:1<=wj) (hw:wj<=32) (k:Key) (o:Nat×Nat) (hk:TrOk wj (.leaf k o)) (w:World) (hE:Env E w):
  Calls prog 331 #[.int .i64 (wj:Int),.agg (ZO ⟨#[]⟩ k o)] w λe w'=>e=.returned (.tuple #[.pointer (some ⟨w.heap.size,0,none⟩),.nilIface])/\w'.heap[w.heap.size]? =some (.cells (ZO (Tr.dig (dgW wj) (.leaf k o)) k o) 243)/\Tch NoB w w':=by
 have h1:=hk.1
 have h2:=hk.2.2.2
 exact JaR E wj hw1 hw _ _ _ _ _ _ (⟨#[76]⟩,⟨k.toArray⟩,o,0,⟨#[]⟩,⟨#[]⟩) h2 (76 :: (k++outB o)) (by simp [outB,Je];omega) w hE ⟨_,_,_,_,_,_,rfl,rfl,rfl,rfl,rfl,rfl⟩ (λW _ hr=>Jga w.heap.size ⟨#[]⟩ k o W hr) (JhA wj k o hk)
theorem JeU (E:Nat->Addr) (wj:Nat) (hw1:1<=wj) (hw:wj<=32) (b nl nr:Nat) (l r:Tr) (F:Nat->Prop) (hb:b<8 * (wj+1)) (w:World) (hE:Env E w) (hl:Jf (dgW wj) F w nl l) (hr:Jf (dgW wj) F w nr r):
  Calls prog 331 #[.int .i64 (wj:Int),.agg (brC ⟨#[]⟩ b nl nr)] w λe w'=>e=.returned (.tuple #[.pointer (some ⟨w.heap.size,0,none⟩),.nilIface])/\w'.heap[w.heap.size]? =some (.cells (brC (Tr.dig (dgW wj) (.br b l r)) b nl nr) 243)/\Tch NoB w w':=by
 have s1:(l.dig (dgW wj)).size=wj:=by cases l <;> exact Jq wj hw _
 have s2:(r.dig (dgW wj)).size=wj:=by cases r <;> exact Jq wj hw _
 have n1:(l.dig (dgW wj)).data.toList.length=wj:=by simpa using s1
 have n2:(r.dig (dgW wj)).data.toList.length=wj:=by simpa using s2
 exact JaR E wj hw1 hw _ _ _ _ _ _ (⟨#[78]⟩,⟨#[]⟩,(0,0),(b:Int),l.dig (dgW wj),r.dig (dgW wj)) (by show 0<256;decide) (78 :: (beL b 2 2++((l.dig (dgW wj)).data.toList++(r.dig (dgW wj)).data.toList))) (by rw [Qp,Qe,Qe,n1,n2,Je];omega) w hE ⟨_,_,_,_,_,_,rfl,rfl,rfl,rfl,rfl,rfl⟩
  (λW hT hrow=>Jjp w.heap.size ⟨#[]⟩ b nl nr _ _ W hrow ((hT.cell (p:=⟨nl,0,none⟩) hl.own.2 (λh=>h)).trans hl.digCell) ((hT.cell (p:=⟨nr,0,none⟩) hr.own.2 (λh=>h)).trans hr.digCell) (Qk hl.own.2 hT.size) (Qk hr.own.2 hT.size))
  (Jkq wj b _ _ (by omega) hb s1 s2)
theorem Jff (E:Nat->Addr) (wj:Nat) (hw1:1<=wj) (hw:wj<=32) (k:Key) (o:Nat×Nat) (hk:TrOk wj (.leaf k o)) (w:World) (hE:Env E w):
  Calls prog 268 #[.int .i64 (wj:Int),.string ⟨k.toArray⟩,.agg #[.int .u64 (o.1:Int),.int .u8 (o.2:Int)]] w λe w'=>∃n,e=.returned (.tuple #[.pointer (some ⟨n,0,none⟩),.nilIface])/\w.heap.size<=n/\w'.heap[n]? =some (.cells (ZO (Tr.dig (dgW wj) (.leaf k o)) k o) 243)/\Tch NoB w w':=by
 obtain ⟨oa,oo⟩:=o
 have HD:Hid (∀W,Tch NoB w W->_):=λW (hT:Tch NoB w W)=>Jde E wj hw1 hw k (oa,oo) hk W (hE.tch hT noE)
 have HV:Hid (ZO ⟨#[]⟩ k (oa,oo)= #[.string ⟨#[]⟩,.string ⟨k.toArray⟩,.int .u64 (oa:Int),.int .u8 (oo:Int),.int .i64 0,.pointer none,.pointer none]):=rfl
 rw [HV.o] at HD
 clear hE
 generalize (⟨k.toArray⟩:BA)=kb at *
 dsimp only
 go_enter func268,ntmps268
 go_wp2_with fail
 refine (HD.o _ (Ta _ _ _)).mono ?_
 rintro _ w1 ⟨rfl,hr,ht⟩
 have hz:w.heap.size<=(w.alloc (.cells #[.int .u64 (oa:Int),.int .u8 (oo:Int)] 80)).heap.size:=by simp
 have HR:Hid (_=_):=hr
 have HT:Hid (Tch NoB w w1):=(Ta NoB w _).trans ht noE
 clear hr ht HD
 generalize (w.alloc (.cells #[.int .u64 (oa:Int),.int .u8 (oo:Int)] 80)).heap.size=n at *
 go_wp2
 go_ret2
 exact ⟨n,rfl,hz,HR.o,HT.o⟩
theorem Yv (E:Nat->Addr) (wj:Nat) (hw1:1<=wj) (hw:wj<=32) (b nl nr:Nat) (l r:Tr) (F:Nat->Prop) (hb:b<8 * (wj+1)) (w:World) (hE:Env E w) (hl:Jf (dgW wj) F w nl l) (hr:Jf (dgW wj) F w nr r):
  Calls prog 332 #[.int .i64 (wj:Int),.int .i64 (b:Int),.agg #[.pointer (some ⟨nl,0,none⟩),.pointer (some ⟨nr,0,none⟩)]] w λe w'=>∃n,e=.returned (.tuple #[.pointer (some ⟨n,0,none⟩),.nilIface])/\w.heap.size<=n/\w'.heap[n]? =some (.cells (brC (Tr.dig (dgW wj) (.br b l r)) b nl nr) 243)/\Tch NoB w w':=by
 have HD:Hid (∀W,Tch NoB w W->_):=λW (hT:Tch NoB w W)=>JeU E wj hw1 hw b nl nr l r F hb W (hE.tch hT noE) (hl.next hT) (hr.next hT)
 have HV:Hid (brC ⟨#[]⟩ b nl nr= #[.string ⟨#[]⟩,.string ⟨#[]⟩,.int .u64 0,.int .u8 0,.int .i64 (b:Int),.pointer (some ⟨nl,0,none⟩),.pointer (some ⟨nr,0,none⟩)]):=rfl
 rw [HV.o] at HD
 clear hE hl hr
 go_enter func332,ntmps332
 go_wp2_with fail
 refine (HD.o _ (Ta _ _ _)).mono ?_
 rintro _ w1 ⟨rfl,hr,ht⟩
 have hz:w.heap.size<=(w.alloc (.cells #[.pointer (some ⟨nl,0,none⟩),.pointer (some ⟨nr,0,none⟩)] 241)).heap.size:=by simp
 have HR:Hid (_=_):=hr
 have HT:Hid (Tch NoB w w1):=(Ta NoB w _).trans ht noE
 clear hr ht HD
 generalize (w.alloc (.cells #[.pointer (some ⟨nl,0,none⟩),.pointer (some ⟨nr,0,none⟩)] 241)).heap.size=n at *
 go_wp2
 go_ret2
 exact ⟨n,rfl,hz,HR.o,HT.o⟩
