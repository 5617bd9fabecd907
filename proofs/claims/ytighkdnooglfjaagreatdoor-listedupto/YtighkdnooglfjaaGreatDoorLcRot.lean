import Derived.Test.YtighkdnooglfjaaGreatDoorProg
import Derived.WalkSpells
import Derived.WalkLawsBesides
import Derived.BigQuiet
namespace Go.Proofs.YtighkdnooglfjaaGreatDoor
open Tryz
open Go.RowKit

def rr(n:Nat)(x:Int):Int:=bits .or .u32 (x*2 ^ (32-n) % 4294967296) (x/2 ^ n)
theorem rot2(x:Int)(w:World):
  Calls prog 338 #[.int .u32 x,.int .i64 (-2)] w λe w'=>e=.returned (.int .u32 (rr 2 x))/\w=w':=by
 have hs:bits .and .u64 (IntKind.u64.wrap (-2)) 31=30:=by decide
 go_enter func338,ntmps338;go_wp2;go_ret;exact⟨rfl,rfl⟩
theorem rot6(x:Int)(w:World):
  Calls prog 338 #[.int .u32 x,.int .i64 (-6)] w λe w'=>e=.returned (.int .u32 (rr 6 x))/\w=w':=by
 have hs:bits .and .u64 (IntKind.u64.wrap (-6)) 31=26:=by decide
 go_enter func338,ntmps338;go_wp2;go_ret;exact⟨rfl,rfl⟩
theorem rot7(x:Int)(w:World):
  Calls prog 338 #[.int .u32 x,.int .i64 (-7)] w λe w'=>e=.returned (.int .u32 (rr 7 x))/\w=w':=by
 have hs:bits .and .u64 (IntKind.u64.wrap (-7)) 31=25:=by decide
 go_enter func338,ntmps338;go_wp2;go_ret;exact⟨rfl,rfl⟩
theorem Jom(x:Int)(w:World):
  Calls prog 338 #[.int .u32 x,.int .i64 (-11)] w λe w'=>e=.returned (.int .u32 (rr 11 x))/\w=w':=by
 have hs:bits .and .u64 (IntKind.u64.wrap (-11)) 31=21:=by decide
 go_enter func338,ntmps338;go_wp2;go_ret;exact⟨rfl,rfl⟩
theorem Jon(x:Int)(w:World):
  Calls prog 338 #[.int .u32 x,.int .i64 (-13)] w λe w'=>e=.returned (.int .u32 (rr 13 x))/\w=w':=by
 have hs:bits .and .u64 (IntKind.u64.wrap (-13)) 31=19:=by decide
 go_enter func338,ntmps338;go_wp2;go_ret;exact⟨rfl,rfl⟩
theorem Joo(x:Int)(w:World):
  Calls prog 338 #[.int .u32 x,.int .i64 (-17)] w λe w'=>e=.returned (.int .u32 (rr 17 x))/\w=w':=by
 have hs:bits .and .u64 (IntKind.u64.wrap (-17)) 31=15:=by decide
 go_enter func338,ntmps338;go_wp2;go_ret;exact⟨rfl,rfl⟩
theorem Jop(x:Int)(w:World):
  Calls prog 338 #[.int .u32 x,.int .i64 (-18)] w λe w'=>e=.returned (.int .u32 (rr 18 x))/\w=w':=by
 have hs:bits .and .u64 (IntKind.u64.wrap (-18)) 31=14:=by decide
 go_enter func338,ntmps338;go_wp2;go_ret;exact⟨rfl,rfl⟩
theorem Joq(x:Int)(w:World):
  Calls prog 338 #[.int .u32 x,.int .i64 (-19)] w λe w'=>e=.returned (.int .u32 (rr 19 x))/\w=w':=by
 have hs:bits .and .u64 (IntKind.u64.wrap (-19)) 31=13:=by decide
 go_enter func338,ntmps338;go_wp2;go_ret;exact⟨rfl,rfl⟩
theorem Jor(x:Int)(w:World):
  Calls prog 338 #[.int .u32 x,.int .i64 (-22)] w λe w'=>e=.returned (.int .u32 (rr 22 x))/\w=w':=by
 have hs:bits .and .u64 (IntKind.u64.wrap (-22)) 31=10:=by decide
 go_enter func338,ntmps338;go_wp2;go_ret;exact⟨rfl,rfl⟩
theorem Jos(x:Int)(w:World):
  Calls prog 338 #[.int .u32 x,.int .i64 (-25)] w λe w'=>e=.returned (.int .u32 (rr 25 x))/\w=w':=by
 have hs:bits .and .u64 (IntKind.u64.wrap (-25)) 31=7:=by decide
 go_enter func338,ntmps338;go_wp2;go_ret;exact⟨rfl,rfl⟩
set_option maxRecDepth 100000
set_option maxHeartbeats 400000

def sg0(x:Int):Int:=bits .xor .u32 (bits .xor .u32 (rr 7 x) (rr 18 x)) (x/8)
def sg1(x:Int):Int:=bits .xor .u32 (bits .xor .u32 (rr 17 x) (rr 19 x)) (x/1024)
def word(b0 b1 b2 b3:UInt8):Int:=
 bits .or .u32 (bits .or .u32 (bits .or .u32 ((b0.toNat:Int) % 4294967296*16777216 % 4294967296) ((b1.toNat:Int) % 4294967296*65536 % 4294967296)) ((b2.toNat:Int) % 4294967296*256 % 4294967296)) ((b3.toNat:Int) % 4294967296)
def nxW(b:List UInt8)(k:Nat)(l:List Int):Int:=
 if k<16 then word (b.getD (4*k) 0) (b.getD (4*k+1) 0) (b.getD (4*k+2) 0) (b.getD (4*k+3) 0)
 else (l.getD (k-16) 0+sg0 (l.getD (k-15) 0)+l.getD (k-7) 0+sg1 (l.getD (k-2) 0)) % 4294967296
def stW(b:List UInt8)(k:Nat)(l:List Int):List Int:=l++[nxW b k l]
def Wl(b:List UInt8):Nat->List Int
 | 0=>[]
 | k+1=>stW b k (Wl b k)
theorem ZK(b:List UInt8)(k:Nat):(Wl b k).length=k:=by
 induction k with
 | zero=>rfl
 | succ k ih=>simp[Wl,stW,ih]
def arr(l:List Int):Array Value:=(l.map (Value.int .u32)++List.replicate (64-l.length) (Value.int .u32 0)).toArray
theorem Jic(l:List Int)(k:Nat)(hk:k<l.length):(arr l)[k]? =some (.int .u32 (l.getD k 0)):=by
 simp[arr,List.getElem?_append,hk,List.getD_eq_getElem?_getD]
theorem Jl5(l:List Int)(hk:l.length<64):(arr l)[l.length]? =some (.int .u32 0):=by
 have:¬64-l.length=0:=by omega
 simp[arr,List.getElem?_append,List.getElem?_replicate];omega
theorem Jl6(l:List Int)(v:Int)(hk:l.length<64):(arr l).setIfInBounds l.length (.int .u32 v)=arr (l++[v]):=by
 obtain⟨m,hm⟩:∃m,64-l.length=m+1:=⟨63-l.length,by omega⟩
 have hm':64-(l++[v]).length=m:=by simp;omega
 unfold arr;rw[hm,hm',List.replicate_succ];simp[List.setIfInBounds_toArray]
abbrev W2(w:World)(l:List Int)(n:Nat):World:=((w.alloc (.cells (arr []) 486)).alloc (.cells (arr l) 486)).drewN n
theorem JcG(w:World)(l:List Int)(n:Nat):(W2 w l n).heap[w.heap.size+1]? =some (.cells (arr l) 486):=heap_alloc2_new _ _ _
theorem JcF(w:World)(l:List Int)(k n:Nat)(hk:k<l.length):(W2 w l n).cell? ⟨w.heap.size+1,k,none⟩=some (.int .u32 (l.getD k 0)):=by
 rw[cell_of_row _ _ _ _ _ _ (JcG w l n)];exact Jic l k hk
theorem Jkq(w:World)(l:List Int)(k n:Nat)(hl:l.length=k)(hk:k<64):(W2 w l n).cell? ⟨w.heap.size+1,k,none⟩=some (.int .u32 0):=by
 subst hl;rw[cell_of_row _ _ _ _ _ _ (JcG w l n)];exact Jl5 l hk
theorem Jed(w:World)(l:List Int)(k n:Nat):(W2 w l n).frozen? ⟨w.heap.size+1,k,none⟩=false:=frozen_of_row _ _ _ _ _ (JcG w l n)
theorem Jkr(w:World)(l:List Int)(v:Int)(k n:Nat)(hl:l.length=k)(hk:k<64):(W2 w l n).setCell ⟨w.heap.size+1,k,none⟩ (.int .u32 v)=W2 w (l++[v]) n:=by
 subst hl;show ((((w.alloc (.cells (arr []) 486)).alloc (.cells (arr l) 486))).setCell ⟨w.heap.size+1,l.length,none⟩ (.int .u32 v)).drewN n=_;rw[World.setCell_alloc_at _ _ _ _ _ (by simp),Jl6 l v hk]
theorem JfP(l:List Int)(h:l.length<=64):(arr l).size=64:=by simp[arr];omega
theorem Jid(l:List Int):(arr l).all (·.oneCell')=true:=by
 rw[Array.all_eq_true_iff_forall_mem];intro v hv;simp[arr]at hv
 rcases hv with⟨a,_,rfl⟩|⟨_,rfl⟩<;>rfl
theorem Jkp(w:World)(l:List Int)(n:Nat):Below w.heap.size w (W2 w l n):=by
 have h:=((Below.refl w.heap.size w).alloc (Nat.le_refl _) (.cells (arr []) 486)).alloc (by simp) (.cells (arr l) 486);exact⟨h.os,h.tape,h.output,h.size,h.block⟩
theorem XO{B:Nat}{a w:World}(h:Below B a w){g:Nat}(hg:B<=g)(cs:Array Value):Below B a (w.setRow g cs):=
 ⟨h.os,h.tape,h.output,by simp;exact h.size,λk hk=>by rw[setRow_other _ _ _ _ (by omega)];exact h.block k hk⟩
theorem JcI(b:ByteArray)(k j:Nat)(hb:b.size=64)(hk:k<16)(hj:j<4)(h:j<(b.extract (4*k) (4*k+4)).size):(b.extract (4*k) (4*k+4))[j]=b.data.toList.getD (4*k+j) 0:=by
 have h2:4*k+j<b.data.size:=by have:b.data.size=64:=hb;omega
 rw[ByteArray.getElem_eq_getElem_data];simp only[ByteArray.data_extract,List.getD_eq_getElem?_getD,Array.getElem_extract,Array.getElem?_toList];rw[Array.getElem?_eq_getElem h2];rfl

theorem JjM(b:ByteArray)(w:World)(hb:b.size=64):
  Calls prog 337 #[.string b] w λe w'=>e=.returned (.agg (arr (Wl b.data.toList 64)))/\Below w.heap.size w w':=by
 go_enter func337,ntmps337;go_wp2;go_loopw [11] (λi wr=>∃k n:Nat,k<=16/\i=.int .i64 k/\wr=W2 w (Wl b.data.toList k) n) (λi _=>16-(intOf i).toNat)
 case atStart=>exact⟨0,0,by omega,rfl,rfl⟩
 case round=>
  obtain⟨k,n,hk,rfl,rfl⟩:=hrel
  by_cases hlt:k<16
  ·go_wp2;have hl:=ZK b.data.toList k;have hc:=Jkq w (Wl b.data.toList k) k n hl (by omega);have hf:=Jed w (Wl b.data.toList k) k n;have hp:(b.extract (4*k) (4*k+4)).size=4:=(by simp;omega);have hs:=λv=>Jkr w (Wl b.data.toList k) v k n hl (by omega);obtain⟨p,hp,hpe,hw⟩:∃p:ByteArray,∃hp:p.size=4,b.extract (4*k) (4*k+4)=p/\nxW b.data.toList k (Wl b.data.toList k)=word p[0] p[1] p[2] p[3]:=by
    refine⟨_,hp,rfl,?_⟩;rw[JcI b k 0 hb hlt (by omega),JcI b k 1 hb hlt (by omega),JcI b k 2 hb hlt (by omega),JcI b k 3 hb hlt (by omega)];simp[nxW,hlt]
   rw[hpe];have HW:Hid (Wl b.data.toList (k+1)=Wl b.data.toList k++[word p[0] p[1] p[2] p[3]]):=(by rw[<-hw];rfl);have HS:Hid _:=hs;clear hw hs hl hpe;generalize hW:W2 w (Wl b.data.toList k) n=W at *;clear hW;go_region;go_wp2;go_roundw
   case rel=>exact⟨k+1,n+1,by omega,by go_num,by rw[HW.out];exact congrArg World.drew (HS _)⟩
   case measure=>simp[intOf];omega
  ·have hk16:Hid (k=16):=(by omega:k=16)
   go_wp2;go_loopw [6] (λi wr=>∃k n:Nat,16<=k/\k<=64/\i=.int .i64 k/\wr=W2 w (Wl b.data.toList k) n) (λi _=>64-(intOf i).toNat)
   case atStart=>exact⟨16,n,by omega,by omega,rfl,by rw[hk16.out]⟩
   case round=>
    clear hlt hk hk16;obtain⟨k,n,h16,hk,rfl,rfl⟩:=hrel
    by_cases hlt:k<64
    ·have hl:=ZK b.data.toList k;have hc:=Jkq w (Wl b.data.toList k) k n hl (by omega);have hf:=Jed w (Wl b.data.toList k) k n;have h2:=JcF w (Wl b.data.toList k) (k-2) n (by omega);have h7:=JcF w (Wl b.data.toList k) (k-7) n (by omega);have h15:=JcF w (Wl b.data.toList k) (k-15) n (by omega);have h16':=JcF w (Wl b.data.toList k) (k-16) n (by omega);have HS:Hid (∀v,_):=λv=>Jkr w (Wl b.data.toList k) v k n hl (by omega);have HW:Hid (Wl b.data.toList (k+1)=Wl b.data.toList k++[((Wl b.data.toList k).getD (k-16) 0+sg0 ((Wl b.data.toList k).getD (k-15) 0)+(Wl b.data.toList k).getD (k-7) 0+sg1 ((Wl b.data.toList k).getD (k-2) 0)) % 4294967296]):=by
      show stW b.data.toList k _=_;simp[stW,nxW,show ¬k<16 by omega]
     generalize (Wl b.data.toList k).getD (k-2) 0=x2 at *;generalize (Wl b.data.toList k).getD (k-7) 0=x7 at *;generalize (Wl b.data.toList k).getD (k-15) 0=x15 at *;generalize (Wl b.data.toList k).getD (k-16) 0=x16 at *;generalize hW:W2 w (Wl b.data.toList k) n=W at *;clear hW hl;go_wp2;go_region;go_wp2_with fail;refine(rot7 _ _).mono ?_;rintro e w'⟨rfl,rfl⟩;go_wp2_with fail;refine(Jop _ _).mono ?_;rintro e w'⟨rfl,rfl⟩;go_wp2_with fail;refine(Joo _ _).mono ?_;rintro e w'⟨rfl,rfl⟩;go_wp2_with fail;refine(Joq _ _).mono ?_;rintro e w'⟨rfl,rfl⟩;go_wp2_with fail;go_region;go_wp2;go_roundw
     case rel=>exact⟨k+1,n+2,by omega,by omega,by go_num,by rw[HW.out];exact congrArg (λx=>World.drew (World.drew x)) (HS _)⟩
     case measure=>simp[intOf];omega
    ·have hk64:Hid (k=64):=(by omega:k=64)
     have hA:(arr (Wl b.data.toList k)).size=64:=JfP _ (by rw[ZK];omega);have hA1:(arr (Wl b.data.toList k)).all (·.oneCell')=true:=Jid _;have hG:=JcG w (Wl b.data.toList k) n;have hG0:(W2 w (Wl b.data.toList k) n).heap[w.heap.size]? =some (.cells (arr []) 486):=heap_alloc2_old _ _ _;have hB:Below w.heap.size w (W2 w (Wl b.data.toList k) n):=Jkp _ _ _;generalize W2 w (Wl b.data.toList k) n=W at *;have HE:Hid (arr (Wl b.data.toList k)=arr (Wl b.data.toList 64)):=(by rw[hk64.out]:arr (Wl b.data.toList k)=arr (Wl b.data.toList 64))
     generalize arr (Wl b.data.toList k)=A at *;have hi:(prog.info? 486).map (·.size)=some A.size:=(by rw[hA];kernel_rfl);go_wp2_with (first|(refine wpList_load_row rfl 486 _ rfl (w.heap.size+1) rfl 486 A (0,0) (.array 64 429) hG underlying486 rfl hi ?_)|(refine wpList_store_row rfl 486 _ _ rfl w.heap.size A rfl rfl 486 (arr []) hG0 hi (by rw[hA];rfl) hA1 ?_));refine bodyPost_ret (v:=.agg A) (results_cell_row results337 _ _ w.heap.size 486 A (0,0) (.array 64 429) rfl (setRow_heap _ _ _ _ _ _ hG0) underlying486 rfl hi) rfl ⟨by rw[HE.out],XO hB (Nat.le_refl _) _⟩
