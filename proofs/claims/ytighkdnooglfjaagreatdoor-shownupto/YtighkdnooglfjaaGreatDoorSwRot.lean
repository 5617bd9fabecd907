/-
  What the digest of this program is, in plain words (the numbers of SHA-256 as the walk writes them), and the contract of math/bits.RotateLeft32 at the ten turns that are used.
  The contract of trove/digest.schedule: of 64 bytes it hands back the 64 words of SHA-256's message schedule, as 'Wl' writes them, and turns no old memory.
  The contract of trove/digest.compress: of a state of eight words and 64 bytes it hands back the state behind them, as 'comp' writes it; it turns no old memory. Its one condition: the table of the round's numbers lies in its variable.
-/
import Derived.Test.YtighkdnooglfjaaGreatDoorProg
import Derived.WalkKit
import Derived.WalkSpells
import Derived.WalkLawsBesides
import Derived.BigRegion
import Derived.BigQuiet
import Derived.Deep.QuietTactic
namespace Go.Proofs.YtighkdnooglfjaaGreatDoor
open Go.RowKit

def rr (n:Nat) (x:Int):Int:=bits .or .u32 (x * 2 ^ (32 - n) % 4294967296) (x / 2 ^ n)
theorem rot2 (x:Int) (w:World):
  Calls Tryz.prog 338 #[.int .u32 x,.int .i64 (-2)] w λe w'=>e=.returned (.int .u32 (rr 2 x))/\w=w':=by
 have hs:bits .and .u64 (IntKind.u64.wrap (-2)) 31=30:=by decide
 go_enter Tryz.func338,Tryz.ntmps338
 go_wp2
 go_ret
 exact ⟨rfl,rfl⟩
theorem rot6 (x:Int) (w:World):
  Calls Tryz.prog 338 #[.int .u32 x,.int .i64 (-6)] w λe w'=>e=.returned (.int .u32 (rr 6 x))/\w=w':=by
 have hs:bits .and .u64 (IntKind.u64.wrap (-6)) 31=26:=by decide
 go_enter Tryz.func338,Tryz.ntmps338
 go_wp2
 go_ret
 exact ⟨rfl,rfl⟩
theorem rot7 (x:Int) (w:World):
  Calls Tryz.prog 338 #[.int .u32 x,.int .i64 (-7)] w λe w'=>e=.returned (.int .u32 (rr 7 x))/\w=w':=by
 have hs:bits .and .u64 (IntKind.u64.wrap (-7)) 31=25:=by decide
 go_enter Tryz.func338,Tryz.ntmps338
 go_wp2
 go_ret
 exact ⟨rfl,rfl⟩
theorem rot11 (x:Int) (w:World):
  Calls Tryz.prog 338 #[.int .u32 x,.int .i64 (-11)] w λe w'=>e=.returned (.int .u32 (rr 11 x))/\w=w':=by
 have hs:bits .and .u64 (IntKind.u64.wrap (-11)) 31=21:=by decide
 go_enter Tryz.func338,Tryz.ntmps338
 go_wp2
 go_ret
 exact ⟨rfl,rfl⟩
theorem rot13 (x:Int) (w:World):
  Calls Tryz.prog 338 #[.int .u32 x,.int .i64 (-13)] w λe w'=>e=.returned (.int .u32 (rr 13 x))/\w=w':=by
 have hs:bits .and .u64 (IntKind.u64.wrap (-13)) 31=19:=by decide
 go_enter Tryz.func338,Tryz.ntmps338
 go_wp2
 go_ret
 exact ⟨rfl,rfl⟩
theorem rot17 (x:Int) (w:World):
  Calls Tryz.prog 338 #[.int .u32 x,.int .i64 (-17)] w λe w'=>e=.returned (.int .u32 (rr 17 x))/\w=w':=by
 have hs:bits .and .u64 (IntKind.u64.wrap (-17)) 31=15:=by decide
 go_enter Tryz.func338,Tryz.ntmps338
 go_wp2
 go_ret
 exact ⟨rfl,rfl⟩
theorem rot18 (x:Int) (w:World):
  Calls Tryz.prog 338 #[.int .u32 x,.int .i64 (-18)] w λe w'=>e=.returned (.int .u32 (rr 18 x))/\w=w':=by
 have hs:bits .and .u64 (IntKind.u64.wrap (-18)) 31=14:=by decide
 go_enter Tryz.func338,Tryz.ntmps338
 go_wp2
 go_ret
 exact ⟨rfl,rfl⟩
theorem rot19 (x:Int) (w:World):
  Calls Tryz.prog 338 #[.int .u32 x,.int .i64 (-19)] w λe w'=>e=.returned (.int .u32 (rr 19 x))/\w=w':=by
 have hs:bits .and .u64 (IntKind.u64.wrap (-19)) 31=13:=by decide
 go_enter Tryz.func338,Tryz.ntmps338
 go_wp2
 go_ret
 exact ⟨rfl,rfl⟩
theorem rot22 (x:Int) (w:World):
  Calls Tryz.prog 338 #[.int .u32 x,.int .i64 (-22)] w λe w'=>e=.returned (.int .u32 (rr 22 x))/\w=w':=by
 have hs:bits .and .u64 (IntKind.u64.wrap (-22)) 31=10:=by decide
 go_enter Tryz.func338,Tryz.ntmps338
 go_wp2
 go_ret
 exact ⟨rfl,rfl⟩
theorem rot25 (x:Int) (w:World):
  Calls Tryz.prog 338 #[.int .u32 x,.int .i64 (-25)] w λe w'=>e=.returned (.int .u32 (rr 25 x))/\w=w':=by
 have hs:bits .and .u64 (IntKind.u64.wrap (-25)) 31=7:=by decide
 go_enter Tryz.func338,Tryz.ntmps338
 go_wp2
 go_ret
 exact ⟨rfl,rfl⟩
end Go.Proofs.YtighkdnooglfjaaGreatDoor
namespace Go.Proofs.YtighkdnooglfjaaGreatDoor
open Go.RowKit

def sg0 (x:Int):Int:=bits .xor .u32 (bits .xor .u32 (rr 7 x) (rr 18 x)) (x / 8)
def sg1 (x:Int):Int:=bits .xor .u32 (bits .xor .u32 (rr 17 x) (rr 19 x)) (x / 1024)
def word (b0 b1 b2 b3:UInt8):Int:=
 bits .or .u32 (bits .or .u32 (bits .or .u32 ((b0.toNat:Int) % 4294967296 * 16777216 % 4294967296) ((b1.toNat:Int) % 4294967296 * 65536 % 4294967296)) ((b2.toNat:Int) % 4294967296 * 256 % 4294967296)) ((b3.toNat:Int) % 4294967296)
def nxW (b:List UInt8) (k:Nat) (l:List Int):Int:=
 if k<16 then word (b.getD (4 * k) 0) (b.getD (4 * k+1) 0) (b.getD (4 * k+2) 0) (b.getD (4 * k+3) 0)
 else (l.getD (k - 16) 0+sg0 (l.getD (k - 15) 0)+l.getD (k - 7) 0+sg1 (l.getD (k - 2) 0)) % 4294967296
def stW (b:List UInt8) (k:Nat) (l:List Int):List Int:=l++[nxW b k l]
def Wl (b:List UInt8):Nat->List Int
 | 0=>[]
 | k+1=>stW b k (Wl b k)
theorem Wl_length (b:List UInt8) (k:Nat):(Wl b k).length=k:=by
 induction k with
 | zero=>rfl
 | succ k ih=>simp [Wl,stW,ih]
def arr (l:List Int):Array Value:=(l.map (Value.int .u32)++List.replicate (64 - l.length) (Value.int .u32 0)).toArray
theorem arr_old (l:List Int) (k:Nat) (hk:k<l.length):(arr l)[k]? =some (.int .u32 (l.getD k 0)):=by
 simp [arr,List.getElem?_append,hk,List.getD_eq_getElem?_getD]
theorem arr_new (l:List Int) (hk:l.length<64):(arr l)[l.length]? =some (.int .u32 0):=by
 have:¬64 - l.length=0:=by omega
 simp [arr,List.getElem?_append,List.getElem?_replicate];omega
theorem arr_set (l:List Int) (v:Int) (hk:l.length<64):(arr l).setIfInBounds l.length (.int .u32 v)=arr (l++[v]):=by
 obtain ⟨m,hm⟩:∃m,64 - l.length=m+1:=⟨63 - l.length,by omega⟩
 have hm':64 - (l++[v]).length=m:=by simp;omega
 unfold arr
 rw [hm,hm',List.replicate_succ]
 simp [List.setIfInBounds_toArray]
abbrev W2 (w:World) (l:List Int) (n:Nat):World:=((w.alloc (.cells (arr []) 486)).alloc (.cells (arr l) 486)).drewN n
theorem W2_heap (w:World) (l:List Int) (n:Nat):(W2 w l n).heap[w.heap.size+1]? =some (.cells (arr l) 486):=heap_alloc2_new _ _ _
theorem W2_cell (w:World) (l:List Int) (k n:Nat) (hk:k<l.length):(W2 w l n).cell? ⟨w.heap.size+1,k,none⟩=some (.int .u32 (l.getD k 0)):=by
 rw [cell_of_row _ _ _ _ _ _ (W2_heap w l n)];exact arr_old l k hk
theorem W2_new (w:World) (l:List Int) (k n:Nat) (hl:l.length=k) (hk:k<64):(W2 w l n).cell? ⟨w.heap.size+1,k,none⟩=some (.int .u32 0):=by
 subst hl;rw [cell_of_row _ _ _ _ _ _ (W2_heap w l n)];exact arr_new l hk
theorem W2_frozen (w:World) (l:List Int) (k n:Nat):(W2 w l n).frozen? ⟨w.heap.size+1,k,none⟩=false:=frozen_of_row _ _ _ _ _ (W2_heap w l n)
theorem W2_set (w:World) (l:List Int) (v:Int) (k n:Nat) (hl:l.length=k) (hk:k<64):(W2 w l n).setCell ⟨w.heap.size+1,k,none⟩ (.int .u32 v)=W2 w (l++[v]) n:=by
 subst hl
 show ((((w.alloc (.cells (arr []) 486)).alloc (.cells (arr l) 486))).setCell ⟨w.heap.size+1,l.length,none⟩ (.int .u32 v)).drewN n=_
 rw [World.setCell_alloc_at _ _ _ _ _ (by simp),arr_set l v hk]
theorem arr_size (l:List Int) (h:l.length<=64):(arr l).size=64:=by simp [arr];omega
theorem arr_one (l:List Int):(arr l).all (·.oneCell')=true:=by
 rw [Array.all_eq_true_iff_forall_mem]
 intro v hv
 simp [arr] at hv
 rcases hv with ⟨a,_,rfl⟩ | ⟨_,rfl⟩ <;> rfl
theorem W2_below (w:World) (l:List Int) (n:Nat):Below w.heap.size w (W2 w l n):=by
 have h:=((Below.refl w.heap.size w).alloc (Nat.le_refl _) (.cells (arr []) 486)).alloc (by simp) (.cells (arr l) 486)
 exact ⟨h.os,h.tape,h.output,h.size,h.block⟩
theorem below_setRow {B:Nat} {a w:World} (h:Below B a w) {g:Nat} (hg:B<=g) (cs:Array Value):Below B a (w.setRow g cs):=
 ⟨h.os,h.tape,h.output,by simp;exact h.size,λk hk=>by rw [setRow_other _ _ _ _ (by omega)];exact h.block k hk⟩
theorem byte_at (b:ByteArray) (k j:Nat) (hb:b.size=64) (hk:k<16) (hj:j<4) (h:j<(b.extract (4 * k) (4 * k+4)).size):(b.extract (4 * k) (4 * k+4))[j]=b.data.toList.getD (4 * k+j) 0:=by
 have h2:4 * k+j<b.data.size:=by have:b.data.size=64:=hb;omega
 rw [ByteArray.getElem_eq_getElem_data]
 simp only [ByteArray.data_extract,List.getD_eq_getElem?_getD,Array.getElem_extract,Array.getElem?_toList]
 rw [Array.getElem?_eq_getElem h2];rfl

set_option maxRecDepth 100000 in
set_option maxHeartbeats 400000 in
theorem sched_any (b:ByteArray) (w:World) (hb:b.size=64):
  Calls Tryz.prog 337 #[.string b] w λe w'=>e=.returned (.agg (arr (Wl b.data.toList 64)))/\Below w.heap.size w w':=by
 go_enter Tryz.func337,Tryz.ntmps337
 go_wp2
 go_loopw [11] (λi wr=>∃k n:Nat,k<=16/\i=.int .i64 k/\wr=W2 w (Wl b.data.toList k) n) (λi _=>16 - (intOf i).toNat)
 case atStart=>
  exact ⟨0,0,by omega,rfl,rfl⟩
 case round=>
  obtain ⟨k,n,hk,rfl,rfl⟩:=hrel
  by_cases hlt:k<16
  ·go_wp2
   have hl:=Wl_length b.data.toList k
   have hc:=W2_new w (Wl b.data.toList k) k n hl (by omega)
   have hf:=W2_frozen w (Wl b.data.toList k) k n
   have hp:(b.extract (4 * k) (4 * k+4)).size=4:=by simp;omega
   have hs:=λv=>W2_set w (Wl b.data.toList k) v k n hl (by omega)
   obtain ⟨p,hp,hpe,hw⟩:∃p:ByteArray,∃hp:p.size=4,b.extract (4 * k) (4 * k+4)=p/\nxW b.data.toList k (Wl b.data.toList k)=word p[0] p[1] p[2] p[3]:=by
    refine ⟨_,hp,rfl,?_⟩
    rw [byte_at b k 0 hb hlt (by omega),byte_at b k 1 hb hlt (by omega),byte_at b k 2 hb hlt (by omega),byte_at b k 3 hb hlt (by omega)]
    simp [nxW,hlt]
   rw [hpe]
   have HW:Hid (Wl b.data.toList (k+1)=Wl b.data.toList k++[word p[0] p[1] p[2] p[3]]):=by rw [<-hw];rfl
   have HS:Hid (∀v,(W2 w (Wl b.data.toList k) n).setCell ⟨w.heap.size+1,k,none⟩ (.int .u32 v)=W2 w (Wl b.data.toList k++[v]) n):=hs
   clear hw hs hl hpe
   generalize hW:W2 w (Wl b.data.toList k) n=W at *
   clear hW
   go_region
   go_wp2
   go_roundw
   case rel=>exact ⟨k+1,n+1,by omega,by go_num,by rw [HW.out];exact congrArg World.drew (HS.out _)⟩
   case measure=>simp [intOf];omega
  ·have hk16:Hid (k=16):=(by omega:k=16)
   go_wp2
   go_loopw [6] (λi wr=>∃k n:Nat,16<=k/\k<=64/\i=.int .i64 k/\wr=W2 w (Wl b.data.toList k) n) (λi _=>64 - (intOf i).toNat)
   case atStart=>exact ⟨16,n,by omega,by omega,rfl,by rw [hk16.out]⟩
   case round=>
    clear hlt hk hk16
    obtain ⟨k,n,h16,hk,rfl,rfl⟩:=hrel
    by_cases hlt:k<64
    ·have hl:=Wl_length b.data.toList k
     have hc:=W2_new w (Wl b.data.toList k) k n hl (by omega)
     have hf:=W2_frozen w (Wl b.data.toList k) k n
     have h2:=W2_cell w (Wl b.data.toList k) (k - 2) n (by omega)
     have h7:=W2_cell w (Wl b.data.toList k) (k - 7) n (by omega)
     have h15:=W2_cell w (Wl b.data.toList k) (k - 15) n (by omega)
     have h16':=W2_cell w (Wl b.data.toList k) (k - 16) n (by omega)
     have HS:Hid (∀v,(W2 w (Wl b.data.toList k) n).setCell ⟨w.heap.size+1,k,none⟩ (.int .u32 v)=W2 w (Wl b.data.toList k++[v]) n):=λv=>W2_set w (Wl b.data.toList k) v k n hl (by omega)
     have HW:Hid (Wl b.data.toList (k+1)=Wl b.data.toList k++[((Wl b.data.toList k).getD (k - 16) 0+sg0 ((Wl b.data.toList k).getD (k - 15) 0)+(Wl b.data.toList k).getD (k - 7) 0+sg1 ((Wl b.data.toList k).getD (k - 2) 0)) % 4294967296]):=by
      show stW b.data.toList k _=_
      simp [stW,nxW,show ¬k<16 by omega]
     generalize (Wl b.data.toList k).getD (k - 2) 0=x2 at *
     generalize (Wl b.data.toList k).getD (k - 7) 0=x7 at *
     generalize (Wl b.data.toList k).getD (k - 15) 0=x15 at *
     generalize (Wl b.data.toList k).getD (k - 16) 0=x16 at *
     generalize hW:W2 w (Wl b.data.toList k) n=W at *
     clear hW hl
     go_wp2
     go_region
     go_wp2_with fail
     refine (rot7 _ _).mono ?_
     rintro e w' ⟨rfl,rfl⟩
     go_wp2_with fail
     refine (rot18 _ _).mono ?_
     rintro e w' ⟨rfl,rfl⟩
     go_wp2_with fail
     refine (rot17 _ _).mono ?_
     rintro e w' ⟨rfl,rfl⟩
     go_wp2_with fail
     refine (rot19 _ _).mono ?_
     rintro e w' ⟨rfl,rfl⟩
     go_wp2_with fail
     go_region
     go_wp2
     go_roundw
     case rel=>exact ⟨k+1,n+2,by omega,by omega,by go_num,by rw [HW.out];exact congrArg (λx=>World.drew (World.drew x)) (HS.out _)⟩
     case measure=>simp [intOf];omega
    ·have hk64:Hid (k=64):=(by omega:k=64)
     have hA:(arr (Wl b.data.toList k)).size=64:=arr_size _ (by rw [Wl_length];omega)
     have hA1:(arr (Wl b.data.toList k)).all (·.oneCell')=true:=arr_one _
     have hG:=W2_heap w (Wl b.data.toList k) n
     have hG0:(W2 w (Wl b.data.toList k) n).heap[w.heap.size]? =some (.cells (arr []) 486):=heap_alloc2_old _ _ _
     have hB:Below w.heap.size w (W2 w (Wl b.data.toList k) n):=W2_below _ _ _
     generalize W2 w (Wl b.data.toList k) n=W at *
     have HE:Hid (arr (Wl b.data.toList k)=arr (Wl b.data.toList 64)):=(by rw [hk64.out]:arr (Wl b.data.toList k)=arr (Wl b.data.toList 64))
     generalize arr (Wl b.data.toList k)=A at *
     have hi:(Tryz.prog.info? 486).map (·.size)=some A.size:=by rw [hA];kernel_rfl
     go_wp2_with (first | (refine wpList_load_row rfl 486 _ rfl (w.heap.size+1) rfl 486 A (0,0) (.array 64 429) hG Tryz.underlying486 rfl hi ?_) | (refine wpList_store_row rfl 486 _ _ rfl w.heap.size A rfl rfl 486 (arr []) hG0 hi (by rw [hA];rfl) hA1 ?_))
     refine bodyPost_ret (v:=.agg A) (results_cell_row Tryz.results337 _ _ w.heap.size 486 A (0,0) (.array 64 429) rfl (setRow_heap _ _ _ _ _ _ hG0) Tryz.underlying486 rfl hi) rfl ⟨by rw [HE.out],below_setRow hB (Nat.le_refl _) _⟩
end Go.Proofs.YtighkdnooglfjaaGreatDoor
namespace Go.Proofs.YtighkdnooglfjaaGreatDoor
open Go.RowKit

def Ks:List Int:=[1116352408,1899447441,3049323471,3921009573,961987163,1508970993,2453635748,2870763221,3624381080,310598401,607225278,1426881987,1925078388,2162078206,2614888103,3248222580,3835390401,4022224774,264347078,604807628,770255983,1249150122,1555081692,1996064986,2554220882,2821834349,2952996808,3210313671,3336571891,3584528711,113926993,338241895,666307205,773529912,1294757372,1396182291,1695183700,1986661051,2177026350,2456956037,2730485921,2820302411,3259730800,3345764771,3516065817,3600352804,4094571909,275423344,430227734,506948616,659060556,883997877,958139571,1322822218,1537002063,1747873779,1955562222,2024104815,2227730452,2361852424,2428436474,2756734187,3204031479,3329325298]
structure S8 where
 a:Int
 b:Int
 c:Int
 d:Int
 e:Int
 f:Int
 g:Int
 h:Int
def S8.val (s:S8):Value:=.agg #[.int .u32 s.a,.int .u32 s.b,.int .u32 s.c,.int .u32 s.d,.int .u32 s.e,.int .u32 s.f,.int .u32 s.g,.int .u32 s.h]
def t1 (k w:Int) (s:S8):Int:=
 s.h+bits .xor .u32 (bits .xor .u32 (rr 6 s.e) (rr 11 s.e)) (rr 25 s.e)+bits .xor .u32 (bits .and .u32 s.e s.f) (bits .and .u32 (bits .xor .u32 IntKind.u32.max s.e) s.g)+k+w
def maj (s:S8):Int:=bits .xor .u32 (bits .xor .u32 (bits .and .u32 s.a s.b) (bits .and .u32 s.a s.c)) (bits .and .u32 s.b s.c)
def rnd (k w:Int) (s:S8):S8:=
 ⟨((t1 k w s+bits .xor .u32 (bits .xor .u32 (rr 2 s.a) (rr 13 s.a)) (rr 22 s.a)) % 4294967296+maj s) % 4294967296,s.a,s.b,s.c,(s.d+t1 k w s % 4294967296) % 4294967296,s.e,s.f,s.g⟩
def addS (s t:S8):S8:=⟨(s.a+t.a) % 4294967296,(s.b+t.b) % 4294967296,(s.c+t.c) % 4294967296,(s.d+t.d) % 4294967296,(s.e+t.e) % 4294967296,(s.f+t.f) % 4294967296,(s.g+t.g) % 4294967296,(s.h+t.h) % 4294967296⟩
def to (ws:List Int) (s:S8):Nat->S8
 | 0=>s
 | k+1=>rnd (Ks.getD k 0) (ws.getD k 0) (to ws s k)
def comp (s:S8) (b:List UInt8):S8:=addS s (to (Wl b 64) s 64)
theorem all8 (x0 x1 x2 x3 x4 x5 x6 x7:Int):(#[Value.int .u32 x0,.int .u32 x1,.int .u32 x2,.int .u32 x3,.int .u32 x4,.int .u32 x5,.int .u32 x6,.int .u32 x7]).all (·.oneCell')=true:=by
 simp [Value.oneCell']
theorem bcell {W w1:World} (hb:Below W.heap.size W w1):(∀b o,b<W.heap.size->w1.cell? ⟨b,o,none⟩=W.cell? ⟨b,o,none⟩)/\(∀b o,b<W.heap.size->w1.frozen? ⟨b,o,none⟩=W.frozen? ⟨b,o,none⟩):=
 ⟨λb o h=>hb.cell (p:=⟨b,o,none⟩) h,λb o h=>hb.frozen (p:=⟨b,o,none⟩) h⟩

set_option maxRecDepth 100000 in
set_option maxHeartbeats 400000 in
theorem comp_any (s:S8) (b:ByteArray) (w:World) (hb:b.size=64) (h7:13<w.heap.size) (hT:∀i,i<64->w.cell? ⟨13,i,none⟩=some (.int .u32 (Ks.getD i 0))):
  Calls Tryz.prog 277 #[s.val,.string b] w λe w'=>e=.returned (comp s b.data.toList).val/\Below w.heap.size w w':=by
 obtain ⟨x0,x1,x2,x3,x4,x5,x6,x7⟩:=s
 have HT:Hid (∀i,i<64->w.cell? ⟨13,i,none⟩=some (.int .u32 (Ks.getD i 0))):=hT
 clear hT
 unfold S8.val
 go_enter Tryz.func277,Tryz.ntmps277
 go_wp2_with fail
 refine (sched_any _ _ hb).mono ?_
 rintro _ w1 ⟨rfl,hB⟩
 obtain ⟨hc,hf⟩:=bcell hB
 have hA:(arr (Wl b.data.toList 64)).size=64:=arr_size _ (by rw [Wl_length];omega)
 have hA1:(arr (Wl b.data.toList 64)).all (·.oneCell')=true:=arr_one _
 have hAc:Hid (∀i,i<64->(arr (Wl b.data.toList 64))[i]? =some (.int .u32 ((Wl b.data.toList 64).getD i 0))):=λi hi=>arr_old _ _ (by rw [Wl_length];exact hi)
 generalize arr (Wl b.data.toList 64)=A at *
 have hi:(Tryz.prog.info? 486).map (·.size)=some A.size:=by rw [hA];kernel_rfl
 go_wp2_with (refine wpList_store_row rfl 486 _ _ rfl w1.heap.size A rfl rfl 486 _ (heap_alloc_new _ _) hi (by rw [hA];rfl) hA1 ?_)
 generalize hWc:(World.alloc w1 _).setRow w1.heap.size A=Wc
 have hz:w.heap.size+1<w1.heap.size:=by have:=hB.size;simp at this;omega
 have hB0:Below w.heap.size w w1:=(((Below.refl _ _).alloc (Nat.le_refl _) _).alloc (by simp) _).trans (hB.mono (by simp;omega))
 have hBc:Below w.heap.size w Wc:=by rw [<-hWc];exact below_setRow (hB0.alloc hB0.size _) hB0.size _
 have hbk:∀k,k<w1.heap.size->Wc.heap[k]? =w1.heap[k]? :=λk hk=>by rw [<-hWc,setRow_other _ _ _ _ (by omega),Below.heap_alloc _ _ _ hk]
 have hw:Wc.heap[w1.heap.size]? =some (.cells A 486):=by rw [<-hWc];exact setRow_heap _ _ _ _ _ _ (heap_alloc_new _ _)
 have HAc:Hid (∀i,i<64->Wc.cell? ⟨w1.heap.size,i,none⟩=some (.int .u32 ((Wl b.data.toList 64).getD i 0))):=λi hi=>by rw [cell_of_row _ _ _ _ _ _ hw];exact hAc.out i hi
 have hTc:Hid (∀i,i<64->Wc.cell? ⟨13,i,none⟩=some (.int .u32 (Ks.getD i 0))):=λi hi=>by rw [hBc.cell (p:=⟨13,i,none⟩) h7];exact HT.out i hi
 have hh:Wc.heap[w.heap.size]? =some (.cells #[.int .u32 x0,.int .u32 x1,.int .u32 x2,.int .u32 x3,.int .u32 x4,.int .u32 x5,.int .u32 x6,.int .u32 x7] 434):=by
  rw [hbk _ (by omega),hB.block _ (by simp;omega),heap_alloc2_old]
 have hr:Wc.heap[w.heap.size+1]? =some (.cells #[.int .u32 0,.int .u32 0,.int .u32 0,.int .u32 0,.int .u32 0,.int .u32 0,.int .u32 0,.int .u32 0] 434):=by
  rw [hbk _ (by omega),hB.block _ (by simp),heap_alloc2_new]
 clear hc hf hA hA1 hAc hi hWc hB hB0 hbk hw HT
 have g0:Wc.cell? ⟨w.heap.size,0,none⟩=some (.int .u32 x0):=cell_of_row _ _ _ _ _ _ hh
 have g1:Wc.cell? ⟨w.heap.size,1,none⟩=some (.int .u32 x1):=cell_of_row _ _ _ _ _ _ hh
 have g2:Wc.cell? ⟨w.heap.size,2,none⟩=some (.int .u32 x2):=cell_of_row _ _ _ _ _ _ hh
 have g3:Wc.cell? ⟨w.heap.size,3,none⟩=some (.int .u32 x3):=cell_of_row _ _ _ _ _ _ hh
 have g4:Wc.cell? ⟨w.heap.size,4,none⟩=some (.int .u32 x4):=cell_of_row _ _ _ _ _ _ hh
 have g5:Wc.cell? ⟨w.heap.size,5,none⟩=some (.int .u32 x5):=cell_of_row _ _ _ _ _ _ hh
 have g6:Wc.cell? ⟨w.heap.size,6,none⟩=some (.int .u32 x6):=cell_of_row _ _ _ _ _ _ hh
 have g7:Wc.cell? ⟨w.heap.size,7,none⟩=some (.int .u32 x7):=cell_of_row _ _ _ _ _ _ hh
 have Hr:Hid (_=_):=hr
 have Hh:Hid (_=_):=hh
 clear hh hr
 go_quiet (fail)
 go_wp2
 clear g0 g1 g2 g3 g4 g5 g6 g7
 generalize hS:(⟨x0,x1,x2,x3,x4,x5,x6,x7⟩:S8)=S
 go_loopw [6,7,8,9,10,11,12,13,38] (λva vb vc vd ve vf vg vh i wr=>∃k n:Nat,k<=64/\i=.int .i64 k/\va=.int .u32 (to (Wl b.data.toList 64) S k).a/\vb=.int .u32 (to (Wl b.data.toList 64) S k).b/\vc=.int .u32 (to (Wl b.data.toList 64) S k).c/\vd=.int .u32 (to (Wl b.data.toList 64) S k).d/\ve=.int .u32 (to (Wl b.data.toList 64) S k).e/\vf=.int .u32 (to (Wl b.data.toList 64) S k).f/\vg=.int .u32 (to (Wl b.data.toList 64) S k).g/\vh=.int .u32 (to (Wl b.data.toList 64) S k).h/\wr=Wc.drewN n) (λ_ _ _ _ _ _ _ _ i _=>64 - (intOf i).toNat)
 case atStart=>subst hS;exact ⟨0,_,by omega,rfl,rfl,rfl,rfl,rfl,rfl,rfl,rfl,rfl,rfl⟩
 case round=>
  obtain ⟨k,n,hk,rfl,rfl,rfl,rfl,rfl,rfl,rfl,rfl,rfl,rfl⟩:=hrel
  by_cases hlt:k<64
  ·have c1:=HAc.out k hlt
   have c2:=hTc.out k hlt
   have hst:to (Wl b.data.toList 64) S (k+1)=rnd (Ks.getD k 0) ((Wl b.data.toList 64).getD k 0) (to (Wl b.data.toList 64) S k):=rfl
   have Hst:Hid (_=_):=hst
   clear hst
   generalize to (Wl b.data.toList 64) S k=T0 at *
   generalize (Wl b.data.toList 64).getD k 0=ww at *
   generalize Ks.getD k 0=kk at *
   obtain ⟨ta,tb,tc,td,te,tf,tg,th⟩:=T0
   dsimp only
   go_wp2_with fail
   refine (rot6 _ _).mono ?_
   rintro _ _ ⟨rfl,rfl⟩
   go_wp2_with fail
   refine (rot11 _ _).mono ?_
   rintro _ _ ⟨rfl,rfl⟩
   go_wp2_with fail
   refine (rot25 _ _).mono ?_
   rintro _ _ ⟨rfl,rfl⟩
   go_wp2_with fail
   go_quiet (fail)
   go_wp2_with fail
   refine (rot2 _ _).mono ?_
   rintro _ _ ⟨rfl,rfl⟩
   go_wp2_with fail
   refine (rot13 _ _).mono ?_
   rintro _ _ ⟨rfl,rfl⟩
   go_wp2_with fail
   refine (rot22 _ _).mono ?_
   rintro _ _ ⟨rfl,rfl⟩
   go_wp2
   go_roundw
   case rel=>exact ⟨k+1,_,by omega,by go_num,by rw [Hst.out];rfl,by rw [Hst.out];rfl,by rw [Hst.out];rfl,by rw [Hst.out];rfl,by rw [Hst.out];rfl,by rw [Hst.out];rfl,by rw [Hst.out];rfl,by rw [Hst.out];rfl,rfl⟩
   case measure=>simp [intOf];omega
  ·have hk64:Hid (k=64):=(by omega:k=64)
   have g0:Wc.cell? ⟨w.heap.size,0,none⟩=some (.int .u32 x0):=cell_of_row _ _ _ _ _ _ Hh.out
   have g1:Wc.cell? ⟨w.heap.size,1,none⟩=some (.int .u32 x1):=cell_of_row _ _ _ _ _ _ Hh.out
   have g2:Wc.cell? ⟨w.heap.size,2,none⟩=some (.int .u32 x2):=cell_of_row _ _ _ _ _ _ Hh.out
   have g3:Wc.cell? ⟨w.heap.size,3,none⟩=some (.int .u32 x3):=cell_of_row _ _ _ _ _ _ Hh.out
   have g4:Wc.cell? ⟨w.heap.size,4,none⟩=some (.int .u32 x4):=cell_of_row _ _ _ _ _ _ Hh.out
   have g5:Wc.cell? ⟨w.heap.size,5,none⟩=some (.int .u32 x5):=cell_of_row _ _ _ _ _ _ Hh.out
   have g6:Wc.cell? ⟨w.heap.size,6,none⟩=some (.int .u32 x6):=cell_of_row _ _ _ _ _ _ Hh.out
   have g7:Wc.cell? ⟨w.heap.size,7,none⟩=some (.int .u32 x7):=cell_of_row _ _ _ _ _ _ Hh.out
   have HE:Hid (to (Wl b.data.toList 64) S k=to (Wl b.data.toList 64) S 64):=(by rw [hk64.out]:to (Wl b.data.toList 64) S k=to (Wl b.data.toList 64) S 64)
   generalize to (Wl b.data.toList 64) S k=T0 at *
   obtain ⟨ta,tb,tc,td,te,tf,tg,th⟩:=T0
   dsimp only
   have hi8:(Tryz.prog.info? 434).map (·.size)=some 8:=by kernel_rfl
   go_wp2_with (refine wpList_store_row rfl 434 _ _ rfl (w.heap.size+1) #[.int .u32 ((x0+ta) % 4294967296),.int .u32 ((x1+tb) % 4294967296),.int .u32 ((x2+tc) % 4294967296),.int .u32 ((x3+td) % 4294967296),.int .u32 ((x4+te) % 4294967296),.int .u32 ((x5+tf) % 4294967296),.int .u32 ((x6+tg) % 4294967296),.int .u32 ((x7+th) % 4294967296)] rfl rfl 434 _ Hr.out hi8 rfl (all8 _ _ _ _ _ _ _ _) ?_)
   refine bodyPost_ret (v:=.agg #[.int .u32 ((x0+ta) % 4294967296),.int .u32 ((x1+tb) % 4294967296),.int .u32 ((x2+tc) % 4294967296),.int .u32 ((x3+td) % 4294967296),.int .u32 ((x4+te) % 4294967296),.int .u32 ((x5+tf) % 4294967296),.int .u32 ((x6+tg) % 4294967296),.int .u32 ((x7+th) % 4294967296)]) (results_cell_row Tryz.results277 _ _ (w.heap.size+1) 434 _ (0,0) (.array 8 429) rfl (setRow_heap (Wc.drewN n) _ _ _ _ _ Hr.out) Tryz.underlying434 rfl hi8) rfl ⟨?_,?_⟩
   ·subst hS
    unfold comp
    rw [<-HE.out]
    rfl
   ·exact below_setRow (w:=Wc.drewN n) (g:=w.heap.size+1) ⟨hBc.os,hBc.tape,hBc.output,hBc.size,hBc.block⟩ (by omega) _
end Go.Proofs.YtighkdnooglfjaaGreatDoor
