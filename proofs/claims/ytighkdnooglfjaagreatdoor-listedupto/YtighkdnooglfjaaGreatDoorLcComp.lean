import Derived.Test.YtighkdnooglfjaaGreatDoorLcRws
import Derived.Test.YtighkdnooglfjaaGreatDoorLcRot
import Derived.Deep.RegionWith
namespace Go.Proofs.YtighkdnooglfjaaGreatDoor
open Tryz
set_option maxRecDepth 100000
set_option maxHeartbeats 1000000
open Go.RowKit

def Ks:List Int:=[1116352408,1899447441,3049323471,3921009573,961987163,1508970993,2453635748,2870763221,3624381080,310598401,607225278,1426881987,1925078388,2162078206,2614888103,3248222580,3835390401,4022224774,264347078,604807628,770255983,1249150122,1555081692,1996064986,2554220882,2821834349,2952996808,3210313671,3336571891,3584528711,113926993,338241895,666307205,773529912,1294757372,1396182291,1695183700,1986661051,2177026350,2456956037,2730485921,2820302411,3259730800,3345764771,3516065817,3600352804,4094571909,275423344,430227734,506948616,659060556,883997877,958139571,1322822218,1537002063,1747873779,1955562222,2024104815,2227730452,2361852424,2428436474,2756734187,3204031479,3329325298]
structure S8 where
 a:Int
 b:Int
 c:Int
 d:Int
 e:Int
 f:Int
 g:Int
 h:Int
def S8.val(s:S8):Value:=.agg #[.int .u32 s.a,.int .u32 s.b,.int .u32 s.c,.int .u32 s.d,.int .u32 s.e,.int .u32 s.f,.int .u32 s.g,.int .u32 s.h]
def t1(k w:Int)(s:S8):Int:=
 s.h+bits .xor .u32 (bits .xor .u32 (rr 6 s.e) (rr 11 s.e)) (rr 25 s.e)+bits .xor .u32 (bits .and .u32 s.e s.f) (bits .and .u32 (bits .xor .u32 IntKind.u32.max s.e) s.g)+k+w
def maj(s:S8):Int:=bits .xor .u32 (bits .xor .u32 (bits .and .u32 s.a s.b) (bits .and .u32 s.a s.c)) (bits .and .u32 s.b s.c)
def rnd(k w:Int)(s:S8):S8:=
 ⟨((t1 k w s+bits .xor .u32 (bits .xor .u32 (rr 2 s.a) (rr 13 s.a)) (rr 22 s.a)) % 4294967296+maj s) % 4294967296,s.a,s.b,s.c,(s.d+t1 k w s % 4294967296) % 4294967296,s.e,s.f,s.g⟩
def addS(s t:S8):S8:=⟨(s.a+t.a) % 4294967296,(s.b+t.b) % 4294967296,(s.c+t.c) % 4294967296,(s.d+t.d) % 4294967296,(s.e+t.e) % 4294967296,(s.f+t.f) % 4294967296,(s.g+t.g) % 4294967296,(s.h+t.h) % 4294967296⟩
def toS(ws:List Int)(s:S8):Nat->S8
 | 0=>s
 | k+1=>rnd (Ks.getD k 0) (ws.getD k 0) (toS ws s k)
def comp(s:S8)(b:List UInt8):S8:=addS s (toS (Wl b 64) s 64)
theorem all8(x0 x1 x2 x3 x4 x5 x6 x7:Int):(#[Value.int .u32 x0,.int .u32 x1,.int .u32 x2,.int .u32 x3,.int .u32 x4,.int .u32 x5,.int .u32 x6,.int .u32 x7]).all (·.oneCell')=true:=by
 simp[Value.oneCell']
theorem Jn6{W w1:World}(hb:Below W.heap.size W w1):(∀b o,b<W.heap.size->w1.cell? ⟨b,o,none⟩=W.cell? ⟨b,o,none⟩)/\(∀b o,b<W.heap.size->w1.frozen? ⟨b,o,none⟩=W.frozen? ⟨b,o,none⟩):=
 ⟨λb o h=>hb.cell (p:=⟨b,o,none⟩) h,λb o h=>hb.frozen (p:=⟨b,o,none⟩) h⟩

theorem JfZ(s:S8)(b:ByteArray)(w:World)(hb:b.size=64)(h7:13<w.heap.size)(hT:∀i,i<64->w.cell? ⟨13,i,none⟩=some (.int .u32 (Ks.getD i 0))):
  Calls prog 277 #[s.val,.string b] w λe w'=>e=.returned (comp s b.data.toList).val/\Below w.heap.size w w':=by
 obtain⟨x0,x1,x2,x3,x4,x5,x6,x7⟩:=s;have HT:Hid _:=hT;unfold S8.val;go_enter func277,ntmps277;go_wp2_with fail;refine(JjM _ _ hb).mono ?_;rintro _ w1⟨rfl,hB⟩;obtain⟨hc,hf⟩:=Jn6 hB;have hA:(arr (Wl b.data.toList 64)).size=64:=JfP _ (by rw[ZK];omega);have hA1:(arr (Wl b.data.toList 64)).all (·.oneCell')=true:=Jid _;have hAc:Hid (∀i,i<64->(arr (Wl b.data.toList 64))[i]? =some (.int .u32 ((Wl b.data.toList 64).getD i 0))):=λi hi=>Jic _ _ (by rw[ZK];exact hi);generalize arr (Wl b.data.toList 64)=A at *;have hi:(prog.info? 486).map (·.size)=some A.size:=by rw[hA];kernel_rfl
 go_wp2_with (refine wpList_store_row rfl 486 _ _ rfl w1.heap.size A rfl rfl 486 _ (heap_alloc_new _ _) hi (by rw[hA];rfl) hA1 ?_);generalize hWc:(World.alloc w1 _).setRow w1.heap.size A=Wc;have hz:w.heap.size+1<w1.heap.size:=by have:=hB.size;simp at this;omega
 have hB0:=(((Below.refl _ _).alloc (Nat.le_refl _) _).alloc (by simp) _).trans (hB.mono (by simp;omega));have hBc:Below w.heap.size w Wc:=by rw[<-hWc];exact XO (hB0.alloc hB0.size _) hB0.size _
 have hbk:∀k,k<w1.heap.size->Wc.heap[k]? =w1.heap[k]? :=λk hk=>by rw[<-hWc,setRow_other _ _ _ _ (by omega),Below.heap_alloc _ _ _ hk]
 have hw:Wc.heap[w1.heap.size]? =some (.cells A 486):=by rw[<-hWc];exact setRow_heap _ _ _ _ _ _ (heap_alloc_new _ _)
 have HAc:Hid (∀i,i<64->Wc.cell? ⟨w1.heap.size,i,none⟩=some (.int .u32 ((Wl b.data.toList 64).getD i 0))):=λi hi=>by rw[cell_of_row _ _ _ _ _ _ hw];exact hAc i hi
 have hTc:Hid (∀i,i<64->Wc.cell? ⟨13,i,none⟩=some (.int .u32 (Ks.getD i 0))):=λi hi=>by rw[hBc.cell (p:=⟨13,i,none⟩) h7];exact HT i hi
 have hh:Wc.heap[w.heap.size]? =some (.cells #[.int .u32 x0,.int .u32 x1,.int .u32 x2,.int .u32 x3,.int .u32 x4,.int .u32 x5,.int .u32 x6,.int .u32 x7] 434):=by rw[hbk _ (by omega),hB.block _ (by simp;omega),heap_alloc2_old]
 have hr:Wc.heap[w.heap.size+1]? =some (.cells #[.int .u32 0,.int .u32 0,.int .u32 0,.int .u32 0,.int .u32 0,.int .u32 0,.int .u32 0,.int .u32 0] 434):=by rw[hbk _ (by omega),hB.block _ (by simp),heap_alloc2_new]
 obtain⟨g0,g1,g2,g3,g4,g5,g6,g7⟩:=rows hh;have Hr:Hid _:=hr;have Hh:Hid _:=hh;go_quiet (fail);go_wp2;generalize hS:(⟨x0,x1,x2,x3,x4,x5,x6,x7⟩:S8)=S;go_loopw [6,7,8,9,10,11,12,13,38] (λva vb vc vd ve vf vg vh i wr=>∃k n:Nat,k<=64/\i=.int .i64 k/\va=.int .u32 (toS (Wl b.data.toList 64) S k).a/\vb=.int .u32 (toS (Wl b.data.toList 64) S k).b/\vc=.int .u32 (toS (Wl b.data.toList 64) S k).c/\vd=.int .u32 (toS (Wl b.data.toList 64) S k).d/\ve=.int .u32 (toS (Wl b.data.toList 64) S k).e/\vf=.int .u32 (toS (Wl b.data.toList 64) S k).f/\vg=.int .u32 (toS (Wl b.data.toList 64) S k).g/\vh=.int .u32 (toS (Wl b.data.toList 64) S k).h/\wr=Wc.drewN n) (λ_ _ _ _ _ _ _ _ i _=>64-(intOf i).toNat)
 case atStart=>subst hS;exact⟨0,_,by omega,rfl,rfl,rfl,rfl,rfl,rfl,rfl,rfl,rfl,rfl⟩
 case round=>
  obtain⟨k,n,hk,rfl,rfl,rfl,rfl,rfl,rfl,rfl,rfl,rfl,rfl⟩:=hrel
  by_cases hlt:k<64
  ·have c1:=HAc k hlt;have c2:=hTc k hlt;have hst:toS (Wl b.data.toList 64) S (k+1)=rnd (Ks.getD k 0) ((Wl b.data.toList 64).getD k 0) (toS (Wl b.data.toList 64) S k):=rfl;have Hst:Hid _:=hst;generalize toS (Wl b.data.toList 64) S k=T0 at *;generalize (Wl b.data.toList 64).getD k 0=ww at *;generalize Ks.getD k 0=kk at *;obtain⟨ta,tb,tc,td,te,tf,tg,th⟩:=T0;dsimp only;go_wp2_with fail;refine(rot6 _ _).mono ?_;rintro _ _⟨rfl,rfl⟩;go_wp2_with fail;refine(Jom _ _).mono ?_;rintro _ _⟨rfl,rfl⟩;go_wp2_with fail;refine(Jos _ _).mono ?_;rintro _ _⟨rfl,rfl⟩;go_wp2_with fail;go_quiet (fail);go_wp2_with fail;refine(rot2 _ _).mono ?_;rintro _ _⟨rfl,rfl⟩;go_wp2_with fail;refine(Jon _ _).mono ?_;rintro _ _⟨rfl,rfl⟩;go_wp2_with fail;refine(Jor _ _).mono ?_;rintro _ _⟨rfl,rfl⟩;go_wp2;go_roundw
   case rel=>exact⟨k+1,_,by omega,by go_num,by rw[Hst.out];rfl,by rw[Hst.out];rfl,by rw[Hst.out];rfl,by rw[Hst.out];rfl,by rw[Hst.out];rfl,by rw[Hst.out];rfl,by rw[Hst.out];rfl,by rw[Hst.out];rfl,rfl⟩
   case measure=>simp[intOf];omega
  ·have hk64:Hid (k=64):=(by omega:k=64)
   obtain⟨g0,g1,g2,g3,g4,g5,g6,g7⟩:=rows Hh.out;have HE:Hid (toS (Wl b.data.toList 64) S k=toS (Wl b.data.toList 64) S 64):=(by rw[hk64.out]:toS (Wl b.data.toList 64) S k=toS (Wl b.data.toList 64) S 64)
   generalize toS (Wl b.data.toList 64) S k=T0 at *;obtain⟨ta,tb,tc,td,te,tf,tg,th⟩:=T0;dsimp only;have hi8:(prog.info? 434).map (·.size)=some 8:=(by kernel_rfl);go_wp2_with (refine wpList_store_row rfl 434 _ _ rfl (w.heap.size+1) #[.int .u32 ((x0+ta) % 4294967296),.int .u32 ((x1+tb) % 4294967296),.int .u32 ((x2+tc) % 4294967296),.int .u32 ((x3+td) % 4294967296),.int .u32 ((x4+te) % 4294967296),.int .u32 ((x5+tf) % 4294967296),.int .u32 ((x6+tg) % 4294967296),.int .u32 ((x7+th) % 4294967296)] rfl rfl 434 _ Hr hi8 rfl (all8 _ _ _ _ _ _ _ _) ?_);refine bodyPost_ret (v:=.agg #[.int .u32 ((x0+ta) % 4294967296),.int .u32 ((x1+tb) % 4294967296),.int .u32 ((x2+tc) % 4294967296),.int .u32 ((x3+td) % 4294967296),.int .u32 ((x4+te) % 4294967296),.int .u32 ((x5+tf) % 4294967296),.int .u32 ((x6+tg) % 4294967296),.int .u32 ((x7+th) % 4294967296)]) (results_cell_row results277 _ _ (w.heap.size+1) 434 _ (0,0) (.array 8 429) rfl (setRow_heap (Wc.drewN n) _ _ _ _ _ Hr) underlying434 rfl hi8) rfl ⟨?_,?_⟩
   ·subst hS;unfold comp;rw[<-HE.out];rfl
   ·exact XO (w:=Wc.drewN n) (g:=w.heap.size+1) ⟨hBc.os,hBc.tape,hBc.output,hBc.size,hBc.block⟩ (by omega) _

theorem Jof:(prog.info? 5).map (λi=>(i.zero,i.size,i.bytes))=some (some (.int .u8 0),1,1):=by kernel_rfl
def bc(l:List UInt8):List Value:=l.map λb=>Value.int .u8 b.toNat
theorem Yt(l:List UInt8):(bc l).length=l.length:=by simp[bc]
theorem ZL(l m:List UInt8):bc (l++m)=bc l++bc m:=by simp[bc]
def slen:Value->Nat
 | .slice _ n _=>n
 | _=>0
def zs(n:Nat):Nat:=(119-n % 64) % 64
def be8(n k:Nat):List UInt8:=(List.range k).map λj=>UInt8.ofNat (n/2 ^ (56-8*j))
theorem JkB(pre:List UInt8)(n j:Nat):bc (pre++be8 (n*8) (j+1))=bc (pre++be8 (n*8) j)++[.int .u8 ((n:Int)*8/2 ^ (56-8*j) % 256)]:=by
 have h:be8 (n*8) (j+1)=be8 (n*8) j++[UInt8.ofNat (n*8/2 ^ (56-8*j))]:=by simp[be8,List.range_succ]
 rw[h,<-List.append_assoc,ZL]
 congr 1
def padL(r:List UInt8)(n:Nat):List UInt8:=r++[128]++List.replicate (zs r.length) 0++be8 (n*8) 8

theorem JmM(s:ByteArray)(n:Nat)(w:World)(hs:s.size<64)(hn:n<1152921504606846976):
  Calls prog 278 #[.string s,.int .i64 n] w λe w'=>e=.returned (.string ⟨(padL s.data.toList n).toArray⟩)/\Below w.heap.size w w':=by
 obtain⟨i0,hi,hz0,hz1,hz2⟩:=info_parts Jof;obtain⟨v0,w0,hrun,hbs,hg⟩:=JeW (P:=prog) w 9 52 5 s underlying9 underlying52 underlying5 (by simp[maxLen];omega);have hB0:=(Below.refl _ _).grown hg (Nat.le_refl _) (λ_ e=>by cases e);have hl0:=byteCells_length s;go_enter func278,ntmps278;go_wp2_with (at_builtin;refine XL rfl _ _ 52 52 5 rfl i0 _ underlying52 hi hz0 hz1 hz2 rfl rfl (hbs.alloc _) _ 1 [.int .u8 128] rfl (Src.ofSlice _ underlying52 _ 1 1 _ rfl (cell_one_new _ _ _) (by simp[Value.oneCell'])) (by rw[hl0];omega) (by have:=hg.size;simp;omega) ?_;intro v1 w1 hbs1 hg1 _);have hbs1':Bs w.heap.size w1 v1 (bc (s.data.toList++[128]++List.replicate 0 0)):=by simpa [bc,byteCells]using hbs1
 have hB1:Below w.heap.size w w1:=by refine(hB0.alloc hB0.size _).grown hg1 (by have:=hB0.size;simp;omega) (λk e=>?_);exact(hbs.own k e).1
 go_loopw [5] (λv wr=>∃k:Nat,k<=zs s.size/\Bs w.heap.size wr v (bc (s.data.toList++[128]++List.replicate k 0))/\Below w.heap.size w wr) (λv _=>200-slen v)
 case atStart=>exact⟨0,Nat.zero_le _,hbs1',hB1⟩
 case round=>
  obtain⟨k,hk,hb,hB⟩:=hrel;have hL:(bc (s.data.toList++[128]++List.replicate k 0)).length=s.size+1+k:=by have:s.data.toList.length=s.size:=(by simp);rw[Yt];simp;omega
  obtain⟨a,c,rfl⟩:∃a c,u5=.slice a (s.size+1+k) c:=by rw[<-hL];exact hb.shape
  have hzs:zs s.size<64:=Nat.mod_lt _ (by omega)
  by_cases hk2:k<zs s.size
  ·have ht:(((s.size:Int)+1+(k:Int)) % 64 != 56)=true:=by
    rw[bne_iff_ne];unfold zs at hk2 hzs;omega
   have hsz:=hB.size;go_wp2_with (at_builtin;refine XL rfl _ _ 52 52 5 rfl i0 _ underlying52 hi hz0 hz1 hz2 rfl rfl (hb.alloc _) _ 1 [.int .u8 0] rfl (Src.ofSlice _ underlying52 _ 1 1 _ rfl (cell_one_new _ _ _) (by simp[Value.oneCell'])) (by rw[hL];omega) (by simp;omega) ?_;intro v2 w2 hbs2 hg2 _);have hb2:Bs w.heap.size w2 v2 (bc (s.data.toList++[128]++List.replicate (k+1) 0)):=(by have e:bc (s.data.toList++[128]++List.replicate (k+1) 0)=bc (s.data.toList++[128]++List.replicate k 0)++[.int .u8 0]:=(by rw[List.replicate_succ',<-List.append_assoc,ZL];rfl);rw[e];exact hbs2);have hB2:=(hB.alloc hB.size _).grown hg2 (by simp;omega) (λk e=>(hb.own k e).1);obtain⟨a2,c2,hv2⟩:=hbs2.shape;go_roundw
   case rel=>exact⟨k+1,by omega,hb2,hB2⟩
   case measure=>have hL2:(bc (s.data.toList++[128]++List.replicate k 0)++[Value.int .u8 0]).length=s.size+1+k+1:=(by rw[List.length_append,hL];rfl);rw[hv2,hL2];simp[slen];omega
  ·have ht:((s.size:Int)+1+(k:Int)) % 64=56:=(by unfold zs at hk2 hk hzs;omega);have hkz:Hid (k=zs s.size):=(by omega:k=zs s.size)
   go_wp2;have HE:Hid (s.data.toList++[128]++List.replicate k 0=s.data.toList++[128]++List.replicate (zs s.data.toList.length) 0):=by show _=_;rw[hkz.out];simp
   generalize s.data.toList++[128]++List.replicate k 0=pre at *;have hL0:pre.length=s.size+1+k:=(by rw[<-Yt];exact hL);go_loopw [5,7] (λv i wr=>∃j:Nat,j<=8/\i=.int .i64 (56-8*(j:Int))/\Bs w.heap.size wr v (bc (pre++be8 (n*8) j))/\Below w.heap.size w wr) (λ_ i _=>(intOf i+8).toNat)
   case atStart=>exact⟨0,by omega,rfl,by simpa [be8]using hb,hB⟩
   case round=>
    clear hb hB ht hL hk2 hkz;obtain⟨j,hj,rfl,hb,hB⟩:=hrel;have hL:(bc (pre++be8 (n*8) j)).length=s.size+1+k+j:=by rw[Yt];simp[be8,hL0]
    by_cases hj2:j<8
    ·have hsz:=hB.size;go_wp2_with (at_builtin;refine XL rfl _ _ 52 52 5 rfl i0 _ underlying52 hi hz0 hz1 hz2 rfl rfl (hb.alloc _) _ 1 [_] rfl (Src.ofSlice _ underlying52 _ 1 1 _ rfl (cell_one_new _ _ _) (by simp[Value.oneCell'])) (by rw[hL];omega) (by simp;omega) ?_;intro v2 w2 hbs2 hg2 _);have hb2:Bs w.heap.size w2 v2 (bc (pre++be8 (n*8) (j+1))):=(by rw[JkB];exact hbs2);have hB2:=(hB.alloc hB.size _).grown hg2 (by simp;omega) (λk e=>(hb.own k e).1);exact⟨⟨j+1,by omega,congrArg (Value.int .i64) (by omega),hb2,hB2⟩,by simp only[intOf];omega⟩
    ·have hj8:Hid (j=8):=(by omega:j=8)
     have hstr:=Ya (P:=prog) hb 52 9 5 underlying52 underlying5 underlying9;have HE2:Hid (pre++be8 (n*8) j=padL s.data.toList n):=(by show _=_;rw[hj8.out,HE.out];rfl);generalize pre++be8 (n*8) j=fin at *;go_wp2;go_ret;exact⟨by rw[<-HE2.out];rfl,hB⟩

def JcY(x:Int)(j:Nat):Int:=x/2 ^ (24-8*j) % 256
def S8.list(s:S8):List Int:=[s.a,s.b,s.c,s.d,s.e,s.f,s.g,s.h]
def asB(s:S8):Nat->List Int
 | 0=>[]
 | k+1=>asB s k++[JcY (s.list.getD (k/4) 0) (k % 4)]
theorem Zo(s:S8)(k:Nat):(asB s k).length=k:=by
 induction k with
 | zero=>rfl
 | succ k ih=>simp[asB,ih]
theorem Jkz(s:S8)(k j:Nat)(hj:j<4):asB s (4*k+(j+1))=asB s (4*k+j)++[JcY (s.list.getD k 0) j]:=by
 show asB s (4*k+j)++[JcY (s.list.getD ((4*k+j)/4) 0) ((4*k+j) % 4)]=_;rw[show (4*k+j)/4=k by omega,show (4*k+j) % 4=j by omega]
def arr8(l:List Int):Array Value:=(l.map (Value.int .u8)++List.replicate (32-l.length) (Value.int .u8 0)).toArray
theorem Jkx(l:List Int)(k:Nat)(hk:k<l.length):(arr8 l)[k]? =some (.int .u8 (l.getD k 0)):=by
 simp[arr8,List.getElem?_append,hk,List.getD_eq_getElem?_getD]
theorem Jkw(l:List Int)(hk:l.length<32):(arr8 l)[l.length]? =some (.int .u8 0):=by
 have:¬32-l.length=0:=by omega
 simp[arr8,List.getElem?_append,List.getElem?_replicate];omega
theorem Jky(l:List Int)(v:Int)(hk:l.length<32):(arr8 l).setIfInBounds l.length (.int .u8 v)=arr8 (l++[v]):=by
 obtain⟨m,hm⟩:∃m,32-l.length=m+1:=⟨31-l.length,by omega⟩
 have hm':32-(l++[v]).length=m:=by simp;omega
 unfold arr8;rw[hm,hm',List.replicate_succ];simp[List.setIfInBounds_toArray]
theorem JbY(l:List Int)(h:l.length<=32):(arr8 l).size=32:=by simp[arr8];omega
theorem JcW(l:List Int):(arr8 l).all (·.oneCell')=true:=by
 rw[Array.all_eq_true_iff_forall_mem];intro v hv;simp[arr8]at hv
 rcases hv with⟨a,_,rfl⟩|⟨_,rfl⟩<;>rfl
abbrev W3(w:World)(o:Obj)(l:List Int):World:=((w.alloc o).alloc (.cells (arr8 []) 335)).alloc (.cells (arr8 l) 335)
theorem JeP(w:World)(o:Obj)(l:List Int):(W3 w o l).heap[w.heap.size+1+1]? =some (.cells (arr8 l) 335):=by
 have:=heap_alloc_new ((w.alloc o).alloc (.cells (arr8 []) 335)) (.cells (arr8 l) 335);simpa using this
theorem Jnm(w:World)(o:Obj)(l:List Int)(k:Nat)(hl:l.length=k)(hk:k<32):(W3 w o l).cell? ⟨w.heap.size+1+1,k,none⟩=some (.int .u8 0):=by
 subst hl;rw[cell_of_row _ _ _ _ _ _ (JeP w o l)];exact Jkw l hk
theorem JiH(w:World)(o:Obj)(l:List Int)(k:Nat):(W3 w o l).frozen? ⟨w.heap.size+1+1,k,none⟩=false:=frozen_of_row _ _ _ _ _ (JeP w o l)
theorem Jnn(w:World)(o:Obj)(l:List Int)(v:Int)(k:Nat)(hl:l.length=k)(hk:k<32):(W3 w o l).setCell ⟨w.heap.size+1+1,k,none⟩ (.int .u8 v)=W3 w o (l++[v]):=by
 subst hl;rw[World.setCell_alloc_at _ _ _ _ _ (by simp),Jky l v hk]
theorem Jks(w:World)(o:Obj)(l:List Int):Below w.heap.size w (W3 w o l):=
 (((Below.refl w.heap.size w).alloc (Nat.le_refl _) o).alloc (by simp) _).alloc (by simp;omega) _
theorem Jnx(x0 x1 x2 x3 x4 x5 x6 x7:Int)(k:Nat)(hk:k<8)(w:World):
  (Instr.index 434 (.agg #[.int .u32 x0,.int .u32 x1,.int .u32 x2,.int .u32 x3,.int .u32 x4,.int .u32 x5,.int .u32 x6,.int .u32 x7]) (.int .i64 (k:Int))).run prog w=.ok (.int .u32 ((S8.list ⟨x0,x1,x2,x3,x4,x5,x6,x7⟩).getD k 0)) w:=by
 obtain rfl|rfl|rfl|rfl|rfl|rfl|rfl|rfl:k=0\/k=1\/k=2\/k=3\/k=4\/k=5\/k=6\/k=7:=by omega
 all_goals kernel_rfl

theorem Jl7(s:S8)(w:World):
  Calls prog 279 #[s.val] w λe w'=>e=.returned (.agg (arr8 (asB s 32)))/\Below w.heap.size w w':=by
 obtain⟨x0,x1,x2,x3,x4,x5,x6,x7⟩:=s;unfold S8.val;have hix:=Jnx x0 x1 x2 x3 x4 x5 x6 x7;go_enter func279,ntmps279;go_wp2;generalize hS:(⟨x0,x1,x2,x3,x4,x5,x6,x7⟩:S8)=S at *;have HSS:Hid _:=hS;generalize hO:(Obj.cells #[.int .u32 x0,.int .u32 x1,.int .u32 x2,.int .u32 x3,.int .u32 x4,.int .u32 x5,.int .u32 x6,.int .u32 x7] 434)=O;have HX:Hid _:=hix;clear hix;go_loopw [8] (λi wr=>∃k:Nat,k<=8/\i=.int .i64 k/\wr=W3 w O (asB S (4*k))) (λi _=>8-(intOf i).toNat)
 case atStart=>exact⟨0,by omega,rfl,rfl⟩
 case round=>
  obtain⟨k,hk,rfl,rfl⟩:=hrel
  by_cases hlt:k<8
  ·have hx:=HX k hlt;have HN:Hid (∀j:Nat,j<4->_):=λj hj=>Jkz S k j hj;generalize S.list.getD k 0=x at hx HN;have hd:decide ((k:Int)<8)=true:=(by simp;omega);go_wp2;go_loopw [12] (λi wr=>∃j:Nat,j<=4/\i=.int .i64 j/\wr=W3 w O (asB S (4*k+j))) (λi _=>4-(intOf i).toNat)
   case atStart=>exact⟨0,by omega,rfl,rfl⟩
   case round=>
    obtain⟨j,hj,rfl,rfl⟩:=hrel
    by_cases hj2:j<4
    ·have hl:=Zo S (4*k+j);have hc:=Jnm w O (asB S (4*k+j)) (4*k+j) hl (by omega);have hf:=JiH w O (asB S (4*k+j)) (4*k+j);have HS:Hid (∀v,_):=λv=>Jnn w O (asB S (4*k+j)) v (4*k+j) hl (by omega);generalize hW:W3 w O (asB S (4*k+j))=W at *;go_wp2;go_roundw
     case rel=>exact⟨j+1,by omega,by go_num,by rw[HN.out j hj2];exact HS _⟩
     case measure=>simp[intOf];omega
    ·have HJ:Hid (4*k+j=4*(k+1)):=(by omega:4*k+j=4*(k+1))
     go_wp2;go_roundw
     case rel=>exact⟨k+1,by omega,by go_num,by rw[HJ.out]⟩
     case measure=>simp[intOf];omega
  ·have hk8:Hid (k=8):=(by omega:k=8)
   have hA:(arr8 (asB S (4*k))).size=32:=JbY _ (by rw[Zo];omega);have hA1:(arr8 (asB S (4*k))).all (·.oneCell')=true:=JcW _;have hG:=JeP w O (asB S (4*k));have hG0:(W3 w O (asB S (4*k))).heap[w.heap.size+1]? =some (.cells (arr8 []) 335):=(by rw[Below.heap_alloc _ _ _ (by simp)];have:=heap_alloc_new (w.alloc O) (.cells (arr8 []) 335);simpa using this);have hB:Below w.heap.size w (W3 w O (asB S (4*k))):=Jks _ _ _;generalize W3 w O (asB S (4*k))=W at *;have HE:Hid (arr8 (asB S (4*k))=arr8 (asB S 32)):=(by rw[hk8.out]:arr8 (asB S (4*k))=arr8 (asB S 32))
   generalize arr8 (asB S (4*k))=A at *;have hi:(prog.info? 335).map (·.size)=some A.size:=(by rw[hA];kernel_rfl);go_wp2_with (first|(refine wpList_load_row rfl 335 _ rfl (w.heap.size+1+1) rfl 335 A (0,0) (.array 32 5) hG underlying335 rfl hi ?_)|(refine wpList_store_row rfl 335 _ _ rfl (w.heap.size+1) A rfl rfl 335 (arr8 []) hG0 hi (by rw[hA];rfl) hA1 ?_));refine bodyPost_ret (v:=.agg A) (results_cell_row results279 _ _ (w.heap.size+1) 335 A (0,0) (.array 32 5) rfl (setRow_heap _ _ _ _ _ _ hG0) underlying335 rfl hi) rfl ⟨by rw[HE.out,<-HSS.out],XO hB (by omega) _⟩

def H0:S8:=⟨1779033703,3144134277,1013904242,2773480762,1359893119,2600822924,528734635,1541459225⟩
def Jfy:Value->Nat
 | .string s=>s.size
 | _=>0
def ZO:Nat->S8->List UInt8->S8
 | 0,s,_=>s
 | n+1,s,l=>comp (ZO n s l) ((l.drop (64*n)).take 64)

def shaS(l:List UInt8):S8:=
 ZO ((padL (l.drop (64*(l.length/64))) l.length).length/64) (ZO (l.length/64) H0 l) (padL (l.drop (64*(l.length/64))) l.length)
theorem set8(w:World)(g:Nat)(t:TypeId)(old:Array Value)(v0 v1 v2 v3 v4 v5 v6 v7:Value)(ho:old.size=8)(h:w.heap[g]? =some (.cells old t (0,0))):
  (((((((w.setCell ⟨g,0,none⟩ v0).setCell ⟨g,1,none⟩ v1).setCell ⟨g,2,none⟩ v2).setCell ⟨g,3,none⟩ v3).setCell ⟨g,4,none⟩ v4).setCell ⟨g,5,none⟩ v5).setCell ⟨g,6,none⟩ v6).setCell ⟨g,7,none⟩ v7=w.setRow g #[v0,v1,v2,v3,v4,v5,v6,v7]:=by
 rw[setCell_eq_setRow w g 0 old t (0,0) v0 h,
  setCell_eq_setRow _ g 1 _ t (0,0) v1 (setRow_heap _ _ _ _ _ _ h),setRow_setRow,
  setCell_eq_setRow _ g 2 _ t (0,0) v2 (setRow_heap _ _ _ _ _ _ h),setRow_setRow,
  setCell_eq_setRow _ g 3 _ t (0,0) v3 (setRow_heap _ _ _ _ _ _ h),setRow_setRow,
  setCell_eq_setRow _ g 4 _ t (0,0) v4 (setRow_heap _ _ _ _ _ _ h),setRow_setRow,
  setCell_eq_setRow _ g 5 _ t (0,0) v5 (setRow_heap _ _ _ _ _ _ h),setRow_setRow,
  setCell_eq_setRow _ g 6 _ t (0,0) v6 (setRow_heap _ _ _ _ _ _ h),setRow_setRow,
  setCell_eq_setRow _ g 7 _ t (0,0) v7 (setRow_heap _ _ _ _ _ _ h),setRow_setRow]
 refine congrArg (w.setRow g) ?_;obtain⟨l⟩:=old
 match l,ho with
 | [_,_,_,_,_,_,_,_],_=>simp
structure At8(w:World)(g:Nat)(s:S8):Prop where
 row:w.heap[g]? =some (.cells #[.int .u32 s.a,.int .u32 s.b,.int .u32 s.c,.int .u32 s.d,.int .u32 s.e,.int .u32 s.f,.int .u32 s.g,.int .u32 s.h] 434)

theorem Jcw{w wr w1:World}{T0:S8}(C:S8)(hR:wr.heap[w.heap.size]? =some (.cells (arr8 []) 335))(hA:At8 wr (w.heap.size+1) T0)(hB:Below w.heap.size w wr)(hB1:Below wr.heap.size wr w1)(hN:w.heap.size+1<wr.heap.size):
  (((((((((w1.setCell ⟨w.heap.size+1,0,none⟩ (.int .u32 C.a)).setCell ⟨w.heap.size+1,1,none⟩ (.int .u32 C.b)).setCell ⟨w.heap.size+1,2,none⟩ (.int .u32 C.c)).setCell ⟨w.heap.size+1,3,none⟩ (.int .u32 C.d)).setCell ⟨w.heap.size+1,4,none⟩ (.int .u32 C.e)).setCell ⟨w.heap.size+1,5,none⟩ (.int .u32 C.f)).setCell ⟨w.heap.size+1,6,none⟩ (.int .u32 C.g)).setCell ⟨w.heap.size+1,7,none⟩ (.int .u32 C.h))).heap[w.heap.size]? =some (.cells (arr8 []) 335)/\
  At8 ((((((((w1.setCell ⟨w.heap.size+1,0,none⟩ (.int .u32 C.a)).setCell ⟨w.heap.size+1,1,none⟩ (.int .u32 C.b)).setCell ⟨w.heap.size+1,2,none⟩ (.int .u32 C.c)).setCell ⟨w.heap.size+1,3,none⟩ (.int .u32 C.d)).setCell ⟨w.heap.size+1,4,none⟩ (.int .u32 C.e)).setCell ⟨w.heap.size+1,5,none⟩ (.int .u32 C.f)).setCell ⟨w.heap.size+1,6,none⟩ (.int .u32 C.g)).setCell ⟨w.heap.size+1,7,none⟩ (.int .u32 C.h)) (w.heap.size+1) C/\
  Below w.heap.size w ((((((((w1.setCell ⟨w.heap.size+1,0,none⟩ (.int .u32 C.a)).setCell ⟨w.heap.size+1,1,none⟩ (.int .u32 C.b)).setCell ⟨w.heap.size+1,2,none⟩ (.int .u32 C.c)).setCell ⟨w.heap.size+1,3,none⟩ (.int .u32 C.d)).setCell ⟨w.heap.size+1,4,none⟩ (.int .u32 C.e)).setCell ⟨w.heap.size+1,5,none⟩ (.int .u32 C.f)).setCell ⟨w.heap.size+1,6,none⟩ (.int .u32 C.g)).setCell ⟨w.heap.size+1,7,none⟩ (.int .u32 C.h)):=by
 have row1:=(hB1.block _ hN).trans hA.row;rw[set8 w1 (w.heap.size+1) 434 _ _ _ _ _ _ _ _ _ rfl row1];refine⟨?_,⟨setRow_heap _ _ _ _ _ _ row1⟩,XO (hB.trans (hB1.mono hB.size)) (by omega) _⟩;rw[setRow_other _ _ _ _ (by omega),hB1.block _ (by omega)];exact hR
theorem Jf5(r:ByteArray)(l:List UInt8)(n:Nat)(h:r.data.toList=l):(r.extract 0 n).data.toList=l.take n:=by
 subst h;simp[ByteArray.data_extract]
theorem Jf4(r:ByteArray)(l:List UInt8)(n m:Nat)(h:r.data.toList=l.drop m):(r.extract n r.size).data.toList=l.drop (m+n):=by
 have hz:r.size=r.data.toList.length:=by simp
 rw[ByteArray.data_extract,Array.toList_extract,List.extract_eq_take_drop,<-List.drop_drop,<-h];exact List.take_of_length_le (by rw[List.length_drop,<-hz];exact Nat.le_refl _)

theorem JgE(r:List UInt8)(n:Nat):(padL r n).length % 64=0:=by
 simp[padL,be8,zs];omega
theorem Je4(q:ByteArray)(h:q.size=0):q.toList.isEmpty=true:=by
 have hl:q.data.toList.length=0:=by rw[<-h];simp
 rw[ByteArray.toList_eq,List.eq_nil_of_length_eq_zero hl];rfl
theorem JdW(q:ByteArray)(h:0<q.size):q.toList.isEmpty=false:=by
 have hl:q.data.toList.length=q.size:=by simp
 rw[ByteArray.toList_eq]
 cases hx:q.data.toList with
 | nil=>rw[hx]at hl;simp at hl;omega
 | cons _ _=>rfl

theorem JmS(s:ByteArray)(w:World)(hs:s.size<1152921504606846976)(h7:13<w.heap.size)(hT:∀i,i<64->w.cell? ⟨13,i,none⟩=some (.int .u32 (Ks.getD i 0))):
  Calls prog 199 #[.string s] w λe w'=>e=.returned (.agg (arr8 (asB (shaS s.data.toList) 32)))/\Below w.heap.size w w':=by
 have HT:Hid _:=hT;go_enter func199,ntmps199;go_wp2;go_loopw [4] (λv wr=>∃(k:Nat)(r:ByteArray),64*k<=s.size/\v=.string r/\r.data.toList=s.data.toList.drop (64*k)/\wr.heap[w.heap.size]? =some (.cells (arr8 []) 335)/\At8 wr (w.heap.size+1) (ZO k H0 s.data.toList)/\Below w.heap.size w wr) (λv _=>Jfy v)
 case atStart=>exact⟨0,s,by omega,rfl,rfl,heap_alloc2_old _ _ _,⟨heap_alloc2_new _ _ _⟩,((Below.refl _ _).alloc (Nat.le_refl _) _).alloc (by simp) _⟩
 case round=>
  obtain⟨k,r,hk,rfl,(Hr:Hid _),hR,hA,hB⟩:=hrel;have hrs:r.size=s.size-64*k:=by have:r.data.toList.length=(s.data.toList.drop (64*k)).length:=(by rw[Hr]);simpa using this
  have hN:w.heap.size+1<wr.heap.size:=by have:=hA.row;exact(Array.getElem?_eq_some_iff.1 this).1
  by_cases hlt:64*(k+1)<=s.size
  ·have Hst:Hid (ZO (k+1) H0 s.data.toList=comp (ZO k H0 s.data.toList) ((s.data.toList.drop (64*k)).take 64)):=rfl;have Hrx:Hid ((r.extract 0 64).data.toList=(s.data.toList.drop (64*k)).take 64/\(r.extract 64 (s.size-64*k)).data.toList=s.data.toList.drop (64*(k+1))):=⟨Jf5 r _ 64 Hr,by rw[<-hrs,show 64*(k+1)=64*k+64 by omega];exact Jf4 r _ 64 (64*k) Hr⟩
   generalize ZO k H0 s.data.toList=T0 at *;have hrow:=hA.row;have HR:Hid _:=hrow;obtain⟨c0,c1,c2,c3,c4,c5,c6,c7⟩:=rows hrow;have f0:∀j,wr.frozen? ⟨w.heap.size+1,j,none⟩=false:=λj=>frozen_of_row _ _ _ _ _ hrow;have hge:(64:Int)<=(r.size:Int):=(by omega);have hx64:(r.extract 0 64).size=64:=(by simp;omega);have h7r:13<wr.heap.size:=(by omega);have HTr:Hid (∀i,i<64->wr.cell? ⟨13,i,none⟩=some (.int .u32 (Ks.getD i 0))):=λi hi=>by rw[hB.cell (p:=⟨13,i,none⟩) h7];exact HT i hi
   go_wp2;go_region_with (go_at_call 277;refine(JfZ T0 _ _ ?_ ?_ ?_).mono ?_;exact hx64;exact h7r;exact HTr.out;rintro _ w1⟨rfl,(HB1:Hid _)⟩;have d0:=(HB1.cell (p:=⟨w.heap.size+1,0,none⟩) hN).trans c0;have d1:=(HB1.cell (p:=⟨w.heap.size+1,1,none⟩) hN).trans c1;have d2:=(HB1.cell (p:=⟨w.heap.size+1,2,none⟩) hN).trans c2;have d3:=(HB1.cell (p:=⟨w.heap.size+1,3,none⟩) hN).trans c3;have d4:=(HB1.cell (p:=⟨w.heap.size+1,4,none⟩) hN).trans c4;have d5:=(HB1.cell (p:=⟨w.heap.size+1,5,none⟩) hN).trans c5;have d6:=(HB1.cell (p:=⟨w.heap.size+1,6,none⟩) hN).trans c6;have d7:=(HB1.cell (p:=⟨w.heap.size+1,7,none⟩) hN).trans c7;have g0:∀j,_:=λj=>(HB1.frozen (p:=⟨w.heap.size+1,j,none⟩) hN).trans (f0 j);generalize hC:comp T0 _=C;have HC:Hid _:=hC;unfold S8.val)
   all_goals
    go_wp2;go_roundw
    case rel=>obtain⟨e1,e2,e3⟩:=Jcw C hR hA hB ⟨HB1.os,HB1.tape,HB1.output,HB1.size,HB1.block⟩ hN;exact⟨k+1,_,hlt,rfl,Hrx.2,e1,by rw[Hst.out,<-Hrx.out.1,HC.out];exact e2,e3⟩
    case measure=>simp[Jfy];omega
  ·have hr64:r.size<64:=(by omega);generalize hT0:ZO k H0 s.data.toList=T0 at *;have HT0:Hid _:=hT0;have Hk:Hid (k=s.size/64):=(by omega:k=s.size/64)
   have hlt2:¬(64:Int)<=(r.size:Int):=(by omega);clear hT0 hlt;go_wp2_with (go_at_call 278;refine(JmM r s.size _ hr64 hs).mono ?_;rintro _ w1⟨rfl,hB1⟩);have hR1:=(hB1.block _ (by omega)).trans hR;have hA1:At8 w1 (w.heap.size+1) T0:=⟨(hB1.block _ hN).trans hA.row⟩
   have hB2:=hB.trans (hB1.mono hB.size);have HL:Hid ((padL r.data.toList s.size).length % 64=0):=JgE _ _;generalize hP:padL r.data.toList s.size=PL at *;have HP:Hid _:=hP;go_loopw [4] (λv wr=>∃(j:Nat)(q:ByteArray),64*j<=PL.length/\v=.string q/\q.data.toList=PL.drop (64*j)/\wr.heap[w.heap.size]? =some (.cells (arr8 []) 335)/\At8 wr (w.heap.size+1) (ZO j T0 PL)/\Below w.heap.size w wr) (λv _=>Jfy v)
   case atStart=>exact⟨0,_,by omega,rfl,rfl,hR1,hA1,hB2⟩
   case round=>
    obtain⟨j,q,hj,rfl,hq,hR,hA,hB⟩:=hrel;have hqs:q.size=PL.length-64*j:=(by have:q.data.toList.length=(PL.drop (64*j)).length:=(by rw[hq]);simpa using this);have hN:=(Array.getElem?_eq_some_iff.1 hA.row).1
    by_cases hlt:64*(j+1)<=PL.length
    ·have Hst:Hid (ZO (j+1) T0 PL=comp (ZO j T0 PL) ((PL.drop (64*j)).take 64)):=rfl;have Hrx:Hid ((q.extract 0 64).data.toList=(PL.drop (64*j)).take 64/\(q.extract 64 q.size).data.toList=PL.drop (64*(j+1))):=⟨Jf5 q _ 64 hq,by rw[show 64*(j+1)=64*j+64 by omega];exact Jf4 q _ 64 (64*j) hq⟩
     generalize ZO j T0 PL=T1 at *;have hrow:=hA.row;obtain⟨c0,c1,c2,c3,c4,c5,c6,c7⟩:=rows hrow;have f0:∀j,wr.frozen? ⟨w.heap.size+1,j,none⟩=false:=λj=>frozen_of_row _ _ _ _ _ hrow;have hge:(64:Int)<=(q.size:Int):=(by omega);have hx64:(q.extract 0 64).size=64:=(by simp;omega);have h7r:13<wr.heap.size:=(by omega);have HTr:Hid (∀i,i<64->wr.cell? ⟨13,i,none⟩=some (.int .u32 (Ks.getD i 0))):=λi hi=>by rw[hB.cell (p:=⟨13,i,none⟩) h7];exact HT i hi
     have hne:=JdW q (by omega);clear hrow hq hqs;go_wp2;go_region_with (go_at_call 277;refine(JfZ T1 _ _ ?_ ?_ ?_).mono ?_;exact hx64;exact h7r;exact HTr.out;rintro _ w1⟨rfl,(HB1:Hid _)⟩;have d0:=(HB1.cell (p:=⟨w.heap.size+1,0,none⟩) hN).trans c0;have d1:=(HB1.cell (p:=⟨w.heap.size+1,1,none⟩) hN).trans c1;have d2:=(HB1.cell (p:=⟨w.heap.size+1,2,none⟩) hN).trans c2;have d3:=(HB1.cell (p:=⟨w.heap.size+1,3,none⟩) hN).trans c3;have d4:=(HB1.cell (p:=⟨w.heap.size+1,4,none⟩) hN).trans c4;have d5:=(HB1.cell (p:=⟨w.heap.size+1,5,none⟩) hN).trans c5;have d6:=(HB1.cell (p:=⟨w.heap.size+1,6,none⟩) hN).trans c6;have d7:=(HB1.cell (p:=⟨w.heap.size+1,7,none⟩) hN).trans c7;have g0:∀j,_:=λj=>(HB1.frozen (p:=⟨w.heap.size+1,j,none⟩) hN).trans (f0 j);generalize hC:comp T1 _=C;have HC:Hid _:=hC;clear hC;unfold S8.val)
     all_goals
      go_wp2;go_roundw
      case rel=>obtain⟨e1,e2,e3⟩:=Jcw C hR hA hB ⟨HB1.os,HB1.tape,HB1.output,HB1.size,HB1.block⟩ hN;exact⟨j+1,_,hlt,rfl,Hrx.2,e1,by rw[Hst.out,<-Hrx.out.1,HC.out];exact e2,e3⟩
      case measure=>simp[Jfy];omega
    ·have hLL:=HL.out;have Hj:Hid (j=PL.length/64):=(by omega:j=PL.length/64)
     have hem:=Je4 q (by omega);generalize hT1:ZO j T0 PL=T1 at *;have HT1:Hid _:=hT1;have hrow:=hA.row;obtain⟨c0,c1,c2,c3,c4,c5,c6,c7⟩:=rows hrow;clear hrow hq hqs hT1 hLL hlt hj;go_wp2_with fail;refine(Jl7 T1 _).mono ?_;rintro _ w1⟨rfl,hB1⟩;have hG0:=(hB1.block _ (by omega)).trans hR;have hBf:=hB.trans (hB1.mono hB.size);clear hB1 c0 c1 c2 c3 c4 c5 c6 c7 hR hA hB;have hA32:(arr8 (asB T1 32)).size=32:=JbY _ (by rw[Zo];omega);have hA1:(arr8 (asB T1 32)).all (·.oneCell')=true:=JcW _;have HE:Hid (arr8 (asB T1 32)=arr8 (asB (shaS s.data.toList) 32)):=(by show _=_;rw[<-HT1.out,Hj.out,<-HP.out,Hr.out,<-HT0.out,Hk.out];simp[shaS]);generalize arr8 (asB T1 32)=A at *;have hi:(prog.info? 335).map (·.size)=some A.size:=(by rw[hA32];kernel_rfl);go_wp2_with (refine wpList_store_row rfl 335 _ _ rfl w.heap.size A rfl rfl 335 (arr8 []) hG0 hi (by rw[hA32];rfl) hA1 ?_);refine bodyPost_ret (v:=.agg A) (results_cell_row results199 _ _ w.heap.size 335 A (0,0) (.array 32 5) rfl (setRow_heap _ _ _ _ _ _ hG0) underlying335 rfl hi) rfl ⟨by rw[HE.out],XO hBf (Nat.le_refl _) _⟩
