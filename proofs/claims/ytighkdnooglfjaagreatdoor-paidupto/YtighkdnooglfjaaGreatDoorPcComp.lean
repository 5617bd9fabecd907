import Derived.Test.YtighkdnooglfjaaGreatDoorPcRws
import Derived.Test.YtighkdnooglfjaaGreatDoorPcRot
namespace Go.Proofs.YtighkdnooglfjaaGreatDoor
open Tryz
set_option maxRecDepth 100000
set_option maxHeartbeats 400000
open Go.RowKit

def Ks:List Int:=[1116352408,1899447441,3049323471,3921009573,961987163,1508970993,2453635748,2870763221,3624381080,310598401,607225278,1426881987,1925078388,2162078206,2614888103,3248222580,3835390401,4022224774,264347078,604807628,770255983,1249150122,1555081692,1996064986,2554220882,2821834349,2952996808,3210313671,3336571891,3584528711,113926993,338241895,666307205,773529912,1294757372,1396182291,1695183700,1986661051,2177026350,2456956037,2730485921,2820302411,3259730800,3345764771,3516065817,3600352804,4094571909,275423344,430227734,506948616,659060556,883997877,958139571,1322822218,1537002063,1747873779,1955562222,2024104815,2227730452,2361852424,2428436474,2756734187,3204031479,3329325298]
structure S8 where
 a:Int
 b:Int
 c:Int
 d:Int
 e:Int
 f:Int
 g:Int
 h:Int
def S8.val (s:S8):Value:=.agg #[.int .u32 s.a,.int .u32 s.b,.int .u32 s.c,.int .u32 s.d,.int .u32 s.e,.int .u32 s.f,.int .u32 s.g,.int .u32 s.h]
def t1 (k w:Int) (s:S8):Int:=
 s.h+bits .xor .u32 (bits .xor .u32 (rr 6 s.e) (rr 11 s.e)) (rr 25 s.e)+bits .xor .u32 (bits .and .u32 s.e s.f) (bits .and .u32 (bits .xor .u32 IntKind.u32.max s.e) s.g)+k+w
def maj (s:S8):Int:=bits .xor .u32 (bits .xor .u32 (bits .and .u32 s.a s.b) (bits .and .u32 s.a s.c)) (bits .and .u32 s.b s.c)
def rnd (k w:Int) (s:S8):S8:=
 ⟨((t1 k w s+bits .xor .u32 (bits .xor .u32 (rr 2 s.a) (rr 13 s.a)) (rr 22 s.a)) % 4294967296+maj s) % 4294967296,s.a,s.b,s.c,(s.d+t1 k w s % 4294967296) % 4294967296,s.e,s.f,s.g⟩
def addS (s t:S8):S8:=⟨(s.a+t.a) % 4294967296,(s.b+t.b) % 4294967296,(s.c+t.c) % 4294967296,(s.d+t.d) % 4294967296,(s.e+t.e) % 4294967296,(s.f+t.f) % 4294967296,(s.g+t.g) % 4294967296,(s.h+t.h) % 4294967296⟩
def toS (ws:List Int) (s:S8):Nat->S8
 | 0=>s
 | k+1=>rnd (Ks.getD k 0) (ws.getD k 0) (toS ws s k)
def comp (s:S8) (b:List UInt8):S8:=addS s (toS (Wl b 64) s 64)
theorem all8 (x0 x1 x2 x3 x4 x5 x6 x7:Int):(#[Value.int .u32 x0,.int .u32 x1,.int .u32 x2,.int .u32 x3,.int .u32 x4,.int .u32 x5,.int .u32 x6,.int .u32 x7]).all (·.oneCell')=true:=by
 simp [Value.oneCell']
theorem Ji7 {W w1:World} (hb:Below W.heap.size W w1):(∀b o,b<W.heap.size->w1.cell? ⟨b,o,none⟩=W.cell? ⟨b,o,none⟩)/\(∀b o,b<W.heap.size->w1.frozen? ⟨b,o,none⟩=W.frozen? ⟨b,o,none⟩):=
 ⟨λb o h=>hb.cell (p:=⟨b,o,none⟩) h,λb o h=>hb.frozen (p:=⟨b,o,none⟩) h⟩

theorem Jdh (s:S8) (b:ByteArray) (w:World) (hb:b.size=64) (h7:13<w.heap.size) (hT:∀i,i<64->w.cell? ⟨13,i,none⟩=some (.int .u32 (Ks.getD i 0))):
  Calls prog 277 #[s.val,.string b] w λe w'=>e=.returned (comp s b.data.toList).val/\Below w.heap.size w w':=by
 obtain ⟨x0,x1,x2,x3,x4,x5,x6,x7⟩:=s
 have HT:Hid _:=hT
 unfold S8.val
 go_enter func277,ntmps277
 go_wp2_with fail
 refine (JfN _ _ hb).mono ?_
 rintro _ w1 ⟨rfl,hB⟩
 obtain ⟨hc,hf⟩:=Ji7 hB
 have hA:(arr (Wl b.data.toList 64)).size=64:=Jc9 _ (by rw [Yy];omega)
 have hA1:(arr (Wl b.data.toList 64)).all (·.oneCell')=true:=JeH _
 have hAc:Hid (∀i,i<64->(arr (Wl b.data.toList 64))[i]? =some (.int .u32 ((Wl b.data.toList 64).getD i 0))):=λi hi=>JeG _ _ (by rw [Yy];exact hi)
 generalize arr (Wl b.data.toList 64)=A at *
 have hi:(prog.info? 486).map (·.size)=some A.size:=by rw [hA];kernel_rfl
 go_wp2_with (refine wpList_store_row rfl 486 _ _ rfl w1.heap.size A rfl rfl 486 _ (heap_alloc_new _ _) hi (by rw [hA];rfl) hA1 ?_)
 generalize hWc:(World.alloc w1 _).setRow w1.heap.size A=Wc
 have hz:w.heap.size+1<w1.heap.size:=by have:=hB.size;simp at this;omega
 have hB0:=(((Below.refl _ _).alloc (Nat.le_refl _) _).alloc (by simp) _).trans (hB.mono (by simp;omega))
 have hBc:Below w.heap.size w Wc:=by rw [<-hWc];exact Xk (hB0.alloc hB0.size _) hB0.size _
 have hbk:∀k,k<w1.heap.size->Wc.heap[k]? =w1.heap[k]? :=λk hk=>by rw [<-hWc,setRow_other _ _ _ _ (by omega),Below.heap_alloc _ _ _ hk]
 have hw:Wc.heap[w1.heap.size]? =some (.cells A 486):=by rw [<-hWc];exact setRow_heap _ _ _ _ _ _ (heap_alloc_new _ _)
 have HAc:Hid (∀i,i<64->Wc.cell? ⟨w1.heap.size,i,none⟩=some (.int .u32 ((Wl b.data.toList 64).getD i 0))):=λi hi=>by rw [cell_of_row _ _ _ _ _ _ hw];exact hAc i hi
 have hTc:Hid (∀i,i<64->Wc.cell? ⟨13,i,none⟩=some (.int .u32 (Ks.getD i 0))):=λi hi=>by rw [hBc.cell (p:=⟨13,i,none⟩) h7];exact HT i hi
 have hh:Wc.heap[w.heap.size]? =some (.cells #[.int .u32 x0,.int .u32 x1,.int .u32 x2,.int .u32 x3,.int .u32 x4,.int .u32 x5,.int .u32 x6,.int .u32 x7] 434):=by
  rw [hbk _ (by omega),hB.block _ (by simp;omega),heap_alloc2_old]
 have hr:Wc.heap[w.heap.size+1]? =some (.cells #[.int .u32 0,.int .u32 0,.int .u32 0,.int .u32 0,.int .u32 0,.int .u32 0,.int .u32 0,.int .u32 0] 434):=by
  rw [hbk _ (by omega),hB.block _ (by simp),heap_alloc2_new]
 obtain ⟨g0,g1,g2,g3,g4,g5,g6,g7⟩:=rows hh
 have Hr:Hid _:=hr
 have Hh:Hid _:=hh
 go_quiet (fail)
 go_wp2
 generalize hS:(⟨x0,x1,x2,x3,x4,x5,x6,x7⟩:S8)=S
 go_loopw [6,7,8,9,10,11,12,13,38] (λva vb vc vd ve vf vg vh i wr=>∃k n:Nat,k<=64/\i=.int .i64 k/\va=.int .u32 (toS (Wl b.data.toList 64) S k).a/\vb=.int .u32 (toS (Wl b.data.toList 64) S k).b/\vc=.int .u32 (toS (Wl b.data.toList 64) S k).c/\vd=.int .u32 (toS (Wl b.data.toList 64) S k).d/\ve=.int .u32 (toS (Wl b.data.toList 64) S k).e/\vf=.int .u32 (toS (Wl b.data.toList 64) S k).f/\vg=.int .u32 (toS (Wl b.data.toList 64) S k).g/\vh=.int .u32 (toS (Wl b.data.toList 64) S k).h/\wr=Wc.drewN n) (λ_ _ _ _ _ _ _ _ i _=>64 - (intOf i).toNat)
 case atStart=>subst hS;exact ⟨0,_,by omega,rfl,rfl,rfl,rfl,rfl,rfl,rfl,rfl,rfl,rfl⟩
 case round=>
  obtain ⟨k,n,hk,rfl,rfl,rfl,rfl,rfl,rfl,rfl,rfl,rfl,rfl⟩:=hrel
  by_cases hlt:k<64
  ·have c1:=HAc k hlt
   have c2:=hTc k hlt
   have hst:toS (Wl b.data.toList 64) S (k+1)=rnd (Ks.getD k 0) ((Wl b.data.toList 64).getD k 0) (toS (Wl b.data.toList 64) S k):=rfl
   have Hst:Hid _:=hst
   generalize toS (Wl b.data.toList 64) S k=T0 at *
   generalize (Wl b.data.toList 64).getD k 0=ww at *
   generalize Ks.getD k 0=kk at *
   obtain ⟨ta,tb,tc,td,te,tf,tg,th⟩:=T0
   dsimp only
   go_wp2_with fail
   refine (rot6 _ _).mono ?_
   rintro _ _ ⟨rfl,rfl⟩
   go_wp2_with fail
   refine (Jjm _ _).mono ?_
   rintro _ _ ⟨rfl,rfl⟩
   go_wp2_with fail
   refine (Jjs _ _).mono ?_
   rintro _ _ ⟨rfl,rfl⟩
   go_wp2_with fail
   go_quiet (fail)
   go_wp2_with fail
   refine (rot2 _ _).mono ?_
   rintro _ _ ⟨rfl,rfl⟩
   go_wp2_with fail
   refine (Jjn _ _).mono ?_
   rintro _ _ ⟨rfl,rfl⟩
   go_wp2_with fail
   refine (Jjr _ _).mono ?_
   rintro _ _ ⟨rfl,rfl⟩
   go_wp2
   go_roundw
   case rel=>exact ⟨k+1,_,by omega,by go_num,by rw [Hst.out];rfl,by rw [Hst.out];rfl,by rw [Hst.out];rfl,by rw [Hst.out];rfl,by rw [Hst.out];rfl,by rw [Hst.out];rfl,by rw [Hst.out];rfl,by rw [Hst.out];rfl,rfl⟩
   case measure=>simp [intOf];omega
  ·have hk64:Hid (k=64):=(by omega:k=64)
   obtain ⟨g0,g1,g2,g3,g4,g5,g6,g7⟩:=rows Hh.out
   have HE:Hid (toS (Wl b.data.toList 64) S k=toS (Wl b.data.toList 64) S 64):=(by rw [hk64.out]:toS (Wl b.data.toList 64) S k=toS (Wl b.data.toList 64) S 64)
   generalize toS (Wl b.data.toList 64) S k=T0 at *
   obtain ⟨ta,tb,tc,td,te,tf,tg,th⟩:=T0
   dsimp only
   have hi8:(prog.info? 434).map (·.size)=some 8:=by kernel_rfl
   go_wp2_with (refine wpList_store_row rfl 434 _ _ rfl (w.heap.size+1) #[.int .u32 ((x0+ta) % 4294967296),.int .u32 ((x1+tb) % 4294967296),.int .u32 ((x2+tc) % 4294967296),.int .u32 ((x3+td) % 4294967296),.int .u32 ((x4+te) % 4294967296),.int .u32 ((x5+tf) % 4294967296),.int .u32 ((x6+tg) % 4294967296),.int .u32 ((x7+th) % 4294967296)] rfl rfl 434 _ Hr hi8 rfl (all8 _ _ _ _ _ _ _ _) ?_)
   refine bodyPost_ret (v:=.agg #[.int .u32 ((x0+ta) % 4294967296),.int .u32 ((x1+tb) % 4294967296),.int .u32 ((x2+tc) % 4294967296),.int .u32 ((x3+td) % 4294967296),.int .u32 ((x4+te) % 4294967296),.int .u32 ((x5+tf) % 4294967296),.int .u32 ((x6+tg) % 4294967296),.int .u32 ((x7+th) % 4294967296)]) (results_cell_row results277 _ _ (w.heap.size+1) 434 _ (0,0) (.array 8 429) rfl (setRow_heap (Wc.drewN n) _ _ _ _ _ Hr) underlying434 rfl hi8) rfl ⟨?_,?_⟩
   ·subst hS
    unfold comp
    rw [<-HE.out]
    rfl
   ·exact Xk (w:=Wc.drewN n) (g:=w.heap.size+1) ⟨hBc.os,hBc.tape,hBc.output,hBc.size,hBc.block⟩ (by omega) _
