import Derived.Shelf.Strconv.Clone
import Derived.Shelf.Strings.Repeat
import Derived.Test.YtighkdnooglfjaaGreatDoorBxChJ
namespace Go.Proofs.YtighkdnooglfjaaGreatDoor
open Tryz
set_option maxRecDepth 100000
set_option maxHeartbeats 1000000
open Go.RowKit

def RdSt (E:Nat->Addr) (w:World) (b:Nat) (wj:Int):Option PS->Prop
 | some p=>Jc w b none wj .nilIface p/\∃q r,p=.rd q r
 | none=>∃q r t u,Jc w b none wj (.iface t u) (.rd q r)/\Jm E 7 w (.iface t u)
def RdTo (E:Nat->Addr) (w w':World) (b:Nat) (wj:Int) (st':Option PS):Prop:=RdSt E w' b wj st'/\Tch (λk=>k=b) w w'
theorem Jl1 {x n m:Nat} {q r:List UInt8} {p':PS} (h:(PS.rd q r).num x n=some (m,p')):∃q' r',p'=.rd q' r':=by
 simp only [PS.num] at h
 split at h
 ·cases h;exact ⟨_,_,rfl⟩
 ·cases h
theorem Jmm {s t:List UInt8} {n:Nat} {q r:List UInt8} {p':PS} (h:(PS.rd q r).txt s n=some (t,p')):∃q' r',p'=.rd q' r':=by
 simp only [PS.txt] at h
 split at h
 ·cases h;exact ⟨_,_,rfl⟩
 ·cases h
theorem Xs.rd {w w':World} {b:Nat} {wj:Int} {q r:List UInt8} (E:Nat->Addr) (h:Xs w w' b none wj (.rd q r)):RdTo E w w' b wj (some (.rd q r)):=by
 obtain ⟨g',h1,_,h3⟩:=h
 obtain rfl:=h1.1
 exact ⟨⟨h1,_,_,rfl⟩,h3.mono (λj hj=>by rcases hj with h | h;exact .inl h;cases h)⟩
theorem JhN (E:Nat->Addr) (b:Nat) (wj:Int) (x n:Nat) (st:Option PS) (w:World) (hE:Env E w) (hp:RdSt E w b wj st) (h8:n<=8) (hd:JN st<=10000000000000):
  Calls prog 138 #[.pointer (some ⟨b,0,none⟩),.int .u64 (x:Int),.int .i64 (n:Int)] w λe w'=>e=.returned (.int .u64 ((JG x n st).1:Int))/\RdTo E w w' b wj (JG x n st).2:=by
 unfold JG
 cases st with
 | none=>
  obtain ⟨q,r,t,u,h1,h2⟩:=hp
  refine (Zx b none wj _ _ _ t u w h1).mono ?_
  rintro e w' ⟨rfl,rfl⟩
  exact ⟨rfl,⟨q,r,t,u,h1,h2⟩,Te _ _⟩
 | some p=>
  obtain ⟨hp,q,r,rfl⟩:=hp
  simp only [Qu]
  cases h:(PS.rd q r).num x n with
  | none=>
   refine (YA E b none wj x n _ w hE hp h8 hd h).mono ?_
   rintro e w' ⟨rfl,h1,h2⟩
   exact ⟨rfl,⟨q,r,_,_,h1,.base⟩,h2⟩
  | some y=>
   obtain ⟨m,p'⟩:=y
   obtain ⟨q',r',rfl⟩:=Jl1 h
   exact (Xh b none wj x n m _ _ w hp h8 hd h).mono λe w' ⟨h1,h2⟩=>⟨h1,h2.rd E⟩
theorem Jld (E:Nat->Addr) (b:Nat) (wj:Int) (s:BA) (n:Nat) (st:Option PS) (w:World) (hE:Env E w) (hp:RdSt E w b wj st) (hd:JN st+n<=10000000000000):
  Calls prog 209 #[.pointer (some ⟨b,0,none⟩),.string s,.int .i64 (n:Int)] w λe w'=>e=.returned (.string ⟨(Jj s.data.toList n st).1.toArray⟩)/\RdTo E w w' b wj (Jj s.data.toList n st).2:=by
 unfold Jj
 cases st with
 | none=>
  obtain ⟨q,r,t,u,h1,h2⟩:=hp
  refine (JfB b none wj _ _ _ t u w h1).mono ?_
  rintro e w' ⟨rfl,rfl⟩
  exact ⟨rfl,⟨q,r,t,u,h1,h2⟩,Te _ _⟩
 | some p=>
  obtain ⟨hp,q,r,rfl⟩:=hp
  simp only [Qu]
  cases h:(PS.rd q r).txt s.data.toList n with
  | none=>
   refine (JdW E b none wj s n _ w hE hp (by simp only [JN] at hd;omega) h).mono ?_
   rintro e w' ⟨rfl,h1,h2⟩
   exact ⟨rfl,⟨q,r,_,_,h1,.base⟩,h2⟩
  | some y=>
   obtain ⟨m,p'⟩:=y
   obtain ⟨q',r',rfl⟩:=Jmm h
   exact (Zp b none wj s n m _ _ w hp hd h).mono λe w' ⟨h1,h2⟩=>⟨h1,h2.rd E⟩
theorem RdSt.st {E:Nat->Addr} {w:World} {b:Nat} {wj:Int} {st:Option PS} (h:RdSt E w b wj st):Jh E w b none wj st:=by
 cases st with
 | none=>obtain ⟨q,r,t,u,h1,h2⟩:=h;exact ⟨_,t,u,h1,h2⟩
 | some p=>exact h.1
theorem RdSt.tch {E:Nat->Addr} {S:Nat->Prop} {w w':World} {b:Nat} {wj:Int} {st:Option PS} (h:RdSt E w b wj st) (k:Tch S w w') (hb:¬S b) (hs:∀p s u,w.heap[p]? =some (.cells #[.string s,u] 237)->¬S p):RdSt E w' b wj st:=by
 cases st with
 | some p=>exact ⟨h.1.tch k hb (λ_ h=>by cases h),h.2⟩
 | none=>obtain ⟨q,r,t,u,h1,h2⟩:=h;exact ⟨q,r,t,u,h1.tch k hb (λ_ h=>by cases h),h2.tch k hs⟩
theorem Jbr (E:Nat->Addr) (b:Nat) (wj:Nat) (s:BA) (st:Option PS) (w:World) (hE:Env E w) (hp:RdSt E w b wj st) (hd:JN st+wj<=10000000000000):
  Calls prog 139 #[.pointer (some ⟨b,0,none⟩),.string s] w λe w'=>e=.returned (.string ⟨(Jj s.data.toList wj st).1.toArray⟩)/\RdTo E w w' b wj (Jj s.data.toList wj st).2:=by
 have c1:=hp.st.width
 have HC:Hid (Calls prog 209 _ w _):=Jld E b wj s wj st w hE hp hd
 clear hp hE
 go_enter func139,ntmps139
 go_wp2_with fail
 refine HC.o.mono ?_
 rintro _ w1 ⟨rfl,h⟩
 have HS:Hid _:=h
 clear h HC
 go_wp2
 go_ret
 exact ⟨rfl,HS.o⟩
structure RRun (E:Nat->Addr) (w0 wA w:World) (b:Nat) (wj:Int) (st:Option PS):Prop where
 env:Env E w
 port:RdSt E w b wj st
 tch:Tch (λk=>k=b) wA w
 a:Tch NoB w0 wA
 lo:18<=b
 lt:b<w0.heap.size
theorem RRun.step {E:Nat->Addr} {w0 wA w w':World} {b:Nat} {wj:Int} {st st':Option PS} (h:RRun E w0 wA w b wj st) (k:RdTo E w w' b wj st'):RRun E w0 wA w' b wj st':=
 ⟨h.env.tch k.2 (λj hj=>by have:=h.lo;omega),k.1,h.tch.trans k.2 (λj hj=>.inl hj),h.a,h.lo,h.lt⟩
theorem RRun.box {E:Nat->Addr} {w0 wA w:World} {b:Nat} {wj:Int} {st:Option PS} (h:RRun E w0 wA w b wj st) {k:Nat} {o:Obj} (hk:w0.heap.size<=k) (hA:wA.heap[k]? =some o):w.heap[k]? =some o:=
 (h.tch.block k (Jb hA) (λe=>by have:=h.lt;omega)).trans hA
theorem JdB (E:Nat->Addr) (b:Nat) (hb12:18<=b) (wj:Nat) (n:Nat) (s1 s2 s3:BA) (st:Option PS) (w:World) (hE:Env E w) (hp:RdSt E w b wj st) (hd:JN st+4 * wj<=90000000):
  Calls prog 86 #[.pointer (some ⟨b,0,none⟩),.agg #[.int .u64 (n:Int),.string s1,.string s2,.string s3]] w λe w'=>e=.returned (hdV (YZ wj (n,s1,s2,s3) st).1)/\RdTo E w w' b wj (YZ wj (n,s1,s2,s3) st).2:=by
 have hlt:=hp.st.lt
 have hA:=Tch.allocs NoB w (.cells #[.int .u64 (n:Int),.string s1,.string s2,.string s3] 167) (.cells #[.int .u64 0,.string ⟨#[]⟩,.string ⟨#[]⟩,.string ⟨#[]⟩] 167)
 have HR0:RRun E w _ _ b wj st:=⟨hE.tch hA noE,hp.tch hA (λh=>h) (λ_ _ _ _ h=>h),Te _ _,hA,hb12,hlt⟩
 have hl0:=Jal n 4 st
 have hl1:=Yc s1.data.toList wj (JG n 4 st).2
 have hl2:=Yc s2.data.toList wj (Jj s1.data.toList wj (JG n 4 st).2).2
 have RUN:Hid _:=HR0
 clear hE hp HR0 hA
 go_enter func86,ntmps86
 go_wp2_with fail
 refine (JhN E b wj n 4 st _ RUN.out.env RUN.out.port (by omega) (by omega)).mono ?_
 rintro _ w1 ⟨rfl,h⟩
 have R1:=RUN.out.step h
 have bx1:=R1.box (k:=w.heap.size) (Ql _) (heap_alloc2_old _ _ _)
 have c1:w1.cell? ⟨w.heap.size,1,none⟩=some (.string s1):=Ja bx1
 have RUN1:Hid _:=R1
 clear R1 bx1 h
 go_wp2_with fail
 refine (Jbr E b wj s1 _ _ RUN1.out.env RUN1.out.port (by omega)).mono ?_
 rintro _ w2 ⟨rfl,h⟩
 have R2:=RUN1.out.step h
 have bx2:=R2.box (k:=w.heap.size) (Ql _) (heap_alloc2_old _ _ _)
 have c2:w2.cell? ⟨w.heap.size,2,none⟩=some (.string s2):=Ja bx2
 have RUN2:Hid _:=R2
 clear R2 bx2 h
 go_wp2_with fail
 refine (Jbr E b wj s2 _ _ RUN2.out.env RUN2.out.port (by omega)).mono ?_
 rintro _ w3 ⟨rfl,h⟩
 have R3:=RUN2.out.step h
 have bx3:=R3.box (k:=w.heap.size) (Ql _) (heap_alloc2_old _ _ _)
 have c3:w3.cell? ⟨w.heap.size,3,none⟩=some (.string s3):=Ja bx3
 have RUN3:Hid _:=R3
 clear R3 bx3 h
 go_wp2_with fail
 refine (Jbr E b wj s3 _ _ RUN3.out.env RUN3.out.port (by omega)).mono ?_
 rintro _ w4 ⟨rfl,h⟩
 have R4:=RUN3.out.step h
 have rR:=R4.box (k:=w.heap.size+1) (by omega) (heap_alloc2_new _ _ _)
 have e0:w4.cell? ⟨w.heap.size+1,0,none⟩=some (.int .u64 0):=Ja rR
 have e1:w4.cell? ⟨w.heap.size+1,1,none⟩=some (.string ⟨#[]⟩):=Ja rR
 have e2:w4.cell? ⟨w.heap.size+1,2,none⟩=some (.string ⟨#[]⟩):=Ja rR
 have e3:w4.cell? ⟨w.heap.size+1,3,none⟩=some (.string ⟨#[]⟩):=Ja rR
 have fR:∀j,w4.frozen? ⟨w.heap.size+1,j,none⟩=false:=λj=>Qg _ _ _ _ _ rR
 have RUN4:Hid _:=R4
 have RR:Hid (_=_):=rR
 clear R4 rR h
 go_wp2
 rw [set4 _ _ _ _ _ _ _ _ _ _ _ RR.out]
 have hN:=RUN4.out.a.size
 refine QK (v:=hdV (YZ wj (n,s1,s2,s3) st).1) (Qq results86 _ _ (w.heap.size+1) _ _ (0,0) _ rfl (Qi _ _ _ _ _ _ RR.out) underlying167 rfl (by kernel_rfl)) rfl ⟨rfl,RUN4.out.port.tch (Ts _ _ _) (by omega) (λp s u hp e=>by subst e;rw [RR.out] at hp;simp at hp),?_⟩
 exact ((RUN4.out.a.mono noE).trans RUN4.out.tch (λj hj=>.inl hj)).trans (Ts _ _ _) (λj hj=>.inr (by omega))
theorem JiA (b:Nat) (g:Option Nat) (wj:Nat) (ia:Option Addr) (n ic:Nat) (p0:PS) (t:TypeId) (u:Value) (w:World) (hp:Jc w b g wj (.iface t u) p0):
  Calls prog 78 #[.pointer (some ⟨b,0,none⟩),.slice ia n ic] w λe w'=>e=.returned (.slice none 0 0)/\Jc w' b g wj (.iface t u) p0/\Tch NoB w w':=by
 have hmf:∀(fn:Fn) (first cap:Array Value) (w:World),(Instr.makeFunc fn first cap).run prog w=.ok (.func fn first cap) w:=λ_ _ _ _=>rfl
 have HL:Hid (∀what:BA,what.size<=1000->_):=λwhat hwh=>JkP b g wj what hwh 1 0 3 (.slice ia n ic) ia n ic rfl p0 t u w hp
 clear hp
 go_enter func78,ntmps78
 go_wp2_with fail
 refine (HL.o _ (by decide)).mono ?_
 clear HL
 rintro e w1 ⟨rfl,h⟩
 have HH:Hid _:=h
 clear h
 go_wp2
 go_ret
 exact ⟨rfl,HH.o⟩
end Go.Proofs.YtighkdnooglfjaaGreatDoor
namespace Go.Proofs
open Tryz
open Go.Shelf
def Jeh:Go.Shelf.Ren:=⟨fun | 316=>142 | n=>n,fun | 9=>9 | 3=>3 | 4=>4 | 37=>52 | 0=>0 | 127=>358 | 5=>5 | n=>n,fun | n=>n⟩
theorem Ji3:Go.Proofs.LaysM.n316 prog Jeh:={
 mixed:=by kernel_rfl
 f316:=func142.trans (congrArg some (by kernel_rfl))
 t0:=underlying0
 a0:=isAgg0
 z0:=sizeOf0
 v0:=zeroValue0
 t3:=underlying3
 a3:=isAgg3
 z3:=sizeOf3
 v3:=zeroValue3
 t4:=underlying4
 a4:=isAgg4
 z4:=sizeOf4
 v4:=zeroValue4
 t9:=underlying9
 a9:=isAgg9
 z9:=sizeOf9
 v9:=zeroValue9
 t37:=underlying52
 a37:=isAgg52
 z37:=sizeOf52
 v37:=zeroValue52
 t127:=underlying358
 a127:=isAgg358
 z127:=sizeOf358
 v127:=zeroValue358
 t5:=underlying5
 a5:=isAgg5
 z5:=sizeOf5
 v5:=zeroValue5
 i0:=by kernel_rfl
 i3:=by kernel_rfl
 i4:=by kernel_rfl
 i5:=by kernel_rfl
 i9:=by kernel_rfl
 i37:=by kernel_rfl
 i127:=by kernel_rfl }
open Go.RowKit in
theorem stringslite_Clone (s:ByteArray) (w:World) (hlim:s.size<=281474976710656):
  Calls prog 142 #[.string s] w λe w'=>e=.returned (.string s)/\Below w.heap.size w w':=Any.stringslite_Clone Ji3 s w hlim
def JbN:Go.Shelf.Ren:=⟨fun | 105=>128 | 212=>192 | 99=>193 | 165=>194 | 166=>195 | 170=>196 | 169=>197 | 263=>272 | 264=>273 | 206=>274 | 240=>275 | 241=>276 | 276=>335 | 277=>336 | n=>n,fun | 9=>9 | 3=>3 | 4=>4 | 20=>20 | 0=>0 | 46=>322 | 109=>323 | 5=>5 | 72=>328 | 76=>330 | 51=>429 | 146=>430 | 53=>78 | 148=>432 | 70=>326 | 37=>52 | 75=>92 | 127=>358 | 164=>483 | 80=>61 | n=>n,fun | n=>n⟩
theorem JgQ:Go.Proofs.Lays.n105 prog JbN:={
 mixed:=by kernel_rfl
 f99:=func193.trans (congrArg some (by kernel_rfl))
 f105:=func128.trans (congrArg some (by kernel_rfl))
 f165:=func194.trans (congrArg some (by kernel_rfl))
 f166:=func195.trans (congrArg some (by kernel_rfl))
 f169:=func197.trans (congrArg some (by kernel_rfl))
 f170:=func196.trans (congrArg some (by kernel_rfl))
 f206:=func274.trans (congrArg some (by kernel_rfl))
 f212:=func192.trans (congrArg some (by kernel_rfl))
 f240:=func275.trans (congrArg some (by kernel_rfl))
 f241:=func276.trans (congrArg some (by kernel_rfl))
 f263:=func272.trans (congrArg some (by kernel_rfl))
 f264:=func273.trans (congrArg some (by kernel_rfl))
 f276:=func335.trans (congrArg some (by kernel_rfl))
 f277:=func336.trans (congrArg some (by kernel_rfl))
 t0:=underlying0
 a0:=isAgg0
 z0:=sizeOf0
 v0:=zeroValue0
 t3:=underlying3
 a3:=isAgg3
 z3:=sizeOf3
 v3:=zeroValue3
 t4:=underlying4
 a4:=isAgg4
 z4:=sizeOf4
 v4:=zeroValue4
 t5:=underlying5
 a5:=isAgg5
 z5:=sizeOf5
 v5:=zeroValue5
 t9:=underlying9
 a9:=isAgg9
 z9:=sizeOf9
 v9:=zeroValue9
 t20:=underlying20
 a20:=isAgg20
 z20:=sizeOf20
 v20:=zeroValue20
 t37:=underlying52
 a37:=isAgg52
 z37:=sizeOf52
 v37:=zeroValue52
 t46:=underlying322
 a46:=isAgg322
 z46:=sizeOf322
 v46:=zeroValue322
 t51:=underlying429
 a51:=isAgg429
 z51:=sizeOf429
 v51:=zeroValue429
 t53:=underlying78
 a53:=isAgg78
 z53:=sizeOf78
 v53:=zeroValue78
 t70:=underlying326
 a70:=isAgg326
 z70:=sizeOf326
 v70:=zeroValue326
 t72:=underlying328
 a72:=isAgg328
 z72:=sizeOf328
 v72:=zeroValue328
 t75:=underlying92
 a75:=isAgg92
 z75:=sizeOf92
 v75:=zeroValue92
 t76:=underlying330
 a76:=isAgg330
 z76:=sizeOf330
 v76:=zeroValue330
 t109:=underlying323
 a109:=isAgg323
 z109:=sizeOf323
 v109:=zeroValue323
 t127:=underlying358
 a127:=isAgg358
 z127:=sizeOf358
 v127:=zeroValue358
 t146:=underlying430
 a146:=isAgg430
 z146:=sizeOf430
 v146:=zeroValue430
 t148:=underlying432
 a148:=isAgg432
 z148:=sizeOf432
 v148:=zeroValue432
 t164:=underlying483
 a164:=isAgg483
 z164:=sizeOf483
 v164:=zeroValue483 }
theorem JaK:Builder.Extra prog JbN:={
 sizeBuilder:=by kernel_rfl
 liesBuilder:=by kernel_rfl
 t5:=underlying5
 a5:=isAgg5
 z5:=sizeOf5
 v5:=zeroValue5
 infoByte:=by kernel_rfl
 cellsByte:=by kernel_rfl
 sizeByte:=by kernel_rfl
 neB5:=by decide }
open Go.RowKit Go.Lib in
theorem strings_Repeat_main (s:ByteArray) (c:Nat) (w:World) (hc2:2<=c) (hc:c<=9223372036854775807) (hlen:s.size * c<=140737488355328) (h0:0<s.size):
  Calls prog 128 #[.string s,.int .i64 c] w λe w'=>e=.returned (.string ⟨(Lib.repeatL s.data.toList c).toArray⟩)/\Below w.heap.size w w':=Any.strings_Repeat_main JgQ JaK s c w hc2 hc hlen h0
open Go.RowKit Go.Lib in
theorem strings_Repeat_one (s:ByteArray) (w:World):
  Calls prog 128 #[.string s,.int .i64 1] w λe w'=>e=.returned (.string s)/\w'=w:=Any.strings_Repeat_one JgQ s w
end Go.Proofs
namespace Go.Proofs.YtighkdnooglfjaaGreatDoor
open Tryz
open Go.RowKit
theorem Tch.of_belowN {w w':World} (h:Below w.heap.size w w'):Tch NoB w w':=(Tch.of_below h).mono (λ_ hj=>.inr hj)
set_option maxRecDepth 100000 in
theorem Jhi (s:BA) (w:World) (hs:s.size<=1000000):Calls prog 90 #[.string s] w λe w'=>e=.returned (.string s)/\Tch NoB w w':=by
 have HC:Hid (∀W,Calls prog 142 #[.string s] W λe w'=>e=.returned (.string s)/\Tch NoB W w'):=λW=>(stringslite_Clone s W (by omega)).mono λe w' h=>⟨h.1,Tch.of_belowN h.2⟩
 clear hs
 go_enter func90,ntmps90
 go_wp2_with fail
 refine (HC.o _).mono ?_
 rintro _ w1 ⟨rfl,h⟩
 have HH:Hid _:=h
 clear h HC
 go_wp2
 go_ret
 exact ⟨rfl,HH.o⟩
theorem Jgi (c:Nat) (h1:1<=c) (h2:c<=32) (w:World):Calls prog 128 #[.string ⟨#[0]⟩,.int .i64 (c:Int)] w λe w'=>e=.returned (.string ⟨(List.replicate c (0:UInt8)).toArray⟩)/\Tch NoB w w':=by
 by_cases hc:c=1
 ·subst hc
  exact (strings_Repeat_one ⟨#[0]⟩ w).mono λe w' h=>⟨h.1,by rw [h.2];exact Te _ _⟩
 ·refine (strings_Repeat_main ⟨#[0]⟩ c w (by omega) (by omega) (by show 1 * c<=_;omega) (by show 0<1;omega)).mono λe w' h=>⟨?_,Tch.of_belowN h.2⟩
  have e:Lib.repeatL [0] c=List.replicate c (0:UInt8):=by
   have:=Lib.repeatL_replicate 0 1 c
   rw [Nat.mul_one] at this
   exact this
  rw [h.1,show (⟨#[0]⟩:BA).data.toList=[0] from rfl,e]
set_option maxRecDepth 100000

def subP (d:List UInt8->BA) (wj m:Nat) (bh:BA) (st:Option Tr) (text:List UInt8):Except Er (BA×Option Tr):=
 match (PS.rd [] text).hdr wj (0,⟨#[]⟩,⟨#[]⟩,⟨#[]⟩) with
 | some (h,.rd pre body)=>match (PS.rd pre body).body wj [] with
  | some (ts,.rd _ [])=>if h ≠ (m+1,d (72 :: bh.data.toList),d (66 :: body),h.2.2.2) then .error .tip else match JA d st ts with
   | .error e=>.error e
   | .ok st'=>if h.2.2.2 ≠ JV d st' then .error .root else .ok (⟨(text.take (text.length - body.length)).toArray⟩,st')
  | _=>.error .form
 | _=>.error .form
theorem Jgq (d:List UInt8->BA) (wj m:Nat) (bh:BA) (st:Option Tr) (ch:Ch) (hl:ch.length=m+1) (hla:ch.last=(bh,st)) (text:List UInt8):
  Jbd d wj ch text=match subP d wj m bh st text with | .error e=>.error e | .ok x=>.ok (ch++[x]):=by
 unfold Jbd subP Jar
 rw [hl,hla]
 dsimp only
 cases (PS.rd [] text).hdr wj (0,⟨#[]⟩,⟨#[]⟩,⟨#[]⟩) with
 | none=>rfl
 | some x=>
  obtain ⟨h,p⟩:=x
  cases p with
  | wr d=>rfl
  | rd pre body=>
   dsimp only
   cases (PS.rd pre body).body wj [] with
   | none=>rfl
   | some y=>
    obtain ⟨ts,p⟩:=y
    cases p with
    | wr d=>rfl
    | rd q r=>
     cases r with
     | cons a l=>rfl
     | nil=>
      dsimp only
      split
      ·rfl
      ·cases JA d st ts with
       | error e=>rfl
       | ok st'=>dsimp only;split <;> rfl
def NoTo (E:Nat->Addr) (er:Nat) (w:World) (e:Ending) (w':World):Prop:=Tch NoB w w'/\∃t u,e=.returned (.iface t u)/\Jm E er w' (.iface t u)
theorem JeQ (E:Nat->Addr) {w:World} (hE:Env E w) {cb wj fl r:Nat} (hw:wj<=32) {bs:List BV} {lv:Value} (h:JP w cb wj fl r bs lv) (s:BA) (hs:s.size<=1100000) (hh:(PS.rd [] s.data.toList).hdr wj (0,⟨#[]⟩,⟨#[]⟩,⟨#[]⟩)=none):
  Calls prog 46 #[.pointer (some ⟨cb,0,none⟩),.string s] w λe w'=>NoTo E 7 w e w':=by
 have hsz:=hE.size
 have c0:w.cell? ⟨cb,0,none⟩=some (.int .i64 (wj:Int)):=Ja h.row
 have HHD:Hid (∀W,Tch NoB w W->Jc W w.heap.size none (wj:Int) .nilIface (.rd [] s.data.toList)->Calls prog 86 #[.pointer (some ⟨w.heap.size,0,none⟩),.agg #[.int .u64 0,.string ⟨#[]⟩,.string ⟨#[]⟩,.string ⟨#[]⟩]] W λe w'=>∃(n:Nat) (x1 x2 x3:BA),e=.returned (.agg #[.int .u64 (n:Int),.string x1,.string x2,.string x3])/\RdTo E W w' w.heap.size (wj:Int) none):=λW hT hp=>by
  have:=JdB E w.heap.size hsz wj 0 ⟨#[]⟩ ⟨#[]⟩ ⟨#[]⟩ (some (.rd [] s.data.toList)) W (hE.tch hT noE) ⟨hp,_,_,rfl⟩ (by simp only [JN,PS.len,Qv,QA];have:s.data.size<=1100000:=hs;omega)
  refine this.mono λe w' k=>?_
  rw [Jgn wj _ _ hh] at k
  exact ⟨_,_,_,_,k.1,k.2⟩
 clear hE h hh hs
 go_enter func46,ntmps46
 go_wp2_with fail
 refine (Zc _ _ _).mono ?_
 rintro _ w1 ⟨rfl,hp1,ht1⟩
 have HT1:Hid (Tch NoB w w1):=ht1
 have HP1:Hid (Jc w1 w.heap.size none (wj:Int) .nilIface (.rd [] s.data.toList)):=hp1
 clear ht1 hp1 c0
 go_wp2_with fail
 refine (HHD.o w1 HT1.o HP1.o).mono ?_
 rintro _ w2 ⟨n,x1,x2,x3,rfl,⟨q,rr,t,u,hp2,he2⟩,ht2⟩
 have hA:=Ta NoB w2 (.cells #[.int .u64 (n:Int),.string x1,.string x2,.string x3] 167)
 have HT2:Hid (Tch NoB w _):=(HT1.o.trans ht2 (λj hj=>.inr (Nat.le_of_eq hj.symm))).go hA
 have HP2:Hid (Jc _ w.heap.size none (wj:Int) (.iface t u) (.rd q rr)):=hp2.tch hA (λh=>h) (λ_ _ h=>h)
 have HE2:Hid (Jm E 7 _ (.iface t u)):=he2.next hA
 clear hp2 he2 ht2 HHD HP1 HT1 hA
 go_wp2_with fail
 refine (JcP w.heap.size none (wj:Int) _ q rr _ HP2.o).mono ?_
 rintro _ w3 ⟨rfl,ht3⟩
 have HT3:Hid (Tch NoB w w3):=HT2.o.go ht3
 have HP3:Hid (Jc w3 w.heap.size none (wj:Int) (.iface t u) (.rd q rr)):=HP2.o.tch ht3 (λh=>h) (λ_ _ h=>h)
 have HE3:Hid (Jm E 7 w3 (.iface t u)):=HE2.o.next ht3
 clear ht3 HT2 HP2 HE2
 go_wp2_with fail
 refine (JiA w.heap.size none wj none 0 0 _ t u w3 HP3.o).mono ?_
 rintro _ w4 ⟨rfl,hp4,ht4⟩
 have HT4:Hid (Tch NoB w w4):=HT3.o.go ht4
 have HP4:Hid (Jc w4 w.heap.size none (wj:Int) (.iface t u) (.rd q rr)):=hp4
 have HE4:Hid (Jm E 7 w4 (.iface t u)):=HE3.o.next ht4
 clear ht4 hp4 HT3 HP3 HE3
 go_wp2_with fail
 refine (JdP w.heap.size none (wj:Int) t u _ w4 HP4.o).mono ?_
 rintro _ w5 ⟨rfl,ht5⟩
 have HT5:Hid (Tch NoB w w5):=HT4.o.go ht5
 have HE5:Hid (Jm E 7 w5 (.iface t u)):=HE4.o.next ht5
 clear ht5 HT4 HP4 HE4
 go_wp2_with fail
 refine (XA _ _ _ _).mono ?_
 rintro _ _ ⟨rfl,rfl⟩
 go_wp2
 go_ret
 exact ⟨HT5.o.go (Ta _ _ _),_,_,rfl,.wrap _ _ _ (Qf _ _) (HE5.o.next (Ta _ _ _))⟩
theorem Jj1 (E:Nat->Addr) {w W:World} (hE:Env E w) (wj:Nat) (hw:wj<=32) (s:BA) (hs:s.size<=1100000) (y:HdL) (p:PS) (hh:(PS.rd [] s.data.toList).hdr wj (0,⟨#[]⟩,⟨#[]⟩,⟨#[]⟩)=some (y,p)) (hT:Tch NoB w W) (hp:Jc W w.heap.size none (wj:Int) .nilIface (.rd [] s.data.toList)):
  Calls prog 86 #[.pointer (some ⟨w.heap.size,0,none⟩),.agg #[.int .u64 0,.string ⟨#[]⟩,.string ⟨#[]⟩,.string ⟨#[]⟩]] W λe w'=>e=.returned (.agg #[.int .u64 (y.1:Int),.string y.2.1,.string y.2.2.1,.string y.2.2.2])/\RdTo E W w' w.heap.size (wj:Int) (some p):=by
 have:=JdB E w.heap.size hE.size wj 0 ⟨#[]⟩ ⟨#[]⟩ ⟨#[]⟩ (some (.rd [] s.data.toList)) W (hE.tch hT noE) ⟨hp,_,_,rfl⟩ (by simp only [JN,PS.len,Qv,QA];have:s.data.size<=1100000:=hs;omega)
 refine this.mono λe w' k=>?_
 obtain ⟨e1,e2⟩:=JcW wj _ _ _ _ hh
 rw [e1] at k
 rw [e2] at k
 exact k
theorem Jg5 (E:Nat->Addr) {w W:World} (hE:Env E w) (wj:Nat) (hw:wj<=32) (pre body:List UInt8) (hl:pre.length+body.length<=1100000) (hT:Tch NoB w W) (hp:Jc W w.heap.size none (wj:Int) .nilIface (.rd pre body)):
  Calls prog 78 #[.pointer (some ⟨w.heap.size,0,none⟩),.slice none 0 0] W λe w'=>ToB E W w.heap.size none wj ((PS.rd pre body).body wj []) e w':=
 Jci E w.heap.size hE.size none wj hw (.slice none 0 0) [] [] (.rd pre body) W (hE.tch hT noE) hp (.inl ⟨rfl,rfl⟩) rfl (by simp) (λ_ _ _=>rfl) (λj x t h=>by simp at h) (by simp only [PS.len];omega)
theorem JeR (E:Nat->Addr) {w:World} (hE:Env E w) {cb wj fl r:Nat} (hw:wj<=32) {bs:List BV} {lv:Value} (h:JP w cb wj fl r bs lv) (s:BA) (hs:s.size<=1100000) (y:HdL) (pre body:List UInt8) (hh:(PS.rd [] s.data.toList).hdr wj (0,⟨#[]⟩,⟨#[]⟩,⟨#[]⟩)=some (y,.rd pre body)) (hl:pre.length+body.length<=1100000) (hb:∀ts q,(PS.rd pre body).body wj [] ≠ some (ts,.rd q [])):
  Calls prog 46 #[.pointer (some ⟨cb,0,none⟩),.string s] w λe w'=>NoTo E 7 w e w':=by
 have hsz:=hE.size
 have c0:w.cell? ⟨cb,0,none⟩=some (.int .i64 (wj:Int)):=Ja h.row
 have HHD:Hid (∀W,Tch NoB w W->Jc W w.heap.size none (wj:Int) .nilIface (.rd [] s.data.toList)->Calls prog 86 #[.pointer (some ⟨w.heap.size,0,none⟩),.agg #[.int .u64 0,.string ⟨#[]⟩,.string ⟨#[]⟩,.string ⟨#[]⟩]] W λe w'=>e=.returned (.agg #[.int .u64 (y.1:Int),.string y.2.1,.string y.2.2.1,.string y.2.2.2])/\RdTo E W w' w.heap.size (wj:Int) (some (.rd pre body))):=λW hT hp=>Jj1 E hE wj hw s hs y _ hh hT hp
 have HBO:Hid (∀W,Tch NoB w W->Jc W w.heap.size none (wj:Int) .nilIface (.rd pre body)->Calls prog 78 #[.pointer (some ⟨w.heap.size,0,none⟩),.slice none 0 0] W λe w'=>ToB E W w.heap.size none wj ((PS.rd pre body).body wj []) e w'):=λW hT hp=>Jg5 E hE wj hw pre body hl hT hp
 have HDN:Hid (∀W g,Tch NoB w W->Jh E W w.heap.size g (wj:Int) (((PS.rd pre body).body wj []).map (·.2))->Calls prog 88 #[.pointer (some ⟨w.heap.size,0,none⟩)] W λe w'=>Tch NoB W w'/\∃t u,e=.returned (.iface t u)/\Jm E 7 w' (.iface t u)):=λW g hT hp=>by
  cases hx:(PS.rd pre body).body wj [] with
  | none=>
   rw [hx] at hp
   exact JcK E w.heap.size wj none (λp h=>by cases h) W (hE.tch hT noE) g hp
  | some z=>
   obtain ⟨ts,p⟩:=z
   obtain ⟨b1,r1,_,_,e1,_⟩:=Zl wj hw _ _ _ _ hx
   subst e1
   rw [hx] at hp
   cases r1 with
   | nil=>exact absurd hx (hb _ _)
   | cons a l=>exact JcK E w.heap.size wj (some (.rd (pre++b1) (a :: l))) (λp h=>⟨_,_,(Option.some.inj h).symm⟩) W (hE.tch hT noE) g hp
 clear hE h hh hs hb hl
 go_enter func46,ntmps46
 go_wp2_with fail
 refine (Zc _ _ _).mono ?_
 rintro _ w1 ⟨rfl,hp1,ht1⟩
 have HT1:Hid (Tch NoB w w1):=ht1
 have HP1:Hid (Jc w1 w.heap.size none (wj:Int) .nilIface (.rd [] s.data.toList)):=hp1
 clear ht1 hp1 c0
 go_wp2_with fail
 refine (HHD.o w1 HT1.o HP1.o).mono ?_
 rintro _ w2 ⟨rfl,⟨hp2,_⟩,ht2⟩
 have hA:=Ta NoB w2 (.cells #[.int .u64 (y.1:Int),.string y.2.1,.string y.2.2.1,.string y.2.2.2] 167)
 have HT2:Hid (Tch NoB w _):=(HT1.o.trans ht2 (λj hj=>.inr (Nat.le_of_eq hj.symm))).go hA
 have HP2:Hid (Jc _ w.heap.size none (wj:Int) .nilIface (.rd pre body)):=hp2.tch hA (λh=>h) (λ_ _ h=>h)
 clear hp2 ht2 HHD HP1 HT1 hA
 go_wp2_with fail
 refine (JcP w.heap.size none (wj:Int) _ pre body _ HP2.o).mono ?_
 rintro _ w3 ⟨rfl,ht3⟩
 have HT3:Hid (Tch NoB w w3):=HT2.o.go ht3
 have HP3:Hid (Jc w3 w.heap.size none (wj:Int) .nilIface (.rd pre body)):=HP2.o.tch ht3 (λh=>h) (λ_ _ h=>h)
 clear ht3 HT2 HP2
 go_wp2_with fail
 refine (HBO.o w3 HT3.o HP3.o).mono ?_
 rintro _ w4 ⟨⟨z1,z2,z3⟩,g4,rfl,hp4,_,ht4,_⟩
 have HT4:Hid (Tch NoB w w4):=Xo (b:=w.heap.size) (Ql _) HT3.o ht4
 have HP4:Hid (Jh E w4 w.heap.size g4 (wj:Int) (((PS.rd pre body).body wj []).map (·.2))):=hp4
 clear ht4 hp4 HT3 HP3
 go_wp2_with fail
 refine (HDN.o w4 g4 HT4.o HP4.o).mono ?_
 rintro _ w5 ⟨ht5,t,u,rfl,he5⟩
 have HT5:Hid (Tch NoB w w5):=HT4.o.go ht5
 have HE5:Hid (Jm E 7 w5 (.iface t u)):=he5
 clear ht5 HT4 HP4 he5 HDN HBO
 go_wp2_with fail
 refine (XA _ _ _ _).mono ?_
 rintro _ _ ⟨rfl,rfl⟩
 go_wp2
 go_ret
 exact ⟨HT5.o.go (Ta _ _ _),_,_,rfl,.wrap _ _ _ (Qf _ _) (HE5.o.next (Ta _ _ _))⟩
