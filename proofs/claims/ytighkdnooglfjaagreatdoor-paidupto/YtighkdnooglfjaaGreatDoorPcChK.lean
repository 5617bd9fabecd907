import Derived.Test.YtighkdnooglfjaaGreatDoorPcChI
namespace Go.Proofs.YtighkdnooglfjaaGreatDoor
open Tryz
set_option maxRecDepth 100000
set_option maxHeartbeats 400000
open Go.RowKit

def RdSt (E:Nat->Addr) (w:World) (b:Nat) (wd:Int):Option PS->Prop
 | some p=>Jc w b none wd .nilIface p/\∃q r,p=.rd q r
 | none=>∃q r t u,Jc w b none wd (.iface t u) (.rd q r)/\Jj E 7 w (.iface t u)
def RdTo (E:Nat->Addr) (w w':World) (b:Nat) (wd:Int) (st':Option PS):Prop:=RdSt E w' b wd st'/\Tch (λk=>k=b) w w'
theorem JiS {x n m:Nat} {q r:List UInt8} {p':PS} (h:(PS.rd q r).num x n=some (m,p')):∃q' r',p'=.rd q' r':=by
 simp only [PS.num] at h
 split at h
 ·cases h;exact ⟨_,_,rfl⟩
 ·cases h
theorem Ji3 {s t:List UInt8} {n:Nat} {q r:List UInt8} {p':PS} (h:(PS.rd q r).txt s n=some (t,p')):∃q' r',p'=.rd q' r':=by
 simp only [PS.txt] at h
 split at h
 ·cases h;exact ⟨_,_,rfl⟩
 ·cases h
theorem Xj.rd {w w':World} {b:Nat} {wd:Int} {q r:List UInt8} (E:Nat->Addr) (h:Xj w w' b none wd (.rd q r)):RdTo E w w' b wd (some (.rd q r)):=by
 obtain ⟨g',h1,_,h3⟩:=h
 obtain rfl:=h1.1
 exact ⟨⟨h1,_,_,rfl⟩,h3.mono (λj hj=>by rcases hj with h | h;exact .inl h;cases h)⟩
theorem JfA (E:Nat->Addr) (b:Nat) (wd:Int) (x n:Nat) (st:Option PS) (w:World) (hE:Env E w) (hp:RdSt E w b wd st) (h8:n<=8) (hd:JH st<=10000000000000):
  Calls prog 138 #[.pointer (some ⟨b,0,none⟩),.int .u64 (x:Int),.int .i64 (n:Int)] w λe w'=>e=.returned (.int .u64 ((JA x n st).1:Int))/\RdTo E w w' b wd (JA x n st).2:=by
 unfold JA
 cases st with
 | none=>
  obtain ⟨q,r,t,u,h1,h2⟩:=hp
  refine (YN b none wd _ _ _ t u w h1).mono ?_
  rintro e w' ⟨rfl,rfl⟩
  exact ⟨rfl,⟨q,r,t,u,h1,h2⟩,Te _ _⟩
 | some p=>
  obtain ⟨hp,q,r,rfl⟩:=hp
  simp only [Qu]
  cases h:(PS.rd q r).num x n with
  | none=>
   refine (XY E b none wd x n _ w hE hp h8 hd h).mono ?_
   rintro e w' ⟨rfl,h1,h2⟩
   exact ⟨rfl,⟨q,r,_,_,h1,.base⟩,h2⟩
  | some y=>
   obtain ⟨m,p'⟩:=y
   obtain ⟨q',r',rfl⟩:=JiS h
   exact (Xc b none wd x n m _ _ w hp h8 hd h).mono λe w' ⟨h1,h2⟩=>⟨h1,h2.rd E⟩
theorem Jib (E:Nat->Addr) (b:Nat) (wd:Int) (s:BA) (n:Nat) (st:Option PS) (w:World) (hE:Env E w) (hp:RdSt E w b wd st) (hd:JH st+n<=10000000000000):
  Calls prog 209 #[.pointer (some ⟨b,0,none⟩),.string s,.int .i64 (n:Int)] w λe w'=>e=.returned (.string ⟨(Ji s.data.toList n st).1.toArray⟩)/\RdTo E w w' b wd (Ji s.data.toList n st).2:=by
 unfold Ji
 cases st with
 | none=>
  obtain ⟨q,r,t,u,h1,h2⟩:=hp
  refine (JdR b none wd _ _ _ t u w h1).mono ?_
  rintro e w' ⟨rfl,rfl⟩
  exact ⟨rfl,⟨q,r,t,u,h1,h2⟩,Te _ _⟩
 | some p=>
  obtain ⟨hp,q,r,rfl⟩:=hp
  simp only [Qu]
  cases h:(PS.rd q r).txt s.data.toList n with
  | none=>
   refine (Jcn E b none wd s n _ w hE hp (by simp only [JH] at hd;omega) h).mono ?_
   rintro e w' ⟨rfl,h1,h2⟩
   exact ⟨rfl,⟨q,r,_,_,h1,.base⟩,h2⟩
  | some y=>
   obtain ⟨m,p'⟩:=y
   obtain ⟨q',r',rfl⟩:=Ji3 h
   exact (YG b none wd s n m _ _ w hp hd h).mono λe w' ⟨h1,h2⟩=>⟨h1,h2.rd E⟩
theorem RdSt.st {E:Nat->Addr} {w:World} {b:Nat} {wd:Int} {st:Option PS} (h:RdSt E w b wd st):Jf E w b none wd st:=by
 cases st with
 | none=>obtain ⟨q,r,t,u,h1,h2⟩:=h;exact ⟨_,t,u,h1,h2⟩
 | some p=>exact h.1
theorem RdSt.tch {E:Nat->Addr} {S:Nat->Prop} {w w':World} {b:Nat} {wd:Int} {st:Option PS} (h:RdSt E w b wd st) (k:Tch S w w') (hb:¬S b) (hs:∀p s u,w.heap[p]? =some (.cells #[.string s,u] 237)->¬S p):RdSt E w' b wd st:=by
 cases st with
 | some p=>exact ⟨h.1.tch k hb (λ_ h=>by cases h),h.2⟩
 | none=>obtain ⟨q,r,t,u,h1,h2⟩:=h;exact ⟨q,r,t,u,h1.tch k hb (λ_ h=>by cases h),h2.tch k hs⟩
theorem Jat (E:Nat->Addr) (b:Nat) (wd:Nat) (s:BA) (st:Option PS) (w:World) (hE:Env E w) (hp:RdSt E w b wd st) (hd:JH st+wd<=10000000000000):
  Calls prog 139 #[.pointer (some ⟨b,0,none⟩),.string s] w λe w'=>e=.returned (.string ⟨(Ji s.data.toList wd st).1.toArray⟩)/\RdTo E w w' b wd (Ji s.data.toList wd st).2:=by
 have c1:=hp.st.width
 have HC:Hid (Calls prog 209 _ w _):=Jib E b wd s wd st w hE hp hd
 clear hp hE
 go_enter func139,ntmps139
 go_wp2_with fail
 refine HC.o.mono ?_
 rintro _ w1 ⟨rfl,h⟩
 have HS:Hid _:=h
 clear h HC
 go_wp2
 go_ret
 exact ⟨rfl,HS.o⟩
structure RRun (E:Nat->Addr) (w0 wA w:World) (b:Nat) (wd:Int) (st:Option PS):Prop where
 env:Env E w
 port:RdSt E w b wd st
 tch:Tch (λk=>k=b) wA w
 a:Tch NoB w0 wA
 lo:18<=b
 lt:b<w0.heap.size
theorem RRun.step {E:Nat->Addr} {w0 wA w w':World} {b:Nat} {wd:Int} {st st':Option PS} (h:RRun E w0 wA w b wd st) (k:RdTo E w w' b wd st'):RRun E w0 wA w' b wd st':=
 ⟨h.env.tch k.2 (λj hj=>by have:=h.lo;omega),k.1,h.tch.trans k.2 (λj hj=>.inl hj),h.a,h.lo,h.lt⟩
theorem RRun.box {E:Nat->Addr} {w0 wA w:World} {b:Nat} {wd:Int} {st:Option PS} (h:RRun E w0 wA w b wd st) {k:Nat} {o:Obj} (hk:w0.heap.size<=k) (hA:wA.heap[k]? =some o):w.heap[k]? =some o:=
 (h.tch.block k (Jb hA) (λe=>by have:=h.lt;omega)).trans hA
theorem Jb7 (E:Nat->Addr) (b:Nat) (hb12:18<=b) (wd:Nat) (n:Nat) (s1 s2 s3:BA) (st:Option PS) (w:World) (hE:Env E w) (hp:RdSt E w b wd st) (hd:JH st+4 * wd<=90000000):
  Calls prog 86 #[.pointer (some ⟨b,0,none⟩),.agg #[.int .u64 (n:Int),.string s1,.string s2,.string s3]] w λe w'=>e=.returned (hdV (Yu wd (n,s1,s2,s3) st).1)/\RdTo E w w' b wd (Yu wd (n,s1,s2,s3) st).2:=by
 have hlt:=hp.st.lt
 have hA:=Tch.allocs NoB w (.cells #[.int .u64 (n:Int),.string s1,.string s2,.string s3] 167) (.cells #[.int .u64 0,.string ⟨#[]⟩,.string ⟨#[]⟩,.string ⟨#[]⟩] 167)
 have HR0:RRun E w _ _ b wd st:=⟨hE.tch hA noE,hp.tch hA (λh=>h) (λ_ _ _ _ h=>h),Te _ _,hA,hb12,hlt⟩
 have hl0:=Zx n 4 st
 have hl1:=XJ s1.data.toList wd (JA n 4 st).2
 have hl2:=XJ s2.data.toList wd (Ji s1.data.toList wd (JA n 4 st).2).2
 have RUN:Hid _:=HR0
 clear hE hp HR0 hA
 go_enter func86,ntmps86
 go_wp2_with fail
 refine (JfA E b wd n 4 st _ RUN.out.env RUN.out.port (by omega) (by omega)).mono ?_
 rintro _ w1 ⟨rfl,h⟩
 have R1:=RUN.out.step h
 have bx1:=R1.box (k:=w.heap.size) (Ql _) (heap_alloc2_old _ _ _)
 have c1:w1.cell? ⟨w.heap.size,1,none⟩=some (.string s1):=Ja bx1
 have RUN1:Hid _:=R1
 clear R1 bx1 h
 go_wp2_with fail
 refine (Jat E b wd s1 _ _ RUN1.out.env RUN1.out.port (by omega)).mono ?_
 rintro _ w2 ⟨rfl,h⟩
 have R2:=RUN1.out.step h
 have bx2:=R2.box (k:=w.heap.size) (Ql _) (heap_alloc2_old _ _ _)
 have c2:w2.cell? ⟨w.heap.size,2,none⟩=some (.string s2):=Ja bx2
 have RUN2:Hid _:=R2
 clear R2 bx2 h
 go_wp2_with fail
 refine (Jat E b wd s2 _ _ RUN2.out.env RUN2.out.port (by omega)).mono ?_
 rintro _ w3 ⟨rfl,h⟩
 have R3:=RUN2.out.step h
 have bx3:=R3.box (k:=w.heap.size) (Ql _) (heap_alloc2_old _ _ _)
 have c3:w3.cell? ⟨w.heap.size,3,none⟩=some (.string s3):=Ja bx3
 have RUN3:Hid _:=R3
 clear R3 bx3 h
 go_wp2_with fail
 refine (Jat E b wd s3 _ _ RUN3.out.env RUN3.out.port (by omega)).mono ?_
 rintro _ w4 ⟨rfl,h⟩
 have R4:=RUN3.out.step h
 have rR:=R4.box (k:=w.heap.size+1) (by omega) (heap_alloc2_new _ _ _)
 have e0:w4.cell? ⟨w.heap.size+1,0,none⟩=some (.int .u64 0):=Ja rR
 have e1:w4.cell? ⟨w.heap.size+1,1,none⟩=some (.string ⟨#[]⟩):=Ja rR
 have e2:w4.cell? ⟨w.heap.size+1,2,none⟩=some (.string ⟨#[]⟩):=Ja rR
 have e3:w4.cell? ⟨w.heap.size+1,3,none⟩=some (.string ⟨#[]⟩):=Ja rR
 have fR:∀j,w4.frozen? ⟨w.heap.size+1,j,none⟩=false:=λj=>Qg _ _ _ _ _ rR
 have RUN4:Hid _:=R4
 have RR:Hid (_=_):=rR
 clear R4 rR h
 go_wp2
 rw [set4 _ _ _ _ _ _ _ _ _ _ _ RR.out]
 have hN:=RUN4.out.a.size
 refine QJ (v:=hdV (Yu wd (n,s1,s2,s3) st).1) (Qq results86 _ _ (w.heap.size+1) _ _ (0,0) _ rfl (Qi _ _ _ _ _ _ RR.out) underlying167 rfl (by kernel_rfl)) rfl ⟨rfl,RUN4.out.port.tch (Ts _ _ _) (by omega) (λp s u hp e=>by subst e;rw [RR.out] at hp;simp at hp),?_⟩
 exact ((RUN4.out.a.mono noE).trans RUN4.out.tch (λj hj=>.inl hj)).trans (Ts _ _ _) (λj hj=>.inr (by omega))
theorem Jgr (b:Nat) (g:Option Nat) (wd:Nat) (ia:Option Addr) (n ic:Nat) (p0:PS) (t:TypeId) (u:Value) (w:World) (hp:Jc w b g wd (.iface t u) p0):
  Calls prog 78 #[.pointer (some ⟨b,0,none⟩),.slice ia n ic] w λe w'=>e=.returned (.slice none 0 0)/\Jc w' b g wd (.iface t u) p0/\Tch NoB w w':=by
 have hmf:∀(fn:Fn) (first cap:Array Value) (w:World),(Instr.makeFunc fn first cap).run prog w=.ok (.func fn first cap) w:=λ_ _ _ _=>rfl
 have HL:Hid (∀what:BA,what.size<=1000->_):=λwhat hwh=>JhY b g wd what hwh 1 0 3 (.slice ia n ic) ia n ic rfl p0 t u w hp
 clear hp
 go_enter func78,ntmps78
 go_wp2_with fail
 refine (HL.o _ (by decide)).mono ?_
 clear HL
 rintro e w1 ⟨rfl,h⟩
 have HH:Hid _:=h
 clear h
 go_wp2
 go_ret
 exact ⟨rfl,HH.o⟩
