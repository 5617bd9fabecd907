import Derived.Test.YtighkdnooglfjaaGreatDoorNcRd
import Derived.Test.YtighkdnooglfjaaGreatDoorNcMDef
namespace Go.Proofs.YtighkdnooglfjaaGreatDoor
open Tryz
set_option maxRecDepth 100000
set_option maxHeartbeats 1000000
open Go.RowKit

theorem Jac (a:Addr) (w:World):(method 641 170 (.pointer (some a)) "trove/wire.number").run prog w=.ok (382,.pointer (some a)) w:=by kernel_rfl
theorem Ja4 (a:Addr) (w:World):(method 641 170 (.pointer (some a)) "trove/wire.text").run prog w=.ok (385,.pointer (some a)) w:=by kernel_rfl
theorem Jad (a:Addr) (w:World):(method 641 153 (.pointer (some a)) "trove/wire.number").run prog w=.ok (378,.pointer (some a)) w:=by kernel_rfl
theorem Ja5 (a:Addr) (w:World):(method 641 153 (.pointer (some a)) "trove/wire.text").run prog w=.ok (381,.pointer (some a)) w:=by kernel_rfl
theorem Xy {w:World} {b:Nat} {g:Option Nat} {wd:Int} {e e':Value} {p:PS} {n:Nat} (hp:Jc w b g wd e p):
  (w.drewN n).cell? ⟨b,2,none⟩=some e/\(w.drewN n).frozen? ⟨b,2,none⟩=false/\Jc ((w.drewN n).setCell ⟨b,2,none⟩ e') b g wd e' p/\Tch (λk=>k=b) w ((w.drewN n).setCell ⟨b,2,none⟩ e'):=by
 cases p using PS.on with
 | rd pre rest=>
  have hrow:=hp.2
  have h1:=Qj (w.drewN n) b 2 _ _ (0,0) e' hrow
  refine ⟨Ja hrow,Qg _ _ _ _ _ hrow,?_,?_⟩
  ·exact ⟨hp.1,by rw [h1,Qi (w.drewN n) _ _ _ _ _ hrow];rfl⟩
  ·rw [h1];exact (Td _ w n).trans (Ts _ _ _) (λj h=>.inl h)
 | wr done=>
  have hlt:=hp.lt
  obtain ⟨v,hv,hbs,hrow⟩:=hp
  have h1:=Qj (w.drewN n) b 2 _ _ (0,0) e' hrow
  have ht:Tch (λk=>k=b) w ((w.drewN n).setCell ⟨b,2,none⟩ e'):=by rw [h1];exact (Td _ w n).trans (Ts _ _ _) (λj h=>.inl h)
  refine ⟨Ja hrow,Qg _ _ _ _ _ hrow,⟨v,hv,?_,by rw [h1,Qi (w.drewN n) _ _ _ _ _ hrow];rfl⟩,ht⟩
  exact hbs.grown (row:=some b) ⟨ht.os,ht.tape,ht.output,ht.size,λk hk hn=>ht.block k hk (λe=>hn (by rw [e]))⟩ (λk e=>by cases e;exact .inl (by omega))

theorem Jd3 (b:Nat) (wd:Int) (x:Int) (pre rest:List UInt8) (n:Nat) (w:World) (hp:Jc w b none wd .nilIface (.rd pre rest)) (hb:pre.length+rest.length<=10000000000000) (hn:n<=rest.length) (h8:n<=8):
  Calls prog 138 #[.pointer (some ⟨b,0,none⟩),.int .u64 x,.int .i64 (n:Int)] w λe w'=>e=.returned (.int .u64 (numL (rest.take n):Int))/\Jc w' b none wd .nilIface (.rd (pre++rest.take n) (rest.drop n))/\Tch (λk=>k=b) w w':=by
 have hrow:=hp.2
 obtain ⟨c0, -,c2⟩:=rows hrow
 have hm:=Jac ⟨b,0,none⟩
 go_enter func138,ntmps138
 go_wp2_with fail
 refine (Jd8 b wd .nilIface _ pre rest n _ hp hb hn h8).mono ?_
 rintro _ w1 ⟨rfl,hp1,ht⟩
 obtain ⟨d2,f2,q1,q2⟩:=Xy (n:=0) (e':=.nilIface) hp1
 rw [World.drewN_zero] at d2 f2 q1 q2
 have Q1:Hid (Jc _ _ _ _ _ _):=q1
 have Q2:Hid (Tch _ _ _):=q2
 have HT:Hid (Tch _ _ _):=ht
 go_wp2
 go_ret
 exact ⟨rfl,Q1.out,HT.o.trans Q2.out (λj h=>.inl h)⟩
theorem Jd2 (E:Nat->Addr) (b:Nat) (wd:Int) (x:Int) (pre rest:List UInt8) (n:Nat) (w:World) (hE:Env E w) (hp:Jc w b none wd .nilIface (.rd pre rest)) (hb:pre.length+rest.length<=10000000000000) (hn:rest.length<n):
  Calls prog 138 #[.pointer (some ⟨b,0,none⟩),.int .u64 x,.int .i64 (n:Int)] w λe w'=>e=.returned (.int .u64 0)/\Jc w' b none wd (eV E 7) (.rd pre rest)/\Tch (λk=>k=b) w w':=by
 have hrow:=hp.2
 obtain ⟨c0, -,c2⟩:=rows hrow
 have hm:=Jac ⟨b,0,none⟩
 go_enter func138,ntmps138
 go_wp2_with fail
 refine (Jd7 E b wd .nilIface _ pre rest n _ hE hp hb hn).mono ?_
 rintro _ w1 ⟨rfl,j,rfl⟩
 obtain ⟨d2,f2,q1,q2⟩:=Xy (n:=j) (e':=eV E 7) hp
 have Q1:Hid (Jc _ _ _ _ _ _):=q1
 have Q2:Hid (Tch _ _ _):=q2
 go_wp2
 go_ret
 exact ⟨rfl,Q1.out,Q2.out⟩
theorem Jd4 (E:Nat->Addr) (b:Nat) (wd:Int) (x:Nat) (g:Option Nat) (done:List UInt8) (n:Nat) (w:World) (hE:Env E w) (hp:Jc w b g wd .nilIface (.wr done)) (h8:n<=8) (hn:x / 2 ^ (8 * n) ≠ 0):
  Calls prog 138 #[.pointer (some ⟨b,0,none⟩),.int .u64 (x:Int),.int .i64 (n:Int)] w λe w'=>e=.returned (.int .u64 0)/\Jc w' b g wd (eV E 7) (.wr done)/\Tch (λk=>k=b) w w':=by
 have hrow:=hp.choose_spec.2.2
 obtain ⟨c0, -,c2, -⟩:=rows hrow
 have hm:=Jad ⟨b,0,none⟩
 go_enter func138,ntmps138
 go_wp2_with fail
 refine (Jem E b x n _ hE h8 hn).mono ?_
 rintro _ w1 ⟨rfl,j,rfl⟩
 obtain ⟨d2,f2,q1,q2⟩:=Xy (n:=j) (e':=eV E 7) hp
 have Q1:Hid _:=q1
 have Q2:Hid _:=q2
 go_wp2
 go_ret
 exact ⟨rfl,Q1.out,Q2.out⟩
theorem Jgt (E:Nat->Addr) (b:Nat) (wd:Int) (x:Value) (pre rest:List UInt8) (n:Nat) (w:World) (hE:Env E w) (hp:Jc w b none wd .nilIface (.rd pre rest)) (hb:pre.length+rest.length<=10000000000000) (hn:rest.length<n):
  Calls prog 209 #[.pointer (some ⟨b,0,none⟩),x,.int .i64 (n:Int)] w λe w'=>e=.returned (.string ⟨#[]⟩)/\Jc w' b none wd (eV E 7) (.rd pre rest)/\Tch (λk=>k=b) w w':=by
 have hrow:=hp.2
 obtain ⟨c0, -,c2⟩:=rows hrow
 have hm:=Ja4 ⟨b,0,none⟩
 go_enter func209,ntmps209
 go_wp2_with fail
 refine (Jcq E b wd .nilIface _ pre rest n _ hE hp hb hn).mono ?_
 rintro _ w1 ⟨rfl,j,rfl⟩
 obtain ⟨d2,f2,q1,q2⟩:=Xy (n:=j) (e':=eV E 7) hp
 have Q1:Hid (Jc _ _ _ _ _ _):=q1
 have Q2:Hid (Tch _ _ _):=q2
 go_wp2
 go_ret
 exact ⟨rfl,Q1.out,Q2.out⟩
theorem Jgv (E:Nat->Addr) (b:Nat) (wd:Int) (s:BA) (g:Option Nat) (done:List UInt8) (n:Nat) (w:World) (hE:Env E w) (hp:Jc w b g wd .nilIface (.wr done)) (hn:s.size ≠ n):
  Calls prog 209 #[.pointer (some ⟨b,0,none⟩),.string s,.int .i64 (n:Int)] w λe w'=>e=.returned (.string ⟨#[]⟩)/\Jc w' b g wd (eV E 7) (.wr done)/\Tch (λk=>k=b) w w':=by
 have hrow:=hp.choose_spec.2.2
 obtain ⟨c0, -,c2, -⟩:=rows hrow
 have hm:=Ja5 ⟨b,0,none⟩
 go_enter func209,ntmps209
 go_wp2_with fail
 refine (JgC E b s n _ hE hn).mono ?_
 rintro _ w1 ⟨rfl,j,rfl⟩
 obtain ⟨d2,f2,q1,q2⟩:=Xy (n:=j) (e':=eV E 7) hp
 have Q1:Hid _:=q1
 have Q2:Hid _:=q2
 go_wp2
 go_ret
 exact ⟨rfl,Q1,Q2⟩
theorem Jgu (b:Nat) (wd:Int) (x:Value) (pre rest:List UInt8) (n:Nat) (w:World) (hp:Jc w b none wd .nilIface (.rd pre rest)) (hb:pre.length+rest.length<=10000000000000) (hn:n<=rest.length):
  Calls prog 209 #[.pointer (some ⟨b,0,none⟩),x,.int .i64 (n:Int)] w λe w'=>e=.returned (.string ⟨(rest.take n).toArray⟩)/\Jc w' b none wd .nilIface (.rd (pre++rest.take n) (rest.drop n))/\Tch (λk=>k=b) w w':=by
 have hrow:=hp.2
 obtain ⟨c0, -,c2⟩:=rows hrow
 have hm:=Ja4 ⟨b,0,none⟩
 go_enter func209,ntmps209
 go_wp2_with fail
 refine (Jcr b wd .nilIface _ pre rest n _ hp hb hn).mono ?_
 rintro _ w1 ⟨rfl,hp1,ht⟩
 obtain ⟨d2,f2,q1,q2⟩:=Xy (n:=0) (e':=.nilIface) hp1
 rw [World.drewN_zero] at d2 f2 q1 q2
 have Q1:Hid (Jc _ _ _ _ _ _):=q1
 have Q2:Hid (Tch _ _ _):=q2
 have HT:Hid (Tch _ _ _):=ht
 go_wp2
 go_ret
 exact ⟨rfl,Q1.out,HT.o.trans Q2.out (λj h=>.inl h)⟩
theorem Jd5 (b:Nat) (g:Option Nat) (wd:Int) (x:Nat) (done:List UInt8) (n:Nat) (w:World) (hp:Jc w b g wd .nilIface (.wr done)) (h8:n<=8) (hn:x / 2 ^ (8 * n)=0) (hd:done.length<=10000000000000):
  Calls prog 138 #[.pointer (some ⟨b,0,none⟩),.int .u64 (x:Int),.int .i64 (n:Int)] w λe w'=>e=.returned (.int .u64 (x:Int))/\∃g',Jc w' b g' wd .nilIface (.wr (done++beL x n n))/\Jn w g g'/\Tch (λk=>k=b\/some k=g) w w':=by
 have hrow:=hp.choose_spec.2.2
 obtain ⟨c0, -,c2, -⟩:=rows hrow
 have hm:=Jad ⟨b,0,none⟩
 go_enter func138,ntmps138
 go_wp2_with fail
 refine (Jen b g wd .nilIface done x n _ hp h8 hn hd).mono ?_
 rintro _ w1 ⟨rfl,g1,hp1,hmv,ht⟩
 obtain ⟨d2,f2,q1,q2⟩:=Xy (n:=0) (e':=.nilIface) hp1
 rw [World.drewN_zero] at d2 f2 q1 q2
 have Q1:Hid _:=q1
 have Q2:Hid _:=q2
 have HM:Hid _:=hmv
 have HT:Hid _:=ht
 go_wp2
 go_ret
 exact ⟨rfl,g1,Q1.out,HM.o,HT.o.trans Q2.out (λj h=>.inl (.inl h))⟩
theorem Jgw (b:Nat) (g:Option Nat) (wd:Int) (s:BA) (done:List UInt8) (n:Nat) (w:World) (hp:Jc w b g wd .nilIface (.wr done)) (hn:s.size=n) (hd:done.length+n<=10000000000000):
  Calls prog 209 #[.pointer (some ⟨b,0,none⟩),.string s,.int .i64 (n:Int)] w λe w'=>e=.returned (.string s)/\∃g',Jc w' b g' wd .nilIface (.wr (done++s.data.toList))/\Jn w g g'/\Tch (λk=>k=b\/some k=g) w w':=by
 have hrow:=hp.choose_spec.2.2
 obtain ⟨c0, -,c2, -⟩:=rows hrow
 have hm:=Ja5 ⟨b,0,none⟩
 go_enter func209,ntmps209
 go_wp2_with fail
 refine (JgD b g wd .nilIface done s n _ hp hn hd).mono ?_
 rintro _ w1 ⟨rfl,g1,hp1,hmv,ht⟩
 obtain ⟨d2,f2,q1,q2⟩:=Xy (n:=0) (e':=.nilIface) hp1
 rw [World.drewN_zero] at d2 f2 q1 q2
 have Q1:Hid _:=q1
 have Q2:Hid _:=q2
 have HM:Hid _:=hmv
 have HT:Hid _:=ht
 go_wp2
 go_ret
 exact ⟨rfl,g1,Q1.out,HM.o,HT.o.trans Q2.out (λj h=>.inl (.inl h))⟩

def PS.num (x k:Nat):PS->Option (Nat×PS)
 | ⟨.inl (pre,rest)⟩=>if k<=rest.length then some (numL (rest.take k),.rd (pre++rest.take k) (rest.drop k)) else none
 | ⟨.inr done⟩=>if x / 2 ^ (8 * k)=0 then some (x,.wr (done++beL x k k)) else none
def PS.txt (s:List UInt8) (k:Nat):PS->Option (List UInt8×PS)
 | ⟨.inl (pre,rest)⟩=>if k<=rest.length then some (rest.take k,.rd (pre++rest.take k) (rest.drop k)) else none
 | ⟨.inr done⟩=>if s.length=k then some (s,.wr (done++s)) else none
def PS.len:PS->Nat
 | ⟨.inl (pre,rest)⟩=>pre.length+rest.length
 | ⟨.inr done⟩=>done.length
def Xt (w w':World) (b:Nat) (g:Option Nat) (wd:Int) (p':PS):Prop:=
 ∃g',Jc w' b g' wd .nilIface p'/\Jn w g g'/\Tch (λk=>k=b\/some k=g) w w'
theorem Xt.trans {w w1 w2:World} {b:Nat} {g g1:Option Nat} {wd:Int} {p2:PS} (hm:Jn w g g1) (h:Tch (λk=>k=b\/some k=g) w w1) (k:Xt w1 w2 b g1 wd p2):Xt w w2 b g wd p2:=by
 obtain ⟨g2,h1,h2,h3⟩:=k
 exact ⟨g2,h1,hm.trans h2 h.size,XV h h3 hm⟩
theorem Xk (b:Nat) (g:Option Nat) (wd:Int) (x n m:Nat) (p p':PS) (w:World) (hp:Jc w b g wd .nilIface p) (h8:n<=8) (hd:p.len<=10000000000000) (h:p.num x n=some (m,p')):
  Calls prog 138 #[.pointer (some ⟨b,0,none⟩),.int .u64 (x:Int),.int .i64 (n:Int)] w λe w'=>e=.returned (.int .u64 (m:Int))/\Xt w w' b g wd p':=by
 cases p using PS.on with
 | rd pre rest=>
  simp only [PS.num] at h
  split at h
  ·cases h
   obtain rfl:=hp.1
   exact (Jd3 b wd x pre rest n w hp hd ‹_› h8).mono λe w' ⟨h1,h2,h3⟩=>⟨h1,none,h2,.inl rfl,h3.mono (λj hj=>.inl (.inl hj))⟩
  ·cases h
 | wr done=>
  simp only [PS.num] at h
  split at h
  ·cases h
   exact Jd5 b g wd x done n w hp h8 ‹_› hd
  ·cases h
theorem Yx (E:Nat->Addr) (b:Nat) (g:Option Nat) (wd:Int) (x n:Nat) (p:PS) (w:World) (hE:Env E w) (hp:Jc w b g wd .nilIface p) (h8:n<=8) (hd:p.len<=10000000000000) (h:p.num x n=none):
  Calls prog 138 #[.pointer (some ⟨b,0,none⟩),.int .u64 (x:Int),.int .i64 (n:Int)] w λe w'=>e=.returned (.int .u64 0)/\Jc w' b g wd (eV E 7) p/\Tch (λk=>k=b) w w':=by
 cases p using PS.on with
 | rd pre rest=>
  simp only [PS.num] at h
  split at h
  ·cases h
  ·obtain rfl:=hp.1
   exact Jd2 E b wd x pre rest n w hE hp hd (by omega)
 | wr done=>
  simp only [PS.num] at h
  split at h
  ·cases h
  ·exact Jd4 E b wd x g done n w hE hp h8 ‹_›
theorem Zx (b:Nat) (g:Option Nat) (wd:Int) (s:BA) (n:Nat) (m:List UInt8) (p p':PS) (w:World) (hp:Jc w b g wd .nilIface p) (hd:p.len+n<=10000000000000) (h:p.txt s.data.toList n=some (m,p')):
  Calls prog 209 #[.pointer (some ⟨b,0,none⟩),.string s,.int .i64 (n:Int)] w λe w'=>e=.returned (.string ⟨m.toArray⟩)/\Xt w w' b g wd p':=by
 cases p using PS.on with
 | rd pre rest=>
  simp only [PS.txt] at h
  split at h
  ·cases h
   obtain rfl:=hp.1
   exact (Jgu b wd _ pre rest n w hp (by simp only [PS.len] at hd;omega) ‹_›).mono λe w' ⟨h1,h2,h3⟩=>⟨h1,none,h2,.inl rfl,h3.mono (λj hj=>.inl (.inl hj))⟩
  ·cases h
 | wr done=>
  simp only [PS.txt] at h
  split at h
  ·cases h
   rename_i hl
   exact (Jgw b g wd s done n w hp (by simpa using hl) hd).mono λe w' ⟨h1,h2⟩=>⟨by rw [h1],h2⟩
  ·cases h
theorem JdC (E:Nat->Addr) (b:Nat) (g:Option Nat) (wd:Int) (s:BA) (n:Nat) (p:PS) (w:World) (hE:Env E w) (hp:Jc w b g wd .nilIface p) (hd:p.len<=10000000000000) (h:p.txt s.data.toList n=none):
  Calls prog 209 #[.pointer (some ⟨b,0,none⟩),.string s,.int .i64 (n:Int)] w λe w'=>e=.returned (.string ⟨#[]⟩)/\Jc w' b g wd (eV E 7) p/\Tch (λk=>k=b) w w':=by
 cases p using PS.on with
 | rd pre rest=>
  simp only [PS.txt] at h
  split at h
  ·cases h
  ·obtain rfl:=hp.1
   exact Jgt E b wd _ pre rest n w hE hp hd (by omega)
 | wr done=>
  simp only [PS.txt] at h
  split at h
  ·cases h
  ·rename_i hl
   exact Jgv E b wd s g done n w hE hp (by simpa using hl)
theorem Jc.errCell {w:World} {b:Nat} {g:Option Nat} {wd:Int} {e:Value} {p:PS} (hp:Jc w b g wd e p):w.cell? ⟨b,2,none⟩=some e:=(Xy (n:=0) (e':=e) hp).1
theorem ZF (b:Nat) (g:Option Nat) (wd:Int) (x:Value) (n:Value) (p:PS) (t:TypeId) (v:Value) (w:World) (hp:Jc w b g wd (.iface t v) p):
  Calls prog 138 #[.pointer (some ⟨b,0,none⟩),x,n] w λe w'=>e=.returned (.int .u64 0)/\w=w':=by
 have c2:=hp.errCell
 clear hp
 go_enter func138,ntmps138
 go_wp2
 go_ret
 exact ⟨rfl,rfl⟩
theorem Jfz (b:Nat) (g:Option Nat) (wd:Int) (x:Value) (n:Value) (p:PS) (t:TypeId) (v:Value) (w:World) (hp:Jc w b g wd (.iface t v) p):
  Calls prog 209 #[.pointer (some ⟨b,0,none⟩),x,n] w λe w'=>e=.returned (.string ⟨#[]⟩)/\w=w':=by
 have c2:=hp.errCell
 clear hp
 go_enter func209,ntmps209
 go_wp2
 go_ret
 exact ⟨rfl,rfl⟩
theorem Zd (x k m:Nat) (p p1:PS) (h:p.num x k=some (m,p1)):p1.len<=p.len+k:=by
 cases p using PS.on <;> simp only [PS.num] at h <;> split at h <;> cases h <;> simp [PS.len,Jg] <;> omega
theorem Jek (s t:List UInt8) (k:Nat) (p p1:PS) (h:p.txt s k=some (t,p1)):p1.len<=p.len+k:=by
 cases p using PS.on <;> simp only [PS.txt] at h <;> split at h <;> cases h <;> simp [PS.len] <;> omega

def PS.out (a o:Nat) (p:PS):Option ((Nat×Nat)×PS):=
 match p.num a 8 with
 | none=>none
 | some (a',p1)=>match p1.num o 1 with
  | none=>none
  | some (o',p2)=>some ((a',o'),p2)
def JC (n:Int):Nat:=(n % 18446744073709551616).toNat
def PS.coin (wd:Nat) (c:BA×Int) (p:PS):Option ((BA×Int)×PS):=
 match p.txt c.1.data.toList wd with
 | none=>none
 | some (t,p1)=>match p1.num (JC c.2) 1 with
  | none=>none
  | some (m,p2)=>if m<3 then some ((⟨t.toArray⟩,(m:Int)),p2) else none
def PS.coins (wd:Nat):List (BA×Int)->PS->Option (List (BA×Int)×PS)
 | [],p=>some ([],p)
 | x :: r,p=>match p.coin wd x with
  | none=>none
  | some (y,p1)=>match PS.coins wd r p1 with
   | none=>none
   | some (ys,p2)=>some (y :: ys,p2)
def PS.outs:List (Nat×Nat)->PS->Option (List (Nat×Nat)×PS)
 | [],p=>some ([],p)
 | x :: r,p=>match p.out x.1 x.2 with
  | none=>none
  | some (y,p1)=>match PS.outs r p1 with
   | none=>none
   | some (ys,p2)=>some (y :: ys,p2)
def YC (l:List (BA×Int)) (cnt:Nat):List (BA×Int):=if l=[] then List.replicate cnt (⟨#[]⟩,0) else l
def YD (l:List (Nat×Nat)) (cnt:Nat):List (Nat×Nat):=if l=[] then List.replicate cnt (0,0) else l
def PS.listC (wd least most:Nat) (l:List (BA×Int)) (p:PS):Option (List (BA×Int)×PS):=
 match p.num l.length 1 with
 | none=>none
 | some (cnt,p1)=>if cnt<least\/most<cnt then none else PS.coins wd (YC l cnt) p1
def PS.listO (least most:Nat) (l:List (Nat×Nat)) (p:PS):Option (List (Nat×Nat)×PS):=
 match p.num l.length 1 with
 | none=>none
 | some (cnt,p1)=>if cnt<least\/most<cnt then none else PS.outs (YD l cnt) p1
abbrev TxL:=List (BA×Int)×List (Nat×Nat)
def PS.tx (wd:Nat) (t:TxL) (p:PS):Option (TxL×PS):=
 match p.listC wd 1 3 t.1 with
 | none=>none
 | some (ys,p1)=>match p1.listO 0 3 t.2 with
  | none=>none
  | some (zs,p2)=>some ((ys,zs),p2)
def PS.txs (wd:Nat):List TxL->PS->Option (List TxL×PS)
 | [],p=>some ([],p)
 | x :: r,p=>match p.tx wd x with
  | none=>none
  | some (y,p1)=>match PS.txs wd r p1 with
   | none=>none
   | some (ys,p2)=>some (y :: ys,p2)
def ZK (ts:List TxL) (cnt:Nat):List TxL:=if ts=[] then List.replicate cnt ([],[]) else ts
def PS.body (wd:Nat) (ts:List TxL) (p:PS):Option (List TxL×PS):=
 match p.num ts.length 1 with
 | none=>none
 | some (cnt,p1)=>if 3<cnt then none else PS.txs wd (ZK ts cnt) p1
def PS.hdr (wd:Nat) (h:Nat×BA×BA×BA) (p:PS):Option ((Nat×BA×BA×BA)×PS):=
 match p.num h.1 4 with
 | none=>none
 | some (n,p1)=>match p1.txt h.2.1.data.toList wd with
  | none=>none
  | some (t1,p2)=>match p2.txt h.2.2.1.data.toList wd with
   | none=>none
   | some (t2,p3)=>match p3.txt h.2.2.2.data.toList wd with
    | none=>none
    | some (t3,p4)=>some ((n,⟨t1.toArray⟩,⟨t2.toArray⟩,⟨t3.toArray⟩),p4)
def JG (l:List (Nat×Nat)) (k:Nat):Nat:=((l.take k).map (·.1)).sum
def Xq (l1 l2:List (Nat×Nat)):Prop:=18446744073709551616<=JG l1 l1.length\/18446744073709551616<=JG l2 l2.length\/JG l1 l1.length<JG l2 l2.length

def JaG (E:Nat->Addr) (w w':World) (b:Nat) (g:Option Nat) (wd:Int):Prop:=
 ∃g' p',Jc w' b g' wd (eV E 7) p'/\Jn w g g'/\Tch (λk=>k=b\/some k=g) w w'
theorem Tch.allocs (S:Nat->Prop) (w:World) (o o':Obj):Tch S w ((w.alloc o).alloc o'):=(Ta S w o).trans (Ta S _ o') (λ_ h=>.inl h)
theorem Jc.allocs {w:World} {b:Nat} {g:Option Nat} {wd:Int} {err:Value} {p:PS} (h:Jc w b g wd err p) (o o':Obj):Jc ((w.alloc o).alloc o') b g wd err p:=
 h.tch (Tch.allocs NoB w o o') (λh=>h) (λ_ _ h=>h)
theorem Env.allocs {E:Nat->Addr} {w:World} (h:Env E w) (o o':Obj):Env E ((w.alloc o).alloc o'):=h.tch (Tch.allocs NoB w o o') noE
theorem set2 (w:World) (g:Nat) (t:TypeId) (a b v0 v1:Value) (h:w.heap[g]? =some (.cells #[a,b] t (0,0))):
  (w.setCell ⟨g,0,none⟩ v0).setCell ⟨g,1,none⟩ v1=w.setRow g #[v0,v1]:=by
 rw [Qj w g 0 _ t (0,0) v0 h,Qj _ g 1 _ t (0,0) v1 (Qi _ _ _ _ _ _ h),QI]
 refine congrArg (w.setRow g) ?_
 simp
theorem Xt.fresh {w w2 w3:World} {b k:Nat} {g g2:Option Nat} {wd:Int} {err:Value} {p p2:PS} (_hp:Jc w b g wd err p) (o o':Obj) (hm:Jn ((w.alloc o).alloc o') g g2) (ht:Tch (λk=>k=b\/some k=g) ((w.alloc o).alloc o') w2)
  (hp2:Jc w3 b g2 wd .nilIface p2) (h3:Tch (λj=>j=k) w2 w3) (hk:w.heap.size<=k):Xt w w3 b g wd p2:=by
 refine ⟨g2,hp2,?_,((Tch.allocs _ w o o').trans ht (λ_ h=>.inl h)).trans h3 (λj hj=>by subst hj;exact .inr hk)⟩
 rcases hm with hm | ⟨i,hi,hle⟩
 ·exact .inl hm
 ·exact .inr ⟨i,hi,by simp at hle;omega⟩
theorem JaG.fresh {E:Nat->Addr} {w w2 w3:World} {b k:Nat} {g g2:Option Nat} {wd:Int} {err:Value} {p p2:PS} (_hp:Jc w b g wd err p) (o o':Obj) (hm:Jn ((w.alloc o).alloc o') g g2) (ht:Tch (λk=>k=b\/some k=g) ((w.alloc o).alloc o') w2)
  (hp2:Jc w3 b g2 wd (eV E 7) p2) (h3:Tch (λj=>j=k) w2 w3) (hk:w.heap.size<=k):JaG E w w3 b g wd:=by
 refine ⟨g2,p2,hp2,?_,((Tch.allocs _ w o o').trans ht (λ_ h=>.inl h)).trans h3 (λj hj=>by subst hj;exact .inr hk)⟩
 rcases hm with hm | ⟨i,hi,hle⟩
 ·exact .inl hm
 ·exact .inr ⟨i,hi,by simp at hle;omega⟩
theorem XT {w:World} {b:Nat} {g:Option Nat} {wd:Int} {err:Value} {p:PS} (h:Jc w b g wd err p) (k:Nat) (hk:w.heap.size<=k):¬(k=b\/some k=g):=by
 have h1:=h.lt
 rintro (rfl | e)
 ·omega
 ·have:=(h.own k e.symm).2;omega
theorem Jat {w:World} {b:Nat} {g:Option Nat} {wd:Int} {err:Value} {p:PS} (h12:18<=b) (h:Jc w b g wd err p):∀j,(j=b\/some j=g)->18<=j:=by
 rintro j (rfl | e)
 ·exact h12
 ·have:=(h.own j e.symm).1;omega
theorem Jbt {w:World} {b:Nat} {g g':Option Nat} {wd:Int} {err:Value} {p:PS} (h:Jc w b g wd err p) (o o':Obj) (hm:Jn ((w.alloc o).alloc o') g g') (k:Nat) (hk:w.heap.size<=k) (hk2:k<w.heap.size+2):¬(k=b\/some k=g'):=by
 rcases hm with rfl | ⟨i,rfl,hi⟩
 ·exact XT h k hk
 ·have h1:=h.lt
  rintro (rfl | e)
  ·omega
  ·cases e;simp at hi;omega

theorem Jbi (x:Int) (h0:0<=x) (h:x<256):IntKind.u8.wrap x=x:=by
 simp [IntKind.wrap,IntKind.bits,IntKind.signed];omega

theorem JjH (b:Nat) (g:Option Nat) (wd:Int) (a o a' o':Nat) (p p1 p2:PS) (w:World) (hp:Jc w b g wd .nilIface p) (hd:p.len<=90000000) (hd1:p1.len<=90000000) (ho:o<256) (h1:p.num a 8=some (a',p1)) (h2:p1.num o 1=some (o',p2)) (ho':o'<256):
  Calls prog 205 #[.pointer (some ⟨b,0,none⟩),.agg #[.int .u64 (a:Int),.int .u8 (o:Int)]] w λe w'=>e=.returned (.agg #[.int .u64 (a':Int),.int .u8 (o':Int)])/\Xt w w' b g wd p2:=by
 have hlt:=hp.lt
 go_enter func205,ntmps205
 go_wp2_with fail
 refine (Xk b g wd a 8 a' p p1 _ (hp.allocs _ _) (by omega) (by omega) h1).mono ?_
 rintro _ w1 ⟨rfl,g1,hp1,hm1,ht1⟩
 have cB:=(ht1.cell (p:=⟨w.heap.size,1,none⟩) (by simp;omega) (XT hp _ (Ql _))).trans (Ja (heap_alloc2_old _ _ _))
 have rR:=(ht1.block _ (by simp) (XT hp _ (by omega))).trans (heap_alloc2_new _ _ _)
 have hw:IntKind.u64.wrap (o:Int)=(o:Int):=JB _ (by omega) (by omega)
 have hw2:IntKind.u8.wrap (o':Int)=(o':Int):=Jbi _ (by omega) (by omega)
 have RR:Hid _:=rR
 have HM1:Hid (Jn _ _ _):=hm1
 have HT1:Hid (Tch _ _ _):=ht1
 have HP:Hid (Jc _ _ _ _ _ _):=hp
 go_wp2_with fail
 refine (Xk b g1 wd o 1 o' p1 p2 _ hp1 (by omega) (by omega) h2).mono ?_
 rintro _ w2 ⟨rfl,g2,hp2,hm2,ht2⟩
 have rR2:=(ht2.block _ (by have:=HT1.o.size;simp at this;omega) (Jbt HP _ _ HM1 _ (by omega) (by omega))).trans RR.out
 obtain ⟨e0,e1⟩:=rows rR2
 have fR:∀j,w2.frozen? ⟨w.heap.size+1,j,none⟩=false:=λj=>Qg _ _ _ _ _ rR2
 have RR2:Hid _:=rR2
 go_wp2
 rw [set2 _ _ _ _ _ _ _ RR2.out]
 refine QJ (v:=.agg #[.int .u64 (a':Int),.int .u8 (o':Int)]) (Qq results205 _ _ (w.heap.size+1) _ _ (0,0) _ rfl (Qi w2 _ _ _ _ _ RR2) underlying80 rfl (by kernel_rfl)) rfl ⟨rfl,?_⟩
 have hn2:¬(w.heap.size+1=b\/some (w.heap.size+1)=g2):=by
  have h3:=HM1.o.trans hm2 HT1.o.size
  exact Jbt HP _ _ h3 _ (by omega) (by omega)
 refine Xt.fresh HP.o _ _ (HM1.o.trans hm2 HT1.o.size) (XV HT1.o ht2 HM1.o) ?_ (Ts w2 (w.heap.size+1) _) (by omega)
 exact hp2.tch (Ts w2 (w.heap.size+1) _) (λe=>hn2 (.inl e.symm)) (λj hj e=>hn2 (.inr (by rw [hj,e])))

theorem JhU (E:Nat->Addr) (b:Nat) (g:Option Nat) (wd:Int) (a o:Nat) (p:PS) (w:World) (hE:Env E w) (hp:Jc w b g wd .nilIface p) (hd:p.len<=90000000) (h1:p.num a 8=none):
  Calls prog 205 #[.pointer (some ⟨b,0,none⟩),.agg #[.int .u64 (a:Int),.int .u8 (o:Int)]] w λe w'=>∃x y:Int,e=.returned (.agg #[.int .u64 x,.int .u8 y])/\JaG E w w' b g wd:=by
 have hlt:=hp.lt
 go_enter func205,ntmps205
 go_wp2_with fail
 refine (Yx E b g wd a 8 p _ (hE.allocs _ _) (hp.allocs _ _) (by omega) (by omega) h1).mono ?_
 rintro _ w2 ⟨rfl,hp1,(HT1:Hid _)⟩
 have hb1:w.heap.size ≠ b:=by omega
 have hb2:w.heap.size+1 ≠ b:=by omega
 have cB:=(HT1.cell (p:=⟨w.heap.size,1,none⟩) (by simp;omega) hb1).trans (Ja (heap_alloc2_old _ _ _))
 have rR2:=(HT1.block _ (by simp) hb2).trans (heap_alloc2_new _ _ _)
 obtain ⟨e0,e1⟩:=rows rR2
 have fR:∀j,w2.frozen? ⟨w.heap.size+1,j,none⟩=false:=λj=>Qg _ _ _ _ _ rR2
 have RR2:Hid _:=rR2
 have HP:Hid (Jc _ _ _ _ _ _):=hp
 go_wp2_with fail
 refine (ZF b g wd _ _ p _ _ _ hp1).mono ?_
 rintro _ _ ⟨rfl,rfl⟩
 go_wp2
 rw [set2 _ _ _ _ _ _ _ RR2.out]
 refine QJ (v:=.agg #[.int .u64 0,.int .u8 0]) (Qq results205 _ _ (w.heap.size+1) _ _ (0,0) _ rfl (Qi w2 _ _ _ _ _ RR2) underlying80 rfl (by kernel_rfl)) rfl ⟨0,0,rfl,?_⟩
 refine JaG.fresh (p2:=p) HP _ _ (.inl rfl) (HT1.mono (λj h=>.inl (.inl h))) ?_ (Ts w2 (w.heap.size+1) _) (by omega)
 exact hp1.tch (Ts w2 (w.heap.size+1) _) (λe=>hb2 e.symm) (λj hj e=>by subst e;have:=(HP.o.own _ hj).2;omega)

theorem JhV (E:Nat->Addr) (b:Nat) (hb12:18<=b) (g:Option Nat) (wd:Int) (a o a':Nat) (p p1:PS) (w:World) (hE:Env E w) (hp:Jc w b g wd .nilIface p) (hd:p.len<=90000000) (ho:o<256) (h1:p.num a 8=some (a',p1)) (h2:p1.num o 1=none):
  Calls prog 205 #[.pointer (some ⟨b,0,none⟩),.agg #[.int .u64 (a:Int),.int .u8 (o:Int)]] w λe w'=>∃x y:Int,e=.returned (.agg #[.int .u64 x,.int .u8 y])/\JaG E w w' b g wd:=by
 have hlt:=hp.lt
 go_enter func205,ntmps205
 go_wp2_with fail
 refine (Xk b g wd a 8 a' p p1 _ (hp.allocs _ _) (by omega) (by omega) h1).mono ?_
 rintro _ w1 ⟨rfl,g1,hp1,(HM1:Hid _),(HT1:Hid _)⟩
 have cB:=(HT1.cell (p:=⟨w.heap.size,1,none⟩) (by simp;omega) (XT hp _ (Ql _))).trans (Ja (heap_alloc2_old _ _ _))
 have rR:=(HT1.block _ (by simp) (XT hp _ (by omega))).trans (heap_alloc2_new _ _ _)
 have hw:IntKind.u64.wrap (o:Int)=(o:Int):=JB _ (by omega) (by omega)
 have RR:Hid _:=rR
 have HP:Hid _:=hp
 have hE1:=(hE.allocs _ _).tch HT1 (Jat hb12 hp)
 go_wp2_with fail
 refine (Yx E b g1 wd o 1 p1 _ hE1 hp1 (by omega) (by have:=Zd _ _ _ _ _ h1;omega) h2).mono ?_
 rintro _ w2 ⟨rfl,hp2,ht2⟩
 have hb2:w.heap.size+1 ≠ b:=by omega
 have rR2:=(ht2.block _ (by have:=HT1.o.size;simp at this;omega) hb2).trans RR.out
 obtain ⟨e0,e1⟩:=rows rR2
 have fR:∀j,w2.frozen? ⟨w.heap.size+1,j,none⟩=false:=λj=>Qg _ _ _ _ _ rR2
 have RR2:Hid _:=rR2
 go_wp2
 rw [set2 _ _ _ _ _ _ _ RR2.out]
 refine QJ (v:=.agg #[.int .u64 (a':Int),.int .u8 0]) (Qq results205 _ _ (w.heap.size+1) _ _ (0,0) _ rfl (Qi w2 _ _ _ _ _ RR2) underlying80 rfl (by kernel_rfl)) rfl ⟨(a':Int),0,rfl,?_⟩
 have hn2:¬(w.heap.size+1=b\/some (w.heap.size+1)=g1):=Jbt HP _ _ HM1 _ (by omega) (by omega)
 refine JaG.fresh (p2:=p1) HP _ _ HM1 (HT1.trans ht2 (λj h=>.inl (.inl h))) ?_ (Ts w2 (w.heap.size+1) _) (by omega)
 exact hp2.tch (Ts w2 (w.heap.size+1) _) (λe=>hn2 (.inl e.symm)) (λj hj e=>hn2 (.inr (by rw [hj,e])))

def ErrN (E:Nat->Addr) (g:Nat) (w:World):Value->Nat->Prop
 | v,0=>v=eV E g
 | v,n+1=>∃p s u,w.heap[p]? =some (.cells #[.string s,u] 237)/\ErrN E g w u n/\v=.iface 235 (.pointer (some ⟨p,0,none⟩))
theorem ErrN.wrap {E:Nat->Addr} {g:Nat} {w:World} (p:Nat) (s:BA) (v:Value) (n:Nat) (hp:w.heap[p]? =some (.cells #[.string s,v] 237)) (h:ErrN E g w v n):ErrN E g w (.iface 235 (.pointer (some ⟨p,0,none⟩))) (n+1):=⟨p,s,v,hp,h,rfl⟩
theorem ErrN.ri {E:Nat->Addr} {g:Nat} {w:World} {motive:∀v n,ErrN E g w v n->Prop} (base:motive (eV E g) 0 rfl) (wrap:∀p s v n hp h,motive v n h->motive _ _ (.wrap p s v n hp h)):∀{v n} (h:ErrN E g w v n),motive v n h
 | _,0,rfl=>base
 | _,n+1,⟨p,s,u,hp,hu,rfl⟩=>wrap p s u n hp hu (ErrN.ri base wrap hu)
structure Jl (E:Nat->Addr) (g:Nat) (w:World) (v:Value):Prop where
 of ::
 len:∃n,ErrN E g w v n
theorem Jl.base {E:Nat->Addr} {g:Nat} {w:World}:Jl E g w (eV E g):=⟨0,rfl⟩
theorem Jl.wrap {E:Nat->Addr} {g:Nat} {w:World} (p:Nat) (s:BA) (v:Value) (hp:w.heap[p]? =some (.cells #[.string s,v] 237)):Jl E g w v->Jl E g w (.iface 235 (.pointer (some ⟨p,0,none⟩)))
 | ⟨n,h⟩=>⟨n+1,.wrap p s v n hp h⟩
theorem Jl.tch {E:Nat->Addr} {g:Nat} {w w':World} {v:Value} {S:Nat->Prop} (h:Jl E g w v) (k:Tch S w w') (hs:∀p s u,w.heap[p]? =some (.cells #[.string s,u] 237)->¬S p):Jl E g w' v:=by
 obtain ⟨n,h⟩:=h
 induction h using ErrN.ri with
 | base=>exact .base
 | wrap p s u n hp _ ih=>exact .wrap p s u ((k.block p (Jb hp) (hs p s u hp)).trans hp) ih
theorem Jl.later {E:Nat->Addr} {g:Nat} {w w':World} {v:Value} (h:Jl E g w v) (k:Below w.heap.size w w'):Jl E g w' v:=
 h.tch (Tch.of_below k) (λp _ _ hp hj=>by have:=(Jb hp);omega)
theorem Jl.iface {E:Nat->Addr} {g:Nat} {w:World} {v:Value} (h:Jl E g w v):∃t u,v=.iface t u:=by
 obtain ⟨n,h⟩:=h
 cases h using ErrN.ri <;> exact ⟨_,_,rfl⟩

theorem Xl (s:BA) (t:TypeId) (v:Value) (w:World):Calls prog 80 #[.string s,.iface t v] w λe w'=>e=.returned (.iface 235 (.pointer (some ⟨w.heap.size,0,none⟩)))/\w'=w.alloc (.cells #[.string s,.iface t v] 237):=by
 go_enter func80,ntmps80
 go_wp2
 go_ret
 exact ⟨rfl,rfl⟩
theorem JfY (i:Nat) (hi:i<10) (w:World):Calls prog 101 #[.int .i64 (i:Int)] w λe w'=>(∃s:BA,s.size<=10/\e=.returned (.string s))/\w=w':=by
 have h0:(0:Int)<=(i:Int):=by omega
 have h1:(i:Int)<100:=by omega
 have h2:(i:Int)<10:=by omega
 go_enter func101,ntmps101
 go_wp2
 go_ret
 refine ⟨⟨_,?_,rfl⟩,rfl⟩
 rw [ByteArray.size_extract];omega
