import Derived.Test.YtighkdnooglfjaaGreatDoorNcDig
import Derived.Shelf.Strconv.Itoa3
import Derived.Lib.ItoaLen
import Derived.Shelf.Strconv.Clone
import Derived.Shelf.Strings.Repeat
namespace Go.Proofs.YtighkdnooglfjaaGreatDoor
open Go.RowKit

def Jo (B:Nat) (w:World) (v:Value) (l:List (Nat×Nat)):Prop:=
 (v=.slice none 0 0/\l=[])\/∃gi oi c,v=.slice (some ⟨gi,oi,none⟩) l.length c/\gi<B/\gi<w.heap.size/\∀i (h:i<l.length),w.cell? ⟨gi,oi+i * 2,none⟩=some (.int .u64 ((l[i].1:Nat):Int))/\w.cell? ⟨gi,oi+i * 2+1,none⟩=some (.int .u8 ((l[i].2:Nat):Int))
theorem Jo.tch {B:Nat} {w w':World} {v:Value} {l:List (Nat×Nat)} {S:Nat->Prop} (h:Jo B w v l) (k:Tch S w w') (hs:∀j,S j->B<=j):Jo B w' v l:=by
 rcases h with h | ⟨gi,oi,c,hv,h1,h2,h3⟩
 ·exact .inl h
 ·refine .inr ⟨gi,oi,c,hv,h1,Qk h2 k.size,λi hi=>?_⟩
  have hc:∀o,w'.cell? ⟨gi,o,none⟩=w.cell? ⟨gi,o,none⟩:=λo=>k.cell (p:=⟨gi,o,none⟩) h2 (λe=>by have:=hs gi e;omega)
  rw [hc,hc];exact h3 i hi
theorem Jo.shape {B:Nat} {w:World} {v:Value} {l:List (Nat×Nat)} (h:Jo B w v l):∃a c,v=.slice a l.length c:=by
 rcases h with ⟨rfl,rfl⟩ | ⟨gi,oi,c,rfl,_⟩
 ·exact ⟨none,0,rfl⟩
 ·exact ⟨_,_,rfl⟩
def Jy (B:Nat) (w:World) (v:Value) (l:List (BA×Int)):Prop:=
 (v=.slice none 0 0/\l=[])\/∃gi oi c,v=.slice (some ⟨gi,oi,none⟩) l.length c/\gi<B/\gi<w.heap.size/\∀i (h:i<l.length),w.cell? ⟨gi,oi+i * 2,none⟩=some (.string l[i].1)/\w.cell? ⟨gi,oi+i * 2+1,none⟩=some (.int .i64 l[i].2)
theorem Jy.tch {B:Nat} {w w':World} {v:Value} {l:List (BA×Int)} {S:Nat->Prop} (h:Jy B w v l) (k:Tch S w w') (hs:∀j,S j->B<=j):Jy B w' v l:=by
 rcases h with h | ⟨gi,oi,c,hv,h1,h2,h3⟩
 ·exact .inl h
 ·refine .inr ⟨gi,oi,c,hv,h1,Qk h2 k.size,λi hi=>?_⟩
  have hc:∀o,w'.cell? ⟨gi,o,none⟩=w.cell? ⟨gi,o,none⟩:=λo=>k.cell (p:=⟨gi,o,none⟩) h2 (λe=>by have:=hs gi e;omega)
  rw [hc,hc];exact h3 i hi
theorem Jy.shape {B:Nat} {w:World} {v:Value} {l:List (BA×Int)} (h:Jy B w v l):∃a c,v=.slice a l.length c:=by
 rcases h with ⟨rfl,rfl⟩ | ⟨gi,oi,c,rfl,_⟩
 ·exact ⟨none,0,rfl⟩
 ·exact ⟨_,_,rfl⟩
abbrev Sl:=Option Addr×Nat×Nat
def Xd (B:Nat) (w:World) (v:Value) (l:List (Sl×Sl)):Prop:=
 (v=.slice none 0 0/\l=[])\/∃gi oi c,v=.slice (some ⟨gi,oi,none⟩) l.length c/\gi<B/\gi<w.heap.size/\∀i (h:i<l.length),w.cell? ⟨gi,oi+i * 2,none⟩=some (.slice l[i].1.1 l[i].1.2.1 l[i].1.2.2)/\w.cell? ⟨gi,oi+i * 2+1,none⟩=some (.slice l[i].2.1 l[i].2.2.1 l[i].2.2.2)
theorem Xd.tch {B:Nat} {w w':World} {v:Value} {l:List (Sl×Sl)} {S:Nat->Prop} (h:Xd B w v l) (k:Tch S w w') (hs:∀j,S j->B<=j):Xd B w' v l:=by
 rcases h with h | ⟨gi,oi,c,hv,h1,h2,h3⟩
 ·exact .inl h
 ·refine .inr ⟨gi,oi,c,hv,h1,Qk h2 k.size,λi hi=>?_⟩
  have hc:∀o,w'.cell? ⟨gi,o,none⟩=w.cell? ⟨gi,o,none⟩:=λo=>k.cell (p:=⟨gi,o,none⟩) h2 (λe=>by have:=hs gi e;omega)
  rw [hc,hc];exact h3 i hi
theorem Xd.shape {B:Nat} {w:World} {v:Value} {l:List (Sl×Sl)} (h:Xd B w v l):∃a c,v=.slice a l.length c:=by
 rcases h with ⟨rfl,rfl⟩ | ⟨gi,oi,c,rfl,_⟩
 ·exact ⟨none,0,rfl⟩
 ·exact ⟨_,_,rfl⟩
theorem Jy.up {B B':Nat} {w:World} {v:Value} {l:List (BA×Int)} (h:Jy B w v l) (hb:B<=B'):Jy B' w v l:=by
 rcases h with h | ⟨gi,oi,c,h1,h2,h3⟩
 ·exact .inl h
 ·exact .inr ⟨gi,oi,c,h1,by omega,h3⟩
theorem Jo.up {B B':Nat} {w:World} {v:Value} {l:List (Nat×Nat)} (h:Jo B w v l) (hb:B<=B'):Jo B' w v l:=by
 rcases h with h | ⟨gi,oi,c,h1,h2,h3⟩
 ·exact .inl h
 ·exact .inr ⟨gi,oi,c,h1,by omega,h3⟩

section
variable {w W:World} {a b:Obj}
theorem hn1 (h:W=w.alloc a):W.heap[w.heap.size]? =some a:=by rw [h];exact Qf _ _
theorem ha1 (h:W=w.alloc a):Tch NoB w W:=by rw [h];exact Ta _ _ _
theorem hno (h:W=(w.alloc a).alloc b):W.heap[w.heap.size]? =some a:=by rw [h];exact heap_alloc2_old _ _ _
theorem hnn (h:W=(w.alloc a).alloc b):W.heap[w.heap.size+1]? =some b:=by rw [h];exact heap_alloc2_new _ _ _
theorem ha2 (h:W=(w.alloc a).alloc b):Tch NoB w W:=by rw [h];exact (Ta _ _ _).trans (Ta _ _ _) (λ_ h=>.inl h)
end
end Go.Proofs.YtighkdnooglfjaaGreatDoor
namespace Go.Proofs
open Tryz
open Go.Shelf
def JdV:Go.Shelf.Ren:=⟨fun | 171=>101 | 243=>162 | 246=>248 | 283=>323 | 284=>324 | 285=>325 | 286=>326 | 129=>320 | 317=>354 | 318=>355 | 319=>356 | 320=>357 | 337=>360 | 338=>361 | n=>n,fun | 3=>3 | 9=>9 | 2=>2 | 4=>4 | 171=>472 | 0=>0 | 53=>78 | 37=>52 | 5=>5 | 173=>474 | 212=>503 | 51=>429 | 20=>20 | 213=>504 | 46=>322 | 232=>335 | 233=>508 | n=>n,fun | 17=>15 | 18=>16 | 19=>17 | n=>n⟩
theorem Jjt:Go.Proofs.LaysM.n171 prog JdV:={
 mixed:=by kernel_rfl
 f129:=func320.trans (congrArg some (by kernel_rfl))
 f171:=func101.trans (congrArg some (by kernel_rfl))
 f243:=func162.trans (congrArg some (by kernel_rfl))
 f246:=func248.trans (congrArg some (by kernel_rfl))
 f283:=func323.trans (congrArg some (by kernel_rfl))
 f284:=func324.trans (congrArg some (by kernel_rfl))
 f285:=func325.trans (congrArg some (by kernel_rfl))
 f286:=func326.trans (congrArg some (by kernel_rfl))
 f317:=func354.trans (congrArg some (by kernel_rfl))
 f318:=func355.trans (congrArg some (by kernel_rfl))
 f319:=func356.trans (congrArg some (by kernel_rfl))
 f320:=func357.trans (congrArg some (by kernel_rfl))
 f337:=func360.trans (congrArg some (by kernel_rfl))
 f338:=func361.trans (congrArg some (by kernel_rfl))
 t0:=underlying0
 a0:=isAgg0
 z0:=sizeOf0
 v0:=zeroValue0
 t2:=underlying2
 a2:=isAgg2
 z2:=sizeOf2
 v2:=zeroValue2
 t3:=underlying3
 a3:=isAgg3
 z3:=sizeOf3
 v3:=zeroValue3
 t4:=underlying4
 a4:=isAgg4
 z4:=sizeOf4
 v4:=zeroValue4
 t5:=underlying5
 a5:=isAgg5
 z5:=sizeOf5
 v5:=zeroValue5
 t9:=underlying9
 a9:=isAgg9
 z9:=sizeOf9
 v9:=zeroValue9
 t20:=underlying20
 a20:=isAgg20
 z20:=sizeOf20
 v20:=zeroValue20
 t37:=underlying52
 a37:=isAgg52
 z37:=sizeOf52
 v37:=zeroValue52
 t46:=underlying322
 a46:=isAgg322
 z46:=sizeOf322
 v46:=zeroValue322
 t51:=underlying429
 a51:=isAgg429
 z51:=sizeOf429
 v51:=zeroValue429
 t53:=underlying78
 a53:=isAgg78
 z53:=sizeOf78
 v53:=zeroValue78
 t171:=underlying472
 a171:=isAgg472
 z171:=sizeOf472
 v171:=zeroValue472
 t173:=underlying474
 a173:=isAgg474
 z173:=sizeOf474
 v173:=zeroValue474
 t212:=underlying503
 a212:=isAgg503
 z212:=sizeOf503
 v212:=zeroValue503
 t213:=underlying504
 a213:=isAgg504
 z213:=sizeOf504
 t232:=underlying335
 a232:=isAgg335
 z232:=sizeOf335
 v232:=zeroValue335
 t233:=underlying508
 a233:=isAgg508
 z233:=sizeOf508
 v233:=zeroValue508
 g17:=by kernel_rfl
 g18:=by kernel_rfl
 g19:=by kernel_rfl
 i0:=by kernel_rfl
 i2:=by kernel_rfl
 i3:=by kernel_rfl
 i4:=by kernel_rfl
 i5:=by kernel_rfl
 i9:=by kernel_rfl
 i20:=by kernel_rfl
 i37:=by kernel_rfl
 i46:=by kernel_rfl
 i51:=by kernel_rfl
 i53:=by kernel_rfl
 i171:=by kernel_rfl
 i173:=by kernel_rfl
 i212:=by kernel_rfl
 i232:=by kernel_rfl
 i233:=by kernel_rfl
 m17:=by kernel_rfl
 m18:=by kernel_rfl
 m19:=by kernel_rfl }
open Go.RowKit Go.Sort Go.Lib in
theorem strconv_Itoa (n:Int) (h0: -9223372036854775808<=n) (h1:n<=9223372036854775807) (w:World) (htab:Lib.TabIs prog w "internal/strconv.uint64pow10" .u64 Lib.pow10Tab):
  Calls prog 101 #[.int .i64 n] w λe w'=>e=.returned (.string ⟨(Lib.itoa n).toArray⟩)/\∃k os,w'=grow (w.drewN k) os:=Any.strconv_Itoa Jjt n h0 h1 w htab
end Go.Proofs
namespace Go.Proofs.YtighkdnooglfjaaGreatDoor
open Tryz
open Go.RowKit
theorem JfV (w:World) (k:Nat) (os:Array Obj):Below w.heap.size w (Go.Sort.grow (w.drewN k) os):=
 ⟨rfl,rfl,rfl,by simp [Go.Sort.grow,World.drewN],λj hj=>by simp [Go.Sort.grow,World.drewN,Array.getElem?_append_left hj]⟩
theorem Jcg {E:Nat->Addr} {w:World} (hE:Env E w) (i:Nat) (hi:i<100000):Calls prog 101 #[.int .i64 (i:Int)] w λe w'=>(∃s:BA,s.size<=30/\e=.returned (.string s))/\Below w.heap.size w w':=by
 refine (strconv_Itoa (i:Int) (by omega) (by omega) w hE.pow).mono λe w' h=>?_
 obtain ⟨h1,k,os,h2⟩:=h
 refine ⟨⟨_,?_,h1⟩,by rw [h2];exact JfV w k os⟩
 have:=Lib.itoa_length_le (i:Int) (by omega) (by omega)
 show (Lib.itoa (i:Int)).toArray.size<=30
 simp
 omega
end Go.Proofs.YtighkdnooglfjaaGreatDoor
namespace Go.Proofs
open Tryz
open Go.Shelf
def JdW:Go.Shelf.Ren:=⟨fun | 316=>142 | n=>n,fun | 9=>9 | 3=>3 | 4=>4 | 37=>52 | 0=>0 | 127=>358 | 5=>5 | n=>n,fun | n=>n⟩
theorem Jju:Go.Proofs.LaysM.n316 prog JdW:={
 mixed:=by kernel_rfl
 f316:=func142.trans (congrArg some (by kernel_rfl))
 t0:=underlying0
 a0:=isAgg0
 z0:=sizeOf0
 v0:=zeroValue0
 t3:=underlying3
 a3:=isAgg3
 z3:=sizeOf3
 v3:=zeroValue3
 t4:=underlying4
 a4:=isAgg4
 z4:=sizeOf4
 v4:=zeroValue4
 t9:=underlying9
 a9:=isAgg9
 z9:=sizeOf9
 v9:=zeroValue9
 t37:=underlying52
 a37:=isAgg52
 z37:=sizeOf52
 v37:=zeroValue52
 t127:=underlying358
 a127:=isAgg358
 z127:=sizeOf358
 v127:=zeroValue358
 t5:=underlying5
 a5:=isAgg5
 z5:=sizeOf5
 v5:=zeroValue5
 i0:=by kernel_rfl
 i3:=by kernel_rfl
 i4:=by kernel_rfl
 i5:=by kernel_rfl
 i9:=by kernel_rfl
 i37:=by kernel_rfl
 i127:=by kernel_rfl }
open Go.RowKit in
theorem stringslite_Clone (s:ByteArray) (w:World) (hlim:s.size<=281474976710656):
  Calls prog 142 #[.string s] w λe w'=>e=.returned (.string s)/\Below w.heap.size w w':=Any.stringslite_Clone Jju s w hlim
def JbH:Go.Shelf.Ren:=⟨fun | 105=>128 | 212=>192 | 99=>193 | 165=>194 | 166=>195 | 170=>196 | 169=>197 | 263=>272 | 264=>273 | 206=>274 | 240=>275 | 241=>276 | 276=>335 | 277=>336 | n=>n,fun | 9=>9 | 3=>3 | 4=>4 | 20=>20 | 0=>0 | 46=>322 | 109=>323 | 5=>5 | 72=>328 | 76=>330 | 51=>429 | 146=>430 | 53=>78 | 148=>432 | 70=>326 | 37=>52 | 75=>92 | 127=>358 | 164=>483 | 80=>61 | n=>n,fun | n=>n⟩
theorem JgS:Go.Proofs.Lays.n105 prog JbH:={
 mixed:=by kernel_rfl
 f99:=func193.trans (congrArg some (by kernel_rfl))
 f105:=func128.trans (congrArg some (by kernel_rfl))
 f165:=func194.trans (congrArg some (by kernel_rfl))
 f166:=func195.trans (congrArg some (by kernel_rfl))
 f169:=func197.trans (congrArg some (by kernel_rfl))
 f170:=func196.trans (congrArg some (by kernel_rfl))
 f206:=func274.trans (congrArg some (by kernel_rfl))
 f212:=func192.trans (congrArg some (by kernel_rfl))
 f240:=func275.trans (congrArg some (by kernel_rfl))
 f241:=func276.trans (congrArg some (by kernel_rfl))
 f263:=func272.trans (congrArg some (by kernel_rfl))
 f264:=func273.trans (congrArg some (by kernel_rfl))
 f276:=func335.trans (congrArg some (by kernel_rfl))
 f277:=func336.trans (congrArg some (by kernel_rfl))
 t0:=underlying0
 a0:=isAgg0
 z0:=sizeOf0
 v0:=zeroValue0
 t3:=underlying3
 a3:=isAgg3
 z3:=sizeOf3
 v3:=zeroValue3
 t4:=underlying4
 a4:=isAgg4
 z4:=sizeOf4
 v4:=zeroValue4
 t5:=underlying5
 a5:=isAgg5
 z5:=sizeOf5
 v5:=zeroValue5
 t9:=underlying9
 a9:=isAgg9
 z9:=sizeOf9
 v9:=zeroValue9
 t20:=underlying20
 a20:=isAgg20
 z20:=sizeOf20
 v20:=zeroValue20
 t37:=underlying52
 a37:=isAgg52
 z37:=sizeOf52
 v37:=zeroValue52
 t46:=underlying322
 a46:=isAgg322
 z46:=sizeOf322
 v46:=zeroValue322
 t51:=underlying429
 a51:=isAgg429
 z51:=sizeOf429
 v51:=zeroValue429
 t53:=underlying78
 a53:=isAgg78
 z53:=sizeOf78
 v53:=zeroValue78
 t70:=underlying326
 a70:=isAgg326
 z70:=sizeOf326
 v70:=zeroValue326
 t72:=underlying328
 a72:=isAgg328
 z72:=sizeOf328
 v72:=zeroValue328
 t75:=underlying92
 a75:=isAgg92
 z75:=sizeOf92
 v75:=zeroValue92
 t76:=underlying330
 a76:=isAgg330
 z76:=sizeOf330
 v76:=zeroValue330
 t109:=underlying323
 a109:=isAgg323
 z109:=sizeOf323
 v109:=zeroValue323
 t127:=underlying358
 a127:=isAgg358
 z127:=sizeOf358
 v127:=zeroValue358
 t146:=underlying430
 a146:=isAgg430
 z146:=sizeOf430
 v146:=zeroValue430
 t148:=underlying432
 a148:=isAgg432
 z148:=sizeOf432
 v148:=zeroValue432
 t164:=underlying483
 a164:=isAgg483
 z164:=sizeOf483
 v164:=zeroValue483 }
theorem JaP:Builder.Extra prog JbH:={
 sizeBuilder:=by kernel_rfl
 liesBuilder:=by kernel_rfl
 t5:=underlying5
 a5:=isAgg5
 z5:=sizeOf5
 v5:=zeroValue5
 infoByte:=by kernel_rfl
 cellsByte:=by kernel_rfl
 sizeByte:=by kernel_rfl
 neB5:=by decide }
open Go.RowKit Go.Lib in
theorem strings_Repeat_main (s:ByteArray) (c:Nat) (w:World) (hc2:2<=c) (hc:c<=9223372036854775807) (hlen:s.size * c<=140737488355328) (h0:0<s.size):
  Calls prog 128 #[.string s,.int .i64 c] w λe w'=>e=.returned (.string ⟨(Lib.repeatL s.data.toList c).toArray⟩)/\Below w.heap.size w w':=Any.strings_Repeat_main JgS JaP s c w hc2 hc hlen h0
open Go.RowKit Go.Lib in
theorem strings_Repeat_one (s:ByteArray) (w:World):
  Calls prog 128 #[.string s,.int .i64 1] w λe w'=>e=.returned (.string s)/\w'=w:=Any.strings_Repeat_one JgS s w
end Go.Proofs
namespace Go.Proofs.YtighkdnooglfjaaGreatDoor
open Tryz
open Go.RowKit
theorem Tch.of_belowN {w w':World} (h:Below w.heap.size w w'):Tch NoB w w':=(Tch.of_below h).mono (λ_ hj=>.inr hj)
set_option maxRecDepth 100000 in
theorem Jhg (s:BA) (w:World) (hs:s.size<=1000000):Calls prog 90 #[.string s] w λe w'=>e=.returned (.string s)/\Tch NoB w w':=by
 have HC:Hid (∀W,Calls prog 142 #[.string s] W λe w'=>e=.returned (.string s)/\Tch NoB W w'):=λW=>(stringslite_Clone s W (by omega)).mono λe w' h=>⟨h.1,Tch.of_belowN h.2⟩
 clear hs
 go_enter func90,ntmps90
 go_wp2_with fail
 refine (HC.o _).mono ?_
 rintro _ w1 ⟨rfl,h⟩
 have HH:Hid _:=h
 clear h HC
 go_wp2
 go_ret
 exact ⟨rfl,HH.o⟩
theorem Jgc (c:Nat) (h1:1<=c) (h2:c<=32) (w:World):Calls prog 128 #[.string ⟨#[0]⟩,.int .i64 (c:Int)] w λe w'=>e=.returned (.string ⟨(List.replicate c (0:UInt8)).toArray⟩)/\Tch NoB w w':=by
 by_cases hc:c=1
 ·subst hc
  exact (strings_Repeat_one ⟨#[0]⟩ w).mono λe w' h=>⟨h.1,by rw [h.2];exact Te _ _⟩
 ·refine (strings_Repeat_main ⟨#[0]⟩ c w (by omega) (by omega) (by show 1 * c<=_;omega) (by show 0<1;omega)).mono λe w' h=>⟨?_,Tch.of_belowN h.2⟩
  have e:Lib.repeatL [0] c=List.replicate c (0:UInt8):=by
   have:=Lib.repeatL_replicate 0 1 c
   rw [Nat.mul_one] at this
   exact this
  rw [h.1,show (⟨#[0]⟩:BA).data.toList=[0] from rfl,e]
