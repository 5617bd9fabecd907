/-
  A reader, whatever its state is: that it is a reader stays. Header; Body behind something wrong.
  strings.Clone and strings.Repeat at this program: laid by the shelf's command in its plain mode (the numbers are those of this commit's seat).
  (*chain.Chain).Submit: what is no block.
-/
import Derived.Test.YtighkdnooglfjaaGreatDoorSwChI
import Derived.Shelf.LaysM
import Derived.Shelf.Strconv.Clone
import Derived.Shelf.Strings.Repeat
import Derived.Test.YtighkdnooglfjaaGreatDoorSwPort
import Derived.Test.YtighkdnooglfjaaGreatDoorSwChJ
import Derived.Test.YtighkdnooglfjaaGreatDoorSwPBook
namespace Go.Proofs.YtighkdnooglfjaaGreatDoor
open Go.RowKit

def RdSt (E:Nat->Addr) (w:World) (b:Nat) (width:Int):Option PS->Prop
 | some p=>PortAt w b none width .nilIface p/\∃q r,p=.rd q r
 | none=>∃q r t u,PortAt w b none width (.iface t u) (.rd q r)/\ErrIs E 7 w (.iface t u)
def RdTo (E:Nat->Addr) (w w':World) (b:Nat) (width:Int) (st':Option PS):Prop:=RdSt E w' b width st'/\Tch (λk=>k=b) w w'
theorem num_rd {x n m:Nat} {q r:List UInt8} {p':PS} (h:(PS.rd q r).num x n=some (m,p')):∃q' r',p'=.rd q' r':=by
 simp only [PS.num] at h
 split at h
 ·cases h;exact ⟨_,_,rfl⟩
 ·cases h
theorem txt_rd {s t:List UInt8} {n:Nat} {q r:List UInt8} {p':PS} (h:(PS.rd q r).txt s n=some (t,p')):∃q' r',p'=.rd q' r':=by
 simp only [PS.txt] at h
 split at h
 ·cases h;exact ⟨_,_,rfl⟩
 ·cases h
theorem PortTo.rd {w w':World} {b:Nat} {width:Int} {q r:List UInt8} (E:Nat->Addr) (h:PortTo w w' b none width (.rd q r)):RdTo E w w' b width (some (.rd q r)):=by
 obtain ⟨g',h1,_,h3⟩:=h
 obtain rfl:=h1.1
 exact ⟨⟨h1,_,_,rfl⟩,h3.mono (λj hj=>by rcases hj with h | h;exact .inl h;cases h)⟩
theorem number_rs (E:Nat->Addr) (b:Nat) (width:Int) (x n:Nat) (st:Option PS) (w:World) (hE:Env E w) (hp:RdSt E w b width st) (h8:n<=8) (hd:stLen st<=100000000):
  Calls Tryz.prog 138 #[.pointer (some ⟨b,0,none⟩),.int .u64 (x:Int),.int .i64 (n:Int)] w λe w'=>e=.returned (.int .u64 ((stNum x n st).1:Int))/\RdTo E w w' b width (stNum x n st).2:=by
 unfold stNum
 cases st with
 | none=>
  obtain ⟨q,r,t,u,h1,h2⟩:=hp
  refine (number_err b none width _ _ _ t u w h1).mono ?_
  rintro e w' ⟨rfl,rfl⟩
  exact ⟨rfl,⟨q,r,t,u,h1,h2⟩,Tch.refl _ _⟩
 | some p=>
  obtain ⟨hp,q,r,rfl⟩:=hp
  simp only [Option.bind_some]
  cases h:(PS.rd q r).num x n with
  | none=>
   refine (number_none E b none width x n _ w hE hp h8 hd h).mono ?_
   rintro e w' ⟨rfl,h1,h2⟩
   exact ⟨rfl,⟨q,r,_,_,h1,.base⟩,h2⟩
  | some y=>
   obtain ⟨m,p'⟩:=y
   obtain ⟨q',r',rfl⟩:=num_rd h
   exact (number_some b none width x n m _ _ w hp h8 hd h).mono λe w' ⟨h1,h2⟩=>⟨h1,h2.rd E⟩
theorem text_rs (E:Nat->Addr) (b:Nat) (width:Int) (s:ByteArray) (n:Nat) (st:Option PS) (w:World) (hE:Env E w) (hp:RdSt E w b width st) (hd:stLen st+n<=100000000):
  Calls Tryz.prog 209 #[.pointer (some ⟨b,0,none⟩),.string s,.int .i64 (n:Int)] w λe w'=>e=.returned (.string ⟨(stTxt s.data.toList n st).1.toArray⟩)/\RdTo E w w' b width (stTxt s.data.toList n st).2:=by
 unfold stTxt
 cases st with
 | none=>
  obtain ⟨q,r,t,u,h1,h2⟩:=hp
  refine (text_err b none width _ _ _ t u w h1).mono ?_
  rintro e w' ⟨rfl,rfl⟩
  exact ⟨rfl,⟨q,r,t,u,h1,h2⟩,Tch.refl _ _⟩
 | some p=>
  obtain ⟨hp,q,r,rfl⟩:=hp
  simp only [Option.bind_some]
  cases h:(PS.rd q r).txt s.data.toList n with
  | none=>
   refine (text_none E b none width s n _ w hE hp (by simp only [stLen] at hd;omega) h).mono ?_
   rintro e w' ⟨rfl,h1,h2⟩
   exact ⟨rfl,⟨q,r,_,_,h1,.base⟩,h2⟩
  | some y=>
   obtain ⟨m,p'⟩:=y
   obtain ⟨q',r',rfl⟩:=txt_rd h
   exact (text_some b none width s n m _ _ w hp hd h).mono λe w' ⟨h1,h2⟩=>⟨h1,h2.rd E⟩
theorem RdSt.st {E:Nat->Addr} {w:World} {b:Nat} {width:Int} {st:Option PS} (h:RdSt E w b width st):PortSt E w b none width st:=by
 cases st with
 | none=>obtain ⟨q,r,t,u,h1,h2⟩:=h;exact ⟨_,t,u,h1,h2⟩
 | some p=>exact h.1
theorem RdSt.tch {E:Nat->Addr} {S:Nat->Prop} {w w':World} {b:Nat} {width:Int} {st:Option PS} (h:RdSt E w b width st) (k:Tch S w w') (hb:¬S b) (hs:∀p s u,w.heap[p]? =some (.cells #[.string s,u] 237)->¬S p):RdSt E w' b width st:=by
 cases st with
 | some p=>exact ⟨h.1.tch k hb (λ_ h=>by cases h),h.2⟩
 | none=>obtain ⟨q,r,t,u,h1,h2⟩:=h;exact ⟨q,r,t,u,h1.tch k hb (λ_ h=>by cases h),h2.tch k hs⟩
set_option maxRecDepth 100000 in
set_option maxHeartbeats 400000 in
theorem digest_rs (E:Nat->Addr) (b:Nat) (width:Nat) (s:ByteArray) (st:Option PS) (w:World) (hE:Env E w) (hp:RdSt E w b width st) (hd:stLen st+width<=100000000):
  Calls Tryz.prog 139 #[.pointer (some ⟨b,0,none⟩),.string s] w λe w'=>e=.returned (.string ⟨(stTxt s.data.toList width st).1.toArray⟩)/\RdTo E w w' b width (stTxt s.data.toList width st).2:=by
 have c1:=hp.st.width
 have HC:Hid (Calls Tryz.prog 209 _ w _):=text_rs E b width s width st w hE hp hd
 clear hp hE
 go_enter Tryz.func139,Tryz.ntmps139
 go_wp2_with fail
 refine HC.out.mono ?_
 rintro _ w1 ⟨rfl,h⟩
 have HS:Hid (RdTo _ _ _ _ _ _):=h
 clear h HC
 go_wp2
 go_ret
 exact ⟨rfl,HS.out⟩
structure RRun (E:Nat->Addr) (w0 wA w:World) (b:Nat) (width:Int) (st:Option PS):Prop where
 env:Env E w
 port:RdSt E w b width st
 tch:Tch (λk=>k=b) wA w
 a:Tch (λ_=>False) w0 wA
 lo:18<=b
 lt:b<w0.heap.size
theorem RRun.step {E:Nat->Addr} {w0 wA w w':World} {b:Nat} {width:Int} {st st':Option PS} (h:RRun E w0 wA w b width st) (k:RdTo E w w' b width st'):RRun E w0 wA w' b width st':=
 ⟨h.env.tch k.2 (λj hj=>by have:=h.lo;omega),k.1,h.tch.trans k.2 (λj hj=>.inl hj),h.a,h.lo,h.lt⟩
theorem RRun.box {E:Nat->Addr} {w0 wA w:World} {b:Nat} {width:Int} {st:Option PS} (h:RRun E w0 wA w b width st) {k:Nat} {o:Obj} (hk:w0.heap.size<=k) (hA:wA.heap[k]? =some o):w.heap[k]? =some o:=
 (h.tch.block k (row_lt hA) (λe=>by have:=h.lt;omega)).trans hA
set_option maxRecDepth 100000 in
set_option maxHeartbeats 400000 in
theorem header_rs (E:Nat->Addr) (b:Nat) (hb12:18<=b) (width:Nat) (n:Nat) (s1 s2 s3:ByteArray) (st:Option PS) (w:World) (hE:Env E w) (hp:RdSt E w b width st) (hd:stLen st+4 * width<=90000000):
  Calls Tryz.prog 86 #[.pointer (some ⟨b,0,none⟩),.agg #[.int .u64 (n:Int),.string s1,.string s2,.string s3]] w λe w'=>e=.returned (hdV (stHdr width (n,s1,s2,s3) st).1)/\RdTo E w w' b width (stHdr width (n,s1,s2,s3) st).2:=by
 have hlt:=hp.st.lt
 have hA:=Tch.allocs (λ_=>False) w (.cells #[.int .u64 (n:Int),.string s1,.string s2,.string s3] 167) (.cells #[.int .u64 0,.string ⟨#[]⟩,.string ⟨#[]⟩,.string ⟨#[]⟩] 167)
 have HR0:RRun E w _ _ b width st:=⟨hE.tch hA noE,hp.tch hA (λh=>h) (λ_ _ _ _ h=>h),Tch.refl _ _,hA,hb12,hlt⟩
 have hl0:=stNum_len n 4 st
 have hl1:=stTxt_len s1.data.toList width (stNum n 4 st).2
 have hl2:=stTxt_len s2.data.toList width (stTxt s1.data.toList width (stNum n 4 st).2).2
 have RUN:Hid (RRun _ _ _ _ _ _ _):=HR0
 clear hE hp HR0 hA
 go_enter Tryz.func86,Tryz.ntmps86
 go_wp2_with fail
 refine (number_rs E b width n 4 st _ RUN.out.env RUN.out.port (by omega) (by omega)).mono ?_
 rintro _ w1 ⟨rfl,h⟩
 have R1:=RUN.out.step h
 have bx1:=R1.box (k:=w.heap.size) (Nat.le_refl _) (heap_alloc2_old _ _ _)
 have c1:w1.cell? ⟨w.heap.size,1,none⟩=some (.string s1):=cell_row bx1
 have RUN1:Hid (RRun _ _ _ _ _ _ _):=R1
 clear R1 bx1 h
 go_wp2_with fail
 refine (digest_rs E b width s1 _ _ RUN1.out.env RUN1.out.port (by omega)).mono ?_
 rintro _ w2 ⟨rfl,h⟩
 have R2:=RUN1.out.step h
 have bx2:=R2.box (k:=w.heap.size) (Nat.le_refl _) (heap_alloc2_old _ _ _)
 have c2:w2.cell? ⟨w.heap.size,2,none⟩=some (.string s2):=cell_row bx2
 have RUN2:Hid (RRun _ _ _ _ _ _ _):=R2
 clear R2 bx2 h
 go_wp2_with fail
 refine (digest_rs E b width s2 _ _ RUN2.out.env RUN2.out.port (by omega)).mono ?_
 rintro _ w3 ⟨rfl,h⟩
 have R3:=RUN2.out.step h
 have bx3:=R3.box (k:=w.heap.size) (Nat.le_refl _) (heap_alloc2_old _ _ _)
 have c3:w3.cell? ⟨w.heap.size,3,none⟩=some (.string s3):=cell_row bx3
 have RUN3:Hid (RRun _ _ _ _ _ _ _):=R3
 clear R3 bx3 h
 go_wp2_with fail
 refine (digest_rs E b width s3 _ _ RUN3.out.env RUN3.out.port (by omega)).mono ?_
 rintro _ w4 ⟨rfl,h⟩
 have R4:=RUN3.out.step h
 have rR:=R4.box (k:=w.heap.size+1) (by omega) (heap_alloc2_new _ _ _)
 have e0:w4.cell? ⟨w.heap.size+1,0,none⟩=some (.int .u64 0):=cell_row rR
 have e1:w4.cell? ⟨w.heap.size+1,1,none⟩=some (.string ⟨#[]⟩):=cell_row rR
 have e2:w4.cell? ⟨w.heap.size+1,2,none⟩=some (.string ⟨#[]⟩):=cell_row rR
 have e3:w4.cell? ⟨w.heap.size+1,3,none⟩=some (.string ⟨#[]⟩):=cell_row rR
 have fR:∀j,w4.frozen? ⟨w.heap.size+1,j,none⟩=false:=λj=>frozen_of_row _ _ _ _ _ rR
 have RUN4:Hid (RRun _ _ _ _ _ _ _):=R4
 have RR:Hid (_=_):=rR
 clear R4 rR h
 go_wp2
 rw [set4 _ _ _ _ _ _ _ _ _ _ _ RR.out]
 have hN:=RUN4.out.a.size
 refine bodyPost_ret (v:=hdV (stHdr width (n,s1,s2,s3) st).1) (results_cell_row Tryz.results86 _ _ (w.heap.size+1) _ _ (0,0) _ rfl (setRow_heap _ _ _ _ _ _ RR.out) Tryz.underlying167 rfl (by kernel_rfl)) rfl ⟨rfl,RUN4.out.port.tch (Tch.setRow _ _ _) (by omega) (λp s u hp e=>by subst e;rw [RR.out] at hp;simp at hp),?_⟩
 exact ((RUN4.out.a.mono noE).trans RUN4.out.tch (λj hj=>.inl hj)).trans (Tch.setRow _ _ _) (λj hj=>.inr (by omega))
set_option maxRecDepth 100000 in
set_option maxHeartbeats 400000 in
theorem body_err (b:Nat) (g:Option Nat) (width:Nat) (ia:Option Addr) (n ic:Nat) (p0:PS) (t:TypeId) (u:Value) (w:World) (hp:PortAt w b g width (.iface t u) p0):
  Calls Tryz.prog 78 #[.pointer (some ⟨b,0,none⟩),.slice ia n ic] w λe w'=>e=.returned (.slice none 0 0)/\PortAt w' b g width (.iface t u) p0/\Tch (λ_=>False) w w':=by
 have hmf:∀(fn:Fn) (first cap:Array Value) (w:World),(Instr.makeFunc fn first cap).run Tryz.prog w=.ok (.func fn first cap) w:=λ_ _ _ _=>rfl
 have HL:Hid (∀what:ByteArray,what.size<=1000->_):=λwhat hwh=>lsT_err b g width what hwh 1 0 3 (.slice ia n ic) ia n ic rfl p0 t u w hp
 clear hp
 go_enter Tryz.func78,Tryz.ntmps78
 go_wp2_with fail
 refine (HL.out _ (by decide)).mono ?_
 clear HL
 rintro e w1 ⟨rfl,h⟩
 have HH:Hid (PortAt _ _ _ _ _ _/\_):=h
 clear h
 go_wp2
 go_ret
 exact ⟨rfl,HH.out⟩
end Go.Proofs.YtighkdnooglfjaaGreatDoor
namespace Go.Proofs
open Go.Shelf
def Tryz.laysM316_ren:Go.Shelf.Ren:=⟨fun | 316=>142 | n=>n,fun | 9=>9 | 3=>3 | 4=>4 | 37=>52 | 0=>0 | 127=>358 | 5=>5 | n=>n,fun | n=>n⟩
theorem Tryz.laysM316:Go.Proofs.LaysM.n316 Tryz.prog Tryz.laysM316_ren:={
 mixed:=by kernel_rfl
 f316:=Tryz.func142.trans (congrArg some (by kernel_rfl))
 t0:=Tryz.underlying0
 a0:=Tryz.isAgg0
 z0:=Tryz.sizeOf0
 v0:=Tryz.zeroValue0
 t3:=Tryz.underlying3
 a3:=Tryz.isAgg3
 z3:=Tryz.sizeOf3
 v3:=Tryz.zeroValue3
 t4:=Tryz.underlying4
 a4:=Tryz.isAgg4
 z4:=Tryz.sizeOf4
 v4:=Tryz.zeroValue4
 t9:=Tryz.underlying9
 a9:=Tryz.isAgg9
 z9:=Tryz.sizeOf9
 v9:=Tryz.zeroValue9
 t37:=Tryz.underlying52
 a37:=Tryz.isAgg52
 z37:=Tryz.sizeOf52
 v37:=Tryz.zeroValue52
 t127:=Tryz.underlying358
 a127:=Tryz.isAgg358
 z127:=Tryz.sizeOf358
 v127:=Tryz.zeroValue358
 t5:=Tryz.underlying5
 a5:=Tryz.isAgg5
 z5:=Tryz.sizeOf5
 v5:=Tryz.zeroValue5
 i0:=by kernel_rfl
 i3:=by kernel_rfl
 i4:=by kernel_rfl
 i5:=by kernel_rfl
 i9:=by kernel_rfl
 i37:=by kernel_rfl
 i127:=by kernel_rfl }
open Go.RowKit in
theorem Tryz.stringslite_Clone (s:ByteArray) (w:World) (hlim:s.size<=281474976710656):
  Calls Tryz.prog 142 #[.string s] w λe w'=>e=.returned (.string s)/\Below w.heap.size w w':=Any.stringslite_Clone Tryz.laysM316 s w hlim
def Tryz.lays105_ren:Go.Shelf.Ren:=⟨fun | 105=>128 | 212=>192 | 99=>193 | 165=>194 | 166=>195 | 170=>196 | 169=>197 | 263=>272 | 264=>273 | 206=>274 | 240=>275 | 241=>276 | 276=>335 | 277=>336 | n=>n,fun | 9=>9 | 3=>3 | 4=>4 | 20=>20 | 0=>0 | 46=>322 | 109=>323 | 5=>5 | 72=>328 | 76=>330 | 51=>429 | 146=>430 | 53=>78 | 148=>432 | 70=>326 | 37=>52 | 75=>92 | 127=>358 | 164=>483 | 80=>61 | n=>n,fun | n=>n⟩
theorem Tryz.lays105:Go.Proofs.Lays.n105 Tryz.prog Tryz.lays105_ren:={
 mixed:=by kernel_rfl
 f99:=Tryz.func193.trans (congrArg some (by kernel_rfl))
 f105:=Tryz.func128.trans (congrArg some (by kernel_rfl))
 f165:=Tryz.func194.trans (congrArg some (by kernel_rfl))
 f166:=Tryz.func195.trans (congrArg some (by kernel_rfl))
 f169:=Tryz.func197.trans (congrArg some (by kernel_rfl))
 f170:=Tryz.func196.trans (congrArg some (by kernel_rfl))
 f206:=Tryz.func274.trans (congrArg some (by kernel_rfl))
 f212:=Tryz.func192.trans (congrArg some (by kernel_rfl))
 f240:=Tryz.func275.trans (congrArg some (by kernel_rfl))
 f241:=Tryz.func276.trans (congrArg some (by kernel_rfl))
 f263:=Tryz.func272.trans (congrArg some (by kernel_rfl))
 f264:=Tryz.func273.trans (congrArg some (by kernel_rfl))
 f276:=Tryz.func335.trans (congrArg some (by kernel_rfl))
 f277:=Tryz.func336.trans (congrArg some (by kernel_rfl))
 t0:=Tryz.underlying0
 a0:=Tryz.isAgg0
 z0:=Tryz.sizeOf0
 v0:=Tryz.zeroValue0
 t3:=Tryz.underlying3
 a3:=Tryz.isAgg3
 z3:=Tryz.sizeOf3
 v3:=Tryz.zeroValue3
 t4:=Tryz.underlying4
 a4:=Tryz.isAgg4
 z4:=Tryz.sizeOf4
 v4:=Tryz.zeroValue4
 t5:=Tryz.underlying5
 a5:=Tryz.isAgg5
 z5:=Tryz.sizeOf5
 v5:=Tryz.zeroValue5
 t9:=Tryz.underlying9
 a9:=Tryz.isAgg9
 z9:=Tryz.sizeOf9
 v9:=Tryz.zeroValue9
 t20:=Tryz.underlying20
 a20:=Tryz.isAgg20
 z20:=Tryz.sizeOf20
 v20:=Tryz.zeroValue20
 t37:=Tryz.underlying52
 a37:=Tryz.isAgg52
 z37:=Tryz.sizeOf52
 v37:=Tryz.zeroValue52
 t46:=Tryz.underlying322
 a46:=Tryz.isAgg322
 z46:=Tryz.sizeOf322
 v46:=Tryz.zeroValue322
 t51:=Tryz.underlying429
 a51:=Tryz.isAgg429
 z51:=Tryz.sizeOf429
 v51:=Tryz.zeroValue429
 t53:=Tryz.underlying78
 a53:=Tryz.isAgg78
 z53:=Tryz.sizeOf78
 v53:=Tryz.zeroValue78
 t70:=Tryz.underlying326
 a70:=Tryz.isAgg326
 z70:=Tryz.sizeOf326
 v70:=Tryz.zeroValue326
 t72:=Tryz.underlying328
 a72:=Tryz.isAgg328
 z72:=Tryz.sizeOf328
 v72:=Tryz.zeroValue328
 t75:=Tryz.underlying92
 a75:=Tryz.isAgg92
 z75:=Tryz.sizeOf92
 v75:=Tryz.zeroValue92
 t76:=Tryz.underlying330
 a76:=Tryz.isAgg330
 z76:=Tryz.sizeOf330
 v76:=Tryz.zeroValue330
 t109:=Tryz.underlying323
 a109:=Tryz.isAgg323
 z109:=Tryz.sizeOf323
 v109:=Tryz.zeroValue323
 t127:=Tryz.underlying358
 a127:=Tryz.isAgg358
 z127:=Tryz.sizeOf358
 v127:=Tryz.zeroValue358
 t146:=Tryz.underlying430
 a146:=Tryz.isAgg430
 z146:=Tryz.sizeOf430
 v146:=Tryz.zeroValue430
 t148:=Tryz.underlying432
 a148:=Tryz.isAgg432
 z148:=Tryz.sizeOf432
 v148:=Tryz.zeroValue432
 t164:=Tryz.underlying483
 a164:=Tryz.isAgg483
 z164:=Tryz.sizeOf483
 v164:=Tryz.zeroValue483 }
theorem Tryz.Builder_Extra_105:Builder.Extra Tryz.prog Tryz.lays105_ren:={
 sizeBuilder:=by kernel_rfl
 liesBuilder:=by kernel_rfl
 t5:=Tryz.underlying5
 a5:=Tryz.isAgg5
 z5:=Tryz.sizeOf5
 v5:=Tryz.zeroValue5
 infoByte:=by kernel_rfl
 cellsByte:=by kernel_rfl
 sizeByte:=by kernel_rfl
 neB5:=by decide }
open Go.RowKit Go.Lib in
theorem Tryz.strings_Repeat_main (s:ByteArray) (c:Nat) (w:World) (hc2:2<=c) (hc:c<=9223372036854775807) (hlen:s.size * c<=140737488355328) (h0:0<s.size):
  Calls Tryz.prog 128 #[.string s,.int .i64 c] w λe w'=>e=.returned (.string ⟨(Lib.repeatL s.data.toList c).toArray⟩)/\Below w.heap.size w w':=Any.strings_Repeat_main Tryz.lays105 Tryz.Builder_Extra_105 s c w hc2 hc hlen h0
open Go.RowKit Go.Lib in
theorem Tryz.strings_Repeat_one (s:ByteArray) (w:World):
  Calls Tryz.prog 128 #[.string s,.int .i64 1] w λe w'=>e=.returned (.string s)/\w'=w:=Any.strings_Repeat_one Tryz.lays105 s w
end Go.Proofs
namespace Go.Proofs.YtighkdnooglfjaaGreatDoor
open Go.RowKit
theorem Tch.of_belowN {w w':World} (h:Below w.heap.size w w'):Tch (λ_=>False) w w':=(Tch.of_below h).mono (λ_ hj=>.inr hj)
set_option maxRecDepth 100000 in
theorem clone_any (s:ByteArray) (w:World) (hs:s.size<=1000000):Calls Tryz.prog 90 #[.string s] w λe w'=>e=.returned (.string s)/\Tch (λ_=>False) w w':=by
 have HC:Hid (∀W,Calls Tryz.prog 142 #[.string s] W λe w'=>e=.returned (.string s)/\Tch (λ_=>False) W w'):=λW=>(Tryz.stringslite_Clone s W (by omega)).mono λe w' h=>⟨h.1,Tch.of_belowN h.2⟩
 clear hs
 go_enter Tryz.func90,Tryz.ntmps90
 go_wp2_with fail
 refine (HC.out _).mono ?_
 rintro _ w1 ⟨rfl,h⟩
 have HH:Hid (Tch _ _ _):=h
 clear h HC
 go_wp2
 go_ret
 exact ⟨rfl,HH.out⟩
theorem repeat_any (c:Nat) (h1:1<=c) (h2:c<=32) (w:World):Calls Tryz.prog 128 #[.string ⟨#[0]⟩,.int .i64 (c:Int)] w λe w'=>e=.returned (.string ⟨(List.replicate c (0:UInt8)).toArray⟩)/\Tch (λ_=>False) w w':=by
 by_cases hc:c=1
 ·subst hc
  exact (Tryz.strings_Repeat_one ⟨#[0]⟩ w).mono λe w' h=>⟨h.1,by rw [h.2];exact Tch.refl _ _⟩
 ·refine (Tryz.strings_Repeat_main ⟨#[0]⟩ c w (by omega) (by omega) (by show 1 * c<=_;omega) (by show 0<1;omega)).mono λe w' h=>⟨?_,Tch.of_belowN h.2⟩
  have e:Lib.repeatL [0] c=List.replicate c (0:UInt8):=by
   have:=Lib.repeatL_replicate 0 1 c
   rw [Nat.mul_one] at this
   exact this
  rw [h.1,show (⟨#[0]⟩:ByteArray).data.toList=[0] from rfl,e]
end Go.Proofs.YtighkdnooglfjaaGreatDoor
namespace Go.Proofs.YtighkdnooglfjaaGreatDoor
open Go.RowKit

def subP (d:List UInt8->ByteArray) (width m:Nat) (bh:ByteArray) (st:Option Tr) (text:List UInt8):Except Er (ByteArray×Option Tr):=
 match (PS.rd [] text).hdr width (0,⟨#[]⟩,⟨#[]⟩,⟨#[]⟩) with
 | some (h,.rd pre body)=>match (PS.rd pre body).body width [] with
  | some (ts,.rd _ [])=>if h ≠ (m+1,d (72 :: bh.data.toList),d (66 :: body),h.2.2.2) then .error .tip else match applyT d st ts with
   | .error e=>.error e
   | .ok st'=>if h.2.2.2 ≠ stDig d st' then .error .root else .ok (⟨(text.take (text.length - body.length)).toArray⟩,st')
  | _=>.error .form
 | _=>.error .form
theorem submitT_eq (d:List UInt8->ByteArray) (width m:Nat) (bh:ByteArray) (st:Option Tr) (ch:Ch) (hl:ch.length=m+1) (hla:ch.last=(bh,st)) (text:List UInt8):
  submitT d width ch text=match subP d width m bh st text with | .error e=>.error e | .ok x=>.ok (ch++[x]):=by
 unfold submitT subP nextH
 rw [hl,hla]
 dsimp only
 cases (PS.rd [] text).hdr width (0,⟨#[]⟩,⟨#[]⟩,⟨#[]⟩) with
 | none=>rfl
 | some x=>
  obtain ⟨h,p⟩:=x
  cases p with
  | wr d=>rfl
  | rd pre body=>
   dsimp only
   cases (PS.rd pre body).body width [] with
   | none=>rfl
   | some y=>
    obtain ⟨ts,p⟩:=y
    cases p with
    | wr d=>rfl
    | rd q r=>
     cases r with
     | cons a l=>rfl
     | nil=>
      dsimp only
      split
      ·rfl
      ·cases applyT d st ts with
       | error e=>rfl
       | ok st'=>dsimp only;split <;> rfl
def NoTo (E:Nat->Addr) (er:Nat) (w:World) (e:Ending) (w':World):Prop:=Tch (λ_=>False) w w'/\∃t u,e=.returned (.iface t u)/\ErrIs E er w' (.iface t u)
set_option maxRecDepth 100000 in
set_option maxHeartbeats 1000000 in
theorem chSubmit_f1 (E:Nat->Addr) {w:World} (hE:Env E w) {cb width fl r:Nat} (hw:width<=32) {bs:List BV} {lv:Value} (h:ChRow w cb width fl r bs lv) (s:ByteArray) (hs:s.size<=1000000) (hh:(PS.rd [] s.data.toList).hdr width (0,⟨#[]⟩,⟨#[]⟩,⟨#[]⟩)=none):
  Calls Tryz.prog 46 #[.pointer (some ⟨cb,0,none⟩),.string s] w λe w'=>NoTo E 7 w e w':=by
 have hsz:=hE.size
 have c0:w.cell? ⟨cb,0,none⟩=some (.int .i64 (width:Int)):=cell_row h.row
 have HHD:Hid (∀W,Tch (λ_=>False) w W->PortAt W w.heap.size none (width:Int) .nilIface (.rd [] s.data.toList)->Calls Tryz.prog 86 #[.pointer (some ⟨w.heap.size,0,none⟩),.agg #[.int .u64 0,.string ⟨#[]⟩,.string ⟨#[]⟩,.string ⟨#[]⟩]] W λe w'=>∃(n:Nat) (x1 x2 x3:ByteArray),e=.returned (.agg #[.int .u64 (n:Int),.string x1,.string x2,.string x3])/\RdTo E W w' w.heap.size (width:Int) none):=λW hT hp=>by
  have:=header_rs E w.heap.size hsz width 0 ⟨#[]⟩ ⟨#[]⟩ ⟨#[]⟩ (some (.rd [] s.data.toList)) W (hE.tch hT noE) ⟨hp,_,_,rfl⟩ (by simp only [stLen,PS.len,List.length_nil,Array.length_toList];have:s.data.size<=1000000:=hs;omega)
  refine this.mono λe w' k=>?_
  rw [stHdr_none width _ _ hh] at k
  exact ⟨_,_,_,_,k.1,k.2⟩
 clear hE h hh hs
 go_enter Tryz.func46,Tryz.ntmps46
 go_wp2_with fail
 refine (newReader_any _ _ _).mono ?_
 rintro _ w1 ⟨rfl,hp1,ht1⟩
 have HT1:Hid (Tch (λ_=>False) w w1):=ht1
 have HP1:Hid (PortAt w1 w.heap.size none (width:Int) .nilIface (.rd [] s.data.toList)):=hp1
 clear ht1 hp1 c0
 go_wp2_with fail
 refine (HHD.out w1 HT1.out HP1.out).mono ?_
 rintro _ w2 ⟨n,x1,x2,x3,rfl,⟨q,rr,t,u,hp2,he2⟩,ht2⟩
 have hA:=Tch.alloc (λ_=>False) w2 (.cells #[.int .u64 (n:Int),.string x1,.string x2,.string x3] 167)
 have HT2:Hid (Tch (λ_=>False) w _):=(HT1.out.trans ht2 (λj hj=>.inr (Nat.le_of_eq hj.symm))).go hA
 have HP2:Hid (PortAt _ w.heap.size none (width:Int) (.iface t u) (.rd q rr)):=hp2.tch hA (λh=>h) (λ_ _ h=>h)
 have HE2:Hid (ErrIs E 7 _ (.iface t u)):=he2.next hA
 clear hp2 he2 ht2 HHD HP1 HT1 hA
 go_wp2_with fail
 refine (rest_any w.heap.size none (width:Int) _ q rr _ HP2.out).mono ?_
 rintro _ w3 ⟨rfl,ht3⟩
 have HT3:Hid (Tch (λ_=>False) w w3):=HT2.out.go ht3
 have HP3:Hid (PortAt w3 w.heap.size none (width:Int) (.iface t u) (.rd q rr)):=HP2.out.tch ht3 (λh=>h) (λ_ _ h=>h)
 have HE3:Hid (ErrIs E 7 w3 (.iface t u)):=HE2.out.next ht3
 clear ht3 HT2 HP2 HE2
 go_wp2_with fail
 refine (body_err w.heap.size none width none 0 0 _ t u w3 HP3.out).mono ?_
 rintro _ w4 ⟨rfl,hp4,ht4⟩
 have HT4:Hid (Tch (λ_=>False) w w4):=HT3.out.go ht4
 have HP4:Hid (PortAt w4 w.heap.size none (width:Int) (.iface t u) (.rd q rr)):=hp4
 have HE4:Hid (ErrIs E 7 w4 (.iface t u)):=HE3.out.next ht4
 clear ht4 hp4 HT3 HP3 HE3
 go_wp2_with fail
 refine (rdone_err w.heap.size none (width:Int) t u _ w4 HP4.out).mono ?_
 rintro _ w5 ⟨rfl,ht5⟩
 have HT5:Hid (Tch (λ_=>False) w w5):=HT4.out.go ht5
 have HE5:Hid (ErrIs E 7 w5 (.iface t u)):=HE4.out.next ht5
 clear ht5 HT4 HP4 HE4
 go_wp2_with fail
 refine (at_err _ _ _ _).mono ?_
 rintro _ _ ⟨rfl,rfl⟩
 go_wp2
 go_ret
 exact ⟨HT5.out.go (Tch.alloc _ _ _),_,_,rfl,.wrap _ _ _ (heap_alloc_new _ _) (HE5.out.next (Tch.alloc _ _ _))⟩
theorem subHdr (E:Nat->Addr) {w W:World} (hE:Env E w) (width:Nat) (hw:width<=32) (s:ByteArray) (hs:s.size<=1000000) (y:HdL) (p:PS) (hh:(PS.rd [] s.data.toList).hdr width (0,⟨#[]⟩,⟨#[]⟩,⟨#[]⟩)=some (y,p)) (hT:Tch (λ_=>False) w W) (hp:PortAt W w.heap.size none (width:Int) .nilIface (.rd [] s.data.toList)):
  Calls Tryz.prog 86 #[.pointer (some ⟨w.heap.size,0,none⟩),.agg #[.int .u64 0,.string ⟨#[]⟩,.string ⟨#[]⟩,.string ⟨#[]⟩]] W λe w'=>e=.returned (.agg #[.int .u64 (y.1:Int),.string y.2.1,.string y.2.2.1,.string y.2.2.2])/\RdTo E W w' w.heap.size (width:Int) (some p):=by
 have:=header_rs E w.heap.size hE.size width 0 ⟨#[]⟩ ⟨#[]⟩ ⟨#[]⟩ (some (.rd [] s.data.toList)) W (hE.tch hT noE) ⟨hp,_,_,rfl⟩ (by simp only [stLen,PS.len,List.length_nil,Array.length_toList];have:s.data.size<=1000000:=hs;omega)
 refine this.mono λe w' k=>?_
 obtain ⟨e1,e2⟩:=stHdr_some width _ _ _ _ hh
 rw [e1] at k
 rw [e2] at k
 exact k
theorem subBody (E:Nat->Addr) {w W:World} (hE:Env E w) (width:Nat) (hw:width<=32) (pre body:List UInt8) (hl:pre.length+body.length<=1000000) (hT:Tch (λ_=>False) w W) (hp:PortAt W w.heap.size none (width:Int) .nilIface (.rd pre body)):
  Calls Tryz.prog 78 #[.pointer (some ⟨w.heap.size,0,none⟩),.slice none 0 0] W λe w'=>ToB E W w.heap.size none width ((PS.rd pre body).body width []) e w':=
 body_all E w.heap.size hE.size none width hw (.slice none 0 0) [] [] (.rd pre body) W (hE.tch hT noE) hp (.inl ⟨rfl,rfl⟩) rfl (by simp) (λ_ _ _=>rfl) (λj x t h=>by simp at h) (by simp only [PS.len];omega)
set_option maxRecDepth 100000 in
set_option maxHeartbeats 1000000 in
theorem chSubmit_f2 (E:Nat->Addr) {w:World} (hE:Env E w) {cb width fl r:Nat} (hw:width<=32) {bs:List BV} {lv:Value} (h:ChRow w cb width fl r bs lv) (s:ByteArray) (hs:s.size<=1000000) (y:HdL) (pre body:List UInt8) (hh:(PS.rd [] s.data.toList).hdr width (0,⟨#[]⟩,⟨#[]⟩,⟨#[]⟩)=some (y,.rd pre body)) (hl:pre.length+body.length<=1000000) (hb:∀ts q,(PS.rd pre body).body width [] ≠ some (ts,.rd q [])):
  Calls Tryz.prog 46 #[.pointer (some ⟨cb,0,none⟩),.string s] w λe w'=>NoTo E 7 w e w':=by
 have hsz:=hE.size
 have c0:w.cell? ⟨cb,0,none⟩=some (.int .i64 (width:Int)):=cell_row h.row
 have HHD:Hid (∀W,Tch (λ_=>False) w W->PortAt W w.heap.size none (width:Int) .nilIface (.rd [] s.data.toList)->Calls Tryz.prog 86 #[.pointer (some ⟨w.heap.size,0,none⟩),.agg #[.int .u64 0,.string ⟨#[]⟩,.string ⟨#[]⟩,.string ⟨#[]⟩]] W λe w'=>e=.returned (.agg #[.int .u64 (y.1:Int),.string y.2.1,.string y.2.2.1,.string y.2.2.2])/\RdTo E W w' w.heap.size (width:Int) (some (.rd pre body))):=λW hT hp=>subHdr E hE width hw s hs y _ hh hT hp
 have HBO:Hid (∀W,Tch (λ_=>False) w W->PortAt W w.heap.size none (width:Int) .nilIface (.rd pre body)->Calls Tryz.prog 78 #[.pointer (some ⟨w.heap.size,0,none⟩),.slice none 0 0] W λe w'=>ToB E W w.heap.size none width ((PS.rd pre body).body width []) e w'):=λW hT hp=>subBody E hE width hw pre body hl hT hp
 have HDN:Hid (∀W g,Tch (λ_=>False) w W->PortSt E W w.heap.size g (width:Int) (((PS.rd pre body).body width []).map (·.2))->Calls Tryz.prog 88 #[.pointer (some ⟨w.heap.size,0,none⟩)] W λe w'=>Tch (λ_=>False) W w'/\∃t u,e=.returned (.iface t u)/\ErrIs E 7 w' (.iface t u)):=λW g hT hp=>by
  cases hx:(PS.rd pre body).body width [] with
  | none=>
   rw [hx] at hp
   exact rdone_st E w.heap.size width none (λp h=>by cases h) W (hE.tch hT noE) g hp
  | some z=>
   obtain ⟨ts,p⟩:=z
   obtain ⟨b1,r1,_,_,e1,_⟩:=rdOk_body width hw _ _ _ _ hx
   subst e1
   rw [hx] at hp
   cases r1 with
   | nil=>exact absurd hx (hb _ _)
   | cons a l=>exact rdone_st E w.heap.size width (some (.rd (pre++b1) (a :: l))) (λp h=>⟨_,_,(Option.some.inj h).symm⟩) W (hE.tch hT noE) g hp
 clear hE h hh hs hb hl
 go_enter Tryz.func46,Tryz.ntmps46
 go_wp2_with fail
 refine (newReader_any _ _ _).mono ?_
 rintro _ w1 ⟨rfl,hp1,ht1⟩
 have HT1:Hid (Tch (λ_=>False) w w1):=ht1
 have HP1:Hid (PortAt w1 w.heap.size none (width:Int) .nilIface (.rd [] s.data.toList)):=hp1
 clear ht1 hp1 c0
 go_wp2_with fail
 refine (HHD.out w1 HT1.out HP1.out).mono ?_
 rintro _ w2 ⟨rfl,⟨hp2,_⟩,ht2⟩
 have hA:=Tch.alloc (λ_=>False) w2 (.cells #[.int .u64 (y.1:Int),.string y.2.1,.string y.2.2.1,.string y.2.2.2] 167)
 have HT2:Hid (Tch (λ_=>False) w _):=(HT1.out.trans ht2 (λj hj=>.inr (Nat.le_of_eq hj.symm))).go hA
 have HP2:Hid (PortAt _ w.heap.size none (width:Int) .nilIface (.rd pre body)):=hp2.tch hA (λh=>h) (λ_ _ h=>h)
 clear hp2 ht2 HHD HP1 HT1 hA
 go_wp2_with fail
 refine (rest_any w.heap.size none (width:Int) _ pre body _ HP2.out).mono ?_
 rintro _ w3 ⟨rfl,ht3⟩
 have HT3:Hid (Tch (λ_=>False) w w3):=HT2.out.go ht3
 have HP3:Hid (PortAt w3 w.heap.size none (width:Int) .nilIface (.rd pre body)):=HP2.out.tch ht3 (λh=>h) (λ_ _ h=>h)
 clear ht3 HT2 HP2
 go_wp2_with fail
 refine (HBO.out w3 HT3.out HP3.out).mono ?_
 rintro _ w4 ⟨⟨z1,z2,z3⟩,g4,rfl,hp4,_,ht4,_⟩
 have HT4:Hid (Tch (λ_=>False) w w4):=fresh_wr2 (b:=w.heap.size) (Nat.le_refl _) HT3.out ht4
 have HP4:Hid (PortSt E w4 w.heap.size g4 (width:Int) (((PS.rd pre body).body width []).map (·.2))):=hp4
 clear ht4 hp4 HT3 HP3
 go_wp2_with fail
 refine (HDN.out w4 g4 HT4.out HP4.out).mono ?_
 rintro _ w5 ⟨ht5,t,u,rfl,he5⟩
 have HT5:Hid (Tch (λ_=>False) w w5):=HT4.out.go ht5
 have HE5:Hid (ErrIs E 7 w5 (.iface t u)):=he5
 clear ht5 HT4 HP4 he5 HDN HBO
 go_wp2_with fail
 refine (at_err _ _ _ _).mono ?_
 rintro _ _ ⟨rfl,rfl⟩
 go_wp2
 go_ret
 exact ⟨HT5.out.go (Tch.alloc _ _ _),_,_,rfl,.wrap _ _ _ (heap_alloc_new _ _) (HE5.out.next (Tch.alloc _ _ _))⟩
end Go.Proofs.YtighkdnooglfjaaGreatDoor
