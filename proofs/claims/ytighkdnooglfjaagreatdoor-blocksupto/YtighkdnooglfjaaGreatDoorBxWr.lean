import Derived.Test.YtighkdnooglfjaaGreatDoorBxPort
namespace Go.Proofs.YtighkdnooglfjaaGreatDoor
open Tryz
set_option maxRecDepth 100000
set_option maxHeartbeats 1000000
open Go.RowKit

theorem JgB (E:Nat->Addr) (b:Nat) (s:BA) (n:Nat) (w:World) (hE:Env E w) (hn:s.size ≠ n):
  Calls prog 381 #[.pointer (some ⟨b,0,none⟩),.string s,.int .i64 (n:Int)] w λe w'=>e=.returned (.tuple #[.string ⟨#[]⟩,eV E 7])/\∃k,w'=w.drewN k:=by
 have hf:=hE.form
 have hne:((s.size:Int) != (n:Int))=true:=by rw [bne_iff_ne];omega
 clear hE
 go_enter func381,ntmps381
 go_wp2
 go_region
 go_wp2
 go_ret2
 exact ⟨rfl,1,rfl⟩

theorem Jfn {w w1:World} {b:Nat} {wj:Int} {err:Value} {v v1:Value} {done news:List UInt8} (hb:b<w.heap.size)
  (hrow:w.heap[b]? =some (.cells #[.iface 153 (.pointer (some ⟨b,0,none⟩)),.int .i64 wj,err,v] 161))
  (hbs:Bs (b+1) w v (bc done)) (h1:Bs (b+1) w1 v1 (bc done++bc news)) (hg:w.grownBy w1 v.ownBlock):
  Jc (w1.setCell ⟨b,3,none⟩ v1) b v1.ownBlock wj err (.wr (done++news))/\Tch (λk=>k=b\/some k=v.ownBlock) w (w1.setCell ⟨b,3,none⟩ v1):=by
 have hne:some b ≠ v.ownBlock:=λe=>by have:=hbs.own b e.symm;omega
 have hrow1:=(hg.block b hb hne).trans hrow
 have hs:=Qj w1 b 3 _ _ (0,0) v1 hrow1
 have ht:Tch (λk=>k=b) w1 (w1.setCell ⟨b,3,none⟩ v1):=by rw [hs];exact Ts _ _ _
 refine ⟨⟨v1,rfl,?_,?_⟩,(Tg hg).mono (λj h=>.inl (.inr h)) |>.trans ht (λj h=>.inl (.inl h))⟩
 ·rw [Zg]
  have hgr:w1.grownBy (w1.setCell ⟨b,3,none⟩ v1) (some b):=⟨ht.os,ht.tape,ht.output,ht.size,λk hk hn=>ht.block k hk (λe=>hn (by rw [e]))⟩
  exact h1.grown hgr (λk e=>by cases e;exact .inl (by omega))
 ·rw [hs,Qi _ _ _ _ _ _ hrow1];rfl

theorem JdL {w w1:World} {b:Nat} {wj:Int} {err:Value} {v:Value} {xs:List Value} (hb:b<w.heap.size)
  (hrow:w.heap[b]? =some (.cells #[.iface 153 (.pointer (some ⟨b,0,none⟩)),.int .i64 wj,err,v] 161))
  (hbs:Bs (b+1) w v xs) (hg:w.grownBy w1 v.ownBlock):w1.cell? ⟨b,3,none⟩=some v/\w1.frozen? ⟨b,3,none⟩=false:=by
 have hne:some b ≠ v.ownBlock:=λe=>by have:=hbs.own b e.symm;omega
 have hrow1:=(hg.block b hb hne).trans hrow
 exact ⟨Ja hrow1,Qg _ _ _ _ _ hrow1⟩
theorem JhS {w w1:World} {b:Nat} {wj:Int} {err:Value} {v:Value} {xs:List Value} {o:Obj} (hb:b<w.heap.size)
  (hrow:w.heap[b]? =some (.cells #[.iface 153 (.pointer (some ⟨b,0,none⟩)),.int .i64 wj,err,v] 161))
  (hbs:Bs (b+1) w v xs) (hg:(w.alloc o).drew.grownBy w1 v.ownBlock):w1.cell? ⟨b,3,none⟩=some v/\w1.frozen? ⟨b,3,none⟩=false:=
 JdL (w:=(w.alloc o).drew) (by show b<(w.alloc o).heap.size;simp;omega) ((Below.heap_alloc w o b hb).trans hrow) (hbs.alloc o) hg
theorem JhR {w w1:World} {b:Nat} {wj:Int} {err:Value} {v v1:Value} {done news:List UInt8} {o:Obj} {g:Option Nat} (hb:b<w.heap.size)
  (hrow:w.heap[b]? =some (.cells #[.iface 153 (.pointer (some ⟨b,0,none⟩)),.int .i64 wj,err,v] 161))
  (hbs:Bs (b+1) w v (bc done)) (h1:Bs (b+1) w1 v1 (bc done++bc news)) (hg:(w.alloc o).drew.grownBy w1 v.ownBlock) (hm:Jp (w.alloc o).drew v.ownBlock v1.ownBlock) (hv:v.ownBlock=g):
  Jc (w1.setCell ⟨b,3,none⟩ v1) b v1.ownBlock wj err (.wr (done++news))/\Jp w g v1.ownBlock/\Tch (λk=>k=b\/some k=g) w (w1.setCell ⟨b,3,none⟩ v1):=by
 subst hv
 obtain ⟨h2,h3⟩:=Jfn (w:=(w.alloc o).drew) (by show b<(w.alloc o).heap.size;simp;omega) ((Below.heap_alloc w o b hb).trans hrow) (hbs.alloc o) h1 hg
 refine ⟨h2,?_,((Ta (λk=>k=b\/some k=v.ownBlock) w o).trans (Td _ _ 1) (λj h=>.inl h)).trans h3 (λj h=>.inl h)⟩
 rcases hm with hm | ⟨k,hk,hle⟩
 ·exact .inl hm
 ·exact .inr ⟨k,hk,by have:(w.alloc o).heap.size<=k:=hle;simp at this;omega⟩
theorem Jp.trans {w w1:World} {g g1 g2:Option Nat} (h:Jp w g g1) (k:Jp w1 g1 g2) (hs:w.heap.size<=w1.heap.size):Jp w g g2:=by
 rcases k with rfl | ⟨j,rfl,hj⟩
 ·exact h
 ·exact .inr ⟨j,rfl,by omega⟩
theorem XW {w w1 w2:World} {b:Nat} {g g1:Option Nat} (h:Tch (λk=>k=b\/some k=g) w w1) (k:Tch (λk=>k=b\/some k=g1) w1 w2) (hm:Jp w g g1):Tch (λk=>k=b\/some k=g) w w2:=
 h.trans k (λj hj=>by
  rcases hj with rfl | hj
  ·exact .inl (.inl rfl)
  ·rcases hm with rfl | ⟨i,rfl,hi⟩
   ·exact .inl (.inr hj)
   ·cases hj;exact .inr hi)
theorem JaS:(prog.info? 5).map (λi=>(i.zero,i.size,i.bytes))=some (some (.int .u8 0),1,1):=by kernel_rfl

theorem JgC (b:Nat) (g:Option Nat) (wj:Int) (err:Value) (done:List UInt8) (s:BA) (n:Nat) (w:World) (hp:Jc w b g wj err (.wr done)) (hn:s.size=n) (hm:done.length+n<=10000000000000):
  Calls prog 381 #[.pointer (some ⟨b,0,none⟩),.string s,.int .i64 (n:Int)] w λe w'=>e=.returned (.tuple #[.string s,.nilIface])/\∃g',Jc w' b g' wj err (.wr (done++s.data.toList))/\Jp w g g'/\Tch (λk=>k=b\/some k=g) w w':=by
 have hlt:=hp.lt
 obtain ⟨v,rfl,hbs,hrow⟩:=hp
 obtain ⟨i0,hi,hz0,hz1,hz2⟩:=info_parts JaS
 have c3:w.cell? ⟨b,3,none⟩=some v:=Ja hrow
 have hne:((s.size:Int) != (n:Int))=false:=by rw [bne_eq_false_iff_eq];omega
 have Hrow:Hid (_=_):=hrow
 have Hbl:Hid ((bc done).length=done.length):=XY done
 clear hrow
 go_enter func381,ntmps381
 go_wp2_with (at_builtin;refine Xq rfl _ _ 52 9 5 rfl i0 _ underlying52 hi hz0 hz1 hz2 rfl rfl hbs _ s.size (byteCells s) rfl (Src.ofString _ underlying9 s) (by rw [Hbl.out];omega) (by omega) ?_;intro v1 w1 hbs1 hg1 hmv;have HM:Hid _:=hmv;clear hmv;have Hg1:Hid _:=hg1;clear hg1;obtain ⟨hc1,hf1⟩:=JdL hlt Hrow.out hbs Hg1.out;obtain ⟨a1,m1,c1,hv1⟩:=hbs1.shape3;subst hv1)
 go_ret2
 obtain ⟨h1,h2⟩:=Jfn (news:=s.data.toList) hlt Hrow.out hbs hbs1 Hg1.out
 exact ⟨rfl,_,h1,HM.o,h2⟩

def beL (n k:Nat):Nat->List UInt8
 | 0=>[]
 | j+1=>beL n k j++[UInt8.ofNat (n / 2 ^ (8 * (k - 1 - j)))]
theorem Je (n k j:Nat):(beL n k j).length=j:=by
 induction j with
 | zero=>rfl
 | succ j ih=>simp [beL,ih]
theorem JjN (n k:Nat):((n:Int) / 2 ^ (8 * k) != 0)=decide (n / 2 ^ (8 * k) ≠ 0):=by
 have e:(n:Int) / 2 ^ (8 * k)=((n / 2 ^ (8 * k):Nat):Int):=by simp
 rw [e]
 generalize n / 2 ^ (8 * k)=m
 by_cases h:m=0
 ·subst h;rfl
 ·have:((m:Int) != 0)=true:=by rw [bne_iff_ne];omega
  rw [this];simp [h]

theorem Js (x:Int) (h0:0<=x) (h:x<1000000):IntKind.i64.wrap x=x:=by
 simp [IntKind.wrap,IntKind.bits,IntKind.signed];omega

theorem JeC (E:Nat->Addr) (b:Nat) (n k:Nat) (w:World) (hE:Env E w) (hk:k<=8) (hbig:n / 2 ^ (8 * k) ≠ 0):
  Calls prog 378 #[.pointer (some ⟨b,0,none⟩),.int .u64 (n:Int),.int .i64 (k:Int)] w λe w'=>e=.returned (.tuple #[.int .u64 0,eV E 7])/\∃j,w'=w.drewN j:=by
 have hf:=hE.form
 clear hE
 have ht:((n:Int) / 2 ^ (8 * k) != 0)=true:=by rw [JjN];simp [hbig]
 clear hbig
 have hki:(k:Int)<=8:=by omega
 go_enter func378,ntmps378
 go_wp2
 go_region
 go_wp2
 go_ret2
 exact ⟨rfl,1,rfl⟩

theorem JeD (b:Nat) (g:Option Nat) (wj:Int) (err:Value) (done:List UInt8) (n k:Nat) (w:World) (hp:Jc w b g wj err (.wr done)) (hk:k<=8) (hsm:n / 2 ^ (8 * k)=0) (hm:done.length<=10000000000000):
  Calls prog 378 #[.pointer (some ⟨b,0,none⟩),.int .u64 (n:Int),.int .i64 (k:Int)] w λe w'=>e=.returned (.tuple #[.int .u64 (n:Int),.nilIface])/\∃g',Jc w' b g' wj err (.wr (done++beL n k k))/\Jp w g g'/\Tch (λk=>k=b\/some k=g) w w':=by
 obtain ⟨i0,hi,hz0,hz1,hz2⟩:=info_parts JaS
 have ht:((n:Int) / 2 ^ (8 * k) != 0)=false:=by rw [JjN];simp [hsm]
 clear hsm
 have hki:(k:Int)<=8:=by omega
 go_enter func378,ntmps378
 go_wp2
 go_loopw [8] (λi wr=>∃j:Nat,j<=k/\i=.int .i64 ((k:Int) - 1 - (j:Int))/\∃g',Jc wr b g' wj err (.wr (done++beL n k j))/\Jp w g g'/\Tch (λk=>k=b\/some k=g) w wr) (λi _=>(intOf i+1).toNat)
 case atStart=>exact ⟨0,by omega,congrArg (Value.int .i64) (by omega),g,by simpa [beL] using hp,.inl rfl,Te _ _⟩
 case round=>
  clear hp
  obtain ⟨j,hj,rfl,g',hp,hmv,htc⟩:=hrel
  have hlt:=hp.lt
  by_cases hjk:j<k
  ·obtain ⟨v,hv,hbs,hrow⟩:=hp
   have c3:wr.cell? ⟨b,3,none⟩=some v:=Ja hrow
   have Hrow:Hid (_=_):=hrow
   have Hbl:Hid ((bc (done++beL n k j)).length=done.length+j):=(by rw [XY,Qe,Je]:(bc (done++beL n k j)).length=done.length+j)
   have HV:Hid _:=hv
   have HMV:Hid (Jp w g g'):=hmv
   have HTC:Hid (Tch (λk=>k=b\/some k=g) w wr):=htc
   clear hrow hv hmv htc
   obtain ⟨m,hm',hmk⟩:∃m:Nat,(k:Int) - 1 - (j:Int)=(m:Int)/\k - 1 - j=m:=⟨k - 1 - j,by omega,rfl⟩
   have HM:Hid ((k:Int) - 1 - (j:Int)=(m:Int)/\k - 1 - j=m):=⟨hm',hmk⟩
   have hm7:m<=7:=by omega
   rw [hm']
   clear hm' hmk
   have hw8:IntKind.i64.wrap (8 * (m:Int))=8 * (m:Int):=Js _ (by omega) (by omega)
   have hsh:Op.shift .shr .u64 (n:Int) .i64 (8 * (m:Int))=pure (.int .u64 ((n:Int) / 2 ^ (8 * m))):=by
    rw [shift_shr_u64 _ _ _ (by omega) (by omega)]
    congr 3
   go_wp2
   go_region_law (refine Jc0 rfl _ _ 52 52 5 rfl i0 _ underlying52 hi hz0 hz1 hz2 rfl rfl ((hbs.drew).alloc _) _ 1 [_] rfl (Src.ofSlice _ underlying52 _ 1 1 _ rfl (cell_one_new _ _ _) (by simp [Value.oneCell'])) (by rw [Hbl.out];omega) (by simp;omega) ?_;intro v1 w1 hbs1 hg1 hmv1;have HM1:Hid _:=hmv1;clear hmv1;have Hg1:Hid _:=hg1;clear hg1;obtain ⟨hc1,hf1⟩:=JhS hlt Hrow.out hbs Hg1.out;obtain ⟨a1,m1,c1,hv1⟩:=hbs1.shape3;subst hv1)
   all_goals
    go_wp2
    have e2:[Value.int .u8 (IntKind.u8.wrap ((n:Int) / 2 ^ (8 * (m:Int)).toNat))]=bc [UInt8.ofNat (n / 2 ^ (8 * m))]:=by
     rw [IntKind.wrap_u8',show (8 * (m:Int)).toNat=8 * m by omega]
     simp [bc]
    rw [e2] at hbs1
    obtain ⟨p1,p2,p3⟩:=JhR hlt Hrow.out hbs hbs1 Hg1.out HM1.o HV.o
    have e3:done++beL n k (j+1)=done++beL n k j++[UInt8.ofNat (n / 2 ^ (8 * m))]:=by
     rw [<-HM.o.2,Qs];rfl
    go_roundw
    case rel=>exact ⟨j+1,by omega,congrArg (Value.int .i64) (by have:=HM.o.1;omega),_,by rw [e3];exact p1,HMV.o.trans p2 HTC.o.size,XW HTC.o p3 HMV.o⟩
    case measure=>simp only [intOf];omega
  ·have HJ:Hid (j=k):=(by omega:j=k)
   have hlt0:¬(0:Int)<=(k:Int) - 1 - (j:Int):=by omega
   go_wp2
   go_ret2
   exact ⟨rfl,g',by have:=HJ.o;subst this;exact hp,hmv,htc⟩

theorem ZR (a:Addr) (w:World):(method 641 170 (.pointer (some a)) "trove/wire.number").run prog w=.ok (382,.pointer (some a)) w:=by kernel_rfl
theorem JaW (a:Addr) (w:World):(method 641 170 (.pointer (some a)) "trove/wire.text").run prog w=.ok (385,.pointer (some a)) w:=by kernel_rfl
theorem ZS (a:Addr) (w:World):(method 641 153 (.pointer (some a)) "trove/wire.number").run prog w=.ok (378,.pointer (some a)) w:=by kernel_rfl
theorem JaX (a:Addr) (w:World):(method 641 153 (.pointer (some a)) "trove/wire.text").run prog w=.ok (381,.pointer (some a)) w:=by kernel_rfl
theorem Xx {w:World} {b:Nat} {g:Option Nat} {wj:Int} {e e':Value} {p:PS} {n:Nat} (hp:Jc w b g wj e p):
  (w.drewN n).cell? ⟨b,2,none⟩=some e/\(w.drewN n).frozen? ⟨b,2,none⟩=false/\Jc ((w.drewN n).setCell ⟨b,2,none⟩ e') b g wj e' p/\Tch (λk=>k=b) w ((w.drewN n).setCell ⟨b,2,none⟩ e'):=by
 cases p with
 | rd pre rest=>
  have hrow:=hp.2
  have h1:=Qj (w.drewN n) b 2 _ _ (0,0) e' hrow
  refine ⟨Ja hrow,Qg _ _ _ _ _ hrow,?_,?_⟩
  ·exact ⟨hp.1,by rw [h1,Qi (w.drewN n) _ _ _ _ _ hrow];rfl⟩
  ·rw [h1];exact (Td _ w n).trans (Ts _ _ _) (λj h=>.inl h)
 | wr done=>
  have hlt:=hp.lt
  obtain ⟨v,hv,hbs,hrow⟩:=hp
  have h1:=Qj (w.drewN n) b 2 _ _ (0,0) e' hrow
  have ht:Tch (λk=>k=b) w ((w.drewN n).setCell ⟨b,2,none⟩ e'):=by rw [h1];exact (Td _ w n).trans (Ts _ _ _) (λj h=>.inl h)
  refine ⟨Ja hrow,Qg _ _ _ _ _ hrow,⟨v,hv,?_,by rw [h1,Qi (w.drewN n) _ _ _ _ _ hrow];rfl⟩,ht⟩
  exact hbs.grown (row:=some b) ⟨ht.os,ht.tape,ht.output,ht.size,λk hk hn=>ht.block k hk (λe=>hn (by rw [e]))⟩ (λk e=>by cases e;exact .inl (by omega))

theorem Jel (b:Nat) (wj:Int) (x:Int) (pre rest:List UInt8) (n:Nat) (w:World) (hp:Jc w b none wj .nilIface (.rd pre rest)) (hb:pre.length+rest.length<=10000000000000) (hn:n<=rest.length) (h8:n<=8):
  Calls prog 138 #[.pointer (some ⟨b,0,none⟩),.int .u64 x,.int .i64 (n:Int)] w λe w'=>e=.returned (.int .u64 (numL (rest.take n):Int))/\Jc w' b none wj .nilIface (.rd (pre++rest.take n) (rest.drop n))/\Tch (λk=>k=b) w w':=by
 have hrow:=hp.2
 have c0:w.cell? ⟨b,0,none⟩=some (.iface 170 (.pointer (some ⟨b,0,none⟩))):=Ja hrow
 have c2:w.cell? ⟨b,2,none⟩=some .nilIface:=Ja hrow
 have hm:=ZR ⟨b,0,none⟩
 clear hrow
 go_enter func138,ntmps138
 go_wp2_with fail
 refine (Jer b wj .nilIface _ pre rest n _ hp hb hn h8).mono ?_
 rintro _ w1 ⟨rfl,hp1,ht⟩
 obtain ⟨d2,f2,q1,q2⟩:=Xx (n:=0) (e':=.nilIface) hp1
 rw [World.drewN_zero] at d2 f2 q1 q2
 have Q1:Hid (Jc _ _ _ _ _ _):=q1
 have Q2:Hid (Tch _ _ _):=q2
 have HT:Hid (Tch _ _ _):=ht
 clear q1 q2 hp hp1 ht
 go_wp2
 go_ret
 exact ⟨rfl,Q1.out,HT.o.trans Q2.out (λj h=>.inl h)⟩
theorem Jek (E:Nat->Addr) (b:Nat) (wj:Int) (x:Int) (pre rest:List UInt8) (n:Nat) (w:World) (hE:Env E w) (hp:Jc w b none wj .nilIface (.rd pre rest)) (hb:pre.length+rest.length<=10000000000000) (hn:rest.length<n):
  Calls prog 138 #[.pointer (some ⟨b,0,none⟩),.int .u64 x,.int .i64 (n:Int)] w λe w'=>e=.returned (.int .u64 0)/\Jc w' b none wj (eV E 7) (.rd pre rest)/\Tch (λk=>k=b) w w':=by
 have hrow:=hp.2
 have c0:w.cell? ⟨b,0,none⟩=some (.iface 170 (.pointer (some ⟨b,0,none⟩))):=Ja hrow
 have c2:w.cell? ⟨b,2,none⟩=some .nilIface:=Ja hrow
 have hm:=ZR ⟨b,0,none⟩
 clear hrow
 go_enter func138,ntmps138
 go_wp2_with fail
 refine (Jeq E b wj .nilIface _ pre rest n _ hE hp hb hn).mono ?_
 rintro _ w1 ⟨rfl,j,rfl⟩
 obtain ⟨d2,f2,q1,q2⟩:=Xx (n:=j) (e':=eV E 7) hp
 have Q1:Hid (Jc _ _ _ _ _ _):=q1
 have Q2:Hid (Tch _ _ _):=q2
 clear q1 q2 hp hE
 go_wp2
 go_ret
 exact ⟨rfl,Q1.out,Q2.out⟩
theorem Jem (E:Nat->Addr) (b:Nat) (wj:Int) (x:Nat) (g:Option Nat) (done:List UInt8) (n:Nat) (w:World) (hE:Env E w) (hp:Jc w b g wj .nilIface (.wr done)) (h8:n<=8) (hn:x / 2 ^ (8 * n) ≠ 0):
  Calls prog 138 #[.pointer (some ⟨b,0,none⟩),.int .u64 (x:Int),.int .i64 (n:Int)] w λe w'=>e=.returned (.int .u64 0)/\Jc w' b g wj (eV E 7) (.wr done)/\Tch (λk=>k=b) w w':=by
 have hrow:=hp.choose_spec.2.2
 have c0:w.cell? ⟨b,0,none⟩=some (.iface 153 (.pointer (some ⟨b,0,none⟩))):=Ja hrow
 have c2:w.cell? ⟨b,2,none⟩=some .nilIface:=Ja hrow
 have hm:=ZS ⟨b,0,none⟩
 clear hrow
 go_enter func138,ntmps138
 go_wp2_with fail
 refine (JeC E b x n _ hE h8 hn).mono ?_
 rintro _ w1 ⟨rfl,j,rfl⟩
 obtain ⟨d2,f2,q1,q2⟩:=Xx (n:=j) (e':=eV E 7) hp
 have Q1:Hid _:=q1
 have Q2:Hid _:=q2
 clear q1 q2 hp hE
 go_wp2
 go_ret
 exact ⟨rfl,Q1.out,Q2.out⟩
theorem Jgt (E:Nat->Addr) (b:Nat) (wj:Int) (x:Value) (pre rest:List UInt8) (n:Nat) (w:World) (hE:Env E w) (hp:Jc w b none wj .nilIface (.rd pre rest)) (hb:pre.length+rest.length<=10000000000000) (hn:rest.length<n):
  Calls prog 209 #[.pointer (some ⟨b,0,none⟩),x,.int .i64 (n:Int)] w λe w'=>e=.returned (.string ⟨#[]⟩)/\Jc w' b none wj (eV E 7) (.rd pre rest)/\Tch (λk=>k=b) w w':=by
 have hrow:=hp.2
 have c0:w.cell? ⟨b,0,none⟩=some (.iface 170 (.pointer (some ⟨b,0,none⟩))):=Ja hrow
 have c2:w.cell? ⟨b,2,none⟩=some .nilIface:=Ja hrow
 have hm:=JaW ⟨b,0,none⟩
 clear hrow
 go_enter func209,ntmps209
 go_wp2_with fail
 refine (JcI E b wj .nilIface _ pre rest n _ hE hp hb hn).mono ?_
 rintro _ w1 ⟨rfl,j,rfl⟩
 obtain ⟨d2,f2,q1,q2⟩:=Xx (n:=j) (e':=eV E 7) hp
 have Q1:Hid (Jc _ _ _ _ _ _):=q1
 have Q2:Hid (Tch _ _ _):=q2
 clear q1 q2 hp hE
 go_wp2
 go_ret
 exact ⟨rfl,Q1.out,Q2.out⟩
theorem Jgv (E:Nat->Addr) (b:Nat) (wj:Int) (s:BA) (g:Option Nat) (done:List UInt8) (n:Nat) (w:World) (hE:Env E w) (hp:Jc w b g wj .nilIface (.wr done)) (hn:s.size ≠ n):
  Calls prog 209 #[.pointer (some ⟨b,0,none⟩),.string s,.int .i64 (n:Int)] w λe w'=>e=.returned (.string ⟨#[]⟩)/\Jc w' b g wj (eV E 7) (.wr done)/\Tch (λk=>k=b) w w':=by
 have hrow:=hp.choose_spec.2.2
 have c0:w.cell? ⟨b,0,none⟩=some (.iface 153 (.pointer (some ⟨b,0,none⟩))):=Ja hrow
 have c2:w.cell? ⟨b,2,none⟩=some .nilIface:=Ja hrow
 have hm:=JaX ⟨b,0,none⟩
 clear hrow
 go_enter func209,ntmps209
 go_wp2_with fail
 refine (JgB E b s n _ hE hn).mono ?_
 rintro _ w1 ⟨rfl,j,rfl⟩
 obtain ⟨d2,f2,q1,q2⟩:=Xx (n:=j) (e':=eV E 7) hp
 have Q1:Hid _:=q1
 have Q2:Hid _:=q2
 clear q1 q2 hp hE
 go_wp2
 go_ret
 exact ⟨rfl,Q1.out,Q2.out⟩
theorem Jgu (b:Nat) (wj:Int) (x:Value) (pre rest:List UInt8) (n:Nat) (w:World) (hp:Jc w b none wj .nilIface (.rd pre rest)) (hb:pre.length+rest.length<=10000000000000) (hn:n<=rest.length):
  Calls prog 209 #[.pointer (some ⟨b,0,none⟩),x,.int .i64 (n:Int)] w λe w'=>e=.returned (.string ⟨(rest.take n).toArray⟩)/\Jc w' b none wj .nilIface (.rd (pre++rest.take n) (rest.drop n))/\Tch (λk=>k=b) w w':=by
 have hrow:=hp.2
 have c0:w.cell? ⟨b,0,none⟩=some (.iface 170 (.pointer (some ⟨b,0,none⟩))):=Ja hrow
 have c2:w.cell? ⟨b,2,none⟩=some .nilIface:=Ja hrow
 have hm:=JaW ⟨b,0,none⟩
 clear hrow
 go_enter func209,ntmps209
 go_wp2_with fail
 refine (JcJ b wj .nilIface _ pre rest n _ hp hb hn).mono ?_
 rintro _ w1 ⟨rfl,hp1,ht⟩
 obtain ⟨d2,f2,q1,q2⟩:=Xx (n:=0) (e':=.nilIface) hp1
 rw [World.drewN_zero] at d2 f2 q1 q2
 have Q1:Hid (Jc _ _ _ _ _ _):=q1
 have Q2:Hid (Tch _ _ _):=q2
 have HT:Hid (Tch _ _ _):=ht
 clear q1 q2 hp hp1 ht
 go_wp2
 go_ret
 exact ⟨rfl,Q1.out,HT.o.trans Q2.out (λj h=>.inl h)⟩
theorem Jen (b:Nat) (g:Option Nat) (wj:Int) (x:Nat) (done:List UInt8) (n:Nat) (w:World) (hp:Jc w b g wj .nilIface (.wr done)) (h8:n<=8) (hn:x / 2 ^ (8 * n)=0) (hd:done.length<=10000000000000):
  Calls prog 138 #[.pointer (some ⟨b,0,none⟩),.int .u64 (x:Int),.int .i64 (n:Int)] w λe w'=>e=.returned (.int .u64 (x:Int))/\∃g',Jc w' b g' wj .nilIface (.wr (done++beL x n n))/\Jp w g g'/\Tch (λk=>k=b\/some k=g) w w':=by
 have hrow:=hp.choose_spec.2.2
 have c0:w.cell? ⟨b,0,none⟩=some (.iface 153 (.pointer (some ⟨b,0,none⟩))):=Ja hrow
 have c2:w.cell? ⟨b,2,none⟩=some .nilIface:=Ja hrow
 have hm:=ZS ⟨b,0,none⟩
 clear hrow
 go_enter func138,ntmps138
 go_wp2_with fail
 refine (JeD b g wj .nilIface done x n _ hp h8 hn hd).mono ?_
 rintro _ w1 ⟨rfl,g1,hp1,hmv,ht⟩
 obtain ⟨d2,f2,q1,q2⟩:=Xx (n:=0) (e':=.nilIface) hp1
 rw [World.drewN_zero] at d2 f2 q1 q2
 have Q1:Hid _:=q1
 have Q2:Hid _:=q2
 have HM:Hid _:=hmv
 have HT:Hid _:=ht
 clear q1 q2 hp hp1 hmv ht
 go_wp2
 go_ret
 exact ⟨rfl,g1,Q1.out,HM.o,HT.o.trans Q2.out (λj h=>.inl (.inl h))⟩
theorem Jgw (b:Nat) (g:Option Nat) (wj:Int) (s:BA) (done:List UInt8) (n:Nat) (w:World) (hp:Jc w b g wj .nilIface (.wr done)) (hn:s.size=n) (hd:done.length+n<=10000000000000):
  Calls prog 209 #[.pointer (some ⟨b,0,none⟩),.string s,.int .i64 (n:Int)] w λe w'=>e=.returned (.string s)/\∃g',Jc w' b g' wj .nilIface (.wr (done++s.data.toList))/\Jp w g g'/\Tch (λk=>k=b\/some k=g) w w':=by
 have hrow:=hp.choose_spec.2.2
 have c0:w.cell? ⟨b,0,none⟩=some (.iface 153 (.pointer (some ⟨b,0,none⟩))):=Ja hrow
 have c2:w.cell? ⟨b,2,none⟩=some .nilIface:=Ja hrow
 have hm:=JaX ⟨b,0,none⟩
 clear hrow
 go_enter func209,ntmps209
 go_wp2_with fail
 refine (JgC b g wj .nilIface done s n _ hp hn hd).mono ?_
 rintro _ w1 ⟨rfl,g1,hp1,hmv,ht⟩
 obtain ⟨d2,f2,q1,q2⟩:=Xx (n:=0) (e':=.nilIface) hp1
 rw [World.drewN_zero] at d2 f2 q1 q2
 have Q1:Hid _:=q1
 have Q2:Hid _:=q2
 have HM:Hid _:=hmv
 have HT:Hid _:=ht
 clear q1 q2 hp hp1 hmv ht
 go_wp2
 go_ret
 exact ⟨rfl,g1,Q1.out,HM.o,HT.o.trans Q2.out (λj h=>.inl (.inl h))⟩

def PS.num (x k:Nat):PS->Option (Nat×PS)
 | .rd pre rest=>if k<=rest.length then some (numL (rest.take k),.rd (pre++rest.take k) (rest.drop k)) else none
 | .wr done=>if x / 2 ^ (8 * k)=0 then some (x,.wr (done++beL x k k)) else none
def PS.txt (s:List UInt8) (k:Nat):PS->Option (List UInt8×PS)
 | .rd pre rest=>if k<=rest.length then some (rest.take k,.rd (pre++rest.take k) (rest.drop k)) else none
 | .wr done=>if s.length=k then some (s,.wr (done++s)) else none
def PS.len:PS->Nat
 | .rd pre rest=>pre.length+rest.length
 | .wr done=>done.length
def Xs (w w':World) (b:Nat) (g:Option Nat) (wj:Int) (p':PS):Prop:=
 ∃g',Jc w' b g' wj .nilIface p'/\Jp w g g'/\Tch (λk=>k=b\/some k=g) w w'
theorem Xs.trans {w w1 w2:World} {b:Nat} {g g1:Option Nat} {wj:Int} {p2:PS} (hm:Jp w g g1) (h:Tch (λk=>k=b\/some k=g) w w1) (k:Xs w1 w2 b g1 wj p2):Xs w w2 b g wj p2:=by
 obtain ⟨g2,h1,h2,h3⟩:=k
 exact ⟨g2,h1,hm.trans h2 h.size,XW h h3 hm⟩
theorem Xh (b:Nat) (g:Option Nat) (wj:Int) (x n m:Nat) (p p':PS) (w:World) (hp:Jc w b g wj .nilIface p) (h8:n<=8) (hd:p.len<=10000000000000) (h:p.num x n=some (m,p')):
  Calls prog 138 #[.pointer (some ⟨b,0,none⟩),.int .u64 (x:Int),.int .i64 (n:Int)] w λe w'=>e=.returned (.int .u64 (m:Int))/\Xs w w' b g wj p':=by
 cases p with
 | rd pre rest=>
  simp only [PS.num] at h
  split at h
  ·cases h
   obtain rfl:=hp.1
   exact (Jel b wj x pre rest n w hp hd ‹_› h8).mono λe w' ⟨h1,h2,h3⟩=>⟨h1,none,h2,.inl rfl,h3.mono (λj hj=>.inl (.inl hj))⟩
  ·cases h
 | wr done=>
  simp only [PS.num] at h
  split at h
  ·cases h
   exact Jen b g wj x done n w hp h8 ‹_› hd
  ·cases h
theorem YA (E:Nat->Addr) (b:Nat) (g:Option Nat) (wj:Int) (x n:Nat) (p:PS) (w:World) (hE:Env E w) (hp:Jc w b g wj .nilIface p) (h8:n<=8) (hd:p.len<=10000000000000) (h:p.num x n=none):
  Calls prog 138 #[.pointer (some ⟨b,0,none⟩),.int .u64 (x:Int),.int .i64 (n:Int)] w λe w'=>e=.returned (.int .u64 0)/\Jc w' b g wj (eV E 7) p/\Tch (λk=>k=b) w w':=by
 cases p with
 | rd pre rest=>
  simp only [PS.num] at h
  split at h
  ·cases h
  ·obtain rfl:=hp.1
   exact Jek E b wj x pre rest n w hE hp hd (by omega)
 | wr done=>
  simp only [PS.num] at h
  split at h
  ·cases h
  ·exact Jem E b wj x g done n w hE hp h8 ‹_›
theorem Zp (b:Nat) (g:Option Nat) (wj:Int) (s:BA) (n:Nat) (m:List UInt8) (p p':PS) (w:World) (hp:Jc w b g wj .nilIface p) (hd:p.len+n<=10000000000000) (h:p.txt s.data.toList n=some (m,p')):
  Calls prog 209 #[.pointer (some ⟨b,0,none⟩),.string s,.int .i64 (n:Int)] w λe w'=>e=.returned (.string ⟨m.toArray⟩)/\Xs w w' b g wj p':=by
 cases p with
 | rd pre rest=>
  simp only [PS.txt] at h
  split at h
  ·cases h
   obtain rfl:=hp.1
   exact (Jgu b wj _ pre rest n w hp (by simp only [PS.len] at hd;omega) ‹_›).mono λe w' ⟨h1,h2,h3⟩=>⟨h1,none,h2,.inl rfl,h3.mono (λj hj=>.inl (.inl hj))⟩
  ·cases h
 | wr done=>
  simp only [PS.txt] at h
  split at h
  ·cases h
   rename_i hl
   exact (Jgw b g wj s done n w hp (by simpa using hl) hd).mono λe w' ⟨h1,h2⟩=>⟨by rw [h1],h2⟩
  ·cases h
theorem JdW (E:Nat->Addr) (b:Nat) (g:Option Nat) (wj:Int) (s:BA) (n:Nat) (p:PS) (w:World) (hE:Env E w) (hp:Jc w b g wj .nilIface p) (hd:p.len<=10000000000000) (h:p.txt s.data.toList n=none):
  Calls prog 209 #[.pointer (some ⟨b,0,none⟩),.string s,.int .i64 (n:Int)] w λe w'=>e=.returned (.string ⟨#[]⟩)/\Jc w' b g wj (eV E 7) p/\Tch (λk=>k=b) w w':=by
 cases p with
 | rd pre rest=>
  simp only [PS.txt] at h
  split at h
  ·cases h
  ·obtain rfl:=hp.1
   exact Jgt E b wj _ pre rest n w hE hp hd (by omega)
 | wr done=>
  simp only [PS.txt] at h
  split at h
  ·cases h
  ·rename_i hl
   exact Jgv E b wj s g done n w hE hp (by simpa using hl)
theorem Jc.errCell {w:World} {b:Nat} {g:Option Nat} {wj:Int} {e:Value} {p:PS} (hp:Jc w b g wj e p):w.cell? ⟨b,2,none⟩=some e:=(Xx (n:=0) (e':=e) hp).1
theorem Zx (b:Nat) (g:Option Nat) (wj:Int) (x:Value) (n:Value) (p:PS) (t:TypeId) (v:Value) (w:World) (hp:Jc w b g wj (.iface t v) p):
  Calls prog 138 #[.pointer (some ⟨b,0,none⟩),x,n] w λe w'=>e=.returned (.int .u64 0)/\w=w':=by
 have c2:=hp.errCell
 clear hp
 go_enter func138,ntmps138
 go_wp2
 go_ret
 exact ⟨rfl,rfl⟩
theorem JfB (b:Nat) (g:Option Nat) (wj:Int) (x:Value) (n:Value) (p:PS) (t:TypeId) (v:Value) (w:World) (hp:Jc w b g wj (.iface t v) p):
  Calls prog 209 #[.pointer (some ⟨b,0,none⟩),x,n] w λe w'=>e=.returned (.string ⟨#[]⟩)/\w=w':=by
 have c2:=hp.errCell
 clear hp
 go_enter func209,ntmps209
 go_wp2
 go_ret
 exact ⟨rfl,rfl⟩
theorem Zw (x k m:Nat) (p p1:PS) (h:p.num x k=some (m,p1)):p1.len<=p.len+k:=by
 cases p <;> simp only [PS.num] at h <;> split at h <;> cases h <;> simp [PS.len,Je] <;> omega
theorem Jg8 (s t:List UInt8) (k:Nat) (p p1:PS) (h:p.txt s k=some (t,p1)):p1.len<=p.len+k:=by
 cases p <;> simp only [PS.txt] at h <;> split at h <;> cases h <;> simp [PS.len] <;> omega
