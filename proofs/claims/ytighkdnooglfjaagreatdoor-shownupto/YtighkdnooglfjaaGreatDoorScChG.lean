import Derived.Test.YtighkdnooglfjaaGreatDoorScChE
namespace Go.Proofs.YtighkdnooglfjaaGreatDoor
open Go.Proofs.Tryz
set_option maxRecDepth 100000
set_option maxHeartbeats 1000000
open Go.RowKit

abbrev BV:=BA×Nat×Option Nat
def bV (b:BV):Value:=.agg #[.string b.1,.int .i64 (b.2.1:Int),Jh b.2.2]
def JK:Nat->List BV->List MapEntry
 | _,[]=>[]
 | i,b :: r=>⟨.int .i64 (i:Int),bV b,i⟩ :: JK (i+1) r
theorem Jbw (bs:List BV):∀i,(JK i bs).length=bs.length:=by
 induction bs with
 | nil=>intro i;rfl
 | cons b r ih=>intro i;simp [JK,ih]
theorem Jbv (bs:List BV) (b:BV):∀i,JK i (bs++[b])=JK i bs++[⟨.int .i64 ((i+bs.length:Nat):Int),bV b,i+bs.length⟩]:=by
 induction bs with
 | nil=>intro i;simp [JK]
 | cons x r ih=>
  intro i
  rw [List.cons_append,JK,ih (i+1),JK,List.cons_append,Qp]
  have e:i+1+r.length=i+(r.length+1):=by omega
  rw [e]
theorem Zo (bs:List BV):∀(i j:Nat) (k:Int),Instr.findNow (.int .i64) (.int .i64 k) (JK i bs) j=some (if (i:Int)<=k then (bs[k.toNat - i]?).map λb=>(j+(k.toNat - i),bV b) else none):=by
 induction bs with
 | nil=>intro i j k;simp [JK,Instr.findNow]
 | cons b r ih=>
  intro i j k
  rw [JK,Instr.findNow]
  by_cases h:k=(i:Int)
  ·subst h
   simp [Instr.sameNow]
  ·have h1:Instr.sameNow (.int .i64) (.int .i64 k) (.int .i64 (i:Int))=some false:=by simp [Instr.sameNow,h]
   rw [h1]
   simp only
   rw [ih (i+1) (j+1) k]
   by_cases h2:(i:Int)<=k
   ·rw [if_pos h2,if_pos (by omega)]
    have e1:k.toNat - i=(k.toNat - (i+1))+1:=by omega
    rw [e1,List.getElem?_cons_succ]
    congr 2
    funext x
    congr 1
    omega
   ·rw [if_neg h2,if_neg (by omega)]
theorem Jjp:prog.underlying 141=some (.map 3 148):=underlying141
theorem Jdd:prog.underlying 3=some (.int .i64):=underlying3
theorem Jgi {w:World} {r:Nat} {bs:List BV} (h:w.heap[r]? =some (.map (JK 0 bs).toArray bs.length)) (k:Nat) (b:BV) (hk:bs[k]? =some b) (c:Bool):
  (Instr.lookup 141 (.map (some r)) (.int .i64 (k:Int)) c).run prog w=.ok (if c then .tuple #[bV b,.bool true] else bV b) w:=by
 have h1:=Zo bs 0 0 (k:Int)
 rw [if_pos (by omega)] at h1
 simp only [Int.toNat_natCast,Nat.sub_zero,Nat.zero_add,hk,Option.map_some] at h1
 simp [Instr.lookup,run_underlying Jjp,Go.MapKept.run_getObj_map h,Go.MapKept.run_checkKey (d:=.int .i64) Jdd (k:=.int .i64 (k:Int)) (by simp [Go.MapKept.IsKey]),Go.MapKept.run_findKey Jdd h1,Result.andThen]
theorem JiL {w:World} {r:Nat} {bs:List BV} (h:w.heap[r]? =some (.map (JK 0 bs).toArray bs.length)) (k:Int) (hk:¬(0<=k/\k<bs.length)) (c:Bool):
  (Instr.lookup 141 (.map (some r)) (.int .i64 k) c).run prog w=.ok (if c then .tuple #[bV (⟨#[]⟩,0,none),.bool false] else bV (⟨#[]⟩,0,none)) w:=by
 have h1:=Zo bs 0 0 k
 have h2:(if ((0:Nat):Int)<=k then (bs[k.toNat - 0]?).map λb=>(0+(k.toNat - 0),bV b) else none)=none:=by
  by_cases h0:(0:Int)<=k
  ·rw [if_pos (by omega),List.getElem?_eq_none (by omega)];rfl
  ·rw [if_neg (by omega)]
 rw [h2] at h1
 simp [Instr.lookup,run_underlying Jjp,Go.MapKept.run_getObj_map h,Go.MapKept.run_checkKey (d:=.int .i64) Jdd (k:=.int .i64 k) (by simp [Go.MapKept.IsKey]),Go.MapKept.run_findKey Jdd h1,Result.andThen]
 rfl
def _root_.Go.World.setBlocks (w:World) (r:Nat) (bs:List BV):World:={ w with heap:=w.heap.setIfInBounds r (.map (JK 0 bs).toArray bs.length) }
theorem JbY {w:World} {r:Nat} {bs:List BV} (h:w.heap[r]? =some (.map (JK 0 bs).toArray bs.length)) (b:BV):
  (Instr.mapUpdate 141 (.map (some r)) (.int .i64 (bs.length:Int)) (bV b)).run prog w=.ok () (w.setBlocks r (bs++[b])):=by
 have h1:=Zo bs 0 0 (bs.length:Int)
 rw [if_pos (by omega)] at h1
 simp only [Int.toNat_natCast,Nat.sub_zero,Nat.zero_add,show bs[bs.length]? =none by simp,Option.map_none] at h1
 simp [Instr.mapUpdate,run_underlying Jjp,Go.MapKept.run_getObj_map h,Go.MapKept.run_checkKey (d:=.int .i64) Jdd (k:=.int .i64 (bs.length:Int)) (by simp [Go.MapKept.IsKey]),Go.MapKept.run_findKey Jdd h1,Go.MapKept.run_setObj_map _ h,Result.andThen,World.setBlocks,Jbv]
theorem ZQ {w:World} {r:Nat} {o:Obj} (h:w.heap[r]? =some o) (bs:List BV):(w.setBlocks r bs).heap[r]? =some (.map (JK 0 bs).toArray bs.length):=(Go.MapKept.heap_set h).1
theorem Tch.setBlocks (w:World) (r:Nat) (bs:List BV):Tch (λk=>k=r) w (w.setBlocks r bs):=⟨rfl,rfl,rfl,by simp [World.setBlocks],λk _ hn=>by simp [World.setBlocks,Ne.symm hn]⟩
theorem Jft {w:World} {r:Nat} {bs:List BV} (h:w.heap[r]? =some (.map (JK 0 bs).toArray bs.length)):(Builtin.len_ #[141] 3 #[.map (some r)]).run prog w=.ok (.int .i64 (bs.length:Int)) w:=by
 simp [Builtin.len_,Go.MapKept.run_getObj_map h,Jbw]
 rfl
theorem Je.refine {d:List UInt8->BA} {F G:Nat->Prop} {w:World} {n:Nat} {t:Tr} (h:Je d F w n t) (hg:∀j,F j->(∃c,w.heap[j]? =some (.cells c 243))->G j):Je d G w n t:=by
 induction h using Je.ri with
 | leaf n k o hF hr=>exact .leaf n k o (hg n hF ⟨_,hr⟩) hr
 | br n b nl nr l r hF hr _ _ ihl ihr=>exact .br n b nl nr l r (hg n hF ⟨_,hr⟩) hr ihl ihr
theorem StAt.refine {d:List UInt8->BA} {F G:Nat->Prop} {w:World} {q:Option Nat} {st:Option Tr} (h:StAt d F w q st) (hg:∀j,F j->(∃c,w.heap[j]? =some (.cells c 243))->G j):StAt d G w q st:=by
 cases q <;> cases st <;> first | exact h | exact Je.refine h hg
structure JI (w:World) (cb:Nat) (wd fl r:Nat) (bs:List BV) (v:Value):Prop where
 row:w.heap[cb]? =some (.cells #[.int .i64 (wd:Int),.int .i64 (fl:Int),.map (some r),v] 143)
 map:w.heap[r]? =some (.map (JK 0 bs).toArray bs.length)
theorem JI.next {w w':World} {cb wd fl r:Nat} {bs:List BV} {v:Value} (h:JI w cb wd fl r bs v) (k:Tch NoB w w'):JI w' cb wd fl r bs v:=
 ⟨(k.block _ (Jb h.row) (λh=>h)).trans h.row,(k.block _ (Jb h.map) (λh=>h)).trans h.map⟩
theorem JaT {w:World} {cb wd fl r:Nat} {bs:List BV} {v:Value} (h:JI w cb wd fl r bs v) (hb:bs.length<2 ^ 32):
  Calls prog 40 #[.pointer (some ⟨cb,0,none⟩)] w λe w'=>e=.returned (.int .i64 ((bs.length:Int) - 1))/\w=w':=by
 have c2:w.cell? ⟨cb,2,none⟩=some (.map (some r)):=Ja h.row
 have hlen:=Jft h.map
 clear h
 generalize hn:bs.length=n at *
 clear hn
 go_enter func40,ntmps40
 go_wp2
 go_ret
 exact ⟨rfl,rfl⟩
theorem Jkw {w:World} {cb wd fl r:Nat} {bs:List BV} {v:Value} (h:JI w cb wd fl r bs v) (k:Nat) (b:BV) (hk:bs[k]? =some b):
  Calls prog 74 #[.pointer (some ⟨cb,0,none⟩),.int .i64 (k:Int)] w λe w'=>e=.returned (.tuple #[bV b,.nilIface])/\Tch NoB w w':=by
 obtain ⟨bh,bu,bq⟩:=b
 obtain ⟨rv,hrv⟩:∃rv,Jh bq=.pointer rv:=⟨_,rfl⟩
 obtain ⟨W,hW⟩:∃W,W=w.alloc (.cells #[.string ⟨#[]⟩,.int .i64 0,.pointer none] 148):=⟨_,rfl⟩
 have hA:Tch NoB w W:=by rw [hW];exact Ta _ _ _
 have c2:W.cell? ⟨cb,2,none⟩=some (.map (some r)):=Ja (h.next hA).row
 have hlk:=Jgi (h.next hA).map k (bh,bu,bq) hk true
 have hrow:W.heap[w.heap.size]? =some (.cells #[.string ⟨#[]⟩,.int .i64 0,.pointer none] 148):=by rw [hW];exact Qf _ _
 have r0:W.cell? ⟨w.heap.size,0,none⟩=some (.string ⟨#[]⟩):=Ja hrow
 have r1:W.cell? ⟨w.heap.size,1,none⟩=some (.int .i64 0):=Ja hrow
 have r2:W.cell? ⟨w.heap.size,2,none⟩=some (.pointer none):=Ja hrow
 have fR:∀j,W.frozen? ⟨w.heap.size,j,none⟩=false:=λj=>Qg _ _ _ _ _ hrow
 have HW:Hid (W=w.alloc (.cells #[.string ⟨#[]⟩,.int .i64 0,.pointer none] 148)):=hW
 have HR:Hid (W.heap[w.heap.size]? =_):=hrow
 have HA:Hid (Tch _ w W):=hA
 have hz:w.heap.size<W.heap.size:=(Jb hrow)
 simp only [bV] at hlk ⊢
 rw [hrv] at hlk ⊢
 clear h hk hW hrow hA hrv
 go_enter func74,ntmps74
 go_upto_region 1 with fail
 rw [<-HW.o]
 go_wp2
 rw [set3 _ _ _ _ _ _ _ _ _ HR.o]
 have t1:=Ts W w.heap.size #[.string bh,.int .i64 (bu:Int),.pointer rv]
 have hr:(W.setRow w.heap.size #[.string bh,.int .i64 (bu:Int),.pointer rv]).heap[w.heap.size]? =some (.cells #[.string bh,.int .i64 (bu:Int),.pointer rv] 148):=Qi _ _ _ _ _ _ HR.o
 have t2:=Ta NoB (W.setRow w.heap.size #[.string bh,.int .i64 (bu:Int),.pointer rv]) (.cells #[.string bh,.int .i64 (bu:Int),.pointer rv] 148)
 refine QJ (v:=.tuple #[.agg #[.string bh,.int .i64 (bu:Int),.pointer rv],.nilIface]) (Jj results74 _ _ w.heap.size _ _ (0,0) _ rfl ((t2.block _ (Jb hr) (λh=>h)).trans hr) underlying148 rfl (by kernel_rfl)) rfl ⟨rfl,?_⟩
 exact (HA.o.trans t1 (λj hj=>.inr (by omega))).go t2
theorem Jib (E:Nat->Addr) {w:World} (hE:Env E w) {cb wd fl r:Nat} {bs:List BV} {v:Value} (h:JI w cb wd fl r bs v) (k:Int) (hk:¬(0<=k/\k<bs.length)):
  Calls prog 74 #[.pointer (some ⟨cb,0,none⟩),.int .i64 k] w λe w'=>∃t u,e=.returned (.tuple #[bV (⟨#[]⟩,0,none),.iface t u])/\Jl E 5 w' (.iface t u)/\Tch NoB w w':=by
 obtain ⟨W,hW⟩:∃W,W=w.alloc (.cells #[.string ⟨#[]⟩,.int .i64 0,.pointer none] 148):=⟨_,rfl⟩
 have hA:Tch NoB w W:=by rw [hW];exact Ta _ _ _
 have c2:W.cell? ⟨cb,2,none⟩=some (.map (some r)):=Ja (h.next hA).row
 have hlk:=JiL (h.next hA).map k hk true
 have hrg:=(hE.tch hA noE).range
 have hsz:=(hE.tch hA noE).size
 have hrow:W.heap[w.heap.size]? =some (.cells #[.string ⟨#[]⟩,.int .i64 0,.pointer none] 148):=by rw [hW];exact Qf _ _
 have r0:W.cell? ⟨w.heap.size,0,none⟩=some (.string ⟨#[]⟩):=Ja hrow
 have r1:W.cell? ⟨w.heap.size,1,none⟩=some (.int .i64 0):=Ja hrow
 have r2:W.cell? ⟨w.heap.size,2,none⟩=some (.pointer none):=Ja hrow
 have fR:∀j,W.frozen? ⟨w.heap.size,j,none⟩=false:=λj=>Qg _ _ _ _ _ hrow
 have HW:Hid (W=w.alloc (.cells #[.string ⟨#[]⟩,.int .i64 0,.pointer none] 148)):=hW
 have HR:Hid (W.heap[w.heap.size]? =_):=hrow
 have HA:Hid (Tch _ w W):=hA
 have hz:w.heap.size<W.heap.size:=(Jb hrow)
 simp only [bV,Jh,Option.map_none] at hlk ⊢
 clear h hk hW hrow hA hE
 have hGs:5<W.heap.size:=Qk (by decide) hsz
 clear hsz
 go_enter func74,ntmps74
 go_upto_region 1 with fail
 rw [<-HW.o]
 go_wp2_with fail
 refine (XC _ _ _ _).mono ?_
 rintro _ _ ⟨rfl,rfl⟩
 go_wp2
 rw [set3 _ _ _ _ _ _ _ _ _ HR.o]
 have t1:=Ts W w.heap.size #[.string ⟨#[]⟩,.int .i64 0,.pointer none]
 have hr:(W.setRow w.heap.size #[.string ⟨#[]⟩,.int .i64 0,.pointer none]).heap[w.heap.size]? =some (.cells #[.string ⟨#[]⟩,.int .i64 0,.pointer none] 148):=Qi _ _ _ _ _ _ HR.o
 have hws:(W.setRow w.heap.size #[.string ⟨#[]⟩,.int .i64 0,.pointer none]).heap.size=W.heap.size:=by simp [World.setRow]
 generalize W.setRow w.heap.size #[.string ⟨#[]⟩,.int .i64 0,.pointer none]=W1 at *
 have t2:=(Ta NoB W1 (.cells #[.string ⟨#[]⟩,.int .i64 0,.pointer none] 148))
 have t3:=Ta NoB (W1.alloc (.cells #[.string ⟨#[]⟩,.int .i64 0,.pointer none] 148)) (.cells #[.string ⟨#[104,101,105,103,104,116]⟩,eV E 5] 237)
 refine QJ (v:=.tuple #[.agg #[.string ⟨#[]⟩,.int .i64 0,.pointer none],.iface 235 (.pointer (some ⟨W.heap.size+1,0,none⟩))]) (Jj results74 _ _ w.heap.size _ _ (0,0) _ rfl (((t2.go t3).block _ (Jb hr) (λh=>h)).trans hr) underlying148 rfl (by kernel_rfl)) rfl ⟨_,_,rfl,?_,?_⟩
 ·refine .wrap (W.heap.size+1) ⟨#[104,101,105,103,104,116]⟩ (eV E 5) ?_ .base
  have:=Qf (W1.alloc (.cells #[.string ⟨#[]⟩,.int .i64 0,.pointer none] 148)) (.cells #[.string ⟨#[104,101,105,103,104,116]⟩,eV E 5] 237)
  rw [World.size_alloc,hws] at this
  exact this
 ·exact ((HA.o.trans t1 (λj hj=>.inr (by omega))).go t2).go t3
theorem Jdp (E:Nat->Addr) {w:World} (hE:Env E w) {cb wd fl r:Nat} {bs:List BV} {v:Value} (h:JI w cb wd fl r bs v) (k:Int):
  Calls prog 41 #[.pointer (some ⟨cb,0,none⟩),.int .i64 k] w λe w'=>Tch NoB w w'/\((∃n b,k=(n:Nat)/\bs[n]? =some b/\e=.returned (.tuple #[.string b.1,.nilIface]))\/(¬(0<=k/\k<bs.length)/\∃t u,e=.returned (.tuple #[.string ⟨#[]⟩,.iface t u])/\Jl E 5 w' (.iface t u))):=by
 by_cases hk:0<=k/\k<bs.length
 ·obtain ⟨n,rfl⟩:=Int.eq_ofNat_of_zero_le hk.1
  have hb:bs[n]? =some bs[n]:=Qd (by omega)
  have HAT:Hid (Calls _ _ _ _ _):=Jkw h n _ hb
  have HB:Hid (bs[n]? =some bs[n]):=hb
  generalize bs[n]=b at *
  obtain ⟨bh,bu,bq⟩:=b
  simp only [bV] at HAT
  obtain ⟨rv,hrv⟩:∃rv,Jh bq=.pointer rv:=⟨_,rfl⟩
  rw [hrv] at HAT
  clear hk hb hE h hrv
  go_enter func41,ntmps41
  go_wp2_with fail
  refine HAT.o.mono ?_
  rintro _ w2 ⟨rfl,ht⟩
  have HT:Hid (Tch _ w w2):=ht
  clear ht HAT
  go_wp2
  go_ret2
  exact ⟨HT.o.go (Ta _ _ _),.inl ⟨n,(bh,bu,bq),rfl,HB.o,rfl⟩⟩
 ·have HAT:Hid (Calls _ _ _ _ _):=Jib E hE h k hk
  have HK:Hid (¬(0<=k/\k<bs.length)):=hk
  simp only [bV,Jh,Option.map_none] at HAT
  clear hk hE h
  go_enter func41,ntmps41
  go_wp2_with fail
  refine HAT.o.mono ?_
  rintro _ w2 ⟨t,u,rfl,he,ht⟩
  have HT:Hid (Tch _ w w2):=ht
  have HV:Hid (Jl _ _ _ _):=he
  clear ht HAT he
  go_wp2
  go_ret2
  exact ⟨HT.o.go (Ta _ _ _),.inr ⟨HK.o,t,u,rfl,HV.o.tch (Ta NoB _ _) (λ_ _ _ _ h=>h)⟩⟩
