import Derived.Test.YtighkdnooglfjaaGreatDoorBxRot
import Derived.Lib.LaidTab
import Derived.Lib.ItoaNum
import Derived.Deep.RegionLaw
namespace Go.Proofs.YtighkdnooglfjaaGreatDoor
open Go.RowKit

theorem Qa:type_of% @List.setIfInBounds_toArray:=@List.setIfInBounds_toArray
theorem Qb:type_of% @List.set_cons_zero:=@List.set_cons_zero
theorem Qc:type_of% @List.set_cons_succ:=@List.set_cons_succ
theorem Qd:type_of% @List.getElem?_eq_getElem:=@List.getElem?_eq_getElem
theorem Qe:type_of% @List.length_append:=@List.length_append
theorem Qf:type_of% @heap_alloc_new:=@heap_alloc_new
theorem Qg:type_of% @frozen_of_row:=@frozen_of_row
theorem Qh:type_of% @Option.some.injEq:=@Option.some.injEq
theorem Qi:type_of% @setRow_heap:=@setRow_heap
theorem Qj:type_of% @setCell_eq_setRow:=@setCell_eq_setRow
theorem Qk:type_of% @Nat.lt_of_lt_of_le:=@Nat.lt_of_lt_of_le
theorem Ql:type_of% @Nat.le_refl:=@Nat.le_refl
theorem Qm:type_of% @Nat.le_trans:=@Nat.le_trans
theorem Qn:type_of% @List.getD_eq_getElem?_getD:=@List.getD_eq_getElem?_getD
theorem Qo:type_of% @List.getElem?_eq_some_iff:=@List.getElem?_eq_some_iff
theorem Qp:type_of% @List.length_cons:=@List.length_cons
theorem Qq:type_of% @results_cell_row:=@results_cell_row
theorem Qr:type_of% @World.block_lt_of_cell?:=@World.block_lt_of_cell?
theorem Qs:type_of% @List.append_assoc:=@List.append_assoc
theorem Qt:type_of% @List.mem_singleton:=@List.mem_singleton
theorem Qu:type_of% @Option.bind_some:=@Option.bind_some
theorem Qv:type_of% @List.length_nil:=@List.length_nil
theorem Qw:type_of% @Prod.mk.injEq:=@Prod.mk.injEq
theorem Qx:type_of% @List.getElem_mem:=@List.getElem_mem
theorem Qy:type_of% @Value.slice.injEq:=@Value.slice.injEq
theorem Qz:type_of% @List.getElem?_append_right:=@List.getElem?_append_right
theorem QA:type_of% @Array.length_toList:=@Array.length_toList
theorem QB:type_of% @List.length_take:=@List.length_take
theorem QC:type_of% @List.append_nil:=@List.append_nil
theorem QD:type_of% @List.not_mem_nil:=@List.not_mem_nil
theorem QE:type_of% @List.mem_append:=@List.mem_append
theorem QF:type_of% @List.getElem?_append_left:=@List.getElem?_append_left
theorem QG:type_of% @List.flatMap_cons:=@List.flatMap_cons
theorem QH:type_of% @List.cons.injEq:=@List.cons.injEq
theorem QI:type_of% @setRow_setRow:=@setRow_setRow
theorem QJ:type_of% @Array.getElem?_eq_some_iff:=@Array.getElem?_eq_some_iff
theorem QK:type_of% @bodyPost_ret:=@bodyPost_ret
theorem QL:type_of% @List.mem_map:=@List.mem_map
theorem QM:type_of% @List.length_map:=@List.length_map
theorem QN:type_of% @List.mem_cons_self:=@List.mem_cons_self
theorem QO:type_of% @List.mem_filter:=@List.mem_filter
theorem QP:type_of% @List.eq_nil_of_length_eq_zero:=@List.eq_nil_of_length_eq_zero
theorem QQ:type_of% @List.mem_cons_of_mem:=@List.mem_cons_of_mem
theorem QR:type_of% @List.take_succ_eq_append_getElem:=@List.take_succ_eq_append_getElem
theorem QS:type_of% @List.take_of_length_le:=@List.take_of_length_le
theorem QT:type_of% @List.mem_of_getElem?:=@List.mem_of_getElem?
abbrev BA:=ByteArray
theorem Ja {w:World} {g j:Nat} {cs:Array Value} {t:TypeId} {fr:Nat×Nat} (hg:w.heap[g]? =some (.cells cs t fr)):w.cell? ⟨g,j,none⟩=cs[j]? :=cell_of_row w g j cs t fr hg
theorem noE {α:Type} {P:α->Prop} (a:α) (h:False):P a:=h.elim
theorem Jb {α:Type} {a:Array α} {i:Nat} {x:α} (h:a[i]? =some x):i<a.size:=(Array.getElem?_eq_some_iff.1 h).1
theorem _root_.Go.RowKit.Hid.o {p:Prop} (h:Hid p):p:=h
abbrev NoB:Nat->Prop:=λ_=>False
structure Tch (S:Nat->Prop) (w w':World):Prop where
 os:w'.os=w.os
 tape:w'.tape=w.tape
 output:w'.output=w.output
 size:w.heap.size<=w'.heap.size
 block:∀k,k<w.heap.size->¬S k->w'.heap[k]? =w.heap[k]?
theorem Tch.refl (S:Nat->Prop) (w:World):Tch S w w:=⟨rfl,rfl,rfl,Nat.le_refl _,λ_ _ _=>rfl⟩
theorem Tch.trans {S S':Nat->Prop} {a b c:World} (h:Tch S a b) (k:Tch S' b c) (hs:∀j,S' j->S j\/a.heap.size<=j):Tch S a c:=
 ⟨k.os.trans h.os,k.tape.trans h.tape,k.output.trans h.output,Nat.le_trans h.size k.size,λj hj hn=>(k.block j (Nat.lt_of_lt_of_le hj h.size) (λhj'=>by rcases hs j hj' with h1 | h1;exact hn h1;omega)).trans (h.block j hj hn)⟩
theorem Tch.mono {S S':Nat->Prop} {a b:World} (h:Tch S a b) (hs:∀j,S j->S' j\/a.heap.size<=j):Tch S' a b:=
 ⟨h.os,h.tape,h.output,h.size,λj hj hn=>h.block j hj (λhj'=>by rcases hs j hj' with h1 | h1;exact hn h1;omega)⟩
theorem Tch.cell {S:Nat->Prop} {w w':World} (h:Tch S w w') {p:Addr} (hp:p.block<w.heap.size) (hn:¬S p.block):w'.cell? p=w.cell? p:=World.cell?_of_block (w:=w) (h.block p.block hp hn)
theorem Tch.of_below {B:Nat} {w w':World} (h:Below B w w'):Tch (λk=>B<=k) w w':=⟨h.os,h.tape,h.output,h.size,λk _ hn=>h.block k (by omega)⟩
theorem Tch.below {S:Nat->Prop} {w w':World} (h:Tch S w w') {B:Nat} (hB:B<=w.heap.size) (hs:∀j,S j->B<=j):Below B w w':=⟨h.os,h.tape,h.output,h.size,λk hk=>h.block k (by omega) (λhj=>by have:=hs k hj;omega)⟩
theorem Tch.alloc (S:Nat->Prop) (w:World) (o:Obj):Tch S w (w.alloc o):=⟨rfl,rfl,rfl,by simp,λk hk _=>Below.heap_alloc w o k hk⟩
theorem Tch.drewN (S:Nat->Prop) (w:World) (n:Nat):Tch S w (w.drewN n):=⟨rfl,rfl,rfl,Nat.le_refl _,λ_ _ _=>rfl⟩
theorem Tch.setRow (w:World) (g:Nat) (cs:Array Value):Tch (λk=>k=g) w (w.setRow g cs):=⟨rfl,rfl,rfl,by simp,λk _ hn=>setRow_other _ _ _ _ hn⟩
theorem Tch.grown {w w':World} {row:Option Nat} (h:w.grownBy w' row):Tch (λk=>some k=row) w w':=⟨h.os,h.tape,h.output,h.size,h.block⟩

theorem gPow:Tryz.prog.globalNamed "internal/strconv.uint64pow10" =some 15:=by kernel_rfl
structure Env (E:Nat->Addr) (w:World):Prop where
 size:18<=w.heap.size
 form:w.cell? ⟨7,0,none⟩=some (.iface 509 (.pointer (some (E 7))))
 tip:w.cell? ⟨0,0,none⟩=some (.iface 509 (.pointer (some (E 0))))
 input:w.cell? ⟨1,0,none⟩=some (.iface 509 (.pointer (some (E 1))))
 exist:w.cell? ⟨2,0,none⟩=some (.iface 509 (.pointer (some (E 2))))
 sum:w.cell? ⟨3,0,none⟩=some (.iface 509 (.pointer (some (E 3))))
 root:w.cell? ⟨4,0,none⟩=some (.iface 509 (.pointer (some (E 4))))
 range:w.cell? ⟨5,0,none⟩=some (.iface 509 (.pointer (some (E 5))))
 torn:w.cell? ⟨6,0,none⟩=some (.iface 509 (.pointer (some (E 6))))
 pow:Lib.TabIs Tryz.prog w "internal/strconv.uint64pow10" .u64 Lib.pow10Tab
 table:∀i,i<64->w.cell? ⟨13,i,none⟩=some (.int .u32 (Ks.getD i 0))
theorem Env.tch {E:Nat->Addr} {S:Nat->Prop} {w w':World} (h:Env E w) (k:Tch S w w') (hs:∀j,S j->18<=j):Env E w':=by
 have hc:∀b o,b<18->w'.cell? ⟨b,o,none⟩=w.cell? ⟨b,o,none⟩:=λb o hb=>k.cell (p:=⟨b,o,none⟩) (Nat.lt_of_lt_of_le hb h.size) (λhj=>by have:18<=b:=hs _ hj;omega)
 have hpow:Lib.TabIs Tryz.prog w' "internal/strconv.uint64pow10" .u64 Lib.pow10Tab:=by
  have hb:=k.block 15 (Nat.lt_of_lt_of_le (by decide) h.size) (λhj=>by have:=hs _ hj;omega)
  have:=h.pow
  unfold Lib.TabIs World.var? at this ⊢
  rw [gPow] at this ⊢
  simp only [Option.bind_some] at this ⊢
  rw [hb]
  exact this
 exact ⟨Nat.le_trans h.size k.size,(hc _ _ (by decide)).trans h.form,(hc _ _ (by decide)).trans h.tip,(hc _ _ (by decide)).trans h.input,(hc _ _ (by decide)).trans h.exist,(hc _ _ (by decide)).trans h.sum,(hc _ _ (by decide)).trans h.root,(hc _ _ (by decide)).trans h.range,(hc _ _ (by decide)).trans h.torn,hpow,λi hi=>(hc _ _ (by decide)).trans (h.table i hi)⟩
abbrev eV (E:Nat->Addr) (g:Nat):Value:=.iface 509 (.pointer (some (E g)))

inductive PS where
 | rd (pre rest:List UInt8)
 | wr (done:List UInt8)
def Jc (w:World) (b:Nat) (g:Option Nat) (wj:Int) (err:Value):PS->Prop
 | .rd pre rest=>g=none/\w.heap[b]? =some (.cells #[.iface 170 (.pointer (some ⟨b,0,none⟩)),.int .i64 wj,err,.string ⟨(pre++rest).toArray⟩,.int .i64 (pre.length:Int)] 174)
 | .wr done=>∃v,v.ownBlock=g/\Bs (b+1) w v (bc done)/\w.heap[b]? =some (.cells #[.iface 153 (.pointer (some ⟨b,0,none⟩)),.int .i64 wj,err,v] 161)
theorem Jc.lt {w:World} {b:Nat} {g:Option Nat} {wj:Int} {err:Value} {p:PS} (h:Jc w b g wj err p):b<w.heap.size:=by
 cases p with
 | rd q r=>exact (Jb h.2)
 | wr d=>obtain ⟨v,_,_,h⟩:=h;exact (Jb h)
theorem Jc.own {w:World} {b:Nat} {g:Option Nat} {wj:Int} {err:Value} {p:PS} (h:Jc w b g wj err p):∀k,g=some k->b<k/\k<w.heap.size:=by
 cases p with
 | rd q r=>intro k hk;rw [h.1] at hk;cases hk
 | wr d=>obtain ⟨v,rfl,hb,_⟩:=h;intro k hk;have:=hb.own k hk;omega
theorem Jc.tch {S:Nat->Prop} {w w':World} {b:Nat} {g:Option Nat} {wj:Int} {err:Value} {p:PS} (h:Jc w b g wj err p) (k:Tch S w w') (hb:¬S b) (hg:∀j,g=some j->¬S j):Jc w' b g wj err p:=by
 have hlt:=h.lt
 cases p with
 | rd q r=>exact ⟨h.1,(k.block b hlt hb).trans h.2⟩
 | wr d=>
  obtain ⟨v,hv,hbs,hrow⟩:=h
  refine ⟨v,hv,?_,(k.block b hlt hb).trans hrow⟩
  rcases hbs with hbs | ⟨gg,cap,rfl,h1,h2,h3,h4,h5,h6⟩
  ·exact .inl hbs
  ·have hbk:w'.heap[gg]? =w.heap[gg]? :=k.block gg h2 (hg gg (by rw [<-hv];rfl))
   refine .inr ⟨gg,cap,rfl,h1,Nat.lt_of_lt_of_le h2 k.size,h3,h4,λj u hu=>?_,λj hj=>?_⟩
   ·rw [World.cell?_of_block (a:=⟨gg,j,none⟩) hbk];exact h5 j u hu
   ·rw [World.cell?_of_block (a:=⟨gg,j,none⟩) hbk,World.frozen?_of_block (a:=⟨gg,j,none⟩) hbk];exact h6 j hj
def Jp (w:World) (g g':Option Nat):Prop:=g'=g\/∃k,g'=some k/\w.heap.size<=k
theorem Ta:type_of% @Tch.alloc:=@Tch.alloc
theorem Td:type_of% @Tch.drewN:=@Tch.drewN
theorem Ts:type_of% @Tch.setRow:=@Tch.setRow
theorem Te:type_of% @Tch.refl:=@Tch.refl
theorem Tg:type_of% @Tch.grown:=@Tch.grown
open Tryz
set_option maxRecDepth 100000
set_option maxHeartbeats 400000

theorem JjZ (l:List UInt8) (n:Nat):((⟨l.toArray⟩:BA).extract n (⟨l.toArray⟩:BA).size)=⟨(l.drop n).toArray⟩:=by
 apply ByteArray.ext
 have:(⟨l.toArray⟩:BA).size=l.length:=by simp [ByteArray.size]
 rw [this,ByteArray.data_extract]
 apply Array.ext'
 simp [List.extract_eq_take_drop]
 exact QS (by simp)
theorem Jj0 (l:List UInt8) (n:Nat):((⟨l.toArray⟩:BA).extract 0 n)=⟨(l.take n).toArray⟩:=by
 apply ByteArray.ext
 rw [ByteArray.data_extract]
 apply Array.ext'
 simp
theorem Jk (l:List UInt8):(⟨l.toArray⟩:BA).size=l.length:=by simp [ByteArray.size]

theorem Jlb (l:List UInt8) (a b:Nat):((⟨l.toArray⟩:BA).extract a b)=⟨((l.take b).drop a).toArray⟩:=by
 apply ByteArray.ext
 rw [ByteArray.data_extract]
 apply Array.ext'
 simp [List.extract_eq_take_drop,List.drop_take]

theorem JjE (b:Nat) (wj:Int) (err:Value) (pre rest:List UInt8) (k:Nat) (w:World) (hp:Jc w b none wj err (.rd pre rest)) (hk:k<=pre.length):
  Calls prog 384 #[.pointer (some ⟨b,0,none⟩),.int .i64 (k:Int)] w λe w'=>e=.returned (.string ⟨(pre.drop k).toArray⟩)/\∃n,w'=w.drewN n:=by
 have hrow:=hp.2
 have c3:w.cell? ⟨b,3,none⟩=some (.string ⟨(pre++rest).toArray⟩):=Ja hrow
 have c4:w.cell? ⟨b,4,none⟩=some (.int .i64 (pre.length:Int)):=Ja hrow
 have hsz:pre.length<=(⟨(pre++rest).toArray⟩:BA).size:=by rw [Jk,Qe];omega
 have hx:(⟨(pre++rest).toArray⟩:BA).extract k pre.length=⟨(pre.drop k).toArray⟩:=by rw [Jlb,List.take_left'];rfl
 clear hp hrow
 generalize (⟨(pre.drop k).toArray⟩:BA)=rt at *
 generalize (⟨(pre++rest).toArray⟩:BA)=r at *
 generalize pre.length=n at *
 go_enter func384,ntmps384
 go_wp2
 go_region
 all_goals go_wp2
 all_goals go_ret
 all_goals exact ⟨rfl,1,rfl⟩


theorem JcI (E:Nat->Addr) (b:Nat) (wj:Int) (err x:Value) (pre rest:List UInt8) (n:Nat) (w:World) (hE:Env E w) (hp:Jc w b none wj err (.rd pre rest)) (hb:pre.length+rest.length<=10000000000000) (hn:rest.length<n):
  Calls prog 385 #[.pointer (some ⟨b,0,none⟩),x,.int .i64 (n:Int)] w λe w'=>e=.returned (.tuple #[.string ⟨#[]⟩,eV E 7])/\∃k,w'=w.drewN k:=by
 have hrow:=hp.2
 have c3:w.cell? ⟨b,3,none⟩=some (.string ⟨(pre++rest).toArray⟩):=Ja hrow
 have c4:w.cell? ⟨b,4,none⟩=some (.int .i64 (pre.length:Int)):=Ja hrow
 have hf:=hE.form
 have hsz:(⟨(pre++rest).toArray⟩:BA).size=pre.length+rest.length:=by rw [Jk,Qe]
 clear hp hE hrow
 generalize (⟨(pre++rest).toArray⟩:BA)=r at *
 have hlt:(r.size:Int) - (pre.length:Int)<(n:Int):=by omega
 have hwr:IntKind.i64.wrap ((r.size:Int) - (pre.length:Int))=(r.size:Int) - (pre.length:Int):=by simp [IntKind.wrap,IntKind.bits,IntKind.signed];omega
 clear hsz hn
 generalize pre.length=m at *
 go_enter func385,ntmps385
 go_wp2
 go_region
 all_goals go_wp2
 all_goals go_region
 all_goals go_wp2
 all_goals go_ret2
 all_goals exact ⟨rfl,2,rfl⟩

theorem JjD {w:World} {b:Nat} {wj:Int} {err:Value} {pre rest:List UInt8} (n:Nat) (hp:Jc w b none wj err (.rd pre rest)) (hn:n<=rest.length):
  Jc (w.setCell ⟨b,4,none⟩ (.int .i64 ((pre.length:Int)+(n:Int)))) b none wj err (.rd (pre++rest.take n) (rest.drop n))/\Tch (λk=>k=b) w (w.setCell ⟨b,4,none⟩ (.int .i64 ((pre.length:Int)+(n:Int)))):=by
 have hrow:=hp.2
 have h1:=Qj w b 4 _ _ (0,0) (.int .i64 ((pre.length:Int)+(n:Int))) hrow
 have r1:=Qi w b _ (#[.iface 170 (.pointer (some ⟨b,0,none⟩)),.int .i64 wj,err,.string ⟨(pre++rest).toArray⟩,.int .i64 (pre.length:Int)].setIfInBounds 4 (.int .i64 ((pre.length:Int)+(n:Int)))) _ _ hrow
 rw [h1]
 refine ⟨⟨rfl,?_⟩,Ts _ _ _⟩
 rw [r1,Qs,List.take_append_drop]
 have:((pre++rest.take n).length:Int)=(pre.length:Int)+(n:Int):=by rw [Qe,QB];omega
 rw [this]
 rfl
theorem JcJ (b:Nat) (wj:Int) (err x:Value) (pre rest:List UInt8) (n:Nat) (w:World) (hp:Jc w b none wj err (.rd pre rest)) (hb:pre.length+rest.length<=10000000000000) (hn:n<=rest.length):
  Calls prog 385 #[.pointer (some ⟨b,0,none⟩),x,.int .i64 (n:Int)] w λe w'=>e=.returned (.tuple #[.string ⟨(rest.take n).toArray⟩,.nilIface])/\Jc w' b none wj err (.rd (pre++rest.take n) (rest.drop n))/\Tch (λk=>k=b) w w':=by
 have hrow:=hp.2
 have c3:w.cell? ⟨b,3,none⟩=some (.string ⟨(pre++rest).toArray⟩):=Ja hrow
 have c4:w.cell? ⟨b,4,none⟩=some (.int .i64 (pre.length:Int)):=Ja hrow
 have f4:w.frozen? ⟨b,4,none⟩=false:=Qg _ _ _ _ _ hrow
 have hsz:(⟨(pre++rest).toArray⟩:BA).size=pre.length+rest.length:=by rw [Jk,Qe]
 obtain ⟨q1,q2⟩:=JjD n hp hn
 have HS:Hid (∀k:Nat,Calls prog 384 #[.pointer (some ⟨b,0,none⟩),.int .i64 (pre.length:Int)] ((w.drewN k).setCell ⟨b,4,none⟩ (.int .i64 ((pre.length:Int)+(n:Int)))) λe w'=>e=.returned (.string ⟨(rest.take n).toArray⟩)/\∃m,w'=((w.drewN k).setCell ⟨b,4,none⟩ (.int .i64 ((pre.length:Int)+(n:Int)))).drewN m):=λk=>by
  have:=JjE b wj err (pre++rest.take n) (rest.drop n) pre.length ((w.drewN k).setCell ⟨b,4,none⟩ (.int .i64 ((pre.length:Int)+(n:Int)))) (JjD (w:=w.drewN k) n hp hn).1 (by rw [Qe];omega)
  rw [List.drop_left'] at this
  ·exact this
  ·rfl
 have Q1:Hid (∀k:Nat,Jc ((w.drewN k).setCell ⟨b,4,none⟩ (.int .i64 ((pre.length:Int)+(n:Int)))) b none wj err (.rd (pre++rest.take n) (rest.drop n))/\Tch (λk=>k=b) (w.drewN k) ((w.drewN k).setCell ⟨b,4,none⟩ (.int .i64 ((pre.length:Int)+(n:Int))))):=λk=>JjD (w:=w.drewN k) n hp hn
 clear hp hrow q1 q2
 generalize (⟨(rest.take n).toArray⟩:BA)=rt at *
 generalize (⟨(pre++rest).toArray⟩:BA)=r at *
 have hlt:¬(r.size:Int) - (pre.length:Int)<(n:Int):=by omega
 have hwr:IntKind.i64.wrap ((r.size:Int) - (pre.length:Int))=(r.size:Int) - (pre.length:Int):=by simp [IntKind.wrap,IntKind.bits,IntKind.signed];omega
 have hws:IntKind.i64.wrap ((pre.length:Int)+(n:Int))=(pre.length:Int)+(n:Int):=by simp [IntKind.wrap,IntKind.bits,IntKind.signed];omega
 clear hsz
 generalize hm:(pre.length:Int)=m at *
 have HM:Hid (_=m):=hm
 clear hm
 go_enter func385,ntmps385
 go_wp2
 go_region
 go_wp2_with fail
 refine (HS.o 1).mono ?_
 rintro _ _ ⟨rfl,k,rfl⟩
 obtain ⟨q1,q2⟩:=Q1.out 1
 have R1:Hid (Jc _ _ _ _ _ _):=q1
 have R2:Hid (Tch _ _ _):=q2
 clear q1 q2 HS Q1
 go_wp2
 go_ret2
 exact ⟨rfl,R1.o,((Td _ w 1).trans R2.o (λj h=>.inl h)).trans (Td NoB _ k) (λj h=>h.elim)⟩
theorem Jia (s:BA) (k:Nat) (h:k<s.size):s.data.toList.take (k+1)=s.data.toList.take k++[s[k]]:=by
 rw [QR (by simpa using h)];rfl
def numL (l:List UInt8):Nat:=l.foldl (λn c=>n * 256+c.toNat) 0
theorem Zi (l:List UInt8) (c:UInt8):numL (l++[c])=numL l * 256+c.toNat:=by simp [numL]
theorem JiP (l:List UInt8):∀a:Nat,l.foldl (λn c=>n * 256+c.toNat) a<(a+1) * 256 ^ l.length:=by
 induction l with
 | nil=>intro a;simp
 | cons c l ih=>
  intro a
  have hc:c.toNat<256:=UInt8.toNat_lt c
  have h1:=ih (a * 256+c.toNat)
  rw [List.foldl_cons,Qp,Nat.pow_succ]
  have h2:(a * 256+c.toNat+1) * 256 ^ l.length<=((a+1) * 256) * 256 ^ l.length:=Nat.mul_le_mul_right _ (by omega)
  have h3:(a+1) * (256 ^ l.length * 256)=((a+1) * 256) * 256 ^ l.length:=by rw [Nat.mul_comm (256 ^ l.length) 256,Nat.mul_assoc]
  omega
theorem Ja0 (l:List UInt8):numL l<256 ^ l.length:=by have:=JiP l 0;simpa [numL] using this
theorem JF (x:Int) (h0:0<=x) (h:x<18446744073709551616):IntKind.u64.wrap x=x:=by
 simp [IntKind.wrap,IntKind.bits,IntKind.signed];omega
theorem JkY (x:Nat) (c:UInt8) (hx:x<72057594037927936):bits .or .u64 ((x:Int) * 256) (IntKind.u64.wrap (c.toNat:Int))=((x * 256+c.toNat:Nat):Int):=by
 have hc:c.toNat<256:=UInt8.toNat_lt c
 have e1:(x:Int) * 256=((x * 256:Nat):Int):=by omega
 rw [e1,JF _ (by omega) (by omega),u64_or_nat _ _ (by omega) (by omega),nat_join 8 (x * 256) c.toNat (by omega) (by omega)]

theorem Jeq (E:Nat->Addr) (b:Nat) (wj:Int) (err x:Value) (pre rest:List UInt8) (n:Nat) (w:World) (hE:Env E w) (hp:Jc w b none wj err (.rd pre rest)) (hb:pre.length+rest.length<=10000000000000) (hn:rest.length<n):
  Calls prog 382 #[.pointer (some ⟨b,0,none⟩),x,.int .i64 (n:Int)] w λe w'=>e=.returned (.tuple #[.int .u64 0,eV E 7])/\∃k,w'=w.drewN k:=by
 go_enter func382,ntmps382
 go_wp2_with fail
 refine (JcI E b wj err _ pre rest n _ hE hp hb hn).mono ?_
 rintro _ w1 ⟨rfl,k,rfl⟩
 clear hE hp
 go_wp2
 go_loop [10,20] (λa i=>a=.int .u64 0/\i=.int .i64 0) (λ_ _=>0)
 case atStart=>exact ⟨rfl,rfl⟩
 case round=>
  obtain ⟨rfl,rfl⟩:=hrel
  go_wp2
  go_ret2
  exact ⟨rfl,k,rfl⟩

theorem Jer (b:Nat) (wj:Int) (err x:Value) (pre rest:List UInt8) (n:Nat) (w:World) (hp:Jc w b none wj err (.rd pre rest)) (hb:pre.length+rest.length<=10000000000000) (hn:n<=rest.length) (h8:n<=8):
  Calls prog 382 #[.pointer (some ⟨b,0,none⟩),x,.int .i64 (n:Int)] w λe w'=>e=.returned (.tuple #[.int .u64 (numL (rest.take n):Int),.nilIface])/\Jc w' b none wj err (.rd (pre++rest.take n) (rest.drop n))/\Tch (λk=>k=b) w w':=by
 go_enter func382,ntmps382
 go_wp2_with fail
 refine (JcJ b wj err _ pre rest n _ hp hb hn).mono ?_
 rintro _ W1 ⟨rfl,hp1,ht1⟩
 have HP1:Hid (Jc _ _ _ _ _ _):=hp1
 have HT1:Hid (Tch _ _ _):=ht1
 clear hp hp1 ht1
 have hl:(rest.take n).length=n:=by rw [QB];omega
 have hsz:(⟨(rest.take n).toArray⟩:BA).size=n:=by rw [Jk,hl]
 have HB:Hid (∀k (h:k<(⟨(rest.take n).toArray⟩:BA).size),(rest.take n).take (k+1)=(rest.take n).take k++[(⟨(rest.take n).toArray⟩:BA)[k]]):=λk h=>Jia ⟨(rest.take n).toArray⟩ k h
 generalize hL:rest.take n=l at *
 have HL:Hid (_=l):=hL
 clear hL
 generalize (⟨l.toArray⟩:BA)=r at *
 go_wp2
 go_loop [10,20] (λa i=>∃k:Nat,k<=n/\a=.int .u64 (numL (l.take k):Int)/\i=.int .i64 k) (λ_ i=>n - (intOf i).toNat)
 case atStart=>exact ⟨0,by omega,rfl,rfl⟩
 case round=>
  obtain ⟨k,hk,rfl,rfl⟩:=hrel
  by_cases hlt:k<n
  ·have hlt2:k<r.size:=by omega
   have hx:numL (l.take k)<72057594037927936:=by
    have h1:=Ja0 (l.take k)
    have h2:256 ^ (l.take k).length<=256 ^ 7:=Nat.pow_le_pow_right (by decide) (by rw [QB];omega)
    omega
   have ho:=JkY (numL (l.take k)) r[k] hx
   have HN:Hid (numL (l.take (k+1))=numL (l.take k) * 256+r[k].toNat):=by
    show _=_
    rw [HB.o k hlt2,Zi]
   have HO:Hid (_=_):=ho
   clear ho
   generalize numL (l.take k)=x at *
   go_wp2
   exact ⟨⟨k+1,by omega,by rw [HO.o,HN.o],by go_num⟩,by simp [intOf];omega⟩
  ·have HK:Hid (l.take k=l):=QS (by omega)
   go_wp2
   go_ret2
   exact ⟨congrArg (λl:List UInt8=>Ending.returned (.tuple #[.int .u64 (numL l:Int),.nilIface])) (HK.o.trans HL.o.symm),by rw [<-HL.o] at HP1;exact HP1.o,HT1.o⟩
theorem Jc0 {P:Program} {base:Nat} {ops:Array Oper} {o:Oper} {a:Act} {w:World} {K:Act->World->Prop} {Q:Exit->Act->World->Prop} {E:Prop}
  (hgd:o.guard=none) (s x:Operand) (t tx e:TypeId) (ho:o.op=.call { callee:=.builtin .append,args:= #[s,x],argTypes:= #[t,tx] })
  (i:TypeInfo) (z:Value) (ht:P.underlying t=some (.slice e)) (hi:P.info? e=some i) (hz:i.zero=some z) (hsize:i.size=1) (hby:i.bytes=1) (hzs:z.cells.size=1)
  {v:Value} {xs:List Value} (hv:a.eval s=v) (h:Bs base w v xs)
  (xv:Value) (n:Nat) (news:List Value) (hx:a.eval x=xv) (hs:Src P 1 tx xv n news w) (h63:xs.length+n<=140737488355328) (hbase:base<=w.heap.size)
  (hK:∀v' w',Bs base w' v' (xs++news)->w.grownBy w' v.ownBlock->(v'.ownBlock=v.ownBlock\/∃k,v'.ownBlock=some k/\w.heap.size<=k)->K (a.put o.dst v') w'):
  if Region.wanted o (yielded ops a.tmps)=true then Oper.wp P o a w K Q else E:=by
 have hw:Region.wanted o (yielded ops a.tmps)=true:=by simp [Region.wanted,hgd]
 rw [if_pos hw]
 obtain ⟨v',w',hrun,r,r2,r3⟩:=Jat (P:=P) h t tx o.type e i z ht hi hz hsize hby hzs xv n news hs h63 hbase
 unfold Oper.wp
 simp [execOp,ho,resolve,invoke,builtin,hv,hx,hrun,Result.andThen]
 exact hK v' w' r r2 r3
