import Derived.Test.YtighkdnooglfjaaGreatDoorLcComp
import Derived.Lib.LaidTab
import Derived.Lib.ItoaNum
import Derived.Shelf.Strconv.Clone
import Derived.Shelf.Strings.Repeat
namespace Go.Proofs.YtighkdnooglfjaaGreatDoor
open Tryz
set_option maxRecDepth 100000
set_option maxHeartbeats 1000000
open Go.RowKit

variable {wj:Int}{l:List (Nat×Nat)}{B B' b:Nat}{S S':Nat->Prop}{g:Option Nat}{α:Type}{err v:Value}{a w w':World}
def digL(l:List UInt8):List UInt8:=(asB (shaS l) 32).map λx=>UInt8.ofNat x.toNat
theorem JeX(x:Int)(j:Nat):0<=JcY x j/\JcY x j<256:=⟨Int.emod_nonneg _ (by omega),Int.emod_lt_of_pos _ (by omega)⟩
theorem JiM(s:S8)(k:Nat):∀x∈asB s k,0<=x/\x<256:=by
 induction k with
 | zero=>intro x hx;cases hx
 | succ k ih=>
  intro x hx;simp only[asB,List.mem_append,List.mem_singleton]at hx
  rcases hx with hx|rfl
  ·exact ih x hx
  ·exact JeX _ _
theorem Jcm(l:List UInt8):(digL l).length=32:=by simp[digL,Zo]
theorem Jg9(L:List Int)(j:Nat)(hr:∀x∈L,0<=x/\x<256)(h:j<(L.map λx=>UInt8.ofNat x.toNat).length):(arr8 L)[j]? =some (.int .u8 ((L.map λx=>UInt8.ofNat x.toNat)[j].toNat:Int)):=by
 have hj':j<L.length:=by simpa using h
 rw[Jkx _ _ hj'];have hr:=hr _ (List.getElem_mem hj');simp only[List.getElem_map,List.getD_eq_getElem?_getD,List.getElem?_eq_getElem hj',Option.getD_some,UInt8.toNat_ofNat']
 congr 2
 omega
theorem JiU(l:List UInt8)(j:Nat)(h:j<(digL l).length):(arr8 (asB (shaS l) 32))[j]? =some (.int .u8 ((digL l)[j].toNat:Int)):=
 Jg9 (asB (shaS l) 32) j (JiM _ _) h

theorem Jll(n:Nat)(s:ByteArray)(w:World)(h1:1<=n)(h32:n<=32)(hs:s.size<1152921504606846976)(h7:13<w.heap.size)(hT:∀i,i<64->w.cell? ⟨13,i,none⟩=some (.int .u32 (Ks.getD i 0))):
  Calls prog 130 #[.int .i64 (n:Int),.string s] w λe w'=>e=.returned (.string ⟨((digL s.data.toList).take n).toArray⟩)/\Below w.heap.size w w':=by
 have HT:Hid _:=hT;go_enter func130,ntmps130;go_wp2_with fail;refine(JmS s _ hs h7 HT.out).mono ?_;rintro _ w1⟨rfl,hB⟩;have hA32:(arr8 (asB (shaS s.data.toList) 32)).size=32:=JbY _ (by rw[Zo];omega);have hA1:(arr8 (asB (shaS s.data.toList) 32)).all (·.oneCell')=true:=JcW _;have HC:Hid (∀j (hj:j<(digL s.data.toList).length),_):=λj hj=>JiU _ j hj;generalize arr8 (asB (shaS s.data.toList) 32)=A at *;have hi:(prog.info? 335).map (·.size)=some A.size:=by rw[hA32];kernel_rfl
 have hBc:∀o,Below w.heap.size w ((w1.alloc o).setRow w1.heap.size A):=λo=>XO (hB.alloc hB.size _) hB.size _;have hconv:∀C,(convert 52 9 (.slice (some ⟨w1.heap.size,0,none⟩) n 32)).run prog ((w1.alloc (.cells C 335)).setRow w1.heap.size A)=.ok (.string ⟨((digL s.data.toList).take n).toArray⟩) ((w1.alloc (.cells C 335)).setRow w1.heap.size A):=by
  intro C;have hrow:((w1.alloc (.cells C 335)).setRow w1.heap.size A).heap[w1.heap.size]? =some (.cells A 335):=setRow_heap _ _ _ _ _ _ (heap_alloc_new _ _);have hl:((digL s.data.toList).take n).length=n:=by rw[List.length_take,Jcm];omega
  have:=run_convert_bytes_back (P:=prog) ((w1.alloc (.cells C 335)).setRow w1.heap.size A) 52 9 5 ⟨w1.heap.size,0,none⟩ 32 ((digL s.data.toList).take n) underlying52 underlying5 underlying9 (λj hj=>by
   rw[Addr.add_lit,Nat.zero_add,cell_of_row _ _ _ _ _ _ hrow];have hj2:j<(digL s.data.toList).length:=(by rw[List.length_take]at hj;omega);rw[HC.out j hj2];simp)
  rw[hl]at this;exact this
 have h32i:(n:Int)<=32:=by omega
 have h32:¬32=0:=by omega
 go_wp2_with (refine wpList_store_row rfl 335 _ _ rfl w1.heap.size A rfl rfl 335 _ (heap_alloc_new _ _) hi (by rw[hA32];rfl) hA1 ?_)
 all_goals go_ret
 all_goals exact⟨rfl,hBc _⟩

theorem ZI(n:Nat)(w:World)(h1:1<=n)(h32:n<=32):
  Calls prog 124 #[.int .i64 (n:Int)] w λe w'=>e=.returned .nilIface/\w=w':=by
 have a1:¬(n:Int)<1:=by omega
 have a2:¬(32:Int)<(n:Int):=by omega
 go_enter func124,ntmps124;go_wp2;go_ret;exact⟨rfl,rfl⟩
theorem JiV(n:Nat)(s:ByteArray)(w:World)(h1:1<=n)(h32:n<=32)(hs:s.size<1152921504606846976)(h7:13<w.heap.size)(hT:∀i,i<64->w.cell? ⟨13,i,none⟩=some (.int .u32 (Ks.getD i 0))):
  Calls prog 73 #[.int .i64 (n:Int),.string s] w λe w'=>e=.returned (.tuple #[.string ⟨((digL s.data.toList).take n).toArray⟩,.int .i64 0])/\Below w.heap.size w w':=by
 have HT:Hid _:=hT;go_enter func73,ntmps73;go_wp2_with fail;refine(ZI n _ h1 h32).mono ?_;rintro _ _⟨rfl,rfl⟩;go_wp2_with fail;refine(Jll n s _ h1 h32 hs h7 HT).mono ?_;rintro _ w1⟨rfl,hB⟩;go_wp2;go_ret2;exact⟨rfl,hB⟩

theorem Qa:type_of% @List.setIfInBounds_toArray:=@List.setIfInBounds_toArray
theorem Qb:type_of% @List.set_cons_zero:=@List.set_cons_zero
theorem Qc:type_of% @List.set_cons_succ:=@List.set_cons_succ
theorem Qd:type_of% @List.getElem?_eq_getElem:=@List.getElem?_eq_getElem
theorem Qe:type_of% @List.length_append:=@List.length_append
theorem Qf:type_of% @heap_alloc_new:=@heap_alloc_new
theorem Qg:type_of% @frozen_of_row:=@frozen_of_row
theorem Qh:type_of% @Option.some.injEq:=@Option.some.injEq
theorem Qi:type_of% @setRow_heap:=@setRow_heap
theorem Qj:type_of% @setCell_eq_setRow:=@setCell_eq_setRow
theorem Qk:type_of% @Nat.lt_of_lt_of_le:=@Nat.lt_of_lt_of_le
theorem Ql:type_of% @Nat.le_refl:=@Nat.le_refl
theorem Qm:type_of% @Nat.le_trans:=@Nat.le_trans
theorem Qn:type_of% @List.getD_eq_getElem?_getD:=@List.getD_eq_getElem?_getD
theorem Qo:type_of% @List.getElem?_eq_some_iff:=@List.getElem?_eq_some_iff
theorem Qp:type_of% @List.length_cons:=@List.length_cons
theorem Qq:type_of% @results_cell_row:=@results_cell_row
theorem Qr:type_of% @World.block_lt_of_cell?:=@World.block_lt_of_cell?
theorem Qs:type_of% @List.append_assoc:=@List.append_assoc
theorem Qt:type_of% @List.mem_singleton:=@List.mem_singleton
theorem Qu:type_of% @Option.bind_some:=@Option.bind_some
theorem Qv:type_of% @List.length_nil:=@List.length_nil
theorem Qw:type_of% @Prod.mk.injEq:=@Prod.mk.injEq
theorem Qx:type_of% @List.getElem_mem:=@List.getElem_mem
theorem Qy:type_of% @Value.slice.injEq:=@Value.slice.injEq
theorem Qz:type_of% @List.getElem?_append_right:=@List.getElem?_append_right
theorem QA:type_of% @Array.length_toList:=@Array.length_toList
theorem QB:type_of% @List.length_take:=@List.length_take
theorem QC:type_of% @List.append_nil:=@List.append_nil
theorem QD:type_of% @List.not_mem_nil:=@List.not_mem_nil
theorem QE:type_of% @List.mem_append:=@List.mem_append
theorem QF:type_of% @List.getElem?_append_left:=@List.getElem?_append_left
theorem QG:type_of% @List.flatMap_cons:=@List.flatMap_cons
theorem QH:type_of% @List.cons.injEq:=@List.cons.injEq
theorem QI:type_of% @setRow_setRow:=@setRow_setRow
theorem QJ:type_of% @bodyPost_ret:=@bodyPost_ret
theorem QK:type_of% @List.mem_map:=@List.mem_map
theorem QL:type_of% @List.length_map:=@List.length_map
theorem QM:type_of% @List.mem_cons_self:=@List.mem_cons_self
theorem QN:type_of% @List.mem_filter:=@List.mem_filter
theorem QO:type_of% @List.eq_nil_of_length_eq_zero:=@List.eq_nil_of_length_eq_zero
theorem QP:type_of% @List.mem_cons_of_mem:=@List.mem_cons_of_mem
theorem QQ:type_of% @List.take_succ_eq_append_getElem:=@List.take_succ_eq_append_getElem
theorem QR:type_of% @List.take_of_length_le:=@List.take_of_length_le
theorem QS:type_of% @List.mem_of_getElem?:=@List.mem_of_getElem?
abbrev BA:=ByteArray
theorem Ja{g j:Nat}{cs:Array Value}{t:TypeId}{fr:Nat×Nat}(hg:w.heap[g]? =some (.cells cs t fr)):w.cell? ⟨g,j,none⟩=cs[j]? :=cell_of_row w g j cs t fr hg
theorem noE{P:α->Prop}(a:α)(h:False):P a:=h.elim
theorem Jb{a:Array α}{i:Nat}{x:α}(h:a[i]? =some x):i<a.size:=(Array.getElem?_eq_some_iff.1 h).1
theorem _root_.Go.RowKit.Hid.o{p:Prop}(h:Hid p):p:=h
abbrev NoB:Nat->Prop:=λ_=>False
structure Tch(S:Nat->Prop)(w w':World):Prop where
 os:w'.os=w.os
 tape:w'.tape=w.tape
 output:w'.output=w.output
 size:w.heap.size<=w'.heap.size
 block:∀k,k<w.heap.size->¬S k->w'.heap[k]? =w.heap[k]?
theorem Tch.refl(S:Nat->Prop)(w:World):Tch S w w:=⟨rfl,rfl,rfl,Nat.le_refl _,λ_ _ _=>rfl⟩
theorem Tch.trans{b c:World}(h:Tch S a b)(k:Tch S' b c)(hs:∀j,S' j->S j\/a.heap.size<=j):Tch S a c:=
 ⟨k.os.trans h.os,k.tape.trans h.tape,k.output.trans h.output,Nat.le_trans h.size k.size,λj hj hn=>(k.block j (Nat.lt_of_lt_of_le hj h.size) (λhj'=>by rcases hs j hj' with h1|h1;exact hn h1;omega)).trans (h.block j hj hn)⟩
theorem Tch.mono{b:World}(h:Tch S a b)(hs:∀j,S j->S' j\/a.heap.size<=j):Tch S' a b:=
 ⟨h.os,h.tape,h.output,h.size,λj hj hn=>h.block j hj (λhj'=>by rcases hs j hj' with h1|h1;exact hn h1;omega)⟩
theorem Tch.cell(h:Tch S w w'){p:Addr}(hp:p.block<w.heap.size)(hn:¬S p.block):w'.cell? p=w.cell? p:=World.cell?_of_block (w:=w) (h.block p.block hp hn)
theorem Tch.of_below(h:Below B w w'):Tch (λk=>B<=k) w w':=⟨h.os,h.tape,h.output,h.size,λk _ hn=>h.block k (by omega)⟩
theorem Tch.below(h:Tch S w w')(hB:B<=w.heap.size)(hs:∀j,S j->B<=j):Below B w w':=⟨h.os,h.tape,h.output,h.size,λk hk=>h.block k (by omega) (λhj=>by have:=hs k hj;omega)⟩
theorem Tch.alloc(S:Nat->Prop)(w:World)(o:Obj):Tch S w (w.alloc o):=⟨rfl,rfl,rfl,by simp,λk hk _=>Below.heap_alloc w o k hk⟩
theorem Tch.drewN(S:Nat->Prop)(w:World)(n:Nat):Tch S w (w.drewN n):=⟨rfl,rfl,rfl,Nat.le_refl _,λ_ _ _=>rfl⟩
theorem Tch.setRow(w:World)(g:Nat)(cs:Array Value):Tch (λk=>k=g) w (w.setRow g cs):=⟨rfl,rfl,rfl,by simp,λk _ hn=>setRow_other _ _ _ _ hn⟩
theorem Tch.grown{w w':World}{row:Option Nat}(h:w.grownBy w' row):Tch (λk=>some k=row) w w':=⟨h.os,h.tape,h.output,h.size,h.block⟩

theorem gPow:Tryz.prog.globalNamed "internal/strconv.uint64pow10" =some 15:=by kernel_rfl
structure Env(E:Nat->Addr)(w:World):Prop where
 size:18<=w.heap.size
 form:w.cell? ⟨7,0,none⟩=some (.iface 509 (.pointer (some (E 7))))
 tip:w.cell? ⟨0,0,none⟩=some (.iface 509 (.pointer (some (E 0))))
 input:w.cell? ⟨1,0,none⟩=some (.iface 509 (.pointer (some (E 1))))
 exist:w.cell? ⟨2,0,none⟩=some (.iface 509 (.pointer (some (E 2))))
 sum:w.cell? ⟨3,0,none⟩=some (.iface 509 (.pointer (some (E 3))))
 root:w.cell? ⟨4,0,none⟩=some (.iface 509 (.pointer (some (E 4))))
 range:w.cell? ⟨5,0,none⟩=some (.iface 509 (.pointer (some (E 5))))
 torn:w.cell? ⟨6,0,none⟩=some (.iface 509 (.pointer (some (E 6))))
 pow:Lib.TabIs Tryz.prog w "internal/strconv.uint64pow10" .u64 Lib.pow10Tab
 table:∀i,i<64->w.cell? ⟨13,i,none⟩=some (.int .u32 (Ks.getD i 0))
theorem Env.tch{E:Nat->Addr}(h:Env E w)(k:Tch S w w')(hs:∀j,S j->18<=j):Env E w':=by
 have hc:∀b o,b<18->w'.cell? ⟨b,o,none⟩=w.cell? ⟨b,o,none⟩:=λb o hb=>k.cell (p:=⟨b,o,none⟩) (Nat.lt_of_lt_of_le hb h.size) (λhj=>by have:18<=b:=hs _ hj;omega);have hpow:Lib.TabIs Tryz.prog w' "internal/strconv.uint64pow10" .u64 Lib.pow10Tab:=by have hb:=k.block 15 (Nat.lt_of_lt_of_le (by decide) h.size) (λhj=>by have:=hs _ hj;omega);have:=h.pow;unfold Lib.TabIs World.var? at this ⊢;rw[gPow]at this ⊢;simp only[Option.bind_some]at this ⊢;rw[hb];exact this
 exact⟨Nat.le_trans h.size k.size,(hc _ _ (by decide)).trans h.form,(hc _ _ (by decide)).trans h.tip,(hc _ _ (by decide)).trans h.input,(hc _ _ (by decide)).trans h.exist,(hc _ _ (by decide)).trans h.sum,(hc _ _ (by decide)).trans h.root,(hc _ _ (by decide)).trans h.range,(hc _ _ (by decide)).trans h.torn,hpow,λi hi=>(hc _ _ (by decide)).trans (h.table i hi)⟩
abbrev eV(E:Nat->Addr)(g:Nat):Value:=.iface 509 (.pointer (some (E g)))

structure PS where
 of ::
 v:(List UInt8×List UInt8) ⊕ List UInt8
abbrev PS.rd(pre rest:List UInt8):PS:=⟨.inl (pre,rest)⟩
abbrev PS.wr(done:List UInt8):PS:=⟨.inr done⟩
theorem PS.on{motive:PS->Prop}(rd:∀pre rest,motive (.rd pre rest))(wr:∀done,motive (.wr done)):∀p,motive p
 | ⟨.inl (a,b)⟩=>rd a b
 | ⟨.inr d⟩=>wr d
def Jc(w:World)(b:Nat)(g:Option Nat)(wj:Int)(err:Value):PS->Prop
 | ⟨.inl (pre,rest)⟩=>g=none/\w.heap[b]? =some (.cells #[.iface 170 (.pointer (some ⟨b,0,none⟩)),.int .i64 wj,err,.string ⟨(pre++rest).toArray⟩,.int .i64 (pre.length:Int)] 174)
 | ⟨.inr done⟩=>∃v,v.ownBlock=g/\Bs (b+1) w v (bc done)/\w.heap[b]? =some (.cells #[.iface 153 (.pointer (some ⟨b,0,none⟩)),.int .i64 wj,err,v] 161)
theorem Jc.lt{p:PS}(h:Jc w b g wj err p):b<w.heap.size:=by
 cases p using PS.on with
 | rd q r=>exact(Jb h.2)
 | wr d=>obtain⟨v,_,_,h⟩:=h;exact(Jb h)
theorem Jc.own{p:PS}(h:Jc w b g wj err p):∀k,g=some k->b<k/\k<w.heap.size:=by
 cases p using PS.on with
 | rd q r=>intro k hk;rw[h.1]at hk;cases hk
 | wr d=>obtain⟨v,rfl,hb,_⟩:=h;intro k hk;have:=hb.own k hk;omega
theorem Jc.tch{p:PS}(h:Jc w b g wj err p)(k:Tch S w w')(hb:¬S b)(hg:∀j,g=some j->¬S j):Jc w' b g wj err p:=by
 have hlt:=h.lt
 cases p using PS.on with
 | rd q r=>exact⟨h.1,(k.block b hlt hb).trans h.2⟩
 | wr d=>
  obtain⟨v,hv,hbs,hrow⟩:=h;refine⟨v,hv,?_,(k.block b hlt hb).trans hrow⟩
  rcases hbs with hbs|⟨gg,cap,rfl,h1,h2,h3,h4,h5,h6⟩
  ·exact .inl hbs
  ·have hbk:w'.heap[gg]? =w.heap[gg]? :=k.block gg h2 (hg gg (by rw[<-hv];rfl));refine .inr ⟨gg,cap,rfl,h1,Nat.lt_of_lt_of_le h2 k.size,h3,h4,λj u hu=>?_,λj hj=>?_⟩
   ·rw[World.cell?_of_block (a:=⟨gg,j,none⟩) hbk];exact h5 j u hu
   ·rw[World.cell?_of_block (a:=⟨gg,j,none⟩) hbk,World.frozen?_of_block (a:=⟨gg,j,none⟩) hbk];exact h6 j hj
def Jm(w:World)(g g':Option Nat):Prop:=g'=g\/∃k,g'=some k/\w.heap.size<=k
theorem Ta:type_of% @Tch.alloc:=@Tch.alloc
theorem Td:type_of% @Tch.drewN:=@Tch.drewN
theorem Ts:type_of% @Tch.setRow:=@Tch.setRow
theorem Te:type_of% @Tch.refl:=@Tch.refl
theorem Tg:type_of% @Tch.grown:=@Tch.grown

def Jq(B:Nat)(w:World)(v:Value)(l:List (Nat×Nat)):Prop:=
 (v=.slice none 0 0/\l=[])\/∃gi oi c,v=.slice (some ⟨gi,oi,none⟩) l.length c/\gi<B/\gi<w.heap.size/\∀i (h:i<l.length),w.cell? ⟨gi,oi+i*2,none⟩=some (.int .u64 ((l[i].1:Nat):Int))/\w.cell? ⟨gi,oi+i*2+1,none⟩=some (.int .u8 ((l[i].2:Nat):Int))
theorem Jq.tch(h:Jq B w v l)(k:Tch S w w')(hs:∀j,S j->B<=j):Jq B w' v l:=by
 rcases h with h|⟨gi,oi,c,hv,h1,h2,h3⟩
 ·exact .inl h
 ·refine .inr ⟨gi,oi,c,hv,h1,Qk h2 k.size,λi hi=>?_⟩;have hc:∀o,w'.cell? ⟨gi,o,none⟩=w.cell? ⟨gi,o,none⟩:=λo=>k.cell (p:=⟨gi,o,none⟩) h2 (λe=>by have:=hs gi e;omega);rw[hc,hc];exact h3 i hi
theorem Jq.shape(h:Jq B w v l):∃a c,v=.slice a l.length c:=by
 rcases h with⟨rfl,rfl⟩|⟨gi,oi,c,rfl,_⟩
 ·exact⟨none,0,rfl⟩
 ·exact⟨_,_,rfl⟩
def JD(B:Nat)(w:World)(v:Value)(l:List (BA×Int)):Prop:=
 (v=.slice none 0 0/\l=[])\/∃gi oi c,v=.slice (some ⟨gi,oi,none⟩) l.length c/\gi<B/\gi<w.heap.size/\∀i (h:i<l.length),w.cell? ⟨gi,oi+i*2,none⟩=some (.string l[i].1)/\w.cell? ⟨gi,oi+i*2+1,none⟩=some (.int .i64 l[i].2)
theorem JD.tch{l:List (BA×Int)}(h:JD B w v l)(k:Tch S w w')(hs:∀j,S j->B<=j):JD B w' v l:=by
 rcases h with h|⟨gi,oi,c,hv,h1,h2,h3⟩
 ·exact .inl h
 ·refine .inr ⟨gi,oi,c,hv,h1,Qk h2 k.size,λi hi=>?_⟩;have hc:∀o,w'.cell? ⟨gi,o,none⟩=w.cell? ⟨gi,o,none⟩:=λo=>k.cell (p:=⟨gi,o,none⟩) h2 (λe=>by have:=hs gi e;omega);rw[hc,hc];exact h3 i hi
theorem JD.shape{l:List (BA×Int)}(h:JD B w v l):∃a c,v=.slice a l.length c:=by
 rcases h with⟨rfl,rfl⟩|⟨gi,oi,c,rfl,_⟩
 ·exact⟨none,0,rfl⟩
 ·exact⟨_,_,rfl⟩
abbrev Sl:=Option Addr×Nat×Nat
def Xq(B:Nat)(w:World)(v:Value)(l:List (Sl×Sl)):Prop:=
 (v=.slice none 0 0/\l=[])\/∃gi oi c,v=.slice (some ⟨gi,oi,none⟩) l.length c/\gi<B/\gi<w.heap.size/\∀i (h:i<l.length),w.cell? ⟨gi,oi+i*2,none⟩=some (.slice l[i].1.1 l[i].1.2.1 l[i].1.2.2)/\w.cell? ⟨gi,oi+i*2+1,none⟩=some (.slice l[i].2.1 l[i].2.2.1 l[i].2.2.2)
theorem Xq.tch{l:List (Sl×Sl)}(h:Xq B w v l)(k:Tch S w w')(hs:∀j,S j->B<=j):Xq B w' v l:=by
 rcases h with h|⟨gi,oi,c,hv,h1,h2,h3⟩
 ·exact .inl h
 ·refine .inr ⟨gi,oi,c,hv,h1,Qk h2 k.size,λi hi=>?_⟩;have hc:∀o,w'.cell? ⟨gi,o,none⟩=w.cell? ⟨gi,o,none⟩:=λo=>k.cell (p:=⟨gi,o,none⟩) h2 (λe=>by have:=hs gi e;omega);rw[hc,hc];exact h3 i hi
theorem Xq.shape{l:List (Sl×Sl)}(h:Xq B w v l):∃a c,v=.slice a l.length c:=by
 rcases h with⟨rfl,rfl⟩|⟨gi,oi,c,rfl,_⟩
 ·exact⟨none,0,rfl⟩
 ·exact⟨_,_,rfl⟩
theorem JD.up{l:List (BA×Int)}(h:JD B w v l)(hb:B<=B'):JD B' w v l:=by
 rcases h with h|⟨gi,oi,c,h1,h2,h3⟩
 ·exact .inl h
 ·exact .inr ⟨gi,oi,c,h1,by omega,h3⟩
theorem Jq.up(h:Jq B w v l)(hb:B<=B'):Jq B' w v l:=by
 rcases h with h|⟨gi,oi,c,h1,h2,h3⟩
 ·exact .inl h
 ·exact .inr ⟨gi,oi,c,h1,by omega,h3⟩
end Go.Proofs.YtighkdnooglfjaaGreatDoor
namespace Go.Proofs
open Tryz
open Go.Shelf
def Je9:Go.Shelf.Ren:=⟨fun|316=>142|n=>n,fun|9=>9|3=>3|4=>4|37=>52|0=>0|127=>358|5=>5|n=>n,fun|n=>n⟩
theorem Jk9:Go.Proofs.LaysM.n316 prog Je9:={
 mixed:=by kernel_rfl
 f316:=func142.trans (congrArg some (by kernel_rfl))
 t0:=underlying0
 a0:=isAgg0
 z0:=sizeOf0
 v0:=zeroValue0
 t3:=underlying3
 a3:=isAgg3
 z3:=sizeOf3
 v3:=zeroValue3
 t4:=underlying4
 a4:=isAgg4
 z4:=sizeOf4
 v4:=zeroValue4
 t9:=underlying9
 a9:=isAgg9
 z9:=sizeOf9
 v9:=zeroValue9
 t37:=underlying52
 a37:=isAgg52
 z37:=sizeOf52
 v37:=zeroValue52
 t127:=underlying358
 a127:=isAgg358
 z127:=sizeOf358
 v127:=zeroValue358
 t5:=underlying5
 a5:=isAgg5
 z5:=sizeOf5
 v5:=zeroValue5
 i0:=by kernel_rfl
 i3:=by kernel_rfl
 i4:=by kernel_rfl
 i5:=by kernel_rfl
 i9:=by kernel_rfl
 i37:=by kernel_rfl
 i127:=by kernel_rfl }
open Go.RowKit in
theorem stringslite_Clone(s:ByteArray)(w:World)(hlim:s.size<=281474976710656):
  Calls prog 142 #[.string s] w λe w'=>e=.returned (.string s)/\Below w.heap.size w w':=Any.stringslite_Clone Jk9 s w hlim
def Jco:Go.Shelf.Ren:=⟨fun|105=>128|212=>192|99=>193|165=>194|166=>195|170=>196|169=>197|263=>272|264=>273|206=>274|240=>275|241=>276|276=>335|277=>336|n=>n,fun|9=>9|3=>3|4=>4|20=>20|0=>0|46=>322|109=>323|5=>5|72=>328|76=>330|51=>429|146=>430|53=>78|148=>432|70=>326|37=>52|75=>92|127=>358|164=>483|80=>61|n=>n,fun|n=>n⟩
theorem Jim:Go.Proofs.Lays.n105 prog Jco:={
 mixed:=by kernel_rfl
 f99:=func193.trans (congrArg some (by kernel_rfl))
 f105:=func128.trans (congrArg some (by kernel_rfl))
 f165:=func194.trans (congrArg some (by kernel_rfl))
 f166:=func195.trans (congrArg some (by kernel_rfl))
 f169:=func197.trans (congrArg some (by kernel_rfl))
 f170:=func196.trans (congrArg some (by kernel_rfl))
 f206:=func274.trans (congrArg some (by kernel_rfl))
 f212:=func192.trans (congrArg some (by kernel_rfl))
 f240:=func275.trans (congrArg some (by kernel_rfl))
 f241:=func276.trans (congrArg some (by kernel_rfl))
 f263:=func272.trans (congrArg some (by kernel_rfl))
 f264:=func273.trans (congrArg some (by kernel_rfl))
 f276:=func335.trans (congrArg some (by kernel_rfl))
 f277:=func336.trans (congrArg some (by kernel_rfl))
 t0:=underlying0
 a0:=isAgg0
 z0:=sizeOf0
 v0:=zeroValue0
 t3:=underlying3
 a3:=isAgg3
 z3:=sizeOf3
 v3:=zeroValue3
 t4:=underlying4
 a4:=isAgg4
 z4:=sizeOf4
 v4:=zeroValue4
 t5:=underlying5
 a5:=isAgg5
 z5:=sizeOf5
 v5:=zeroValue5
 t9:=underlying9
 a9:=isAgg9
 z9:=sizeOf9
 v9:=zeroValue9
 t20:=underlying20
 a20:=isAgg20
 z20:=sizeOf20
 v20:=zeroValue20
 t37:=underlying52
 a37:=isAgg52
 z37:=sizeOf52
 v37:=zeroValue52
 t46:=underlying322
 a46:=isAgg322
 z46:=sizeOf322
 v46:=zeroValue322
 t51:=underlying429
 a51:=isAgg429
 z51:=sizeOf429
 v51:=zeroValue429
 t53:=underlying78
 a53:=isAgg78
 z53:=sizeOf78
 v53:=zeroValue78
 t70:=underlying326
 a70:=isAgg326
 z70:=sizeOf326
 v70:=zeroValue326
 t72:=underlying328
 a72:=isAgg328
 z72:=sizeOf328
 v72:=zeroValue328
 t75:=underlying92
 a75:=isAgg92
 z75:=sizeOf92
 v75:=zeroValue92
 t76:=underlying330
 a76:=isAgg330
 z76:=sizeOf330
 v76:=zeroValue330
 t109:=underlying323
 a109:=isAgg323
 z109:=sizeOf323
 v109:=zeroValue323
 t127:=underlying358
 a127:=isAgg358
 z127:=sizeOf358
 v127:=zeroValue358
 t146:=underlying430
 a146:=isAgg430
 z146:=sizeOf430
 v146:=zeroValue430
 t148:=underlying432
 a148:=isAgg432
 z148:=sizeOf432
 v148:=zeroValue432
 t164:=underlying483
 a164:=isAgg483
 z164:=sizeOf483
 v164:=zeroValue483 }
theorem Jbn:Builder.Extra prog Jco:={
 sizeBuilder:=by kernel_rfl
 liesBuilder:=by kernel_rfl
 t5:=underlying5
 a5:=isAgg5
 z5:=sizeOf5
 v5:=zeroValue5
 infoByte:=by kernel_rfl
 cellsByte:=by kernel_rfl
 sizeByte:=by kernel_rfl
 neB5:=by decide }
open Go.RowKit Go.Lib in
theorem strings_Repeat_main(s:ByteArray)(c:Nat)(w:World)(hc2:2<=c)(hc:c<=9223372036854775807)(hlen:s.size*c<=140737488355328)(h0:0<s.size):
  Calls prog 128 #[.string s,.int .i64 c] w λe w'=>e=.returned (.string ⟨(Lib.repeatL s.data.toList c).toArray⟩)/\Below w.heap.size w w':=Any.strings_Repeat_main Jim Jbn s c w hc2 hc hlen h0
open Go.RowKit Go.Lib in
theorem strings_Repeat_one(s:ByteArray)(w:World):
  Calls prog 128 #[.string s,.int .i64 1] w λe w'=>e=.returned (.string s)/\w'=w:=Any.strings_Repeat_one Jim s w
end Go.Proofs
namespace Go.Proofs.YtighkdnooglfjaaGreatDoor
open Tryz
open Go.RowKit
theorem Tch.of_belowN{w w':World}(h:Below w.heap.size w w'):Tch NoB w w':=(Tch.of_below h).mono (λ_ hj=>.inr hj)
set_option maxRecDepth 100000 in
theorem Jeg(s:BA)(w:World)(hs:s.size<=1000000):Calls prog 90 #[.string s] w λe w'=>e=.returned (.string s)/\Tch NoB w w':=by
 have HC:Hid (∀W,Calls prog 142 #[.string s] W λe w'=>e=.returned (.string s)/\Tch NoB W w'):=λW=>(stringslite_Clone s W (by omega)).mono λe w' h=>⟨h.1,Tch.of_belowN h.2⟩
 clear hs;go_enter func90,ntmps90;go_wp2_with fail;refine(HC.o _).mono ?_;rintro _ w1⟨rfl,h⟩;have HH:Hid _:=h;clear h HC;go_wp2;go_ret;exact⟨rfl,HH.o⟩
theorem JhG(c:Nat)(h1:1<=c)(h2:c<=32)(w:World):Calls prog 128 #[.string ⟨#[0]⟩,.int .i64 (c:Int)] w λe w'=>e=.returned (.string ⟨(List.replicate c (0:UInt8)).toArray⟩)/\Tch NoB w w':=by
 by_cases hc:c=1
 ·subst hc;exact(strings_Repeat_one ⟨#[0]⟩ w).mono λe w' h=>⟨h.1,by rw[h.2];exact Te _ _⟩
 ·refine(strings_Repeat_main ⟨#[0]⟩ c w (by omega) (by omega) (by show 1*c<=_;omega) (by show 0<1;omega)).mono λe w' h=>⟨?_,Tch.of_belowN h.2⟩
  have e:Lib.repeatL [0] c=List.replicate c (0:UInt8):=by have:=Lib.repeatL_replicate 0 1 c;rw[Nat.mul_one]at this;exact this
  rw[h.1,show (⟨#[0]⟩:BA).data.toList=[0] from rfl,e]
