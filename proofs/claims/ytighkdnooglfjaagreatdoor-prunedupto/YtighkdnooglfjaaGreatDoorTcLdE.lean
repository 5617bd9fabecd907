import Derived.Test.YtighkdnooglfjaaGreatDoorRows
import Derived.ProofKit
import Derived.LaidMore
import Derived.Stop.LaidErr
import Derived.Test.YtighkdnooglfjaaGreatDoorTcKPays
import Derived.OpenShut
import Derived.Deep.SlicePairs
namespace Go.Proofs.YtighkdnooglfjaaGreatDoor
open Go.Proofs.Tryz
set_option maxRecDepth 100000
open Go.ChangeShapes Go.WideShapes Go.ChangeAt Go.RowKit

theorem Jnp (u:TypeId) (h:prog.typeName? 3 u=some "*errors.errorString"):u=509:=
 have star: "*" ++ "errors.errorString" = "*errors.errorString" :=by decide
 typeName_ptr_named (nm:= "errors.errorString") (by rw [star];kernel_rfl) (by kernel_rfl) (by decide) u (by rw [star];exact h)
theorem Jjv:prog.cellsOf 531=1:=by kernel_rfl
theorem Jjw:prog.cellsOf 9=1:=by kernel_rfl
def JfZ (W:World) (g:Nat) (text:List UInt8):Prop:=∃(a:Addr) (s:BA) (ca:Array Value) (ta:TypeId),W.cell? ⟨g,0,none⟩=some (.iface 509 (.pointer (some a)))/\W.cell? a=some (.string s)/\s.data.toList=text/\W.heap[a.block]? =some (.cells ca ta (0,0))
theorem Yk {n:String} {g:Nat} {text:List UInt8} {r:List (String×DataW Unit)} {W:World} (h:laidMet prog ((n,.iface "*errors.errorString" (.ptr (.agg [.lit (.string text)]))) :: r) W) (hg:prog.globalNamed n=some g) (ht:(prog.globals[g]?).map (·.type)=some 92):JfZ W g text:=by
 obtain ⟨ps,⟨g0,t0,cs0,f0,p0,q0,hg0,ht0,hv0,hd0,_,e0⟩,_,hrows⟩:=h
 obtain rfl:=Option.some.inj (hg.symm.trans hg0)
 obtain rfl:=Option.some.inj (ht.symm.trans ht0)
 subst e0
 obtain ⟨l0⟩:=cs0
 have ok0:∀u v,l0=[.iface u v]->Value.okWide prog W .any 0 u v:=λu v e=>by
  subst e
  exact (hrows g 0 (by simp [MemPlace.row])).2 u v ((World.var?_cell hg0 hv0 0).trans rfl)
 obtain ⟨a0,s0,rfl,hc0,hs0,hz0,rfl⟩:=errorString_of_trod underlying92 Jnp underlying509 underlying531 rfl rfl underlying9 Jjv Jjw hd0 ok0
 obtain ⟨ca,ta,hb⟩:=(hrows a0.block a0.off (by simp [MemPlace.row])).1
 exact ⟨a0,s0,ca,ta,(World.var?_cell hg0 hv0 0).trans rfl,hc0,hs0,hb⟩
def txOf:DataW Unit->List UInt8
 | .iface _ (.ptr (.agg [.lit (.string t)]))=>t
 | _=>[]
def tx (g:Nat):List UInt8:=txOf (if g=0 then Rows.laid_trove_fault_Tip else if g=1 then Rows.laid_trove_fault_Input else if g=2 then Rows.laid_trove_fault_Exists else if g=3 then Rows.laid_trove_fault_Sum else if g=4 then Rows.laid_trove_fault_Root else if g=5 then Rows.laid_trove_fault_Range else if g=6 then Rows.laid_trove_fault_Torn else Rows.laid_trove_fault_Form)
theorem JmP:∀g∈Ss,∀h∈Ss,tx g=tx h->g=h:=by decide
theorem Jml {W:World} (hS:∀g∈Ss,JfZ W g (tx g)) (hsz:18<=W.heap.size) (hpow:Lib.TabIs prog W "internal/strconv.uint64pow10" .u64 Lib.pow10Tab) (htab:∀i,i<64->W.cell? ⟨13,i,none⟩=some (.int .u32 (Ks.getD i 0))):
  ∃E:Nat->Addr,Env E W/\Sent E W/\∀g∈Ss,(E g).block<W.heap.size:=by
 classical
 let E:Nat->Addr:=λg=>if h:g∈Ss then Classical.choose (hS g h) else ⟨0,0,none⟩
 have hE:∀g (h:g∈Ss),∃(s:BA) (ca:Array Value) (ta:TypeId),W.cell? ⟨g,0,none⟩=some (.iface 509 (.pointer (some (E g))))/\W.cell? (E g)=some (.string s)/\s.data.toList=tx g/\W.heap[(E g).block]? =some (.cells ca ta (0,0)):=λg h=>by
  have e:E g=Classical.choose (hS g h):=dif_pos h
  rw [e]
  exact Classical.choose_spec (hS g h)
 have hc:∀g,g∈Ss->W.cell? ⟨g,0,none⟩=some (.iface 509 (.pointer (some (E g)))):=λg h=>by obtain ⟨_,_,_,h1,_⟩:=hE g h;exact h1
 refine ⟨E,⟨hsz,hc _ (by decide),hc _ (by decide),hc _ (by decide),hc _ (by decide),hc _ (by decide),hc _ (by decide),hc _ (by decide),hc _ (by decide),hpow,htab⟩,⟨λg hg=>?_,λg hg h hh e=>?_⟩,λg hg=>?_⟩
 ·obtain ⟨_,ca,ta,_,_,_,h4⟩:=hE g hg
  exact ⟨ca,ta,h4⟩
 ·obtain ⟨s,_,_,_,h2,h3,_⟩:=hE g hg
  obtain ⟨s',_,_,_,h2',h3',_⟩:=hE h hh
  rw [e,h2'] at h2
  cases h2
  exact JmP g hg h hh (h3.symm.trans h3')
 ·obtain ⟨_,ca,ta,_,_,_,h4⟩:=hE g hg
  exact (Jb h4)
theorem gTab:prog.globalNamed "trove/digest.roundConstants" =some 13:=by kernel_rfl
theorem JjK:(prog.globals[13]?).map (·.type)=some 486:=by kernel_rfl
theorem Jmi:prog.cellsOf 486=64:=by kernel_rfl
theorem Jmj:prog.cellsOf 429=1:=by kernel_rfl
theorem JjJ:(prog.globals[15]?).map (·.type)=some 503:=by kernel_rfl
theorem Jmh:prog.cellsOf 503=20:=by kernel_rfl
theorem Jjx:prog.cellsOf 78=1:=by kernel_rfl

theorem Jgv {W:World} (h:laidMetH prog Rows.prunedUptoRow.laid W):∃E:Nat->Addr,Env E W/\Sent E W/\∀g∈Ss,(E g).block<W.heap.size:=by
 rw [MakeChecks.laidMetH_plain _ _ _ (by kernel_rfl)] at h
 have h3:=h.tail.tail.tail
 have hs:∀g∈Ss,JfZ W g (tx g):=by
  intro g hg
  simp only [Ss,List.mem_cons,QD,or_false] at hg
  rcases hg with rfl | rfl | rfl | rfl | rfl | rfl | rfl | rfl
  ·exact Yk h3.tail (by kernel_rfl) (by kernel_rfl)
  ·exact Yk h3.tail.tail (by kernel_rfl) (by kernel_rfl)
  ·exact Yk h3.tail.tail.tail (by kernel_rfl) (by kernel_rfl)
  ·exact Yk h3.tail.tail.tail.tail (by kernel_rfl) (by kernel_rfl)
  ·exact Yk h3.tail.tail.tail.tail.tail (by kernel_rfl) (by kernel_rfl)
  ·exact Yk h3.tail.tail.tail.tail.tail.tail (by kernel_rfl) (by kernel_rfl)
  ·exact Yk h3.tail.tail.tail.tail.tail.tail.tail (by kernel_rfl) (by kernel_rfl)
  ·exact Yk h3 (by kernel_rfl) (by kernel_rfl)
 have ht:laidMet prog [("trove/digest.roundConstants",Lib.tabData .u32 Ks)] W:=h3.tail.tail.tail.tail.tail.tail.tail.tail.tail
 have htab:=Lib.tabIs_of_head gTab JjK underlying486 underlying429 Jmj Jmi ht
 have hp:laidMet prog (("internal/strconv.uint64pow10",Lib.tabData .u64 Lib.pow10Tab) :: _) W:=h.tail.tail
 have hpow:=Lib.tabIs_of_head gPow JjJ underlying503 underlying78 Jjx Jmh hp
 refine Jml hs ?_ hpow (λi hi=>htab.cell gTab i hi)
 obtain ⟨ps,hv,_⟩:=h.tail
 obtain ⟨g,t,cs,fuel,p,q,hg,_,hvv,_⟩:=hv
 obtain rfl:g=17:=Option.some.inj (hg.symm.trans (show prog.globalNamed "math/bits.deBruijn64tab" =some 17 by kernel_rfl))
 unfold World.var? at hvv
 rw [hg] at hvv
 simp only [Qu] at hvv
 split at hvv
 ·rename_i hh
  exact (Jb hh)
 ·cases hvv
open Go.RowKit

def YY (base:Nat) (w:World) (v:Value) (l:List Nat):Prop:=
 ((∃a c,v=.slice a 0 c)/\l=[])\/∃g o c,v=.slice (some ⟨g,o,none⟩) l.length c/\g<base/\∀i (h:i<l.length),w.cell? ⟨g,o+i,none⟩=some (.int .u64 ((l[i]:Nat):Int))
theorem YY.at {base:Nat} {w:World} {v:Value} {l:List Nat} (h:YY base w v l) (hb:base<=w.heap.size):Zv w v l:=by
 rcases h with h | ⟨g,o,c,h1,h2,h3⟩
 ·exact .inl h
 ·exact .inr ⟨g,o,c,h1,Qk h2 hb,h3⟩
theorem YY.tch {base:Nat} {w w':World} {v:Value} {l:List Nat} {S:Nat->Prop} (h:YY base w v l) (hb:base<=w.heap.size) (k:Tch S w w') (hs:∀j,S j->base<=j):YY base w' v l:=by
 rcases h with h | ⟨g,o,c,h1,h2,h3⟩
 ·exact .inl h
 ·refine .inr ⟨g,o,c,h1,h2,λi hi=>?_⟩
  rw [k.cell (p:=⟨g,o+i,none⟩) (Qk h2 hb) (λe=>by have:=hs _ e;simp only at this;omega)];exact h3 i hi
def YF (base:Nat) (w:World) (v:Value) (ps:List PayL):Prop:=
 ((∃a c,v=.slice a 0 c)/\ps=[])\/∃g o c,v=.slice (some ⟨g,o,none⟩) ps.length c/\g<base/\∀i (h:i<ps.length),∃va,YY base w va ps[i].amounts/\
  w.cell? ⟨g,o+i * 6,none⟩=some (.int .i64 ps[i].from_)/\w.cell? ⟨g,o+i * 6+1,none⟩=some (.int .i64 ps[i].many)/\w.cell? ⟨g,o+i * 6+2,none⟩=some va/\w.cell? ⟨g,o+i * 6+3,none⟩=some (.int .u8 ((ps[i].owner:Nat):Int))/\w.cell? ⟨g,o+i * 6+4,none⟩=some (.bool ps[i].wild)/\w.cell? ⟨g,o+i * 6+5,none⟩=some (.bool ps[i].other)
theorem YF.at {base:Nat} {w:World} {v:Value} {l:List PayL} (h:YF base w v l) (hb:base<=w.heap.size):JdZ w v l:=by
 rcases h with h | ⟨g,o,c,h1,h2,h3⟩
 ·exact .inl h
 ·refine .inr ⟨g,o,c,h1,Qk h2 hb,λi hi=>?_⟩
  obtain ⟨va,hn,hr⟩:=h3 i hi
  exact ⟨va,hn.at hb,hr⟩
theorem YF.tch {base:Nat} {w w':World} {v:Value} {l:List PayL} {S:Nat->Prop} (h:YF base w v l) (hb:base<=w.heap.size) (k:Tch S w w') (hs:∀j,S j->base<=j):YF base w' v l:=by
 rcases h with h | ⟨g,o,c,h1,h2,h3⟩
 ·exact .inl h
 ·refine .inr ⟨g,o,c,h1,h2,λi hi=>?_⟩
  obtain ⟨va,hn,hr⟩:=h3 i hi
  have hc:∀o,w'.cell? ⟨g,o,none⟩=w.cell? ⟨g,o,none⟩:=λo=>k.cell (p:=⟨g,o,none⟩) (Qk h2 hb) (λe=>by have:=hs _ e;simp only at this;omega)
  refine ⟨va,hn.tch hb k hs,?_⟩
  rw [hc,hc,hc,hc,hc,hc];exact hr
structure Jcp where
 kind:Int
 a:Int
 b:Int
 pays:List PayL
def Ja5 (base:Nat) (w:World) (v:Value) (l:List Jcp):Prop:=
 (v=.slice none 0 0/\l=[])\/∃g o c,v=.slice (some ⟨g,o,none⟩) l.length c/\g<base/\∀i (h:i<l.length),∃va,YF base w va l[i].pays/\
  w.cell? ⟨g,o+i * 4,none⟩=some (.int .i64 l[i].kind)/\w.cell? ⟨g,o+i * 4+1,none⟩=some (.int .i64 l[i].a)/\w.cell? ⟨g,o+i * 4+2,none⟩=some (.int .i64 l[i].b)/\w.cell? ⟨g,o+i * 4+3,none⟩=some va
theorem Ja5.shape {base:Nat} {w:World} {v:Value} {l:List Jcp} (h:Ja5 base w v l):∃a c,v=.slice a l.length c:=by
 rcases h with ⟨rfl,rfl⟩ | ⟨gi,oi,c,rfl,_⟩
 ·exact ⟨none,0,rfl⟩
 ·exact ⟨_,_,rfl⟩
open Go.ChangeShapes Go.WideShapes Go.ChangeAt Go.RowKit Go.Deep

theorem cOut:prog.cellsOf 80=2:=by kernel_rfl
theorem cU64:prog.cellsOf 78=1:=by kernel_rfl
theorem cU8:prog.cellsOf 5=1:=by kernel_rfl
theorem cInt:prog.cellsOf 3=1:=by kernel_rfl
theorem JmX:prog.cellsOf 4=1:=by kernel_rfl
theorem JmZ:prog.cellsOf 29=1:=by kernel_rfl
theorem JmY:prog.cellsOf 100=1:=by kernel_rfl
theorem cPay:prog.cellsOf 102=6:=by kernel_rfl
theorem Jl1:prog.cellsOf 31=4:=by kernel_rfl
section
variable {H:Type} {enc:TypeId×Value->H} {W:World}
theorem Jju (d:DataW H):1<=Rows.uptoBulk d:=by
 cases d with
 | lit l=>cases l <;> simp [Rows.uptoBulk]
 | nil=>simp [Rows.uptoBulk]
 | ptr d=>simp [Rows.uptoBulk]
 | slice elems spare=>simp [Rows.uptoBulk]
 | agg parts=>simp [Rows.uptoBulk]
 | iface t d=>simp [Rows.uptoBulk]
 | map entries=>simp [Rows.uptoBulk]
 | held h=>simp [Rows.uptoBulk]
theorem Ja8 {d:DataW H} {l:List (DataW H)} (h:d∈l):Rows.uptoBulk d<=Rows.uptoBulkAll l:=by
 induction l with
 | nil=>cases h
 | cons x r ih=>
  simp only [Rows.uptoBulkAll]
  cases List.mem_cons.1 h with
  | inl e=>subst e;omega
  | inr e=>have:=ih e;omega
theorem JeY (l:List (DataW H)):l.length<=Rows.uptoBulkAll l:=by
 induction l with
 | nil=>simp [Rows.uptoBulkAll]
 | cons x r ih=>have:=Jju x;simp only [Rows.uptoBulkAll,Qp];omega
theorem Jcq {a:Addr} {v:Value} (h:W.cell? a=some v):a=⟨a.block,a.off,none⟩/\a.block<W.heap.size:=by
 refine ⟨?_,Qr _ _ h⟩
 obtain ⟨b,o,s⟩:=a
 cases s with
 | none=>rfl
 | some k=>
  unfold World.cell? at h
  split at h
  ·simp at h
  ·cases h
theorem Jin {fuel:Nat} {v:Value} {x:DataW H×List MemPlace} (h:DataW.trod enc prog W 0 (λ_=>true) true fuel 100 [v]=some x):
  ∃l:List Nat,YY W.heap.size W v l/\(∀n∈l,n<18446744073709551616)/\l.length<=Rows.uptoBulk x.1:=by
 rcases open_slice1 underlying100 cU64 h with ⟨h0,h1⟩ | ⟨a,len,cap,m,n,V,D,Pl,h0,hb,hl,hm,hmm,hx,he⟩
 ·simp only [QH,and_true] at h0
  exact ⟨[],.inl ⟨⟨_,_,h0⟩,rfl⟩,λ_ h=>(QD h).elim,by simp⟩
 ·simp only [QH,and_true] at h0
  simp only [if_true] at hmm
  subst hmm
  have hint:∀i,i<m->∃k:Nat,V i=.int .u64 (k:Int)/\k<18446744073709551616:=λi hi=>by
   obtain ⟨z,h1,h3,h2⟩:=DataW.trod_int underlying78 (he i hi).2
   simp only [QH,and_true] at h1
   have hb:=bounds_u64 h2
   exact ⟨z.toNat,by rw [h1];congr 1;omega,by omega⟩
  obtain ⟨N,hN⟩:=choose_lt hint
  refine ⟨(List.range len).map N,?_,λx hx=>?_,?_⟩
  ·rcases Nat.eq_zero_or_pos len with h00 | hpos
   ·subst h00;exact .inl ⟨⟨_,_,h0⟩,rfl⟩
   ·obtain ⟨ea,hlt⟩:=Jcq (he 0 (by omega)).1
    simp only [Addr.add,if_true] at ea hlt
    rw [ea] at h0
    refine .inr ⟨a.block,a.off,m,by rw [h0];simp,hlt,λi hi=>?_⟩
    simp only [QL,List.length_range] at hi
    have:=(he i (by omega)).1
    rw [ea,(hN i (by omega)).1] at this
    simp only [List.getElem_map,List.getElem_range]
    rw [<-this]
    by_cases hi0:i=0 <;> simp [Addr.add,hi0]
  ·rw [QK] at hx
   obtain ⟨i,hi,rfl⟩:=hx
   exact (hN i (by have:=List.mem_range.1 hi;omega)).2
  ·rw [hx]
   have:=JeY ((List.range len).map D)
   simp only [Rows.uptoBulk,QL,List.length_range] at this ⊢
   omega
theorem Jkc {n:Nat} {cs:List Value} {y:DataW H×List MemPlace} (h:DataW.trod enc prog W 0 (λ_=>true) true n 102 cs=some y):
  ∃(p:PayL) (va:Value),cs=[.int .i64 p.from_,.int .i64 p.many,va,.int .u8 ((p.owner:Nat):Int),.bool p.wild,.bool p.other]/\YY W.heap.size W va p.amounts/\(Rows.uptoBulk y.1<=1048576->p.Ok):=by
 obtain ⟨xs,k,rfl,hy,hlen,hxl,hf⟩:=DataW.trod_struct underlying102 h
 rw [cPay] at hlen
 match cs,hlen with
 | [v0,v1,v2,v3,v4,v5],_=>
  match xs,hxl with
  | [y0,y1,y2,y3,y4,y5],_=>
   have g0:=hf 0 _ rfl
   have g1:=hf 1 _ rfl
   have g2:=hf 2 _ rfl
   have g3:=hf 3 _ rfl
   have g4:=hf 4 _ rfl
   have g5:=hf 5 _ rfl
   simp [cInt,JmY,cU8,JmX] at g0 g1 g2 g3 g4 g5
   obtain ⟨z0,e0,_,b0⟩:=DataW.trod_int underlying3 g0
   obtain ⟨z1,e1,_,b1⟩:=DataW.trod_int underlying3 g1
   obtain ⟨z3,e3,_,b3⟩:=DataW.trod_int underlying5 g3
   obtain ⟨z4,e4,_⟩:=DataW.trod_bool underlying4 g4
   obtain ⟨z5,e5,_⟩:=DataW.trod_bool underlying4 g5
   obtain ⟨l,hl,hb,hlb⟩:=Jin g2
   have c0:=bounds_i64 b0
   have c1:=bounds_i64 b1
   have c3:=bounds_u8 b3
   simp only [QH,and_true] at e0 e1 e3 e4 e5
   refine ⟨⟨z0,z1,l,z3.toNat,z4,z5⟩,v2,?_,hl,λhk=>⟨c0.1,by show z0<_;omega,c1.1,by show z1<_;omega,hb,by show z3.toNat<256;omega,?_⟩⟩
   ·rw [e0,e1,e3,e4,e5]
    simp only [QH,Value.int.injEq,true_and,and_true]
    omega
   ·have hm:y2.1∈[y0,y1,y2,y3,y4,y5].map (·.1):=by simp
    have:=Ja8 hm
    rw [hy] at hk
    simp only [Rows.uptoBulk] at hk
    show l.length<1000000000
    omega
theorem Jir {fuel:Nat} {v:Value} {x:DataW H×List MemPlace} (h:DataW.trod enc prog W 0 (λ_=>true) true fuel 29 [v]=some x):
  ∃l:List PayL,YF W.heap.size W v l/\(Rows.uptoBulk x.1<=1048576->∀p∈l,p.Ok):=by
 rcases open_slice underlying29 h with ⟨h0,h1⟩ | ⟨a,len,cap,m,n,D,Pl,h0,hb,hl,hm,hmm,hx,he⟩
 ·simp only [QH,and_true] at h0
  exact ⟨[],.inl ⟨⟨_,_,h0⟩,rfl⟩,λ_ _ h=>(QD h).elim⟩
 ·simp only [QH,and_true] at h0
  simp only [if_true] at hmm
  subst hmm
  rw [cPay] at he
  have hp:∀i,i<m->∃q:PayL×Value,W.cells? 0 (a.add (i * 6)) 6=some [.int .i64 q.1.from_,.int .i64 q.1.many,q.2,.int .u8 ((q.1.owner:Nat):Int),.bool q.1.wild,.bool q.1.other]/\YY W.heap.size W q.2 q.1.amounts/\(Rows.uptoBulk (D i)<=1048576->q.1.Ok):=λi hi=>by
   obtain ⟨cs',h1,h2⟩:=he i hi
   obtain ⟨p,va,rfl,h4,h5⟩:=Jkc h2
   exact ⟨(p,va),h1,h4,h5⟩
  haveI:Inhabited (PayL×Value):=⟨(⟨0,0,[],0,false,false⟩,.nilIface)⟩
  obtain ⟨Q,hQ⟩:=choose_lt hp
  refine ⟨(List.range len).map λi=>(Q i).1,?_,λhk p hp=>?_⟩
  ·rcases Nat.eq_zero_or_pos len with h00 | hpos
   ·subst h00;exact .inl ⟨⟨_,_,h0⟩,rfl⟩
   ·obtain ⟨_,_,hc0⟩:=World.cells?_some (hQ 0 (by omega)).1
    have hc00:=hc0 0 (by omega)
    simp only [Nat.zero_mul,Addr.add,if_true] at hc00
    obtain ⟨ea,hlt⟩:=Jcq (show W.cell? a=some _ from hc00)
    rw [ea] at h0
    refine .inr ⟨a.block,a.off,m,by rw [h0];simp,hlt,λi hi=>?_⟩
    simp only [QL,List.length_range] at hi
    obtain ⟨_,_,hc⟩:=World.cells?_some (hQ i (by omega)).1
    have ad:∀j,((a.add (i * 6)).add j)=⟨a.block,a.off+i * 6+j,none⟩:=λj=>by
     rw [add_add,ea];unfold Addr.add;split
     ·rename_i hz;simp <;> omega
     ·simp <;> omega
    refine ⟨(Q i).2,?_⟩
    simp only [List.getElem_map,List.getElem_range]
    have w0:=hc 0 (by omega)
    have w1:=hc 1 (by omega)
    have w2:=hc 2 (by omega)
    have w3:=hc 3 (by omega)
    have w4:=hc 4 (by omega)
    have w5:=hc 5 (by omega)
    rw [ad] at w0 w1 w2 w3 w4 w5
    exact ⟨(hQ i (by omega)).2.1,w0,w1,w2,w3,w4,w5⟩
  ·rw [QK] at hp
   obtain ⟨i,hi,rfl⟩:=hp
   have hi:=List.mem_range.1 hi
   refine (hQ i (by omega)).2.2 ?_
   have hm:D i∈(List.range len).map D:=QK.2 ⟨i,List.mem_range.2 hi,rfl⟩
   have:=Ja8 hm
   rw [hx] at hk
   simp only [Rows.uptoBulk] at hk
   omega
theorem JiP {n:Nat} {cs:List Value} {y:DataW H×List MemPlace} (h:DataW.trod enc prog W 0 (λ_=>true) true n 31 cs=some y):
  ∃(p:Jcp) (va:Value),cs=[.int .i64 p.kind,.int .i64 p.a,.int .i64 p.b,va]/\YF W.heap.size W va p.pays/\(Rows.uptoBulk y.1<=1048576->∀q∈p.pays,q.Ok)/\(-9223372036854775808<=p.a/\p.a<9223372036854775808)/\(-9223372036854775808<=p.b/\p.b<9223372036854775808):=by
 obtain ⟨xs,k,rfl,hy,hlen,hxl,hf⟩:=DataW.trod_struct underlying31 h
 rw [Jl1] at hlen
 match cs,hlen with
 | [v0,v1,v2,v3],_=>
  match xs,hxl with
  | [y0,y1,y2,y3],_=>
   have g0:=hf 0 _ rfl
   have g1:=hf 1 _ rfl
   have g2:=hf 2 _ rfl
   have g3:=hf 3 _ rfl
   simp [cInt,JmZ] at g0 g1 g2 g3
   obtain ⟨z0,e0,_,_⟩:=DataW.trod_int underlying3 g0
   obtain ⟨z1,e1,_,b1⟩:=DataW.trod_int underlying3 g1
   obtain ⟨z2,e2,_,b2⟩:=DataW.trod_int underlying3 g2
   obtain ⟨l,hl,hok⟩:=Jir g3
   have c1:=bounds_i64 b1
   have c2:=bounds_i64 b2
   simp only [QH,and_true] at e0 e1 e2
   refine ⟨⟨z0,z1,z2,l⟩,v3,by rw [e0,e1,e2],hl,λhk=>hok ?_,⟨c1.1,by show z1<_;omega⟩,⟨c2.1,by show z2<_;omega⟩⟩
   have hm:y3.1∈[y0,y1,y2,y3].map (·.1):=by simp
   have:=Ja8 hm
   rw [hy] at hk
   simp only [Rows.uptoBulk] at hk
   omega
theorem JaF {b:Nat} {t e:TypeId} {v:Value} (ht:prog.underlying t=some (.slice e)) (h:Value.okWide prog W .any b t v):v=.slice none 0 0\/∃g o len cap,v=.slice (some ⟨g,o,none⟩) len cap/\g<W.heap.size:=by
 unfold Value.okWide at h
 rw [ht] at h
 simp only at h
 unfold Cell.okWide at h
 rw [ht] at h
 cases v <;> simp only at h
 all_goals first
  | (unfold Cell.ok at h;rw [ht] at h;simp only at h;done)
  | skip
 rename_i ad len cap
 unfold Cell.ok at h
 rw [ht] at h
 cases ad with
 | none=>
  left
  cases len with
  | zero=>
   cases cap with
   | zero=>rfl
   | succ n=>simp at h
  | succ n=>simp at h
 | some a=>
  right
  obtain ⟨_,_,_,hs,row,cells,hsh,_⟩:=h
  obtain ⟨g,o,s⟩:=a
  simp only at hs
  subst hs
  refine ⟨g,o,len,cap,rfl,?_⟩
  unfold World.shape? at hsh
  split at hsh
  ·rename_i hh;exact (Jb hh)
  ·cases hsh
theorem JgO {b fuel:Nat} {v:Value} {x:DataW H×List MemPlace} (hv:Value.okWide prog W .any b 26 v) (h:DataW.trod enc prog W 0 (λ_=>true) true fuel 26 [v]=some x) (hk:Rows.uptoBulk x.1<=1048576):
  ∃l:List Jcp,Ja5 W.heap.size W v l/\(∀s∈l,∀p∈s.pays,p.Ok)/\(∀s∈l,(-9223372036854775808<=s.a/\s.a<9223372036854775808)/\(-9223372036854775808<=s.b/\s.b<9223372036854775808))/\l.length<=1048576:=by
 rcases JaF underlying26 hv with rfl | ⟨g,o,len0,cap0,rfl,hg⟩
 ·exact ⟨[],.inl ⟨rfl,rfl⟩,λ_ h=>(QD h).elim,λ_ h=>(QD h).elim,by simp⟩
 rcases open_slice underlying26 h with ⟨h0,h1⟩ | ⟨a,len,cap,m,n,D,Pl,h0,hb,hl,hm,hmm,hx,he⟩
 ·simp at h0
 ·simp only [QH,and_true,Qy,Qh] at h0
  obtain ⟨rfl,rfl,rfl⟩:=h0
  simp only [if_true] at hmm
  subst hmm
  rw [Jl1] at he
  have hp:∀i,i<m->∃q:Jcp×Value,W.cells? 0 ((⟨g,o,none⟩:Addr).add (i * 4)) 4=some [.int .i64 q.1.kind,.int .i64 q.1.a,.int .i64 q.1.b,q.2]/\YF W.heap.size W q.2 q.1.pays/\(Rows.uptoBulk (D i)<=1048576->∀p∈q.1.pays,p.Ok)/\(-9223372036854775808<=q.1.a/\q.1.a<9223372036854775808)/\(-9223372036854775808<=q.1.b/\q.1.b<9223372036854775808):=λi hi=>by
   obtain ⟨cs',h1,h2⟩:=he i hi
   obtain ⟨p,va,rfl,h4,h5,h6,h7⟩:=JiP h2
   exact ⟨(p,va),h1,h4,h5,h6,h7⟩
  haveI:Inhabited (Jcp×Value):=⟨(⟨0,0,0,[]⟩,.nilIface)⟩
  obtain ⟨Q,hQ⟩:=choose_lt hp
  rw [hx] at hk
  simp only [Rows.uptoBulk] at hk
  have hDi:∀i,i<len0->Rows.uptoBulk (D i)<=1048576:=λi hi=>by
   have hm:D i∈(List.range len0).map D:=QK.2 ⟨i,List.mem_range.2 hi,rfl⟩
   have:=Ja8 hm
   omega
  refine ⟨(List.range len0).map λi=>(Q i).1,.inr ⟨g,o,m,by simp,hg,λi hi=>?_⟩,λs hs=>?_,λs hs=>?_,?_⟩
  ·simp only [QL,List.length_range] at hi
   obtain ⟨_,_,hc⟩:=World.cells?_some (hQ i (by omega)).1
   have ad:∀j,(((⟨g,o,none⟩:Addr).add (i * 4)).add j)=⟨g,o+i * 4+j,none⟩:=λj=>by
    rw [add_add];unfold Addr.add;split
    ·rename_i hz;simp <;> omega
    ·simp <;> omega
   refine ⟨(Q i).2,?_⟩
   simp only [List.getElem_map,List.getElem_range]
   have w0:=hc 0 (by omega)
   have w1:=hc 1 (by omega)
   have w2:=hc 2 (by omega)
   have w3:=hc 3 (by omega)
   rw [ad] at w0 w1 w2 w3
   exact ⟨(hQ i (by omega)).2.1,w0,w1,w2,w3⟩
  ·rw [QK] at hs
   obtain ⟨i,hi,rfl⟩:=hs
   have hi:=List.mem_range.1 hi
   exact (hQ i (by omega)).2.2.1 (hDi i hi)
  ·rw [QK] at hs
   obtain ⟨i,hi,rfl⟩:=hs
   have hi:=List.mem_range.1 hi
   exact (hQ i (by omega)).2.2.2
  ·have:=JeY ((List.range len0).map D)
   simp only [QL,List.length_range] at this ⊢
   omega
theorem Jiq {b fuel:Nat} {v:Value} {x:DataW H×List MemPlace} (hv:Value.okWide prog W .any b 22 v) (h:DataW.trod enc prog W 0 (λ_=>true) true fuel 22 [v]=some x):
  ∃l:List (Nat×Nat),Jo W.heap.size W v l/\∀o∈l,Jq o:=by
 rcases JaF underlying22 hv with rfl | ⟨g,o,len0,cap0,rfl,hg⟩
 ·exact ⟨[],.inl ⟨rfl,rfl⟩,λ_ h=>(QD h).elim⟩
 rcases open_slice_pairs underlying22 underlying80 cOut rfl rfl cU64 cU8 h with ⟨h0,h1⟩ | ⟨a,len,cap,m,n,V0,V1,D0,D1,P0,P1,h0,hb,hl,hm,hmm,hx,he⟩
 ·simp at h0
 ·simp only [QH,and_true,Qy,Qh] at h0
  obtain ⟨rfl,rfl,rfl⟩:=h0
  simp only [if_true] at hmm
  subst hmm
  have hp:∀i,i<m->∃q:Nat×Nat,V0 i=.int .u64 (q.1:Int)/\V1 i=.int .u8 (q.2:Int)/\Jq q:=λi hi=>by
   obtain ⟨_,_,h2,h3⟩:=he i hi
   obtain ⟨z0,e0,_,b0⟩:=DataW.trod_int underlying78 h2
   obtain ⟨z1,e1,_,b1⟩:=DataW.trod_int underlying5 h3
   simp only [QH,and_true] at e0 e1
   have c0:=bounds_u64 b0
   have c1:=bounds_u8 b1
   exact ⟨(z0.toNat,z1.toNat),by rw [e0];congr 1;omega,by rw [e1];congr 1;omega,⟨by show z0.toNat<_;omega,by show z1.toNat<_;omega⟩⟩
  obtain ⟨Q,hQ⟩:=choose_lt hp
  refine ⟨(List.range len0).map Q,.inr ⟨g,o,m,by simp,hg,hg,λi hi=>?_⟩,λs hs=>?_⟩
  ·simp only [QL,List.length_range] at hi
   obtain ⟨w0,w1,_,_⟩:=he i (by omega)
   have ad:∀j,(⟨g,o,none⟩:Addr).add j=⟨g,o+j,none⟩:=λj=>by
    unfold Addr.add;split
    ·rename_i hz;simp <;> omega
    ·simp
   rw [ad,(hQ i (by omega)).1] at w0
   rw [ad,(hQ i (by omega)).2.1] at w1
   simp only [List.getElem_map,List.getElem_range]
   exact ⟨w0,by rw [Nat.add_assoc];exact w1⟩
  ·rw [QK] at hs
   obtain ⟨i,hi,rfl⟩:=hs
   exact (hQ i (by have:=List.mem_range.1 hi;omega)).2.2
end

theorem JP.apart {E:Nat->Addr} {wd base:Nat} {L:Led E wd base} {w:World} {xb lb:Nat} {F:Nat->Prop} {fl:Nat} {ch:Ch} {vst:Value} {sl:List Sl} {states:List (List Held)} (h:JP L w xb lb F fl ch vst sl states):
  ∀j cur T m,w.heap[j]? =some (.cells cur T m)->T=35\/T=43\/T=87->¬F j:=λj cur T m hr hT hF=>by
 obtain ⟨h1,h2,h3⟩:=L.kinds h.led j hF cur T m hr
 rcases hT with hT | hT | hT
 ·exact h1 hT
 ·exact h2 hT
 ·exact h3 hT
