import Derived.Test.YtighkdnooglfjaaGreatDoorRows
import Derived.Test.YtighkdnooglfjaaGreatDoorBxMDef
import Derived.ProofKit
import Derived.LaidMore
import Derived.Stop.LaidErr
import Derived.OpenShut
import Derived.Deep.SlicePairs
namespace Go.Proofs.YtighkdnooglfjaaGreatDoor
open Go.Proofs.Tryz
set_option maxRecDepth 100000
open Go.ChangeShapes Go.WideShapes Go.ChangeAt Go.RowKit

theorem JmT (u:TypeId) (h:prog.typeName? 3 u=some "*errors.errorString"):u=509:=
 have star: "*" ++ "errors.errorString" = "*errors.errorString" :=by decide
 typeName_ptr_named (nm:= "errors.errorString") (by rw [star];kernel_rfl) (by kernel_rfl) (by decide) u (by rw [star];exact h)
theorem JiB:prog.cellsOf 531=1:=by kernel_rfl
theorem JiC:prog.cellsOf 9=1:=by kernel_rfl
def JfK (W:World) (g:Nat) (text:List UInt8):Prop:=∃(a:Addr) (s:BA) (ca:Array Value) (ta:TypeId),W.cell? ⟨g,0,none⟩=some (.iface 509 (.pointer (some a)))/\W.cell? a=some (.string s)/\s.data.toList=text/\W.heap[a.block]? =some (.cells ca ta (0,0))
theorem Yb {n:String} {g:Nat} {text:List UInt8} {r:List (String×DataW Unit)} {W:World} (h:laidMet prog ((n,.iface "*errors.errorString" (.ptr (.agg [.lit (.string text)]))) :: r) W) (hg:prog.globalNamed n=some g) (ht:(prog.globals[g]?).map (·.type)=some 92):JfK W g text:=by
 obtain ⟨ps,⟨g0,t0,cs0,f0,p0,q0,hg0,ht0,hv0,hd0,_,e0⟩,_,hrows⟩:=h
 obtain rfl:=Option.some.inj (hg.symm.trans hg0)
 obtain rfl:=Option.some.inj (ht.symm.trans ht0)
 subst e0
 obtain ⟨l0⟩:=cs0
 have ok0:∀u v,l0=[.iface u v]->Value.okWide prog W .any 0 u v:=λu v e=>by
  subst e
  exact (hrows g 0 (by simp [MemPlace.row])).2 u v ((World.var?_cell hg0 hv0 0).trans rfl)
 obtain ⟨a0,s0,rfl,hc0,hs0,hz0,rfl⟩:=errorString_of_trod underlying92 JmT underlying509 underlying531 rfl rfl underlying9 JiB JiC hd0 ok0
 obtain ⟨ca,ta,hb⟩:=(hrows a0.block a0.off (by simp [MemPlace.row])).1
 exact ⟨a0,s0,ca,ta,(World.var?_cell hg0 hv0 0).trans rfl,hc0,hs0,hb⟩
def txOf:DataW Unit->List UInt8
 | .iface _ (.ptr (.agg [.lit (.string t)]))=>t
 | _=>[]
def tx (g:Nat):List UInt8:=txOf (if g=0 then Rows.laid_trove_fault_Tip else if g=1 then Rows.laid_trove_fault_Input else if g=2 then Rows.laid_trove_fault_Exists else if g=3 then Rows.laid_trove_fault_Sum else if g=4 then Rows.laid_trove_fault_Root else if g=5 then Rows.laid_trove_fault_Range else if g=6 then Rows.laid_trove_fault_Torn else Rows.laid_trove_fault_Form)
theorem Jmk:∀g∈Ss,∀h∈Ss,tx g=tx h->g=h:=by decide
theorem JlL {W:World} (hS:∀g∈Ss,JfK W g (tx g)) (hsz:18<=W.heap.size) (hpow:Lib.TabIs prog W "internal/strconv.uint64pow10" .u64 Lib.pow10Tab) (htab:∀i,i<64->W.cell? ⟨13,i,none⟩=some (.int .u32 (Ks.getD i 0))):
  ∃E:Nat->Addr,Env E W/\Sent E W/\∀g∈Ss,(E g).block<W.heap.size:=by
 classical
 let E:Nat->Addr:=λg=>if h:g∈Ss then Classical.choose (hS g h) else ⟨0,0,none⟩
 have hE:∀g (h:g∈Ss),∃(s:BA) (ca:Array Value) (ta:TypeId),W.cell? ⟨g,0,none⟩=some (.iface 509 (.pointer (some (E g))))/\W.cell? (E g)=some (.string s)/\s.data.toList=tx g/\W.heap[(E g).block]? =some (.cells ca ta (0,0)):=λg h=>by
  have e:E g=Classical.choose (hS g h):=dif_pos h
  rw [e]
  exact Classical.choose_spec (hS g h)
 have hc:∀g,g∈Ss->W.cell? ⟨g,0,none⟩=some (.iface 509 (.pointer (some (E g)))):=λg h=>by obtain ⟨_,_,_,h1,_⟩:=hE g h;exact h1
 refine ⟨E,⟨hsz,hc _ (by decide),hc _ (by decide),hc _ (by decide),hc _ (by decide),hc _ (by decide),hc _ (by decide),hc _ (by decide),hc _ (by decide),hpow,htab⟩,⟨λg hg=>?_,λg hg h hh e=>?_⟩,λg hg=>?_⟩
 ·obtain ⟨_,ca,ta,_,_,_,h4⟩:=hE g hg
  exact ⟨ca,ta,h4⟩
 ·obtain ⟨s,_,_,_,h2,h3,_⟩:=hE g hg
  obtain ⟨s',_,_,_,h2',h3',_⟩:=hE h hh
  rw [e,h2'] at h2
  cases h2
  exact Jmk g hg h hh (h3.symm.trans h3')
 ·obtain ⟨_,ca,ta,_,_,_,h4⟩:=hE g hg
  exact (Jb h4)
theorem gTab:prog.globalNamed "trove/digest.roundConstants" =some 13:=by kernel_rfl
theorem JiT:(prog.globals[13]?).map (·.type)=some 486:=by kernel_rfl
theorem JlJ:prog.cellsOf 486=64:=by kernel_rfl
theorem JlK:prog.cellsOf 429=1:=by kernel_rfl
theorem JiS:(prog.globals[15]?).map (·.type)=some 503:=by kernel_rfl
theorem JlI:prog.cellsOf 503=20:=by kernel_rfl
theorem JiD:prog.cellsOf 78=1:=by kernel_rfl

theorem JkE {W:World} (h:laidMetH prog Rows.blocksUptoRow.laid W):∃E:Nat->Addr,Env E W/\Sent E W/\∀g∈Ss,(E g).block<W.heap.size:=by
 rw [MakeChecks.laidMetH_plain _ _ _ (by kernel_rfl)] at h
 have h3:=h.tail.tail.tail
 have hs:∀g∈Ss,JfK W g (tx g):=by
  intro g hg
  simp only [Ss,List.mem_cons,QD,or_false] at hg
  rcases hg with rfl | rfl | rfl | rfl | rfl | rfl | rfl | rfl
  ·exact Yb h3.tail (by kernel_rfl) (by kernel_rfl)
  ·exact Yb h3.tail.tail (by kernel_rfl) (by kernel_rfl)
  ·exact Yb h3.tail.tail.tail (by kernel_rfl) (by kernel_rfl)
  ·exact Yb h3.tail.tail.tail.tail (by kernel_rfl) (by kernel_rfl)
  ·exact Yb h3.tail.tail.tail.tail.tail (by kernel_rfl) (by kernel_rfl)
  ·exact Yb h3.tail.tail.tail.tail.tail.tail (by kernel_rfl) (by kernel_rfl)
  ·exact Yb h3.tail.tail.tail.tail.tail.tail.tail (by kernel_rfl) (by kernel_rfl)
  ·exact Yb h3 (by kernel_rfl) (by kernel_rfl)
 have ht:laidMet prog [("trove/digest.roundConstants",Lib.tabData .u32 Ks)] W:=h3.tail.tail.tail.tail.tail.tail.tail.tail.tail.tail.tail.tail.tail
 have htab:=Lib.tabIs_of_head gTab JiT underlying486 underlying429 JlK JlJ ht
 have hp:laidMet prog (("internal/strconv.uint64pow10",Lib.tabData .u64 Lib.pow10Tab) :: _) W:=h.tail.tail
 have hpow:=Lib.tabIs_of_head gPow JiS underlying503 underlying78 JiD JlI hp
 refine JlL hs ?_ hpow (λi hi=>htab.cell gTab i hi)
 obtain ⟨ps,hv,_⟩:=h.tail
 obtain ⟨g,t,cs,fuel,p,q,hg,_,hvv,_⟩:=hv
 obtain rfl:g=17:=Option.some.inj (hg.symm.trans (show prog.globalNamed "math/bits.deBruijn64tab" =some 17 by kernel_rfl))
 unfold World.var? at hvv
 rw [hg] at hvv
 simp only [Qu] at hvv
 split at hvv
 ·rename_i hh
  exact (Jb hh)
 ·cases hvv
open Go.ChangeShapes Go.WideShapes Go.ChangeAt Go.RowKit Go.Deep

theorem cOut:prog.cellsOf 80=2:=by kernel_rfl
theorem cU64:prog.cellsOf 78=1:=by kernel_rfl
theorem cU8:prog.cellsOf 5=1:=by kernel_rfl
theorem cInt:prog.cellsOf 3=1:=by kernel_rfl
section
variable {H:Type} {enc:TypeId×Value->H} {W:World}
theorem ZJ (d:DataW H):1<=Rows.uptoBulk d:=by
 cases d with
 | lit l=>cases l <;> simp [Rows.uptoBulk]
 | nil=>simp [Rows.uptoBulk]
 | ptr d=>simp [Rows.uptoBulk]
 | slice elems spare=>simp [Rows.uptoBulk]
 | agg parts=>simp [Rows.uptoBulk]
 | iface t d=>simp [Rows.uptoBulk]
 | map entries=>simp [Rows.uptoBulk]
 | held h=>simp [Rows.uptoBulk]
theorem Jck {d:DataW H} {l:List (DataW H)} (h:d∈l):Rows.uptoBulk d<=Rows.uptoBulkAll l:=by
 induction l with
 | nil=>cases h
 | cons x r ih=>
  simp only [Rows.uptoBulkAll]
  cases List.mem_cons.1 h with
  | inl e=>subst e;omega
  | inr e=>have:=ih e;omega
theorem JfM {a:Addr} {v:Value} (h:W.cell? a=some v):a=⟨a.block,a.off,none⟩/\a.block<W.heap.size:=by
 refine ⟨?_,World.block_lt_of_cell? _ _ h⟩
 obtain ⟨b,o,s⟩:=a
 cases s with
 | none=>rfl
 | some k=>
  unfold World.cell? at h
  split at h
  ·simp at h
  ·cases h
set_option maxRecDepth 100000 in
theorem Jak {b:Nat} {t e:TypeId} {v:Value} (ht:prog.underlying t=some (.slice e)) (h:Value.okWide prog W .any b t v):v=.slice none 0 0\/∃g o len cap,v=.slice (some ⟨g,o,none⟩) len cap/\g<W.heap.size:=by
 unfold Value.okWide at h
 rw [ht] at h
 simp only at h
 unfold Cell.okWide at h
 rw [ht] at h
 cases v <;> simp only at h
 all_goals first
  | (unfold Cell.ok at h;rw [ht] at h;simp only at h;done)
  | skip
 rename_i ad len cap
 unfold Cell.ok at h
 rw [ht] at h
 cases ad with
 | none=>
  left
  cases len with
  | zero=>
   cases cap with
   | zero=>rfl
   | succ n=>simp at h
  | succ n=>simp at h
 | some a=>
  right
  obtain ⟨_,_,_,hs,row,cells,hsh,_⟩:=h
  obtain ⟨g,o,s⟩:=a
  simp only at hs
  subst hs
  refine ⟨g,o,len,cap,rfl,?_⟩
  unfold World.shape? at hsh
  split at hsh
  ·rename_i hh;exact (Array.getElem?_eq_some_iff.1 hh).1
  ·cases hsh
end
