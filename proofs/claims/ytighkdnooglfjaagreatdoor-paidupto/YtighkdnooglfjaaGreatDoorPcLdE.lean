import Derived.Test.YtighkdnooglfjaaGreatDoorRows
import Derived.ProofKit
import Derived.LaidMore
import Derived.Stop.LaidErr
import Derived.Test.YtighkdnooglfjaaGreatDoorPcKHeld
namespace Go.Proofs.YtighkdnooglfjaaGreatDoor
open Go.Proofs.Tryz
set_option maxRecDepth 100000
open Go.ChangeShapes Go.WideShapes Go.ChangeAt Go.RowKit

theorem Jjw (u:TypeId) (h:prog.typeName? 3 u=some "*errors.errorString"):u=509:=
 have star: "*" ++ "errors.errorString" = "*errors.errorString" :=by decide
 typeName_ptr_named (nm:= "errors.errorString") (by rw [star];kernel_rfl) (by kernel_rfl) (by decide) u (by rw [star];exact h)
theorem Jgt:prog.cellsOf 531=1:=by kernel_rfl
theorem Jgu:prog.cellsOf 9=1:=by kernel_rfl
def JdW (W:World) (g:Nat) (text:List UInt8):Prop:=∃(a:Addr) (s:BA) (ca:Array Value) (ta:TypeId),W.cell? ⟨g,0,none⟩=some (.iface 509 (.pointer (some a)))/\W.cell? a=some (.string s)/\s.data.toList=text/\W.heap[a.block]? =some (.cells ca ta (0,0))
theorem XI {n:String} {g:Nat} {text:List UInt8} {r:List (String×DataW Unit)} {W:World} (h:laidMet prog ((n,.iface "*errors.errorString" (.ptr (.agg [.lit (.string text)]))) :: r) W) (hg:prog.globalNamed n=some g) (ht:(prog.globals[g]?).map (·.type)=some 92):JdW W g text:=by
 obtain ⟨ps,⟨g0,t0,cs0,f0,p0,q0,hg0,ht0,hv0,hd0,_,e0⟩,_,hrows⟩:=h
 obtain rfl:=Option.some.inj (hg.symm.trans hg0)
 obtain rfl:=Option.some.inj (ht.symm.trans ht0)
 subst e0
 obtain ⟨l0⟩:=cs0
 have ok0:∀u v,l0=[.iface u v]->Value.okWide prog W .any 0 u v:=λu v e=>by
  subst e
  exact (hrows g 0 (by simp [MemPlace.row])).2 u v ((World.var?_cell hg0 hv0 0).trans rfl)
 obtain ⟨a0,s0,rfl,hc0,hs0,hz0,rfl⟩:=errorString_of_trod underlying92 Jjw underlying509 underlying531 rfl rfl underlying9 Jgt Jgu hd0 ok0
 obtain ⟨ca,ta,hb⟩:=(hrows a0.block a0.off (by simp [MemPlace.row])).1
 exact ⟨a0,s0,ca,ta,(World.var?_cell hg0 hv0 0).trans rfl,hc0,hs0,hb⟩
def txOf:DataW Unit->List UInt8
 | .iface _ (.ptr (.agg [.lit (.string t)]))=>t
 | _=>[]
def tx (g:Nat):List UInt8:=txOf (if g=0 then Rows.laid_trove_fault_Tip else if g=1 then Rows.laid_trove_fault_Input else if g=2 then Rows.laid_trove_fault_Exists else if g=3 then Rows.laid_trove_fault_Sum else if g=4 then Rows.laid_trove_fault_Root else if g=5 then Rows.laid_trove_fault_Range else if g=6 then Rows.laid_trove_fault_Torn else Rows.laid_trove_fault_Form)
theorem Ji2:∀g∈Ss,∀h∈Ss,tx g=tx h->g=h:=by decide
theorem JiC {W:World} (hS:∀g∈Ss,JdW W g (tx g)) (hsz:18<=W.heap.size) (hpow:Lib.TabIs prog W "internal/strconv.uint64pow10" .u64 Lib.pow10Tab) (htab:∀i,i<64->W.cell? ⟨13,i,none⟩=some (.int .u32 (Ks.getD i 0))):
  ∃E:Nat->Addr,Env E W/\Sent E W/\∀g∈Ss,(E g).block<W.heap.size:=by
 classical
 let E:Nat->Addr:=λg=>if h:g∈Ss then Classical.choose (hS g h) else ⟨0,0,none⟩
 have hE:∀g (h:g∈Ss),∃(s:BA) (ca:Array Value) (ta:TypeId),W.cell? ⟨g,0,none⟩=some (.iface 509 (.pointer (some (E g))))/\W.cell? (E g)=some (.string s)/\s.data.toList=tx g/\W.heap[(E g).block]? =some (.cells ca ta (0,0)):=λg h=>by
  have e:E g=Classical.choose (hS g h):=dif_pos h
  rw [e]
  exact Classical.choose_spec (hS g h)
 have hc:∀g,g∈Ss->W.cell? ⟨g,0,none⟩=some (.iface 509 (.pointer (some (E g)))):=λg h=>by obtain ⟨_,_,_,h1,_⟩:=hE g h;exact h1
 refine ⟨E,⟨hsz,hc _ (by decide),hc _ (by decide),hc _ (by decide),hc _ (by decide),hc _ (by decide),hc _ (by decide),hc _ (by decide),hc _ (by decide),hpow,htab⟩,⟨λg hg=>?_,λg hg h hh e=>?_⟩,λg hg=>?_⟩
 ·obtain ⟨_,ca,ta,_,_,_,h4⟩:=hE g hg
  exact ⟨ca,ta,h4⟩
 ·obtain ⟨s,_,_,_,h2,h3,_⟩:=hE g hg
  obtain ⟨s',_,_,_,h2',h3',_⟩:=hE h hh
  rw [e,h2'] at h2
  cases h2
  exact Ji2 g hg h hh (h3.symm.trans h3')
 ·obtain ⟨_,ca,ta,_,_,_,h4⟩:=hE g hg
  exact (Jb h4)
theorem gTab:prog.globalNamed "trove/digest.roundConstants" =some 13:=by kernel_rfl
theorem JgG:(prog.globals[13]?).map (·.type)=some 486:=by kernel_rfl
theorem JiA:prog.cellsOf 486=64:=by kernel_rfl
theorem JiB:prog.cellsOf 429=1:=by kernel_rfl
theorem JgF:(prog.globals[15]?).map (·.type)=some 503:=by kernel_rfl
theorem Jiz:prog.cellsOf 503=20:=by kernel_rfl
theorem Jgv:prog.cellsOf 78=1:=by kernel_rfl
theorem Jg2 {W:World} (h:laidMetH prog Rows.paidUptoRow.laid W):∃E:Nat->Addr,Env E W/\Sent E W/\∀g∈Ss,(E g).block<W.heap.size:=by
 rw [MakeChecks.laidMetH_plain _ _ _ (by kernel_rfl)] at h
 have h3:=h.tail.tail.tail
 have hs:∀g∈Ss,JdW W g (tx g):=by
  intro g hg
  simp only [Ss,List.mem_cons,QD,or_false] at hg
  rcases hg with rfl | rfl | rfl | rfl | rfl | rfl | rfl | rfl
  ·exact XI h3.tail (by kernel_rfl) (by kernel_rfl)
  ·exact XI h3.tail.tail (by kernel_rfl) (by kernel_rfl)
  ·exact XI h3.tail.tail.tail (by kernel_rfl) (by kernel_rfl)
  ·exact XI h3.tail.tail.tail.tail (by kernel_rfl) (by kernel_rfl)
  ·exact XI h3.tail.tail.tail.tail.tail (by kernel_rfl) (by kernel_rfl)
  ·exact XI h3.tail.tail.tail.tail.tail.tail (by kernel_rfl) (by kernel_rfl)
  ·exact XI h3.tail.tail.tail.tail.tail.tail.tail (by kernel_rfl) (by kernel_rfl)
  ·exact XI h3 (by kernel_rfl) (by kernel_rfl)
 have ht:laidMet prog [("trove/digest.roundConstants",Lib.tabData .u32 Ks)] W:=h3.tail.tail.tail.tail.tail.tail.tail.tail
 have htab:=Lib.tabIs_of_head gTab JgG underlying486 underlying429 JiB JiA ht
 have hp:laidMet prog (("internal/strconv.uint64pow10",Lib.tabData .u64 Lib.pow10Tab) :: _) W:=h.tail.tail
 have hpow:=Lib.tabIs_of_head gPow JgF underlying503 underlying78 Jgv Jiz hp
 refine JiC hs ?_ hpow (λi hi=>htab.cell gTab i hi)
 obtain ⟨ps,hv,_⟩:=h.tail
 obtain ⟨g,t,cs,fuel,p,q,hg,_,hvv,_⟩:=hv
 obtain rfl:g=17:=Option.some.inj (hg.symm.trans (show prog.globalNamed "math/bits.deBruijn64tab" =some 17 by kernel_rfl))
 unfold World.var? at hvv
 rw [hg] at hvv
 simp only [Qu] at hvv
 split at hvv
 ·rename_i hh
  exact (Jb hh)
 ·cases hvv
open Go.RowKit

def Jbc (h:BA×Int):List Value:=[.string h.1,.int .i64 h.2]
def Xr (l:List (BA×Int)):List Value:=l.flatMap Jbc
theorem Yi (l:List (BA×Int)):(Xr l).length=l.length * 2:=by
 induction l with
 | nil=>rfl
 | cons x r ih=>simp only [Xr,QG,Qe] at ih ⊢;rw [ih];simp [Jbc];omega
theorem Je5 (l:List (BA×Int)):∀u∈Xr l,u.oneCell'=true:=by
 intro u hu
 simp only [Xr,List.mem_flatMap,Jbc] at hu
 obtain ⟨x,_,hu⟩:=hu
 simp only [List.mem_cons,QD,or_false] at hu
 rcases hu with rfl | rfl <;> rfl
theorem ZW (l l':List (BA×Int)):Xr (l++l')=Xr l++Xr l':=by simp [Xr]
theorem Jb2 (l:List (BA×Int)):∀(i:Nat) (h:i<l.length),(Xr l)[i * 2]? =some (.string l[i].1)/\(Xr l)[i * 2+1]? =some (.int .i64 l[i].2):=by
 induction l with
 | nil=>intro i h;simp at h
 | cons x r ih=>
  intro i h
  cases i with
  | zero=>simp [Xr,Jbc]
  | succ i=>
   have e:∀j,(Xr (x :: r))[(i+1) * 2+j]? =(Xr r)[i * 2+j]? :=by
    intro j
    show (Jbc x++Xr r)[(i+1) * 2+j]? =_
    rw [Qz (by simp [Jbc];omega)]
    congr 1;simp [Jbc];omega
   refine ⟨?_,?_⟩
   ·have:=e 0;rw [Nat.add_zero,Nat.add_zero] at this;rw [this];simpa using (ih i (by simpa using h)).1
   ·rw [e 1];simpa using (ih i (by simpa using h)).2
theorem Jp.cells {w:World} {g o:Nat} {l:List (BA×Int)} (h:∀i (h:i<l.length),w.cell? ⟨g,o+i * 2,none⟩=some (.string l[i].1)/\w.cell? ⟨g,o+i * 2+1,none⟩=some (.int .i64 l[i].2)):
  ∀j u,(Xr l)[j]? =some u->w.cell? (Addr.add ⟨g,o,none⟩ j)=some u:=by
 intro j u hu
 have hj:j<l.length * 2:=by have:=(Qo.1 hu).1;rw [Yi] at this;exact this
 obtain ⟨e0,e1⟩:=Jb2 l (j / 2) (by omega)
 obtain ⟨f0,f1⟩:=h (j / 2) (by omega)
 rw [Addr.add_lit]
 obtain hm | hm:j % 2=0\/j % 2=1:=by omega
 ·rw [show j / 2 * 2=j by omega] at e0;rw [show o+j / 2 * 2=o+j by omega] at f0;rw [f0,<-e0,hu]
 ·rw [show j / 2 * 2+1=j by omega] at e1;rw [show o+j / 2 * 2+1=o+j by omega] at f1;rw [f1,<-e1,hu]
def COwn (base:Nat) (w:World) (v:Value) (l:List (BA×Int)):Prop:=w.ownsRow base 49 2 v l.length (Xr l)
theorem COwn.nil (base:Nat) (w:World):COwn base w (.slice none 0 0) []:=⟨rfl,.inl ⟨rfl,rfl⟩⟩
theorem COwn.at {base:Nat} {w:World} {v:Value} {l:List (BA×Int)} (h:COwn base w v l):Jp w.heap.size w v l:=by
 obtain ⟨_,⟨rfl,h0⟩ | ⟨g,cap,cur,rfl,_,hrow,_,_,hsz,htake⟩⟩:=h
 ·exact .inl ⟨rfl,QN h0⟩
 ·have hlt:=(Jb hrow)
  refine .inr ⟨g,0,cap,rfl,hlt,hlt,λi hi=>?_⟩
  obtain ⟨e0,e1⟩:=Jb2 l i hi
  have hc:∀j u,(Xr l)[j]? =some u->w.cell? ⟨g,0+j,none⟩=some u:=by
   intro j u hu
   rw [<-htake] at hu
   have hj:=(Qo.1 hu).1
   rw [List.getElem?_take_of_lt (by rw [QB] at hj;omega)] at hu
   rw [Ja hrow,Nat.zero_add,<-Array.getElem?_toList]
   exact hu
  exact ⟨hc _ _ e0,hc _ _ e1⟩
theorem COwn.own {base:Nat} {w:World} {v:Value} {l:List (BA×Int)} (h:COwn base w v l):∀k,v.ownBlock=some k->base<=k/\k<w.heap.size:=by
 obtain ⟨_,⟨rfl,h0⟩ | ⟨g,cap,cur,rfl,hb,hrow,_⟩⟩:=h
 ·intro k hk;cases hk
 ·intro k hk;cases hk;exact ⟨hb,(Jb hrow)⟩
theorem COwn.tch {base:Nat} {w w':World} {v:Value} {l:List (BA×Int)} {S:Nat->Prop} (h:COwn base w v l) (k:Tch S w w') (hs:∀j,v.ownBlock=some j->¬S j):COwn base w' v l:=by
 obtain ⟨h1,⟨rfl,h0⟩ | ⟨g,cap,cur,rfl,hb,hrow,h2⟩⟩:=h
 ·exact ⟨h1,.inl ⟨rfl,h0⟩⟩
 ·exact ⟨h1,.inr ⟨g,cap,cur,rfl,hb,(k.block g (Jb hrow) (hs g rfl)).trans hrow,h2⟩⟩
theorem COwn.shape {base:Nat} {w:World} {v:Value} {l:List (BA×Int)} (h:COwn base w v l):∃a c,v=.slice a l.length c:=h.at.shape
theorem COwn.shape3 {base:Nat} {w:World} {v:Value} {l:List (BA×Int)} (h:COwn base w v l):∃a m c,v=.slice a m c:=by
 obtain ⟨a,c,h⟩:=h.shape
 exact ⟨a,_,c,h⟩
theorem COwn.take {base:Nat} {w:World} {a:Option Addr} {n c:Nat} {l:List (BA×Int)} (h:COwn base w (.slice a n c) l) (k:Nat) (hk:k<=n):COwn base w (.slice a k c) (l.take k):=by
 obtain ⟨h1,⟨hv,h0⟩ | ⟨g,cap,cur,hv,hb,hrow,hcap,hm,hsz,htake⟩⟩:=h
 ·cases hv
  obtain rfl:k=0:=by omega
  exact ⟨by simp [Xr],.inl ⟨rfl,by simp⟩⟩
 ·cases hv
  have hl:(l.take k).length=k:=by rw [QB];omega
  refine ⟨Yi _,.inr ⟨g,c,cur,by rw [hl],hb,hrow,by rw [hl];omega,hm,hsz,?_⟩⟩
  rw [hl]
  have e:Xr (l.take k)=(Xr l).take (k * 2):=by
   conv=>rhs;rw [<-List.take_append_drop k l,ZW]
   rw [List.take_left' (by rw [Yi,hl])]
  rw [e,<-htake,List.take_take,Nat.min_eq_left (Nat.mul_le_mul_right _ hk)]
theorem Jfk:(prog.info? 49).map (λi=>(i.zero,i.size,i.bytes))=some (some (.agg #[.string ⟨#[]⟩,.int .i64 0]),2,24):=by kernel_rfl
theorem YX {base:Nat} {w:World} {v:Value} {l:List (BA×Int)} (h:COwn base w v l) (x:Value) (B:Nat) (l2:List (BA×Int)) (hx:Jp B w x l2) (ty:TypeId) (hb:l.length+l2.length<=1000000000) (hbase:base<=w.heap.size):
  ∃v' w',(Builtin.append_ #[96,96] ty #[v,x]).run prog w=.ok v' w'/\COwn base w' v' (l++l2)/\w.grownBy w' v.ownBlock:=by
 obtain ⟨i,hi,hp⟩:=Option.map_eq_some_iff.1 Jfk
 simp only [Qw] at hp
 obtain ⟨hz,hsz,hby⟩:=hp
 rcases hx with ⟨rfl,rfl⟩ | ⟨g,o,c,rfl,_,hg,hcell⟩
 ·exact ⟨v,w,run_append_owned_none (P:=prog) (w:=w) base 96 ty 49 i 2 underlying96 hi v l.length (Xr l) h,by rw [QC];exact h,World.grownBy.refl _ _⟩
 ·obtain ⟨v',w',hr,h2,h3,h4⟩:=run_append_own (P:=prog) w base 96 ty 49 i _ 2 24 underlying96 hi hz hsz hby rfl (by omega) v l.length (Xr l) h ⟨g,o,none⟩ l2.length c (Xr l2) (Yi l2) (Jp.cells hcell) (Je5 l2) (by simp only [maxLen];omega) (by omega) hbase
  exact ⟨v',w',hr,by unfold COwn;rw [Qe,ZW];exact h2,h3⟩
theorem ZR {base:Nat} {w:World} {ops:Array Oper} {rest:List Oper} {o:Oper} {a:Act} {Q:Exit->Act->World->Prop} (hgd:o.guard=none) (s x:Operand)
  (ho:o.op=.call { callee:=.builtin .append,args:= #[s,x],argTypes:= #[96,96] })
  {v:Value} {l:List (BA×Int)} (hv:a.eval s=v) (h:COwn base w v l) (xv:Value) (B:Nat) (l2:List (BA×Int)) (hx:a.eval x=xv) (hs:Jp B w xv l2) (hb:l.length+l2.length<=1000000000) (hbase:base<=w.heap.size)
  (hK:∀v' w',COwn base w' v' (l++l2)->w.grownBy w' v.ownBlock->wpList prog ops Q rest (a.put o.dst v') w'):wpList prog ops Q (o :: rest) a w:=by
 refine wpList_plain hgd λK hK'=>?_
 obtain ⟨v',w',hrun,r,r2⟩:=YX h xv B l2 hs o.type hb hbase
 unfold Oper.wp
 simp [execOp,ho,resolve,invoke,builtin,hv,hx,hrun,Result.andThen]
 exact hK' _ _ (hK v' w' r r2)
theorem YF {base:Nat} {ops:Array Oper} {o:Oper} {a:Act} {w:World} {K:Act->World->Prop} {Q:Exit->Act->World->Prop} {E:Prop}
  (hgd:o.guard=none) (s x:Operand) (ho:o.op=.call { callee:=.builtin .append,args:= #[s,x],argTypes:= #[96,96] })
  {v:Value} {l:List (BA×Int)} (hv:a.eval s=v) (h:COwn base w v l) (xv:Value) (B:Nat) (l2:List (BA×Int)) (hx:a.eval x=xv) (hs:Jp B w xv l2) (hb:l.length+l2.length<=1000000000) (hbase:base<=w.heap.size)
  (hK:∀v' w',COwn base w' v' (l++l2)->w.grownBy w' v.ownBlock->K (a.put o.dst v') w'):
  if Region.wanted o (yielded ops a.tmps)=true then Oper.wp prog o a w K Q else E:=by
 have hw:Region.wanted o (yielded ops a.tmps)=true:=by simp [Region.wanted,hgd]
 rw [if_pos hw]
 obtain ⟨v',w',hrun,r,r2⟩:=YX h xv B l2 hs o.type hb hbase
 unfold Oper.wp
 simp [execOp,ho,resolve,invoke,builtin,hv,hx,hrun,Result.andThen]
 exact hK v' w' r r2
theorem Jbm (W:World) (c:BA×Int):Jp (W.heap.size+1) (W.alloc (.cells #[.string c.1,.int .i64 c.2] 49)) (.slice (some ⟨W.heap.size,0,none⟩) 1 1) [c]:=by
 refine .inr ⟨W.heap.size,0,1,rfl,by omega,by simp,λi hi=>?_⟩
 obtain rfl:i=0:=by simpa using hi
 have hrow:=Qf W (.cells #[.string c.1,.int .i64 c.2] 49)
 exact ⟨Ja hrow,Ja hrow⟩

def outC (h:Nat×Nat):List Value:=[.int .u64 ((h.1:Nat):Int),.int .u8 ((h.2:Nat):Int)]
def outV (l:List (Nat×Nat)):List Value:=l.flatMap outC
theorem JaR (l:List (Nat×Nat)):(outV l).length=l.length * 2:=by
 induction l with
 | nil=>rfl
 | cons x r ih=>simp only [outV,QG,Qe] at ih ⊢;rw [ih];simp [outC];omega
theorem Jg0 (l:List (Nat×Nat)):∀u∈outV l,u.oneCell'=true:=by
 intro u hu
 simp only [outV,List.mem_flatMap,outC] at hu
 obtain ⟨x,_,hu⟩:=hu
 simp only [List.mem_cons,QD,or_false] at hu
 rcases hu with rfl | rfl <;> rfl
theorem JdA (l l':List (Nat×Nat)):outV (l++l')=outV l++outV l':=by simp [outV]
theorem JdB (l:List (Nat×Nat)):∀(i:Nat) (h:i<l.length),(outV l)[i * 2]? =some (.int .u64 ((l[i].1:Nat):Int))/\(outV l)[i * 2+1]? =some (.int .u8 ((l[i].2:Nat):Int)):=by
 induction l with
 | nil=>intro i h;simp at h
 | cons x r ih=>
  intro i h
  cases i with
  | zero=>simp [outV,outC]
  | succ i=>
   have e:∀j,(outV (x :: r))[(i+1) * 2+j]? =(outV r)[i * 2+j]? :=by
    intro j
    show (outC x++outV r)[(i+1) * 2+j]? =_
    rw [Qz (by simp [outC];omega)]
    congr 1;simp [outC];omega
   refine ⟨?_,?_⟩
   ·have:=e 0;rw [Nat.add_zero,Nat.add_zero] at this;rw [this];simpa using (ih i (by simpa using h)).1
   ·rw [e 1];simpa using (ih i (by simpa using h)).2
theorem Jl.cells {w:World} {g o:Nat} {l:List (Nat×Nat)} (h:∀i (h:i<l.length),w.cell? ⟨g,o+i * 2,none⟩=some (.int .u64 ((l[i].1:Nat):Int))/\w.cell? ⟨g,o+i * 2+1,none⟩=some (.int .u8 ((l[i].2:Nat):Int))):
  ∀j u,(outV l)[j]? =some u->w.cell? (Addr.add ⟨g,o,none⟩ j)=some u:=by
 intro j u hu
 have hj:j<l.length * 2:=by have:=(Qo.1 hu).1;rw [JaR] at this;exact this
 obtain ⟨e0,e1⟩:=JdB l (j / 2) (by omega)
 obtain ⟨f0,f1⟩:=h (j / 2) (by omega)
 rw [Addr.add_lit]
 obtain hm | hm:j % 2=0\/j % 2=1:=by omega
 ·rw [show j / 2 * 2=j by omega] at e0;rw [show o+j / 2 * 2=o+j by omega] at f0;rw [f0,<-e0,hu]
 ·rw [show j / 2 * 2+1=j by omega] at e1;rw [show o+j / 2 * 2+1=o+j by omega] at f1;rw [f1,<-e1,hu]
def OOwn (base:Nat) (w:World) (v:Value) (l:List (Nat×Nat)):Prop:=w.ownsRow base 80 2 v l.length (outV l)
theorem OOwn.nil (base:Nat) (w:World):OOwn base w (.slice none 0 0) []:=⟨rfl,.inl ⟨rfl,rfl⟩⟩
theorem OOwn.at {base:Nat} {w:World} {v:Value} {l:List (Nat×Nat)} (h:OOwn base w v l):Jl w.heap.size w v l:=by
 obtain ⟨_,⟨rfl,h0⟩ | ⟨g,cap,cur,rfl,_,hrow,_,_,hsz,htake⟩⟩:=h
 ·exact .inl ⟨rfl,QN h0⟩
 ·have hlt:=(Jb hrow)
  refine .inr ⟨g,0,cap,rfl,hlt,hlt,λi hi=>?_⟩
  obtain ⟨e0,e1⟩:=JdB l i hi
  have hc:∀j u,(outV l)[j]? =some u->w.cell? ⟨g,0+j,none⟩=some u:=by
   intro j u hu
   rw [<-htake] at hu
   have hj:=(Qo.1 hu).1
   rw [List.getElem?_take_of_lt (by rw [QB] at hj;omega)] at hu
   rw [Ja hrow,Nat.zero_add,<-Array.getElem?_toList]
   exact hu
  exact ⟨hc _ _ e0,hc _ _ e1⟩
theorem OOwn.own {base:Nat} {w:World} {v:Value} {l:List (Nat×Nat)} (h:OOwn base w v l):∀k,v.ownBlock=some k->base<=k/\k<w.heap.size:=by
 obtain ⟨_,⟨rfl,h0⟩ | ⟨g,cap,cur,rfl,hb,hrow,_⟩⟩:=h
 ·intro k hk;cases hk
 ·intro k hk;cases hk;exact ⟨hb,(Jb hrow)⟩
theorem OOwn.tch {base:Nat} {w w':World} {v:Value} {l:List (Nat×Nat)} {S:Nat->Prop} (h:OOwn base w v l) (k:Tch S w w') (hs:∀j,v.ownBlock=some j->¬S j):OOwn base w' v l:=by
 obtain ⟨h1,⟨rfl,h0⟩ | ⟨g,cap,cur,rfl,hb,hrow,h2⟩⟩:=h
 ·exact ⟨h1,.inl ⟨rfl,h0⟩⟩
 ·exact ⟨h1,.inr ⟨g,cap,cur,rfl,hb,(k.block g (Jb hrow) (hs g rfl)).trans hrow,h2⟩⟩
theorem OOwn.shape {base:Nat} {w:World} {v:Value} {l:List (Nat×Nat)} (h:OOwn base w v l):∃a c,v=.slice a l.length c:=h.at.shape
theorem OOwn.shape3 {base:Nat} {w:World} {v:Value} {l:List (Nat×Nat)} (h:OOwn base w v l):∃a m c,v=.slice a m c:=by
 obtain ⟨a,c,h⟩:=h.shape
 exact ⟨a,_,c,h⟩
theorem JgJ:(prog.info? 80).map (λi=>(i.zero,i.size,i.bytes))=some (some (.agg #[.int .u64 0,.int .u8 0]),2,16):=by kernel_rfl
theorem Jbz {base:Nat} {w:World} {v:Value} {l:List (Nat×Nat)} (h:OOwn base w v l) (x:Value) (B:Nat) (l2:List (Nat×Nat)) (hx:Jl B w x l2) (ty:TypeId) (hb:l.length+l2.length<=1000000000) (hbase:base<=w.heap.size):
  ∃v' w',(Builtin.append_ #[22,22] ty #[v,x]).run prog w=.ok v' w'/\OOwn base w' v' (l++l2)/\w.grownBy w' v.ownBlock:=by
 obtain ⟨i,hi,hp⟩:=Option.map_eq_some_iff.1 JgJ
 simp only [Qw] at hp
 obtain ⟨hz,hsz,hby⟩:=hp
 rcases hx with ⟨rfl,rfl⟩ | ⟨g,o,c,rfl,_,hg,hcell⟩
 ·exact ⟨v,w,run_append_owned_none (P:=prog) (w:=w) base 22 ty 80 i 2 underlying22 hi v l.length (outV l) h,by rw [QC];exact h,World.grownBy.refl _ _⟩
 ·obtain ⟨v',w',hr,h2,h3,h4⟩:=run_append_own (P:=prog) w base 22 ty 80 i _ 2 16 underlying22 hi hz hsz hby rfl (by omega) v l.length (outV l) h ⟨g,o,none⟩ l2.length c (outV l2) (JaR l2) (Jl.cells hcell) (Jg0 l2) (by simp only [maxLen];omega) (by omega) hbase
  exact ⟨v',w',hr,by unfold OOwn;rw [Qe,JdA];exact h2,h3⟩
theorem XN {base:Nat} {w:World} {ops:Array Oper} {rest:List Oper} {o:Oper} {a:Act} {Q:Exit->Act->World->Prop} (hgd:o.guard=none) (s x:Operand)
  (ho:o.op=.call { callee:=.builtin .append,args:= #[s,x],argTypes:= #[22,22] })
  {v:Value} {l:List (Nat×Nat)} (hv:a.eval s=v) (h:OOwn base w v l) (xv:Value) (B:Nat) (l2:List (Nat×Nat)) (hx:a.eval x=xv) (hs:Jl B w xv l2) (hb:l.length+l2.length<=1000000000) (hbase:base<=w.heap.size)
  (hK:∀v' w',OOwn base w' v' (l++l2)->w.grownBy w' v.ownBlock->wpList prog ops Q rest (a.put o.dst v') w'):wpList prog ops Q (o :: rest) a w:=by
 refine wpList_plain hgd λK hK'=>?_
 obtain ⟨v',w',hrun,r,r2⟩:=Jbz h xv B l2 hs o.type hb hbase
 unfold Oper.wp
 simp [execOp,ho,resolve,invoke,builtin,hv,hx,hrun,Result.andThen]
 exact hK' _ _ (hK v' w' r r2)
theorem JcJ (W:World) (c:Nat×Nat):Jl (W.heap.size+1) (W.alloc (.cells #[.int .u64 ((c.1:Nat):Int),.int .u8 ((c.2:Nat):Int)] 80)) (.slice (some ⟨W.heap.size,0,none⟩) 1 1) [c]:=by
 refine .inr ⟨W.heap.size,0,1,rfl,by omega,by simp,λi hi=>?_⟩
 obtain rfl:i=0:=by simpa using hi
 have hrow:=Qf W (.cells #[.int .u64 ((c.1:Nat):Int),.int .u8 ((c.2:Nat):Int)] 80)
 exact ⟨Ja hrow,Ja hrow⟩

def txC (h:Sl×Sl):List Value:=[.slice h.1.1 h.1.2.1 h.1.2.2,.slice h.2.1 h.2.2.1 h.2.2.2]
def txV (l:List (Sl×Sl)):List Value:=l.flatMap txC
theorem JbK (l:List (Sl×Sl)):(txV l).length=l.length * 2:=by
 induction l with
 | nil=>rfl
 | cons x r ih=>simp only [txV,QG,Qe] at ih ⊢;rw [ih];simp [txC];omega
theorem Jid (l:List (Sl×Sl)):∀u∈txV l,u.oneCell'=true:=by
 intro u hu
 simp only [txV,List.mem_flatMap,txC] at hu
 obtain ⟨x,_,hu⟩:=hu
 simp only [List.mem_cons,QD,or_false] at hu
 rcases hu with rfl | rfl <;> rfl
theorem Jey (l l':List (Sl×Sl)):txV (l++l')=txV l++txV l':=by simp [txV]
theorem JeQ (l:List (Sl×Sl)):∀(i:Nat) (h:i<l.length),(txV l)[i * 2]? =some (.slice l[i].1.1 l[i].1.2.1 l[i].1.2.2)/\(txV l)[i * 2+1]? =some (.slice l[i].2.1 l[i].2.2.1 l[i].2.2.2):=by
 induction l with
 | nil=>intro i h;simp at h
 | cons x r ih=>
  intro i h
  cases i with
  | zero=>simp [txV,txC]
  | succ i=>
   have e:∀j,(txV (x :: r))[(i+1) * 2+j]? =(txV r)[i * 2+j]? :=by
    intro j
    show (txC x++txV r)[(i+1) * 2+j]? =_
    rw [Qz (by simp [txC];omega)]
    congr 1;simp [txC];omega
   refine ⟨?_,?_⟩
   ·have:=e 0;rw [Nat.add_zero,Nat.add_zero] at this;rw [this];simpa using (ih i (by simpa using h)).1
   ·rw [e 1];simpa using (ih i (by simpa using h)).2
theorem JS.cells {w:World} {g o:Nat} {l:List (Sl×Sl)} (h:∀i (h:i<l.length),w.cell? ⟨g,o+i * 2,none⟩=some (.slice l[i].1.1 l[i].1.2.1 l[i].1.2.2)/\w.cell? ⟨g,o+i * 2+1,none⟩=some (.slice l[i].2.1 l[i].2.2.1 l[i].2.2.2)):
  ∀j u,(txV l)[j]? =some u->w.cell? (Addr.add ⟨g,o,none⟩ j)=some u:=by
 intro j u hu
 have hj:j<l.length * 2:=by have:=(Qo.1 hu).1;rw [JbK] at this;exact this
 obtain ⟨e0,e1⟩:=JeQ l (j / 2) (by omega)
 obtain ⟨f0,f1⟩:=h (j / 2) (by omega)
 rw [Addr.add_lit]
 obtain hm | hm:j % 2=0\/j % 2=1:=by omega
 ·rw [show j / 2 * 2=j by omega] at e0;rw [show o+j / 2 * 2=o+j by omega] at f0;rw [f0,<-e0,hu]
 ·rw [show j / 2 * 2+1=j by omega] at e1;rw [show o+j / 2 * 2+1=o+j by omega] at f1;rw [f1,<-e1,hu]
def TOwn (base:Nat) (w:World) (v:Value) (l:List (Sl×Sl)):Prop:=w.ownsRow base 98 2 v l.length (txV l)
theorem TOwn.at {base:Nat} {w:World} {v:Value} {l:List (Sl×Sl)} (h:TOwn base w v l):JS w.heap.size w v l:=by
 obtain ⟨_,⟨rfl,h0⟩ | ⟨g,cap,cur,rfl,_,hrow,_,_,hsz,htake⟩⟩:=h
 ·exact .inl ⟨rfl,QN h0⟩
 ·have hlt:=(Jb hrow)
  refine .inr ⟨g,0,cap,rfl,hlt,hlt,λi hi=>?_⟩
  obtain ⟨e0,e1⟩:=JeQ l i hi
  have hc:∀j u,(txV l)[j]? =some u->w.cell? ⟨g,0+j,none⟩=some u:=by
   intro j u hu
   rw [<-htake] at hu
   have hj:=(Qo.1 hu).1
   rw [List.getElem?_take_of_lt (by rw [QB] at hj;omega)] at hu
   rw [Ja hrow,Nat.zero_add,<-Array.getElem?_toList]
   exact hu
  exact ⟨hc _ _ e0,hc _ _ e1⟩
theorem TOwn.own {base:Nat} {w:World} {v:Value} {l:List (Sl×Sl)} (h:TOwn base w v l):∀k,v.ownBlock=some k->base<=k/\k<w.heap.size:=by
 obtain ⟨_,⟨rfl,h0⟩ | ⟨g,cap,cur,rfl,hb,hrow,_⟩⟩:=h
 ·intro k hk;cases hk
 ·intro k hk;cases hk;exact ⟨hb,(Jb hrow)⟩
theorem TOwn.tch {base:Nat} {w w':World} {v:Value} {l:List (Sl×Sl)} {S:Nat->Prop} (h:TOwn base w v l) (k:Tch S w w') (hs:∀j,v.ownBlock=some j->¬S j):TOwn base w' v l:=by
 obtain ⟨h1,⟨rfl,h0⟩ | ⟨g,cap,cur,rfl,hb,hrow,h2⟩⟩:=h
 ·exact ⟨h1,.inl ⟨rfl,h0⟩⟩
 ·exact ⟨h1,.inr ⟨g,cap,cur,rfl,hb,(k.block g (Jb hrow) (hs g rfl)).trans hrow,h2⟩⟩
theorem TOwn.shape {base:Nat} {w:World} {v:Value} {l:List (Sl×Sl)} (h:TOwn base w v l):∃a c,v=.slice a l.length c:=h.at.shape
theorem TOwn.shape3 {base:Nat} {w:World} {v:Value} {l:List (Sl×Sl)} (h:TOwn base w v l):∃a m c,v=.slice a m c:=by
 obtain ⟨a,c,h⟩:=h.shape
 exact ⟨a,_,c,h⟩
theorem JhN:(prog.info? 98).map (λi=>(i.zero,i.size,i.bytes))=some (some (.agg #[.slice none 0 0,.slice none 0 0]),2,48):=by kernel_rfl
theorem JbW {base:Nat} {w:World} {v:Value} {l:List (Sl×Sl)} (h:TOwn base w v l) (x:Value) (B:Nat) (l2:List (Sl×Sl)) (hx:JS B w x l2) (ty:TypeId) (hb:l.length+l2.length<=1000000000) (hbase:base<=w.heap.size):
  ∃v' w',(Builtin.append_ #[73,73] ty #[v,x]).run prog w=.ok v' w'/\TOwn base w' v' (l++l2)/\w.grownBy w' v.ownBlock:=by
 obtain ⟨i,hi,hp⟩:=Option.map_eq_some_iff.1 JhN
 simp only [Qw] at hp
 obtain ⟨hz,hsz,hby⟩:=hp
 rcases hx with ⟨rfl,rfl⟩ | ⟨g,o,c,rfl,_,hg,hcell⟩
 ·exact ⟨v,w,run_append_owned_none (P:=prog) (w:=w) base 73 ty 98 i 2 underlying73 hi v l.length (txV l) h,by rw [QC];exact h,World.grownBy.refl _ _⟩
 ·obtain ⟨v',w',hr,h2,h3,h4⟩:=run_append_own (P:=prog) w base 73 ty 98 i _ 2 48 underlying73 hi hz hsz hby rfl (by omega) v l.length (txV l) h ⟨g,o,none⟩ l2.length c (txV l2) (JbK l2) (JS.cells hcell) (Jid l2) (by simp only [maxLen];omega) (by omega) hbase
  exact ⟨v',w',hr,by unfold TOwn;rw [Qe,Jey];exact h2,h3⟩
theorem JaG {base:Nat} {w:World} {ops:Array Oper} {rest:List Oper} {o:Oper} {a:Act} {Q:Exit->Act->World->Prop} (hgd:o.guard=none) (s x:Operand)
  (ho:o.op=.call { callee:=.builtin .append,args:= #[s,x],argTypes:= #[73,73] })
  {v:Value} {l:List (Sl×Sl)} (hv:a.eval s=v) (h:TOwn base w v l) (xv:Value) (B:Nat) (l2:List (Sl×Sl)) (hx:a.eval x=xv) (hs:JS B w xv l2) (hb:l.length+l2.length<=1000000000) (hbase:base<=w.heap.size)
  (hK:∀v' w',TOwn base w' v' (l++l2)->w.grownBy w' v.ownBlock->wpList prog ops Q rest (a.put o.dst v') w'):wpList prog ops Q (o :: rest) a w:=by
 refine wpList_plain hgd λK hK'=>?_
 obtain ⟨v',w',hrun,r,r2⟩:=JbW h xv B l2 hs o.type hb hbase
 unfold Oper.wp
 simp [execOp,ho,resolve,invoke,builtin,hv,hx,hrun,Result.andThen]
 exact hK' _ _ (hK v' w' r r2)
theorem JiR (W:World) (c:Sl×Sl):JS (W.heap.size+1) (W.alloc (.cells #[.slice c.1.1 c.1.2.1 c.1.2.2,.slice c.2.1 c.2.2.1 c.2.2.2] 98)) (.slice (some ⟨W.heap.size,0,none⟩) 1 1) [c]:=by
 refine .inr ⟨W.heap.size,0,1,rfl,by omega,by simp,λi hi=>?_⟩
 obtain rfl:i=0:=by simpa using hi
 have hrow:=Qf W (.cells #[.slice c.1.1 c.1.2.1 c.1.2.2,.slice c.2.1 c.2.2.1 c.2.2.2] 98)
 exact ⟨Ja hrow,Ja hrow⟩

def RdOk {α:Type} (f:PS->Option (α×PS)) (Ok:α->Prop) (m:Nat):Prop:=∀q r y p',f (.rd q r)=some (y,p')->∃b r',b.length<=m/\r=b++r'/\p'=.rd (q++b) r'/\Ok y
theorem Yp (x k:Nat):RdOk (PS.num x k) (λn=>n<256 ^ k) k:=by
 intro q r y p' h
 simp only [PS.num] at h
 split at h
 ·rename_i hk
  cases h
  refine ⟨r.take k,r.drop k,by simp;omega,(List.take_append_drop k r).symm,rfl,?_⟩
  have:=JcL (r.take k)
  rwa [QB,Nat.min_eq_left hk] at this
 ·cases h
theorem Jah (s:List UInt8) (k:Nat):RdOk (PS.txt s k) (λt=>t.length=k) k:=by
 intro q r y p' h
 simp only [PS.txt] at h
 split at h
 ·rename_i hk
  cases h
  exact ⟨r.take k,r.drop k,by simp;omega,(List.take_append_drop k r).symm,rfl,by simp;omega⟩
 ·cases h
theorem RdOk.bind {α β:Type} {f:PS->Option (α×PS)} {g:α->PS->Option (β×PS)} {h:PS->Option (β×PS)} {A:α->Prop} {B:β->Prop} {m n:Nat} (hf:RdOk f A m) (hg:∀a,A a->RdOk (g a) B n) (hh:∀p y p',h p=some (y,p')->∃a p1,f p=some (a,p1)/\g a p1=some (y,p')):RdOk h B (m+n):=by
 intro q r y p' e
 obtain ⟨a,p1,e1,e2⟩:=hh _ _ _ e
 obtain ⟨b,r1,l1,rfl,rfl,ha⟩:=hf _ _ _ _ e1
 obtain ⟨b2,r2,l2,rfl,rfl,hb⟩:=hg a ha _ _ _ _ e2
 exact ⟨b++b2,r2,by rw [Qe];omega,by rw [Qs],by rw [Qs],hb⟩
theorem RdOk.mono {α:Type} {f:PS->Option (α×PS)} {A B:α->Prop} {m n:Nat} (h:RdOk f A m) (hab:∀a,A a->B a) (hmn:m<=n):RdOk f B n:=by
 intro q r y p' e
 obtain ⟨b,r1,l1,e1,e2,ha⟩:=h _ _ _ _ e
 exact ⟨b,r1,by omega,e1,e2,hab _ ha⟩
theorem RdOk.ret {α:Type} (y:α) {A:α->Prop} (h:A y):RdOk (λp=>some (y,p)) A 0:=by
 intro q r z p' e
 cases e
 exact ⟨[],r,Ql _,rfl,by rw [QC],h⟩
theorem Jg7 (a o:Nat):RdOk (PS.out a o) Jq 9:=by
 refine RdOk.bind (n:=1) (Yp a 8) (g:=λn p=>(p.num o 1).bind λq=>some ((n,q.1),q.2)) (λn hn=>?_) ?_
 ·refine RdOk.bind (n:=0) (Yp o 1) (g:=λk p=>some ((n,k),p)) (λk hk=>RdOk.ret (n,k) ⟨by simpa using hn,by simpa using hk⟩) ?_
  intro p y p' e
  cases h1:p.num o 1 with
  | none=>rw [h1] at e;cases e
  | some r=>rw [h1] at e;cases e;exact ⟨_,_,rfl,rfl⟩
 ·intro p y p' e
  unfold PS.out at e
  cases h1:p.num a 8 with
  | none=>rw [h1] at e;cases e
  | some r=>
   obtain ⟨n,p1⟩:=r
   rw [h1] at e
   dsimp only at e
   refine ⟨n,p1,rfl,?_⟩
   cases h2:p1.num o 1 with
   | none=>rw [h2] at e;cases e
   | some r2=>obtain ⟨k,p2⟩:=r2;rw [h2] at e;cases e;rfl
theorem JfJ (wd:Nat) (c:BA×Int):RdOk (PS.coin wd c) (Jr wd) (wd+1):=by
 intro q r y p' e
 unfold PS.coin at e
 cases h1:(PS.rd q r).txt c.1.data.toList wd with
 | none=>rw [h1] at e;cases e
 | some r1=>
  obtain ⟨t,p1⟩:=r1
  rw [h1] at e
  dsimp only at e
  obtain ⟨b,r',l1,rfl,rfl,ht⟩:=Jah _ _ _ _ _ _ h1
  cases h2:(PS.rd (q++b) r').num (Jt c.2) 1 with
  | none=>rw [h2] at e;cases e
  | some r2=>
   obtain ⟨m,p2⟩:=r2
   rw [h2] at e
   dsimp only at e
   obtain ⟨b2,r2',l2,rfl,rfl,hm⟩:=Yp _ _ _ _ _ _ h2
   split at e
   ·rename_i h3
    cases e
    exact ⟨b++b2,r2',by rw [Qe];omega,by rw [Qs],by rw [Qs],by show t.toArray.size=_;simpa using ht,by show (0:Int)<=(m:Int);omega,by show (m:Int)<3;omega⟩
   ·cases e
theorem Jej (wd:Nat):∀(l:List (BA×Int)),RdOk (PS.coins wd l) (λys=>ys.length=l.length/\∀y∈ys,Jr wd y) (l.length * (wd+1)):=by
 intro l
 induction l with
 | nil=>rw [Qv,Nat.zero_mul];exact RdOk.ret [] ⟨rfl,λ_ h=>by cases h⟩
 | cons x r ih=>
  refine (RdOk.bind (B:=λys=>ys.length=r.length+1/\∀y∈ys,Jr wd y) (n:=r.length * (wd+1)) (JfJ wd x) (g:=λy p=>(PS.coins wd r p).bind λq=>some (y :: q.1,q.2)) (λy hy=>?_) ?_).mono (λ_ h=>h) (by rw [Qp,Nat.succ_mul];omega)
  ·have:=RdOk.bind (n:=0) (h:=λp=>(PS.coins wd r p).bind λq=>some (y :: q.1,q.2)) ih (g:=λys p=>some (y :: ys,p)) (B:=λys=>ys.length=r.length+1/\∀y∈ys,Jr wd y) (λys hys=>RdOk.ret (y :: ys) ⟨by simp [hys.1],λz hz=>by rcases List.mem_cons.1 hz with rfl | hz;exact hy;exact hys.2 z hz⟩) (λp z p' e=>by
    cases h1:PS.coins wd r p with
    | none=>rw [h1] at e;cases e
    | some r=>rw [h1] at e;cases e;exact ⟨_,_,rfl,rfl⟩)
   rwa [Nat.add_zero] at this
  ·intro p z p' e
   unfold PS.coins at e
   cases h1:p.coin wd x with
   | none=>rw [h1] at e;cases e
   | some r1=>
    obtain ⟨y,p1⟩:=r1
    rw [h1] at e
    dsimp only at e
    refine ⟨y,p1,rfl,?_⟩
    cases h2:PS.coins wd r p1 with
    | none=>rw [h2] at e;cases e
    | some r2=>obtain ⟨ys,p2⟩:=r2;rw [h2] at e;cases e;rfl
theorem JfK:∀(l:List (Nat×Nat)),RdOk (PS.outs l) (λys=>ys.length=l.length/\∀y∈ys,Jq y) (l.length * 9):=by
 intro l
 induction l with
 | nil=>rw [Qv,Nat.zero_mul];exact RdOk.ret [] ⟨rfl,λ_ h=>by cases h⟩
 | cons x r ih=>
  refine (RdOk.bind (B:=λys=>ys.length=r.length+1/\∀y∈ys,Jq y) (n:=r.length * 9) (Jg7 x.1 x.2) (g:=λy p=>(PS.outs r p).bind λq=>some (y :: q.1,q.2)) (λy hy=>?_) ?_).mono (λ_ h=>h) (by rw [Qp,Nat.succ_mul];omega)
  ·have:=RdOk.bind (n:=0) (h:=λp=>(PS.outs r p).bind λq=>some (y :: q.1,q.2)) ih (g:=λys p=>some (y :: ys,p)) (B:=λys=>ys.length=r.length+1/\∀y∈ys,Jq y) (λys hys=>RdOk.ret (y :: ys) ⟨by simp [hys.1],λz hz=>by rcases List.mem_cons.1 hz with rfl | hz;exact hy;exact hys.2 z hz⟩) (λp z p' e=>by
    cases h1:PS.outs r p with
    | none=>rw [h1] at e;cases e
    | some r=>rw [h1] at e;cases e;exact ⟨_,_,rfl,rfl⟩)
   rwa [Nat.add_zero] at this
  ·intro p z p' e
   unfold PS.outs at e
   cases h1:p.out x.1 x.2 with
   | none=>rw [h1] at e;cases e
   | some r1=>
    obtain ⟨y,p1⟩:=r1
    rw [h1] at e
    dsimp only at e
    refine ⟨y,p1,rfl,?_⟩
    cases h2:PS.outs r p1 with
    | none=>rw [h2] at e;cases e
    | some r2=>obtain ⟨ys,p2⟩:=r2;rw [h2] at e;cases e;rfl
theorem JbD (n:Nat):(Yc [] n).length=n:=by simp [Yc]
theorem JbE (n:Nat):(Yd [] n).length=n:=by simp [Yd]
theorem Jek (wd least:Nat) (hw:wd<=32):RdOk (PS.listC wd least 3 []) (λys=>least<=ys.length/\ys.length<=3/\∀y∈ys,Jr wd y) 100:=by
 refine (RdOk.bind (n:=99) (Yp 0 1) (g:=λcnt p=>if cnt<least\/3<cnt then none else PS.coins wd (Yc [] cnt) p) (λcnt _=>?_) ?_).mono (λ_ h=>h) (by omega)
 ·by_cases h:cnt<least\/3<cnt
  ·intro q r y p' e;simp only [if_pos h] at e;cases e
  ·simp only [if_neg h]
   refine (Jej wd (Yc [] cnt)).mono (λys hy=>?_) ?_
   ·rw [JbD] at hy;exact ⟨by omega,by omega,hy.2⟩
   ·rw [JbD];have:cnt * (wd+1)<=3 * 33:=Nat.mul_le_mul (by omega) (by omega);omega
 ·intro p y p' e
  unfold PS.listC at e
  cases h1:p.num ([]:List (BA×Int)).length 1 with
  | none=>rw [h1] at e;cases e
  | some r1=>obtain ⟨cnt,p1⟩:=r1;rw [h1] at e;exact ⟨cnt,p1,rfl,e⟩
theorem Jel:RdOk (PS.listO 0 3 []) (λys=>ys.length<=3/\∀y∈ys,Jq y) 28:=by
 refine (RdOk.bind (n:=27) (Yp 0 1) (g:=λcnt p=>if cnt<0\/3<cnt then none else PS.outs (Yd [] cnt) p) (λcnt _=>?_) ?_).mono (λ_ h=>h) (by omega)
 ·by_cases h:cnt<0\/3<cnt
  ·intro q r y p' e;simp only [if_pos h] at e;cases e
  ·simp only [if_neg h]
   refine (JfK (Yd [] cnt)).mono (λys hy=>?_) ?_
   ·rw [JbE] at hy;exact ⟨by omega,hy.2⟩
   ·rw [JbE];omega
 ·intro p y p' e
  unfold PS.listO at e
  cases h1:p.num ([]:List (Nat×Nat)).length 1 with
  | none=>rw [h1] at e;cases e
  | some r1=>obtain ⟨cnt,p1⟩:=r1;rw [h1] at e;exact ⟨cnt,p1,rfl,e⟩
theorem Jh5 (wd:Nat) (hw:wd<=32):RdOk (PS.tx wd ([],[])) (TxOk wd) 128:=by
 refine RdOk.bind (n:=28) (Jek wd 1 hw) (g:=λys p=>(p.listO 0 3 []).bind λq=>some ((ys,q.1),q.2)) (λys hy=>?_) ?_
 ·refine RdOk.bind (n:=0) Jel (g:=λzs p=>some ((ys,zs),p)) (λzs hz=>RdOk.ret (ys,zs) ⟨hy.2.2,hz.2,hy.1,hy.2.1,hz.1⟩) ?_
  intro p y p' e
  cases h1:p.listO 0 3 [] with
  | none=>rw [h1] at e;cases e
  | some r=>rw [h1] at e;cases e;exact ⟨_,_,rfl,rfl⟩
 ·intro p y p' e
  unfold PS.tx at e
  cases h1:p.listC wd 1 3 [] with
  | none=>rw [h1] at e;cases e
  | some r=>
   obtain ⟨ys,p1⟩:=r
   rw [h1] at e
   dsimp only at e
   refine ⟨ys,p1,rfl,?_⟩
   cases h2:p1.listO 0 3 [] with
   | none=>rw [h2] at e;cases e
   | some r2=>obtain ⟨k,p2⟩:=r2;rw [h2] at e;cases e;rfl
theorem Jg8 (wd:Nat) (hw:wd<=32):∀n,RdOk (PS.txs wd (List.replicate n ([],[]))) (λys=>ys.length=n/\∀y∈ys,TxOk wd y) (n * 128):=by
 intro n
 induction n with
 | zero=>rw [Nat.zero_mul];exact RdOk.ret [] ⟨rfl,λ_ h=>by cases h⟩
 | succ n ih=>
  rw [List.replicate_succ]
  refine (RdOk.bind (B:=λys=>ys.length=n+1/\∀y∈ys,TxOk wd y) (n:=n * 128) (Jh5 wd hw) (g:=λy p=>(PS.txs wd (List.replicate n ([],[])) p).bind λq=>some (y :: q.1,q.2)) (λy hy=>?_) ?_).mono (λ_ h=>h) (by omega)
  ·have:=RdOk.bind (n:=0) (h:=λp=>(PS.txs wd (List.replicate n ([],[])) p).bind λq=>some (y :: q.1,q.2)) ih (g:=λys p=>some (y :: ys,p)) (B:=λys=>ys.length=n+1/\∀y∈ys,TxOk wd y) (λys hys=>RdOk.ret (y :: ys) ⟨by simp [hys.1],λz hz=>by rcases List.mem_cons.1 hz with rfl | hz;exact hy;exact hys.2 z hz⟩) (λp z p' e=>by
    cases h1:PS.txs wd (List.replicate n ([],[])) p with
    | none=>rw [h1] at e;cases e
    | some r=>rw [h1] at e;cases e;exact ⟨_,_,rfl,rfl⟩)
   rwa [Nat.add_zero] at this
  ·intro p z p' e
   unfold PS.txs at e
   cases h1:p.tx wd ([],[]) with
   | none=>rw [h1] at e;cases e
   | some r1=>
    obtain ⟨y,p1⟩:=r1
    rw [h1] at e
    dsimp only at e
    refine ⟨y,p1,rfl,?_⟩
    cases h2:PS.txs wd (List.replicate n ([],[])) p1 with
    | none=>rw [h2] at e;cases e
    | some r2=>obtain ⟨ys,p2⟩:=r2;rw [h2] at e;cases e;rfl
theorem Zt (wd:Nat) (hw:wd<=32):RdOk (PS.body wd []) (λts=>ts.length<=3/\∀t∈ts,TxOk wd t) 385:=by
 refine RdOk.bind (m:=1) (n:=384) (Yp 0 1) (g:=λcnt p=>if 3<cnt then none else PS.txs wd (YR [] cnt) p) (λcnt _=>?_) ?_
 ·by_cases h:3<cnt
  ·intro q r y p' e;simp only [if_pos h] at e;cases e
  ·simp only [if_neg h]
   exact (Jg8 wd hw cnt).mono (λys hy=>⟨by omega,hy.2⟩) (by omega)
 ·intro p y p' e
  unfold PS.body at e
  cases h1:p.num ([]:List TxL).length 1 with
  | none=>rw [h1] at e;cases e
  | some r1=>obtain ⟨cnt,p1⟩:=r1;rw [h1] at e;exact ⟨cnt,p1,rfl,e⟩
theorem JdG (wd:Nat) (hw:wd<=32) (z:HdL):RdOk (PS.hdr wd z) (HdOk wd) 100:=by
 intro q r y p' e
 unfold PS.hdr at e
 cases h1:(PS.rd q r).num z.1 4 with
 | none=>rw [h1] at e;cases e
 | some r1=>
  obtain ⟨n,p1⟩:=r1
  rw [h1] at e
  dsimp only at e
  obtain ⟨b1,s1,l1,rfl,rfl,k1⟩:=Yp _ _ _ _ _ _ h1
  cases h2:(PS.rd (q++b1) s1).txt z.2.1.data.toList wd with
  | none=>rw [h2] at e;cases e
  | some r2=>
   obtain ⟨t2,p2⟩:=r2
   rw [h2] at e
   dsimp only at e
   obtain ⟨b2,s2,l2,rfl,rfl,k2⟩:=Jah _ _ _ _ _ _ h2
   cases h3:(PS.rd (q++b1++b2) s2).txt z.2.2.1.data.toList wd with
   | none=>rw [h3] at e;cases e
   | some r3=>
    obtain ⟨t3,p3⟩:=r3
    rw [h3] at e
    dsimp only at e
    obtain ⟨b3,s3,l3,rfl,rfl,k3⟩:=Jah _ _ _ _ _ _ h3
    cases h4:(PS.rd (q++b1++b2++b3) s3).txt z.2.2.2.data.toList wd with
    | none=>rw [h4] at e;cases e
    | some r4=>
     obtain ⟨t4,p4⟩:=r4
     rw [h4] at e
     dsimp only at e
     obtain ⟨b4,s4,l4,rfl,rfl,k4⟩:=Jah _ _ _ _ _ _ h4
     cases e
     refine ⟨b1++b2++b3++b4,s4,by simp only [Qe];omega,by simp only [Qs],by simp only [Qs],?_⟩
     exact ⟨by simpa using k1,(List.size_toArray).trans k2,(List.size_toArray).trans k3,(List.size_toArray).trans k4⟩
