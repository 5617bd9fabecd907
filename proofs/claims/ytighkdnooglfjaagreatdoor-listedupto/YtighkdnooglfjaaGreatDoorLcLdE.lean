import Derived.Test.YtighkdnooglfjaaGreatDoorRows
import Derived.ProofKit
import Derived.LaidMore
import Derived.Stop.LaidErr
import Derived.Test.YtighkdnooglfjaaGreatDoorLcLiD
import Derived.OpenShut
import Derived.Deep.SlicePairs
import Derived.Test.YtighkdnooglfjaaGreatDoorLcRgC
namespace Go.Proofs.YtighkdnooglfjaaGreatDoor
open Go.Proofs.Tryz
set_option maxRecDepth 100000
open Go.ChangeShapes Go.WideShapes Go.ChangeAt Go.RowKit

variable {s:List BA}{cs:List Value}{b base fuel n wj:Nat}{v:Value}{W w:World}
theorem Jow(u:TypeId)(h:prog.typeName? 3 u=some "*errors.errorString"):u=509:=
 have star: "*" ++ "errors.errorString" = "*errors.errorString" :=by decide
 typeName_ptr_named (nm:= "errors.errorString") (by rw[star];kernel_rfl) (by kernel_rfl) (by decide) u (by rw[star];exact h)
theorem JkF:prog.cellsOf 531=1:=by kernel_rfl
theorem JkG:prog.cellsOf 9=1:=by kernel_rfl
def JbX(W:World)(g:Nat)(text:List UInt8):Prop:=∃(a:Addr)(s:BA)(ca:Array Value)(ta:TypeId),W.cell? ⟨g,0,none⟩=some (.iface 509 (.pointer (some a)))/\W.cell? a=some (.string s)/\s.data.toList=text/\W.heap[a.block]? =some (.cells ca ta (0,0))
theorem XI{n:String}{g:Nat}{text:List UInt8}{r:List (String×DataW Unit)}(h:laidMet prog ((n,.iface "*errors.errorString" (.ptr (.agg [.lit (.string text)])))::r) W) (hg:prog.globalNamed n=some g) (ht:(prog.globals[g]?).map (·.type)=some 92):JbX W g text:=by
 obtain⟨ps,⟨g0,t0,cs0,f0,p0,q0,hg0,ht0,hv0,hd0,_,e0⟩,_,hrows⟩:=h;obtain rfl:=Option.some.inj (hg.symm.trans hg0);obtain rfl:=Option.some.inj (ht.symm.trans ht0);subst e0;obtain⟨l0⟩:=cs0;have ok0:∀u v,l0=[.iface u v]->Value.okWide prog W .any 0 u v:=λu v e=>by
  subst e;exact(hrows g 0 (by simp[MemPlace.row])).2 u v ((World.var?_cell hg0 hv0 0).trans rfl)
 obtain⟨a0,s0,rfl,hc0,hs0,hz0,rfl⟩:=errorString_of_trod underlying92 Jow underlying509 underlying531 rfl rfl underlying9 JkF JkG hd0 ok0;obtain⟨ca,ta,hb⟩:=(hrows a0.block a0.off (by simp[MemPlace.row])).1;exact⟨a0,s0,ca,ta,(World.var?_cell hg0 hv0 0).trans rfl,hc0,hs0,hb⟩
def txOf:DataW Unit->List UInt8
 | .iface _ (.ptr (.agg [.lit (.string t)]))=>t
 | _=>[]
def tx(g:Nat):List UInt8:=txOf (if g=0 then Rows.laid_trove_fault_Tip else if g=1 then Rows.laid_trove_fault_Input else if g=2 then Rows.laid_trove_fault_Exists else if g=3 then Rows.laid_trove_fault_Sum else if g=4 then Rows.laid_trove_fault_Root else if g=5 then Rows.laid_trove_fault_Range else if g=6 then Rows.laid_trove_fault_Torn else Rows.laid_trove_fault_Form)
theorem Jn1:∀g∈Ss,∀h∈Ss,tx g=tx h->g=h:=by decide
theorem Jnu(hS:∀g∈Ss,JbX W g (tx g))(hsz:18<=W.heap.size)(hpow:Lib.TabIs prog W "internal/strconv.uint64pow10" .u64 Lib.pow10Tab) (htab:∀i,i<64->W.cell? ⟨13,i,none⟩=some (.int .u32 (Ks.getD i 0))):
  ∃E:Nat->Addr,Env E W/\Sent E W/\∀g∈Ss,(E g).block<W.heap.size:=by
 classical
 let E:Nat->Addr:=λg=>if h:g∈Ss then Classical.choose (hS g h) else ⟨0,0,none⟩
 have hE:∀g (h:g∈Ss),∃(s:BA)(ca:Array Value)(ta:TypeId),W.cell? ⟨g,0,none⟩=some (.iface 509 (.pointer (some (E g))))/\W.cell? (E g)=some (.string s)/\s.data.toList=tx g/\W.heap[(E g).block]? =some (.cells ca ta (0,0)):=λg h=>by
  have e:E g=Classical.choose (hS g h):=dif_pos h;rw[e];exact Classical.choose_spec (hS g h)
 have hc:∀g,g∈Ss->W.cell? ⟨g,0,none⟩=some (.iface 509 (.pointer (some (E g)))):=λg h=>by obtain⟨_,_,_,h1,_⟩:=hE g h;exact h1
 refine⟨E,⟨hsz,hc _ (by decide),hc _ (by decide),hc _ (by decide),hc _ (by decide),hc _ (by decide),hc _ (by decide),hc _ (by decide),hc _ (by decide),hpow,htab⟩,⟨λg hg=>?_,λg hg h hh e=>?_⟩,λg hg=>?_⟩
 ·obtain⟨_,ca,ta,_,_,_,h4⟩:=hE g hg;exact⟨ca,ta,h4⟩
 ·obtain⟨s,_,_,_,h2,h3,_⟩:=hE g hg;obtain⟨s',_,_,_,h2',h3',_⟩:=hE h hh;rw[e,h2']at h2
  cases h2
  exact Jn1 g hg h hh (h3.symm.trans h3')
 ·obtain⟨_,ca,ta,_,_,_,h4⟩:=hE g hg;exact(Jb h4)
theorem gTab:prog.globalNamed "trove/digest.roundConstants" =some 13:=by kernel_rfl
theorem JkX:(prog.globals[13]?).map (·.type)=some 486:=by kernel_rfl
theorem Jnr:prog.cellsOf 486=64:=by kernel_rfl
theorem Jns:prog.cellsOf 429=1:=by kernel_rfl
theorem JkW:(prog.globals[15]?).map (·.type)=some 503:=by kernel_rfl
theorem Jnq:prog.cellsOf 503=20:=by kernel_rfl
theorem JkH:prog.cellsOf 78=1:=by kernel_rfl

theorem Jhv(h:laidMetH prog Rows.listedUptoRow.laid W):(∃E:Nat->Addr,Env E W/\Sent E W/\∀g∈Ss,(E g).block<W.heap.size)/\Er3 W:=by
 rw[MakeChecks.laidMetH_plain _ _ _ (by kernel_rfl)]at h;have h3:=h.tail.tail.tail;have hs:∀g∈Ss,JbX W g (tx g):=by
  intro g hg;simp only[Ss,List.mem_cons,QD,or_false]at hg
  rcases hg with rfl|rfl|rfl|rfl|rfl|rfl|rfl|rfl
  ·exact XI h3.tail (by kernel_rfl) (by kernel_rfl)
  ·exact XI h3.tail.tail (by kernel_rfl) (by kernel_rfl)
  ·exact XI h3.tail.tail.tail (by kernel_rfl) (by kernel_rfl)
  ·exact XI h3.tail.tail.tail.tail (by kernel_rfl) (by kernel_rfl)
  ·exact XI h3.tail.tail.tail.tail.tail (by kernel_rfl) (by kernel_rfl)
  ·exact XI h3.tail.tail.tail.tail.tail.tail (by kernel_rfl) (by kernel_rfl)
  ·exact XI h3.tail.tail.tail.tail.tail.tail.tail (by kernel_rfl) (by kernel_rfl)
  ·exact XI h3 (by kernel_rfl) (by kernel_rfl)
 have ht:laidMet prog [("trove/digest.roundConstants",Lib.tabData .u32 Ks)] W:=h3.tail.tail.tail.tail.tail.tail.tail.tail.tail.tail.tail;have htw:JbX W 12 (txOf Rows.laid_trove_fault_Twice):=XI h3.tail.tail.tail.tail.tail.tail.tail.tail (by kernel_rfl) (by kernel_rfl);have hum:JbX W 9 (txOf Rows.laid_trove_fault_Unmet):=XI h3.tail.tail.tail.tail.tail.tail.tail.tail.tail (by kernel_rfl) (by kernel_rfl);have hul:JbX W 10 (txOf Rows.laid_trove_fault_Unlike):=XI h3.tail.tail.tail.tail.tail.tail.tail.tail.tail.tail (by kernel_rfl) (by kernel_rfl);have htab:=Lib.tabIs_of_head gTab JkX underlying486 underlying429 Jns Jnr ht;have hp:laidMet prog (("internal/strconv.uint64pow10",Lib.tabData .u64 Lib.pow10Tab)::_) W:=h.tail.tail;have hpow:=Lib.tabIs_of_head gPow JkW underlying503 underlying78 JkH Jnq hp;refine⟨Jnu hs ?_ hpow (λi hi=>htab.cell gTab i hi),?_⟩;rotate_left
 ·obtain⟨_,_,_,_,h1,_⟩:=htw;obtain⟨_,_,_,_,h2,_⟩:=hum;obtain⟨_,_,_,_,h4,_⟩:=hul;exact⟨⟨_,_,h1⟩,⟨_,_,h2⟩,⟨_,_,h4⟩⟩
 obtain⟨ps,hv,_⟩:=h.tail;obtain⟨g,t,cs,fuel,p,q,hg,_,hvv,_⟩:=hv;obtain rfl:g=17:=Option.some.inj (hg.symm.trans (show prog.globalNamed "math/bits.deBruijn64tab" =some 17 by kernel_rfl));unfold World.var? at hvv;rw[hg]at hvv;simp only[Qu]at hvv
 split at hvv
 ·rename_i hh;exact(Jb hh)
 ·cases hvv
open Go.ChangeShapes Go.WideShapes Go.ChangeAt Go.RowKit Go.Deep

theorem cOut:prog.cellsOf 80=2:=by kernel_rfl
theorem cU64:prog.cellsOf 78=1:=by kernel_rfl
theorem cU8:prog.cellsOf 5=1:=by kernel_rfl
theorem cInt:prog.cellsOf 3=1:=by kernel_rfl
theorem Jn7:prog.cellsOf 4=1:=by kernel_rfl
theorem Jn9:prog.cellsOf 29=1:=by kernel_rfl
theorem Jn8:prog.cellsOf 100=1:=by kernel_rfl
theorem cPay:prog.cellsOf 102=6:=by kernel_rfl
theorem Jnc:prog.cellsOf 31=4:=by kernel_rfl
section
variable {H:Type}{enc:TypeId×Value->H}{W:World}
theorem JkE(d:DataW H):1<=Rows.uptoBulk d:=by
 cases d with
 | lit l=>cases l<;>simp[Rows.uptoBulk]
 | nil=>simp[Rows.uptoBulk]
 | ptr d=>simp[Rows.uptoBulk]
 | slice elems spare=>simp[Rows.uptoBulk]
 | agg parts=>simp[Rows.uptoBulk]
 | iface t d=>simp[Rows.uptoBulk]
 | map entries=>simp[Rows.uptoBulk]
 | held h=>simp[Rows.uptoBulk]
theorem Jbr{d:DataW H}{l:List (DataW H)}(h:d∈l):Rows.uptoBulk d<=Rows.uptoBulkAll l:=by
 induction l with
 | nil=>cases h
 | cons x r ih=>
  simp only[Rows.uptoBulkAll]
  cases List.mem_cons.1 h with
  | inl e=>subst e;omega
  | inr e=>have:=ih e;omega
theorem JfU(l:List (DataW H)):l.length<=Rows.uptoBulkAll l:=by
 induction l with
 | nil=>simp[Rows.uptoBulkAll]
 | cons x r ih=>have:=JkE x;simp only[Rows.uptoBulkAll,Qp];omega
theorem JcV{a:Addr}(h:W.cell? a=some v):a=⟨a.block,a.off,none⟩/\a.block<W.heap.size:=by
 refine⟨?_,Qr _ _ h⟩;obtain⟨b,o,s⟩:=a
 cases s with
 | none=>rfl
 | some k=>
  unfold World.cell? at h
  split at h
  ·simp at h
  ·cases h
theorem Jjy{x:DataW H×List MemPlace}(h:DataW.trod enc prog W 0 (λ_=>true) true fuel 100 [v]=some x):
  ∃l:List Nat,Zd W.heap.size W v l/\(∀n∈l,n<18446744073709551616)/\l.length<=Rows.uptoBulk x.1:=by
 rcases open_slice1 underlying100 cU64 h with⟨h0,h1⟩|⟨a,len,cap,m,n,V,D,Pl,h0,hb,hl,hm,hmm,hx,he⟩
 ·simp only[QH,and_true]at h0;exact⟨[],.inl ⟨⟨_,_,h0⟩,rfl⟩,λ_ h=>(QD h).elim,by simp⟩
 ·simp only[QH,and_true]at h0;simp only[if_true]at hmm;subst hmm;have hint:∀i,i<m->∃k:Nat,V i=.int .u64 (k:Int)/\k<18446744073709551616:=λi hi=>by
   obtain⟨z,h1,h3,h2⟩:=DataW.trod_int underlying78 (he i hi).2;simp only[QH,and_true]at h1;have hb:=bounds_u64 h2;exact⟨z.toNat,by rw[h1];congr 1;omega,by omega⟩
  obtain⟨N,hN⟩:=choose_lt hint;refine⟨(List.range len).map N,?_,λx hx=>?_,?_⟩
  ·rcases Nat.eq_zero_or_pos len with h00|hpos
   ·subst h00;exact .inl ⟨⟨_,_,h0⟩,rfl⟩
   ·obtain⟨ea,hlt⟩:=JcV (he 0 (by omega)).1;simp only[Addr.add,if_true]at ea hlt;rw[ea]at h0;refine .inr ⟨a.block,a.off,m,by rw[h0];simp,hlt,λi hi=>?_⟩;simp only[QL,List.length_range]at hi;have:=(he i (by omega)).1;rw[ea,(hN i (by omega)).1]at this;simp only[List.getElem_map,List.getElem_range];rw[<-this]
    by_cases hi0:i=0<;>simp[Addr.add,hi0]
  ·rw[QK]at hx;obtain⟨i,hi,rfl⟩:=hx;exact(hN i (by have:=List.mem_range.1 hi;omega)).2
  ·rw[hx];have:=JfU ((List.range len).map D);simp only[Rows.uptoBulk,QL,List.length_range]at this ⊢;omega
theorem Jlo{y:DataW H×List MemPlace}(h:DataW.trod enc prog W 0 (λ_=>true) true n 102 cs=some y):
  ∃(p:PayL)(va:Value),cs=[.int .i64 p.from_,.int .i64 p.many,va,.int .u8 ((p.owner:Nat):Int),.bool p.wild,.bool p.other]/\Zd W.heap.size W va p.amounts/\(Rows.uptoBulk y.1<=1048576->p.Ok):=by
 obtain⟨xs,k,rfl,hy,hlen,hxl,hf⟩:=DataW.trod_struct underlying102 h;rw[cPay]at hlen
 match cs,hlen with
 | [v0,v1,v2,v3,v4,v5],_=>
  match xs,hxl with
  | [y0,y1,y2,y3,y4,y5],_=>
   have g0:=hf 0 _ rfl;have g1:=hf 1 _ rfl;have g2:=hf 2 _ rfl;have g3:=hf 3 _ rfl;have g4:=hf 4 _ rfl;have g5:=hf 5 _ rfl;simp[cInt,Jn8,cU8,Jn7]at g0 g1 g2 g3 g4 g5;obtain⟨z0,e0,_,b0⟩:=DataW.trod_int underlying3 g0;obtain⟨z1,e1,_,b1⟩:=DataW.trod_int underlying3 g1;obtain⟨z3,e3,_,b3⟩:=DataW.trod_int underlying5 g3;obtain⟨z4,e4,_⟩:=DataW.trod_bool underlying4 g4;obtain⟨z5,e5,_⟩:=DataW.trod_bool underlying4 g5;obtain⟨l,hl,hb,hlb⟩:=Jjy g2;have c0:=bounds_i64 b0;have c1:=bounds_i64 b1;have c3:=bounds_u8 b3;simp only[QH,and_true]at e0 e1 e3 e4 e5;refine⟨⟨z0,z1,l,z3.toNat,z4,z5⟩,v2,?_,hl,λhk=>⟨c0.1,by show z0<_;omega,c1.1,by show z1<_;omega,hb,by show z3.toNat<256;omega,?_⟩⟩
   ·rw[e0,e1,e3,e4,e5];simp only[QH,Value.int.injEq,true_and,and_true];omega
   ·have hm:y2.1∈[y0,y1,y2,y3,y4,y5].map (·.1):=(by simp);have:=Jbr hm;rw[hy]at hk;simp only[Rows.uptoBulk]at hk;show l.length<1000000000;omega
theorem JjC{x:DataW H×List MemPlace}(h:DataW.trod enc prog W 0 (λ_=>true) true fuel 29 [v]=some x):
  ∃l:List PayL,YN W.heap.size W v l/\(Rows.uptoBulk x.1<=1048576->∀p∈l,p.Ok):=by
 rcases open_slice underlying29 h with⟨h0,h1⟩|⟨a,len,cap,m,n,D,Pl,h0,hb,hl,hm,hmm,hx,he⟩
 ·simp only[QH,and_true]at h0;exact⟨[],.inl ⟨⟨_,_,h0⟩,rfl⟩,λ_ _ h=>(QD h).elim⟩
 ·simp only[QH,and_true]at h0;simp only[if_true]at hmm;subst hmm;rw[cPay]at he;have hp:∀i,i<m->∃q:PayL×Value,W.cells? 0 (a.add (i*6)) 6=some [.int .i64 q.1.from_,.int .i64 q.1.many,q.2,.int .u8 ((q.1.owner:Nat):Int),.bool q.1.wild,.bool q.1.other]/\Zd W.heap.size W q.2 q.1.amounts/\(Rows.uptoBulk (D i)<=1048576->q.1.Ok):=λi hi=>by
   obtain⟨cs',h1,h2⟩:=he i hi;obtain⟨p,va,rfl,h4,h5⟩:=Jlo h2;exact⟨(p,va),h1,h4,h5⟩
  haveI:Inhabited (PayL×Value):=⟨(⟨0,0,[],0,false,false⟩,.nilIface)⟩
  obtain⟨Q,hQ⟩:=choose_lt hp;refine⟨(List.range len).map λi=>(Q i).1,?_,λhk p hp=>?_⟩
  ·rcases Nat.eq_zero_or_pos len with h00|hpos
   ·subst h00;exact .inl ⟨⟨_,_,h0⟩,rfl⟩
   ·obtain⟨_,_,hc0⟩:=World.cells?_some (hQ 0 (by omega)).1;have hc00:=hc0 0 (by omega);simp only[Nat.zero_mul,Addr.add,if_true]at hc00;obtain⟨ea,hlt⟩:=JcV (show W.cell? a=some _ from hc00);rw[ea]at h0;refine .inr ⟨a.block,a.off,m,by rw[h0];simp,hlt,λi hi=>?_⟩;simp only[QL,List.length_range]at hi;obtain⟨_,_,hc⟩:=World.cells?_some (hQ i (by omega)).1;have ad:∀j,((a.add (i*6)).add j)=⟨a.block,a.off+i*6+j,none⟩:=λj=>by
     rw[add_add,ea];unfold Addr.add;split
     ·rename_i hz;simp<;>omega
     ·simp<;>omega
    refine⟨(Q i).2,?_⟩;simp only[List.getElem_map,List.getElem_range];have w0:=hc 0 (by omega);have w1:=hc 1 (by omega);have w2:=hc 2 (by omega);have w3:=hc 3 (by omega);have w4:=hc 4 (by omega);have w5:=hc 5 (by omega);rw[ad]at w0 w1 w2 w3 w4 w5;exact⟨(hQ i (by omega)).2.1,w0,w1,w2,w3,w4,w5⟩
  ·rw[QK]at hp;obtain⟨i,hi,rfl⟩:=hp;have hi:=List.mem_range.1 hi;refine(hQ i (by omega)).2.2 ?_;have hm:D i∈(List.range len).map D:=QK.2 ⟨i,List.mem_range.2 hi,rfl⟩;have:=Jbr hm;rw[hx]at hk;simp only[Rows.uptoBulk]at hk;omega
theorem JjY{y:DataW H×List MemPlace}(h:DataW.trod enc prog W 0 (λ_=>true) true n 31 cs=some y):
  ∃(p:JcT)(va:Value),cs=[.int .i64 p.kind,.int .i64 p.a,.int .i64 p.b,va]/\YN W.heap.size W va p.pays/\(Rows.uptoBulk y.1<=1048576->∀q∈p.pays,q.Ok)/\(-9223372036854775808<=p.a/\p.a<9223372036854775808)/\(-9223372036854775808<=p.b/\p.b<9223372036854775808):=by
 obtain⟨xs,k,rfl,hy,hlen,hxl,hf⟩:=DataW.trod_struct underlying31 h;rw[Jnc]at hlen
 match cs,hlen with
 | [v0,v1,v2,v3],_=>
  match xs,hxl with
  | [y0,y1,y2,y3],_=>
   have g0:=hf 0 _ rfl;have g1:=hf 1 _ rfl;have g2:=hf 2 _ rfl;have g3:=hf 3 _ rfl;simp[cInt,Jn9]at g0 g1 g2 g3;obtain⟨z0,e0,_,_⟩:=DataW.trod_int underlying3 g0;obtain⟨z1,e1,_,b1⟩:=DataW.trod_int underlying3 g1;obtain⟨z2,e2,_,b2⟩:=DataW.trod_int underlying3 g2;obtain⟨l,hl,hok⟩:=JjC g3;have c1:=bounds_i64 b1;have c2:=bounds_i64 b2;simp only[QH,and_true]at e0 e1 e2;refine⟨⟨z0,z1,z2,l⟩,v3,by rw[e0,e1,e2],hl,λhk=>hok ?_,⟨c1.1,by show z1<_;omega⟩,⟨c2.1,by show z2<_;omega⟩⟩;have hm:y3.1∈[y0,y1,y2,y3].map (·.1):=(by simp);have:=Jbr hm;rw[hy]at hk;simp only[Rows.uptoBulk]at hk;omega
theorem JaV{t e:TypeId}(ht:prog.underlying t=some (.slice e))(h:Value.okWide prog W .any b t v):v=.slice none 0 0\/∃g o len cap,v=.slice (some ⟨g,o,none⟩) len cap/\g<W.heap.size:=by
 unfold Value.okWide at h;rw[ht]at h;simp only at h;unfold Cell.okWide at h;rw[ht]at h
 cases v<;>simp only at h
 all_goals first
  | (unfold Cell.ok at h;rw[ht]at h;simp only at h;done)
  | skip
 rename_i ad len cap;unfold Cell.ok at h;rw[ht]at h
 cases ad with
 | none=>
  left
  cases len with
  | zero=>
   cases cap with
   | zero=>rfl
   | succ n=>simp at h
  | succ n=>simp at h
 | some a=>
  right;obtain⟨_,_,_,hs,row,cells,hsh,_⟩:=h;obtain⟨g,o,s⟩:=a;simp only at hs;subst hs;refine⟨g,o,len,cap,rfl,?_⟩;unfold World.shape? at hsh
  split at hsh
  ·rename_i hh;exact(Jb hh)
  ·cases hsh
theorem JhR{x:DataW H×List MemPlace}(hv:Value.okWide prog W .any b 26 v)(h:DataW.trod enc prog W 0 (λ_=>true) true fuel 26 [v]=some x)(hk:Rows.uptoBulk x.1<=1048576):
  ∃l:List JcT,Jat W.heap.size W v l/\(∀s∈l,∀p∈s.pays,p.Ok)/\(∀s∈l,(-9223372036854775808<=s.a/\s.a<9223372036854775808)/\(-9223372036854775808<=s.b/\s.b<9223372036854775808))/\l.length<=1048576:=by
 rcases JaV underlying26 hv with rfl|⟨g,o,len0,cap0,rfl,hg⟩
 ·exact⟨[],.inl ⟨rfl,rfl⟩,λ_ h=>(QD h).elim,λ_ h=>(QD h).elim,by simp⟩
 rcases open_slice underlying26 h with⟨h0,h1⟩|⟨a,len,cap,m,n,D,Pl,h0,hb,hl,hm,hmm,hx,he⟩
 ·simp at h0
 ·simp only[QH,and_true,Qy,Qh]at h0;obtain⟨rfl,rfl,rfl⟩:=h0;simp only[if_true]at hmm;subst hmm;rw[Jnc]at he;have hp:∀i,i<m->∃q:JcT×Value,W.cells? 0 ((⟨g,o,none⟩:Addr).add (i*4)) 4=some [.int .i64 q.1.kind,.int .i64 q.1.a,.int .i64 q.1.b,q.2]/\YN W.heap.size W q.2 q.1.pays/\(Rows.uptoBulk (D i)<=1048576->∀p∈q.1.pays,p.Ok)/\(-9223372036854775808<=q.1.a/\q.1.a<9223372036854775808)/\(-9223372036854775808<=q.1.b/\q.1.b<9223372036854775808):=λi hi=>by
   obtain⟨cs',h1,h2⟩:=he i hi;obtain⟨p,va,rfl,h4,h5,h6,h7⟩:=JjY h2;exact⟨(p,va),h1,h4,h5,h6,h7⟩
  haveI:Inhabited (JcT×Value):=⟨(⟨0,0,0,[]⟩,.nilIface)⟩
  obtain⟨Q,hQ⟩:=choose_lt hp;rw[hx]at hk;simp only[Rows.uptoBulk]at hk;have hDi:∀i,i<len0->Rows.uptoBulk (D i)<=1048576:=λi hi=>by
   have hm:D i∈(List.range len0).map D:=QK.2 ⟨i,List.mem_range.2 hi,rfl⟩;have:=Jbr hm;omega
  refine⟨(List.range len0).map λi=>(Q i).1,.inr ⟨g,o,m,by simp,hg,λi hi=>?_⟩,λs hs=>?_,λs hs=>?_,?_⟩
  ·simp only[QL,List.length_range]at hi;obtain⟨_,_,hc⟩:=World.cells?_some (hQ i (by omega)).1;have ad:∀j,(((⟨g,o,none⟩:Addr).add (i*4)).add j)=⟨g,o+i*4+j,none⟩:=λj=>by
    rw[add_add];unfold Addr.add;split
    ·rename_i hz;simp<;>omega
    ·simp<;>omega
   refine⟨(Q i).2,?_⟩;simp only[List.getElem_map,List.getElem_range];have w0:=hc 0 (by omega);have w1:=hc 1 (by omega);have w2:=hc 2 (by omega);have w3:=hc 3 (by omega);rw[ad]at w0 w1 w2 w3;exact⟨(hQ i (by omega)).2.1,w0,w1,w2,w3⟩
  ·rw[QK]at hs;obtain⟨i,hi,rfl⟩:=hs;have hi:=List.mem_range.1 hi;exact(hQ i (by omega)).2.2.1 (hDi i hi)
  ·rw[QK]at hs;obtain⟨i,hi,rfl⟩:=hs;have hi:=List.mem_range.1 hi;exact(hQ i (by omega)).2.2.2
  ·have:=JfU ((List.range len0).map D);simp only[QL,List.length_range]at this ⊢;omega
theorem JjB{x:DataW H×List MemPlace}(hv:Value.okWide prog W .any b 22 v)(h:DataW.trod enc prog W 0 (λ_=>true) true fuel 22 [v]=some x):
  ∃l:List (Nat×Nat),Jq W.heap.size W v l/\∀o∈l,Jy o:=by
 rcases JaV underlying22 hv with rfl|⟨g,o,len0,cap0,rfl,hg⟩
 ·exact⟨[],.inl ⟨rfl,rfl⟩,λ_ h=>(QD h).elim⟩
 rcases open_slice_pairs underlying22 underlying80 cOut rfl rfl cU64 cU8 h with⟨h0,h1⟩|⟨a,len,cap,m,n,V0,V1,D0,D1,P0,P1,h0,hb,hl,hm,hmm,hx,he⟩
 ·simp at h0
 ·simp only[QH,and_true,Qy,Qh]at h0;obtain⟨rfl,rfl,rfl⟩:=h0;simp only[if_true]at hmm;subst hmm;have hp:∀i,i<m->∃q:Nat×Nat,V0 i=.int .u64 (q.1:Int)/\V1 i=.int .u8 (q.2:Int)/\Jy q:=λi hi=>by
   obtain⟨_,_,h2,h3⟩:=he i hi;obtain⟨z0,e0,_,b0⟩:=DataW.trod_int underlying78 h2;obtain⟨z1,e1,_,b1⟩:=DataW.trod_int underlying5 h3;simp only[QH,and_true]at e0 e1;have c0:=bounds_u64 b0;have c1:=bounds_u8 b1;exact⟨(z0.toNat,z1.toNat),by rw[e0];congr 1;omega,by rw[e1];congr 1;omega,⟨by show z0.toNat<_;omega,by show z1.toNat<_;omega⟩⟩
  obtain⟨Q,hQ⟩:=choose_lt hp;refine⟨(List.range len0).map Q,.inr ⟨g,o,m,by simp,hg,hg,λi hi=>?_⟩,λs hs=>?_⟩
  ·simp only[QL,List.length_range]at hi;obtain⟨w0,w1,_,_⟩:=he i (by omega);have ad:∀j,(⟨g,o,none⟩:Addr).add j=⟨g,o+j,none⟩:=λj=>by
    unfold Addr.add;split
    ·rename_i hz;simp<;>omega
    ·simp
   rw[ad,(hQ i (by omega)).1]at w0;rw[ad,(hQ i (by omega)).2.1]at w1;simp only[List.getElem_map,List.getElem_range];exact⟨w0,by rw[Nat.add_assoc];exact w1⟩
  ·rw[QK]at hs;obtain⟨i,hi,rfl⟩:=hs;exact(hQ i (by have:=List.mem_range.1 hi;omega)).2.2
end
set_option maxHeartbeats 4000000
open Go.RowKit

attribute [local go_sem] Oper.semAt_some

def ItW(n0:Nat)(A B:World):Prop:=Tch (λj=>n0<=j/\∃o,A.heap[j]? =some o/\o.isWalk=true) A B
structure KpW(n0:Nat)(A B:World):Prop where
 below:Below n0 A B
 walk:∀(j:Nat)(o:Obj),A.heap[j]? =some o->o.isWalk=true->B.heap[j]? =some o
def Jec(gf:Nat)(lb:Array Value)(n0 m N:Nat)(End:List BA->Prop)(w:World):Prop:=
 ∀(l:Nat)(J:List BA->World->Prop)(W:World),Tch NoB w W->(∀s A B,J s A->ItW n0 A B->J s B)->
  (∀s x V,s.length<N->J s V->YieldAt Fence.wide (m-1) prog l #[.string x] V λe V'=>e=.returned (.bool true)/\J (s++[x]) V'/\KpW n0 V V')->J [] W->
  CallsIn Fence.wide m prog gf (#[.func (.yield l) #[] #[]]++lb) W λe W'=>(∃v,e=.returned v)/\∃s,End s/\J s W'
def YH(w:World)(v:Value)(s:List BA):Prop:=∃a c,v=.slice a s.length c/\∀i (h:i<s.length),∃g,a=some ⟨g,0,none⟩/\w.cell? ⟨g,i,none⟩=some (.string s[i])
theorem NOwn.str{l:List BA}(h:NOwn base w v l):YH w v l:=by
 obtain⟨a,c,hv⟩:=h.shape;refine⟨a,c,hv,λi hi=>?_⟩;obtain⟨g,cap,hv2,_,_,_,hc⟩:=h.at (λe=>by rw[e]at hi;simp at hi);rw[hv]at hv2;simp only[Qy]at hv2;exact⟨g,hv2.1,(hc i hi).1⟩
theorem Jj7(v:Value)(a:Option Addr)(n c:Nat)(hv:v=.slice a n c)(w:World):
  Calls prog 234 #[v] w λe w'=>e=.returned (.func (.func 304) #[] #[.pointer (some ⟨w.heap.size,0,none⟩)])/\w'=w.alloc (.cells #[v] 58):=by
 subst hv;have hmf:∀(fn:Fn)(first cap:Array Value)(w:World),(Instr.makeFunc fn first cap).run prog w=.ok (.func fn first cap) w:=λ_ _ _ _=>rfl;go_enter func234,ntmps234;go_wp2;go_ret;exact⟨rfl,rfl⟩
theorem Jms(p:Nat)(w:World):
  Calls prog 237 #[.map (some p)] w λe w'=>e=.returned (.func (.func 306) #[] #[.pointer (some ⟨w.heap.size,0,none⟩)])/\w'=w.alloc (.cells #[.map (some p)] 268):=by
 have hmf:∀(fn:Fn)(first cap:Array Value)(w:World),(Instr.makeFunc fn first cap).run prog w=.ok (.func fn first cap) w:=λ_ _ _ _=>rfl;go_enter func237,ntmps237;go_wp2;go_ret;exact⟨rfl,rfl⟩
theorem Jh2(B n0 m:Nat)(hm:2<=m)(xs:List BA)(hl:xs.length<=10000000000)(v:Value)(w:World)(hB:w.heap[B]? =some (.cells #[v] 58))(hv:YH w v xs)(h0:n0=w.heap.size):
  Jec 304 #[.pointer (some ⟨B,0,none⟩)] n0 m xs.length (λs=>s=xs) w:=by
 intro l J W hT hJ hY h0J;obtain⟨a,c,rfl,hc⟩:=hv;have c0:W.cell? ⟨B,0,none⟩=some (.slice a xs.length c):=(hT.cell (p:=⟨B,0,none⟩) (Jb hB) (λh=>h)).trans (Ja hB);have HC:Hid (∀i (h:i<xs.length),∃g,a=some ⟨g,0,none⟩/\g<n0/\W.cell? ⟨g,i,none⟩=some (.string xs[i])):=λi h=>by
  obtain⟨g,h1,h2⟩:=hc i h;have hg:=Qr _ _ h2;exact⟨g,h1,by rw[h0];exact hg,(hT.cell (p:=⟨g,i,none⟩) hg (λh=>h)).trans h2⟩
 have HY:Hid (∀s x V,s.length<xs.length->J s V->_):=hY;have HWB:Hid (Below n0 W W/\J [] W):=⟨Below.refl _ _,h0J⟩
 obtain⟨n,hn⟩:∃n,n=xs.length:=⟨_,rfl⟩
 rw[<-hn]at c0;have HN:Hid (xs.length=n):=hn.symm;have hnb:n<=10000000000:=by omega
 clear hT hJ hY hc hB hn h0J hl;show CallsIn Fence.wide m prog _ #[.func (.yield l) #[] #[],.pointer (some ⟨B,0,none⟩)] W _;refine callsIn_of_wp func304 rfl trivial ?_ rfl;simp only[ntmps304,List.size_toArray,Qp,Qv,Nat.reduceAdd,Nat.reduceSub,Array.replicate_succ,Array.replicate_zero,List.push_toArray,List.append_toArray,List.nil_append,List.cons_append];gi_wp2;gi_loopw [7] (λi wr=>∃k:Nat,k<=n/\i=.int .i64 (k:Int)/\Hid (Below n0 W wr/\J (xs.take k) wr)) (λi _=>n-(intOf i).toNat)
 case atStart=>exact⟨0,Nat.zero_le _,rfl,HWB.o⟩
 case round=>
  obtain⟨k,hk,rfl,HR⟩:=hrel
  by_cases hlt:k<n
  ·have hkl:k<xs.length:=(by rw[HN.o];exact hlt);obtain⟨g,rfl,hg,hcg⟩:=HC.o k hkl;have d0:wr.cell? ⟨g,k,none⟩=some (.string xs[k]):=(HR.o.1.cell (p:=⟨g,k,none⟩) hg).trans hcg;obtain⟨fn,tmps,assign,body,hy,hR⟩:=HY.o (xs.take k) xs[k] wr (by rw[QB];omega) HR.o.2;have HTK:Hid (xs.take k++[xs[k]]=xs.take (k+1)):=(QQ hkl).symm;rw[HTK.o]at hR;generalize xs[k]=x at *;have hlti:(k:Int)<(n:Int):=(by omega);have hk0:(0:Int)<=(k:Int):=(by omega);clear hcg hg hkl;gi_wp2;refine⟨λ_=>by omega,hR.mono ?_⟩;clear hR hy;rintro e V3⟨rfl,hJ3,hk3⟩;have HR3:Hid (Below n0 W V3/\J (xs.take (k+1)) V3):=⟨HR.o.1.trans hk3.below,hJ3⟩
   clear hJ3 hk3 d0;gi_wp2;go_roundw
   case rel=>exact⟨k+1,by omega,by go_num,HR3⟩
   case measure=>simp[intOf];omega
  ·have HK:Hid (k=n):=(by omega:k=n)
   have hge:¬(k:Int)<(n:Int):=(by omega);gi_wp2;refine bodyPost_end (v:=.tuple #[]) (results_none results304 _ _ _) rfl ?_;have e:xs.take k=xs:=QR (by rw[HK.o,HN.o];exact Ql _);have h2:J xs wr:=(by have:=HR.o.2;rwa [e]at this);exact⟨⟨_,rfl⟩,h2⟩
theorem Jk6(B n0 m p:Nat)(hm:2<=m){α:Type}(enc:α->Value)(ls:List (BA×α))(w:World)(hB:w.heap[B]? =some (.cells #[.map (some p)] 268))(hp:MpAt w p (smE enc ls))(h0:n0=w.heap.size):
  Jec 306 #[.pointer (some ⟨B,0,none⟩)] n0 m ls.length (λs=>s.Perm (ls.map (·.1))) w:=by
 intro l J W hT hJ hY h0J;have c0:W.cell? ⟨B,0,none⟩=some (.map (some p)):=(hT.cell (p:=⟨B,0,none⟩) (Jb hB) (λh=>h)).trans (Ja hB);have hpW:=hp.next hT (λh=>h);have hpl:p<n0:=by rw[h0];exact(Jb hp)
 obtain⟨hrg,hit⟩:=JbA underlying268 hpW;obtain⟨W1,hW1⟩:∃W1,W1=W.alloc (.mapIter (some p) (smE enc ls).length #[] (smE enc ls).length):=⟨_,rfl⟩
 rw[<-hW1]at hrg hit;have hJ1:J [] W1:=hJ _ _ _ h0J (by rw[hW1];exact(Ta NoB W _).mono noE);have hW1r:W1.heap.size=W.heap.size+1:=by rw[hW1];simp
 have HY:Hid (∀s x V,s.length<ls.length->J s V->_):=hY;have HJ:Hid (∀s A B,J s A->ItW n0 A B->J s B):=hJ;have HPL:Hid (p<n0/\n0<=W.heap.size):=⟨hpl,by rw[h0];exact hT.size⟩
 have HW1:Hid (W1=_):=hW1;have HI0:Hid (MIt W1 W.heap.size p (smE enc ls) []/\J [] W1):=⟨hit,hJ1⟩
 clear hT hJ hY hB hp hpW hpl hit hJ1 h0J hW1 h0;show CallsIn Fence.wide m prog _ #[.func (.yield l) #[] #[],.pointer (some ⟨B,0,none⟩)] W _;refine callsIn_of_wp func306 rfl trivial ?_ rfl;simp only[ntmps306,List.size_toArray,Qp,Qv,Nat.reduceAdd,Nat.reduceSub,Array.replicate_succ,Array.replicate_zero,List.push_toArray,List.append_toArray,List.nil_append,List.cons_append];gi_wp2;gi_loopw [] (λwr=>∃seen:List Nat,Hid (MIt wr W.heap.size p (smE enc ls) seen/\J (seen.filterMap λi=>(ls[i]?).map (·.1)) wr)) (λwr=>ls.length-seenN wr W.heap.size)
 case atStart=>exact⟨[],HI0⟩
 case round=>
  obtain⟨seen,HR⟩:=hrel;have hsl:seen.length<=ls.length:=by have:=ZR (smE enc ls).length seen HR.o.1.nd HR.o.1.lt;simpa [smE]using this
  have hlen:(seen.filterMap λi=>(ls[i]?).map (·.1)).length<=seen.length:=List.length_filterMap_le _ _
  rcases JcP HR.o.1 0 with⟨hall,hrun⟩|⟨j,kv,vv,w',hj,hl,hrun,hit2,ht2,hen⟩
  ·have HALL:Hid (∀i,i<(smE enc ls).length->i∈seen):=hall;clear hall;gi_wp2;refine bodyPost_end (v:=.tuple #[]) (results_none results306 _ _ _) rfl ?_;refine⟨⟨_,rfl⟩,_,?_,HR.o.2⟩;have hp:seen.Perm (List.range ls.length):=(List.perm_ext_iff_of_nodup HR.o.1.nd List.nodup_range).2 λi=>by
    rw[List.mem_range];exact⟨λh=>by have:=HR.o.1.lt i h;simpa [smE]using this,λh=>HALL.o i (by simpa [smE]using h)⟩
   refine(hp.filterMap _).trans (List.Perm.of_eq ?_);apply List.ext_getElem?;intro i;have e:(List.range ls.length).filterMap (λi=>(ls[i]?).map (·.1))=ls.map (·.1):=by
    have e2:(List.range ls.length).map (λi=>(ls[i]?).map (·.1))=(ls.map (·.1)).map some:=by
     apply List.ext_getElem?;intro i
     by_cases hi:i<ls.length
     ·simp[hi]
     ·simp[hi]
    have:=congrArg (List.filterMap id) e2;rw[List.filterMap_map,List.filterMap_map]at this;simpa using this
   rw[e]
  ·have hl2:∃x a,ls[j]? =some (x,a)/\kv=.string x/\vv=enc a:=by
    unfold smE at hl;rw[List.getElem?_map]at hl
    cases hq:ls[j]? with
    | none=>rw[hq]at hl;cases hl
    | some y=>rw[hq]at hl;simp at hl;exact⟨y.1,y.2,rfl,hl.1.symm,hl.2.symm⟩
   obtain⟨x,a,hM,rfl,rfl⟩:=hl2;have hms:(seen++[j]).length<=ls.length:=(by have:=ZR (smE enc ls).length (seen++[j]) hit2.nd hit2.lt;simpa [smE]using this);simp only[Qe,Qp,Qv]at hms;have HMS:Hid (seen.length+1<=ls.length):=hms;have hJ2:=HJ.o _ _ _ HR.o.2 (ht2.mono (λi hi=>.inl (by subst hi;exact⟨HPL.o.2,_,HR.o.1.it,rfl⟩)));have hfm:(seen++[j]).filterMap (λi=>(ls[i]?).map (·.1))=(seen.filterMap λi=>(ls[i]?).map (·.1))++[x]:=(by rw[List.filterMap_append];simp[hM]);obtain⟨fn,tmps,assign,body,hy,hR⟩:=HY.o _ x w' (by omega) hJ2;rw[<-hfm]at hR;have HI2:Hid (MIt w' W.heap.size p (smE enc ls) (seen++[j])):=hit2;clear hit2 ht2 hl hM hJ2 hfm hms hj;generalize enc a=ev at *;gi_wp2;refine⟨λ_=>by omega,hR.mono ?_⟩;clear hR hy;rintro e V3⟨rfl,hJ3,hk3⟩;have HR3:Hid (MIt V3 W.heap.size p (smE enc ls) (seen++[j])/\J ((seen++[j]).filterMap λi=>(ls[i]?).map (·.1)) V3):=⟨⟨hk3.walk _ _ HI2.o.it rfl,(hk3.below.block _ HPL.o.1).trans HI2.o.at_,HI2.o.nd,HI2.o.lt⟩,hJ3⟩
   clear hJ3 hk3;gi_wp2;go_roundw
   case rel=>exact⟨_,HR3⟩
   case measure=>rw[HR3.o.1.seenN,HR.o.1.seenN,Qe];have:=HMS.o;simp only[Qp,Qv];omega

attribute [local go_sem] Oper.semAt_some

structure ApI(w:World)(s:List BA)(W:World):Prop where
 below:Below w.heap.size w W
 row:∃v,W.heap[w.heap.size]? =some (.cells #[v] 58)/\NOwn (w.heap.size+3) W v s
 size:w.heap.size+1<=W.heap.size
theorem ApI.tch{W':World}{S:Nat->Prop}(h:ApI w s W)(k:Tch S W W')(h1:∀j,S j->w.heap.size<j)(h2:∀j cs m,S j->w.heap.size+3<=j->W.heap[j]? ≠ some (.cells cs 9 m)):ApI w s W':=by
 obtain⟨v,hr,ho⟩:=h.row;refine⟨h.below.trans (k.below h.below.size (λj hj=>by have:=h1 j hj;omega)),⟨v,(k.block _ (Jb hr) (λe=>by have:=h1 _ e;omega)).trans hr,ho.tch k (λj hj e=>?_)⟩,Qm h.size k.size⟩;obtain⟨hb,cs,m,hr⟩:=ho.own j hj;exact h2 j cs m e hb hr
theorem JeQ(gf:Nat)(lb:Array Value)(N:Nat)(End:List BA->Prop)(eg:∀args w,(callFunc gf args).run prog w=.ok (.enter gf args) w)(w:World)(hN:N<=1000000000)(hseq:Jec gf lb w.heap.size 3 N End w):
  CallsIn Fence.wide 4 prog 345 #[.slice none 0 0,.func (.func gf) #[] lb] w λe w'=>∃v s,e=.returned v/\End s/\NOwn w.heap.size w' v s/\Tch NoB w w':=by
 have h1:1<=4:=by omega
 obtain⟨WD,hWD⟩:∃WD,WD=w.alloc (.cells #[.slice none 0 0] 58):=⟨_,rfl⟩
 have tD:Tch NoB w WD:=by rw[hWD];exact Ta _ _ _
 have r0:WD.heap[w.heap.size]? =some (.cells #[.slice none 0 0] 58):=by rw[hWD];exact Qf _ _
 have hzD:WD.heap.size=w.heap.size+1:=by rw[hWD];simp
 have HZ:Hid (WD.heap.size=w.heap.size+1):=hzD;have HWD:Hid (WD=_):=hWD;have HTD:Hid (Tch NoB w WD):=tD;have HI0:Hid (ApI w [] WD):=⟨tD.below (Ql _) noE,⟨_,r0,NOwn.nil _ _⟩,by omega⟩
 have HSQ:Hid (Jec gf lb w.heap.size 3 N End w):=hseq;clear hWD tD r0 hseq hzD;refine callsIn_of_wp_marks func345 rfl trivial ?_ rfl;simp only[ntmps345,List.size_toArray,Qp,Qv,Nat.reduceAdd,Nat.reduceSub,Array.replicate_succ,Array.replicate_zero,List.push_toArray,List.append_toArray,List.nil_append,List.cons_append];gi_upto_region 1 with fail;rw[<-HWD.o];gi_wp2;have hzD:=HZ.o;refine JgJ (α:=BA) (σ:=List BA) h1 (gf:=gf) (lb:=lb) rfl eg (encs:=λs=> #[.string s]) (λ_=>rfl)
  (λs _=>s.length<N) (λs x s'=>s'=s++[x]) (λ_ _=>False) (ItW w.heap.size) (KpW w.heap.size) [] (λr=>∃s,r=some s/\End s) (ApI w) (λ_=>False)
  ?hI (λ_ _ h _=>h) ?hIi ?hIt (λh k=>⟨h.below.trans k.below,λj o h1 h2=>k.walk j o (h.walk j o h1 h2) h2⟩) ?hKb HI0.o
  (λx V=>{ tmps:= #[.slice none 0 0,.func (.func gf) #[] lb,.pointer (some ⟨w.heap.size,0,none⟩),undef,.slice none 0 0,.string x,.func (.func gf) #[] lb,.string x,undef,undef,undef,undef,undef],defers:=[] })
  (λx V=>V) (λx V=>Te _ _) ?hseq ?hassign ?hbody (λV x=>⟨Below.refl _ _,λ_ _ h _=>h⟩) (λ_ _ _ h=>h) ?hdone ?hstop
 case hI=>intro s A B hA hk;exact hA.tch hk (λj hj=>by rcases hj with rfl|rfl<;>omega) (λj cs m hj h7 _=>by rcases hj with rfl|rfl<;>omega)
 case hIi=>
  intro s A B hA hk;obtain⟨v,hr,_⟩:=hA.row;refine⟨hA.below.trans (hk.below hA.below.size (λj hj=>hj.1)),?_,Qm hA.size hk.size⟩;obtain⟨v,hr,ho⟩:=hA.row;refine⟨v,(hk.block _ (Jb hr) (λhj=>?_)).trans hr,ho.tch hk (λj hj e=>?_)⟩
  ·obtain⟨_,o,h1,h2⟩:=hj;rw[hr]at h1
   cases h1
   cases h2
  ·obtain⟨_,cs,m,hr2⟩:=ho.own j hj;obtain⟨_,o,h1,h2⟩:=e;rw[hr2]at h1
   cases h1
   cases h2
 case hIt=>
  intro A B l o hk ho hc hw;refine(hk.block _ (Jb ho) (λhj=>?_)).trans ho;obtain⟨_,o',h1,h2⟩:=hj;rw[ho]at h1
  cases h1
  rw[hw]at h2
  cases h2
 case hKb=>
  intro A B l o hl ho hc hw hk;refine⟨hk.below (Nat.le_of_lt (Nat.lt_of_le_of_lt (by omega) (Jb ho))) (λj hj=>by omega),λj o' h1 h2=>(hk.block _ (Jb h1) (λe=>?_)).trans h1⟩;rw[e,ho]at h1
  cases h1
  rw[hw]at h2
  cases h2
 case hseq=>
  intro J Jx W hT hJ hY hJ0;refine(HSQ.o (WD.heap.size+1) J W (HTD.o.go hT) hJ (λs x V hs hj=>?_) hJ0).mono ?_
  ·obtain⟨fn,tmps,assign,body,hy,hR⟩:=hY s x V hs hj;refine⟨fn,tmps,assign,body,hy,hR.mono ?_⟩;rintro e V' (⟨h1,s',rfl,h2⟩|⟨_,h,_⟩)
   ·exact⟨h1,h2⟩
   ·exact h.elim
  ·rintro e W'⟨h1,s,h2,h3⟩;exact⟨h1,.inl ⟨s,⟨s,rfl,h2⟩,h3⟩⟩
 case hassign=>intro l x W K hK;clear hzD;gi_wp2;exact hK
 case hbody=>
  rintro l s x V W hcan hI htL hz;obtain⟨v,hrow,hpo⟩:=hI.row;have c0:W.cell? ⟨w.heap.size,0,none⟩=some v:=Ja hrow;have HI:Hid (ApI w s W):=hI;have HROW:Hid (W.heap[w.heap.size]? =some (.cells #[v] 58)):=hrow;have HPO:Hid (NOwn (w.heap.size+3) W v s):=hpo;have tA:=Ta NoB W (.cells #[.string x] 9);obtain⟨v',w3,hrun,hown,hg⟩:=Xz (hpo.tch tA (λ_ _ h=>h)) W.heap.size x (Ja (Qf W _)) 58 (by omega) (by have:=htL.size;have:=tA.size;omega);have hT3:Tch (λj=>some j=v.ownBlock) W w3:=(tA.mono noE).trans (Tg hg) (λ_ h=>.inl h);have e3:w3.heap[w.heap.size]? =some (.cells #[v] 58):=(hT3.block _ (Jb hrow) (λe=>by have:=(hpo.own _ e.symm).1;omega)).trans hrow;have d0:w3.cell? ⟨w.heap.size,0,none⟩=some v:=Ja e3;have f0:w3.frozen? ⟨w.heap.size,0,none⟩=false:=Qg _ _ _ _ _ e3;obtain⟨a',c',hvs⟩:=hown.shape;generalize (s++[x]).length=n' at hvs;subst hvs;obtain⟨X,hX⟩:∃X,X=w3.setRow w.heap.size #[.slice a' n' c']:=⟨_,rfl⟩
  have tX:Tch (λj=>j=w.heap.size) w3 X:=by rw[hX];exact Ts _ _ _
  have hXr:X.heap[w.heap.size]? =some (.cells #[.slice a' n' c'] 58):=by rw[hX];exact Qi _ _ _ _ _ _ e3
  have HXE:Hid (w3.setCell ⟨w.heap.size,0,none⟩ (.slice a' n' c')=X):=by show w3.setCell ⟨w.heap.size,0,none⟩ (.slice a' n' c')=X;rw[hX,Qj w3 w.heap.size 0 _ _ (0,0) _ e3];rfl
  have tWX:Tch (λj=>j=w.heap.size\/some j=v.ownBlock) W X:=(hT3.mono (λ_ h=>.inl (.inr h))).trans tX (λ_ h=>.inl (.inl h));have HEND:Hid (ApI w (s++[x]) X/\KpW w.heap.size W X/\∀l o,W.heap[l]? =some o->l=WD.heap.size\/l=WD.heap.size+1->X.heap[l]? =some o):=by
   have hlow:∀j,(j=w.heap.size\/some j=v.ownBlock)->w.heap.size<=j/\¬(j=WD.heap.size\/j=WD.heap.size+1):=λj hj=>by
    rcases hj with rfl|e
    ·omega
    ·have:=(hpo.own j e.symm).1;omega
   refine⟨⟨hI.below.trans (tWX.below hI.below.size (λj hj=>(hlow j hj).1)),⟨_,hXr,hown.tch tX (λj hj e=>by have:=(hown.own j hj).1;omega)⟩,Qm hI.size tWX.size⟩,⟨tWX.below hI.below.size (λj hj=>(hlow j hj).1),λj o h1 h2=>(tWX.block _ (Jb h1) (λe=>?_)).trans h1⟩,λl o ho hl=>(tWX.block _ (Jb ho) (λe=>(hlow l e).2 hl)).trans ho⟩
   rcases e with rfl|e
   ·rw[hrow]at h1;cases h1;cases h2
   ·obtain⟨_,cs,m,hr⟩:=hpo.own j e.symm;rw[hr]at h1;cases h1;cases h2
  clear hI hrow hpo tA hown hg hT3 e3 hX tX hXr tWX hcan htL hz hzD;gi_wp2_with (gi_at_builtin;refine JdX rfl _ _ 58 rfl rfl rfl hrun ?_);rw[HXE.o]
  first
   | exact⟨.inl ⟨rfl,_,rfl,HEND.o.1,HEND.o.2.1⟩,HEND.o.2.2⟩
   | exact⟨⟨HEND.o.1,HEND.o.2.1⟩,HEND.o.2.2⟩
   | exact⟨⟨_,rfl,HEND.o.1,HEND.o.2.1⟩,HEND.o.2.2⟩
 case hdone=>
  rintro D s W hDe⟨s',hs',hen⟩ hI hK
  cases hs'
  obtain⟨v,hrow,hpo⟩:=hI.row;obtain⟨a',c',hvs⟩:=hpo.shape;generalize s.length=n' at hvs;subst hvs;have c0:W.cell? ⟨w.heap.size,0,none⟩=some (.slice a' n' c'):=Ja hrow;have tP:Tch (λj=>j=D) W (W.putObj D (.deferred none)):=Tch.putObj _ _ _ _ rfl;have HFIN:Hid (End s/\NOwn w.heap.size (W.putObj D (.deferred none)) (.slice a' n' c') s/\Tch NoB w (W.putObj D (.deferred none))):=by refine⟨hen,?_,((Tch.of_below hI.below).trans tP (λj hj=>.inr (by omega))).mono (λj hj=>.inr hj)⟩;obtain⟨h1,h2⟩:=hpo.tch tP (λj hj e=>by have:=(hpo.own j hj).1;omega);refine⟨h1,h2.imp_right ?_⟩;rintro⟨g,cap,cur,h3,h4,h5⟩;exact⟨g,cap,cur,h3,by omega,h5⟩
  have HK:Hid (W.heap[D]? =some (.deferred (some []))):=hK;clear hI hrow hpo tP hK hDe hzD hen;gi_wp2;refine⟨by simp,.inl ⟨_,_,rfl,run_takeDeferred HK.o,?_⟩⟩;exact⟨_,results_tmp results345 _ _ _,_,_,rfl,HFIN.o⟩
 case hstop=>rintro D W _ _ h _;exact h.elim
theorem Jhd(gf:Nat)(lb:Array Value)(N:Nat)(End:List BA->Prop)(eg:∀args w,(callFunc gf args).run prog w=.ok (.enter gf args) w)(w:World)(hN:N<=1000000000)(hseq:Jec gf lb w.heap.size 3 N End w):
  Calls prog 303 #[.func (.func gf) #[] lb] w λe w'=>∃v s,e=.returned v/\End s/\NOwn w.heap.size w' v s/\Tch NoB w w':=by
 have HA:Hid (Calls prog 345 _ w _):=callsIn_wide.1 (JeQ gf lb N End eg w hN hseq);clear hseq eg hN;go_enter func303,ntmps303;go_wp2_with fail;refine HA.o.mono ?_;rintro _ w1⟨v,s,rfl,h1,h2,h3⟩;have HX:Hid (End s/\NOwn w.heap.size w1 v s/\Tch NoB w w1):=⟨h1,h2,h3⟩
 clear h1 h2 h3;go_wp2;go_ret;exact⟨_,s,rfl,HX.o⟩
def Xk(s:List BA):List BA:=((s.map λt=>t.data.toList).mergeSort λx y=>decide (x<=y)).map bsL
theorem JaX(s:List BA):(Xk s).length=s.length:=by simp[Xk]
theorem JlF(v:Value)(s:List BA)(w:World)(h:NOwn base w v s)(hl:s.length<=1000000000):
  Calls prog 155 #[v] w λe w'=>e=.returned (.tuple #[])/\Tch (λj=>some j=v.ownBlock) w w'/\YH w' v (Xk s):=by
 obtain⟨a,c,hv⟩:=h.shape
 by_cases hs:s=[]
 ·subst hs;subst hv;refine(slices_Sort_string_none a c w).mono ?_;rintro e w'⟨rfl,rfl⟩;exact⟨rfl,Te _ _,a,c,by rw[JaX],λi hi=>by simp[Xk]at hi⟩
 ·obtain⟨g,cap,rfl,hgb,hgl,⟨gc,gm,hgr⟩,hcells⟩:=h.at hs;have hH:Go.Sort.Holds Go.Proofs.encStr w g 0 (s.map λt=>t.data.toList).toArray:=λj hj=>by
   have hj':j<s.length:=(by simpa using hj);obtain⟨h1,h2⟩:=hcells j hj';refine⟨?_,by rw[Nat.zero_add];exact h2⟩;rw[Nat.zero_add,h1];simp[hj',Go.Proofs.encStr]
  have:=slices_Sort_string g 0 cap (s.map λt=>t.data.toList) w hH hgl (by simp;omega);rw[QL]at this;refine this.mono ?_;rintro e w'⟨rfl,n,os,rfl⟩;refine⟨rfl,(Tch.putRowG _ _ _ _ _ _ _).mono (λj hj=>.inl (by rw[hj];rfl)),some ⟨g,0,none⟩,cap,by rw[JaX],λi hi=>⟨g,rfl,?_⟩⟩;have hi2:i<((s.map λt=>t.data.toList).mergeSort λx y=>decide (x<=y)).length:=by simpa [Xk]using hi
  have hsz:((s.map λt=>t.data.toList).mergeSort λx y=>decide (x<=y)).toArray.size=(s.map λt=>t.data.toList).toArray.size:=by simp
  have k:=Go.Sort.holds_putRow Go.Proofs.encStr (Go.Sort.ahead w n) g 0 (s.map λt=>t.data.toList).toArray ((s.map λt=>t.data.toList).mergeSort λx y=>decide (x<=y)).toArray (Go.Sort.holds_ahead _ _ _ _ _ _ hH) hsz;have h2:=(Go.Sort.holds_grow _ _ os g 0 _ (by simpa using hgl) k i (by simpa using hi2)).1;rw[Nat.zero_add]at h2;rw[h2,getElem!_pos _ i (by simpa using hi2)];simp[Xk];rfl
theorem YH.next{w':World}(h:YH w v s)(k:Tch NoB w w'):YH w' v s:=by
 obtain⟨a,c,e,hc⟩:=h;refine⟨a,c,e,λi hi=>?_⟩;obtain⟨g,h1,h2⟩:=hc i hi;exact⟨g,h1,(k.cell (p:=⟨g,i,none⟩) (Qr _ _ h2) (λh=>h)).trans h2⟩
theorem JeF(gf:Nat)(lb:Array Value)(N:Nat)(End:List BA->Prop)(eg:∀args w,(callFunc gf args).run prog w=.ok (.enter gf args) w)(w:World)(hN:N<=1000000000)(hEnd:∀s,End s->s.length<=1000000000)(hseq:Jec gf lb w.heap.size 3 N End w):
  Calls prog 233 #[.func (.func gf) #[] lb] w λe w'=>∃v s,e=.returned v/\End s/\YH w' v (Xk s)/\Tch NoB w w':=by
 have HA:Hid (Calls prog 303 _ w _):=Jhd gf lb N End eg w hN hseq;have HEN:Hid (∀s,End s->s.length<=1000000000):=hEnd;clear hseq eg hN hEnd;go_enter func233,ntmps233;go_wp2_with fail;refine HA.o.mono ?_;rintro _ w1⟨v,s,rfl,h1,h2,h3⟩;have HSO:Hid (Calls prog 155 #[v] w1 _):=JlF v s w1 h2 (HEN.o s h1);have HX:Hid (End s/\NOwn w.heap.size w1 v s/\Tch NoB w w1):=⟨h1,h2,h3⟩
 obtain⟨a,c,hv⟩:=h2.shape;generalize s.length=n at hv;subst hv;clear h1 h2 h3 HA;go_wp2_with fail;refine HSO.o.mono ?_;rintro _ w2⟨rfl,ht2,hst⟩;have HT2:Hid (Tch NoB w w2):=HX.o.2.2.trans ht2 (λj hj=>.inr (HX.o.2.1.own j hj.symm).1);have HST:Hid (YH w2 (.slice a n c) (Xk s)):=hst;clear ht2 hst HSO;go_wp2;go_ret;exact⟨_,s,rfl,HX.o.1,HST.o,HT2.o⟩
theorem JkQ(v1 v2:Value)(s1 s2:List BA)(hb:s1.length<=1000000000)(w:World)(h1:YH w v1 s1)(h2:YH w v2 s2):
  Calls prog 232 #[v1,v2] w λe w'=>(∃b,e=.returned (.bool b)/\(s1=s2->b=true))/\Tch NoB w w':=by
 obtain⟨a1,c1,rfl,hc1⟩:=h1;obtain⟨a2,c2,rfl,hc2⟩:=h2
 by_cases hl:s1.length=s2.length
 ·have HC1:Hid (∀i (h:i<s1.length),∃g,a1=some ⟨g,0,none⟩/\w.cell? ⟨g,i,none⟩=some (.string s1[i])):=hc1;have HC2:Hid (∀i (h:i<s2.length),∃g,a2=some ⟨g,0,none⟩/\w.cell? ⟨g,i,none⟩=some (.string s2[i])):=hc2;rw[<-hl];obtain⟨n,hn⟩:∃n,n=s1.length:=⟨_,rfl⟩
  have HN:Hid (n=s1.length/\n=s2.length):=⟨hn,hn.trans hl⟩
  rw[<-hn];have hnb:n<=1000000000:=by omega
  clear hc1 hc2 hl hn hb;go_enter func232,ntmps232;go_wp2;go_loopw [13] (λi wr=>∃k:Nat,k<=n/\i=.int .i64 (k:Int)/\Hid (Tch NoB w wr)) (λi _=>n-(intOf i).toNat)
  case atStart=>exact⟨0,Nat.zero_le _,rfl,Te _ _⟩
  case round=>
   obtain⟨k,hk,rfl,HT⟩:=hrel
   by_cases hlt:k<n
   ·have hk1:k<s1.length:=(by rw[<-HN.o.1];exact hlt);have hk2:k<s2.length:=(by rw[<-HN.o.2];exact hlt);obtain⟨g1,rfl,e1⟩:=HC1.o k hk1;obtain⟨g2,rfl,e2⟩:=HC2.o k hk2;have d1:wr.cell? ⟨g1,k,none⟩=some (.string s1[k]):=(HT.o.cell (p:=⟨g1,k,none⟩) (Qr _ _ e1) (λh=>h)).trans e1;have d2:wr.cell? ⟨g2,k,none⟩=some (.string s2[k]):=(HT.o.cell (p:=⟨g2,k,none⟩) (Qr _ _ e2) (λh=>h)).trans e2;have HEQ:Hid (s1=s2->s1[k]=s2[k]):=λh=>by subst h;rfl
    have HTD:Hid (Tch NoB w wr.drew):=HT.o.go (Td _ _ 1);generalize s1[k]=x at *;generalize s2[k]=y at *;have hlti:(k:Int)<(n:Int):=(by omega);have hk0:(0:Int)<=(k:Int):=(by omega);clear e1 e2 hk1 hk2 HC1 HC2
    by_cases hxy:x=y
    ·subst hxy;go_upto_region 6 with fail;go_region_held3 (λV=>V.cell? ⟨g1,k,none⟩=some (.string x)/\V.cell? ⟨g2,k,none⟩=some (.string x)) (go_keep) (fail)
     all_goals go_wp2;go_roundw
     all_goals first
      | exact⟨k+1,by omega,by go_num,HTD⟩
      | (simp[intOf];omega)
    ·have HXY:Hid (¬x=y):=hxy;have hne:(x.toList == y.toList)=false:=by
      rw[ByteArray.toList_eq,ByteArray.toList_eq,beq_eq_false_iff_ne];exact λe=>hxy (ByteArray.ext (Array.toList_inj.1 e))
     clear hxy;go_upto_region 6 with fail;go_region_held3 (λV=>V.cell? ⟨g1,k,none⟩=some (.string x)/\V.cell? ⟨g2,k,none⟩=some (.string y)) (go_keep) (fail)
     all_goals go_wp2;go_ret;exact⟨⟨false,rfl,λh=>absurd (HEQ.o h) HXY.o⟩,HTD.o⟩
   ·have hge:¬(k:Int)<(n:Int):=(by omega);go_wp2;go_ret
    first|exact⟨⟨true,rfl,λ_=>rfl⟩,HT.o⟩|exact⟨.inr rfl,HT.o⟩
 ·have HL:Hid (¬s1.length=s2.length):=hl;have hli:¬((s1.length:Int)=(s2.length:Int)):=by omega
  clear hc1 hc2;go_enter func232,ntmps232;go_wp2;go_ret;exact⟨⟨false,rfl,λh=>absurd (congrArg List.length h) HL.o⟩,Te _ _⟩

theorem Jb5:∀(l:List Held),(∀h∈l,Jk wj h.1)->(l.map (·.1)).Nodup->((koL l).map (·.1)).Nodup
 | [],_,_=>by simp[koL]
 | x::r,hok,hn=>by
  rw[List.map_cons,List.nodup_cons]at hn;have ih:=Jb5 r (λh hh=>hok h (QP _ hh)) hn.2;unfold koL at ih ⊢;rw[List.map_cons,List.map_cons,List.nodup_cons];refine⟨λhm=>hn.1 ?_,ih⟩;rw[List.map_map,QK]at hm;obtain⟨y,hy,e⟩:=hm;have e2:y.1=x.1:=YJ (hok y (QP _ hy)) (hok x QM) e;exact QK.2 ⟨y,hy,e2⟩
theorem Jdw{d:List UInt8->BA}{st:Option Tr}{l:List Held}(B:Book wj st l){s:List UInt8}{a:List (List UInt8)}(h:Xa d (koL l) s a):a=Xt d st:=by
 refine Xa.of_state B.wf (λx=>?_) (Jb5 l (λh hh=>(B.ok h hh).1) B.nodup) h;unfold koL;rw[QK];obtain⟨k,o⟩:=x;rw[B.mem];constructor
 ·rintro⟨h,h1,h2⟩;simp only[Qw]at h2;exact⟨h,h1,h2⟩
 ·rintro⟨h,h1,h2,h3⟩;exact⟨h,h1,by rw[h2,h3]⟩
