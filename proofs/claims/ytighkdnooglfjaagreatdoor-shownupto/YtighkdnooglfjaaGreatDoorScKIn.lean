import Derived.Test.YtighkdnooglfjaaGreatDoorScKPays
import Derived.OpenShut
import Derived.Deep.SlicePairs
import Derived.Test.YtighkdnooglfjaaGreatDoorScChG
import Derived.Test.YtighkdnooglfjaaGreatDoorScWyU
import Derived.Test.YtighkdnooglfjaaGreatDoorScKShop
namespace Go.Proofs.YtighkdnooglfjaaGreatDoor
open Go.RowKit

def YE (base:Nat) (w:World) (v:Value) (l:List Nat):Prop:=
 ((∃a c,v=.slice a 0 c)/\l=[])\/∃g o c,v=.slice (some ⟨g,o,none⟩) l.length c/\g<base/\∀i (h:i<l.length),w.cell? ⟨g,o+i,none⟩=some (.int .u64 ((l[i]:Nat):Int))
theorem YE.at {base:Nat} {w:World} {v:Value} {l:List Nat} (h:YE base w v l) (hb:base<=w.heap.size):YY w v l:=by
 rcases h with h | ⟨g,o,c,h1,h2,h3⟩
 ·exact .inl h
 ·exact .inr ⟨g,o,c,h1,Qk h2 hb,h3⟩
theorem YE.tch {base:Nat} {w w':World} {v:Value} {l:List Nat} {S:Nat->Prop} (h:YE base w v l) (hb:base<=w.heap.size) (k:Tch S w w') (hs:∀j,S j->base<=j):YE base w' v l:=by
 rcases h with h | ⟨g,o,c,h1,h2,h3⟩
 ·exact .inl h
 ·refine .inr ⟨g,o,c,h1,h2,λi hi=>?_⟩
  rw [k.cell (p:=⟨g,o+i,none⟩) (Qk h2 hb) (λe=>by have:=hs _ e;simp only at this;omega)];exact h3 i hi
def Yl (base:Nat) (w:World) (v:Value) (ps:List PayL):Prop:=
 ((∃a c,v=.slice a 0 c)/\ps=[])\/∃g o c,v=.slice (some ⟨g,o,none⟩) ps.length c/\g<base/\∀i (h:i<ps.length),∃va,YE base w va ps[i].amounts/\
  w.cell? ⟨g,o+i * 6,none⟩=some (.int .i64 ps[i].from_)/\w.cell? ⟨g,o+i * 6+1,none⟩=some (.int .i64 ps[i].many)/\w.cell? ⟨g,o+i * 6+2,none⟩=some va/\w.cell? ⟨g,o+i * 6+3,none⟩=some (.int .u8 ((ps[i].owner:Nat):Int))/\w.cell? ⟨g,o+i * 6+4,none⟩=some (.bool ps[i].wild)/\w.cell? ⟨g,o+i * 6+5,none⟩=some (.bool ps[i].other)
theorem Yl.at {base:Nat} {w:World} {v:Value} {l:List PayL} (h:Yl base w v l) (hb:base<=w.heap.size):Jdf w v l:=by
 rcases h with h | ⟨g,o,c,h1,h2,h3⟩
 ·exact .inl h
 ·refine .inr ⟨g,o,c,h1,Qk h2 hb,λi hi=>?_⟩
  obtain ⟨va,hn,hr⟩:=h3 i hi
  exact ⟨va,hn.at hb,hr⟩
theorem Yl.tch {base:Nat} {w w':World} {v:Value} {l:List PayL} {S:Nat->Prop} (h:Yl base w v l) (hb:base<=w.heap.size) (k:Tch S w w') (hs:∀j,S j->base<=j):Yl base w' v l:=by
 rcases h with h | ⟨g,o,c,h1,h2,h3⟩
 ·exact .inl h
 ·refine .inr ⟨g,o,c,h1,h2,λi hi=>?_⟩
  obtain ⟨va,hn,hr⟩:=h3 i hi
  have hc:∀o,w'.cell? ⟨g,o,none⟩=w.cell? ⟨g,o,none⟩:=λo=>k.cell (p:=⟨g,o,none⟩) (Qk h2 hb) (λe=>by have:=hs _ e;simp only at this;omega)
  refine ⟨va,hn.tch hb k hs,?_⟩
  rw [hc,hc,hc,hc,hc,hc];exact hr
structure JbH where
 kind:Int
 a:Int
 b:Int
 pays:List PayL
def ZF (base:Nat) (w:World) (v:Value) (l:List JbH):Prop:=
 (v=.slice none 0 0/\l=[])\/∃g o c,v=.slice (some ⟨g,o,none⟩) l.length c/\g<base/\∀i (h:i<l.length),∃va,Yl base w va l[i].pays/\
  w.cell? ⟨g,o+i * 4,none⟩=some (.int .i64 l[i].kind)/\w.cell? ⟨g,o+i * 4+1,none⟩=some (.int .i64 l[i].a)/\w.cell? ⟨g,o+i * 4+2,none⟩=some (.int .i64 l[i].b)/\w.cell? ⟨g,o+i * 4+3,none⟩=some va
theorem ZF.shape {base:Nat} {w:World} {v:Value} {l:List JbH} (h:ZF base w v l):∃a c,v=.slice a l.length c:=by
 rcases h with ⟨rfl,rfl⟩ | ⟨gi,oi,c,rfl,_⟩
 ·exact ⟨none,0,rfl⟩
 ·exact ⟨_,_,rfl⟩
open Go.Proofs.Tryz
set_option maxRecDepth 100000
open Go.ChangeShapes Go.WideShapes Go.ChangeAt Go.RowKit Go.Deep

theorem cOut:prog.cellsOf 80=2:=by kernel_rfl
theorem cU64:prog.cellsOf 78=1:=by kernel_rfl
theorem cU8:prog.cellsOf 5=1:=by kernel_rfl
theorem cInt:prog.cellsOf 3=1:=by kernel_rfl
theorem Jlo:prog.cellsOf 4=1:=by kernel_rfl
theorem Jlq:prog.cellsOf 29=1:=by kernel_rfl
theorem Jlp:prog.cellsOf 100=1:=by kernel_rfl
theorem cPay:prog.cellsOf 102=6:=by kernel_rfl
theorem Jkx:prog.cellsOf 31=4:=by kernel_rfl
section
variable {H:Type} {enc:TypeId×Value->H} {W:World}
theorem Jig (d:DataW H):1<=Rows.uptoBulk d:=by
 cases d with
 | lit l=>cases l <;> simp [Rows.uptoBulk]
 | nil=>simp [Rows.uptoBulk]
 | ptr d=>simp [Rows.uptoBulk]
 | slice elems spare=>simp [Rows.uptoBulk]
 | agg parts=>simp [Rows.uptoBulk]
 | iface t d=>simp [Rows.uptoBulk]
 | map entries=>simp [Rows.uptoBulk]
 | held h=>simp [Rows.uptoBulk]
theorem Jaz {d:DataW H} {l:List (DataW H)} (h:d∈l):Rows.uptoBulk d<=Rows.uptoBulkAll l:=by
 induction l with
 | nil=>cases h
 | cons x r ih=>
  simp only [Rows.uptoBulkAll]
  cases List.mem_cons.1 h with
  | inl e=>subst e;omega
  | inr e=>have:=ih e;omega
theorem Jea (l:List (DataW H)):l.length<=Rows.uptoBulkAll l:=by
 induction l with
 | nil=>simp [Rows.uptoBulkAll]
 | cons x r ih=>have:=Jig x;simp only [Rows.uptoBulkAll,Qp];omega
theorem JbI {a:Addr} {v:Value} (h:W.cell? a=some v):a=⟨a.block,a.off,none⟩/\a.block<W.heap.size:=by
 refine ⟨?_,Qr _ _ h⟩
 obtain ⟨b,o,s⟩:=a
 cases s with
 | none=>rfl
 | some k=>
  unfold World.cell? at h
  split at h
  ·simp at h
  ·cases h
theorem Jhc {fuel:Nat} {v:Value} {x:DataW H×List MemPlace} (h:DataW.trod enc prog W 0 (λ_=>true) true fuel 100 [v]=some x):
  ∃l:List Nat,YE W.heap.size W v l/\(∀n∈l,n<18446744073709551616)/\l.length<=Rows.uptoBulk x.1:=by
 rcases open_slice1 underlying100 cU64 h with ⟨h0,h1⟩ | ⟨a,len,cap,m,n,V,D,Pl,h0,hb,hl,hm,hmm,hx,he⟩
 ·simp only [QH,and_true] at h0
  exact ⟨[],.inl ⟨⟨_,_,h0⟩,rfl⟩,λ_ h=>(QD h).elim,by simp⟩
 ·simp only [QH,and_true] at h0
  simp only [if_true] at hmm
  subst hmm
  have hint:∀i,i<m->∃k:Nat,V i=.int .u64 (k:Int)/\k<18446744073709551616:=λi hi=>by
   obtain ⟨z,h1,h3,h2⟩:=DataW.trod_int underlying78 (he i hi).2
   simp only [QH,and_true] at h1
   have hb:=bounds_u64 h2
   exact ⟨z.toNat,by rw [h1];congr 1;omega,by omega⟩
  obtain ⟨N,hN⟩:=choose_lt hint
  refine ⟨(List.range len).map N,?_,λx hx=>?_,?_⟩
  ·rcases Nat.eq_zero_or_pos len with h00 | hpos
   ·subst h00;exact .inl ⟨⟨_,_,h0⟩,rfl⟩
   ·obtain ⟨ea,hlt⟩:=JbI (he 0 (by omega)).1
    simp only [Addr.add,if_true] at ea hlt
    rw [ea] at h0
    refine .inr ⟨a.block,a.off,m,by rw [h0];simp,hlt,λi hi=>?_⟩
    simp only [QL,List.length_range] at hi
    have:=(he i (by omega)).1
    rw [ea,(hN i (by omega)).1] at this
    simp only [List.getElem_map,List.getElem_range]
    rw [<-this]
    by_cases hi0:i=0 <;> simp [Addr.add,hi0]
  ·rw [QK] at hx
   obtain ⟨i,hi,rfl⟩:=hx
   exact (hN i (by have:=List.mem_range.1 hi;omega)).2
  ·rw [hx]
   have:=Jea ((List.range len).map D)
   simp only [Rows.uptoBulk,QL,List.length_range] at this ⊢
   omega
theorem JiU {n:Nat} {cs:List Value} {y:DataW H×List MemPlace} (h:DataW.trod enc prog W 0 (λ_=>true) true n 102 cs=some y):
  ∃(p:PayL) (va:Value),cs=[.int .i64 p.from_,.int .i64 p.many,va,.int .u8 ((p.owner:Nat):Int),.bool p.wild,.bool p.other]/\YE W.heap.size W va p.amounts/\(Rows.uptoBulk y.1<=1048576->p.Ok):=by
 obtain ⟨xs,k,rfl,hy,hlen,hxl,hf⟩:=DataW.trod_struct underlying102 h
 rw [cPay] at hlen
 match cs,hlen with
 | [v0,v1,v2,v3,v4,v5],_=>
  match xs,hxl with
  | [y0,y1,y2,y3,y4,y5],_=>
   have g0:=hf 0 _ rfl
   have g1:=hf 1 _ rfl
   have g2:=hf 2 _ rfl
   have g3:=hf 3 _ rfl
   have g4:=hf 4 _ rfl
   have g5:=hf 5 _ rfl
   simp [cInt,Jlp,cU8,Jlo] at g0 g1 g2 g3 g4 g5
   obtain ⟨z0,e0,_,b0⟩:=DataW.trod_int underlying3 g0
   obtain ⟨z1,e1,_,b1⟩:=DataW.trod_int underlying3 g1
   obtain ⟨z3,e3,_,b3⟩:=DataW.trod_int underlying5 g3
   obtain ⟨z4,e4,_⟩:=DataW.trod_bool underlying4 g4
   obtain ⟨z5,e5,_⟩:=DataW.trod_bool underlying4 g5
   obtain ⟨l,hl,hb,hlb⟩:=Jhc g2
   have c0:=bounds_i64 b0
   have c1:=bounds_i64 b1
   have c3:=bounds_u8 b3
   simp only [QH,and_true] at e0 e1 e3 e4 e5
   refine ⟨⟨z0,z1,l,z3.toNat,z4,z5⟩,v2,?_,hl,λhk=>⟨c0.1,by show z0<_;omega,c1.1,by show z1<_;omega,hb,by show z3.toNat<256;omega,?_⟩⟩
   ·rw [e0,e1,e3,e4,e5]
    simp only [QH,Value.int.injEq,true_and,and_true]
    omega
   ·have hm:y2.1∈[y0,y1,y2,y3,y4,y5].map (·.1):=by simp
    have:=Jaz hm
    rw [hy] at hk
    simp only [Rows.uptoBulk] at hk
    show l.length<1000000000
    omega
theorem Jhg {fuel:Nat} {v:Value} {x:DataW H×List MemPlace} (h:DataW.trod enc prog W 0 (λ_=>true) true fuel 29 [v]=some x):
  ∃l:List PayL,Yl W.heap.size W v l/\(Rows.uptoBulk x.1<=1048576->∀p∈l,p.Ok):=by
 rcases open_slice underlying29 h with ⟨h0,h1⟩ | ⟨a,len,cap,m,n,D,Pl,h0,hb,hl,hm,hmm,hx,he⟩
 ·simp only [QH,and_true] at h0
  exact ⟨[],.inl ⟨⟨_,_,h0⟩,rfl⟩,λ_ _ h=>(QD h).elim⟩
 ·simp only [QH,and_true] at h0
  simp only [if_true] at hmm
  subst hmm
  rw [cPay] at he
  have hp:∀i,i<m->∃q:PayL×Value,W.cells? 0 (a.add (i * 6)) 6=some [.int .i64 q.1.from_,.int .i64 q.1.many,q.2,.int .u8 ((q.1.owner:Nat):Int),.bool q.1.wild,.bool q.1.other]/\YE W.heap.size W q.2 q.1.amounts/\(Rows.uptoBulk (D i)<=1048576->q.1.Ok):=λi hi=>by
   obtain ⟨cs',h1,h2⟩:=he i hi
   obtain ⟨p,va,rfl,h4,h5⟩:=JiU h2
   exact ⟨(p,va),h1,h4,h5⟩
  haveI:Inhabited (PayL×Value):=⟨(⟨0,0,[],0,false,false⟩,.nilIface)⟩
  obtain ⟨Q,hQ⟩:=choose_lt hp
  refine ⟨(List.range len).map λi=>(Q i).1,?_,λhk p hp=>?_⟩
  ·rcases Nat.eq_zero_or_pos len with h00 | hpos
   ·subst h00;exact .inl ⟨⟨_,_,h0⟩,rfl⟩
   ·obtain ⟨_,_,hc0⟩:=World.cells?_some (hQ 0 (by omega)).1
    have hc00:=hc0 0 (by omega)
    simp only [Nat.zero_mul,Addr.add,if_true] at hc00
    obtain ⟨ea,hlt⟩:=JbI (show W.cell? a=some _ from hc00)
    rw [ea] at h0
    refine .inr ⟨a.block,a.off,m,by rw [h0];simp,hlt,λi hi=>?_⟩
    simp only [QL,List.length_range] at hi
    obtain ⟨_,_,hc⟩:=World.cells?_some (hQ i (by omega)).1
    have ad:∀j,((a.add (i * 6)).add j)=⟨a.block,a.off+i * 6+j,none⟩:=λj=>by
     rw [add_add,ea];unfold Addr.add;split
     ·rename_i hz;simp <;> omega
     ·simp <;> omega
    refine ⟨(Q i).2,?_⟩
    simp only [List.getElem_map,List.getElem_range]
    have w0:=hc 0 (by omega)
    have w1:=hc 1 (by omega)
    have w2:=hc 2 (by omega)
    have w3:=hc 3 (by omega)
    have w4:=hc 4 (by omega)
    have w5:=hc 5 (by omega)
    rw [ad] at w0 w1 w2 w3 w4 w5
    exact ⟨(hQ i (by omega)).2.1,w0,w1,w2,w3,w4,w5⟩
  ·rw [QK] at hp
   obtain ⟨i,hi,rfl⟩:=hp
   have hi:=List.mem_range.1 hi
   refine (hQ i (by omega)).2.2 ?_
   have hm:D i∈(List.range len).map D:=QK.2 ⟨i,List.mem_range.2 hi,rfl⟩
   have:=Jaz hm
   rw [hx] at hk
   simp only [Rows.uptoBulk] at hk
   omega
theorem JhC {n:Nat} {cs:List Value} {y:DataW H×List MemPlace} (h:DataW.trod enc prog W 0 (λ_=>true) true n 31 cs=some y):
  ∃(p:JbH) (va:Value),cs=[.int .i64 p.kind,.int .i64 p.a,.int .i64 p.b,va]/\Yl W.heap.size W va p.pays/\(Rows.uptoBulk y.1<=1048576->∀q∈p.pays,q.Ok)/\(-9223372036854775808<=p.a/\p.a<9223372036854775808)/\(-9223372036854775808<=p.b/\p.b<9223372036854775808):=by
 obtain ⟨xs,k,rfl,hy,hlen,hxl,hf⟩:=DataW.trod_struct underlying31 h
 rw [Jkx] at hlen
 match cs,hlen with
 | [v0,v1,v2,v3],_=>
  match xs,hxl with
  | [y0,y1,y2,y3],_=>
   have g0:=hf 0 _ rfl
   have g1:=hf 1 _ rfl
   have g2:=hf 2 _ rfl
   have g3:=hf 3 _ rfl
   simp [cInt,Jlq] at g0 g1 g2 g3
   obtain ⟨z0,e0,_,_⟩:=DataW.trod_int underlying3 g0
   obtain ⟨z1,e1,_,b1⟩:=DataW.trod_int underlying3 g1
   obtain ⟨z2,e2,_,b2⟩:=DataW.trod_int underlying3 g2
   obtain ⟨l,hl,hok⟩:=Jhg g3
   have c1:=bounds_i64 b1
   have c2:=bounds_i64 b2
   simp only [QH,and_true] at e0 e1 e2
   refine ⟨⟨z0,z1,z2,l⟩,v3,by rw [e0,e1,e2],hl,λhk=>hok ?_,⟨c1.1,by show z1<_;omega⟩,⟨c2.1,by show z2<_;omega⟩⟩
   have hm:y3.1∈[y0,y1,y2,y3].map (·.1):=by simp
   have:=Jaz hm
   rw [hy] at hk
   simp only [Rows.uptoBulk] at hk
   omega
theorem Jac {b:Nat} {t e:TypeId} {v:Value} (ht:prog.underlying t=some (.slice e)) (h:Value.okWide prog W .any b t v):v=.slice none 0 0\/∃g o len cap,v=.slice (some ⟨g,o,none⟩) len cap/\g<W.heap.size:=by
 unfold Value.okWide at h
 rw [ht] at h
 simp only at h
 unfold Cell.okWide at h
 rw [ht] at h
 cases v <;> simp only at h
 all_goals first
  | (unfold Cell.ok at h;rw [ht] at h;simp only at h;done)
  | skip
 rename_i ad len cap
 unfold Cell.ok at h
 rw [ht] at h
 cases ad with
 | none=>
  left
  cases len with
  | zero=>
   cases cap with
   | zero=>rfl
   | succ n=>simp at h
  | succ n=>simp at h
 | some a=>
  right
  obtain ⟨_,_,_,hs,row,cells,hsh,_⟩:=h
  obtain ⟨g,o,s⟩:=a
  simp only at hs
  subst hs
  refine ⟨g,o,len,cap,rfl,?_⟩
  unfold World.shape? at hsh
  split at hsh
  ·rename_i hh;exact (Jb hh)
  ·cases hsh
theorem JfO {b fuel:Nat} {v:Value} {x:DataW H×List MemPlace} (hv:Value.okWide prog W .any b 26 v) (h:DataW.trod enc prog W 0 (λ_=>true) true fuel 26 [v]=some x) (hk:Rows.uptoBulk x.1<=1048576):
  ∃l:List JbH,ZF W.heap.size W v l/\(∀s∈l,∀p∈s.pays,p.Ok)/\(∀s∈l,(-9223372036854775808<=s.a/\s.a<9223372036854775808)/\(-9223372036854775808<=s.b/\s.b<9223372036854775808))/\l.length<=1048576:=by
 rcases Jac underlying26 hv with rfl | ⟨g,o,len0,cap0,rfl,hg⟩
 ·exact ⟨[],.inl ⟨rfl,rfl⟩,λ_ h=>(QD h).elim,λ_ h=>(QD h).elim,by simp⟩
 rcases open_slice underlying26 h with ⟨h0,h1⟩ | ⟨a,len,cap,m,n,D,Pl,h0,hb,hl,hm,hmm,hx,he⟩
 ·simp at h0
 ·simp only [QH,and_true,Qy,Qh] at h0
  obtain ⟨rfl,rfl,rfl⟩:=h0
  simp only [if_true] at hmm
  subst hmm
  rw [Jkx] at he
  have hp:∀i,i<m->∃q:JbH×Value,W.cells? 0 ((⟨g,o,none⟩:Addr).add (i * 4)) 4=some [.int .i64 q.1.kind,.int .i64 q.1.a,.int .i64 q.1.b,q.2]/\Yl W.heap.size W q.2 q.1.pays/\(Rows.uptoBulk (D i)<=1048576->∀p∈q.1.pays,p.Ok)/\(-9223372036854775808<=q.1.a/\q.1.a<9223372036854775808)/\(-9223372036854775808<=q.1.b/\q.1.b<9223372036854775808):=λi hi=>by
   obtain ⟨cs',h1,h2⟩:=he i hi
   obtain ⟨p,va,rfl,h4,h5,h6,h7⟩:=JhC h2
   exact ⟨(p,va),h1,h4,h5,h6,h7⟩
  haveI:Inhabited (JbH×Value):=⟨(⟨0,0,0,[]⟩,.nilIface)⟩
  obtain ⟨Q,hQ⟩:=choose_lt hp
  rw [hx] at hk
  simp only [Rows.uptoBulk] at hk
  have hDi:∀i,i<len0->Rows.uptoBulk (D i)<=1048576:=λi hi=>by
   have hm:D i∈(List.range len0).map D:=QK.2 ⟨i,List.mem_range.2 hi,rfl⟩
   have:=Jaz hm
   omega
  refine ⟨(List.range len0).map λi=>(Q i).1,.inr ⟨g,o,m,by simp,hg,λi hi=>?_⟩,λs hs=>?_,λs hs=>?_,?_⟩
  ·simp only [QL,List.length_range] at hi
   obtain ⟨_,_,hc⟩:=World.cells?_some (hQ i (by omega)).1
   have ad:∀j,(((⟨g,o,none⟩:Addr).add (i * 4)).add j)=⟨g,o+i * 4+j,none⟩:=λj=>by
    rw [add_add];unfold Addr.add;split
    ·rename_i hz;simp <;> omega
    ·simp <;> omega
   refine ⟨(Q i).2,?_⟩
   simp only [List.getElem_map,List.getElem_range]
   have w0:=hc 0 (by omega)
   have w1:=hc 1 (by omega)
   have w2:=hc 2 (by omega)
   have w3:=hc 3 (by omega)
   rw [ad] at w0 w1 w2 w3
   exact ⟨(hQ i (by omega)).2.1,w0,w1,w2,w3⟩
  ·rw [QK] at hs
   obtain ⟨i,hi,rfl⟩:=hs
   have hi:=List.mem_range.1 hi
   exact (hQ i (by omega)).2.2.1 (hDi i hi)
  ·rw [QK] at hs
   obtain ⟨i,hi,rfl⟩:=hs
   have hi:=List.mem_range.1 hi
   exact (hQ i (by omega)).2.2.2
  ·have:=Jea ((List.range len0).map D)
   simp only [QL,List.length_range] at this ⊢
   omega
theorem Jhf {b fuel:Nat} {v:Value} {x:DataW H×List MemPlace} (hv:Value.okWide prog W .any b 22 v) (h:DataW.trod enc prog W 0 (λ_=>true) true fuel 22 [v]=some x):
  ∃l:List (Nat×Nat),Jo W.heap.size W v l/\∀o∈l,Jq o:=by
 rcases Jac underlying22 hv with rfl | ⟨g,o,len0,cap0,rfl,hg⟩
 ·exact ⟨[],.inl ⟨rfl,rfl⟩,λ_ h=>(QD h).elim⟩
 rcases open_slice_pairs underlying22 underlying80 cOut rfl rfl cU64 cU8 h with ⟨h0,h1⟩ | ⟨a,len,cap,m,n,V0,V1,D0,D1,P0,P1,h0,hb,hl,hm,hmm,hx,he⟩
 ·simp at h0
 ·simp only [QH,and_true,Qy,Qh] at h0
  obtain ⟨rfl,rfl,rfl⟩:=h0
  simp only [if_true] at hmm
  subst hmm
  have hp:∀i,i<m->∃q:Nat×Nat,V0 i=.int .u64 (q.1:Int)/\V1 i=.int .u8 (q.2:Int)/\Jq q:=λi hi=>by
   obtain ⟨_,_,h2,h3⟩:=he i hi
   obtain ⟨z0,e0,_,b0⟩:=DataW.trod_int underlying78 h2
   obtain ⟨z1,e1,_,b1⟩:=DataW.trod_int underlying5 h3
   simp only [QH,and_true] at e0 e1
   have c0:=bounds_u64 b0
   have c1:=bounds_u8 b1
   exact ⟨(z0.toNat,z1.toNat),by rw [e0];congr 1;omega,by rw [e1];congr 1;omega,⟨by show z0.toNat<_;omega,by show z1.toNat<_;omega⟩⟩
  obtain ⟨Q,hQ⟩:=choose_lt hp
  refine ⟨(List.range len0).map Q,.inr ⟨g,o,m,by simp,hg,hg,λi hi=>?_⟩,λs hs=>?_⟩
  ·simp only [QL,List.length_range] at hi
   obtain ⟨w0,w1,_,_⟩:=he i (by omega)
   have ad:∀j,(⟨g,o,none⟩:Addr).add j=⟨g,o+j,none⟩:=λj=>by
    unfold Addr.add;split
    ·rename_i hz;simp <;> omega
    ·simp
   rw [ad,(hQ i (by omega)).1] at w0
   rw [ad,(hQ i (by omega)).2.1] at w1
   simp only [List.getElem_map,List.getElem_range]
   exact ⟨w0,by rw [Nat.add_assoc];exact w1⟩
  ·rw [QK] at hs
   obtain ⟨i,hi,rfl⟩:=hs
   exact (hQ i (by have:=List.mem_range.1 hi;omega)).2.2
end
set_option maxHeartbeats 1000000

theorem JfM {w:World} {cb wd fl r:Nat} {bs:List BV} {v:Value} (h:JI w cb wd fl r bs v) (k:Nat) (b:BV) (hk:bs[k]? =some b) (hf:fl<=k):
  Calls prog 92 #[.pointer (some ⟨cb,0,none⟩),.int .i64 (k:Int)] w λe w'=>e=.returned (.tuple #[Jv b.2.1 b.2.2,.nilIface])/\Tch NoB w w':=by
 obtain ⟨W,hW⟩:∃W,W=w.alloc (.cells #[.int .i64 0,.pointer none] 146):=⟨_,rfl⟩
 have hA:Tch NoB w W:=by rw [hW];exact Ta _ _ _
 have c1:W.cell? ⟨cb,1,none⟩=some (.int .i64 (fl:Int)):=Ja (h.next hA).row
 have HAT:Hid (Calls _ _ _ _ _):=Jkw (h.next hA) k b hk
 have hrow:W.heap[w.heap.size]? =some (.cells #[.int .i64 0,.pointer none] 146):=by rw [hW];exact Qf _ _
 have HW:Hid _:=hW
 have HR:Hid _:=hrow
 have HA:Hid _:=hA
 obtain ⟨bh,bu,bq⟩:=b
 obtain ⟨rv,hrv⟩:∃rv,Jh bq=.pointer rv:=⟨_,rfl⟩
 simp only [bV] at HAT
 show Calls _ _ _ _ λe w'=>e=.returned (.tuple #[.agg #[_,Jh bq],.nilIface])/\_
 rw [hrv] at HAT ⊢
 have hlt:¬(k:Int)<(fl:Int):=by omega
 clear h hk hW hrow hA hrv hf
 go_enter func92,ntmps92
 go_upto_region 1 with fail
 rw [<-HW.o]
 go_wp2_with fail
 refine HAT.o.mono ?_
 rintro _ w2 ⟨rfl,ht2⟩
 have hr2:w2.heap[w.heap.size]? =some (.cells #[.int .i64 0,.pointer none] 146):=(ht2.block _ (Jb HR.o) (λh=>h)).trans HR.o
 have hz2:=(Jb hr2)
 obtain ⟨W3,hW3⟩:∃W3,W3=w2.alloc (.cells #[.string bh,.int .i64 (bu:Int),.pointer rv] 148):=⟨_,rfl⟩
 have t3:Tch NoB w2 W3:=by rw [hW3];exact Ta _ _ _
 have hr3:W3.heap[w.heap.size]? =some (.cells #[.int .i64 0,.pointer none] 146):=(t3.block _ hz2 (λh=>h)).trans hr2
 have hq3:W3.heap[w2.heap.size]? =some (.cells #[.string bh,.int .i64 (bu:Int),.pointer rv] 148):=by rw [hW3];exact Qf _ _
 have r0:W3.cell? ⟨w.heap.size,0,none⟩=some (.int .i64 0):=Ja hr3
 have r1:W3.cell? ⟨w.heap.size,1,none⟩=some (.pointer none):=Ja hr3
 have fR:∀j,W3.frozen? ⟨w.heap.size,j,none⟩=false:=λj=>Qg _ _ _ _ _ hr3
 have q1:W3.cell? ⟨w2.heap.size,1,none⟩=some (.int .i64 (bu:Int)):=Ja hq3
 have q2:W3.cell? ⟨w2.heap.size,2,none⟩=some (.pointer rv):=Ja hq3
 have HR3:Hid _:=hr3
 have HW3:Hid (W3=_):=hW3
 have HT3:Hid (Tch NoB w W3):=(HA.o.go ht2).go t3
 clear ht2 hr2 t3 hr3 hq3 hW3 HAT HR HA HW c1
 go_upto_region 4 with fail
 rw [<-HW3.o]
 go_wp2
 rw [set2 _ _ _ _ _ _ _ HR3.o]
 refine QJ (v:=.tuple #[.agg #[.int .i64 (bu:Int),.pointer rv],.nilIface]) (Jj results92 _ _ w.heap.size _ _ (0,0) _ rfl (Qi _ _ _ _ _ _ HR3.o) underlying146 rfl (by kernel_rfl)) rfl ⟨rfl,?_⟩
 exact HT3.o.trans (Ts _ _ _) (λj hj=>.inr (by omega))
theorem JeV (E:Nat->Addr) {w:World} (hE:Env E w) {cb wd fl r:Nat} {bs:List BV} {v:Value} (h:JI w cb wd fl r bs v) (k:Int) (hk:k<(fl:Int)):
  Calls prog 92 #[.pointer (some ⟨cb,0,none⟩),.int .i64 k] w λe w'=>∃t u,e=.returned (.tuple #[Jv 0 none,.iface t u])/\Jl E 5 w' (.iface t u)/\Tch NoB w w':=by
 obtain ⟨W,hW⟩:∃W,W=w.alloc (.cells #[.int .i64 0,.pointer none] 146):=⟨_,rfl⟩
 have hA:Tch NoB w W:=by rw [hW];exact Ta _ _ _
 have c1:W.cell? ⟨cb,1,none⟩=some (.int .i64 (fl:Int)):=Ja (h.next hA).row
 have hrg:=(hE.tch hA noE).range
 have hsz:=(hE.tch hA noE).size
 have hGs:5<W.heap.size:=Qk (by decide) hsz
 have hrow:W.heap[w.heap.size]? =some (.cells #[.int .i64 0,.pointer none] 146):=by rw [hW];exact Qf _ _
 have r0:W.cell? ⟨w.heap.size,0,none⟩=some (.int .i64 0):=Ja hrow
 have r1:W.cell? ⟨w.heap.size,1,none⟩=some (.pointer none):=Ja hrow
 have fR:∀j,W.frozen? ⟨w.heap.size,j,none⟩=false:=λj=>Qg _ _ _ _ _ hrow
 have HW:Hid _:=hW
 have HR:Hid _:=hrow
 have HA:Hid _:=hA
 have hz:w.heap.size<W.heap.size:=(Jb hrow)
 show Calls _ _ _ _ λe w'=>∃t u,e=.returned (.tuple #[.agg #[.int .i64 0,.pointer none],.iface t u])/\_
 clear h hW hrow hA hE hsz
 go_enter func92,ntmps92
 go_upto_region 1 with fail
 rw [<-HW.o]
 go_wp2_with fail
 refine (XC _ _ _ _).mono ?_
 rintro _ _ ⟨rfl,rfl⟩
 have hrow2:(W.alloc (.cells #[.string ⟨#[104,101,105,103,104,116]⟩,eV E 5] 237)).heap[w.heap.size]? =some (.cells #[.int .i64 0,.pointer none] 146):=(Below.heap_alloc W _ _ hz).trans HR.o
 have hpl:=Qf W (.cells #[.string ⟨#[104,101,105,103,104,116]⟩,eV E 5] 237)
 have t2:=Ta NoB W (.cells #[.string ⟨#[104,101,105,103,104,116]⟩,eV E 5] 237)
 have HR2:Hid (_=_):=hrow2
 have HPL:Hid (_=_):=hpl
 have HT2:Hid _:=t2
 have r0:(W.alloc (.cells #[.string ⟨#[104,101,105,103,104,116]⟩,eV E 5] 237)).cell? ⟨w.heap.size,0,none⟩=some (.int .i64 0):=Ja hrow2
 have r1:(W.alloc (.cells #[.string ⟨#[104,101,105,103,104,116]⟩,eV E 5] 237)).cell? ⟨w.heap.size,1,none⟩=some (.pointer none):=Ja hrow2
 have fR:∀j,(W.alloc (.cells #[.string ⟨#[104,101,105,103,104,116]⟩,eV E 5] 237)).frozen? ⟨w.heap.size,j,none⟩=false:=λj=>Qg _ _ _ _ _ hrow2
 clear hrow2 hpl t2
 generalize W.alloc (.cells #[.string ⟨#[104,101,105,103,104,116]⟩,eV E 5] 237)=W2 at *
 go_wp2
 rw [set2 _ _ _ _ _ _ _ HR2.o]
 refine QJ (v:=.tuple #[.agg #[.int .i64 0,.pointer none],.iface 235 (.pointer (some ⟨W.heap.size,0,none⟩))]) (Jj results92 _ _ w.heap.size _ _ (0,0) _ rfl (Qi _ _ _ _ _ _ HR2.o) underlying146 rfl (by kernel_rfl)) rfl ⟨_,_,rfl,?_,?_⟩
 ·exact .wrap W.heap.size ⟨#[104,101,105,103,104,116]⟩ (eV E 5) ((setRow_other _ _ _ _ (by omega)).trans HPL.o) .base
 ·exact (HA.o.go HT2.o).trans (Ts _ _ _) (λj hj=>.inr (by omega))
theorem JdQ (E:Nat->Addr) {w:World} (hE:Env E w) {cb wd fl r:Nat} {bs:List BV} {v:Value} (h:JI w cb wd fl r bs v) (k:Int) (hf:(fl:Int)<=k) (hk:¬(0<=k/\k<bs.length)):
  Calls prog 92 #[.pointer (some ⟨cb,0,none⟩),.int .i64 k] w λe w'=>∃t u,e=.returned (.tuple #[Jv 0 none,.iface t u])/\Jl E 5 w' (.iface t u)/\Tch NoB w w':=by
 obtain ⟨W,hW⟩:∃W,W=w.alloc (.cells #[.int .i64 0,.pointer none] 146):=⟨_,rfl⟩
 have hA:Tch NoB w W:=by rw [hW];exact Ta _ _ _
 have c1:W.cell? ⟨cb,1,none⟩=some (.int .i64 (fl:Int)):=Ja (h.next hA).row
 have HAT:Hid (Calls _ _ _ _ _):=Jib E (hE.tch hA noE) (h.next hA) k hk
 have hrow:W.heap[w.heap.size]? =some (.cells #[.int .i64 0,.pointer none] 146):=by rw [hW];exact Qf _ _
 have HW:Hid _:=hW
 have HR:Hid _:=hrow
 have HA:Hid _:=hA
 simp only [bV,Jh,Option.map_none] at HAT
 show Calls _ _ _ _ λe w'=>∃t u,e=.returned (.tuple #[.agg #[.int .i64 0,.pointer none],.iface t u])/\_
 have hlt:¬k<(fl:Int):=by omega
 clear h hk hW hrow hA hf hE
 go_enter func92,ntmps92
 go_upto_region 1 with fail
 rw [<-HW.o]
 go_wp2_with fail
 refine HAT.o.mono ?_
 rintro _ w2 ⟨t,u,rfl,he2,ht2⟩
 have hr2:w2.heap[w.heap.size]? =some (.cells #[.int .i64 0,.pointer none] 146):=(ht2.block _ (Jb HR.o) (λh=>h)).trans HR.o
 have hz2:=(Jb hr2)
 obtain ⟨W3,hW3⟩:∃W3,W3=w2.alloc (.cells #[.string ⟨#[]⟩,.int .i64 0,.pointer none] 148):=⟨_,rfl⟩
 have t3:Tch NoB w2 W3:=by rw [hW3];exact Ta _ _ _
 have hr3:W3.heap[w.heap.size]? =some (.cells #[.int .i64 0,.pointer none] 146):=(t3.block _ hz2 (λh=>h)).trans hr2
 have hq3:W3.heap[w2.heap.size]? =some (.cells #[.string ⟨#[]⟩,.int .i64 0,.pointer none] 148):=by rw [hW3];exact Qf _ _
 have r0:W3.cell? ⟨w.heap.size,0,none⟩=some (.int .i64 0):=Ja hr3
 have r1:W3.cell? ⟨w.heap.size,1,none⟩=some (.pointer none):=Ja hr3
 have fR:∀j,W3.frozen? ⟨w.heap.size,j,none⟩=false:=λj=>Qg _ _ _ _ _ hr3
 have q1:W3.cell? ⟨w2.heap.size,1,none⟩=some (.int .i64 0):=Ja hq3
 have q2:W3.cell? ⟨w2.heap.size,2,none⟩=some (.pointer none):=Ja hq3
 have HR3:Hid _:=hr3
 have HW3:Hid (W3=_):=hW3
 have HT3:Hid (Tch NoB w W3):=(HA.o.go ht2).go t3
 have HE3:Hid (Jl E 5 W3 (.iface t u)):=he2.tch t3 (λ_ _ _ _ h=>h)
 clear ht2 hr2 t3 hr3 hq3 hW3 HAT HR HA HW c1 he2
 go_upto_region 4 with fail
 rw [<-HW3.o]
 go_wp2
 rw [set2 _ _ _ _ _ _ _ HR3.o]
 refine QJ (v:=.tuple #[.agg #[.int .i64 0,.pointer none],.iface t u]) (Jj results92 _ _ w.heap.size _ _ (0,0) _ rfl (Qi _ _ _ _ _ _ HR3.o) underlying146 rfl (by kernel_rfl)) rfl ⟨_,_,rfl,?_,?_⟩
 ·exact HE3.o.tch (Ts _ _ _) (λj c x hj e=>by rw [e,HR3.o] at hj;simp at hj)
 ·exact HT3.o.trans (Ts _ _ _) (λj hj=>.inr (by omega))
theorem JeW (E:Nat->Addr) {w:World} (hE:Env E w) {cb wd fl r:Nat} {bs:List BV} {v:Value} (h:JI w cb wd fl r bs v) (k:Int) (hk:¬((fl:Int)<=k/\k<bs.length)):
  Calls prog 92 #[.pointer (some ⟨cb,0,none⟩),.int .i64 k] w λe w'=>∃t u,e=.returned (.tuple #[Jv 0 none,.iface t u])/\Jl E 5 w' (.iface t u)/\Tch NoB w w':=by
 by_cases hf:k<(fl:Int)
 ·exact JeV E hE h k hf
 ·exact JdQ E hE h k (by omega) (by omega)
theorem Jhj (E:Nat->Addr) {w:World} (hE:Env E w) {cb wd fl r:Nat} {bs:List BV} {v:Value} (h:JI w cb wd fl r bs v) (k:Int) (hk:¬((fl:Int)<=k/\k<bs.length)) (c:BA×Int):
  Calls prog 50 #[.pointer (some ⟨cb,0,none⟩),.int .i64 k,.agg #[.string c.1,.int .i64 c.2]] w λe w'=>Tch NoB w w'/\∃t u,e=.returned (.tuple #[.string ⟨#[]⟩,.iface t u])/\Jl E 5 w' (.iface t u):=by
 obtain ⟨s,N⟩:=c
 have HS:Hid (∀W,Tch NoB w W->Calls prog 92 #[.pointer (some ⟨cb,0,none⟩),.int .i64 k] W λe w'=>∃t u,e=.returned (.tuple #[.agg #[.int .i64 0,.pointer none],.iface t u])/\Jl E 5 w' (.iface t u)/\Tch NoB W w'):=λW hT=>JeW E (hE.tch hT noE) (h.next hT) k hk
 clear hE h hk
 dsimp only
 go_enter func50,ntmps50
 go_wp2_with fail
 refine (HS.o _ (Ta NoB w _)).mono ?_
 rintro _ w1 ⟨t,u,rfl,he,ht⟩
 have HT:Hid (Tch NoB w w1):=(Ta NoB w _).go ht
 have HE:Hid _:=he
 clear he ht HS
 go_wp2
 go_ret2
 exact ⟨HT.o.go (Ta _ _ _),_,_,rfl,HE.o.tch (Ta NoB w1 _) (λ_ _ _ _ h=>h)⟩
theorem JiY (E:Nat->Addr) {w:World} (hE:Env E w) {cb wd fl r:Nat} {bs:List BV} {v:Value} (h:JI w cb wd fl r bs v) (k:Nat) (b:BV) (hk:bs[k]? =some b) (hf:fl<=k) (hw:wd<=32) (F:Nat->Prop) (st:Option Tr) (hb:b.2.1=wd) (hs:StAt (dgW wd) F w b.2.2 st) (hok:∀t,st=some t->t.Wf/\TrOk wd t) (c:BA×Int) (hc:Jk wd c):
  Calls prog 50 #[.pointer (some ⟨cb,0,none⟩),.int .i64 (k:Int),.agg #[.string c.1,.int .i64 c.2]] w λe w'=>Tch NoB w w'/\e=.returned (.tuple #[.string ⟨(wayB (Yc (dgW wd) (Jd c) st)).toArray⟩,.nilIface]):=by
 have HS:Hid (∀W,Tch NoB w W->Calls prog 92 _ W _):=λW hT=>JfM (h.next hT) k b hk hf
 have HP:Hid (∀W,Tch NoB w W->Calls prog 93 _ W _):=λW hT=>JiX E wd hw F b.2.2 st c hc W (hE.tch hT noE) (hs.next hT) hok
 rw [hb] at HS
 obtain ⟨rv,hrv⟩:∃rv,Jv wd b.2.2=.agg #[.int .i64 (wd:Int),.pointer rv]:=⟨_,rfl⟩
 rw [hrv] at HS HP
 generalize (⟨(wayB (Yc (dgW wd) (Jd c) st)).toArray⟩:BA)=pf at *
 obtain ⟨s,N⟩:=c
 clear hE h hk hs hok hc hrv hb
 dsimp only at HP ⊢
 go_enter func50,ntmps50
 go_wp2_with fail
 refine (HS.o _ (Ta NoB w _)).mono ?_
 rintro _ w1 ⟨rfl,ht⟩
 have HT:Hid (Tch NoB w w1):=(Ta NoB w _).go ht
 have r1:w1.heap[w.heap.size]? =some (.cells #[.string s,.int .i64 N] 49):=(ht.block _ (by simp) (λh=>h)).trans (Qf _ _)
 have c0:w1.cell? ⟨w.heap.size,0,none⟩=some (.string s):=Ja r1
 have c1:w1.cell? ⟨w.heap.size,1,none⟩=some (.int .i64 N):=Ja r1
 have hz1:=(Jb r1)
 clear ht HS r1
 go_wp2_with fail
 refine (HP.o _ (HT.o.go (Ta _ _ _))).mono ?_
 rintro _ w2 ⟨rfl,ht2⟩
 have HT2:Hid (Tch NoB w w2):=(HT.o.go (Ta _ _ _)).go ht2
 clear ht2 HP
 go_wp2
 go_ret2
 exact ⟨HT2.o,rfl⟩
