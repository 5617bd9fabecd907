import Derived.Test.YtighkdnooglfjaaGreatDoorOcKPays
import Derived.OpenShut
import Derived.Deep.SlicePairs
import Derived.Test.YtighkdnooglfjaaGreatDoorOcChJ
import Derived.Test.YtighkdnooglfjaaGreatDoorOcWyU
namespace Go.Proofs.YtighkdnooglfjaaGreatDoor
open Go.RowKit

def YP (base:Nat) (w:World) (v:Value) (l:List Nat):Prop:=
 ((∃a c,v=.slice a 0 c)/\l=[])\/∃g o c,v=.slice (some ⟨g,o,none⟩) l.length c/\g<base/\∀i (h:i<l.length),w.cell? ⟨g,o+i,none⟩=some (.int .u64 ((l[i]:Nat):Int))
theorem YP.at {base:Nat} {w:World} {v:Value} {l:List Nat} (h:YP base w v l) (hb:base<=w.heap.size):Zs w v l:=by
 rcases h with h | ⟨g,o,c,h1,h2,h3⟩
 ·exact .inl h
 ·exact .inr ⟨g,o,c,h1,Qk h2 hb,h3⟩
theorem YP.tch {base:Nat} {w w':World} {v:Value} {l:List Nat} {S:Nat->Prop} (h:YP base w v l) (hb:base<=w.heap.size) (k:Tch S w w') (hs:∀j,S j->base<=j):YP base w' v l:=by
 rcases h with h | ⟨g,o,c,h1,h2,h3⟩
 ·exact .inl h
 ·refine .inr ⟨g,o,c,h1,h2,λi hi=>?_⟩
  rw [k.cell (p:=⟨g,o+i,none⟩) (Qk h2 hb) (λe=>by have:=hs _ e;simp only at this;omega)];exact h3 i hi
def Yx (base:Nat) (w:World) (v:Value) (ps:List PayL):Prop:=
 ((∃a c,v=.slice a 0 c)/\ps=[])\/∃g o c,v=.slice (some ⟨g,o,none⟩) ps.length c/\g<base/\∀i (h:i<ps.length),∃va,YP base w va ps[i].amounts/\
  w.cell? ⟨g,o+i * 6,none⟩=some (.int .i64 ps[i].from_)/\w.cell? ⟨g,o+i * 6+1,none⟩=some (.int .i64 ps[i].many)/\w.cell? ⟨g,o+i * 6+2,none⟩=some va/\w.cell? ⟨g,o+i * 6+3,none⟩=some (.int .u8 ((ps[i].owner:Nat):Int))/\w.cell? ⟨g,o+i * 6+4,none⟩=some (.bool ps[i].wild)/\w.cell? ⟨g,o+i * 6+5,none⟩=some (.bool ps[i].other)
theorem Yx.at {base:Nat} {w:World} {v:Value} {l:List PayL} (h:Yx base w v l) (hb:base<=w.heap.size):Jcm w v l:=by
 rcases h with h | ⟨g,o,c,h1,h2,h3⟩
 ·exact .inl h
 ·refine .inr ⟨g,o,c,h1,Qk h2 hb,λi hi=>?_⟩
  obtain ⟨va,hn,hr⟩:=h3 i hi
  exact ⟨va,hn.at hb,hr⟩
theorem Yx.tch {base:Nat} {w w':World} {v:Value} {l:List PayL} {S:Nat->Prop} (h:Yx base w v l) (hb:base<=w.heap.size) (k:Tch S w w') (hs:∀j,S j->base<=j):Yx base w' v l:=by
 rcases h with h | ⟨g,o,c,h1,h2,h3⟩
 ·exact .inl h
 ·refine .inr ⟨g,o,c,h1,h2,λi hi=>?_⟩
  obtain ⟨va,hn,hr⟩:=h3 i hi
  have hc:∀o,w'.cell? ⟨g,o,none⟩=w.cell? ⟨g,o,none⟩:=λo=>k.cell (p:=⟨g,o,none⟩) (Qk h2 hb) (λe=>by have:=hs _ e;simp only at this;omega)
  refine ⟨va,hn.tch hb k hs,?_⟩
  rw [hc,hc,hc,hc,hc,hc];exact hr
structure Jcn where
 kind:Int
 a:Int
 b:Int
 pays:List PayL
def Jae (base:Nat) (w:World) (v:Value) (l:List Jcn):Prop:=
 (v=.slice none 0 0/\l=[])\/∃g o c,v=.slice (some ⟨g,o,none⟩) l.length c/\g<base/\∀i (h:i<l.length),∃va,Yx base w va l[i].pays/\
  w.cell? ⟨g,o+i * 4,none⟩=some (.int .i64 l[i].kind)/\w.cell? ⟨g,o+i * 4+1,none⟩=some (.int .i64 l[i].a)/\w.cell? ⟨g,o+i * 4+2,none⟩=some (.int .i64 l[i].b)/\w.cell? ⟨g,o+i * 4+3,none⟩=some va
theorem Jae.shape {base:Nat} {w:World} {v:Value} {l:List Jcn} (h:Jae base w v l):∃a c,v=.slice a l.length c:=by
 rcases h with ⟨rfl,rfl⟩ | ⟨gi,oi,c,rfl,_⟩
 ·exact ⟨none,0,rfl⟩
 ·exact ⟨_,_,rfl⟩
open Go.Proofs.Tryz
set_option maxRecDepth 100000
open Go.ChangeShapes Go.WideShapes Go.ChangeAt Go.RowKit Go.Deep

theorem cOut:prog.cellsOf 80=2:=by kernel_rfl
theorem cU64:prog.cellsOf 78=1:=by kernel_rfl
theorem cU8:prog.cellsOf 5=1:=by kernel_rfl
theorem cInt:prog.cellsOf 3=1:=by kernel_rfl
theorem JmZ:prog.cellsOf 4=1:=by kernel_rfl
theorem Jm1:prog.cellsOf 29=1:=by kernel_rfl
theorem Jm0:prog.cellsOf 100=1:=by kernel_rfl
theorem cPay:prog.cellsOf 102=6:=by kernel_rfl
theorem Jl4:prog.cellsOf 31=4:=by kernel_rfl
section
variable {H:Type} {enc:TypeId×Value->H} {W:World}
theorem Jju (d:DataW H):1<=Rows.uptoBulk d:=by
 cases d with
 | lit l=>cases l <;> simp [Rows.uptoBulk]
 | nil=>simp [Rows.uptoBulk]
 | ptr d=>simp [Rows.uptoBulk]
 | slice elems spare=>simp [Rows.uptoBulk]
 | agg parts=>simp [Rows.uptoBulk]
 | iface t d=>simp [Rows.uptoBulk]
 | map entries=>simp [Rows.uptoBulk]
 | held h=>simp [Rows.uptoBulk]
theorem JaY {d:DataW H} {l:List (DataW H)} (h:d∈l):Rows.uptoBulk d<=Rows.uptoBulkAll l:=by
 induction l with
 | nil=>cases h
 | cons x r ih=>
  simp only [Rows.uptoBulkAll]
  cases List.mem_cons.1 h with
  | inl e=>subst e;omega
  | inr e=>have:=ih e;omega
theorem Je7 (l:List (DataW H)):l.length<=Rows.uptoBulkAll l:=by
 induction l with
 | nil=>simp [Rows.uptoBulkAll]
 | cons x r ih=>have:=Jju x;simp only [Rows.uptoBulkAll,Qp];omega
theorem Jco {a:Addr} {v:Value} (h:W.cell? a=some v):a=⟨a.block,a.off,none⟩/\a.block<W.heap.size:=by
 refine ⟨?_,Qr _ _ h⟩
 obtain ⟨b,o,s⟩:=a
 cases s with
 | none=>rfl
 | some k=>
  unfold World.cell? at h
  split at h
  ·simp at h
  ·cases h
theorem Jij {fuel:Nat} {v:Value} {x:DataW H×List MemPlace} (h:DataW.trod enc prog W 0 (λ_=>true) true fuel 100 [v]=some x):
  ∃l:List Nat,YP W.heap.size W v l/\(∀n∈l,n<18446744073709551616)/\l.length<=Rows.uptoBulk x.1:=by
 rcases open_slice1 underlying100 cU64 h with ⟨h0,h1⟩ | ⟨a,len,cap,m,n,V,D,Pl,h0,hb,hl,hm,hmm,hx,he⟩
 ·simp only [QH,and_true] at h0
  exact ⟨[],.inl ⟨⟨_,_,h0⟩,rfl⟩,λ_ h=>(QD h).elim,by simp⟩
 ·simp only [QH,and_true] at h0
  simp only [if_true] at hmm
  subst hmm
  have hint:∀i,i<m->∃k:Nat,V i=.int .u64 (k:Int)/\k<18446744073709551616:=λi hi=>by
   obtain ⟨z,h1,h3,h2⟩:=DataW.trod_int underlying78 (he i hi).2
   simp only [QH,and_true] at h1
   have hb:=bounds_u64 h2
   exact ⟨z.toNat,by rw [h1];congr 1;omega,by omega⟩
  obtain ⟨N,hN⟩:=choose_lt hint
  refine ⟨(List.range len).map N,?_,λx hx=>?_,?_⟩
  ·rcases Nat.eq_zero_or_pos len with h00 | hpos
   ·subst h00;exact .inl ⟨⟨_,_,h0⟩,rfl⟩
   ·obtain ⟨ea,hlt⟩:=Jco (he 0 (by omega)).1
    simp only [Addr.add,if_true] at ea hlt
    rw [ea] at h0
    refine .inr ⟨a.block,a.off,m,by rw [h0];simp,hlt,λi hi=>?_⟩
    simp only [QL,List.length_range] at hi
    have:=(he i (by omega)).1
    rw [ea,(hN i (by omega)).1] at this
    simp only [List.getElem_map,List.getElem_range]
    rw [<-this]
    by_cases hi0:i=0 <;> simp [Addr.add,hi0]
  ·rw [QK] at hx
   obtain ⟨i,hi,rfl⟩:=hx
   exact (hN i (by have:=List.mem_range.1 hi;omega)).2
  ·rw [hx]
   have:=Je7 ((List.range len).map D)
   simp only [Rows.uptoBulk,QL,List.length_range] at this ⊢
   omega
theorem Jke {n:Nat} {cs:List Value} {y:DataW H×List MemPlace} (h:DataW.trod enc prog W 0 (λ_=>true) true n 102 cs=some y):
  ∃(p:PayL) (va:Value),cs=[.int .i64 p.from_,.int .i64 p.many,va,.int .u8 ((p.owner:Nat):Int),.bool p.wild,.bool p.other]/\YP W.heap.size W va p.amounts/\(Rows.uptoBulk y.1<=1048576->p.Ok):=by
 obtain ⟨xs,k,rfl,hy,hlen,hxl,hf⟩:=DataW.trod_struct underlying102 h
 rw [cPay] at hlen
 match cs,hlen with
 | [v0,v1,v2,v3,v4,v5],_=>
  match xs,hxl with
  | [y0,y1,y2,y3,y4,y5],_=>
   have g0:=hf 0 _ rfl
   have g1:=hf 1 _ rfl
   have g2:=hf 2 _ rfl
   have g3:=hf 3 _ rfl
   have g4:=hf 4 _ rfl
   have g5:=hf 5 _ rfl
   simp [cInt,Jm0,cU8,JmZ] at g0 g1 g2 g3 g4 g5
   obtain ⟨z0,e0,_,b0⟩:=DataW.trod_int underlying3 g0
   obtain ⟨z1,e1,_,b1⟩:=DataW.trod_int underlying3 g1
   obtain ⟨z3,e3,_,b3⟩:=DataW.trod_int underlying5 g3
   obtain ⟨z4,e4,_⟩:=DataW.trod_bool underlying4 g4
   obtain ⟨z5,e5,_⟩:=DataW.trod_bool underlying4 g5
   obtain ⟨l,hl,hb,hlb⟩:=Jij g2
   have c0:=bounds_i64 b0
   have c1:=bounds_i64 b1
   have c3:=bounds_u8 b3
   simp only [QH,and_true] at e0 e1 e3 e4 e5
   refine ⟨⟨z0,z1,l,z3.toNat,z4,z5⟩,v2,?_,hl,λhk=>⟨c0.1,by show z0<_;omega,c1.1,by show z1<_;omega,hb,by show z3.toNat<256;omega,?_⟩⟩
   ·rw [e0,e1,e3,e4,e5]
    simp only [QH,Value.int.injEq,true_and,and_true]
    omega
   ·have hm:y2.1∈[y0,y1,y2,y3,y4,y5].map (·.1):=by simp
    have:=JaY hm
    rw [hy] at hk
    simp only [Rows.uptoBulk] at hk
    show l.length<1000000000
    omega
theorem Jip {fuel:Nat} {v:Value} {x:DataW H×List MemPlace} (h:DataW.trod enc prog W 0 (λ_=>true) true fuel 29 [v]=some x):
  ∃l:List PayL,Yx W.heap.size W v l/\(Rows.uptoBulk x.1<=1048576->∀p∈l,p.Ok):=by
 rcases open_slice underlying29 h with ⟨h0,h1⟩ | ⟨a,len,cap,m,n,D,Pl,h0,hb,hl,hm,hmm,hx,he⟩
 ·simp only [QH,and_true] at h0
  exact ⟨[],.inl ⟨⟨_,_,h0⟩,rfl⟩,λ_ _ h=>(QD h).elim⟩
 ·simp only [QH,and_true] at h0
  simp only [if_true] at hmm
  subst hmm
  rw [cPay] at he
  have hp:∀i,i<m->∃q:PayL×Value,W.cells? 0 (a.add (i * 6)) 6=some [.int .i64 q.1.from_,.int .i64 q.1.many,q.2,.int .u8 ((q.1.owner:Nat):Int),.bool q.1.wild,.bool q.1.other]/\YP W.heap.size W q.2 q.1.amounts/\(Rows.uptoBulk (D i)<=1048576->q.1.Ok):=λi hi=>by
   obtain ⟨cs',h1,h2⟩:=he i hi
   obtain ⟨p,va,rfl,h4,h5⟩:=Jke h2
   exact ⟨(p,va),h1,h4,h5⟩
  haveI:Inhabited (PayL×Value):=⟨(⟨0,0,[],0,false,false⟩,.nilIface)⟩
  obtain ⟨Q,hQ⟩:=choose_lt hp
  refine ⟨(List.range len).map λi=>(Q i).1,?_,λhk p hp=>?_⟩
  ·rcases Nat.eq_zero_or_pos len with h00 | hpos
   ·subst h00;exact .inl ⟨⟨_,_,h0⟩,rfl⟩
   ·obtain ⟨_,_,hc0⟩:=World.cells?_some (hQ 0 (by omega)).1
    have hc00:=hc0 0 (by omega)
    simp only [Nat.zero_mul,Addr.add,if_true] at hc00
    obtain ⟨ea,hlt⟩:=Jco (show W.cell? a=some _ from hc00)
    rw [ea] at h0
    refine .inr ⟨a.block,a.off,m,by rw [h0];simp,hlt,λi hi=>?_⟩
    simp only [QL,List.length_range] at hi
    obtain ⟨_,_,hc⟩:=World.cells?_some (hQ i (by omega)).1
    have ad:∀j,((a.add (i * 6)).add j)=⟨a.block,a.off+i * 6+j,none⟩:=λj=>by
     rw [add_add,ea];unfold Addr.add;split
     ·rename_i hz;simp <;> omega
     ·simp <;> omega
    refine ⟨(Q i).2,?_⟩
    simp only [List.getElem_map,List.getElem_range]
    have w0:=hc 0 (by omega)
    have w1:=hc 1 (by omega)
    have w2:=hc 2 (by omega)
    have w3:=hc 3 (by omega)
    have w4:=hc 4 (by omega)
    have w5:=hc 5 (by omega)
    rw [ad] at w0 w1 w2 w3 w4 w5
    exact ⟨(hQ i (by omega)).2.1,w0,w1,w2,w3,w4,w5⟩
  ·rw [QK] at hp
   obtain ⟨i,hi,rfl⟩:=hp
   have hi:=List.mem_range.1 hi
   refine (hQ i (by omega)).2.2 ?_
   have hm:D i∈(List.range len).map D:=QK.2 ⟨i,List.mem_range.2 hi,rfl⟩
   have:=JaY hm
   rw [hx] at hk
   simp only [Rows.uptoBulk] at hk
   omega
theorem JiM {n:Nat} {cs:List Value} {y:DataW H×List MemPlace} (h:DataW.trod enc prog W 0 (λ_=>true) true n 31 cs=some y):
  ∃(p:Jcn) (va:Value),cs=[.int .i64 p.kind,.int .i64 p.a,.int .i64 p.b,va]/\Yx W.heap.size W va p.pays/\(Rows.uptoBulk y.1<=1048576->∀q∈p.pays,q.Ok)/\(-9223372036854775808<=p.a/\p.a<9223372036854775808)/\(-9223372036854775808<=p.b/\p.b<9223372036854775808):=by
 obtain ⟨xs,k,rfl,hy,hlen,hxl,hf⟩:=DataW.trod_struct underlying31 h
 rw [Jl4] at hlen
 match cs,hlen with
 | [v0,v1,v2,v3],_=>
  match xs,hxl with
  | [y0,y1,y2,y3],_=>
   have g0:=hf 0 _ rfl
   have g1:=hf 1 _ rfl
   have g2:=hf 2 _ rfl
   have g3:=hf 3 _ rfl
   simp [cInt,Jm1] at g0 g1 g2 g3
   obtain ⟨z0,e0,_,_⟩:=DataW.trod_int underlying3 g0
   obtain ⟨z1,e1,_,b1⟩:=DataW.trod_int underlying3 g1
   obtain ⟨z2,e2,_,b2⟩:=DataW.trod_int underlying3 g2
   obtain ⟨l,hl,hok⟩:=Jip g3
   have c1:=bounds_i64 b1
   have c2:=bounds_i64 b2
   simp only [QH,and_true] at e0 e1 e2
   refine ⟨⟨z0,z1,z2,l⟩,v3,by rw [e0,e1,e2],hl,λhk=>hok ?_,⟨c1.1,by show z1<_;omega⟩,⟨c2.1,by show z2<_;omega⟩⟩
   have hm:y3.1∈[y0,y1,y2,y3].map (·.1):=by simp
   have:=JaY hm
   rw [hy] at hk
   simp only [Rows.uptoBulk] at hk
   omega
theorem Jaz {b:Nat} {t e:TypeId} {v:Value} (ht:prog.underlying t=some (.slice e)) (h:Value.okWide prog W .any b t v):v=.slice none 0 0\/∃g o len cap,v=.slice (some ⟨g,o,none⟩) len cap/\g<W.heap.size:=by
 unfold Value.okWide at h
 rw [ht] at h
 simp only at h
 unfold Cell.okWide at h
 rw [ht] at h
 cases v <;> simp only at h
 all_goals first
  | (unfold Cell.ok at h;rw [ht] at h;simp only at h;done)
  | skip
 rename_i ad len cap
 unfold Cell.ok at h
 rw [ht] at h
 cases ad with
 | none=>
  left
  cases len with
  | zero=>
   cases cap with
   | zero=>rfl
   | succ n=>simp at h
  | succ n=>simp at h
 | some a=>
  right
  obtain ⟨_,_,_,hs,row,cells,hsh,_⟩:=h
  obtain ⟨g,o,s⟩:=a
  simp only at hs
  subst hs
  refine ⟨g,o,len,cap,rfl,?_⟩
  unfold World.shape? at hsh
  split at hsh
  ·rename_i hh;exact (Jb hh)
  ·cases hsh
theorem JgR {b fuel:Nat} {v:Value} {x:DataW H×List MemPlace} (hv:Value.okWide prog W .any b 26 v) (h:DataW.trod enc prog W 0 (λ_=>true) true fuel 26 [v]=some x) (hk:Rows.uptoBulk x.1<=1048576):
  ∃l:List Jcn,Jae W.heap.size W v l/\(∀s∈l,∀p∈s.pays,p.Ok)/\(∀s∈l,(-9223372036854775808<=s.a/\s.a<9223372036854775808)/\(-9223372036854775808<=s.b/\s.b<9223372036854775808))/\l.length<=1048576:=by
 rcases Jaz underlying26 hv with rfl | ⟨g,o,len0,cap0,rfl,hg⟩
 ·exact ⟨[],.inl ⟨rfl,rfl⟩,λ_ h=>(QD h).elim,λ_ h=>(QD h).elim,by simp⟩
 rcases open_slice underlying26 h with ⟨h0,h1⟩ | ⟨a,len,cap,m,n,D,Pl,h0,hb,hl,hm,hmm,hx,he⟩
 ·simp at h0
 ·simp only [QH,and_true,Qy,Qh] at h0
  obtain ⟨rfl,rfl,rfl⟩:=h0
  simp only [if_true] at hmm
  subst hmm
  rw [Jl4] at he
  have hp:∀i,i<m->∃q:Jcn×Value,W.cells? 0 ((⟨g,o,none⟩:Addr).add (i * 4)) 4=some [.int .i64 q.1.kind,.int .i64 q.1.a,.int .i64 q.1.b,q.2]/\Yx W.heap.size W q.2 q.1.pays/\(Rows.uptoBulk (D i)<=1048576->∀p∈q.1.pays,p.Ok)/\(-9223372036854775808<=q.1.a/\q.1.a<9223372036854775808)/\(-9223372036854775808<=q.1.b/\q.1.b<9223372036854775808):=λi hi=>by
   obtain ⟨cs',h1,h2⟩:=he i hi
   obtain ⟨p,va,rfl,h4,h5,h6,h7⟩:=JiM h2
   exact ⟨(p,va),h1,h4,h5,h6,h7⟩
  haveI:Inhabited (Jcn×Value):=⟨(⟨0,0,0,[]⟩,.nilIface)⟩
  obtain ⟨Q,hQ⟩:=choose_lt hp
  rw [hx] at hk
  simp only [Rows.uptoBulk] at hk
  have hDi:∀i,i<len0->Rows.uptoBulk (D i)<=1048576:=λi hi=>by
   have hm:D i∈(List.range len0).map D:=QK.2 ⟨i,List.mem_range.2 hi,rfl⟩
   have:=JaY hm
   omega
  refine ⟨(List.range len0).map λi=>(Q i).1,.inr ⟨g,o,m,by simp,hg,λi hi=>?_⟩,λs hs=>?_,λs hs=>?_,?_⟩
  ·simp only [QL,List.length_range] at hi
   obtain ⟨_,_,hc⟩:=World.cells?_some (hQ i (by omega)).1
   have ad:∀j,(((⟨g,o,none⟩:Addr).add (i * 4)).add j)=⟨g,o+i * 4+j,none⟩:=λj=>by
    rw [add_add];unfold Addr.add;split
    ·rename_i hz;simp <;> omega
    ·simp <;> omega
   refine ⟨(Q i).2,?_⟩
   simp only [List.getElem_map,List.getElem_range]
   have w0:=hc 0 (by omega)
   have w1:=hc 1 (by omega)
   have w2:=hc 2 (by omega)
   have w3:=hc 3 (by omega)
   rw [ad] at w0 w1 w2 w3
   exact ⟨(hQ i (by omega)).2.1,w0,w1,w2,w3⟩
  ·rw [QK] at hs
   obtain ⟨i,hi,rfl⟩:=hs
   have hi:=List.mem_range.1 hi
   exact (hQ i (by omega)).2.2.1 (hDi i hi)
  ·rw [QK] at hs
   obtain ⟨i,hi,rfl⟩:=hs
   have hi:=List.mem_range.1 hi
   exact (hQ i (by omega)).2.2.2
  ·have:=Je7 ((List.range len0).map D)
   simp only [QL,List.length_range] at this ⊢
   omega
theorem Jio {b fuel:Nat} {v:Value} {x:DataW H×List MemPlace} (hv:Value.okWide prog W .any b 22 v) (h:DataW.trod enc prog W 0 (λ_=>true) true fuel 22 [v]=some x):
  ∃l:List (Nat×Nat),Jo W.heap.size W v l/\∀o∈l,Jr o:=by
 rcases Jaz underlying22 hv with rfl | ⟨g,o,len0,cap0,rfl,hg⟩
 ·exact ⟨[],.inl ⟨rfl,rfl⟩,λ_ h=>(QD h).elim⟩
 rcases open_slice_pairs underlying22 underlying80 cOut rfl rfl cU64 cU8 h with ⟨h0,h1⟩ | ⟨a,len,cap,m,n,V0,V1,D0,D1,P0,P1,h0,hb,hl,hm,hmm,hx,he⟩
 ·simp at h0
 ·simp only [QH,and_true,Qy,Qh] at h0
  obtain ⟨rfl,rfl,rfl⟩:=h0
  simp only [if_true] at hmm
  subst hmm
  have hp:∀i,i<m->∃q:Nat×Nat,V0 i=.int .u64 (q.1:Int)/\V1 i=.int .u8 (q.2:Int)/\Jr q:=λi hi=>by
   obtain ⟨_,_,h2,h3⟩:=he i hi
   obtain ⟨z0,e0,_,b0⟩:=DataW.trod_int underlying78 h2
   obtain ⟨z1,e1,_,b1⟩:=DataW.trod_int underlying5 h3
   simp only [QH,and_true] at e0 e1
   have c0:=bounds_u64 b0
   have c1:=bounds_u8 b1
   exact ⟨(z0.toNat,z1.toNat),by rw [e0];congr 1;omega,by rw [e1];congr 1;omega,⟨by show z0.toNat<_;omega,by show z1.toNat<_;omega⟩⟩
  obtain ⟨Q,hQ⟩:=choose_lt hp
  refine ⟨(List.range len0).map Q,.inr ⟨g,o,m,by simp,hg,hg,λi hi=>?_⟩,λs hs=>?_⟩
  ·simp only [QL,List.length_range] at hi
   obtain ⟨w0,w1,_,_⟩:=he i (by omega)
   have ad:∀j,(⟨g,o,none⟩:Addr).add j=⟨g,o+j,none⟩:=λj=>by
    unfold Addr.add;split
    ·rename_i hz;simp <;> omega
    ·simp
   rw [ad,(hQ i (by omega)).1] at w0
   rw [ad,(hQ i (by omega)).2.1] at w1
   simp only [List.getElem_map,List.getElem_range]
   exact ⟨w0,by rw [Nat.add_assoc];exact w1⟩
  ·rw [QK] at hs
   obtain ⟨i,hi,rfl⟩:=hs
   exact (hQ i (by have:=List.mem_range.1 hi;omega)).2.2
end
set_option maxHeartbeats 2000000

def Jf (wd:Nat) (outs:List (Nat×Nat)):List UInt8:=beL wd 1 1++JW outs
theorem JkD (E:Nat->Addr) (b:Nat) (hb12:18<=b) (wd:Nat) (hw:wd<=32) (ia:Option Addr) (ic n:Nat) (outs:List (Nat×Nat)) (ho:∀o∈outs,Jr o) (h1:1<=outs.length) (h3:outs.length<=3) (w:World) (hE:Env E w) (hp:Jc w b none (wd:Int) .nilIface (.wr [])) (hv:Jo b w (.slice ia n ic) outs):
  Calls prog 198 #[.pointer (some ⟨b,0,none⟩),.agg #[.int .i64 (wd:Int),.slice ia n ic]] w λe w'=>(∃v0,e=.returned (.agg #[.int .i64 (wd:Int),v0]))/\StTo E w w' b none (wd:Int) (some (.wr (Jf wd outs))):=by
 have hlt:=hp.lt
 have HR0:=Run.start hb12 hE (show Jh E w b none (wd:Int) (some (.wr [])) from hp) (Tch.allocs NoB w (.cells #[.int .i64 (wd:Int),.slice ia n ic] 333) (.cells #[.int .i64 0,.slice none 0 0] 333))
 have hnum:(PS.wr []).num wd 1=some (wd,.wr (beL wd 1 1)):=by simp only [PS.num];rw [if_pos (by omega)];rfl
 have HN:Hid (∀w1 g1,Jc w1 b g1 (wd:Int) .nilIface (.wr [])->Calls prog 138 #[.pointer (some ⟨b,0,none⟩),.int .u64 (wd:Int),.int .i64 1] w1 λe w'=>e=.returned (.int .u64 (wd:Int))/\StTo E w1 w' b g1 (wd:Int) (some (.wr (beL wd 1 1)))):=λw1 g1 h=>Xk b g1 wd wd 1 wd (.wr []) _ w1 h (by omega) (by simp [PS.len]) hnum
 have HF:Hid (∀w1 g1,Env E w1->Jc w1 b g1 (wd:Int) .nilIface (.wr (beL wd 1 1))->Jo b w1 (.slice ia n ic) outs->Calls prog 188 #[.pointer (some ⟨b,0,none⟩),.slice ia n ic] w1 λe w'=>∃gp,e=.returned (.slice (some ⟨gp,0,none⟩) outs.length outs.length)/\StTo E w1 w' b g1 (wd:Int) (some (.wr (Jf wd outs)))):=λw1 g1 hE1 hp1 hv1=>by
  have hr:=(Jbk 1 3 outs ho h1 h3 (by omega)).wr (beL wd 1 1)
  have:=Zu E b hb12 g1 wd _ outs (.wr (beL wd 1 1)) w1 hE1 hp1 hv1 (by omega) (Ym _ _) (λx hx=>(ho x hx).2) (by simp only [PS.len,Je];omega)
  rw [hr] at this
  refine this.mono λe w' k=>?_
  obtain ⟨gp,k1,_,_,g',k4,_,k6,k7⟩:=k
  exact ⟨gp,k1,g',k4,k6,k7⟩
 have hu:IntKind.u64.wrap (wd:Int)=(wd:Int):=JA _ (by omega) (by omega)
 have hi:IntKind.i64.wrap (wd:Int)=(wd:Int):=JC _ (by omega) (by omega)
 have HV:Hid (Jo b w (.slice ia n ic) outs):=hv
 have RUN:Hid _:=HR0
 clear hE hp HR0 hnum hv ho h1 h3
 go_enter func198,ntmps198
 go_wp2_with fail
 refine (HN.o _ _ RUN.out.port).mono ?_
 rintro _ w1 ⟨rfl,h⟩
 obtain ⟨g1,R1⟩:=RUN.out.step h
 have bx1:=(R1.box (k:=w.heap.size) (Ql _) (heap_alloc2_old _ _ _)).1
 have c1:w1.cell? ⟨w.heap.size,1,none⟩=some (.slice ia n ic):=Ja bx1
 have RUN1:Hid _:=R1
 have HV1:Hid (Jo b w1 (.slice ia n ic) outs):=by
  obtain ⟨g',_,_,t1⟩:=R1.to
  exact HV.o.tch t1 (λj hj=>by rcases hj with h | h;omega;cases h)
 clear R1 bx1 h HN HV
 go_wp2_with fail
 refine (HF.o _ _ RUN1.out.env RUN1.out.port HV1.o).mono ?_
 rintro _ w4 ⟨gp,rfl,h⟩
 obtain ⟨g4,R4⟩:=RUN1.out.step h
 have rR:=(R4.box (k:=w.heap.size+1) (by omega) (heap_alloc2_new _ _ _)).1
 have e0:w4.cell? ⟨w.heap.size+1,0,none⟩=some (.int .i64 0):=Ja rR
 have e1:w4.cell? ⟨w.heap.size+1,1,none⟩=some (.slice none 0 0):=Ja rR
 have fR:∀j,w4.frozen? ⟨w.heap.size+1,j,none⟩=false:=λj=>Qg _ _ _ _ _ rR
 have RUN4:Hid _:=R4
 have RR:Hid (_=_):=rR
 clear R4 rR h HF c1
 go_wp2
 rw [Jhr _ _ _ _ _ _ _ RR.out]
 exact QJ (v:=.agg #[.int .i64 (wd:Int),.slice (some ⟨gp,0,none⟩) outs.length outs.length]) (Qq results198 _ _ (w.heap.size+1) _ _ (0,0) _ rfl (Qi _ _ _ _ _ _ RR.out) underlying333 rfl (by kernel_rfl)) rfl ⟨⟨_,rfl⟩,RUN4.out.done (k:=w.heap.size+1) (by omega) (heap_alloc2_new _ _ _) (by decide)⟩
theorem Jcc (E:Nat->Addr) {w:World} (hE:Env E w) {cb wd fl r:Nat} (hw:wd<=32) {bs:List BV} {lv:Value} (h:Jt w cb wd fl r bs lv) (base:Nat) (hbase:base<=w.heap.size) (lg:List UInt8) (hl:JU base w lv lg) (hll:lg.length<=140737488000000) (v:Value) (outs:List (Nat×Nat)) (ho:∀o∈outs,Jr o) (h1:1<=outs.length) (h3:outs.length<=3) (hv:Jo w.heap.size w v outs):
  Calls prog 129 #[.pointer (some ⟨cb,0,none⟩),v] w λe w'=>e=.returned .nilIface/\∃lv',Jt w' cb wd fl r bs lv'/\JU base w' lv' (lg++recB [71] (Jf wd outs))/\Tch (λk=>k=cb\/some k=lv.ownBlock) w w'/\Jm w lv.ownBlock lv'.ownBlock:=by
 have hsz:=hE.size
 have hcb:=(Jb h.row)
 have c0:w.cell? ⟨cb,0,none⟩=some (.int .i64 (wd:Int)):=Ja h.row
 obtain ⟨ia,ic,hvs⟩:=hv.shape
 subst hvs
 have hlen:(Jf wd outs).length<=100:=by
  have:∀l:List (Nat×Nat),(l.flatMap outB).length=l.length * 9:=by
   intro l
   induction l with
   | nil=>rfl
   | cons x r ih=>rw [QG,Qe,ih];unfold outB;simp only [Qe,Je,Qp];omega
  unfold Jf JW
  rw [Qe,Qe,Je,Je,this]
  omega
 obtain ⟨sb,hsb⟩:∃sb:BA,sb=⟨(Jf wd outs).toArray⟩:=⟨_,rfl⟩
 have HST:Hid (∀W,Tch NoB w W->Jc W w.heap.size none (wd:Int) .nilIface (.wr [])->Calls prog 198 #[.pointer (some ⟨w.heap.size,0,none⟩),.agg #[.int .i64 (wd:Int),.slice ia outs.length ic]] W λe w'=>(∃v0,e=.returned (.agg #[.int .i64 (wd:Int),v0]))/\StTo E W w' w.heap.size none (wd:Int) (some (.wr (Jf wd outs)))):=λW hT hp=>
  JkD E w.heap.size hsz wd hw ia ic outs.length outs ho h1 h3 W (hE.tch hT noE) hp (hv.tch hT noE)
 have HWD:Hid (∀W g,Jh E W w.heap.size g (wd:Int) (some (.wr (Jf wd outs)))->Calls prog 79 #[.pointer (some ⟨w.heap.size,0,none⟩)] W λe w'=>Tch NoB W w'/\e=.returned (.tuple #[.string sb,.nilIface])):=λW g hp=>by
  rw [hsb];exact ZL E w.heap.size g wd (some (.wr (Jf wd outs))) (λp hp=>⟨_,(Option.some.inj hp).symm⟩) W hp
 have HRC:Hid (∀W,Tch NoB w W->Calls prog 89 #[.pointer (some ⟨cb,0,none⟩),.string ⟨#[71]⟩,.string sb] W λe w'=>e=.returned .nilIface/\∃lv',Jt w' cb wd fl r bs lv'/\JU base w' lv' (lg++recB [71] (Jf wd outs))/\Tch (λk=>k=cb\/some k=lv.ownBlock) W w'/\Jm W lv.ownBlock lv'.ownBlock):=λW hT=>by
  have:=JaQ E (hE.tch hT noE) (h.next hT) base (Qm hbase hT.size) lg (hl.next hT) hll ⟨#[71]⟩ sb rfl (by rw [hsb,Ju];omega)
  have e:sb.data.toList=Jf wd outs:=by rw [hsb]
  rw [e] at this
  exact this
 clear hE h hbase hl hll ho h1 h3 hv hlen hsb
 go_enter func129,ntmps129
 go_wp2_with fail
 refine (JV _ _).mono ?_
 rintro _ w1 ⟨rfl,hp1,ht1⟩
 have HT1:Hid _:=ht1
 have HT1d:Hid (Tch NoB w w1.drew):=ht1.dr 1
 have HP1:Hid (Jc w1.drew w.heap.size none (wd:Int) .nilIface (.wr [])):=hp1.tch (Td NoB w1 1) (λh=>h) (λ_ _ h=>h)
 have d0:w1.cell? ⟨cb,0,none⟩=some (.int .i64 (wd:Int)):=(ht1.cell (p:=⟨cb,0,none⟩) hcb (λh=>h)).trans c0
 have hcb1:cb<w1.heap.size:=Qk hcb ht1.size
 clear ht1 hp1 c0
 go_upto_region 2 with fail
 go_cut [] (λwx=>∃g2,Hid (Jh E wx w.heap.size g2 (wd:Int) (some (.wr (Jf wd outs))))/\Hid (Tch NoB w wx))
 case first=>
  go_region_held3 (λW=>W.cell? ⟨cb,0,none⟩=some (.int .i64 (wd:Int))) (go_keep) ((go_at_call 198;refine (HST.o w1.drew HT1d.o HP1.o).mono ?_;rintro _ w2 ⟨⟨v0,rfl⟩,g2,hp2,hm2,ht2⟩;have hT2:Tch NoB w w2:=Xt (b:=w.heap.size) (Ql _) HT1d.o ht2;have e0:w2.cell? ⟨cb,0,none⟩=some (.int .i64 (wd:Int)):=(ht2.cell (p:=⟨cb,0,none⟩) hcb1 (λe=>by rcases e with e | e;simp only at e;omega;cases e)).trans d0;have HT2:Hid _:=hT2;have HP2:Hid _:=hp2;clear hp2 hm2 ht2 hT2))
  all_goals
   go_wp2
   go_meet
   exact ⟨g2,HP2,HT2⟩
 case rest=>
 obtain ⟨g2,HP2,HT2⟩:=hcut
 obtain ⟨w2,hw2⟩:∃w2,w2=wc:=⟨wc,rfl⟩
 subst hw2
 clear HST HT1d HP1 d0
 go_wp2_with fail
 refine (HWD.o w2 g2 HP2.o).mono ?_
 rintro _ w3 ⟨ht3,rfl⟩
 have HT3:Hid (Tch NoB w w3):=HT2.o.go ht3
 clear ht3 HP2 HT2 HWD
 go_wp2_with fail
 refine (HRC.o w3 HT3.o).mono ?_
 rintro _ w4 ⟨rfl,lv',k1,k2,k3,k4⟩
 have HK:Hid (Jt w4 cb wd fl r bs lv'/\JU base w4 lv' (lg++recB [71] (Jf wd outs))/\Tch (λk=>k=cb\/some k=lv.ownBlock) w3 w4/\Jm w3 lv.ownBlock lv'.ownBlock):=⟨k1,k2,k3,k4⟩
 clear k1 k2 k3 k4 HRC
 go_wp2
 go_ret
 refine ⟨rfl,lv',HK.o.1,HK.o.2.1,(HT3.o.mono noE).trans HK.o.2.2.1 (λj hj=>.inl hj),?_⟩
 rcases HK.o.2.2.2 with h | ⟨k,h,hk⟩
 ·exact .inl h
 ·exact .inr ⟨k,h,Qm HT3.o.size hk⟩

theorem JhO (wd:Nat) (w:World):Calls prog 127 #[.int .i64 (wd:Int)] w λe w'=>e=.returned (.agg #[.int .i64 (wd:Int),.pointer none])/\Tch NoB w w':=by
 go_enter func127,ntmps127
 go_wp2
 exact QJ (v:=.agg #[.int .i64 (wd:Int),.pointer none]) (Qq results127 _ _ w.heap.size _ _ (0,0) _ rfl (Qf _ _) underlying146 rfl (by kernel_rfl)) rfl ⟨rfl,Ta _ _ _⟩
theorem Jie (W:World):(Instr.makeMap 141 none).run prog W=.ok (.map (some W.heap.size)) (W.alloc (.map #[] 0)):=by
 simp [Instr.makeMap,Result.andThen]
theorem outsB?_ok {outs:List (Nat×Nat)} (ho:∀o∈outs,Jr o) (h1:1<=outs.length) (h3:outs.length<=3):outsB? outs=some (JW outs):=by
 unfold outsB?
 rw [(Jbk 1 3 outs ho h1 h3 (by omega)).wr]
 rfl
def Jde (n:Nat):BA:=⟨(List.replicate n (0:UInt8)).toArray⟩
def XA (wd:Nat) (outs:List (Nat×Nat)) (st:Option Tr):HdL:=(0,Jde wd,dgW wd (71 :: JW outs),Xi (dgW wd) st)
def Jdx (wd base:Nat) (outs:List (Nat×Nat)) (st:Option Tr) (w:World) (e:Ending) (w':World):Prop:=
 Tch NoB w w'/\∃cb r q lv,e=.returned (.tuple #[.pointer (some ⟨cb,0,none⟩),.nilIface])/\w.heap.size<=cb/\w.heap.size<=r/\Jt w' cb wd 0 r [(⟨(hdrB (XA wd outs st)).toArray⟩,wd,q)] lv/\StAt (dgW wd) (λj=>w.heap.size<=j) w' q st/\StOk wd st/\JU base w' lv (recB [71] (Jf wd outs))/\∀k,lv.ownBlock=some k->w.heap.size<=k
theorem JdD (E:Nat->Addr) (wd:Nat) (hw1:1<=wd) (hw:wd<=32) (v:Value) (outs:List (Nat×Nat)) (ho:∀o∈outs,Jr o) (h1:1<=outs.length) (h3:outs.length<=3) (w:World) (hE:Env E w) (hv:Jo w.heap.size w v outs) (base:Nat) (hbase:base<=w.heap.size) (st:Option Tr) (hrec:JG (dgW wd (71 :: JW outs)) 0 outs none=.ok st):
  Calls prog 72 #[.int .i64 (wd:Int),v] w λe w'=>Jdx wd base outs st w e w':=by
 obtain ⟨ia,ic,hvs⟩:=hv.shape
 subst hvs
 obtain ⟨id,hid⟩:∃id,id=dgW wd (71 :: JW outs):=⟨_,rfl⟩
 have hids:id.size=wd:=by rw [hid];exact Jq wd hw _
 obtain ⟨hd,hhd⟩:∃hd:BA,hd=⟨(hdrB (XA wd outs st)).toArray⟩:=⟨_,rfl⟩
 obtain ⟨zs,hzs⟩:∃zs,zs=Jde wd:=⟨_,rfl⟩
 obtain ⟨sd,hsd⟩:∃sd,sd=Xi (dgW wd) st:=⟨_,rfl⟩
 have HE:Hid (Env E w):=hE
 have HV:Hid _:=hv
 have HCW:Hid (Calls prog 124 #[.int .i64 (wd:Int)] w λe w'=>e=.returned .nilIface/\w=w'):=Zt wd w hw1 hw
 have HID:Hid (Calls prog 125 #[.int .i64 (wd:Int),.slice ia outs.length ic] w λe w'=>Tch NoB w w'/\e=.returned (.tuple #[.string id,.nilIface])):=by
  have:=Jfl E wd hw1 hw _ outs w hE hv (by omega) (λx hx=>(ho x hx).2)
  rw [outsB?_ok ho h1 h3] at this
  rw [hid]
  exact this
 have HRV:Hid (∀W,Tch NoB w W->Calls prog 126 #[.agg #[.int .i64 (wd:Int),.pointer none],.string id,.slice ia outs.length ic] W λe w'=>Tch NoB W w'/\∃(q:Option Nat) (rv:Option Addr),Ji q=.pointer rv/\e=.returned (.tuple #[.agg #[.int .i64 (wd:Int),.pointer rv],.nilIface])/\StAt (dgW wd) (λj=>w.heap.size<=j) w' q st/\StOk wd st):=λW hT=>by
  have:=Jb1 E wd hw1 hw (λj=>w.heap.size<=j) none none id hids _ outs ho h3 W (hE.tch hT noE) (λj hj=>Qm hT.size hj) ((hv.tch hT noE).up hT.size) trivial trivial
  rw [hid,hrec,<-hid] at this
  refine this.mono λe w' k=>⟨k.1,?_⟩
  obtain ⟨q,k1,k2,k3⟩:=k.2
  exact ⟨q,_,rfl,k1,k2,k3⟩
 have HRP:Hid (∀W,Calls prog 128 #[.string ⟨#[0]⟩,.int .i64 (wd:Int)] W λe w'=>e=.returned (.string zs)/\Tch NoB W w'):=λW=>by rw [hzs];exact JgG wd hw1 hw W
 have HDG:Hid (∀W q,Tch NoB w W->StAt (dgW wd) (λj=>w.heap.size<=j) W q st->Calls prog 83 #[Jw wd q] W λe w'=>e=.returned (.string sd)/\Tch NoB W w'):=λW q hT k=>by rw [hsd];exact Zg E wd hw1 hw _ q st W (hE.tch hT noE) k
 have HHB:Hid (∀W,Tch NoB w W->Calls prog 84 #[.int .i64 (wd:Int),.agg #[.int .u64 0,.string zs,.string id,.string sd]] W λe w'=>e=.returned (.tuple #[.string hd,.nilIface])/\Tch NoB W w'):=λW hT=>by
  have:=ZZ E wd (by omega) 0 zs id sd W (hE.tch hT noE)
  refine this.mono λe w' k=>?_
  obtain ⟨k1,k2⟩:=k
  have hz:zs.size=wd:=by rw [hzs];unfold Jde;rw [Ju,List.length_replicate]
  rw [JjP ⟨by show 0<2 ^ 32;omega,hz,hids,by show sd.size=wd;rw [hsd];exact XW _ wd (Jq wd hw) st⟩] at k2
  rw [hhd]
  unfold XA
  rw [<-hzs,<-hid,<-hsd]
  exact ⟨k2,k1⟩
 have HRS:Hid (∀W cb r q,Tch NoB w W->Jt W cb wd 0 r [(hd,wd,q)] (.slice none 0 0)->Calls prog 129 #[.pointer (some ⟨cb,0,none⟩),.slice ia outs.length ic] W λe w'=>e=.returned .nilIface/\∃lv',Jt w' cb wd 0 r [(hd,wd,q)] lv'/\JU base w' lv' (recB [71] (Jf wd outs))/\Tch (λk=>k=cb) W w'/\(∀k,lv'.ownBlock=some k->W.heap.size<=k)):=λW cb r q hT hR=>by
  refine (Jcc E (hE.tch hT noE) hw hR base (Qm hbase hT.size) [] ⟨Bs.nil _ _,λk hk=>by cases hk⟩ (by simp) _ outs ho h1 h3 ((hv.tch hT noE).up hT.size)).mono ?_
  rintro e w' ⟨k0,lv',k1,k2,k3,k4⟩
  refine ⟨k0,lv',k1,k2,k3.mono (λj hj=>?_),λk hk=>?_⟩
  ·rcases hj with h | h
   ·exact .inl h
   ·cases h
  ·rcases k4 with h | ⟨j,h,hj⟩
   ·rw [hk] at h;cases h
   ·rw [hk] at h;cases h;exact hj
 have hmk:=Jie
 unfold Jdx
 rw [<-hhd]
 clear hE hv hrec hid hhd hzs hsd hids ho h1 h3 hbase
 go_enter func72,ntmps72
 go_wp2_with fail
 refine HCW.o.mono ?_
 rintro _ _ ⟨rfl,rfl⟩
 go_wp2_with fail
 refine HID.o.mono ?_
 rintro _ w1 ⟨ht1,rfl⟩
 have HT1:Hid _:=ht1
 clear ht1 HID HCW
 go_wp2_with fail
 refine (JhO wd w1).mono ?_
 rintro _ w2 ⟨rfl,ht2⟩
 have HT2:Hid (Tch NoB w w2):=HT1.o.go ht2
 clear ht2 HT1
 go_wp2_with fail
 refine (HRV.o w2 HT2.o).mono ?_
 rintro _ w3 ⟨ht3,q,rv,hq,rfl,hs3,hk3⟩
 have hA:=Ta NoB w3 (.cells #[.int .i64 (wd:Int),.pointer rv] 146)
 obtain ⟨w4,hw4⟩:∃w4,w4=w3.alloc (.cells #[.int .i64 (wd:Int),.pointer rv] 146):=⟨_,rfl⟩
 obtain ⟨k4,hk4⟩:∃k4,k4=w3.heap.size:=⟨_,rfl⟩
 have HT4:Hid (Tch NoB w w4):=by rw [hw4];exact (HT2.o.go ht3).go hA
 have HS4:Hid (StAt (dgW wd) (λj=>w.heap.size<=j) w4 q st/\StOk wd st):=by rw [hw4];exact ⟨hs3.next hA,hk3⟩
 have hr4:w4.heap[k4]? =some (.cells #[.int .i64 (wd:Int),.pointer rv] 146):=by rw [hw4,hk4];exact Qf _ _
 have HQ:Hid _:=hq
 go_upto_region 8 with fail
 rw [<-hw4,<-hk4]
 have s0:w4.cell? ⟨k4,0,none⟩=some (.int .i64 (wd:Int)):=Ja hr4
 have s1:w4.cell? ⟨k4,1,none⟩=some (.pointer rv):=Ja hr4
 have hz4:k4<w4.heap.size:=(Jb hr4)
 have HR4:Hid _:=hr4
 have HDI:Hid (∀W,Tch NoB w4 W->Calls prog 83 #[.agg #[.int .i64 (wd:Int),.pointer rv]] W λe w'=>e=.returned (.string sd)/\Tch NoB W w'):=λW hT=>by
  have:=HDG.o W q (HT4.o.go hT) (HS4.o.1.next hT)
  unfold Jw at this
  rw [HQ.o] at this
  exact this
 have HT44:Hid (Tch NoB w4 w4.drew):=Td _ w4 1
 have HCE:Hid (∀W,Tch NoB w4 W->W.cell? ⟨k4,0,none⟩=some (.int .i64 (wd:Int))/\W.cell? ⟨k4,1,none⟩=some (.pointer rv)):=λW hT=>⟨(hT.cell (p:=⟨k4,0,none⟩) hz4 (λh=>h)).trans s0,(hT.cell (p:=⟨k4,1,none⟩) hz4 (λh=>h)).trans s1⟩
 clear hA hw4 hk4 hs3 hk3 hq ht3 hr4 HDG HRV HT2
 go_upto_region 10 with fail
 go_cut [10,8] (λvh ve wx=>vh=.string hd/\ve=.nilIface/\Hid (Tch NoB w4 wx))
 case first=>
  go_region_held3 (λW=>W.cell? ⟨k4,0,none⟩=some (.int .i64 (wd:Int))/\W.cell? ⟨k4,1,none⟩=some (.pointer rv)) (go_keep) ((first | (go_at_call 128;refine (HRP.o _).mono ?_;rintro _ wA ⟨rfl,htA⟩;have HTA:Hid (Tch NoB w4 wA):=(by first | exact HT44.o.go htA | exact HTB.o.go htA);obtain ⟨xa0,xa1⟩:=HCE.o wA HTA.o;clear htA) | (go_at_call 83;refine (HDI.o _ (by first | exact HT44.o | exact HTA.o)).mono ?_;rintro _ wB ⟨rfl,htB⟩;have HTB:Hid (Tch NoB w4 wB):=(by first | exact HT44.o.go htB | exact HTA.o.go htB);obtain ⟨xb0,xb1⟩:=HCE.o wB HTB.o;clear htB) | (go_at_call 84;refine (HHB.o _ (HT4.o.go (by first | exact HTA.o | exact HTB.o))).mono ?_;rintro _ wC ⟨rfl,htC⟩;have HTC:Hid (Tch NoB w4 wC):=(by first | exact HTA.o.go htC | exact HTB.o.go htC);obtain ⟨xc0,xc1⟩:=HCE.o wC HTC.o;clear htC)))
  all_goals
   go_wp2
   go_meet
   exact ⟨rfl,rfl,HTC⟩
 case rest=>
 obtain ⟨rfl,rfl,HT45⟩:=hcut
 obtain ⟨w5,hw5⟩:∃w5,w5=wc:=⟨wc,rfl⟩
 subst hw5
 have HM5:Hid (Tch NoB w4 (w5.alloc (.map #[] 0))):=HT45.o.go (Ta _ _ _)
 obtain ⟨m0,m1⟩:=HCE.o _ HM5.o
 have hmz:(w5.alloc (.map #[] 0)).heap[w5.heap.size]? =some (.map (Js 0 []).toArray ([]:List BV).length):=Qf _ _
 have hins:=JcK hmz (hd,wd,q)
 unfold bV at hins
 rw [HQ.o] at hins
 have hins':(Instr.mapUpdate 141 (.map (some w5.heap.size)) (.int .i64 0) (.agg #[.string hd,.int .i64 (wd:Int),.pointer rv])).run prog (w5.alloc (.map #[] 0))=.ok () ((w5.alloc (.map #[] 0)).setBlocks w5.heap.size [(hd,wd,q)]):=hins
 have HMZ:Hid _:=hmz
 clear hins hmz HRP HHB HDI HT44 s0 s1
 go_upto_region 14 with fail
 obtain ⟨r,hr⟩:∃r,r=w5.heap.size:=⟨_,rfl⟩
 obtain ⟨w6,hw6⟩:∃w6,w6=(w5.alloc (.map #[] 0)).setBlocks w5.heap.size [(hd,wd,q)]:=⟨_,rfl⟩
 obtain ⟨cb,hcb⟩:∃cb,cb=w6.heap.size:=⟨_,rfl⟩
 obtain ⟨w7,hw7⟩:∃w7,w7=w6.alloc (.cells #[.int .i64 (wd:Int),.int .i64 0,.map (some r),.slice none 0 0] 143):=⟨_,rfl⟩
 have hw45:=HT45.o.size
 have hw4:=HT4.o.size
 have t6:Tch NoB w4 w6:=by rw [hw6];exact HM5.o.trans (Tch.setBlocks _ _ _) (λj hj=>.inr (by omega))
 have t67:Tch NoB w6 w7:=by rw [hw7];exact Ta _ _ _
 have hR7:Jt w7 cb wd 0 r [(hd,wd,q)] (.slice none 0 0):=by
  refine ⟨by rw [hw7,hcb];exact Qf _ _,?_⟩
  have h6:w6.heap[r]? =some (.map (Js 0 [(hd,wd,q)]).toArray [(hd,wd,q)].length):=by rw [hw6,hr];exact Ze HMZ.o _
  exact (t67.block r (Jb h6) (λh=>h)).trans h6
 have HT7:Hid (Tch NoB w w7):=(HT4.o.go t6).go t67
 have HR7:Hid _:=hR7
 have HS7:Hid (StAt (dgW wd) (λj=>w.heap.size<=j) w7 q st/\StOk wd st):=⟨(HS4.o.1.next t6).next t67,HS4.o.2⟩
 have HCR:Hid (w.heap.size<=cb/\w.heap.size<=r):=⟨by rw [hcb];exact Qm hw4 t6.size,by rw [hr];exact Qm hw4 hw45⟩
 rw [<-hr] at hw6 ⊢
 rw [<-hw6,<-hcb,<-hw7]
 clear hr hw6 hcb hw7 hw45 hw4 t6 t67 hR7 HMZ HM5 HT45 hins' m0 m1 hmk HS4 HT4 HCE HR4
 go_wp2_with fail
 refine (HRS.o w7 cb r q HT7.o HR7.o).mono ?_
 rintro _ w8 ⟨rfl,lv',k1,k2,k3,k4⟩
 have HK:Hid (Jt w8 cb wd 0 r [(hd,wd,q)] lv'/\JU base w8 lv' (recB [71] (Jf wd outs))/\Tch (λk=>k=cb) w7 w8/\(∀k,lv'.ownBlock=some k->w7.heap.size<=k)):=⟨k1,k2,k3,k4⟩
 clear k1 k2 k3 k4 HRS
 go_wp2
 go_ret2
 obtain ⟨k1,k2,k3,k4⟩:=HK.o
 have hst:=HS7.o.1.refine (G:=λj=>w.heap.size<=j/\¬j=cb) (λj hj hc=>⟨hj,λe=>(by obtain ⟨c,hc⟩:=hc;subst e;rw [HR7.o.row] at hc;simp at hc)⟩)
 exact ⟨HT7.o.trans k3 (λj hj=>.inr (by have:=HCR.o;omega)),cb,r,q,lv',rfl,HCR.o.1,HCR.o.2,k1,(hst.tch k3 (λj hS hG=>hG.2 hS)).mono (λj h=>h.1),HS7.o.2,k2,λk hk=>Qm HT7.o.size (k4 k hk)⟩

theorem Jc1 {w:World} {cb wd fl r:Nat} {bs:List BV} {v:Value} (h:Jt w cb wd fl r bs v) (k:Nat) (b:BV) (hk:bs[k]? =some b) (hf:fl<=k):
  Calls prog 92 #[.pointer (some ⟨cb,0,none⟩),.int .i64 (k:Int)] w λe w'=>e=.returned (.tuple #[Jw b.2.1 b.2.2,.nilIface])/\Tch NoB w w':=by
 obtain ⟨W,hW⟩:∃W,W=w.alloc (.cells #[.int .i64 0,.pointer none] 146):=⟨_,rfl⟩
 have hA:Tch NoB w W:=by rw [hW];exact Ta _ _ _
 have c1:W.cell? ⟨cb,1,none⟩=some (.int .i64 (fl:Int)):=Ja (h.next hA).row
 have HAT:Hid (Calls _ _ _ _ _):=Jl3 (h.next hA) k b hk
 have hrow:W.heap[w.heap.size]? =some (.cells #[.int .i64 0,.pointer none] 146):=by rw [hW];exact Qf _ _
 have HW:Hid _:=hW
 have HR:Hid _:=hrow
 have HA:Hid _:=hA
 obtain ⟨bh,bu,bq⟩:=b
 obtain ⟨rv,hrv⟩:∃rv,Ji bq=.pointer rv:=⟨_,rfl⟩
 simp only [bV] at HAT
 show Calls _ _ _ _ λe w'=>e=.returned (.tuple #[.agg #[_,Ji bq],.nilIface])/\_
 rw [hrv] at HAT ⊢
 have hlt:¬(k:Int)<(fl:Int):=by omega
 clear h hk hW hrow hA hrv hf
 go_enter func92,ntmps92
 go_upto_region 1 with fail
 rw [<-HW.o]
 go_wp2_with fail
 refine HAT.o.mono ?_
 rintro _ w2 ⟨rfl,ht2⟩
 have hr2:w2.heap[w.heap.size]? =some (.cells #[.int .i64 0,.pointer none] 146):=(ht2.block _ (Jb HR.o) (λh=>h)).trans HR.o
 have hz2:=(Jb hr2)
 obtain ⟨W3,hW3⟩:∃W3,W3=w2.alloc (.cells #[.string bh,.int .i64 (bu:Int),.pointer rv] 148):=⟨_,rfl⟩
 have t3:Tch NoB w2 W3:=by rw [hW3];exact Ta _ _ _
 have hr3:W3.heap[w.heap.size]? =some (.cells #[.int .i64 0,.pointer none] 146):=(t3.block _ hz2 (λh=>h)).trans hr2
 have hq3:W3.heap[w2.heap.size]? =some (.cells #[.string bh,.int .i64 (bu:Int),.pointer rv] 148):=by rw [hW3];exact Qf _ _
 have r0:W3.cell? ⟨w.heap.size,0,none⟩=some (.int .i64 0):=Ja hr3
 have r1:W3.cell? ⟨w.heap.size,1,none⟩=some (.pointer none):=Ja hr3
 have fR:∀j,W3.frozen? ⟨w.heap.size,j,none⟩=false:=λj=>Qg _ _ _ _ _ hr3
 have q1:W3.cell? ⟨w2.heap.size,1,none⟩=some (.int .i64 (bu:Int)):=Ja hq3
 have q2:W3.cell? ⟨w2.heap.size,2,none⟩=some (.pointer rv):=Ja hq3
 have HR3:Hid _:=hr3
 have HW3:Hid (W3=_):=hW3
 have HT3:Hid (Tch NoB w W3):=(HA.o.go ht2).go t3
 clear ht2 hr2 t3 hr3 hq3 hW3 HAT HR HA HW c1
 go_upto_region 4 with fail
 rw [<-HW3.o]
 go_wp2
 rw [set2 _ _ _ _ _ _ _ HR3.o]
 refine QJ (v:=.tuple #[.agg #[.int .i64 (bu:Int),.pointer rv],.nilIface]) (Jk results92 _ _ w.heap.size _ _ (0,0) _ rfl (Qi _ _ _ _ _ _ HR3.o) underlying146 rfl (by kernel_rfl)) rfl ⟨rfl,?_⟩
 exact HT3.o.trans (Ts _ _ _) (λj hj=>.inr (by omega))
theorem JfW (E:Nat->Addr) {w:World} (hE:Env E w) {cb wd fl r:Nat} {bs:List BV} {v:Value} (h:Jt w cb wd fl r bs v) (k:Int) (hk:k<(fl:Int)):
  Calls prog 92 #[.pointer (some ⟨cb,0,none⟩),.int .i64 k] w λe w'=>∃t u,e=.returned (.tuple #[Jw 0 none,.iface t u])/\Jl E 5 w' (.iface t u)/\Tch NoB w w':=by
 obtain ⟨W,hW⟩:∃W,W=w.alloc (.cells #[.int .i64 0,.pointer none] 146):=⟨_,rfl⟩
 have hA:Tch NoB w W:=by rw [hW];exact Ta _ _ _
 have c1:W.cell? ⟨cb,1,none⟩=some (.int .i64 (fl:Int)):=Ja (h.next hA).row
 have hrg:=(hE.tch hA noE).range
 have hsz:=(hE.tch hA noE).size
 have hGs:5<W.heap.size:=Qk (by decide) hsz
 have hrow:W.heap[w.heap.size]? =some (.cells #[.int .i64 0,.pointer none] 146):=by rw [hW];exact Qf _ _
 have r0:W.cell? ⟨w.heap.size,0,none⟩=some (.int .i64 0):=Ja hrow
 have r1:W.cell? ⟨w.heap.size,1,none⟩=some (.pointer none):=Ja hrow
 have fR:∀j,W.frozen? ⟨w.heap.size,j,none⟩=false:=λj=>Qg _ _ _ _ _ hrow
 have HW:Hid _:=hW
 have HR:Hid _:=hrow
 have HA:Hid _:=hA
 have hz:w.heap.size<W.heap.size:=(Jb hrow)
 show Calls _ _ _ _ λe w'=>∃t u,e=.returned (.tuple #[.agg #[.int .i64 0,.pointer none],.iface t u])/\_
 clear h hW hrow hA hE hsz
 go_enter func92,ntmps92
 go_upto_region 1 with fail
 rw [<-HW.o]
 go_wp2_with fail
 refine (Xy _ _ _ _).mono ?_
 rintro _ _ ⟨rfl,rfl⟩
 have hrow2:(W.alloc (.cells #[.string ⟨#[104,101,105,103,104,116]⟩,eV E 5] 237)).heap[w.heap.size]? =some (.cells #[.int .i64 0,.pointer none] 146):=(Below.heap_alloc W _ _ hz).trans HR.o
 have hpl:=Qf W (.cells #[.string ⟨#[104,101,105,103,104,116]⟩,eV E 5] 237)
 have t2:=Ta NoB W (.cells #[.string ⟨#[104,101,105,103,104,116]⟩,eV E 5] 237)
 have HR2:Hid (_=_):=hrow2
 have HPL:Hid (_=_):=hpl
 have HT2:Hid _:=t2
 have r0:(W.alloc (.cells #[.string ⟨#[104,101,105,103,104,116]⟩,eV E 5] 237)).cell? ⟨w.heap.size,0,none⟩=some (.int .i64 0):=Ja hrow2
 have r1:(W.alloc (.cells #[.string ⟨#[104,101,105,103,104,116]⟩,eV E 5] 237)).cell? ⟨w.heap.size,1,none⟩=some (.pointer none):=Ja hrow2
 have fR:∀j,(W.alloc (.cells #[.string ⟨#[104,101,105,103,104,116]⟩,eV E 5] 237)).frozen? ⟨w.heap.size,j,none⟩=false:=λj=>Qg _ _ _ _ _ hrow2
 clear hrow2 hpl t2
 generalize W.alloc (.cells #[.string ⟨#[104,101,105,103,104,116]⟩,eV E 5] 237)=W2 at *
 go_wp2
 rw [set2 _ _ _ _ _ _ _ HR2.o]
 refine QJ (v:=.tuple #[.agg #[.int .i64 0,.pointer none],.iface 235 (.pointer (some ⟨W.heap.size,0,none⟩))]) (Jk results92 _ _ w.heap.size _ _ (0,0) _ rfl (Qi _ _ _ _ _ _ HR2.o) underlying146 rfl (by kernel_rfl)) rfl ⟨_,_,rfl,?_,?_⟩
 ·exact .wrap W.heap.size ⟨#[104,101,105,103,104,116]⟩ (eV E 5) ((setRow_other _ _ _ _ (by omega)).trans HPL.o) .base
 ·exact (HA.o.go HT2.o).trans (Ts _ _ _) (λj hj=>.inr (by omega))
theorem JeK (E:Nat->Addr) {w:World} (hE:Env E w) {cb wd fl r:Nat} {bs:List BV} {v:Value} (h:Jt w cb wd fl r bs v) (k:Int) (hf:(fl:Int)<=k) (hk:¬(0<=k/\k<bs.length)):
  Calls prog 92 #[.pointer (some ⟨cb,0,none⟩),.int .i64 k] w λe w'=>∃t u,e=.returned (.tuple #[Jw 0 none,.iface t u])/\Jl E 5 w' (.iface t u)/\Tch NoB w w':=by
 obtain ⟨W,hW⟩:∃W,W=w.alloc (.cells #[.int .i64 0,.pointer none] 146):=⟨_,rfl⟩
 have hA:Tch NoB w W:=by rw [hW];exact Ta _ _ _
 have c1:W.cell? ⟨cb,1,none⟩=some (.int .i64 (fl:Int)):=Ja (h.next hA).row
 have HAT:Hid (Calls _ _ _ _ _):=Jjo E (hE.tch hA noE) (h.next hA) k hk
 have hrow:W.heap[w.heap.size]? =some (.cells #[.int .i64 0,.pointer none] 146):=by rw [hW];exact Qf _ _
 have HW:Hid _:=hW
 have HR:Hid _:=hrow
 have HA:Hid _:=hA
 simp only [bV,Ji,Option.map_none] at HAT
 show Calls _ _ _ _ λe w'=>∃t u,e=.returned (.tuple #[.agg #[.int .i64 0,.pointer none],.iface t u])/\_
 have hlt:¬k<(fl:Int):=by omega
 clear h hk hW hrow hA hf hE
 go_enter func92,ntmps92
 go_upto_region 1 with fail
 rw [<-HW.o]
 go_wp2_with fail
 refine HAT.o.mono ?_
 rintro _ w2 ⟨t,u,rfl,he2,ht2⟩
 have hr2:w2.heap[w.heap.size]? =some (.cells #[.int .i64 0,.pointer none] 146):=(ht2.block _ (Jb HR.o) (λh=>h)).trans HR.o
 have hz2:=(Jb hr2)
 obtain ⟨W3,hW3⟩:∃W3,W3=w2.alloc (.cells #[.string ⟨#[]⟩,.int .i64 0,.pointer none] 148):=⟨_,rfl⟩
 have t3:Tch NoB w2 W3:=by rw [hW3];exact Ta _ _ _
 have hr3:W3.heap[w.heap.size]? =some (.cells #[.int .i64 0,.pointer none] 146):=(t3.block _ hz2 (λh=>h)).trans hr2
 have hq3:W3.heap[w2.heap.size]? =some (.cells #[.string ⟨#[]⟩,.int .i64 0,.pointer none] 148):=by rw [hW3];exact Qf _ _
 have r0:W3.cell? ⟨w.heap.size,0,none⟩=some (.int .i64 0):=Ja hr3
 have r1:W3.cell? ⟨w.heap.size,1,none⟩=some (.pointer none):=Ja hr3
 have fR:∀j,W3.frozen? ⟨w.heap.size,j,none⟩=false:=λj=>Qg _ _ _ _ _ hr3
 have q1:W3.cell? ⟨w2.heap.size,1,none⟩=some (.int .i64 0):=Ja hq3
 have q2:W3.cell? ⟨w2.heap.size,2,none⟩=some (.pointer none):=Ja hq3
 have HR3:Hid _:=hr3
 have HW3:Hid (W3=_):=hW3
 have HT3:Hid (Tch NoB w W3):=(HA.o.go ht2).go t3
 have HE3:Hid (Jl E 5 W3 (.iface t u)):=he2.tch t3 (λ_ _ _ _ h=>h)
 clear ht2 hr2 t3 hr3 hq3 hW3 HAT HR HA HW c1 he2
 go_upto_region 4 with fail
 rw [<-HW3.o]
 go_wp2
 rw [set2 _ _ _ _ _ _ _ HR3.o]
 refine QJ (v:=.tuple #[.agg #[.int .i64 0,.pointer none],.iface t u]) (Jk results92 _ _ w.heap.size _ _ (0,0) _ rfl (Qi _ _ _ _ _ _ HR3.o) underlying146 rfl (by kernel_rfl)) rfl ⟨_,_,rfl,?_,?_⟩
 ·exact HE3.o.tch (Ts _ _ _) (λj c x hj e=>by rw [e,HR3.o] at hj;simp at hj)
 ·exact HT3.o.trans (Ts _ _ _) (λj hj=>.inr (by omega))
theorem Jb6 (E:Nat->Addr) {w:World} (hE:Env E w) {cb wd fl r:Nat} {bs:List BV} {v:Value} (h:Jt w cb wd fl r bs v) (k:Int) (hk:¬((fl:Int)<=k/\k<bs.length)):
  Calls prog 92 #[.pointer (some ⟨cb,0,none⟩),.int .i64 k] w λe w'=>∃t u,e=.returned (.tuple #[Jw 0 none,.iface t u])/\Jl E 5 w' (.iface t u)/\Tch NoB w w':=by
 by_cases hf:k<(fl:Int)
 ·exact JfW E hE h k hf
 ·exact JeK E hE h k (by omega) (by omega)
theorem Jit (E:Nat->Addr) {w:World} (hE:Env E w) {cb wd fl r:Nat} {bs:List BV} {v:Value} (h:Jt w cb wd fl r bs v) (k:Int) (hk:¬((fl:Int)<=k/\k<bs.length)) (c:BA×Int):
  Calls prog 50 #[.pointer (some ⟨cb,0,none⟩),.int .i64 k,.agg #[.string c.1,.int .i64 c.2]] w λe w'=>Tch NoB w w'/\∃t u,e=.returned (.tuple #[.string ⟨#[]⟩,.iface t u])/\Jl E 5 w' (.iface t u):=by
 obtain ⟨s,N⟩:=c
 have HS:Hid (∀W,Tch NoB w W->Calls prog 92 #[.pointer (some ⟨cb,0,none⟩),.int .i64 k] W λe w'=>∃t u,e=.returned (.tuple #[.agg #[.int .i64 0,.pointer none],.iface t u])/\Jl E 5 w' (.iface t u)/\Tch NoB W w'):=λW hT=>Jb6 E (hE.tch hT noE) (h.next hT) k hk
 clear hE h hk
 dsimp only
 go_enter func50,ntmps50
 go_wp2_with fail
 refine (HS.o _ (Ta NoB w _)).mono ?_
 rintro _ w1 ⟨t,u,rfl,he,ht⟩
 have HT:Hid (Tch NoB w w1):=(Ta NoB w _).go ht
 have HE:Hid _:=he
 clear he ht HS
 go_wp2
 go_ret2
 exact ⟨HT.o.go (Ta _ _ _),_,_,rfl,HE.o.tch (Ta NoB w1 _) (λ_ _ _ _ h=>h)⟩
theorem Jki (E:Nat->Addr) {w:World} (hE:Env E w) {cb wd fl r:Nat} {bs:List BV} {v:Value} (h:Jt w cb wd fl r bs v) (k:Nat) (b:BV) (hk:bs[k]? =some b) (hf:fl<=k) (hw:wd<=32) (F:Nat->Prop) (st:Option Tr) (hb:b.2.1=wd) (hs:StAt (dgW wd) F w b.2.2 st) (hok:∀t,st=some t->t.Wf/\TrOk wd t) (c:BA×Int) (hc:Jn wd c):
  Calls prog 50 #[.pointer (some ⟨cb,0,none⟩),.int .i64 (k:Int),.agg #[.string c.1,.int .i64 c.2]] w λe w'=>Tch NoB w w'/\e=.returned (.tuple #[.string ⟨(wayB (Yp (dgW wd) (Jd c) st)).toArray⟩,.nilIface]):=by
 have HS:Hid (∀W,Tch NoB w W->Calls prog 92 _ W _):=λW hT=>Jc1 (h.next hT) k b hk hf
 have HP:Hid (∀W,Tch NoB w W->Calls prog 93 _ W _):=λW hT=>Jkh E wd hw F b.2.2 st c hc W (hE.tch hT noE) (hs.next hT) hok
 rw [hb] at HS
 obtain ⟨rv,hrv⟩:∃rv,Jw wd b.2.2=.agg #[.int .i64 (wd:Int),.pointer rv]:=⟨_,rfl⟩
 rw [hrv] at HS HP
 generalize (⟨(wayB (Yp (dgW wd) (Jd c) st)).toArray⟩:BA)=pf at *
 obtain ⟨s,N⟩:=c
 clear hE h hk hs hok hc hrv hb
 dsimp only at HP ⊢
 go_enter func50,ntmps50
 go_wp2_with fail
 refine (HS.o _ (Ta NoB w _)).mono ?_
 rintro _ w1 ⟨rfl,ht⟩
 have HT:Hid (Tch NoB w w1):=(Ta NoB w _).go ht
 have r1:w1.heap[w.heap.size]? =some (.cells #[.string s,.int .i64 N] 49):=(ht.block _ (by simp) (λh=>h)).trans (Qf _ _)
 have c0:w1.cell? ⟨w.heap.size,0,none⟩=some (.string s):=Ja r1
 have c1:w1.cell? ⟨w.heap.size,1,none⟩=some (.int .i64 N):=Ja r1
 have hz1:=(Jb r1)
 clear ht HS r1
 go_wp2_with fail
 refine (HP.o _ (HT.o.go (Ta _ _ _))).mono ?_
 rintro _ w2 ⟨rfl,ht2⟩
 have HT2:Hid (Tch NoB w w2):=(HT.o.go (Ta _ _ _)).go ht2
 clear ht2 HP
 go_wp2
 go_ret2
 exact ⟨HT2.o,rfl⟩

theorem JO.apart {E:Nat->Addr} {wd base:Nat} {L:Led E wd base} {w:World} {xb lb:Nat} {F:Nat->Prop} {fl:Nat} {ch:Ch} {vst:Value} {sl:List Sl} {states:List (List Held)} (h:JO L w xb lb F fl ch vst sl states):
  ∀j cur T m,w.heap[j]? =some (.cells cur T m)->T=35\/T=43\/T=87->¬F j:=λj cur T m hr hT hF=>by
 obtain ⟨h1,h2,h3⟩:=L.kinds h.led j hF cur T m hr
 rcases hT with hT | hT | hT
 ·exact h1 hT
 ·exact h2 hT
 ·exact h3 hT
