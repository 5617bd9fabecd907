import Derived.Test.YtighkdnooglfjaaGreatDoorBxLdE
import Derived.Test.YtighkdnooglfjaaGreatDoorBxLxJ
import Derived.Test.YtighkdnooglfjaaGreatDoorCards
import Derived.Test.YtighkdnooglfjaaGreatDoorTie
import Derived.Deep.DeepWitnessRowRef
import Derived.SevenTiedAt
namespace Go.Proofs.YtighkdnooglfjaaGreatDoor
open Go.Proofs.Tryz
open Go.ChangeShapes Go.WideShapes Go.ChangeAt Go.RowKit Go.Deep

theorem cStr:prog.cellsOf 9=1:=by kernel_rfl
theorem Jlr:prog.cellsOf 49=2:=by kernel_rfl
theorem cTx:prog.cellsOf 98=2:=by kernel_rfl
theorem JlH:prog.cellsOf 96=1:=by kernel_rfl
theorem Jls:prog.cellsOf 22=1:=by kernel_rfl
theorem cTxs:prog.cellsOf 73=1:=by kernel_rfl
theorem cOp:prog.cellsOf 75=11:=by kernel_rfl
section
variable {H:Type} {enc:TypeId×Value->H} {W:World}
theorem Jcl (k:Nat) (l:List (DataW H)) (h:∀d∈l,k<=Rows.uptoBulk d):k * l.length<=Rows.uptoBulkAll l:=by
 induction l with
 | nil=>simp [Rows.uptoBulkAll]
 | cons x r ih=>
  have h1:=h x (by simp)
  have h2:=ih (λd hd=>h d (by simp [hd]))
  simp only [Rows.uptoBulkAll,Qp,Nat.mul_add,Nat.mul_one]
  omega
set_option maxRecDepth 100000 in
theorem JaF {tS tE:TypeId} {f0 f1:Field} {fuel:Nat} {v:Value} {x:DataW H×List MemPlace} (ht:prog.underlying tS=some (.slice tE)) (he:prog.underlying tE=some (.struct #[f0,f1])) (ce:prog.cellsOf tE=2) (o0:f0.offset=0) (o1:f1.offset=1) (c0:prog.cellsOf f0.type=1) (c1:prog.cellsOf f1.type=1) (h:DataW.trod enc prog W 0 (λ_=>true) true fuel tS [v]=some x):
  ∃(n:Nat) (V:Nat->VV),VR W.heap.size W v ((List.range n).map V)/\3 * n<=Rows.uptoBulk x.1/\∀i,i<n->∃k y0 y1,DataW.trod enc prog W 0 (λ_=>true) true k f0.type [(V i).1]=some y0/\DataW.trod enc prog W 0 (λ_=>true) true k f1.type [(V i).2]=some y1/\Rows.uptoBulk y0.1+Rows.uptoBulk y1.1<=Rows.uptoBulk x.1:=by
 rcases open_slice_pairs ht he ce o0 o1 c0 c1 h with ⟨h0,h1⟩ | ⟨a,len,cap,m,n,V0,V1,D0,D1,P0,P1,h0,hb,hl,hm,hmm,hx,hc⟩
 ·simp only [QH,and_true] at h0
  exact ⟨0,λ_=>zO,.inl ⟨.inl h0,rfl⟩,by simp,λi hi=>absurd hi (by omega)⟩
 ·simp only [QH,and_true] at h0
  simp only [if_true] at hmm
  subst hmm
  have hb3:3 * len<=Rows.uptoBulk x.1:=by
   have:=Jcl 3 ((List.range len).map λi=>DataW.agg [D0 i,D1 i]) (λd hd=>by
    obtain ⟨i,_,rfl⟩:=QL.1 hd
    have h1:=ZJ (D0 i)
    have h2:=ZJ (D1 i)
    simp only [Rows.uptoBulk,Rows.uptoBulkAll]
    omega)
   rw [QM,List.length_range] at this
   rw [hx]
   simp only [Rows.uptoBulk]
   omega
  refine ⟨len,λi=>(V0 i,V1 i),?_,hb3,λi hi=>⟨n,_,_,(hc i (by omega)).2.2.1,(hc i (by omega)).2.2.2,?_⟩⟩
  ·rcases Nat.eq_zero_or_pos len with h00 | hpos
   ·subst h00
    exact .inl ⟨.inr ⟨a,m,h0⟩,rfl⟩
   ·obtain ⟨ea,hlt⟩:=JfM (hc 0 (by omega)).1
    simp only [Nat.zero_mul,Addr.add,if_true] at ea hlt
    rw [ea] at h0
    refine .inr ⟨a.block,a.off,m,by rw [h0];simp,hlt,hlt,λi hi=>?_⟩
    simp only [QM,List.length_range] at hi
    obtain ⟨w0,w1,_,_⟩:=hc i (by omega)
    have ad:∀j,a.add j=⟨a.block,a.off+j,none⟩:=λj=>by
     rw [ea];unfold Addr.add;split
     ·rename_i hz;simp <;> omega
     ·simp
    rw [ad] at w0 w1
    simp only [List.getElem_map,List.getElem_range]
    exact ⟨w0,by rw [Nat.add_assoc];exact w1⟩
  ·have hm:DataW.agg [D0 i,D1 i]∈(List.range len).map λi=>DataW.agg [D0 i,D1 i]:=QL.2 ⟨i,List.mem_range.2 hi,rfl⟩
   have:=Jck hm
   rw [hx]
   simp only [Rows.uptoBulk,Rows.uptoBulkAll] at this ⊢
   omega
theorem JcB {fuel:Nat} {v:Value} {x:DataW H×List MemPlace} (h:DataW.trod enc prog W 0 (λ_=>true) true fuel 22 [v]=some x):
  ∃l:List (Nat×Nat),XE W.heap.size W v l/\(∀o∈l,JC o)/\3 * l.length<=Rows.uptoBulk x.1:=by
 obtain ⟨n,V,hv,hb,he⟩:=JaF underlying22 underlying80 cOut rfl rfl cU64 cU8 h
 have hp:∀i,i<n->∃q:Nat×Nat,V i=encO q/\JC q:=λi hi=>by
  obtain ⟨k,y0,y1,h2,h3,_⟩:=he i hi
  obtain ⟨z0,e0,_,b0⟩:=DataW.trod_int underlying78 h2
  obtain ⟨z1,e1,_,b1⟩:=DataW.trod_int underlying5 h3
  simp only [QH,and_true] at e0 e1
  have c0:=bounds_u64 b0
  have c1:=bounds_u8 b1
  refine ⟨(z0.toNat,z1.toNat),?_,⟨by show z0.toNat<_;omega,by show z1.toNat<_;omega⟩⟩
  have ee:V i=((V i).1,(V i).2):=rfl
  rw [ee,e0,e1]
  unfold encO
  simp only [Qw,Value.int.injEq,true_and]
  omega
 obtain ⟨Q,hQ⟩:=choose_lt hp
 refine ⟨(List.range n).map Q,?_,λo ho=>?_,by rw [QM,List.length_range];exact hb⟩
 ·have e:(List.range n).map V=((List.range n).map Q).map encO:=by
   rw [List.map_map]
   exact List.map_congr_left (λi hi=>(hQ i (List.mem_range.1 hi)).1)
  rw [e] at hv
  rcases hv with ⟨h1,h2⟩ | ⟨g,o,c,h1,h2,h3,h4⟩
  ·exact .inl ⟨h1,List.map_eq_nil_iff.1 h2⟩
  ·rw [QM] at h1
   exact .inr ⟨g,o,c,h1,h2,h3,λi hi=>by have:=h4 i (by rw [QM];exact hi);rw [List.getElem_map] at this;exact this⟩
 ·obtain ⟨i,hi,rfl⟩:=QL.1 ho
  exact (hQ i (List.mem_range.1 hi)).2
theorem Jhl {fuel:Nat} {v:Value} {x:DataW H×List MemPlace} (h:DataW.trod enc prog W 0 (λ_=>true) true fuel 96 [v]=some x):
  ∃l:List (BA×Int),XL W.heap.size W v l/\(∀c∈l,(-9223372036854775808<=c.2/\c.2<9223372036854775808)/\c.1.size<=9223372036854775807)/\3 * l.length<=Rows.uptoBulk x.1:=by
 obtain ⟨n,V,hv,hb,he⟩:=JaF underlying96 underlying49 Jlr rfl rfl cStr cInt h
 have hp:∀i,i<n->∃q:BA×Int,V i=encC q/\(-9223372036854775808<=q.2/\q.2<9223372036854775808)/\q.1.size<=9223372036854775807:=λi hi=>by
  obtain ⟨k,y0,y1,h2,h3,_⟩:=he i hi
  obtain ⟨z0,e0,_,b0⟩:=DataW.trod_string underlying9 h2
  obtain ⟨z1,e1,_,b1⟩:=DataW.trod_int underlying3 h3
  simp only [QH,and_true] at e0 e1
  have c1:=bounds_i64 b1
  simp only [maxLen] at b0
  refine ⟨(z0,z1),?_,⟨c1.1,by show z1<_;omega⟩,by show z0.size<=_;omega⟩
  have ee:V i=((V i).1,(V i).2):=rfl
  rw [ee,e0,e1]
  rfl
 haveI:Inhabited (BA×Int):=⟨(⟨#[]⟩,0)⟩
 obtain ⟨Q,hQ⟩:=choose_lt hp
 refine ⟨(List.range n).map Q,?_,λo ho=>?_,by rw [QM,List.length_range];exact hb⟩
 ·have e:(List.range n).map V=((List.range n).map Q).map encC:=by
   rw [List.map_map]
   exact List.map_congr_left (λi hi=>(hQ i (List.mem_range.1 hi)).1)
  rw [e] at hv
  rcases hv with ⟨h1,h2⟩ | ⟨g,o,c,h1,h2,h3,h4⟩
  ·exact .inl ⟨h1,List.map_eq_nil_iff.1 h2⟩
  ·rw [QM] at h1
   exact .inr ⟨g,o,c,h1,h2,h3,λi hi=>by have:=h4 i (by rw [QM];exact hi);rw [List.getElem_map] at this;exact this⟩
 ·obtain ⟨i,hi,rfl⟩:=QL.1 ho
  exact (hQ i (List.mem_range.1 hi)).2
theorem Ja8 {t e:TypeId} {fuel:Nat} {v:Value} {x:DataW H×List MemPlace} (ht:prog.underlying t=some (.slice e)) (h:DataW.trod enc prog W 0 (λ_=>true) true fuel t [v]=some x):∃s:Sl,v=.slice s.1 s.2.1 s.2.2:=by
 rcases open_slice ht h with ⟨h0,_⟩ | ⟨a,len,cap,m,n,D,Pl,h0,_⟩
 ·simp only [QH,and_true] at h0;exact ⟨(none,0,0),h0⟩
 ·simp only [QH,and_true] at h0;exact ⟨(some a,len,cap),h0⟩
def Jmr (W:World) (s:Sl×Sl) (t:TxL) (b:Nat):Prop:=XL W.heap.size W (.slice s.1.1 s.1.2.1 s.1.2.2) t.1/\XE W.heap.size W (.slice s.2.1 s.2.2.1 s.2.2.2) t.2/\InR t/\(∀c∈t.1,c.1.size<=9223372036854775807)/\3 * t.1.length<=b/\3 * t.2.length<=b
theorem Jlg {fuel:Nat} {v:Value} {x:DataW H×List MemPlace} (h:DataW.trod enc prog W 0 (λ_=>true) true fuel 73 [v]=some x):
  ∃(sl:List (Sl×Sl)) (ts:List TxL),TxsR W.heap.size W v sl/\TxIs W.heap.size W ts sl/\(∀t∈ts,InR t/\(∀c∈t.1,c.1.size<=9223372036854775807)/\3 * t.1.length<=Rows.uptoBulk x.1/\3 * t.2.length<=Rows.uptoBulk x.1)/\3 * ts.length<=Rows.uptoBulk x.1:=by
 obtain ⟨n,V,hv,hb,he⟩:=JaF underlying73 underlying98 cTx rfl rfl JlH Jls h
 have hp:∀i,i<n->∃q:(Sl×Sl)×TxL,V i=encT q.1/\Jmr W q.1 q.2 (Rows.uptoBulk x.1):=λi hi=>by
  obtain ⟨k,y0,y1,h2,h3,h4⟩:=he i hi
  obtain ⟨s0,e0⟩:=Ja8 underlying96 h2
  obtain ⟨s1,e1⟩:=Ja8 underlying22 h3
  obtain ⟨cs,k1,k2,k3⟩:=Jhl h2
  obtain ⟨os,j1,j2,j3⟩:=JcB h3
  refine ⟨((s0,s1),(cs,os)),?_,?_⟩
  ·have ee:V i=((V i).1,(V i).2):=rfl
   rw [ee,e0,e1]
   rfl
  ·rw [e0] at k1
   rw [e1] at j1
   exact ⟨k1,j1,⟨λc hc=>(k2 c hc).1,j2⟩,λc hc=>(k2 c hc).2,by show 3 * cs.length<=_;omega,by show 3 * os.length<=_;omega⟩
 haveI:Inhabited ((Sl×Sl)×TxL):=⟨(dSl,([],[]))⟩
 obtain ⟨Q,hQ⟩:=choose_lt hp
 refine ⟨(List.range n).map λi=>(Q i).1,(List.range n).map λi=>(Q i).2,?_,⟨by simp,λi h1 h2=>?_⟩,λt ht=>?_,by rw [QM,List.length_range];exact hb⟩
 ·have e:(List.range n).map V=((List.range n).map λi=>(Q i).1).map encT:=by
   rw [List.map_map]
   exact List.map_congr_left (λi hi=>(hQ i (List.mem_range.1 hi)).1)
  rw [e] at hv
  rcases hv with ⟨h1,h2⟩ | ⟨g,o,c,h1,h2,h3,h4⟩
  ·exact .inl ⟨h1,List.map_eq_nil_iff.1 h2⟩
  ·rw [QM] at h1
   exact .inr ⟨g,o,c,h1,h2,h3,λi hi=>by have:=h4 i (by rw [QM];exact hi);rw [List.getElem_map] at this;exact this⟩
 ·simp only [QM,List.length_range] at h1
  simp only [List.getElem_map,List.getElem_range]
  exact ⟨(hQ i h1).2.1,(hQ i h1).2.2.1⟩
 ·obtain ⟨i,hi,rfl⟩:=QL.1 ht
  exact (hQ i (List.mem_range.1 hi)).2.2.2
end
set_option maxRecDepth 100000

section
variable {H:Type} {enc:TypeId×Value->H} {W:World}
def opL (x:OpL):List Value:=[.int .i64 x.kind,.int .i64 x.a,.int .i64 x.b,.int .i64 x.which,.string x.s,.string x.t,.string x.u,.string x.cx,.int .i64 x.cn,.slice x.os.1 x.os.2.1 x.os.2.2,.slice x.ts.1 x.ts.2.1 x.ts.2.2]
theorem JkX {n:Nat} {cs:List Value} {y:DataW H×List MemPlace} (h:DataW.trod enc prog W 0 (λ_=>true) true n 75 cs=some y):
  ∃x:OpL,cs=opL x/\3<=Rows.uptoBulk y.1/\(Rows.uptoBulk y.1<=1048576->∃os ts sl,OpOk W.heap.size W x os ts sl):=by
 obtain ⟨xs,k,rfl,hy,hlen,hxl,hf⟩:=DataW.trod_struct underlying75 h
 rw [cOp] at hlen
 match cs,hlen with
 | [v0,v1,v2,v3,v4,v5,v6,v7,v8,v9,v10],_=>
  match xs,hxl with
  | [y0,y1,y2,y3,y4,y5,y6,y7,y8,y9],_=>
   have g0:=hf 0 _ rfl
   have g1:=hf 1 _ rfl
   have g2:=hf 2 _ rfl
   have g3:=hf 3 _ rfl
   have g4:=hf 4 _ rfl
   have g5:=hf 5 _ rfl
   have g6:=hf 6 _ rfl
   have g7:=hf 7 _ rfl
   have g8:=hf 8 _ rfl
   have g9:=hf 9 _ rfl
   simp [cInt,cStr,Jlr,Jls,cTxs] at g0 g1 g2 g3 g4 g5 g6 g7 g8 g9
   obtain ⟨z0,e0,_,_⟩:=DataW.trod_int underlying3 g0
   obtain ⟨z1,e1,_,b1⟩:=DataW.trod_int underlying3 g1
   obtain ⟨z2,e2,_,_⟩:=DataW.trod_int underlying3 g2
   obtain ⟨z3,e3,_,b3⟩:=DataW.trod_int underlying3 g3
   obtain ⟨z4,e4,x4,_⟩:=DataW.trod_string underlying9 g4
   obtain ⟨z5,e5,x5,_⟩:=DataW.trod_string underlying9 g5
   obtain ⟨z6,e6,x6,_⟩:=DataW.trod_string underlying9 g6
   obtain ⟨us,k7,_,hy7,_,hul,hg⟩:=DataW.trod_struct underlying49 g7
   match us,hul with
   | [u0,u1],_=>
    have j0:=hg 0 _ rfl
    have j1:=hg 1 _ rfl
    simp [cInt,cStr] at j0 j1
    obtain ⟨z7,e7,_,_⟩:=DataW.trod_string underlying9 j0
    obtain ⟨z8,e8,_,_⟩:=DataW.trod_int underlying3 j1
    obtain ⟨s9,e9⟩:=Ja8 underlying22 g8
    obtain ⟨s10,e10⟩:=Ja8 underlying73 g9
    obtain ⟨os,o1,o2,o3⟩:=JcB g8
    obtain ⟨sl,ts,t1,t2,t3,t4⟩:=Jlg g9
    have c1:=bounds_i64 b1
    have c3:=bounds_i64 b3
    simp only [QH,and_true] at e0 e1 e2 e3 e4 e5 e6 e7 e8
    rw [e9] at o1
    rw [e10] at t1
    refine ⟨⟨z0,z1,z2,z3,z4,z5,z6,z7,z8,s9,s10⟩,by rw [e0,e1,e2,e3,e4,e5,e6,e7,e8,e9,e10];rfl,?_,λhk=>⟨os,ts,sl,?_⟩⟩
    ·have h0:=ZJ y0.1
     have h1:=ZJ y1.1
     have h2:=ZJ y2.1
     rw [hy]
     simp only [Rows.uptoBulk,Rows.uptoBulkAll,List.map_cons,List.map_nil]
     omega
    ·have hb:∀z∈[y0,y1,y2,y3,y4,y5,y6,y7,y8,y9].map (·.1),Rows.uptoBulk z<=1048575:=λz hz=>by
      have:=Jck hz
      rw [hy] at hk
      simp only [Rows.uptoBulk] at hk
      omega
     have b4:=hb y4.1 (by simp)
     have b8:=hb y8.1 (by simp)
     have b9:=hb y9.1 (by simp)
     rw [x4] at b4
     simp only [Rows.uptoBulk,QA] at b4
     refine ⟨⟨c1.1,by show z1<_;omega⟩,⟨c3.1,by show z3<_;omega⟩,by show z4.data.size<=_;omega,o1,o2,by omega,t1,t2,λt ht=>(t3 t ht).1,by omega,λt ht=>?_⟩
     obtain ⟨_,q1,q2,q3⟩:=t3 t ht
     exact ⟨by omega,by omega,q1⟩
theorem Jjh {b fuel:Nat} {v:Value} {x:DataW H×List MemPlace} (hv:Value.okWide prog W .any b 23 v) (h:DataW.trod enc prog W 0 (λ_=>true) true fuel 23 [v]=some x) (hk:Rows.uptoBulk x.1<=1048576):
  ∃l:List OpL,JeG W.heap.size W v l/\l.length<=800000:=by
 rcases Jak underlying23 hv with rfl | ⟨g,o,len0,cap0,rfl,hg⟩
 ·exact ⟨[],⟨.inl ⟨rfl,rfl⟩,λ_ h=>(QD h).elim⟩,by simp⟩
 rcases open_slice underlying23 h with ⟨h0,h1⟩ | ⟨a,len,cap,m,n,D,Pl,h0,hb,hl,hm,hmm,hx,he⟩
 ·simp at h0
 ·simp only [QH,and_true,Qy,Qh] at h0
  obtain ⟨rfl,rfl,rfl⟩:=h0
  simp only [if_true] at hmm
  subst hmm
  rw [cOp] at he
  have hp:∀i,i<m->∃q:OpL,W.cells? 0 ((⟨g,o,none⟩:Addr).add (i * 11)) 11=some (opL q)/\3<=Rows.uptoBulk (D i)/\(Rows.uptoBulk (D i)<=1048576->∃os ts sl,OpOk W.heap.size W q os ts sl):=λi hi=>by
   obtain ⟨cs',h1,h2⟩:=he i hi
   obtain ⟨p,rfl,h4,h5⟩:=JkX h2
   exact ⟨p,h1,h4,h5⟩
  haveI:Inhabited OpL:=⟨⟨0,0,0,0,⟨#[]⟩,⟨#[]⟩,⟨#[]⟩,⟨#[]⟩,0,(none,0,0),(none,0,0)⟩⟩
  obtain ⟨Q,hQ⟩:=choose_lt hp
  rw [hx] at hk
  simp only [Rows.uptoBulk] at hk
  have hDi:∀i,i<len0->Rows.uptoBulk (D i)<=1048576:=λi hi=>by
   have hm:D i∈(List.range len0).map D:=QL.2 ⟨i,List.mem_range.2 hi,rfl⟩
   have:=Jck hm
   omega
  refine ⟨(List.range len0).map Q,⟨.inr ⟨g,o,m,by simp,hg,hg,λi hi=>?_⟩,λs hs=>?_⟩,?_⟩
  ·simp only [QM,List.length_range] at hi
   obtain ⟨_,_,hc⟩:=World.cells?_some (hQ i (by omega)).1
   have ad:∀j,(((⟨g,o,none⟩:Addr).add (i * 11)).add j)=⟨g,o+i * 11+j,none⟩:=λj=>by
    rw [add_add];unfold Addr.add;split
    ·rename_i hz;simp <;> omega
    ·simp <;> omega
   simp only [List.getElem_map,List.getElem_range]
   have w0:=hc 0 (by omega)
   have w1:=hc 1 (by omega)
   have w2:=hc 2 (by omega)
   have w3:=hc 3 (by omega)
   have w4:=hc 4 (by omega)
   have w5:=hc 5 (by omega)
   have w6:=hc 6 (by omega)
   have w7:=hc 7 (by omega)
   have w8:=hc 8 (by omega)
   have w9:=hc 9 (by omega)
   have w10:=hc 10 (by omega)
   rw [ad] at w0 w1 w2 w3 w4 w5 w6 w7 w8 w9 w10
   exact ⟨w0,w1,w2,w3,w4,w5,w6,w7,w8,w9,w10⟩
  ·rw [QL] at hs
   obtain ⟨i,hi,rfl⟩:=hs
   have hi:=List.mem_range.1 hi
   exact (hQ i (by omega)).2.2 (hDi i hi)
  ·have:=Jcl 3 ((List.range len0).map D) (λd hd=>by
    obtain ⟨i,hi,rfl⟩:=QL.1 hd
    exact (hQ i (by have:=List.mem_range.1 hi;omega)).2.1)
   simp only [QM,List.length_range] at this ⊢
   omega
theorem Jjl {b fuel:Nat} {v:Value} {x:DataW H×List MemPlace} (hv:Value.okWide prog W .any b 22 v) (h:DataW.trod enc prog W 0 (λ_=>true) true fuel 22 [v]=some x) (hk:Rows.uptoBulk x.1<=1048576):
  ∃l:List (Nat×Nat),Jr W.heap.size W v l/\(∀o∈l,JC o)/\l.length<1000000:=by
 obtain ⟨l,h1,h2,h3⟩:=JcB h
 refine ⟨l,?_,h2,by omega⟩
 rcases h1 with ⟨e,rfl⟩ | h1
 ·rcases Jak underlying22 hv with rfl | ⟨g,o,len0,cap0,rfl,hg⟩
  ·exact .inl ⟨rfl,rfl⟩
  ·obtain ⟨a,c,e⟩:=e.shape
   simp only [Qy] at e
   obtain ⟨_,rfl,_⟩:=e
   exact .inr ⟨g,o,cap0,rfl,hg,hg,λi hi=>absurd hi (by simp)⟩
 ·exact .inr h1
end
open Go.ChangeShapes Go.WideShapes Go.ChangeAt Go.RowKit

theorem own:ownKnob prog.godebug=none:=by kernel_rfl
theorem Jef:laidOutB prog=true:=by kernel_rfl
theorem Jme:prog.readableRec 22=true:=by kernel_rfl
theorem Jk2:prog.readableRec 23=true:=by kernel_rfl
theorem JmJ:prog.readableRec 3=true:=by kernel_rfl
theorem JlW:22<prog.types.size:=of_decide_eq_true (by kernel_rfl)
theorem JkQ:23<prog.types.size:=of_decide_eq_true (by kernel_rfl)
theorem JmB:3<prog.types.size:=of_decide_eq_true (by kernel_rfl)
theorem Tch.belowN {W W':World} (h:Tch (λj=>W.heap.size<=j) W W'):Below W.heap.size W W':=h.below (Ql _) (λ_ h=>h)
theorem JbY (H:Type) (enc:TypeId×Value->H) (W:World) (base:Nat) (args:Array Value) (ds gs:List (DataW H)) (before:List MemPlace)
  (hval:∀(j:Nat) t v,Tryz.f3.params[j]? =some t->args[j]? =some v->Value.okWide prog W .any base t v)
  (hW:DataW.Whole enc prog Tryz.f3.params.toList Rows.blocksSpec.vars false W args.toList ds gs before) (hk:Rows.uptoSmall H (ds++gs)=true) (hL:laidMetH prog Rows.blocksUptoRow.laid W):
  Calls prog 3 args W λe W'=>∃v,e=.returned v/\Rows.blocksSpec.post enc prog Tryz.f3 false true false false W args v W':=by
 have hW':=hW
 obtain ⟨p,q,hA0,hV,rfl,hfz,hnd⟩:=hW
 have hA:DataW.TrodAll enc prog W 0 (λ_=>true) true Tryz.f3.params.toList args.toList ds p:=hA0
 rw [params3] at hA hval
 obtain ⟨v0,vs0,d0,ds0,p0,q0,hargs,rfl,rfl,h0,r0⟩:=trodAll_cons hA
 obtain ⟨v1,vs1,d1,ds1,p1,q1,rfl,rfl,rfl,h1,r1⟩:=trodAll_cons r0
 obtain ⟨v2,vs2,d2,ds2,p2,q2,rfl,rfl,rfl,h2,r2⟩:=trodAll_cons r1
 obtain ⟨rfl,rfl,rfl⟩:=trodAll_nil r2
 obtain rfl:args= #[v0,v1,v2]:=by cases args;simp_all
 obtain ⟨rfl,rfl⟩:=trodVars_none hV
 clear hA0 hA r0 r1 r2
 simp only [QC] at hW' hk hfz
 have hlt:∀x∈p0++(p1++p2),x.block<W.heap.size:=λx hx=>hW'.lt x hx
 have h0k:=h0
 have h1k:=h1
 have h2k:=h2
 have hb:Rows.uptoBulk d2<=1048576/\Rows.uptoBulk d1<=1048576:=by
  have:=of_decide_eq_true hk
  simp only [Rows.uptoBulkAll] at this
  omega
 obtain ⟨f0,h0⟩:=h0
 obtain ⟨f1,h1⟩:=h1
 obtain ⟨f2,h2⟩:=h2
 have o1:=hval 1 22 v1 rfl rfl
 have o2:=hval 2 23 v2 rfl rfl
 have e1:v1.cells.toList=[v1]:=by rcases Jak underlying22 o1 with rfl | ⟨_,_,_,_,rfl,_⟩ <;> rfl
 have e2:v2.cells.toList=[v2]:=by rcases Jak underlying23 o2 with rfl | ⟨_,_,_,_,rfl,_⟩ <;> rfl
 rw [e1] at h1
 rw [e2] at h2
 obtain ⟨outs,hO,hOk,hol⟩:=Jjl o1 h1 hb.2
 obtain ⟨script,hSt,hn⟩:=Jjh o2 h2 hb.1
 obtain ⟨c,e0,_,b0⟩:=DataW.trod_int underlying3 h0
 have bc0:=bounds_i64 b0
 obtain rfl:v0=.int .i64 c:=by
  have o0:=hval 0 3 v0 rfl rfl
  unfold Value.okWide at o0
  rw [underlying3] at o0
  simp only at o0
  unfold Cell.okWide at o0
  rw [underlying3] at o0
  cases v0 <;> simp only at o0 <;> first | (simp [Value.cells] at e0;rw [e0.1,e0.2];done) | (unfold Cell.ok at o0;rw [underlying3] at o0;exact absurd o0 (by simp))
 obtain ⟨E,hE,hS,hR⟩:=JkE hL
 refine (Ji0 E ⟨hE,hS,hE.size,hR⟩ rfl c ⟨bc0.1,by omega⟩ v1 v2 outs hO hOk hol script hSt hn).mono λe W' ⟨he,hT⟩=>?_
 subst he
 have hB:=hT.belowN
 refine ⟨_,rfl,[d0,d1,d2],[],p0++(p1++p2),[],p0++(p1++p2),[],hW',trodAll_mk1 (shut_bool underlying4 _),trodAll_mk3 (Below.trod Jef JmJ JmB h0k hB (λx hx=>hlt x (by simp [hx]))) (Below.trod Jef Jme JlW h1k hB (λx hx=>hlt x (by simp [hx]))) (Below.trod Jef Jk2 JkQ h2k hB (λx hx=>hlt x (by simp [hx]))),rfl,hB.frame _,λh=>by cases h⟩

theorem JfN (os:Os) (args:Array Value):laidMetH prog Rows.blocksUptoRow.laid ((World.doorLaid prog 400 os).forCall (λ_ _=>0) ⟨#[],args,[]⟩).memory:=
 laidMetH_of_parts3 (fuel:=8) (laidMet_of_run' 8 (by kernel_rfl) (by kernel_rfl)) (by kernel_rfl) (by kernel_rfl)
theorem Jd5 (os:Os) {H:Type} (enc:TypeId×Value->H):∃places,DataW.whole enc prog ((World.doorLaid prog 400 os).forCall (λ_ _=>0) ⟨#[],#[.int .i64 0,.slice none 0 0,.slice none 0 0],[]⟩).memory Tryz.f3.params.toList Rows.blocksSpec.vars false #[Value.int .i64 0,.slice none 0 0,.slice none 0 0].toList 8=some ([.lit (.int .i64 0),.nil,.nil],[],places):=
 ⟨[],by kernel_rfl⟩
theorem Jc9 (os:Os) (started:os.Started) (H:Type) (enc:TypeId×Value->H) (F:Stop.Interp):
  ReturnsInHanded {} checked os 3 .any ((Rows.OpenSpec.upto Rows.blocksSpec).preRow enc prog Tryz.f3 Rows.blocksUptoRow.domain false Rows.blocksUptoRow.laid) (((Rows.OpenSpec.upto Rows.blocksSpec).at F).post enc prog Tryz.f3 false true false false):=by
 obtain ⟨places,hx⟩:=Jd5 os enc
 refine returnsInHanded_of_row (C:=checked) (s:=Rows.OpenSpec.upto Rows.blocksSpec) own started (by kernel_rfl) func3
  (witness_row_atRef (enc:=enc) (C:=checked) false (World.doorLaid prog 400 os) #[.int .i64 0,.slice none 0 0,.slice none 0 0] rfl (by kernel_rfl) (by kernel_rfl) (by kernel_rfl)
   (OpenSpec.preRow_of_cond 8 hx (by kernel_rfl) (λk hk=>by cases hk;kernel_rfl) (by kernel_rfl) (JfN os _))) ?_
 intro W base args ds gs before hval hW _ hcond _ hL _ _
 exact JbY H enc W base args ds gs before hval hW (hcond _ rfl) hL
