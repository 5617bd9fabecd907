import Derived.WalkSpells
import Derived.Deep.Upon
import Derived.Lib.ConvBytes
namespace Go.Proofs.YtighkdnooglfjaaGreatDoor
open Go.RowKit

variable {a:Act}{ops:Array Oper}{Q:Exit->Act->World->Prop}{rest:List Oper}{xs:List Value}{base:Nat}{o:Oper}{P:Program}{v:Value}{w:World}
def rowP(w:World)(b:Nat):List Value->Prop
 | [x0]=>w.cell? ⟨b,0,none⟩=some x0
 | [x0,x1]=>w.cell? ⟨b,0,none⟩=some x0/\w.cell? ⟨b,1,none⟩=some x1
 | [x0,x1,x2]=>w.cell? ⟨b,0,none⟩=some x0/\w.cell? ⟨b,1,none⟩=some x1/\w.cell? ⟨b,2,none⟩=some x2
 | [x0,x1,x2,x3]=>w.cell? ⟨b,0,none⟩=some x0/\w.cell? ⟨b,1,none⟩=some x1/\w.cell? ⟨b,2,none⟩=some x2/\w.cell? ⟨b,3,none⟩=some x3
 | [x0,x1,x2,x3,x4]=>w.cell? ⟨b,0,none⟩=some x0/\w.cell? ⟨b,1,none⟩=some x1/\w.cell? ⟨b,2,none⟩=some x2/\w.cell? ⟨b,3,none⟩=some x3/\w.cell? ⟨b,4,none⟩=some x4
 | [x0,x1,x2,x3,x4,x5]=>w.cell? ⟨b,0,none⟩=some x0/\w.cell? ⟨b,1,none⟩=some x1/\w.cell? ⟨b,2,none⟩=some x2/\w.cell? ⟨b,3,none⟩=some x3/\w.cell? ⟨b,4,none⟩=some x4/\w.cell? ⟨b,5,none⟩=some x5
 | [x0,x1,x2,x3,x4,x5,x6]=>w.cell? ⟨b,0,none⟩=some x0/\w.cell? ⟨b,1,none⟩=some x1/\w.cell? ⟨b,2,none⟩=some x2/\w.cell? ⟨b,3,none⟩=some x3/\w.cell? ⟨b,4,none⟩=some x4/\w.cell? ⟨b,5,none⟩=some x5/\w.cell? ⟨b,6,none⟩=some x6
 | [x0,x1,x2,x3,x4,x5,x6,x7]=>w.cell? ⟨b,0,none⟩=some x0/\w.cell? ⟨b,1,none⟩=some x1/\w.cell? ⟨b,2,none⟩=some x2/\w.cell? ⟨b,3,none⟩=some x3/\w.cell? ⟨b,4,none⟩=some x4/\w.cell? ⟨b,5,none⟩=some x5/\w.cell? ⟨b,6,none⟩=some x6/\w.cell? ⟨b,7,none⟩=some x7
 | [x0,x1,x2,x3,x4,x5,x6,x7,x8]=>w.cell? ⟨b,0,none⟩=some x0/\w.cell? ⟨b,1,none⟩=some x1/\w.cell? ⟨b,2,none⟩=some x2/\w.cell? ⟨b,3,none⟩=some x3/\w.cell? ⟨b,4,none⟩=some x4/\w.cell? ⟨b,5,none⟩=some x5/\w.cell? ⟨b,6,none⟩=some x6/\w.cell? ⟨b,7,none⟩=some x7/\w.cell? ⟨b,8,none⟩=some x8
 | [x0,x1,x2,x3,x4,x5,x6,x7,x8,x9]=>w.cell? ⟨b,0,none⟩=some x0/\w.cell? ⟨b,1,none⟩=some x1/\w.cell? ⟨b,2,none⟩=some x2/\w.cell? ⟨b,3,none⟩=some x3/\w.cell? ⟨b,4,none⟩=some x4/\w.cell? ⟨b,5,none⟩=some x5/\w.cell? ⟨b,6,none⟩=some x6/\w.cell? ⟨b,7,none⟩=some x7/\w.cell? ⟨b,8,none⟩=some x8/\w.cell? ⟨b,9,none⟩=some x9
 | [x0,x1,x2,x3,x4,x5,x6,x7,x8,x9,x10]=>w.cell? ⟨b,0,none⟩=some x0/\w.cell? ⟨b,1,none⟩=some x1/\w.cell? ⟨b,2,none⟩=some x2/\w.cell? ⟨b,3,none⟩=some x3/\w.cell? ⟨b,4,none⟩=some x4/\w.cell? ⟨b,5,none⟩=some x5/\w.cell? ⟨b,6,none⟩=some x6/\w.cell? ⟨b,7,none⟩=some x7/\w.cell? ⟨b,8,none⟩=some x8/\w.cell? ⟨b,9,none⟩=some x9/\w.cell? ⟨b,10,none⟩=some x10
 | _=>True
theorem rows{b:Nat}{l:List Value}{t:TypeId}{fr:Nat×Nat}(h:w.heap[b]? =some (.cells ⟨l⟩ t fr)):rowP w b l:=by
 unfold rowP
 split
 all_goals
  repeat' apply And.intro
  all_goals first|trivial|exact cell_of_row _ _ _ _ _ _ h

def Bs(base:Nat)(w:World)(v:Value)(xs:List Value):Prop:=
 (v=.slice none 0 0/\xs=[])\/
 ∃g cap,v=.slice (some ⟨g,0,none⟩) xs.length cap/\base<=g/\g<w.heap.size/\xs.length<=cap/\cap<=maxLen/\
  (∀j u,xs[j]? =some u->w.cell? ⟨g,j,none⟩=some u)/\∀j,j<cap->(w.cell? ⟨g,j,none⟩).isSome=true/\w.frozen? ⟨g,j,none⟩=false
theorem Bs.nil(base:Nat)(w:World):Bs base w (.slice none 0 0) []:=.inl ⟨rfl,rfl⟩
theorem Bs.shape(h:Bs base w v xs):∃a c,v=.slice a xs.length c:=by
 rcases h with⟨rfl,rfl⟩|⟨g,cap,rfl,_⟩
 ·exact⟨none,0,rfl⟩
 ·exact⟨_,_,rfl⟩
theorem Bs.shape3(h:Bs base w v xs):∃a m c,v=.slice a m c:=by
 obtain⟨a,c,h⟩:=h.shape;exact⟨a,_,c,h⟩
theorem Bs.grown{w':World}{row:Option Nat}(h:Bs base w v xs)(hg:w.grownBy w' row)(hne:∀k,row=some k->k<base\/w.heap.size<=k):Bs base w' v xs:=by
 rcases h with h|⟨g,cap,hv,hb,hlt,hle,hm,hc,hs⟩
 ·exact .inl h
 ·have hbk:w'.heap[g]? =w.heap[g]? :=hg.block g hlt (λe=>by rcases hne g e.symm with h1|h1<;>omega);refine .inr ⟨g,cap,hv,hb,Nat.lt_of_lt_of_le hlt hg.size,hle,hm,λj u hu=>?_,λj hj=>?_⟩
  ·rw[World.cell?_of_block (a:=⟨g,j,none⟩) hbk];exact hc j u hu
  ·rw[World.cell?_of_block (a:=⟨g,j,none⟩) hbk,World.frozen?_of_block (a:=⟨g,j,none⟩) hbk];exact hs j hj
theorem Bs.alloc(h:Bs base w v xs)(o:Obj):Bs base (w.alloc o) v xs:=
 h.grown (row:=none) (World.grownBy_alloc w o none) (λ_ e=>by cases e)
theorem Bs.drew(h:Bs base w v xs):Bs base w.drew v xs:=h
theorem Bs.own(h:Bs base w v xs):∀k,v.ownBlock=some k->base<=k/\k<w.heap.size:=by
 rcases h with⟨rfl,rfl⟩|⟨g,cap,rfl,hb,hlt,_⟩
 ·intro k hk;cases hk
 ·intro k hk;cases hk;exact⟨hb,hlt⟩

theorem Ja8(g:Nat):∀(vs:List Value)(o:Nat)(w:World),(w.setCells g o vs).tape=w.tape
 | [],_,_=>rfl
 | v::vs,o,w=>by
  rw[World.setCells,Ja8 g vs];rfl
def RowT(e:TypeId)(w:World)(v:Value):Prop:=∀k,v.ownBlock=some k->∃cur m,w.heap[k]? =some (.cells cur e m)
theorem Zp(g:Nat):∀(vs:List Value)(o:Nat)(w:World){cur:Array Value}{e:TypeId}{m:Nat×Nat},w.heap[g]? =some (.cells cur e m)->∃cur m,(w.setCells g o vs).heap[g]? =some (.cells cur e m)
 | [],_,_,_,_,_,h=>⟨_,_,h⟩
 | v::vs,o,w,cur,e,m,h=>by
  rw[World.setCells];have h1:=setCell_eq_setRow w g o cur e m v h;refine Zp g vs _ _ (cur:=cur.setIfInBounds o v) (m:=m) ?_;rw[h1];exact setRow_heap _ _ _ _ _ _ h
theorem JaG(h:Bs base w v xs)
 (t tx ty e:TypeId) (i:TypeInfo) (z:Value) (ht:P.underlying t=some (.slice e)) (hi:P.info? e=some i) (hz:i.zero=some z) (hsize:i.size=1) (hby:i.bytes=1) (hzs:z.cells.size=1)
 (x:Value) (n:Nat) (news:List Value) (hs:Src P 1 tx x n news w) (h63:xs.length+n<=140737488355328) (hbase:base<=w.heap.size):
  ∃v' w',(Builtin.append_ #[t,tx] ty #[v,x]).run P w=.ok v' w'/\Bs base w' v' (xs++news)/\w.grownBy w' v.ownBlock/\(v'.ownBlock=v.ownBlock\/∃k,v'.ownBlock=some k/\w.heap.size<=k)/\(RowT e w v->RowT e w' v'):=by
 have hnl:news.length=n:=by have:=hs.newsLen;omega
 have hml:xs.length+n<=maxLen:=by simp only[maxLen];omega
 have hsi:Src P i.size tx x n news w:=by rw[hsize];exact hs
 have grow:∀(bs:Option Addr)(sc:Nat),v=.slice bs xs.length sc->sc<xs.length+n->
   (Builtin.firstCells i.size xs.length (.slice bs xs.length sc)).run P w.drew=.ok xs.toArray w.drew->
   ∃v' w',(Builtin.append_ #[t,tx] ty #[v,x]).run P w=.ok v' w'/\Bs base w' v' (xs++news)/\w.grownBy w' v.ownBlock/\(v'.ownBlock=v.ownBlock\/∃k,v'.ownBlock=some k/\w.heap.size<=k)/\(RowT e w v->RowT e w' v'):=by
  rintro bs sc rfl hg hold;have hrun:=run_append_grow_src (P:=P) w t tx ty e i z ht hi hz bs xs.length sc xs hold x n news hsi hg (by omega) (growslice_fits hg (by rw[hby];omega));have hge:=grownCap_ge w (xs.length+n) sc e;have hcm:=grownCap_le_maxLen w (xs.length+n) sc e hml;have hsz:((xs++news).toArray++Builtin.zeroCells z.cells (grownCap w (xs.length+n) sc e-(xs.length+n))).size=grownCap w (xs.length+n) sc e:=by rw[Array.size_append,List.size_toArray,size_zeroCells,hzs,List.length_append,hnl];omega
  refine⟨_,_,hrun,.inr ⟨w.heap.size,_,by rw[List.length_append,hnl],hbase,by simp,by rw[List.length_append,hnl];exact hge,hcm,λj u hu=>?_,λj hj=>⟨?_,?_⟩⟩,⟨rfl,rfl,rfl,by simp,λk hk _=>Below.heap_alloc w.drew _ k hk⟩,.inr ⟨w.heap.size,rfl,Nat.le_refl _⟩,λ_ k hk=>by cases hk;exact⟨_,_,heap_alloc_new w.drew _⟩⟩
  ·have hj:=(List.getElem?_eq_some_iff.1 hu).1;have e1:=World.cell?_alloc_new w.drew ((xs++news).toArray++Builtin.zeroCells z.cells (grownCap w (xs.length+n) sc e-(xs.length+n))) e j;refine(show _=_ from e1).trans ?_;rw[Array.getElem?_append_left (by simpa using hj),List.getElem?_toArray];exact hu
  ·have e1:=World.cell?_alloc_new w.drew ((xs++news).toArray++Builtin.zeroCells z.cells (grownCap w (xs.length+n) sc e-(xs.length+n))) e j;rw[show (w.drew.alloc _).cell? ⟨w.heap.size,j,none⟩=_ from e1,Array.getElem?_eq_getElem (by rw[hsz];exact hj)];rfl
  ·exact World.frozen?_alloc_new w.drew _ _ j
 rcases h with⟨rfl,rfl⟩|⟨g,cap,rfl,hb,hlt,hle,hm,hc,hsp⟩
 ·rcases Nat.eq_zero_or_pos n with h0|hpos
  ·subst h0;obtain rfl:news=[]:=List.eq_nil_of_length_eq_zero hnl;exact⟨_,_,run_append_nothing (P:=P) w t tx ty e i ht hi none 0 0 (Nat.le_refl _) x hsi,.inl ⟨rfl,rfl⟩,World.grownBy.refl _ _,.inl rfl,λh=>h⟩
  ·exact grow none 0 rfl (by simpa using hpos) (run_firstCells_none w.drew i.size 0 0 0)
 ·by_cases hfit:xs.length+n<=cap
  ·have hsome:∀j,j<news.length->(w.cell? ⟨g,0+xs.length*i.size+j,none⟩).isSome=true:=λj hj=>by
    rw[hsize];simp only[Nat.zero_add,Nat.mul_one];exact(hsp _ (by omega)).1
   have hrun:=run_append_room_src (P:=P) w t tx ty e i ht hi g 0 xs.length cap x n news hsi hfit hsome
    (λj hj=>by rw[hsize];simp only[Nat.zero_add,Nat.mul_one];exact(hsp _ (by omega)).2)
   rw[hsize]at hrun hsome;simp only[Nat.zero_add,Nat.mul_one]at hrun hsome;have hin:=World.cell?_setCells_in g news xs.length w hsome;have hout:∀j,(j<xs.length\/xs.length+news.length<=j)->(w.setCells g xs.length news).cell? ⟨g,j,none⟩=w.cell? ⟨g,j,none⟩:=λj hj=>World.cell?_setCells_out g _ _ _ _ (λ_ _=>hj);have hk:=World.keptBut_setCells g (may:=λ_=>True) news xs.length w (λ_ _=>trivial);refine⟨_,_,hrun,.inr ⟨g,cap,by rw[List.length_append,hnl],hb,Nat.lt_of_lt_of_le hlt hk.size,by rw[List.length_append,hnl];exact hfit,hm,λj u hu=>?_,λj hj=>⟨?_,(World.frozen?_setCells g _ _ _ _).trans (hsp j hj).2⟩⟩,?_,.inl rfl,λh k hk=>by cases hk;obtain⟨cur,m,hr⟩:=h g rfl;exact Zp g news _ w hr⟩
   ·by_cases hj:j<xs.length
    ·rw[List.getElem?_append_left hj]at hu;rw[hout j (.inl hj)];exact hc j u hu
    ·rw[List.getElem?_append_right (by omega)]at hu;obtain⟨hj2,rfl⟩:=List.getElem?_eq_some_iff.1 hu;have:=hin (j-xs.length) hj2
     rwa [show xs.length+(j-xs.length)=j by omega]at this
   ·by_cases hj2:xs.length<=j/\j<xs.length+news.length
    ·have:=hin (j-xs.length) (by omega);rw[show xs.length+(j-xs.length)=j by omega]at this;rw[this];rfl
    ·rw[hout j (by omega)];exact(hsp j hj).1
   ·exact⟨World.os_setCells _ _ _ _,Ja8 _ _ _ _,World.output_setCells _ _ _ _,hk.size,λk hk2 hne=>World.heap_setCells_other w g _ news hk2 (λe=>hne (by rw[e];rfl))⟩
  ·refine grow (some ⟨g,0,none⟩) cap rfl (by omega) ?_;refine run_firstCells_some w.drew i.size xs.length ⟨g,0,none⟩ xs.length cap xs (by rw[hsize];omega) (λj u hu=>?_);rw[Addr.add_lit,Nat.zero_add];exact hc j u hu

theorem Ja4(h:Bs base w v xs)
 (t tx ty e:TypeId) (i:TypeInfo) (z:Value) (ht:P.underlying t=some (.slice e)) (hi:P.info? e=some i) (hz:i.zero=some z) (hsize:i.size=1) (hby:i.bytes=1) (hzs:z.cells.size=1)
 (x:Value) (n:Nat) (news:List Value) (hs:Src P 1 tx x n news w) (h63:xs.length+n<=140737488355328) (hbase:base<=w.heap.size):
  ∃v' w',(Builtin.append_ #[t,tx] ty #[v,x]).run P w=.ok v' w'/\Bs base w' v' (xs++news)/\w.grownBy w' v.ownBlock/\(v'.ownBlock=v.ownBlock\/∃k,v'.ownBlock=some k/\w.heap.size<=k):=by
 obtain⟨v',w',h1,h2,h3,h4,_⟩:=JaG h t tx ty e i z ht hi hz hsize hby hzs x n news hs h63 hbase;exact⟨v',w',h1,h2,h3,h4⟩
theorem XL(hgd:o.guard=none)(s x:Operand)(t tx e:TypeId)
 (ho:o.op=.call { callee:=.builtin .append,args:= #[s,x],argTypes:= #[t,tx] })
 (i:TypeInfo) (z:Value) (ht:P.underlying t=some (.slice e)) (hi:P.info? e=some i) (hz:i.zero=some z) (hsize:i.size=1) (hby:i.bytes=1) (hzs:z.cells.size=1)
 (hv:a.eval s=v) (h:Bs base w v xs)
 (xv:Value) (n:Nat) (news:List Value) (hx:a.eval x=xv) (hs:Src P 1 tx xv n news w) (h63:xs.length+n<=140737488355328) (hbase:base<=w.heap.size)
 (hK:∀v' w',Bs base w' v' (xs++news)->w.grownBy w' v.ownBlock->(v'.ownBlock=v.ownBlock\/∃k,v'.ownBlock=some k/\w.heap.size<=k)->wpList P ops Q rest (a.put o.dst v') w'):wpList P ops Q (o::rest) a w:=by
 refine wpList_plain hgd λK hK'=>?_;obtain⟨v',w',hrun,r,r2,r3⟩:=Ja4 (P:=P) h t tx o.type e i z ht hi hz hsize hby hzs xv n news hs h63 hbase;unfold Oper.wp;simp[execOp,ho,resolve,invoke,builtin,hv,hx,hrun,Result.andThen];exact hK' _ _ (hK v' w' r r2 r3)

theorem JbV(hgd:o.guard=none)(s x:Operand)(t tx e:TypeId)
 (ho:o.op=.call { callee:=.builtin .append,args:= #[s,x],argTypes:= #[t,tx] })
 (i:TypeInfo) (z:Value) (ht:P.underlying t=some (.slice e)) (hi:P.info? e=some i) (hz:i.zero=some z) (hsize:i.size=1) (hby:i.bytes=1) (hzs:z.cells.size=1)
 (hv:a.eval s=v) (h:Bs base w v xs)
 (xv:Value) (n:Nat) (news:List Value) (hx:a.eval x=xv) (hs:Src P 1 tx xv n news w) (h63:xs.length+n<=140737488355328) (hbase:base<=w.heap.size)
 (hK:∀v' w',Bs base w' v' (xs++news)->w.grownBy w' v.ownBlock->(v'.ownBlock=v.ownBlock\/∃k,v'.ownBlock=some k/\w.heap.size<=k)->(RowT e w v->RowT e w' v')->wpList P ops Q rest (a.put o.dst v') w'):wpList P ops Q (o::rest) a w:=by
 refine wpList_plain hgd λK hK'=>?_;obtain⟨v',w',hrun,r,r2,r3,r4⟩:=JaG (P:=P) h t tx o.type e i z ht hi hz hsize hby hzs xv n news hs h63 hbase;unfold Oper.wp;simp[execOp,ho,resolve,invoke,builtin,hv,hx,hrun,Result.andThen];exact hK' _ _ (hK v' w' r r2 r3 r4)

theorem JeW(w:World)(src dst e:TypeId)(s:ByteArray){u:TypeDesc}(hs:P.underlying src=some u)(hd:P.underlying dst=some (.slice e))(he:P.underlying e=some (.int .u8))(hm:s.size<=maxLen):
  ∃v' w',(convert src dst (.string s)).run P w=.ok v' w'/\Bs w.heap.size w' v' (byteCells s)/\w.grownBy w' none:=by
 refine⟨_,_,Lib.run_convert_string_bytes w src dst e s hs hd he,.inr ⟨w.heap.size,_,by rw[byteCells_length],Nat.le_refl _,by rw[Lib.bytesWorld_size];omega,by rw[byteCells_length];exact grownCap_ge _ _ _ _,grownCap_le_maxLen _ _ _ _ hm,λj u hu=>?_,λj hj=>⟨?_,?_⟩⟩,?_⟩
 ·have hj:=(List.getElem?_eq_some_iff.1 hu).1;rw[byteCells_length]at hj;rw[Lib.bytesWorld_cell w e s j hj];simp[byteCells]at hu;obtain⟨b,hb,rfl⟩:=hu;simp[List.getD_eq_getElem?_getD,hb]
 ·have hsz:(Lib.bytesCells w e s).size=grownCap w s.size 0 e:=by
   have:=grownCap_ge w s.size 0 e;have e0:s.data.size=s.size:=rfl;simp[Lib.bytesCells,e0];omega
  simp[World.cell?,Lib.bytesWorld_at_new,hsz,hj]
 ·have hsz:(Lib.bytesCells w e s).size=grownCap w s.size 0 e:=by
   have:=grownCap_ge w s.size 0 e;have e0:s.data.size=s.size:=rfl;simp[Lib.bytesCells,e0];omega
  simp[World.frozen?,Lib.bytesWorld_at_new,hsz];omega
 ·exact⟨rfl,rfl,rfl,by rw[Lib.bytesWorld_size];omega,λk hk _=>Lib.bytesWorld_at_old w e s k hk⟩

theorem Ya{l:List UInt8}(h:Bs base w v (l.map λb=>Value.int .u8 b.toNat))(src dst e:TypeId)(hs:P.underlying src=some (.slice e))(he:P.underlying e=some (.int .u8))(hd:P.underlying dst=some .string):
  (convert src dst v).run P w=.ok (.string ⟨l.toArray⟩) w:=by
 rcases h with⟨rfl,hx⟩|⟨g,cap,rfl,_,_,_,_,hc,_⟩
 ·obtain rfl:l=[]:=by simpa using hx
  rw[run_convert_bytes_string w src dst e none 0 0 hs he hd];simp[Conv.bytesToString];rfl
 ·rw[List.length_map];exact run_convert_bytes_back w src dst e ⟨g,0,none⟩ cap l hs he hd (λj hj=>by
   rw[Addr.add_lit,Nat.zero_add];exact hc j _ (by simp[hj]))
