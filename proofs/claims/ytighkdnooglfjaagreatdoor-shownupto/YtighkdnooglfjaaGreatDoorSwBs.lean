/-
  A slice of bytes that the call itself made (by append from nil, or by a conversion of a string), told by its cells; what an append makes of it, out of whatever source; its conversions from and to a string.
  The contract of trove/digest.padded: the last bytes of a text, filled up as SHA-256 asks ('padL').
  The contract of trove/digest.asBytes: eight words as 32 bytes, the greatest first ('asB').
-/
import Derived.WalkKit
import Derived.WalkSpells
import Derived.Deep.Upon
import Derived.Lib.ConvBytes
import Derived.Laws.IdiomStrings
import Derived.Test.YtighkdnooglfjaaGreatDoorSwRot
namespace Go.Proofs.YtighkdnooglfjaaGreatDoor
open Go.RowKit

def Bs (base:Nat) (w:World) (v:Value) (xs:List Value):Prop:=
 (v=.slice none 0 0/\xs=[])\/
 ∃g cap,v=.slice (some ⟨g,0,none⟩) xs.length cap/\base<=g/\g<w.heap.size/\xs.length<=cap/\cap<=maxLen/\
  (∀j u,xs[j]? =some u->w.cell? ⟨g,j,none⟩=some u)/\∀j,j<cap->(w.cell? ⟨g,j,none⟩).isSome=true/\w.frozen? ⟨g,j,none⟩=false
theorem Bs.nil (base:Nat) (w:World):Bs base w (.slice none 0 0) []:=.inl ⟨rfl,rfl⟩
theorem Bs.shape {base:Nat} {w:World} {v:Value} {xs:List Value} (h:Bs base w v xs):∃a c,v=.slice a xs.length c:=by
 rcases h with ⟨rfl,rfl⟩ | ⟨g,cap,rfl,_⟩
 ·exact ⟨none,0,rfl⟩
 ·exact ⟨_,_,rfl⟩
theorem Bs.shape3 {base:Nat} {w:World} {v:Value} {xs:List Value} (h:Bs base w v xs):∃a m c,v=.slice a m c:=by
 obtain ⟨a,c,h⟩:=h.shape
 exact ⟨a,_,c,h⟩
theorem Bs.grown {base:Nat} {w w':World} {v:Value} {xs:List Value} {row:Option Nat} (h:Bs base w v xs) (hg:w.grownBy w' row) (hne:∀k,row=some k->k<base\/w.heap.size<=k):Bs base w' v xs:=by
 rcases h with h | ⟨g,cap,hv,hb,hlt,hle,hm,hc,hs⟩
 ·exact .inl h
 ·have hbk:w'.heap[g]? =w.heap[g]? :=hg.block g hlt (λe=>by rcases hne g e.symm with h1 | h1 <;> omega)
  refine .inr ⟨g,cap,hv,hb,Nat.lt_of_lt_of_le hlt hg.size,hle,hm,λj u hu=>?_,λj hj=>?_⟩
  ·rw [World.cell?_of_block (a:=⟨g,j,none⟩) hbk];exact hc j u hu
  ·rw [World.cell?_of_block (a:=⟨g,j,none⟩) hbk,World.frozen?_of_block (a:=⟨g,j,none⟩) hbk];exact hs j hj
theorem Bs.alloc {base:Nat} {w:World} {v:Value} {xs:List Value} (h:Bs base w v xs) (o:Obj):Bs base (w.alloc o) v xs:=
 h.grown (row:=none) (World.grownBy_alloc w o none) (λ_ e=>by cases e)
theorem Bs.drew {base:Nat} {w:World} {v:Value} {xs:List Value} (h:Bs base w v xs):Bs base w.drew v xs:=h
theorem Bs.own {base:Nat} {w:World} {v:Value} {xs:List Value} (h:Bs base w v xs):∀k,v.ownBlock=some k->base<=k/\k<w.heap.size:=by
 rcases h with ⟨rfl,rfl⟩ | ⟨g,cap,rfl,hb,hlt,_⟩
 ·intro k hk;cases hk
 ·intro k hk;cases hk;exact ⟨hb,hlt⟩

theorem tape_setCells (g:Nat):∀(vs:List Value) (o:Nat) (w:World),(w.setCells g o vs).tape=w.tape
 | [],_,_=>rfl
 | v :: vs,o,w=>by
  rw [World.setCells,tape_setCells g vs];rfl
def RowT (e:TypeId) (w:World) (v:Value):Prop:=∀k,v.ownBlock=some k->∃cur m,w.heap[k]? =some (.cells cur e m)
theorem heap_setCells_kind (g:Nat):∀(vs:List Value) (o:Nat) (w:World) {cur:Array Value} {e:TypeId} {m:Nat×Nat},w.heap[g]? =some (.cells cur e m)->∃cur m,(w.setCells g o vs).heap[g]? =some (.cells cur e m)
 | [],_,_,_,_,_,h=>⟨_,_,h⟩
 | v :: vs,o,w,cur,e,m,h=>by
  rw [World.setCells]
  have h1:=setCell_eq_setRow w g o cur e m v h
  refine heap_setCells_kind g vs _ _ (cur:=cur.setIfInBounds o v) (m:=m) ?_
  rw [h1]
  exact setRow_heap _ _ _ _ _ _ h
theorem run_append_bsK {P:Program} {base:Nat} {w:World} {v:Value} {xs:List Value} (h:Bs base w v xs)
  (t tx ty e:TypeId) (i:TypeInfo) (z:Value) (ht:P.underlying t=some (.slice e)) (hi:P.info? e=some i) (hz:i.zero=some z) (hsize:i.size=1) (hby:i.bytes=1) (hzs:z.cells.size=1)
  (x:Value) (n:Nat) (news:List Value) (hs:Src P 1 tx x n news w) (h63:xs.length+n<=140737488355328) (hbase:base<=w.heap.size):
  ∃v' w',(Builtin.append_ #[t,tx] ty #[v,x]).run P w=.ok v' w'/\Bs base w' v' (xs++news)/\w.grownBy w' v.ownBlock/\(v'.ownBlock=v.ownBlock\/∃k,v'.ownBlock=some k/\w.heap.size<=k)/\(RowT e w v->RowT e w' v'):=by
 have hnl:news.length=n:=by have:=hs.newsLen;omega
 have hml:xs.length+n<=maxLen:=by simp only [maxLen];omega
 have hsi:Src P i.size tx x n news w:=by rw [hsize];exact hs
 have grow:∀(bs:Option Addr) (sc:Nat),v=.slice bs xs.length sc->sc<xs.length+n->
   (Builtin.firstCells i.size xs.length (.slice bs xs.length sc)).run P w.drew=.ok xs.toArray w.drew->
   ∃v' w',(Builtin.append_ #[t,tx] ty #[v,x]).run P w=.ok v' w'/\Bs base w' v' (xs++news)/\w.grownBy w' v.ownBlock/\(v'.ownBlock=v.ownBlock\/∃k,v'.ownBlock=some k/\w.heap.size<=k)/\(RowT e w v->RowT e w' v'):=by
  rintro bs sc rfl hg hold
  have hrun:=run_append_grow_src (P:=P) w t tx ty e i z ht hi hz bs xs.length sc xs hold x n news hsi hg (by omega) (growslice_fits hg (by rw [hby];omega))
  have hge:=grownCap_ge w (xs.length+n) sc e
  have hcm:=grownCap_le_maxLen w (xs.length+n) sc e hml
  have hsz:((xs++news).toArray++Builtin.zeroCells z.cells (grownCap w (xs.length+n) sc e - (xs.length+n))).size=grownCap w (xs.length+n) sc e:=by
   rw [Array.size_append,List.size_toArray,size_zeroCells,hzs,List.length_append,hnl];omega
  refine ⟨_,_,hrun,.inr ⟨w.heap.size,_,by rw [List.length_append,hnl],hbase,by simp,by rw [List.length_append,hnl];exact hge,hcm,λj u hu=>?_,λj hj=>⟨?_,?_⟩⟩,⟨rfl,rfl,rfl,by simp,λk hk _=>Below.heap_alloc w.drew _ k hk⟩,.inr ⟨w.heap.size,rfl,Nat.le_refl _⟩,λ_ k hk=>by cases hk;exact ⟨_,_,heap_alloc_new w.drew _⟩⟩
  ·have hj:=(List.getElem?_eq_some_iff.1 hu).1
   have e1:=World.cell?_alloc_new w.drew ((xs++news).toArray++Builtin.zeroCells z.cells (grownCap w (xs.length+n) sc e - (xs.length+n))) e j
   refine (show _=_ from e1).trans ?_
   rw [Array.getElem?_append_left (by simpa using hj),List.getElem?_toArray];exact hu
  ·have e1:=World.cell?_alloc_new w.drew ((xs++news).toArray++Builtin.zeroCells z.cells (grownCap w (xs.length+n) sc e - (xs.length+n))) e j
   rw [show (w.drew.alloc _).cell? ⟨w.heap.size,j,none⟩=_ from e1,Array.getElem?_eq_getElem (by rw [hsz];exact hj)];rfl
  ·exact World.frozen?_alloc_new w.drew _ _ j
 rcases h with ⟨rfl,rfl⟩ | ⟨g,cap,rfl,hb,hlt,hle,hm,hc,hsp⟩
 ·rcases Nat.eq_zero_or_pos n with h0 | hpos
  ·subst h0
   obtain rfl:news=[]:=List.eq_nil_of_length_eq_zero hnl
   exact ⟨_,_,run_append_nothing (P:=P) w t tx ty e i ht hi none 0 0 (Nat.le_refl _) x hsi,.inl ⟨rfl,rfl⟩,World.grownBy.refl _ _,.inl rfl,λh=>h⟩
  ·exact grow none 0 rfl (by simpa using hpos) (run_firstCells_none w.drew i.size 0 0 0)
 ·by_cases hfit:xs.length+n<=cap
  ·have hsome:∀j,j<news.length->(w.cell? ⟨g,0+xs.length * i.size+j,none⟩).isSome=true:=λj hj=>by
    rw [hsize];simp only [Nat.zero_add,Nat.mul_one];exact (hsp _ (by omega)).1
   have hrun:=run_append_room_src (P:=P) w t tx ty e i ht hi g 0 xs.length cap x n news hsi hfit hsome
    (λj hj=>by rw [hsize];simp only [Nat.zero_add,Nat.mul_one];exact (hsp _ (by omega)).2)
   rw [hsize] at hrun hsome
   simp only [Nat.zero_add,Nat.mul_one] at hrun hsome
   have hin:∀j (hj:j<news.length),(w.setCells g xs.length news).cell? ⟨g,xs.length+j,none⟩=some news[j]:=World.cell?_setCells_in g news xs.length w hsome
   have hout:∀j,(j<xs.length\/xs.length+news.length<=j)->(w.setCells g xs.length news).cell? ⟨g,j,none⟩=w.cell? ⟨g,j,none⟩:=λj hj=>World.cell?_setCells_out g _ _ _ _ (λ_ _=>hj)
   have hk:=World.keptBut_setCells g (may:=λ_=>True) news xs.length w (λ_ _=>trivial)
   refine ⟨_,_,hrun,.inr ⟨g,cap,by rw [List.length_append,hnl],hb,Nat.lt_of_lt_of_le hlt hk.size,by rw [List.length_append,hnl];exact hfit,hm,λj u hu=>?_,λj hj=>⟨?_,(World.frozen?_setCells g _ _ _ _).trans (hsp j hj).2⟩⟩,?_,.inl rfl,λh k hk=>by cases hk;obtain ⟨cur,m,hr⟩:=h g rfl;exact heap_setCells_kind g news _ w hr⟩
   ·by_cases hj:j<xs.length
    ·rw [List.getElem?_append_left hj] at hu
     rw [hout j (.inl hj)];exact hc j u hu
    ·rw [List.getElem?_append_right (by omega)] at hu
     obtain ⟨hj2,rfl⟩:=List.getElem?_eq_some_iff.1 hu
     have:=hin (j - xs.length) hj2
     rwa [show xs.length+(j - xs.length)=j by omega] at this
   ·by_cases hj2:xs.length<=j/\j<xs.length+news.length
    ·have:=hin (j - xs.length) (by omega)
     rw [show xs.length+(j - xs.length)=j by omega] at this
     rw [this];rfl
    ·rw [hout j (by omega)];exact (hsp j hj).1
   ·exact ⟨World.os_setCells _ _ _ _,tape_setCells _ _ _ _,World.output_setCells _ _ _ _,hk.size,λk hk2 hne=>World.heap_setCells_other w g _ news hk2 (λe=>hne (by rw [e];rfl))⟩
  ·refine grow (some ⟨g,0,none⟩) cap rfl (by omega) ?_
   refine run_firstCells_some w.drew i.size xs.length ⟨g,0,none⟩ xs.length cap xs (by rw [hsize];omega) (λj u hu=>?_)
   rw [Addr.add_lit,Nat.zero_add]
   exact hc j u hu

theorem run_append_bs {P:Program} {base:Nat} {w:World} {v:Value} {xs:List Value} (h:Bs base w v xs)
  (t tx ty e:TypeId) (i:TypeInfo) (z:Value) (ht:P.underlying t=some (.slice e)) (hi:P.info? e=some i) (hz:i.zero=some z) (hsize:i.size=1) (hby:i.bytes=1) (hzs:z.cells.size=1)
  (x:Value) (n:Nat) (news:List Value) (hs:Src P 1 tx x n news w) (h63:xs.length+n<=140737488355328) (hbase:base<=w.heap.size):
  ∃v' w',(Builtin.append_ #[t,tx] ty #[v,x]).run P w=.ok v' w'/\Bs base w' v' (xs++news)/\w.grownBy w' v.ownBlock/\(v'.ownBlock=v.ownBlock\/∃k,v'.ownBlock=some k/\w.heap.size<=k):=by
 obtain ⟨v',w',h1,h2,h3,h4,_⟩:=run_append_bsK h t tx ty e i z ht hi hz hsize hby hzs x n news hs h63 hbase
 exact ⟨v',w',h1,h2,h3,h4⟩
theorem wpList_append_bs {P:Program} {base:Nat} {w:World} {ops:Array Oper} {rest:List Oper} {o:Oper} {a:Act} {Q:Exit->Act->World->Prop} (hgd:o.guard=none) (s x:Operand) (t tx e:TypeId)
  (ho:o.op=.call { callee:=.builtin .append,args:= #[s,x],argTypes:= #[t,tx] })
  (i:TypeInfo) (z:Value) (ht:P.underlying t=some (.slice e)) (hi:P.info? e=some i) (hz:i.zero=some z) (hsize:i.size=1) (hby:i.bytes=1) (hzs:z.cells.size=1)
  {v:Value} {xs:List Value} (hv:a.eval s=v) (h:Bs base w v xs)
  (xv:Value) (n:Nat) (news:List Value) (hx:a.eval x=xv) (hs:Src P 1 tx xv n news w) (h63:xs.length+n<=140737488355328) (hbase:base<=w.heap.size)
  (hK:∀v' w',Bs base w' v' (xs++news)->w.grownBy w' v.ownBlock->(v'.ownBlock=v.ownBlock\/∃k,v'.ownBlock=some k/\w.heap.size<=k)->wpList P ops Q rest (a.put o.dst v') w'):wpList P ops Q (o :: rest) a w:=by
 refine wpList_plain hgd λK hK'=>?_
 obtain ⟨v',w',hrun,r,r2,r3⟩:=run_append_bs (P:=P) h t tx o.type e i z ht hi hz hsize hby hzs xv n news hs h63 hbase
 unfold Oper.wp
 simp [execOp,ho,resolve,invoke,builtin,hv,hx,hrun,Result.andThen]
 exact hK' _ _ (hK v' w' r r2 r3)

theorem wpList_append_bsK {P:Program} {base:Nat} {w:World} {ops:Array Oper} {rest:List Oper} {o:Oper} {a:Act} {Q:Exit->Act->World->Prop} (hgd:o.guard=none) (s x:Operand) (t tx e:TypeId)
  (ho:o.op=.call { callee:=.builtin .append,args:= #[s,x],argTypes:= #[t,tx] })
  (i:TypeInfo) (z:Value) (ht:P.underlying t=some (.slice e)) (hi:P.info? e=some i) (hz:i.zero=some z) (hsize:i.size=1) (hby:i.bytes=1) (hzs:z.cells.size=1)
  {v:Value} {xs:List Value} (hv:a.eval s=v) (h:Bs base w v xs)
  (xv:Value) (n:Nat) (news:List Value) (hx:a.eval x=xv) (hs:Src P 1 tx xv n news w) (h63:xs.length+n<=140737488355328) (hbase:base<=w.heap.size)
  (hK:∀v' w',Bs base w' v' (xs++news)->w.grownBy w' v.ownBlock->(v'.ownBlock=v.ownBlock\/∃k,v'.ownBlock=some k/\w.heap.size<=k)->(RowT e w v->RowT e w' v')->wpList P ops Q rest (a.put o.dst v') w'):wpList P ops Q (o :: rest) a w:=by
 refine wpList_plain hgd λK hK'=>?_
 obtain ⟨v',w',hrun,r,r2,r3,r4⟩:=run_append_bsK (P:=P) h t tx o.type e i z ht hi hz hsize hby hzs xv n news hs h63 hbase
 unfold Oper.wp
 simp [execOp,ho,resolve,invoke,builtin,hv,hx,hrun,Result.andThen]
 exact hK' _ _ (hK v' w' r r2 r3 r4)

theorem bs_of_string {P:Program} (w:World) (src dst e:TypeId) (s:ByteArray) {u:TypeDesc} (hs:P.underlying src=some u) (hd:P.underlying dst=some (.slice e)) (he:P.underlying e=some (.int .u8)) (hm:s.size<=maxLen):
  ∃v' w',(convert src dst (.string s)).run P w=.ok v' w'/\Bs w.heap.size w' v' (byteCells s)/\w.grownBy w' none:=by
 refine ⟨_,_,Lib.run_convert_string_bytes w src dst e s hs hd he,.inr ⟨w.heap.size,_,by rw [byteCells_length],Nat.le_refl _,by rw [Lib.bytesWorld_size];omega,by rw [byteCells_length];exact grownCap_ge _ _ _ _,grownCap_le_maxLen _ _ _ _ hm,λj u hu=>?_,λj hj=>⟨?_,?_⟩⟩,?_⟩
 ·have hj:=(List.getElem?_eq_some_iff.1 hu).1
  rw [byteCells_length] at hj
  rw [Lib.bytesWorld_cell w e s j hj]
  simp [byteCells] at hu
  obtain ⟨b,hb,rfl⟩:=hu
  simp [List.getD_eq_getElem?_getD,hb]
 ·have hsz:(Lib.bytesCells w e s).size=grownCap w s.size 0 e:=by
   have:=grownCap_ge w s.size 0 e
   have e0:s.data.size=s.size:=rfl
   simp [Lib.bytesCells,e0];omega
  simp [World.cell?,Lib.bytesWorld_at_new,hsz,hj]
 ·have hsz:(Lib.bytesCells w e s).size=grownCap w s.size 0 e:=by
   have:=grownCap_ge w s.size 0 e
   have e0:s.data.size=s.size:=rfl
   simp [Lib.bytesCells,e0];omega
  simp [World.frozen?,Lib.bytesWorld_at_new,hsz];omega
 ·exact ⟨rfl,rfl,rfl,by rw [Lib.bytesWorld_size];omega,λk hk _=>Lib.bytesWorld_at_old w e s k hk⟩

theorem run_string_of_bs {P:Program} {base:Nat} {w:World} {v:Value} {l:List UInt8} (h:Bs base w v (l.map λb=>Value.int .u8 b.toNat)) (src dst e:TypeId) (hs:P.underlying src=some (.slice e)) (he:P.underlying e=some (.int .u8)) (hd:P.underlying dst=some .string):
  (convert src dst v).run P w=.ok (.string ⟨l.toArray⟩) w:=by
 rcases h with ⟨rfl,hx⟩ | ⟨g,cap,rfl,_,_,_,_,hc,_⟩
 ·obtain rfl:l=[]:=by simpa using hx
  rw [run_convert_bytes_string w src dst e none 0 0 hs he hd]
  simp [Conv.bytesToString]
  rfl
 ·rw [List.length_map]
  exact run_convert_bytes_back w src dst e ⟨g,0,none⟩ cap l hs he hd (λj hj=>by
   rw [Addr.add_lit,Nat.zero_add]
   exact hc j _ (by simp [hj]))
end Go.Proofs.YtighkdnooglfjaaGreatDoor
namespace Go.Proofs.YtighkdnooglfjaaGreatDoor
open Go.RowKit

theorem info5:(Tryz.prog.info? 5).map (λi=>(i.zero,i.size,i.bytes))=some (some (.int .u8 0),1,1):=by kernel_rfl
def bc (l:List UInt8):List Value:=l.map λb=>Value.int .u8 b.toNat
theorem bc_length (l:List UInt8):(bc l).length=l.length:=by simp [bc]
theorem bc_append (l m:List UInt8):bc (l++m)=bc l++bc m:=by simp [bc]
def slen:Value->Nat
 | .slice _ n _=>n
 | _=>0
def zs (n:Nat):Nat:=(119 - n % 64) % 64
def be8 (n k:Nat):List UInt8:=(List.range k).map λj=>UInt8.ofNat (n / 2 ^ (56 - 8 * j))
theorem be8_step (pre:List UInt8) (n j:Nat):bc (pre++be8 (n * 8) (j+1))=bc (pre++be8 (n * 8) j)++[.int .u8 ((n:Int) * 8 / 2 ^ (56 - 8 * j) % 256)]:=by
 have h:be8 (n * 8) (j+1)=be8 (n * 8) j++[UInt8.ofNat (n * 8 / 2 ^ (56 - 8 * j))]:=by simp [be8,List.range_succ]
 rw [h,<-List.append_assoc,bc_append]
 congr 1
def padL (r:List UInt8) (n:Nat):List UInt8:=r++[128]++List.replicate (zs r.length) 0++be8 (n * 8) 8

set_option maxRecDepth 100000 in
set_option maxHeartbeats 400000 in
theorem pad_any (s:ByteArray) (n:Nat) (w:World) (hs:s.size<64) (hn:n<1152921504606846976):
  Calls Tryz.prog 278 #[.string s,.int .i64 n] w λe w'=>e=.returned (.string ⟨(padL s.data.toList n).toArray⟩)/\Below w.heap.size w w':=by
 obtain ⟨i0,hi,hz0,hz1,hz2⟩:=info_parts info5
 obtain ⟨v0,w0,hrun,hbs,hg⟩:=bs_of_string (P:=Tryz.prog) w 9 52 5 s Tryz.underlying9 Tryz.underlying52 Tryz.underlying5 (by simp [maxLen];omega)
 have hB0:Below w.heap.size w w0:=(Below.refl _ _).grown hg (Nat.le_refl _) (λ_ e=>by cases e)
 have hl0:(byteCells s).length=s.size:=byteCells_length s
 go_enter Tryz.func278,Tryz.ntmps278
 go_wp2_with (at_builtin;refine wpList_append_bs rfl _ _ 52 52 5 rfl i0 _ Tryz.underlying52 hi hz0 hz1 hz2 rfl rfl (hbs.alloc _) _ 1 [.int .u8 128] rfl (Src.ofSlice _ Tryz.underlying52 _ 1 1 _ rfl (cell_one_new _ _ _) (by simp [Value.oneCell'])) (by rw [hl0];omega) (by have:=hg.size;simp;omega) ?_;intro v1 w1 hbs1 hg1 _)
 have hbs1':Bs w.heap.size w1 v1 (bc (s.data.toList++[128]++List.replicate 0 0)):=by simpa [bc,byteCells] using hbs1
 have hB1:Below w.heap.size w w1:=by
  refine (hB0.alloc hB0.size _).grown hg1 (by have:=hB0.size;simp;omega) (λk e=>?_)
  exact (hbs.own k e).1
 clear hrun hg hl0 hbs1 hg1 hbs hB0
 go_loopw [5] (λv wr=>∃k:Nat,k<=zs s.size/\Bs w.heap.size wr v (bc (s.data.toList++[128]++List.replicate k 0))/\Below w.heap.size w wr) (λv _=>200 - slen v)
 case atStart=>exact ⟨0,Nat.zero_le _,hbs1',hB1⟩
 case round=>
  clear hbs1' hB1
  obtain ⟨k,hk,hb,hB⟩:=hrel
  have hL:(bc (s.data.toList++[128]++List.replicate k 0)).length=s.size+1+k:=by
   have:s.data.toList.length=s.size:=by simp
   rw [bc_length];simp;omega
  obtain ⟨a,c,rfl⟩:∃a c,u5=.slice a (s.size+1+k) c:=by rw [<-hL];exact hb.shape
  have hzs:zs s.size<64:=Nat.mod_lt _ (by omega)
  by_cases hk2:k<zs s.size
  ·have ht:(((s.size:Int)+1+(k:Int)) % 64 != 56)=true:=by
    rw [bne_iff_ne];unfold zs at hk2 hzs;omega
   have hsz:=hB.size
   go_wp2_with (at_builtin;refine wpList_append_bs rfl _ _ 52 52 5 rfl i0 _ Tryz.underlying52 hi hz0 hz1 hz2 rfl rfl (hb.alloc _) _ 1 [.int .u8 0] rfl (Src.ofSlice _ Tryz.underlying52 _ 1 1 _ rfl (cell_one_new _ _ _) (by simp [Value.oneCell'])) (by rw [hL];omega) (by simp;omega) ?_;intro v2 w2 hbs2 hg2 _)
   have hb2:Bs w.heap.size w2 v2 (bc (s.data.toList++[128]++List.replicate (k+1) 0)):=by
    have e:bc (s.data.toList++[128]++List.replicate (k+1) 0)=bc (s.data.toList++[128]++List.replicate k 0)++[.int .u8 0]:=by
     rw [List.replicate_succ',<-List.append_assoc,bc_append];rfl
    rw [e];exact hbs2
   have hB2:Below w.heap.size w w2:=(hB.alloc hB.size _).grown hg2 (by simp;omega) (λk e=>(hb.own k e).1)
   obtain ⟨a2,c2,hv2⟩:=hbs2.shape
   go_roundw
   case rel=>exact ⟨k+1,by omega,hb2,hB2⟩
   case measure=>
    have hL2:(bc (s.data.toList++[128]++List.replicate k 0)++[Value.int .u8 0]).length=s.size+1+k+1:=by rw [List.length_append,hL];rfl
    rw [hv2,hL2];simp [slen];omega
  ·have ht:((s.size:Int)+1+(k:Int)) % 64=56:=by unfold zs at hk2 hk hzs;omega
   have hkz:Hid (k=zs s.size):=(by omega:k=zs s.size)
   go_wp2
   have HE:Hid (s.data.toList++[128]++List.replicate k 0=s.data.toList++[128]++List.replicate (zs s.data.toList.length) 0):=by
    show _=_
    rw [hkz.out];simp
   generalize s.data.toList++[128]++List.replicate k 0=pre at *
   have hL0:pre.length=s.size+1+k:=by rw [<-bc_length];exact hL
   go_loopw [5,7] (λv i wr=>∃j:Nat,j<=8/\i=.int .i64 (56 - 8 * (j:Int))/\Bs w.heap.size wr v (bc (pre++be8 (n * 8) j))/\Below w.heap.size w wr) (λ_ i _=>(intOf i+8).toNat)
   case atStart=>exact ⟨0,by omega,rfl,by simpa [be8] using hb,hB⟩
   case round=>
    clear hb hB ht hL hk2 hkz
    obtain ⟨j,hj,rfl,hb,hB⟩:=hrel
    have hL:(bc (pre++be8 (n * 8) j)).length=s.size+1+k+j:=by rw [bc_length];simp [be8,hL0]
    by_cases hj2:j<8
    ·have hsz:=hB.size
     go_wp2_with (at_builtin;refine wpList_append_bs rfl _ _ 52 52 5 rfl i0 _ Tryz.underlying52 hi hz0 hz1 hz2 rfl rfl (hb.alloc _) _ 1 [_] rfl (Src.ofSlice _ Tryz.underlying52 _ 1 1 _ rfl (cell_one_new _ _ _) (by simp [Value.oneCell'])) (by rw [hL];omega) (by simp;omega) ?_;intro v2 w2 hbs2 hg2 _)
     have hb2:Bs w.heap.size w2 v2 (bc (pre++be8 (n * 8) (j+1))):=by rw [be8_step];exact hbs2
     have hB2:Below w.heap.size w w2:=(hB.alloc hB.size _).grown hg2 (by simp;omega) (λk e=>(hb.own k e).1)
     exact ⟨⟨j+1,by omega,congrArg (Value.int .i64) (by omega),hb2,hB2⟩,by simp only [intOf];omega⟩
    ·have hj8:Hid (j=8):=(by omega:j=8)
     have hstr:=run_string_of_bs (P:=Tryz.prog) hb 52 9 5 Tryz.underlying52 Tryz.underlying5 Tryz.underlying9
     have HE2:Hid (pre++be8 (n * 8) j=padL s.data.toList n):=by
      show _=_
      rw [hj8.out,HE.out];rfl
     generalize pre++be8 (n * 8) j=fin at *
     go_wp2
     go_ret
     exact ⟨by rw [<-HE2.out];rfl,hB⟩
end Go.Proofs.YtighkdnooglfjaaGreatDoor
namespace Go.Proofs.YtighkdnooglfjaaGreatDoor
open Go.RowKit

def byteOf (x:Int) (j:Nat):Int:=x / 2 ^ (24 - 8 * j) % 256
def S8.list (s:S8):List Int:=[s.a,s.b,s.c,s.d,s.e,s.f,s.g,s.h]
def asB (s:S8):Nat->List Int
 | 0=>[]
 | k+1=>asB s k++[byteOf (s.list.getD (k / 4) 0) (k % 4)]
theorem asB_length (s:S8) (k:Nat):(asB s k).length=k:=by
 induction k with
 | zero=>rfl
 | succ k ih=>simp [asB,ih]
theorem asB_step (s:S8) (k j:Nat) (hj:j<4):asB s (4 * k+(j+1))=asB s (4 * k+j)++[byteOf (s.list.getD k 0) j]:=by
 show asB s (4 * k+j)++[byteOf (s.list.getD ((4 * k+j) / 4) 0) ((4 * k+j) % 4)]=_
 rw [show (4 * k+j) / 4=k by omega,show (4 * k+j) % 4=j by omega]
def arr8 (l:List Int):Array Value:=(l.map (Value.int .u8)++List.replicate (32 - l.length) (Value.int .u8 0)).toArray
theorem arr8_old (l:List Int) (k:Nat) (hk:k<l.length):(arr8 l)[k]? =some (.int .u8 (l.getD k 0)):=by
 simp [arr8,List.getElem?_append,hk,List.getD_eq_getElem?_getD]
theorem arr8_new (l:List Int) (hk:l.length<32):(arr8 l)[l.length]? =some (.int .u8 0):=by
 have:¬32 - l.length=0:=by omega
 simp [arr8,List.getElem?_append,List.getElem?_replicate];omega
theorem arr8_set (l:List Int) (v:Int) (hk:l.length<32):(arr8 l).setIfInBounds l.length (.int .u8 v)=arr8 (l++[v]):=by
 obtain ⟨m,hm⟩:∃m,32 - l.length=m+1:=⟨31 - l.length,by omega⟩
 have hm':32 - (l++[v]).length=m:=by simp;omega
 unfold arr8
 rw [hm,hm',List.replicate_succ]
 simp [List.setIfInBounds_toArray]
theorem arr8_size (l:List Int) (h:l.length<=32):(arr8 l).size=32:=by simp [arr8];omega
theorem arr8_one (l:List Int):(arr8 l).all (·.oneCell')=true:=by
 rw [Array.all_eq_true_iff_forall_mem]
 intro v hv
 simp [arr8] at hv
 rcases hv with ⟨a,_,rfl⟩ | ⟨_,rfl⟩ <;> rfl
abbrev W3 (w:World) (o:Obj) (l:List Int):World:=((w.alloc o).alloc (.cells (arr8 []) 335)).alloc (.cells (arr8 l) 335)
theorem W3_heap (w:World) (o:Obj) (l:List Int):(W3 w o l).heap[w.heap.size+1+1]? =some (.cells (arr8 l) 335):=by
 have:=heap_alloc_new ((w.alloc o).alloc (.cells (arr8 []) 335)) (.cells (arr8 l) 335)
 simpa using this
theorem W3_new (w:World) (o:Obj) (l:List Int) (k:Nat) (hl:l.length=k) (hk:k<32):(W3 w o l).cell? ⟨w.heap.size+1+1,k,none⟩=some (.int .u8 0):=by
 subst hl;rw [cell_of_row _ _ _ _ _ _ (W3_heap w o l)];exact arr8_new l hk
theorem W3_frozen (w:World) (o:Obj) (l:List Int) (k:Nat):(W3 w o l).frozen? ⟨w.heap.size+1+1,k,none⟩=false:=frozen_of_row _ _ _ _ _ (W3_heap w o l)
theorem W3_set (w:World) (o:Obj) (l:List Int) (v:Int) (k:Nat) (hl:l.length=k) (hk:k<32):(W3 w o l).setCell ⟨w.heap.size+1+1,k,none⟩ (.int .u8 v)=W3 w o (l++[v]):=by
 subst hl
 rw [World.setCell_alloc_at _ _ _ _ _ (by simp),arr8_set l v hk]
theorem W3_below (w:World) (o:Obj) (l:List Int):Below w.heap.size w (W3 w o l):=
 (((Below.refl w.heap.size w).alloc (Nat.le_refl _) o).alloc (by simp) _).alloc (by simp;omega) _
theorem index8 (x0 x1 x2 x3 x4 x5 x6 x7:Int) (k:Nat) (hk:k<8) (w:World):
  (Instr.index 434 (.agg #[.int .u32 x0,.int .u32 x1,.int .u32 x2,.int .u32 x3,.int .u32 x4,.int .u32 x5,.int .u32 x6,.int .u32 x7]) (.int .i64 (k:Int))).run Tryz.prog w=.ok (.int .u32 ((S8.list ⟨x0,x1,x2,x3,x4,x5,x6,x7⟩).getD k 0)) w:=by
 obtain rfl | rfl | rfl | rfl | rfl | rfl | rfl | rfl:k=0\/k=1\/k=2\/k=3\/k=4\/k=5\/k=6\/k=7:=by omega
 all_goals kernel_rfl

set_option maxRecDepth 100000 in
set_option maxHeartbeats 400000 in
theorem asb_any (s:S8) (w:World):
  Calls Tryz.prog 279 #[s.val] w λe w'=>e=.returned (.agg (arr8 (asB s 32)))/\Below w.heap.size w w':=by
 obtain ⟨x0,x1,x2,x3,x4,x5,x6,x7⟩:=s
 unfold S8.val
 have hix:=index8 x0 x1 x2 x3 x4 x5 x6 x7
 go_enter Tryz.func279,Tryz.ntmps279
 go_wp2
 generalize hS:(⟨x0,x1,x2,x3,x4,x5,x6,x7⟩:S8)=S at *
 have HSS:Hid (_=S):=hS
 clear hS
 generalize hO:(Obj.cells #[.int .u32 x0,.int .u32 x1,.int .u32 x2,.int .u32 x3,.int .u32 x4,.int .u32 x5,.int .u32 x6,.int .u32 x7] 434)=O
 clear hO
 have HX:Hid (∀k:Nat,k<8->∀w,_):=hix
 clear hix
 go_loopw [8] (λi wr=>∃k:Nat,k<=8/\i=.int .i64 k/\wr=W3 w O (asB S (4 * k))) (λi _=>8 - (intOf i).toNat)
 case atStart=>exact ⟨0,by omega,rfl,rfl⟩
 case round=>
  obtain ⟨k,hk,rfl,rfl⟩:=hrel
  by_cases hlt:k<8
  ·have hx:=HX.out k hlt
   have HN:Hid (∀j:Nat,j<4->asB S (4 * k+(j+1))=asB S (4 * k+j)++[byteOf (S.list.getD k 0) j]):=λj hj=>asB_step S k j hj
   generalize S.list.getD k 0=x at hx HN
   have hd:decide ((k:Int)<8)=true:=by simp;omega
   go_wp2
   go_loopw [12] (λi wr=>∃j:Nat,j<=4/\i=.int .i64 j/\wr=W3 w O (asB S (4 * k+j))) (λi _=>4 - (intOf i).toNat)
   case atStart=>exact ⟨0,by omega,rfl,rfl⟩
   case round=>
    obtain ⟨j,hj,rfl,rfl⟩:=hrel
    by_cases hj2:j<4
    ·have hl:=asB_length S (4 * k+j)
     have hc:=W3_new w O (asB S (4 * k+j)) (4 * k+j) hl (by omega)
     have hf:=W3_frozen w O (asB S (4 * k+j)) (4 * k+j)
     have HS:Hid (∀v,(W3 w O (asB S (4 * k+j))).setCell ⟨w.heap.size+1+1,4 * k+j,none⟩ (.int .u8 v)=W3 w O (asB S (4 * k+j)++[v])):=λv=>W3_set w O (asB S (4 * k+j)) v (4 * k+j) hl (by omega)
     generalize hW:W3 w O (asB S (4 * k+j))=W at *
     clear hW hl hx
     go_wp2
     go_roundw
     case rel=>exact ⟨j+1,by omega,by go_num,by rw [HN.out j hj2];exact HS.out _⟩
     case measure=>simp [intOf];omega
    ·have HJ:Hid (4 * k+j=4 * (k+1)):=(by omega:4 * k+j=4 * (k+1))
     clear hx
     go_wp2
     go_roundw
     case rel=>exact ⟨k+1,by omega,by go_num,by rw [HJ.out]⟩
     case measure=>simp [intOf];omega
  ·have hk8:Hid (k=8):=(by omega:k=8)
   have hA:(arr8 (asB S (4 * k))).size=32:=arr8_size _ (by rw [asB_length];omega)
   have hA1:(arr8 (asB S (4 * k))).all (·.oneCell')=true:=arr8_one _
   have hG:=W3_heap w O (asB S (4 * k))
   have hG0:(W3 w O (asB S (4 * k))).heap[w.heap.size+1]? =some (.cells (arr8 []) 335):=by
    rw [Below.heap_alloc _ _ _ (by simp)]
    have:=heap_alloc_new (w.alloc O) (.cells (arr8 []) 335)
    simpa using this
   have hB:Below w.heap.size w (W3 w O (asB S (4 * k))):=W3_below _ _ _
   generalize W3 w O (asB S (4 * k))=W at *
   have HE:Hid (arr8 (asB S (4 * k))=arr8 (asB S 32)):=(by rw [hk8.out]:arr8 (asB S (4 * k))=arr8 (asB S 32))
   generalize arr8 (asB S (4 * k))=A at *
   have hi:(Tryz.prog.info? 335).map (·.size)=some A.size:=by rw [hA];kernel_rfl
   go_wp2_with (first | (refine wpList_load_row rfl 335 _ rfl (w.heap.size+1+1) rfl 335 A (0,0) (.array 32 5) hG Tryz.underlying335 rfl hi ?_) | (refine wpList_store_row rfl 335 _ _ rfl (w.heap.size+1) A rfl rfl 335 (arr8 []) hG0 hi (by rw [hA];rfl) hA1 ?_))
   refine bodyPost_ret (v:=.agg A) (results_cell_row Tryz.results279 _ _ (w.heap.size+1) 335 A (0,0) (.array 32 5) rfl (setRow_heap _ _ _ _ _ _ hG0) Tryz.underlying335 rfl hi) rfl ⟨by rw [HE.out,<-HSS.out],below_setRow hB (by omega) _⟩
end Go.Proofs.YtighkdnooglfjaaGreatDoor
