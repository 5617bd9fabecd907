import Derived.WalkSpells
import Derived.Deep.Upon
import Derived.Lib.ConvBytes
import Derived.Test.YtighkdnooglfjaaGreatDoorProg
import Derived.WalkLawsBesides
import Derived.BigQuiet
import Derived.Deep.RegionWith
namespace Go.Proofs.YtighkdnooglfjaaGreatDoor
open Go.RowKit

def Bs (base:Nat) (w:World) (v:Value) (xs:List Value):Prop:=
 (v=.slice none 0 0/\xs=[])\/
 ∃g cap,v=.slice (some ⟨g,0,none⟩) xs.length cap/\base<=g/\g<w.heap.size/\xs.length<=cap/\cap<=maxLen/\
  (∀j u,xs[j]? =some u->w.cell? ⟨g,j,none⟩=some u)/\∀j,j<cap->(w.cell? ⟨g,j,none⟩).isSome=true/\w.frozen? ⟨g,j,none⟩=false
theorem Bs.nil (base:Nat) (w:World):Bs base w (.slice none 0 0) []:=.inl ⟨rfl,rfl⟩
theorem Bs.shape {base:Nat} {w:World} {v:Value} {xs:List Value} (h:Bs base w v xs):∃a c,v=.slice a xs.length c:=by
 rcases h with ⟨rfl,rfl⟩ | ⟨g,cap,rfl,_⟩
 ·exact ⟨none,0,rfl⟩
 ·exact ⟨_,_,rfl⟩
theorem Bs.shape3 {base:Nat} {w:World} {v:Value} {xs:List Value} (h:Bs base w v xs):∃a m c,v=.slice a m c:=by
 obtain ⟨a,c,h⟩:=h.shape
 exact ⟨a,_,c,h⟩
theorem Bs.grown {base:Nat} {w w':World} {v:Value} {xs:List Value} {row:Option Nat} (h:Bs base w v xs) (hg:w.grownBy w' row) (hne:∀k,row=some k->k<base\/w.heap.size<=k):Bs base w' v xs:=by
 rcases h with h | ⟨g,cap,hv,hb,hlt,hle,hm,hc,hs⟩
 ·exact .inl h
 ·have hbk:w'.heap[g]? =w.heap[g]? :=hg.block g hlt (λe=>by rcases hne g e.symm with h1 | h1 <;> omega)
  refine .inr ⟨g,cap,hv,hb,Nat.lt_of_lt_of_le hlt hg.size,hle,hm,λj u hu=>?_,λj hj=>?_⟩
  ·rw [World.cell?_of_block (a:=⟨g,j,none⟩) hbk];exact hc j u hu
  ·rw [World.cell?_of_block (a:=⟨g,j,none⟩) hbk,World.frozen?_of_block (a:=⟨g,j,none⟩) hbk];exact hs j hj
theorem Bs.alloc {base:Nat} {w:World} {v:Value} {xs:List Value} (h:Bs base w v xs) (o:Obj):Bs base (w.alloc o) v xs:=
 h.grown (row:=none) (World.grownBy_alloc w o none) (λ_ e=>by cases e)
theorem Bs.drew {base:Nat} {w:World} {v:Value} {xs:List Value} (h:Bs base w v xs):Bs base w.drew v xs:=h
theorem Bs.own {base:Nat} {w:World} {v:Value} {xs:List Value} (h:Bs base w v xs):∀k,v.ownBlock=some k->base<=k/\k<w.heap.size:=by
 rcases h with ⟨rfl,rfl⟩ | ⟨g,cap,rfl,hb,hlt,_⟩
 ·intro k hk;cases hk
 ·intro k hk;cases hk;exact ⟨hb,hlt⟩

theorem Jay (g:Nat):∀(vs:List Value) (o:Nat) (w:World),(w.setCells g o vs).tape=w.tape
 | [],_,_=>rfl
 | v :: vs,o,w=>by
  rw [World.setCells,Jay g vs];rfl
def RowT (e:TypeId) (w:World) (v:Value):Prop:=∀k,v.ownBlock=some k->∃cur m,w.heap[k]? =some (.cells cur e m)
theorem YP (g:Nat):∀(vs:List Value) (o:Nat) (w:World) {cur:Array Value} {e:TypeId} {m:Nat×Nat},w.heap[g]? =some (.cells cur e m)->∃cur m,(w.setCells g o vs).heap[g]? =some (.cells cur e m)
 | [],_,_,_,_,_,h=>⟨_,_,h⟩
 | v :: vs,o,w,cur,e,m,h=>by
  rw [World.setCells]
  have h1:=setCell_eq_setRow w g o cur e m v h
  refine YP g vs _ _ (cur:=cur.setIfInBounds o v) (m:=m) ?_
  rw [h1]
  exact setRow_heap _ _ _ _ _ _ h
theorem ZW {P:Program} {base:Nat} {w:World} {v:Value} {xs:List Value} (h:Bs base w v xs)
  (t tx ty e:TypeId) (i:TypeInfo) (z:Value) (ht:P.underlying t=some (.slice e)) (hi:P.info? e=some i) (hz:i.zero=some z) (hsize:i.size=1) (hby:i.bytes=1) (hzs:z.cells.size=1)
  (x:Value) (n:Nat) (news:List Value) (hs:Src P 1 tx x n news w) (h63:xs.length+n<=140737488355328) (hbase:base<=w.heap.size):
  ∃v' w',(Builtin.append_ #[t,tx] ty #[v,x]).run P w=.ok v' w'/\Bs base w' v' (xs++news)/\w.grownBy w' v.ownBlock/\(v'.ownBlock=v.ownBlock\/∃k,v'.ownBlock=some k/\w.heap.size<=k)/\(RowT e w v->RowT e w' v'):=by
 have hnl:news.length=n:=by have:=hs.newsLen;omega
 have hml:xs.length+n<=maxLen:=by simp only [maxLen];omega
 have hsi:Src P i.size tx x n news w:=by rw [hsize];exact hs
 have grow:∀(bs:Option Addr) (sc:Nat),v=.slice bs xs.length sc->sc<xs.length+n->
   (Builtin.firstCells i.size xs.length (.slice bs xs.length sc)).run P w.drew=.ok xs.toArray w.drew->
   ∃v' w',(Builtin.append_ #[t,tx] ty #[v,x]).run P w=.ok v' w'/\Bs base w' v' (xs++news)/\w.grownBy w' v.ownBlock/\(v'.ownBlock=v.ownBlock\/∃k,v'.ownBlock=some k/\w.heap.size<=k)/\(RowT e w v->RowT e w' v'):=by
  rintro bs sc rfl hg hold
  have hrun:=run_append_grow_src (P:=P) w t tx ty e i z ht hi hz bs xs.length sc xs hold x n news hsi hg (by omega) (growslice_fits hg (by rw [hby];omega))
  have hge:=grownCap_ge w (xs.length+n) sc e
  have hcm:=grownCap_le_maxLen w (xs.length+n) sc e hml
  have hsz:((xs++news).toArray++Builtin.zeroCells z.cells (grownCap w (xs.length+n) sc e - (xs.length+n))).size=grownCap w (xs.length+n) sc e:=by
   rw [Array.size_append,List.size_toArray,size_zeroCells,hzs,List.length_append,hnl];omega
  refine ⟨_,_,hrun,.inr ⟨w.heap.size,_,by rw [List.length_append,hnl],hbase,by simp,by rw [List.length_append,hnl];exact hge,hcm,λj u hu=>?_,λj hj=>⟨?_,?_⟩⟩,⟨rfl,rfl,rfl,by simp,λk hk _=>Below.heap_alloc w.drew _ k hk⟩,.inr ⟨w.heap.size,rfl,Nat.le_refl _⟩,λ_ k hk=>by cases hk;exact ⟨_,_,heap_alloc_new w.drew _⟩⟩
  ·have hj:=(List.getElem?_eq_some_iff.1 hu).1
   have e1:=World.cell?_alloc_new w.drew ((xs++news).toArray++Builtin.zeroCells z.cells (grownCap w (xs.length+n) sc e - (xs.length+n))) e j
   refine (show _=_ from e1).trans ?_
   rw [Array.getElem?_append_left (by simpa using hj),List.getElem?_toArray];exact hu
  ·have e1:=World.cell?_alloc_new w.drew ((xs++news).toArray++Builtin.zeroCells z.cells (grownCap w (xs.length+n) sc e - (xs.length+n))) e j
   rw [show (w.drew.alloc _).cell? ⟨w.heap.size,j,none⟩=_ from e1,Array.getElem?_eq_getElem (by rw [hsz];exact hj)];rfl
  ·exact World.frozen?_alloc_new w.drew _ _ j
 rcases h with ⟨rfl,rfl⟩ | ⟨g,cap,rfl,hb,hlt,hle,hm,hc,hsp⟩
 ·rcases Nat.eq_zero_or_pos n with h0 | hpos
  ·subst h0
   obtain rfl:news=[]:=List.eq_nil_of_length_eq_zero hnl
   exact ⟨_,_,run_append_nothing (P:=P) w t tx ty e i ht hi none 0 0 (Nat.le_refl _) x hsi,.inl ⟨rfl,rfl⟩,World.grownBy.refl _ _,.inl rfl,λh=>h⟩
  ·exact grow none 0 rfl (by simpa using hpos) (run_firstCells_none w.drew i.size 0 0 0)
 ·by_cases hfit:xs.length+n<=cap
  ·have hsome:∀j,j<news.length->(w.cell? ⟨g,0+xs.length * i.size+j,none⟩).isSome=true:=λj hj=>by
    rw [hsize];simp only [Nat.zero_add,Nat.mul_one];exact (hsp _ (by omega)).1
   have hrun:=run_append_room_src (P:=P) w t tx ty e i ht hi g 0 xs.length cap x n news hsi hfit hsome
    (λj hj=>by rw [hsize];simp only [Nat.zero_add,Nat.mul_one];exact (hsp _ (by omega)).2)
   rw [hsize] at hrun hsome
   simp only [Nat.zero_add,Nat.mul_one] at hrun hsome
   have hin:∀j (hj:j<news.length),(w.setCells g xs.length news).cell? ⟨g,xs.length+j,none⟩=some news[j]:=World.cell?_setCells_in g news xs.length w hsome
   have hout:∀j,(j<xs.length\/xs.length+news.length<=j)->(w.setCells g xs.length news).cell? ⟨g,j,none⟩=w.cell? ⟨g,j,none⟩:=λj hj=>World.cell?_setCells_out g _ _ _ _ (λ_ _=>hj)
   have hk:=World.keptBut_setCells g (may:=λ_=>True) news xs.length w (λ_ _=>trivial)
   refine ⟨_,_,hrun,.inr ⟨g,cap,by rw [List.length_append,hnl],hb,Nat.lt_of_lt_of_le hlt hk.size,by rw [List.length_append,hnl];exact hfit,hm,λj u hu=>?_,λj hj=>⟨?_,(World.frozen?_setCells g _ _ _ _).trans (hsp j hj).2⟩⟩,?_,.inl rfl,λh k hk=>by cases hk;obtain ⟨cur,m,hr⟩:=h g rfl;exact YP g news _ w hr⟩
   ·by_cases hj:j<xs.length
    ·rw [List.getElem?_append_left hj] at hu
     rw [hout j (.inl hj)];exact hc j u hu
    ·rw [List.getElem?_append_right (by omega)] at hu
     obtain ⟨hj2,rfl⟩:=List.getElem?_eq_some_iff.1 hu
     have:=hin (j - xs.length) hj2
     rwa [show xs.length+(j - xs.length)=j by omega] at this
   ·by_cases hj2:xs.length<=j/\j<xs.length+news.length
    ·have:=hin (j - xs.length) (by omega)
     rw [show xs.length+(j - xs.length)=j by omega] at this
     rw [this];rfl
    ·rw [hout j (by omega)];exact (hsp j hj).1
   ·exact ⟨World.os_setCells _ _ _ _,Jay _ _ _ _,World.output_setCells _ _ _ _,hk.size,λk hk2 hne=>World.heap_setCells_other w g _ news hk2 (λe=>hne (by rw [e];rfl))⟩
  ·refine grow (some ⟨g,0,none⟩) cap rfl (by omega) ?_
   refine run_firstCells_some w.drew i.size xs.length ⟨g,0,none⟩ xs.length cap xs (by rw [hsize];omega) (λj u hu=>?_)
   rw [Addr.add_lit,Nat.zero_add]
   exact hc j u hu

theorem Jat {P:Program} {base:Nat} {w:World} {v:Value} {xs:List Value} (h:Bs base w v xs)
  (t tx ty e:TypeId) (i:TypeInfo) (z:Value) (ht:P.underlying t=some (.slice e)) (hi:P.info? e=some i) (hz:i.zero=some z) (hsize:i.size=1) (hby:i.bytes=1) (hzs:z.cells.size=1)
  (x:Value) (n:Nat) (news:List Value) (hs:Src P 1 tx x n news w) (h63:xs.length+n<=140737488355328) (hbase:base<=w.heap.size):
  ∃v' w',(Builtin.append_ #[t,tx] ty #[v,x]).run P w=.ok v' w'/\Bs base w' v' (xs++news)/\w.grownBy w' v.ownBlock/\(v'.ownBlock=v.ownBlock\/∃k,v'.ownBlock=some k/\w.heap.size<=k):=by
 obtain ⟨v',w',h1,h2,h3,h4,_⟩:=ZW h t tx ty e i z ht hi hz hsize hby hzs x n news hs h63 hbase
 exact ⟨v',w',h1,h2,h3,h4⟩
theorem Xq {P:Program} {base:Nat} {w:World} {ops:Array Oper} {rest:List Oper} {o:Oper} {a:Act} {Q:Exit->Act->World->Prop} (hgd:o.guard=none) (s x:Operand) (t tx e:TypeId)
  (ho:o.op=.call { callee:=.builtin .append,args:= #[s,x],argTypes:= #[t,tx] })
  (i:TypeInfo) (z:Value) (ht:P.underlying t=some (.slice e)) (hi:P.info? e=some i) (hz:i.zero=some z) (hsize:i.size=1) (hby:i.bytes=1) (hzs:z.cells.size=1)
  {v:Value} {xs:List Value} (hv:a.eval s=v) (h:Bs base w v xs)
  (xv:Value) (n:Nat) (news:List Value) (hx:a.eval x=xv) (hs:Src P 1 tx xv n news w) (h63:xs.length+n<=140737488355328) (hbase:base<=w.heap.size)
  (hK:∀v' w',Bs base w' v' (xs++news)->w.grownBy w' v.ownBlock->(v'.ownBlock=v.ownBlock\/∃k,v'.ownBlock=some k/\w.heap.size<=k)->wpList P ops Q rest (a.put o.dst v') w'):wpList P ops Q (o :: rest) a w:=by
 refine wpList_plain hgd λK hK'=>?_
 obtain ⟨v',w',hrun,r,r2,r3⟩:=Jat (P:=P) h t tx o.type e i z ht hi hz hsize hby hzs xv n news hs h63 hbase
 unfold Oper.wp
 simp [execOp,ho,resolve,invoke,builtin,hv,hx,hrun,Result.andThen]
 exact hK' _ _ (hK v' w' r r2 r3)

theorem Jbk {P:Program} {base:Nat} {w:World} {ops:Array Oper} {rest:List Oper} {o:Oper} {a:Act} {Q:Exit->Act->World->Prop} (hgd:o.guard=none) (s x:Operand) (t tx e:TypeId)
  (ho:o.op=.call { callee:=.builtin .append,args:= #[s,x],argTypes:= #[t,tx] })
  (i:TypeInfo) (z:Value) (ht:P.underlying t=some (.slice e)) (hi:P.info? e=some i) (hz:i.zero=some z) (hsize:i.size=1) (hby:i.bytes=1) (hzs:z.cells.size=1)
  {v:Value} {xs:List Value} (hv:a.eval s=v) (h:Bs base w v xs)
  (xv:Value) (n:Nat) (news:List Value) (hx:a.eval x=xv) (hs:Src P 1 tx xv n news w) (h63:xs.length+n<=140737488355328) (hbase:base<=w.heap.size)
  (hK:∀v' w',Bs base w' v' (xs++news)->w.grownBy w' v.ownBlock->(v'.ownBlock=v.ownBlock\/∃k,v'.ownBlock=some k/\w.heap.size<=k)->(RowT e w v->RowT e w' v')->wpList P ops Q rest (a.put o.dst v') w'):wpList P ops Q (o :: rest) a w:=by
 refine wpList_plain hgd λK hK'=>?_
 obtain ⟨v',w',hrun,r,r2,r3,r4⟩:=ZW (P:=P) h t tx o.type e i z ht hi hz hsize hby hzs xv n news hs h63 hbase
 unfold Oper.wp
 simp [execOp,ho,resolve,invoke,builtin,hv,hx,hrun,Result.andThen]
 exact hK' _ _ (hK v' w' r r2 r3 r4)

theorem Jd7 {P:Program} (w:World) (src dst e:TypeId) (s:ByteArray) {u:TypeDesc} (hs:P.underlying src=some u) (hd:P.underlying dst=some (.slice e)) (he:P.underlying e=some (.int .u8)) (hm:s.size<=maxLen):
  ∃v' w',(convert src dst (.string s)).run P w=.ok v' w'/\Bs w.heap.size w' v' (byteCells s)/\w.grownBy w' none:=by
 refine ⟨_,_,Lib.run_convert_string_bytes w src dst e s hs hd he,.inr ⟨w.heap.size,_,by rw [byteCells_length],Nat.le_refl _,by rw [Lib.bytesWorld_size];omega,by rw [byteCells_length];exact grownCap_ge _ _ _ _,grownCap_le_maxLen _ _ _ _ hm,λj u hu=>?_,λj hj=>⟨?_,?_⟩⟩,?_⟩
 ·have hj:=(List.getElem?_eq_some_iff.1 hu).1
  rw [byteCells_length] at hj
  rw [Lib.bytesWorld_cell w e s j hj]
  simp [byteCells] at hu
  obtain ⟨b,hb,rfl⟩:=hu
  simp [List.getD_eq_getElem?_getD,hb]
 ·have hsz:(Lib.bytesCells w e s).size=grownCap w s.size 0 e:=by
   have:=grownCap_ge w s.size 0 e
   have e0:s.data.size=s.size:=rfl
   simp [Lib.bytesCells,e0];omega
  simp [World.cell?,Lib.bytesWorld_at_new,hsz,hj]
 ·have hsz:(Lib.bytesCells w e s).size=grownCap w s.size 0 e:=by
   have:=grownCap_ge w s.size 0 e
   have e0:s.data.size=s.size:=rfl
   simp [Lib.bytesCells,e0];omega
  simp [World.frozen?,Lib.bytesWorld_at_new,hsz];omega
 ·exact ⟨rfl,rfl,rfl,by rw [Lib.bytesWorld_size];omega,λk hk _=>Lib.bytesWorld_at_old w e s k hk⟩

theorem XI {P:Program} {base:Nat} {w:World} {v:Value} {l:List UInt8} (h:Bs base w v (l.map λb=>Value.int .u8 b.toNat)) (src dst e:TypeId) (hs:P.underlying src=some (.slice e)) (he:P.underlying e=some (.int .u8)) (hd:P.underlying dst=some .string):
  (convert src dst v).run P w=.ok (.string ⟨l.toArray⟩) w:=by
 rcases h with ⟨rfl,hx⟩ | ⟨g,cap,rfl,_,_,_,_,hc,_⟩
 ·obtain rfl:l=[]:=by simpa using hx
  rw [run_convert_bytes_string w src dst e none 0 0 hs he hd]
  simp [Conv.bytesToString]
  rfl
 ·rw [List.length_map]
  exact run_convert_bytes_back w src dst e ⟨g,0,none⟩ cap l hs he hd (λj hj=>by
   rw [Addr.add_lit,Nat.zero_add]
   exact hc j _ (by simp [hj]))
open Tryz

def rr (n:Nat) (x:Int):Int:=bits .or .u32 (x * 2 ^ (32 - n) % 4294967296) (x / 2 ^ n)
theorem rot2 (x:Int) (w:World):
  Calls prog 338 #[.int .u32 x,.int .i64 (-2)] w λe w'=>e=.returned (.int .u32 (rr 2 x))/\w=w':=by
 have hs:bits .and .u64 (IntKind.u64.wrap (-2)) 31=30:=by decide
 go_enter func338,ntmps338
 go_wp2
 go_ret
 exact ⟨rfl,rfl⟩
theorem rot6 (x:Int) (w:World):
  Calls prog 338 #[.int .u32 x,.int .i64 (-6)] w λe w'=>e=.returned (.int .u32 (rr 6 x))/\w=w':=by
 have hs:bits .and .u64 (IntKind.u64.wrap (-6)) 31=26:=by decide
 go_enter func338,ntmps338
 go_wp2
 go_ret
 exact ⟨rfl,rfl⟩
theorem rot7 (x:Int) (w:World):
  Calls prog 338 #[.int .u32 x,.int .i64 (-7)] w λe w'=>e=.returned (.int .u32 (rr 7 x))/\w=w':=by
 have hs:bits .and .u64 (IntKind.u64.wrap (-7)) 31=25:=by decide
 go_enter func338,ntmps338
 go_wp2
 go_ret
 exact ⟨rfl,rfl⟩
theorem JmK (x:Int) (w:World):
  Calls prog 338 #[.int .u32 x,.int .i64 (-11)] w λe w'=>e=.returned (.int .u32 (rr 11 x))/\w=w':=by
 have hs:bits .and .u64 (IntKind.u64.wrap (-11)) 31=21:=by decide
 go_enter func338,ntmps338
 go_wp2
 go_ret
 exact ⟨rfl,rfl⟩
theorem JmL (x:Int) (w:World):
  Calls prog 338 #[.int .u32 x,.int .i64 (-13)] w λe w'=>e=.returned (.int .u32 (rr 13 x))/\w=w':=by
 have hs:bits .and .u64 (IntKind.u64.wrap (-13)) 31=19:=by decide
 go_enter func338,ntmps338
 go_wp2
 go_ret
 exact ⟨rfl,rfl⟩
theorem JmM (x:Int) (w:World):
  Calls prog 338 #[.int .u32 x,.int .i64 (-17)] w λe w'=>e=.returned (.int .u32 (rr 17 x))/\w=w':=by
 have hs:bits .and .u64 (IntKind.u64.wrap (-17)) 31=15:=by decide
 go_enter func338,ntmps338
 go_wp2
 go_ret
 exact ⟨rfl,rfl⟩
theorem JmN (x:Int) (w:World):
  Calls prog 338 #[.int .u32 x,.int .i64 (-18)] w λe w'=>e=.returned (.int .u32 (rr 18 x))/\w=w':=by
 have hs:bits .and .u64 (IntKind.u64.wrap (-18)) 31=14:=by decide
 go_enter func338,ntmps338
 go_wp2
 go_ret
 exact ⟨rfl,rfl⟩
theorem JmO (x:Int) (w:World):
  Calls prog 338 #[.int .u32 x,.int .i64 (-19)] w λe w'=>e=.returned (.int .u32 (rr 19 x))/\w=w':=by
 have hs:bits .and .u64 (IntKind.u64.wrap (-19)) 31=13:=by decide
 go_enter func338,ntmps338
 go_wp2
 go_ret
 exact ⟨rfl,rfl⟩
theorem JmP (x:Int) (w:World):
  Calls prog 338 #[.int .u32 x,.int .i64 (-22)] w λe w'=>e=.returned (.int .u32 (rr 22 x))/\w=w':=by
 have hs:bits .and .u64 (IntKind.u64.wrap (-22)) 31=10:=by decide
 go_enter func338,ntmps338
 go_wp2
 go_ret
 exact ⟨rfl,rfl⟩
theorem JmQ (x:Int) (w:World):
  Calls prog 338 #[.int .u32 x,.int .i64 (-25)] w λe w'=>e=.returned (.int .u32 (rr 25 x))/\w=w':=by
 have hs:bits .and .u64 (IntKind.u64.wrap (-25)) 31=7:=by decide
 go_enter func338,ntmps338
 go_wp2
 go_ret
 exact ⟨rfl,rfl⟩
set_option maxRecDepth 100000
set_option maxHeartbeats 1000000

def sg0 (x:Int):Int:=bits .xor .u32 (bits .xor .u32 (rr 7 x) (rr 18 x)) (x / 8)
def sg1 (x:Int):Int:=bits .xor .u32 (bits .xor .u32 (rr 17 x) (rr 19 x)) (x / 1024)
def word (b0 b1 b2 b3:UInt8):Int:=
 bits .or .u32 (bits .or .u32 (bits .or .u32 ((b0.toNat:Int) % 4294967296 * 16777216 % 4294967296) ((b1.toNat:Int) % 4294967296 * 65536 % 4294967296)) ((b2.toNat:Int) % 4294967296 * 256 % 4294967296)) ((b3.toNat:Int) % 4294967296)
def nxW (b:List UInt8) (k:Nat) (l:List Int):Int:=
 if k<16 then word (b.getD (4 * k) 0) (b.getD (4 * k+1) 0) (b.getD (4 * k+2) 0) (b.getD (4 * k+3) 0)
 else (l.getD (k - 16) 0+sg0 (l.getD (k - 15) 0)+l.getD (k - 7) 0+sg1 (l.getD (k - 2) 0)) % 4294967296
def stW (b:List UInt8) (k:Nat) (l:List Int):List Int:=l++[nxW b k l]
def Wl (b:List UInt8):Nat->List Int
 | 0=>[]
 | k+1=>stW b k (Wl b k)
theorem Xm (b:List UInt8) (k:Nat):(Wl b k).length=k:=by
 induction k with
 | zero=>rfl
 | succ k ih=>simp [Wl,stW,ih]
def arr (l:List Int):Array Value:=(l.map (Value.int .u32)++List.replicate (64 - l.length) (Value.int .u32 0)).toArray
theorem JgH (l:List Int) (k:Nat) (hk:k<l.length):(arr l)[k]? =some (.int .u32 (l.getD k 0)):=by
 simp [arr,List.getElem?_append,hk,List.getD_eq_getElem?_getD]
theorem Jkl (l:List Int) (hk:l.length<64):(arr l)[l.length]? =some (.int .u32 0):=by
 have:¬64 - l.length=0:=by omega
 simp [arr,List.getElem?_append,List.getElem?_replicate];omega
theorem Jkm (l:List Int) (v:Int) (hk:l.length<64):(arr l).setIfInBounds l.length (.int .u32 v)=arr (l++[v]):=by
 obtain ⟨m,hm⟩:∃m,64 - l.length=m+1:=⟨63 - l.length,by omega⟩
 have hm':64 - (l++[v]).length=m:=by simp;omega
 unfold arr
 rw [hm,hm',List.replicate_succ]
 simp [List.setIfInBounds_toArray]
abbrev W2 (w:World) (l:List Int) (n:Nat):World:=((w.alloc (.cells (arr []) 486)).alloc (.cells (arr l) 486)).drewN n
theorem Jb7 (w:World) (l:List Int) (n:Nat):(W2 w l n).heap[w.heap.size+1]? =some (.cells (arr l) 486):=heap_alloc2_new _ _ _
theorem Jb6 (w:World) (l:List Int) (k n:Nat) (hk:k<l.length):(W2 w l n).cell? ⟨w.heap.size+1,k,none⟩=some (.int .u32 (l.getD k 0)):=by
 rw [cell_of_row _ _ _ _ _ _ (Jb7 w l n)];exact JgH l k hk
theorem Jiq (w:World) (l:List Int) (k n:Nat) (hl:l.length=k) (hk:k<64):(W2 w l n).cell? ⟨w.heap.size+1,k,none⟩=some (.int .u32 0):=by
 subst hl;rw [cell_of_row _ _ _ _ _ _ (Jb7 w l n)];exact Jkl l hk
theorem Jdn (w:World) (l:List Int) (k n:Nat):(W2 w l n).frozen? ⟨w.heap.size+1,k,none⟩=false:=frozen_of_row _ _ _ _ _ (Jb7 w l n)
theorem Jir (w:World) (l:List Int) (v:Int) (k n:Nat) (hl:l.length=k) (hk:k<64):(W2 w l n).setCell ⟨w.heap.size+1,k,none⟩ (.int .u32 v)=W2 w (l++[v]) n:=by
 subst hl
 show ((((w.alloc (.cells (arr []) 486)).alloc (.cells (arr l) 486))).setCell ⟨w.heap.size+1,l.length,none⟩ (.int .u32 v)).drewN n=_
 rw [World.setCell_alloc_at _ _ _ _ _ (by simp),Jkm l v hk]
theorem JeL (l:List Int) (h:l.length<=64):(arr l).size=64:=by simp [arr];omega
theorem JgI (l:List Int):(arr l).all (·.oneCell')=true:=by
 rw [Array.all_eq_true_iff_forall_mem]
 intro v hv
 simp [arr] at hv
 rcases hv with ⟨a,_,rfl⟩ | ⟨_,rfl⟩ <;> rfl
theorem Jip (w:World) (l:List Int) (n:Nat):Below w.heap.size w (W2 w l n):=by
 have h:=((Below.refl w.heap.size w).alloc (Nat.le_refl _) (.cells (arr []) 486)).alloc (by simp) (.cells (arr l) 486)
 exact ⟨h.os,h.tape,h.output,h.size,h.block⟩
theorem Xt {B:Nat} {a w:World} (h:Below B a w) {g:Nat} (hg:B<=g) (cs:Array Value):Below B a (w.setRow g cs):=
 ⟨h.os,h.tape,h.output,by simp;exact h.size,λk hk=>by rw [setRow_other _ _ _ _ (by omega)];exact h.block k hk⟩
theorem Jca (b:ByteArray) (k j:Nat) (hb:b.size=64) (hk:k<16) (hj:j<4) (h:j<(b.extract (4 * k) (4 * k+4)).size):(b.extract (4 * k) (4 * k+4))[j]=b.data.toList.getD (4 * k+j) 0:=by
 have h2:4 * k+j<b.data.size:=by have:b.data.size=64:=hb;omega
 rw [ByteArray.getElem_eq_getElem_data]
 simp only [ByteArray.data_extract,List.getD_eq_getElem?_getD,Array.getElem_extract,Array.getElem?_toList]
 rw [Array.getElem?_eq_getElem h2];rfl

theorem JhZ (b:ByteArray) (w:World) (hb:b.size=64):
  Calls prog 337 #[.string b] w λe w'=>e=.returned (.agg (arr (Wl b.data.toList 64)))/\Below w.heap.size w w':=by
 go_enter func337,ntmps337
 go_wp2
 go_loopw [11] (λi wr=>∃k n:Nat,k<=16/\i=.int .i64 k/\wr=W2 w (Wl b.data.toList k) n) (λi _=>16 - (intOf i).toNat)
 case atStart=>
  exact ⟨0,0,by omega,rfl,rfl⟩
 case round=>
  obtain ⟨k,n,hk,rfl,rfl⟩:=hrel
  by_cases hlt:k<16
  ·go_wp2
   have hl:=Xm b.data.toList k
   have hc:=Jiq w (Wl b.data.toList k) k n hl (by omega)
   have hf:=Jdn w (Wl b.data.toList k) k n
   have hp:(b.extract (4 * k) (4 * k+4)).size=4:=by simp;omega
   have hs:=λv=>Jir w (Wl b.data.toList k) v k n hl (by omega)
   obtain ⟨p,hp,hpe,hw⟩:∃p:ByteArray,∃hp:p.size=4,b.extract (4 * k) (4 * k+4)=p/\nxW b.data.toList k (Wl b.data.toList k)=word p[0] p[1] p[2] p[3]:=by
    refine ⟨_,hp,rfl,?_⟩
    rw [Jca b k 0 hb hlt (by omega),Jca b k 1 hb hlt (by omega),Jca b k 2 hb hlt (by omega),Jca b k 3 hb hlt (by omega)]
    simp [nxW,hlt]
   rw [hpe]
   have HW:Hid (Wl b.data.toList (k+1)=Wl b.data.toList k++[word p[0] p[1] p[2] p[3]]):=by rw [<-hw];rfl
   have HS:Hid _:=hs
   clear hw hs hl hpe
   generalize hW:W2 w (Wl b.data.toList k) n=W at *
   clear hW
   go_region
   go_wp2
   go_roundw
   case rel=>exact ⟨k+1,n+1,by omega,by go_num,by rw [HW.out];exact congrArg World.drew (HS.out _)⟩
   case measure=>simp [intOf];omega
  ·have hk16:Hid (k=16):=(by omega:k=16)
   go_wp2
   go_loopw [6] (λi wr=>∃k n:Nat,16<=k/\k<=64/\i=.int .i64 k/\wr=W2 w (Wl b.data.toList k) n) (λi _=>64 - (intOf i).toNat)
   case atStart=>exact ⟨16,n,by omega,by omega,rfl,by rw [hk16.out]⟩
   case round=>
    clear hlt hk hk16
    obtain ⟨k,n,h16,hk,rfl,rfl⟩:=hrel
    by_cases hlt:k<64
    ·have hl:=Xm b.data.toList k
     have hc:=Jiq w (Wl b.data.toList k) k n hl (by omega)
     have hf:=Jdn w (Wl b.data.toList k) k n
     have h2:=Jb6 w (Wl b.data.toList k) (k - 2) n (by omega)
     have h7:=Jb6 w (Wl b.data.toList k) (k - 7) n (by omega)
     have h15:=Jb6 w (Wl b.data.toList k) (k - 15) n (by omega)
     have h16':=Jb6 w (Wl b.data.toList k) (k - 16) n (by omega)
     have HS:Hid (∀v,(W2 w (Wl b.data.toList k) n).setCell ⟨w.heap.size+1,k,none⟩ (.int .u32 v)=W2 w (Wl b.data.toList k++[v]) n):=λv=>Jir w (Wl b.data.toList k) v k n hl (by omega)
     have HW:Hid (Wl b.data.toList (k+1)=Wl b.data.toList k++[((Wl b.data.toList k).getD (k - 16) 0+sg0 ((Wl b.data.toList k).getD (k - 15) 0)+(Wl b.data.toList k).getD (k - 7) 0+sg1 ((Wl b.data.toList k).getD (k - 2) 0)) % 4294967296]):=by
      show stW b.data.toList k _=_
      simp [stW,nxW,show ¬k<16 by omega]
     generalize (Wl b.data.toList k).getD (k - 2) 0=x2 at *
     generalize (Wl b.data.toList k).getD (k - 7) 0=x7 at *
     generalize (Wl b.data.toList k).getD (k - 15) 0=x15 at *
     generalize (Wl b.data.toList k).getD (k - 16) 0=x16 at *
     generalize hW:W2 w (Wl b.data.toList k) n=W at *
     clear hW hl
     go_wp2
     go_region
     go_wp2_with fail
     refine (rot7 _ _).mono ?_
     rintro e w' ⟨rfl,rfl⟩
     go_wp2_with fail
     refine (JmN _ _).mono ?_
     rintro e w' ⟨rfl,rfl⟩
     go_wp2_with fail
     refine (JmM _ _).mono ?_
     rintro e w' ⟨rfl,rfl⟩
     go_wp2_with fail
     refine (JmO _ _).mono ?_
     rintro e w' ⟨rfl,rfl⟩
     go_wp2_with fail
     go_region
     go_wp2
     go_roundw
     case rel=>exact ⟨k+1,n+2,by omega,by omega,by go_num,by rw [HW.out];exact congrArg (λx=>World.drew (World.drew x)) (HS.out _)⟩
     case measure=>simp [intOf];omega
    ·have hk64:Hid (k=64):=(by omega:k=64)
     have hA:(arr (Wl b.data.toList k)).size=64:=JeL _ (by rw [Xm];omega)
     have hA1:(arr (Wl b.data.toList k)).all (·.oneCell')=true:=JgI _
     have hG:=Jb7 w (Wl b.data.toList k) n
     have hG0:(W2 w (Wl b.data.toList k) n).heap[w.heap.size]? =some (.cells (arr []) 486):=heap_alloc2_old _ _ _
     have hB:Below w.heap.size w (W2 w (Wl b.data.toList k) n):=Jip _ _ _
     generalize W2 w (Wl b.data.toList k) n=W at *
     have HE:Hid (arr (Wl b.data.toList k)=arr (Wl b.data.toList 64)):=(by rw [hk64.out]:arr (Wl b.data.toList k)=arr (Wl b.data.toList 64))
     generalize arr (Wl b.data.toList k)=A at *
     have hi:(prog.info? 486).map (·.size)=some A.size:=by rw [hA];kernel_rfl
     go_wp2_with (first | (refine wpList_load_row rfl 486 _ rfl (w.heap.size+1) rfl 486 A (0,0) (.array 64 429) hG underlying486 rfl hi ?_) | (refine wpList_store_row rfl 486 _ _ rfl w.heap.size A rfl rfl 486 (arr []) hG0 hi (by rw [hA];rfl) hA1 ?_))
     refine bodyPost_ret (v:=.agg A) (results_cell_row results337 _ _ w.heap.size 486 A (0,0) (.array 64 429) rfl (setRow_heap _ _ _ _ _ _ hG0) underlying486 rfl hi) rfl ⟨by rw [HE.out],Xt hB (Nat.le_refl _) _⟩

def Ks:List Int:=[1116352408,1899447441,3049323471,3921009573,961987163,1508970993,2453635748,2870763221,3624381080,310598401,607225278,1426881987,1925078388,2162078206,2614888103,3248222580,3835390401,4022224774,264347078,604807628,770255983,1249150122,1555081692,1996064986,2554220882,2821834349,2952996808,3210313671,3336571891,3584528711,113926993,338241895,666307205,773529912,1294757372,1396182291,1695183700,1986661051,2177026350,2456956037,2730485921,2820302411,3259730800,3345764771,3516065817,3600352804,4094571909,275423344,430227734,506948616,659060556,883997877,958139571,1322822218,1537002063,1747873779,1955562222,2024104815,2227730452,2361852424,2428436474,2756734187,3204031479,3329325298]
structure S8 where
 a:Int
 b:Int
 c:Int
 d:Int
 e:Int
 f:Int
 g:Int
 h:Int
def S8.val (s:S8):Value:=.agg #[.int .u32 s.a,.int .u32 s.b,.int .u32 s.c,.int .u32 s.d,.int .u32 s.e,.int .u32 s.f,.int .u32 s.g,.int .u32 s.h]
def t1 (k w:Int) (s:S8):Int:=
 s.h+bits .xor .u32 (bits .xor .u32 (rr 6 s.e) (rr 11 s.e)) (rr 25 s.e)+bits .xor .u32 (bits .and .u32 s.e s.f) (bits .and .u32 (bits .xor .u32 IntKind.u32.max s.e) s.g)+k+w
def maj (s:S8):Int:=bits .xor .u32 (bits .xor .u32 (bits .and .u32 s.a s.b) (bits .and .u32 s.a s.c)) (bits .and .u32 s.b s.c)
def rnd (k w:Int) (s:S8):S8:=
 ⟨((t1 k w s+bits .xor .u32 (bits .xor .u32 (rr 2 s.a) (rr 13 s.a)) (rr 22 s.a)) % 4294967296+maj s) % 4294967296,s.a,s.b,s.c,(s.d+t1 k w s % 4294967296) % 4294967296,s.e,s.f,s.g⟩
def addS (s t:S8):S8:=⟨(s.a+t.a) % 4294967296,(s.b+t.b) % 4294967296,(s.c+t.c) % 4294967296,(s.d+t.d) % 4294967296,(s.e+t.e) % 4294967296,(s.f+t.f) % 4294967296,(s.g+t.g) % 4294967296,(s.h+t.h) % 4294967296⟩
def to (ws:List Int) (s:S8):Nat->S8
 | 0=>s
 | k+1=>rnd (Ks.getD k 0) (ws.getD k 0) (to ws s k)
def comp (s:S8) (b:List UInt8):S8:=addS s (to (Wl b 64) s 64)
theorem all8 (x0 x1 x2 x3 x4 x5 x6 x7:Int):(#[Value.int .u32 x0,.int .u32 x1,.int .u32 x2,.int .u32 x3,.int .u32 x4,.int .u32 x5,.int .u32 x6,.int .u32 x7]).all (·.oneCell')=true:=by
 simp [Value.oneCell']
theorem Jmu {W w1:World} (hb:Below W.heap.size W w1):(∀b o,b<W.heap.size->w1.cell? ⟨b,o,none⟩=W.cell? ⟨b,o,none⟩)/\(∀b o,b<W.heap.size->w1.frozen? ⟨b,o,none⟩=W.frozen? ⟨b,o,none⟩):=
 ⟨λb o h=>hb.cell (p:=⟨b,o,none⟩) h,λb o h=>hb.frozen (p:=⟨b,o,none⟩) h⟩

theorem JeT (s:S8) (b:ByteArray) (w:World) (hb:b.size=64) (h7:13<w.heap.size) (hT:∀i,i<64->w.cell? ⟨13,i,none⟩=some (.int .u32 (Ks.getD i 0))):
  Calls prog 277 #[s.val,.string b] w λe w'=>e=.returned (comp s b.data.toList).val/\Below w.heap.size w w':=by
 obtain ⟨x0,x1,x2,x3,x4,x5,x6,x7⟩:=s
 have HT:Hid _:=hT
 clear hT
 unfold S8.val
 go_enter func277,ntmps277
 go_wp2_with fail
 refine (JhZ _ _ hb).mono ?_
 rintro _ w1 ⟨rfl,hB⟩
 obtain ⟨hc,hf⟩:=Jmu hB
 have hA:(arr (Wl b.data.toList 64)).size=64:=JeL _ (by rw [Xm];omega)
 have hA1:(arr (Wl b.data.toList 64)).all (·.oneCell')=true:=JgI _
 have hAc:Hid (∀i,i<64->(arr (Wl b.data.toList 64))[i]? =some (.int .u32 ((Wl b.data.toList 64).getD i 0))):=λi hi=>JgH _ _ (by rw [Xm];exact hi)
 generalize arr (Wl b.data.toList 64)=A at *
 have hi:(prog.info? 486).map (·.size)=some A.size:=by rw [hA];kernel_rfl
 go_wp2_with (refine wpList_store_row rfl 486 _ _ rfl w1.heap.size A rfl rfl 486 _ (heap_alloc_new _ _) hi (by rw [hA];rfl) hA1 ?_)
 generalize hWc:(World.alloc w1 _).setRow w1.heap.size A=Wc
 have hz:w.heap.size+1<w1.heap.size:=by have:=hB.size;simp at this;omega
 have hB0:Below w.heap.size w w1:=(((Below.refl _ _).alloc (Nat.le_refl _) _).alloc (by simp) _).trans (hB.mono (by simp;omega))
 have hBc:Below w.heap.size w Wc:=by rw [<-hWc];exact Xt (hB0.alloc hB0.size _) hB0.size _
 have hbk:∀k,k<w1.heap.size->Wc.heap[k]? =w1.heap[k]? :=λk hk=>by rw [<-hWc,setRow_other _ _ _ _ (by omega),Below.heap_alloc _ _ _ hk]
 have hw:Wc.heap[w1.heap.size]? =some (.cells A 486):=by rw [<-hWc];exact setRow_heap _ _ _ _ _ _ (heap_alloc_new _ _)
 have HAc:Hid (∀i,i<64->Wc.cell? ⟨w1.heap.size,i,none⟩=some (.int .u32 ((Wl b.data.toList 64).getD i 0))):=λi hi=>by rw [cell_of_row _ _ _ _ _ _ hw];exact hAc.out i hi
 have hTc:Hid (∀i,i<64->Wc.cell? ⟨13,i,none⟩=some (.int .u32 (Ks.getD i 0))):=λi hi=>by rw [hBc.cell (p:=⟨13,i,none⟩) h7];exact HT.out i hi
 have hh:Wc.heap[w.heap.size]? =some (.cells #[.int .u32 x0,.int .u32 x1,.int .u32 x2,.int .u32 x3,.int .u32 x4,.int .u32 x5,.int .u32 x6,.int .u32 x7] 434):=by
  rw [hbk _ (by omega),hB.block _ (by simp;omega),heap_alloc2_old]
 have hr:Wc.heap[w.heap.size+1]? =some (.cells #[.int .u32 0,.int .u32 0,.int .u32 0,.int .u32 0,.int .u32 0,.int .u32 0,.int .u32 0,.int .u32 0] 434):=by
  rw [hbk _ (by omega),hB.block _ (by simp),heap_alloc2_new]
 clear hc hf hA hA1 hAc hi hWc hB hB0 hbk hw HT
 have g0:Wc.cell? ⟨w.heap.size,0,none⟩=some (.int .u32 x0):=cell_of_row _ _ _ _ _ _ hh
 have g1:Wc.cell? ⟨w.heap.size,1,none⟩=some (.int .u32 x1):=cell_of_row _ _ _ _ _ _ hh
 have g2:Wc.cell? ⟨w.heap.size,2,none⟩=some (.int .u32 x2):=cell_of_row _ _ _ _ _ _ hh
 have g3:Wc.cell? ⟨w.heap.size,3,none⟩=some (.int .u32 x3):=cell_of_row _ _ _ _ _ _ hh
 have g4:Wc.cell? ⟨w.heap.size,4,none⟩=some (.int .u32 x4):=cell_of_row _ _ _ _ _ _ hh
 have g5:Wc.cell? ⟨w.heap.size,5,none⟩=some (.int .u32 x5):=cell_of_row _ _ _ _ _ _ hh
 have g6:Wc.cell? ⟨w.heap.size,6,none⟩=some (.int .u32 x6):=cell_of_row _ _ _ _ _ _ hh
 have g7:Wc.cell? ⟨w.heap.size,7,none⟩=some (.int .u32 x7):=cell_of_row _ _ _ _ _ _ hh
 have Hr:Hid (_=_):=hr
 have Hh:Hid (_=_):=hh
 clear hh hr
 go_quiet (fail)
 go_wp2
 clear g0 g1 g2 g3 g4 g5 g6 g7
 generalize hS:(⟨x0,x1,x2,x3,x4,x5,x6,x7⟩:S8)=S
 go_loopw [6,7,8,9,10,11,12,13,38] (λva vb vc vd ve vf vg vh i wr=>∃k n:Nat,k<=64/\i=.int .i64 k/\va=.int .u32 (to (Wl b.data.toList 64) S k).a/\vb=.int .u32 (to (Wl b.data.toList 64) S k).b/\vc=.int .u32 (to (Wl b.data.toList 64) S k).c/\vd=.int .u32 (to (Wl b.data.toList 64) S k).d/\ve=.int .u32 (to (Wl b.data.toList 64) S k).e/\vf=.int .u32 (to (Wl b.data.toList 64) S k).f/\vg=.int .u32 (to (Wl b.data.toList 64) S k).g/\vh=.int .u32 (to (Wl b.data.toList 64) S k).h/\wr=Wc.drewN n) (λ_ _ _ _ _ _ _ _ i _=>64 - (intOf i).toNat)
 case atStart=>subst hS;exact ⟨0,_,by omega,rfl,rfl,rfl,rfl,rfl,rfl,rfl,rfl,rfl,rfl⟩
 case round=>
  obtain ⟨k,n,hk,rfl,rfl,rfl,rfl,rfl,rfl,rfl,rfl,rfl,rfl⟩:=hrel
  by_cases hlt:k<64
  ·have c1:=HAc.out k hlt
   have c2:=hTc.out k hlt
   have hst:to (Wl b.data.toList 64) S (k+1)=rnd (Ks.getD k 0) ((Wl b.data.toList 64).getD k 0) (to (Wl b.data.toList 64) S k):=rfl
   have Hst:Hid (_=_):=hst
   clear hst
   generalize to (Wl b.data.toList 64) S k=T0 at *
   generalize (Wl b.data.toList 64).getD k 0=ww at *
   generalize Ks.getD k 0=kk at *
   obtain ⟨ta,tb,tc,td,te,tf,tg,th⟩:=T0
   dsimp only
   go_wp2_with fail
   refine (rot6 _ _).mono ?_
   rintro _ _ ⟨rfl,rfl⟩
   go_wp2_with fail
   refine (JmK _ _).mono ?_
   rintro _ _ ⟨rfl,rfl⟩
   go_wp2_with fail
   refine (JmQ _ _).mono ?_
   rintro _ _ ⟨rfl,rfl⟩
   go_wp2_with fail
   go_quiet (fail)
   go_wp2_with fail
   refine (rot2 _ _).mono ?_
   rintro _ _ ⟨rfl,rfl⟩
   go_wp2_with fail
   refine (JmL _ _).mono ?_
   rintro _ _ ⟨rfl,rfl⟩
   go_wp2_with fail
   refine (JmP _ _).mono ?_
   rintro _ _ ⟨rfl,rfl⟩
   go_wp2
   go_roundw
   case rel=>exact ⟨k+1,_,by omega,by go_num,by rw [Hst.out];rfl,by rw [Hst.out];rfl,by rw [Hst.out];rfl,by rw [Hst.out];rfl,by rw [Hst.out];rfl,by rw [Hst.out];rfl,by rw [Hst.out];rfl,by rw [Hst.out];rfl,rfl⟩
   case measure=>simp [intOf];omega
  ·have hk64:Hid (k=64):=(by omega:k=64)
   have g0:Wc.cell? ⟨w.heap.size,0,none⟩=some (.int .u32 x0):=cell_of_row _ _ _ _ _ _ Hh.out
   have g1:Wc.cell? ⟨w.heap.size,1,none⟩=some (.int .u32 x1):=cell_of_row _ _ _ _ _ _ Hh.out
   have g2:Wc.cell? ⟨w.heap.size,2,none⟩=some (.int .u32 x2):=cell_of_row _ _ _ _ _ _ Hh.out
   have g3:Wc.cell? ⟨w.heap.size,3,none⟩=some (.int .u32 x3):=cell_of_row _ _ _ _ _ _ Hh.out
   have g4:Wc.cell? ⟨w.heap.size,4,none⟩=some (.int .u32 x4):=cell_of_row _ _ _ _ _ _ Hh.out
   have g5:Wc.cell? ⟨w.heap.size,5,none⟩=some (.int .u32 x5):=cell_of_row _ _ _ _ _ _ Hh.out
   have g6:Wc.cell? ⟨w.heap.size,6,none⟩=some (.int .u32 x6):=cell_of_row _ _ _ _ _ _ Hh.out
   have g7:Wc.cell? ⟨w.heap.size,7,none⟩=some (.int .u32 x7):=cell_of_row _ _ _ _ _ _ Hh.out
   have HE:Hid (to (Wl b.data.toList 64) S k=to (Wl b.data.toList 64) S 64):=(by rw [hk64.out]:to (Wl b.data.toList 64) S k=to (Wl b.data.toList 64) S 64)
   generalize to (Wl b.data.toList 64) S k=T0 at *
   obtain ⟨ta,tb,tc,td,te,tf,tg,th⟩:=T0
   dsimp only
   have hi8:(prog.info? 434).map (·.size)=some 8:=by kernel_rfl
   go_wp2_with (refine wpList_store_row rfl 434 _ _ rfl (w.heap.size+1) #[.int .u32 ((x0+ta) % 4294967296),.int .u32 ((x1+tb) % 4294967296),.int .u32 ((x2+tc) % 4294967296),.int .u32 ((x3+td) % 4294967296),.int .u32 ((x4+te) % 4294967296),.int .u32 ((x5+tf) % 4294967296),.int .u32 ((x6+tg) % 4294967296),.int .u32 ((x7+th) % 4294967296)] rfl rfl 434 _ Hr.out hi8 rfl (all8 _ _ _ _ _ _ _ _) ?_)
   refine bodyPost_ret (v:=.agg #[.int .u32 ((x0+ta) % 4294967296),.int .u32 ((x1+tb) % 4294967296),.int .u32 ((x2+tc) % 4294967296),.int .u32 ((x3+td) % 4294967296),.int .u32 ((x4+te) % 4294967296),.int .u32 ((x5+tf) % 4294967296),.int .u32 ((x6+tg) % 4294967296),.int .u32 ((x7+th) % 4294967296)]) (results_cell_row results277 _ _ (w.heap.size+1) 434 _ (0,0) (.array 8 429) rfl (setRow_heap (Wc.drewN n) _ _ _ _ _ Hr.out) underlying434 rfl hi8) rfl ⟨?_,?_⟩
   ·subst hS
    unfold comp
    rw [<-HE.out]
    rfl
   ·exact Xt (w:=Wc.drewN n) (g:=w.heap.size+1) ⟨hBc.os,hBc.tape,hBc.output,hBc.size,hBc.block⟩ (by omega) _

theorem Jmz:(prog.info? 5).map (λi=>(i.zero,i.size,i.bytes))=some (some (.int .u8 0),1,1):=by kernel_rfl
def bc (l:List UInt8):List Value:=l.map λb=>Value.int .u8 b.toNat
theorem XY (l:List UInt8):(bc l).length=l.length:=by simp [bc]
theorem Zg (l m:List UInt8):bc (l++m)=bc l++bc m:=by simp [bc]
def slen:Value->Nat
 | .slice _ n _=>n
 | _=>0
def zs (n:Nat):Nat:=(119 - n % 64) % 64
def be8 (n k:Nat):List UInt8:=(List.range k).map λj=>UInt8.ofNat (n / 2 ^ (56 - 8 * j))
theorem Jiy (pre:List UInt8) (n j:Nat):bc (pre++be8 (n * 8) (j+1))=bc (pre++be8 (n * 8) j)++[.int .u8 ((n:Int) * 8 / 2 ^ (56 - 8 * j) % 256)]:=by
 have h:be8 (n * 8) (j+1)=be8 (n * 8) j++[UInt8.ofNat (n * 8 / 2 ^ (56 - 8 * j))]:=by simp [be8,List.range_succ]
 rw [h,<-List.append_assoc,Zg]
 congr 1
def padL (r:List UInt8) (n:Nat):List UInt8:=r++[128]++List.replicate (zs r.length) 0++be8 (n * 8) 8

theorem JkZ (s:ByteArray) (n:Nat) (w:World) (hs:s.size<64) (hn:n<1152921504606846976):
  Calls prog 278 #[.string s,.int .i64 n] w λe w'=>e=.returned (.string ⟨(padL s.data.toList n).toArray⟩)/\Below w.heap.size w w':=by
 obtain ⟨i0,hi,hz0,hz1,hz2⟩:=info_parts Jmz
 obtain ⟨v0,w0,hrun,hbs,hg⟩:=Jd7 (P:=prog) w 9 52 5 s underlying9 underlying52 underlying5 (by simp [maxLen];omega)
 have hB0:Below w.heap.size w w0:=(Below.refl _ _).grown hg (Nat.le_refl _) (λ_ e=>by cases e)
 have hl0:(byteCells s).length=s.size:=byteCells_length s
 go_enter func278,ntmps278
 go_wp2_with (at_builtin;refine Xq rfl _ _ 52 52 5 rfl i0 _ underlying52 hi hz0 hz1 hz2 rfl rfl (hbs.alloc _) _ 1 [.int .u8 128] rfl (Src.ofSlice _ underlying52 _ 1 1 _ rfl (cell_one_new _ _ _) (by simp [Value.oneCell'])) (by rw [hl0];omega) (by have:=hg.size;simp;omega) ?_;intro v1 w1 hbs1 hg1 _)
 have hbs1':Bs w.heap.size w1 v1 (bc (s.data.toList++[128]++List.replicate 0 0)):=by simpa [bc,byteCells] using hbs1
 have hB1:Below w.heap.size w w1:=by
  refine (hB0.alloc hB0.size _).grown hg1 (by have:=hB0.size;simp;omega) (λk e=>?_)
  exact (hbs.own k e).1
 clear hrun hg hl0 hbs1 hg1 hbs hB0
 go_loopw [5] (λv wr=>∃k:Nat,k<=zs s.size/\Bs w.heap.size wr v (bc (s.data.toList++[128]++List.replicate k 0))/\Below w.heap.size w wr) (λv _=>200 - slen v)
 case atStart=>exact ⟨0,Nat.zero_le _,hbs1',hB1⟩
 case round=>
  clear hbs1' hB1
  obtain ⟨k,hk,hb,hB⟩:=hrel
  have hL:(bc (s.data.toList++[128]++List.replicate k 0)).length=s.size+1+k:=by
   have:s.data.toList.length=s.size:=by simp
   rw [XY];simp;omega
  obtain ⟨a,c,rfl⟩:∃a c,u5=.slice a (s.size+1+k) c:=by rw [<-hL];exact hb.shape
  have hzs:zs s.size<64:=Nat.mod_lt _ (by omega)
  by_cases hk2:k<zs s.size
  ·have ht:(((s.size:Int)+1+(k:Int)) % 64 != 56)=true:=by
    rw [bne_iff_ne];unfold zs at hk2 hzs;omega
   have hsz:=hB.size
   go_wp2_with (at_builtin;refine Xq rfl _ _ 52 52 5 rfl i0 _ underlying52 hi hz0 hz1 hz2 rfl rfl (hb.alloc _) _ 1 [.int .u8 0] rfl (Src.ofSlice _ underlying52 _ 1 1 _ rfl (cell_one_new _ _ _) (by simp [Value.oneCell'])) (by rw [hL];omega) (by simp;omega) ?_;intro v2 w2 hbs2 hg2 _)
   have hb2:Bs w.heap.size w2 v2 (bc (s.data.toList++[128]++List.replicate (k+1) 0)):=by
    have e:bc (s.data.toList++[128]++List.replicate (k+1) 0)=bc (s.data.toList++[128]++List.replicate k 0)++[.int .u8 0]:=by
     rw [List.replicate_succ',<-List.append_assoc,Zg];rfl
    rw [e];exact hbs2
   have hB2:Below w.heap.size w w2:=(hB.alloc hB.size _).grown hg2 (by simp;omega) (λk e=>(hb.own k e).1)
   obtain ⟨a2,c2,hv2⟩:=hbs2.shape
   go_roundw
   case rel=>exact ⟨k+1,by omega,hb2,hB2⟩
   case measure=>
    have hL2:(bc (s.data.toList++[128]++List.replicate k 0)++[Value.int .u8 0]).length=s.size+1+k+1:=by rw [List.length_append,hL];rfl
    rw [hv2,hL2];simp [slen];omega
  ·have ht:((s.size:Int)+1+(k:Int)) % 64=56:=by unfold zs at hk2 hk hzs;omega
   have hkz:Hid (k=zs s.size):=(by omega:k=zs s.size)
   go_wp2
   have HE:Hid (s.data.toList++[128]++List.replicate k 0=s.data.toList++[128]++List.replicate (zs s.data.toList.length) 0):=by
    show _=_
    rw [hkz.out];simp
   generalize s.data.toList++[128]++List.replicate k 0=pre at *
   have hL0:pre.length=s.size+1+k:=by rw [<-XY];exact hL
   go_loopw [5,7] (λv i wr=>∃j:Nat,j<=8/\i=.int .i64 (56 - 8 * (j:Int))/\Bs w.heap.size wr v (bc (pre++be8 (n * 8) j))/\Below w.heap.size w wr) (λ_ i _=>(intOf i+8).toNat)
   case atStart=>exact ⟨0,by omega,rfl,by simpa [be8] using hb,hB⟩
   case round=>
    clear hb hB ht hL hk2 hkz
    obtain ⟨j,hj,rfl,hb,hB⟩:=hrel
    have hL:(bc (pre++be8 (n * 8) j)).length=s.size+1+k+j:=by rw [XY];simp [be8,hL0]
    by_cases hj2:j<8
    ·have hsz:=hB.size
     go_wp2_with (at_builtin;refine Xq rfl _ _ 52 52 5 rfl i0 _ underlying52 hi hz0 hz1 hz2 rfl rfl (hb.alloc _) _ 1 [_] rfl (Src.ofSlice _ underlying52 _ 1 1 _ rfl (cell_one_new _ _ _) (by simp [Value.oneCell'])) (by rw [hL];omega) (by simp;omega) ?_;intro v2 w2 hbs2 hg2 _)
     have hb2:Bs w.heap.size w2 v2 (bc (pre++be8 (n * 8) (j+1))):=by rw [Jiy];exact hbs2
     have hB2:Below w.heap.size w w2:=(hB.alloc hB.size _).grown hg2 (by simp;omega) (λk e=>(hb.own k e).1)
     exact ⟨⟨j+1,by omega,congrArg (Value.int .i64) (by omega),hb2,hB2⟩,by simp only [intOf];omega⟩
    ·have hj8:Hid (j=8):=(by omega:j=8)
     have hstr:=XI (P:=prog) hb 52 9 5 underlying52 underlying5 underlying9
     have HE2:Hid (pre++be8 (n * 8) j=padL s.data.toList n):=by
      show _=_
      rw [hj8.out,HE.out];rfl
     generalize pre++be8 (n * 8) j=fin at *
     go_wp2
     go_ret
     exact ⟨by rw [<-HE2.out];rfl,hB⟩

def Zs (x:Int) (j:Nat):Int:=x / 2 ^ (24 - 8 * j) % 256
def S8.list (s:S8):List Int:=[s.a,s.b,s.c,s.d,s.e,s.f,s.g,s.h]
def asB (s:S8):Nat->List Int
 | 0=>[]
 | k+1=>asB s k++[Zs (s.list.getD (k / 4) 0) (k % 4)]
theorem YN (s:S8) (k:Nat):(asB s k).length=k:=by
 induction k with
 | zero=>rfl
 | succ k ih=>simp [asB,ih]
theorem Jix (s:S8) (k j:Nat) (hj:j<4):asB s (4 * k+(j+1))=asB s (4 * k+j)++[Zs (s.list.getD k 0) j]:=by
 show asB s (4 * k+j)++[Zs (s.list.getD ((4 * k+j) / 4) 0) ((4 * k+j) % 4)]=_
 rw [show (4 * k+j) / 4=k by omega,show (4 * k+j) % 4=j by omega]
def arr8 (l:List Int):Array Value:=(l.map (Value.int .u8)++List.replicate (32 - l.length) (Value.int .u8 0)).toArray
theorem Jiv (l:List Int) (k:Nat) (hk:k<l.length):(arr8 l)[k]? =some (.int .u8 (l.getD k 0)):=by
 simp [arr8,List.getElem?_append,hk,List.getD_eq_getElem?_getD]
theorem Jiu (l:List Int) (hk:l.length<32):(arr8 l)[l.length]? =some (.int .u8 0):=by
 have:¬32 - l.length=0:=by omega
 simp [arr8,List.getElem?_append,List.getElem?_replicate];omega
theorem Jiw (l:List Int) (v:Int) (hk:l.length<32):(arr8 l).setIfInBounds l.length (.int .u8 v)=arr8 (l++[v]):=by
 obtain ⟨m,hm⟩:∃m,32 - l.length=m+1:=⟨31 - l.length,by omega⟩
 have hm':32 - (l++[v]).length=m:=by simp;omega
 unfold arr8
 rw [hm,hm',List.replicate_succ]
 simp [List.setIfInBounds_toArray]
theorem Jbn (l:List Int) (h:l.length<=32):(arr8 l).size=32:=by simp [arr8];omega
theorem Jcf (l:List Int):(arr8 l).all (·.oneCell')=true:=by
 rw [Array.all_eq_true_iff_forall_mem]
 intro v hv
 simp [arr8] at hv
 rcases hv with ⟨a,_,rfl⟩ | ⟨_,rfl⟩ <;> rfl
abbrev W3 (w:World) (o:Obj) (l:List Int):World:=((w.alloc o).alloc (.cells (arr8 []) 335)).alloc (.cells (arr8 l) 335)
theorem Jd1 (w:World) (o:Obj) (l:List Int):(W3 w o l).heap[w.heap.size+1+1]? =some (.cells (arr8 l) 335):=by
 have:=heap_alloc_new ((w.alloc o).alloc (.cells (arr8 []) 335)) (.cells (arr8 l) 335)
 simpa using this
theorem JlD (w:World) (o:Obj) (l:List Int) (k:Nat) (hl:l.length=k) (hk:k<32):(W3 w o l).cell? ⟨w.heap.size+1+1,k,none⟩=some (.int .u8 0):=by
 subst hl;rw [cell_of_row _ _ _ _ _ _ (Jd1 w o l)];exact Jiu l hk
theorem Jhb (w:World) (o:Obj) (l:List Int) (k:Nat):(W3 w o l).frozen? ⟨w.heap.size+1+1,k,none⟩=false:=frozen_of_row _ _ _ _ _ (Jd1 w o l)
theorem JlE (w:World) (o:Obj) (l:List Int) (v:Int) (k:Nat) (hl:l.length=k) (hk:k<32):(W3 w o l).setCell ⟨w.heap.size+1+1,k,none⟩ (.int .u8 v)=W3 w o (l++[v]):=by
 subst hl
 rw [World.setCell_alloc_at _ _ _ _ _ (by simp),Jiw l v hk]
theorem Jis (w:World) (o:Obj) (l:List Int):Below w.heap.size w (W3 w o l):=
 (((Below.refl w.heap.size w).alloc (Nat.le_refl _) o).alloc (by simp) _).alloc (by simp;omega) _
theorem JlN (x0 x1 x2 x3 x4 x5 x6 x7:Int) (k:Nat) (hk:k<8) (w:World):
  (Instr.index 434 (.agg #[.int .u32 x0,.int .u32 x1,.int .u32 x2,.int .u32 x3,.int .u32 x4,.int .u32 x5,.int .u32 x6,.int .u32 x7]) (.int .i64 (k:Int))).run prog w=.ok (.int .u32 ((S8.list ⟨x0,x1,x2,x3,x4,x5,x6,x7⟩).getD k 0)) w:=by
 obtain rfl | rfl | rfl | rfl | rfl | rfl | rfl | rfl:k=0\/k=1\/k=2\/k=3\/k=4\/k=5\/k=6\/k=7:=by omega
 all_goals kernel_rfl

theorem Jkn (s:S8) (w:World):
  Calls prog 279 #[s.val] w λe w'=>e=.returned (.agg (arr8 (asB s 32)))/\Below w.heap.size w w':=by
 obtain ⟨x0,x1,x2,x3,x4,x5,x6,x7⟩:=s
 unfold S8.val
 have hix:=JlN x0 x1 x2 x3 x4 x5 x6 x7
 go_enter func279,ntmps279
 go_wp2
 generalize hS:(⟨x0,x1,x2,x3,x4,x5,x6,x7⟩:S8)=S at *
 have HSS:Hid (_=S):=hS
 clear hS
 generalize hO:(Obj.cells #[.int .u32 x0,.int .u32 x1,.int .u32 x2,.int .u32 x3,.int .u32 x4,.int .u32 x5,.int .u32 x6,.int .u32 x7] 434)=O
 clear hO
 have HX:Hid _:=hix
 clear hix
 go_loopw [8] (λi wr=>∃k:Nat,k<=8/\i=.int .i64 k/\wr=W3 w O (asB S (4 * k))) (λi _=>8 - (intOf i).toNat)
 case atStart=>exact ⟨0,by omega,rfl,rfl⟩
 case round=>
  obtain ⟨k,hk,rfl,rfl⟩:=hrel
  by_cases hlt:k<8
  ·have hx:=HX.out k hlt
   have HN:Hid (∀j:Nat,j<4->asB S (4 * k+(j+1))=asB S (4 * k+j)++[Zs (S.list.getD k 0) j]):=λj hj=>Jix S k j hj
   generalize S.list.getD k 0=x at hx HN
   have hd:decide ((k:Int)<8)=true:=by simp;omega
   go_wp2
   go_loopw [12] (λi wr=>∃j:Nat,j<=4/\i=.int .i64 j/\wr=W3 w O (asB S (4 * k+j))) (λi _=>4 - (intOf i).toNat)
   case atStart=>exact ⟨0,by omega,rfl,rfl⟩
   case round=>
    obtain ⟨j,hj,rfl,rfl⟩:=hrel
    by_cases hj2:j<4
    ·have hl:=YN S (4 * k+j)
     have hc:=JlD w O (asB S (4 * k+j)) (4 * k+j) hl (by omega)
     have hf:=Jhb w O (asB S (4 * k+j)) (4 * k+j)
     have HS:Hid (∀v,(W3 w O (asB S (4 * k+j))).setCell ⟨w.heap.size+1+1,4 * k+j,none⟩ (.int .u8 v)=W3 w O (asB S (4 * k+j)++[v])):=λv=>JlE w O (asB S (4 * k+j)) v (4 * k+j) hl (by omega)
     generalize hW:W3 w O (asB S (4 * k+j))=W at *
     clear hW hl hx
     go_wp2
     go_roundw
     case rel=>exact ⟨j+1,by omega,by go_num,by rw [HN.out j hj2];exact HS.out _⟩
     case measure=>simp [intOf];omega
    ·have HJ:Hid (4 * k+j=4 * (k+1)):=(by omega:4 * k+j=4 * (k+1))
     clear hx
     go_wp2
     go_roundw
     case rel=>exact ⟨k+1,by omega,by go_num,by rw [HJ.out]⟩
     case measure=>simp [intOf];omega
  ·have hk8:Hid (k=8):=(by omega:k=8)
   have hA:(arr8 (asB S (4 * k))).size=32:=Jbn _ (by rw [YN];omega)
   have hA1:(arr8 (asB S (4 * k))).all (·.oneCell')=true:=Jcf _
   have hG:=Jd1 w O (asB S (4 * k))
   have hG0:(W3 w O (asB S (4 * k))).heap[w.heap.size+1]? =some (.cells (arr8 []) 335):=by
    rw [Below.heap_alloc _ _ _ (by simp)]
    have:=heap_alloc_new (w.alloc O) (.cells (arr8 []) 335)
    simpa using this
   have hB:Below w.heap.size w (W3 w O (asB S (4 * k))):=Jis _ _ _
   generalize W3 w O (asB S (4 * k))=W at *
   have HE:Hid (arr8 (asB S (4 * k))=arr8 (asB S 32)):=(by rw [hk8.out]:arr8 (asB S (4 * k))=arr8 (asB S 32))
   generalize arr8 (asB S (4 * k))=A at *
   have hi:(prog.info? 335).map (·.size)=some A.size:=by rw [hA];kernel_rfl
   go_wp2_with (first | (refine wpList_load_row rfl 335 _ rfl (w.heap.size+1+1) rfl 335 A (0,0) (.array 32 5) hG underlying335 rfl hi ?_) | (refine wpList_store_row rfl 335 _ _ rfl (w.heap.size+1) A rfl rfl 335 (arr8 []) hG0 hi (by rw [hA];rfl) hA1 ?_))
   refine bodyPost_ret (v:=.agg A) (results_cell_row results279 _ _ (w.heap.size+1) 335 A (0,0) (.array 32 5) rfl (setRow_heap _ _ _ _ _ _ hG0) underlying335 rfl hi) rfl ⟨by rw [HE.out,<-HSS.out],Xt hB (by omega) _⟩

def H0:S8:=⟨1779033703,3144134277,1013904242,2773480762,1359893119,2600822924,528734635,1541459225⟩
def JbC:Value->Nat
 | .string s=>s.size
 | _=>0
def JL:Nat->S8->List UInt8->S8
 | 0,s,_=>s
 | n+1,s,l=>comp (JL n s l) ((l.drop (64 * n)).take 64)

def shaS (l:List UInt8):S8:=
 JL ((padL (l.drop (64 * (l.length / 64))) l.length).length / 64) (JL (l.length / 64) H0 l) (padL (l.drop (64 * (l.length / 64))) l.length)
theorem set8 (w:World) (g:Nat) (t:TypeId) (old:Array Value) (v0 v1 v2 v3 v4 v5 v6 v7:Value) (ho:old.size=8) (h:w.heap[g]? =some (.cells old t (0,0))):
  (((((((w.setCell ⟨g,0,none⟩ v0).setCell ⟨g,1,none⟩ v1).setCell ⟨g,2,none⟩ v2).setCell ⟨g,3,none⟩ v3).setCell ⟨g,4,none⟩ v4).setCell ⟨g,5,none⟩ v5).setCell ⟨g,6,none⟩ v6).setCell ⟨g,7,none⟩ v7=w.setRow g #[v0,v1,v2,v3,v4,v5,v6,v7]:=by
 rw [setCell_eq_setRow w g 0 old t (0,0) v0 h,
  setCell_eq_setRow _ g 1 _ t (0,0) v1 (setRow_heap _ _ _ _ _ _ h),setRow_setRow,
  setCell_eq_setRow _ g 2 _ t (0,0) v2 (setRow_heap _ _ _ _ _ _ h),setRow_setRow,
  setCell_eq_setRow _ g 3 _ t (0,0) v3 (setRow_heap _ _ _ _ _ _ h),setRow_setRow,
  setCell_eq_setRow _ g 4 _ t (0,0) v4 (setRow_heap _ _ _ _ _ _ h),setRow_setRow,
  setCell_eq_setRow _ g 5 _ t (0,0) v5 (setRow_heap _ _ _ _ _ _ h),setRow_setRow,
  setCell_eq_setRow _ g 6 _ t (0,0) v6 (setRow_heap _ _ _ _ _ _ h),setRow_setRow,
  setCell_eq_setRow _ g 7 _ t (0,0) v7 (setRow_heap _ _ _ _ _ _ h),setRow_setRow]
 refine congrArg (w.setRow g) ?_
 obtain ⟨l⟩:=old
 match l,ho with
 | [_,_,_,_,_,_,_,_],_=>simp
structure At8 (w:World) (g:Nat) (s:S8):Prop where
 row:w.heap[g]? =some (.cells #[.int .u32 s.a,.int .u32 s.b,.int .u32 s.c,.int .u32 s.d,.int .u32 s.e,.int .u32 s.f,.int .u32 s.g,.int .u32 s.h] 434)

theorem JbV {w wr w1:World} {T0:S8} (C:S8) (hR:wr.heap[w.heap.size]? =some (.cells (arr8 []) 335)) (hA:At8 wr (w.heap.size+1) T0) (hB:Below w.heap.size w wr) (hB1:Below wr.heap.size wr w1) (hN:w.heap.size+1<wr.heap.size):
  (((((((((w1.setCell ⟨w.heap.size+1,0,none⟩ (.int .u32 C.a)).setCell ⟨w.heap.size+1,1,none⟩ (.int .u32 C.b)).setCell ⟨w.heap.size+1,2,none⟩ (.int .u32 C.c)).setCell ⟨w.heap.size+1,3,none⟩ (.int .u32 C.d)).setCell ⟨w.heap.size+1,4,none⟩ (.int .u32 C.e)).setCell ⟨w.heap.size+1,5,none⟩ (.int .u32 C.f)).setCell ⟨w.heap.size+1,6,none⟩ (.int .u32 C.g)).setCell ⟨w.heap.size+1,7,none⟩ (.int .u32 C.h))).heap[w.heap.size]? =some (.cells (arr8 []) 335)/\
  At8 ((((((((w1.setCell ⟨w.heap.size+1,0,none⟩ (.int .u32 C.a)).setCell ⟨w.heap.size+1,1,none⟩ (.int .u32 C.b)).setCell ⟨w.heap.size+1,2,none⟩ (.int .u32 C.c)).setCell ⟨w.heap.size+1,3,none⟩ (.int .u32 C.d)).setCell ⟨w.heap.size+1,4,none⟩ (.int .u32 C.e)).setCell ⟨w.heap.size+1,5,none⟩ (.int .u32 C.f)).setCell ⟨w.heap.size+1,6,none⟩ (.int .u32 C.g)).setCell ⟨w.heap.size+1,7,none⟩ (.int .u32 C.h)) (w.heap.size+1) C/\
  Below w.heap.size w ((((((((w1.setCell ⟨w.heap.size+1,0,none⟩ (.int .u32 C.a)).setCell ⟨w.heap.size+1,1,none⟩ (.int .u32 C.b)).setCell ⟨w.heap.size+1,2,none⟩ (.int .u32 C.c)).setCell ⟨w.heap.size+1,3,none⟩ (.int .u32 C.d)).setCell ⟨w.heap.size+1,4,none⟩ (.int .u32 C.e)).setCell ⟨w.heap.size+1,5,none⟩ (.int .u32 C.f)).setCell ⟨w.heap.size+1,6,none⟩ (.int .u32 C.g)).setCell ⟨w.heap.size+1,7,none⟩ (.int .u32 C.h)):=by
 have row1:=(hB1.block _ hN).trans hA.row
 rw [set8 w1 (w.heap.size+1) 434 _ _ _ _ _ _ _ _ _ rfl row1]
 refine ⟨?_,⟨setRow_heap _ _ _ _ _ _ row1⟩,Xt (hB.trans (hB1.mono hB.size)) (by omega) _⟩
 rw [setRow_other _ _ _ _ (by omega),hB1.block _ (by omega)];exact hR
theorem JeX (r:ByteArray) (l:List UInt8) (n:Nat) (h:r.data.toList=l):(r.extract 0 n).data.toList=l.take n:=by
 subst h;simp [ByteArray.data_extract]
theorem JeW (r:ByteArray) (l:List UInt8) (n m:Nat) (h:r.data.toList=l.drop m):(r.extract n r.size).data.toList=l.drop (m+n):=by
 have hz:r.size=r.data.toList.length:=by simp
 rw [ByteArray.data_extract,Array.toList_extract,List.extract_eq_take_drop,<-List.drop_drop,<-h]
 exact List.take_of_length_le (by rw [List.length_drop,<-hz];exact Nat.le_refl _)

theorem Jfl (r:List UInt8) (n:Nat):(padL r n).length % 64=0:=by
 simp [padL,be8,zs];omega
theorem Jee (q:ByteArray) (h:q.size=0):q.toList.isEmpty=true:=by
 have hl:q.data.toList.length=0:=by rw [<-h];simp
 rw [ByteArray.toList_eq,List.eq_nil_of_length_eq_zero hl];rfl
theorem Jdf (q:ByteArray) (h:0<q.size):q.toList.isEmpty=false:=by
 have hl:q.data.toList.length=q.size:=by simp
 rw [ByteArray.toList_eq]
 cases hx:q.data.toList with
 | nil=>rw [hx] at hl;simp at hl;omega
 | cons _ _=>rfl

theorem Jk8 (s:ByteArray) (w:World) (hs:s.size<1152921504606846976) (h7:13<w.heap.size) (hT:∀i,i<64->w.cell? ⟨13,i,none⟩=some (.int .u32 (Ks.getD i 0))):
  Calls prog 199 #[.string s] w λe w'=>e=.returned (.agg (arr8 (asB (shaS s.data.toList) 32)))/\Below w.heap.size w w':=by
 have HT:Hid _:=hT
 clear hT
 go_enter func199,ntmps199
 go_wp2
 go_loopw [4] (λv wr=>∃(k:Nat) (r:ByteArray),64 * k<=s.size/\v=.string r/\r.data.toList=s.data.toList.drop (64 * k)/\wr.heap[w.heap.size]? =some (.cells (arr8 []) 335)/\At8 wr (w.heap.size+1) (JL k H0 s.data.toList)/\Below w.heap.size w wr) (λv _=>JbC v)
 case atStart=>exact ⟨0,s,by omega,rfl,rfl,heap_alloc2_old _ _ _,⟨heap_alloc2_new _ _ _⟩,((Below.refl _ _).alloc (Nat.le_refl _) _).alloc (by simp) _⟩
 case round=>
  obtain ⟨k,r,hk,rfl,hr,hR,hA,hB⟩:=hrel
  have hrs:r.size=s.size - 64 * k:=by
   have:r.data.toList.length=(s.data.toList.drop (64 * k)).length:=by rw [hr]
   simpa using this
  have hN:w.heap.size+1<wr.heap.size:=by
   have:=hA.row
   exact (Array.getElem?_eq_some_iff.1 this).1
  by_cases hlt:64 * (k+1)<=s.size
  ·have Hst:Hid (JL (k+1) H0 s.data.toList=comp (JL k H0 s.data.toList) ((s.data.toList.drop (64 * k)).take 64)):=rfl
   have Hrx:Hid ((r.extract 0 64).data.toList=(s.data.toList.drop (64 * k)).take 64/\(r.extract 64 (s.size - 64 * k)).data.toList=s.data.toList.drop (64 * (k+1))):=⟨JeX r _ 64 hr,by rw [<-hrs,show 64 * (k+1)=64 * k+64 by omega];exact JeW r _ 64 (64 * k) hr⟩
   generalize JL k H0 s.data.toList=T0 at *
   have hrow:=hA.row
   have HR:Hid (_=_):=hrow
   have c0:wr.cell? ⟨w.heap.size+1,0,none⟩=some (.int .u32 T0.a):=cell_of_row _ _ _ _ _ _ hrow
   have c1:wr.cell? ⟨w.heap.size+1,1,none⟩=some (.int .u32 T0.b):=cell_of_row _ _ _ _ _ _ hrow
   have c2:wr.cell? ⟨w.heap.size+1,2,none⟩=some (.int .u32 T0.c):=cell_of_row _ _ _ _ _ _ hrow
   have c3:wr.cell? ⟨w.heap.size+1,3,none⟩=some (.int .u32 T0.d):=cell_of_row _ _ _ _ _ _ hrow
   have c4:wr.cell? ⟨w.heap.size+1,4,none⟩=some (.int .u32 T0.e):=cell_of_row _ _ _ _ _ _ hrow
   have c5:wr.cell? ⟨w.heap.size+1,5,none⟩=some (.int .u32 T0.f):=cell_of_row _ _ _ _ _ _ hrow
   have c6:wr.cell? ⟨w.heap.size+1,6,none⟩=some (.int .u32 T0.g):=cell_of_row _ _ _ _ _ _ hrow
   have c7:wr.cell? ⟨w.heap.size+1,7,none⟩=some (.int .u32 T0.h):=cell_of_row _ _ _ _ _ _ hrow
   have f0:∀j,wr.frozen? ⟨w.heap.size+1,j,none⟩=false:=λj=>frozen_of_row _ _ _ _ _ hrow
   have hge:(64:Int)<=(r.size:Int):=by omega
   have hx64:(r.extract 0 64).size=64:=by simp;omega
   have h7r:13<wr.heap.size:=by omega
   have HTr:Hid (∀i,i<64->wr.cell? ⟨13,i,none⟩=some (.int .u32 (Ks.getD i 0))):=λi hi=>by rw [hB.cell (p:=⟨13,i,none⟩) h7];exact HT.out i hi
   clear hrow
   go_wp2
   go_region_with (go_at_call 277;refine (JeT T0 _ _ ?_ ?_ ?_).mono ?_;exact hx64;exact h7r;exact HTr.out;rintro _ w1 ⟨rfl,hB1⟩;have d0:=(hB1.cell (p:=⟨w.heap.size+1,0,none⟩) hN).trans c0;have d1:=(hB1.cell (p:=⟨w.heap.size+1,1,none⟩) hN).trans c1;have d2:=(hB1.cell (p:=⟨w.heap.size+1,2,none⟩) hN).trans c2;have d3:=(hB1.cell (p:=⟨w.heap.size+1,3,none⟩) hN).trans c3;have d4:=(hB1.cell (p:=⟨w.heap.size+1,4,none⟩) hN).trans c4;have d5:=(hB1.cell (p:=⟨w.heap.size+1,5,none⟩) hN).trans c5;have d6:=(hB1.cell (p:=⟨w.heap.size+1,6,none⟩) hN).trans c6;have d7:=(hB1.cell (p:=⟨w.heap.size+1,7,none⟩) hN).trans c7;have g0:∀j,w1.frozen? ⟨w.heap.size+1,j,none⟩=false:=λj=>(hB1.frozen (p:=⟨w.heap.size+1,j,none⟩) hN).trans (f0 j);generalize hC:comp T0 _=C;have HC:Hid (_=C):=hC;clear hC;have HB1:Hid _:=hB1;clear hB1;unfold S8.val)
   all_goals
    go_wp2
    go_roundw
    case rel=>
     obtain ⟨e1,e2,e3⟩:=JbV C hR hA hB ⟨HB1.out.os,HB1.out.tape,HB1.out.output,HB1.out.size,HB1.out.block⟩ hN
     exact ⟨k+1,_,hlt,rfl,Hrx.out.2,e1,by rw [Hst.out,<-Hrx.out.1,HC.out];exact e2,e3⟩
    case measure=>simp [JbC];omega
  ·have hr64:r.size<64:=by omega
   generalize hT0:JL k H0 s.data.toList=T0 at *
   have HT0:Hid (_=T0):=hT0
   have Hr:Hid _:=hr
   have Hk:Hid (k=s.size / 64):=(by omega:k=s.size / 64)
   have hlt2:¬(64:Int)<=(r.size:Int):=by omega
   clear hT0 hr hlt
   go_wp2_with (go_at_call 278;refine (JkZ r s.size _ hr64 hs).mono ?_;rintro _ w1 ⟨rfl,hB1⟩)
   have hR1:w1.heap[w.heap.size]? =some (.cells (arr8 []) 335):=(hB1.block _ (by omega)).trans hR
   have hA1:At8 w1 (w.heap.size+1) T0:=⟨(hB1.block _ hN).trans hA.row⟩
   have hB2:Below w.heap.size w w1:=hB.trans (hB1.mono hB.size)
   clear hR hA hB hB1 hN
   have HL:Hid ((padL r.data.toList s.size).length % 64=0):=Jfl _ _
   generalize hP:padL r.data.toList s.size=PL at *
   have HP:Hid (_=PL):=hP
   clear hP
   go_loopw [4] (λv wr=>∃(j:Nat) (q:ByteArray),64 * j<=PL.length/\v=.string q/\q.data.toList=PL.drop (64 * j)/\wr.heap[w.heap.size]? =some (.cells (arr8 []) 335)/\At8 wr (w.heap.size+1) (JL j T0 PL)/\Below w.heap.size w wr) (λv _=>JbC v)
   case atStart=>exact ⟨0,_,by omega,rfl,rfl,hR1,hA1,hB2⟩
   case round=>
    clear hR1 hA1 hB2
    obtain ⟨j,q,hj,rfl,hq,hR,hA,hB⟩:=hrel
    have hqs:q.size=PL.length - 64 * j:=by
     have:q.data.toList.length=(PL.drop (64 * j)).length:=by rw [hq]
     simpa using this
    have hN:w.heap.size+1<wr.heap.size:=(Array.getElem?_eq_some_iff.1 hA.row).1
    by_cases hlt:64 * (j+1)<=PL.length
    ·have Hst:Hid (JL (j+1) T0 PL=comp (JL j T0 PL) ((PL.drop (64 * j)).take 64)):=rfl
     have Hrx:Hid ((q.extract 0 64).data.toList=(PL.drop (64 * j)).take 64/\(q.extract 64 q.size).data.toList=PL.drop (64 * (j+1))):=⟨JeX q _ 64 hq,by rw [show 64 * (j+1)=64 * j+64 by omega];exact JeW q _ 64 (64 * j) hq⟩
     generalize JL j T0 PL=T1 at *
     have hrow:=hA.row
     have c0:wr.cell? ⟨w.heap.size+1,0,none⟩=some (.int .u32 T1.a):=cell_of_row _ _ _ _ _ _ hrow
     have c1:wr.cell? ⟨w.heap.size+1,1,none⟩=some (.int .u32 T1.b):=cell_of_row _ _ _ _ _ _ hrow
     have c2:wr.cell? ⟨w.heap.size+1,2,none⟩=some (.int .u32 T1.c):=cell_of_row _ _ _ _ _ _ hrow
     have c3:wr.cell? ⟨w.heap.size+1,3,none⟩=some (.int .u32 T1.d):=cell_of_row _ _ _ _ _ _ hrow
     have c4:wr.cell? ⟨w.heap.size+1,4,none⟩=some (.int .u32 T1.e):=cell_of_row _ _ _ _ _ _ hrow
     have c5:wr.cell? ⟨w.heap.size+1,5,none⟩=some (.int .u32 T1.f):=cell_of_row _ _ _ _ _ _ hrow
     have c6:wr.cell? ⟨w.heap.size+1,6,none⟩=some (.int .u32 T1.g):=cell_of_row _ _ _ _ _ _ hrow
     have c7:wr.cell? ⟨w.heap.size+1,7,none⟩=some (.int .u32 T1.h):=cell_of_row _ _ _ _ _ _ hrow
     have f0:∀j,wr.frozen? ⟨w.heap.size+1,j,none⟩=false:=λj=>frozen_of_row _ _ _ _ _ hrow
     have hge:(64:Int)<=(q.size:Int):=by omega
     have hx64:(q.extract 0 64).size=64:=by simp;omega
     have h7r:13<wr.heap.size:=by omega
     have HTr:Hid (∀i,i<64->wr.cell? ⟨13,i,none⟩=some (.int .u32 (Ks.getD i 0))):=λi hi=>by rw [hB.cell (p:=⟨13,i,none⟩) h7];exact HT.out i hi
     have hne:q.toList.isEmpty=false:=Jdf q (by omega)
     clear hrow hq hqs
     go_wp2
     go_region_with (go_at_call 277;refine (JeT T1 _ _ ?_ ?_ ?_).mono ?_;exact hx64;exact h7r;exact HTr.out;rintro _ w1 ⟨rfl,hB1⟩;have d0:=(hB1.cell (p:=⟨w.heap.size+1,0,none⟩) hN).trans c0;have d1:=(hB1.cell (p:=⟨w.heap.size+1,1,none⟩) hN).trans c1;have d2:=(hB1.cell (p:=⟨w.heap.size+1,2,none⟩) hN).trans c2;have d3:=(hB1.cell (p:=⟨w.heap.size+1,3,none⟩) hN).trans c3;have d4:=(hB1.cell (p:=⟨w.heap.size+1,4,none⟩) hN).trans c4;have d5:=(hB1.cell (p:=⟨w.heap.size+1,5,none⟩) hN).trans c5;have d6:=(hB1.cell (p:=⟨w.heap.size+1,6,none⟩) hN).trans c6;have d7:=(hB1.cell (p:=⟨w.heap.size+1,7,none⟩) hN).trans c7;have g0:∀j,w1.frozen? ⟨w.heap.size+1,j,none⟩=false:=λj=>(hB1.frozen (p:=⟨w.heap.size+1,j,none⟩) hN).trans (f0 j);generalize hC:comp T1 _=C;have HC:Hid (_=C):=hC;clear hC;have HB1:Hid _:=hB1;clear hB1;unfold S8.val)
     all_goals
      go_wp2
      go_roundw
      case rel=>
       obtain ⟨e1,e2,e3⟩:=JbV C hR hA hB ⟨HB1.out.os,HB1.out.tape,HB1.out.output,HB1.out.size,HB1.out.block⟩ hN
       exact ⟨j+1,_,hlt,rfl,Hrx.out.2,e1,by rw [Hst.out,<-Hrx.out.1,HC.out];exact e2,e3⟩
      case measure=>simp [JbC];omega
    ·have hLL:=HL.out
     have Hj:Hid (j=PL.length / 64):=(by omega:j=PL.length / 64)
     have hem:q.toList.isEmpty=true:=Jee q (by omega)
     generalize hT1:JL j T0 PL=T1 at *
     have HT1:Hid (_=T1):=hT1
     have hrow:=hA.row
     have c0:wr.cell? ⟨w.heap.size+1,0,none⟩=some (.int .u32 T1.a):=cell_of_row _ _ _ _ _ _ hrow
     have c1:wr.cell? ⟨w.heap.size+1,1,none⟩=some (.int .u32 T1.b):=cell_of_row _ _ _ _ _ _ hrow
     have c2:wr.cell? ⟨w.heap.size+1,2,none⟩=some (.int .u32 T1.c):=cell_of_row _ _ _ _ _ _ hrow
     have c3:wr.cell? ⟨w.heap.size+1,3,none⟩=some (.int .u32 T1.d):=cell_of_row _ _ _ _ _ _ hrow
     have c4:wr.cell? ⟨w.heap.size+1,4,none⟩=some (.int .u32 T1.e):=cell_of_row _ _ _ _ _ _ hrow
     have c5:wr.cell? ⟨w.heap.size+1,5,none⟩=some (.int .u32 T1.f):=cell_of_row _ _ _ _ _ _ hrow
     have c6:wr.cell? ⟨w.heap.size+1,6,none⟩=some (.int .u32 T1.g):=cell_of_row _ _ _ _ _ _ hrow
     have c7:wr.cell? ⟨w.heap.size+1,7,none⟩=some (.int .u32 T1.h):=cell_of_row _ _ _ _ _ _ hrow
     clear hrow hq hqs hT1 hLL hlt hj
     go_wp2_with fail
     refine (Jkn T1 _).mono ?_
     rintro _ w1 ⟨rfl,hB1⟩
     have hG0:w1.heap[w.heap.size]? =some (.cells (arr8 []) 335):=(hB1.block _ (by omega)).trans hR
     have hBf:Below w.heap.size w w1:=hB.trans (hB1.mono hB.size)
     clear hB1 c0 c1 c2 c3 c4 c5 c6 c7 hR hA hB
     have hA32:(arr8 (asB T1 32)).size=32:=Jbn _ (by rw [YN];omega)
     have hA1:(arr8 (asB T1 32)).all (·.oneCell')=true:=Jcf _
     have HE:Hid (arr8 (asB T1 32)=arr8 (asB (shaS s.data.toList) 32)):=by
      show _=_
      rw [<-HT1.out,Hj.out,<-HP.out,Hr.out,<-HT0.out,Hk.out]
      simp [shaS]
     generalize arr8 (asB T1 32)=A at *
     have hi:(prog.info? 335).map (·.size)=some A.size:=by rw [hA32];kernel_rfl
     go_wp2_with (refine wpList_store_row rfl 335 _ _ rfl w.heap.size A rfl rfl 335 (arr8 []) hG0 hi (by rw [hA32];rfl) hA1 ?_)
     refine bodyPost_ret (v:=.agg A) (results_cell_row results199 _ _ w.heap.size 335 A (0,0) (.array 32 5) rfl (setRow_heap _ _ _ _ _ _ hG0) underlying335 rfl hi) rfl ⟨by rw [HE.out],Xt hBf (Nat.le_refl _) _⟩

def digL (l:List UInt8):List UInt8:=(asB (shaS l) 32).map λx=>UInt8.ofNat x.toNat
theorem Jd8 (x:Int) (j:Nat):0<=Zs x j/\Zs x j<256:=⟨Int.emod_nonneg _ (by omega),Int.emod_lt_of_pos _ (by omega)⟩
theorem Jhe (s:S8) (k:Nat):∀x∈asB s k,0<=x/\x<256:=by
 induction k with
 | zero=>intro x hx;cases hx
 | succ k ih=>
  intro x hx
  simp only [asB,List.mem_append,List.mem_singleton] at hx
  rcases hx with hx | rfl
  ·exact ih x hx
  ·exact Jd8 _ _
theorem ZL (l:List UInt8):(digL l).length=32:=by simp [digL,YN]
theorem JfO (L:List Int) (j:Nat) (hr:∀x∈L,0<=x/\x<256) (h:j<(L.map λx=>UInt8.ofNat x.toNat).length):(arr8 L)[j]? =some (.int .u8 ((L.map λx=>UInt8.ofNat x.toNat)[j].toNat:Int)):=by
 have hj':j<L.length:=by simpa using h
 rw [Jiv _ _ hj']
 have hr:=hr _ (List.getElem_mem hj')
 simp only [List.getElem_map,List.getD_eq_getElem?_getD,List.getElem?_eq_getElem hj',Option.getD_some,UInt8.toNat_ofNat']
 congr 2
 omega
theorem Jhm (l:List UInt8) (j:Nat) (h:j<(digL l).length):(arr8 (asB (shaS l) 32))[j]? =some (.int .u8 ((digL l)[j].toNat:Int)):=
 JfO (asB (shaS l) 32) j (Jhe _ _) h

theorem Jjg (n:Nat) (s:ByteArray) (w:World) (h1:1<=n) (h32:n<=32) (hs:s.size<1152921504606846976) (h7:13<w.heap.size) (hT:∀i,i<64->w.cell? ⟨13,i,none⟩=some (.int .u32 (Ks.getD i 0))):
  Calls prog 130 #[.int .i64 (n:Int),.string s] w λe w'=>e=.returned (.string ⟨((digL s.data.toList).take n).toArray⟩)/\Below w.heap.size w w':=by
 have HT:Hid _:=hT
 clear hT
 go_enter func130,ntmps130
 go_wp2_with fail
 refine (Jk8 s _ hs h7 HT.out).mono ?_
 rintro _ w1 ⟨rfl,hB⟩
 have hA32:(arr8 (asB (shaS s.data.toList) 32)).size=32:=Jbn _ (by rw [YN];omega)
 have hA1:(arr8 (asB (shaS s.data.toList) 32)).all (·.oneCell')=true:=Jcf _
 have HC:Hid (∀j (hj:j<(digL s.data.toList).length),(arr8 (asB (shaS s.data.toList) 32))[j]? =some (.int .u8 ((digL s.data.toList)[j].toNat:Int))):=λj hj=>Jhm _ j hj
 generalize arr8 (asB (shaS s.data.toList) 32)=A at *
 have hi:(prog.info? 335).map (·.size)=some A.size:=by rw [hA32];kernel_rfl
 have hBc:∀o,Below w.heap.size w ((w1.alloc o).setRow w1.heap.size A):=λo=>Xt (hB.alloc hB.size _) hB.size _
 have hconv:∀C,(convert 52 9 (.slice (some ⟨w1.heap.size,0,none⟩) n 32)).run prog ((w1.alloc (.cells C 335)).setRow w1.heap.size A)=.ok (.string ⟨((digL s.data.toList).take n).toArray⟩) ((w1.alloc (.cells C 335)).setRow w1.heap.size A):=by
  intro C
  have hrow:((w1.alloc (.cells C 335)).setRow w1.heap.size A).heap[w1.heap.size]? =some (.cells A 335):=setRow_heap _ _ _ _ _ _ (heap_alloc_new _ _)
  have hl:((digL s.data.toList).take n).length=n:=by rw [List.length_take,ZL];omega
  have:=run_convert_bytes_back (P:=prog) ((w1.alloc (.cells C 335)).setRow w1.heap.size A) 52 9 5 ⟨w1.heap.size,0,none⟩ 32 ((digL s.data.toList).take n) underlying52 underlying5 underlying9 (λj hj=>by
   rw [Addr.add_lit,Nat.zero_add,cell_of_row _ _ _ _ _ _ hrow]
   have hj2:j<(digL s.data.toList).length:=by rw [List.length_take] at hj;omega
   rw [HC.out j hj2]
   simp)
  rw [hl] at this
  exact this
 have h32i:(n:Int)<=32:=by omega
 have h32:¬32=0:=by omega
 go_wp2_with (refine wpList_store_row rfl 335 _ _ rfl w1.heap.size A rfl rfl 335 _ (heap_alloc_new _ _) hi (by rw [hA32];rfl) hA1 ?_)
 all_goals go_ret
 all_goals exact ⟨rfl,hBc _⟩

theorem Zb (n:Nat) (w:World) (h1:1<=n) (h32:n<=32):
  Calls prog 124 #[.int .i64 (n:Int)] w λe w'=>e=.returned .nilIface/\w=w':=by
 have a1:¬(n:Int)<1:=by omega
 have a2:¬(32:Int)<(n:Int):=by omega
 go_enter func124,ntmps124
 go_wp2
 go_ret
 exact ⟨rfl,rfl⟩
theorem Jhn (n:Nat) (s:ByteArray) (w:World) (h1:1<=n) (h32:n<=32) (hs:s.size<1152921504606846976) (h7:13<w.heap.size) (hT:∀i,i<64->w.cell? ⟨13,i,none⟩=some (.int .u32 (Ks.getD i 0))):
  Calls prog 73 #[.int .i64 (n:Int),.string s] w λe w'=>e=.returned (.tuple #[.string ⟨((digL s.data.toList).take n).toArray⟩,.int .i64 0])/\Below w.heap.size w w':=by
 have HT:Hid _:=hT
 clear hT
 go_enter func73,ntmps73
 go_wp2_with fail
 refine (Zb n _ h1 h32).mono ?_
 rintro _ _ ⟨rfl,rfl⟩
 go_wp2_with fail
 refine (Jjg n s _ h1 h32 hs h7 HT.out).mono ?_
 rintro _ w1 ⟨rfl,hB⟩
 go_wp2
 go_ret2
 exact ⟨rfl,hB⟩

def dgW (wj:Nat) (l:List UInt8):ByteArray:=⟨((digL l).take wj).toArray⟩
theorem Jq (wj:Nat) (hw:wj<=32) (l:List UInt8):(dgW wj l).size=wj:=by
 show ((digL l).take wj).toArray.size=wj
 simp [ZL];omega
