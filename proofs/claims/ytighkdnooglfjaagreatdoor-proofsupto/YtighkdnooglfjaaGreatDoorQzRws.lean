import Derived.WalkSpells
import Derived.Deep.Upon
import Derived.Lib.ConvBytes
import Derived.Test.YtighkdnooglfjaaGreatDoorProg
import Derived.WalkLawsBesides
import Derived.BigQuiet
import Derived.Shelf.Strconv.Itoa3
import Derived.Lib.ItoaLen
import Derived.Shelf.Strconv.Clone
import Derived.Shelf.Strings.Repeat
import Derived.Deep.RegionHeld3
open Go renaming Calls->aB,Value->aG,World->aA
open Go.Ending renaming returned->aC
open Go.IntKind renaming i64->I,u32->aF,u64->aD,u8->aE,u64->lN,signed->l9,wrap->lr,bits->lu
open Go.Obj renaming cells->T
open Go.Proofs.Tryz renaming prog->N
open Go.RowKit renaming Hid->J
open Go.Value renaming agg->aH,iface->aJ,int->O,nilIface->aK,pointer->X,slice->R,string->L,tuple->aI,int->lQ,oneCell'->l8
open Option renaming none->Y,some->Z,getD_some->ly,bind_some->lz
open Or renaming inl->aM,inr->aN
open Array renaming getElem?_eq_some_iff->lC,getD->l5,all_eq_true_iff_forall_mem->lh,replicate->lq
open Go.Builtin renaming zeroCells->lx,append_->oC
open ByteArray renaming data_extract->lJ
open List renaming replicate->lE,getD_eq_getElem?_getD->lF,length_append->lI,getElem?_eq_some_iff->lK,getElem?_append_left->lM,eq_nil_of_length_eq_zero->lO,setIfInBounds_toArray->lP,getElem?_eq_getElem->lS,mem_cons_self->lT,getElem?_append->lX,getElem?_append_right->lY,extract_eq_take_drop->lZ,append_assoc->ld,take_of_length_le->lf,take_succ_eq_append_getElem->li,getElem_mem->ll,length_take->lm,mem_append->lp,mem_singleton->lw,all_eq_true->oA
open Nat renaming le_refl->lG,lt_of_lt_of_le->lH,zero_add->l6,le_trans->oB
open Go.Region renaming ready->lD,wanted->lU,Mode->lW
open UInt8 renaming ofNat->lV
open Go.World renaming cell?_of_block->lR
set_option maxRecDepth 100000
set_option maxHeartbeats 1000000
namespace Go.Proofs.YtighkdnooglfjaaGreatDoor
open Go.RowKit

variable {a:Act}{ops:Array Oper}{Q:Exit->Act->aA->Prop}{wj:Int}{l:List (Nat×Nat)}{rest:List Oper}{done news:List UInt8}{xs:List aG}{B B' b base:Nat}{S S':Nat->Prop}{fr:Nat×Nat}{g g1:Option Nat}{P:Program}{α:Type}{t:TypeId}{err v v1:aG}{W w w' w1:aA}
def rowP(w:aA)(b:Nat):List aG->Prop
 | [x0]=>w.cell? ⟨b,0,Y⟩=Z x0
 | [x0,x1]=>w.cell? ⟨b,0,Y⟩=Z x0/\w.cell? ⟨b,1,Y⟩=Z x1
 | [x0,x1,x2]=>w.cell? ⟨b,0,Y⟩=Z x0/\w.cell? ⟨b,1,Y⟩=Z x1/\w.cell? ⟨b,2,Y⟩=Z x2
 | [x0,x1,x2,x3]=>w.cell? ⟨b,0,Y⟩=Z x0/\w.cell? ⟨b,1,Y⟩=Z x1/\w.cell? ⟨b,2,Y⟩=Z x2/\w.cell? ⟨b,3,Y⟩=Z x3
 | [x0,x1,x2,x3,x4]=>w.cell? ⟨b,0,Y⟩=Z x0/\w.cell? ⟨b,1,Y⟩=Z x1/\w.cell? ⟨b,2,Y⟩=Z x2/\w.cell? ⟨b,3,Y⟩=Z x3/\w.cell? ⟨b,4,Y⟩=Z x4
 | [x0,x1,x2,x3,x4,x5]=>w.cell? ⟨b,0,Y⟩=Z x0/\w.cell? ⟨b,1,Y⟩=Z x1/\w.cell? ⟨b,2,Y⟩=Z x2/\w.cell? ⟨b,3,Y⟩=Z x3/\w.cell? ⟨b,4,Y⟩=Z x4/\w.cell? ⟨b,5,Y⟩=Z x5
 | [x0,x1,x2,x3,x4,x5,x6]=>w.cell? ⟨b,0,Y⟩=Z x0/\w.cell? ⟨b,1,Y⟩=Z x1/\w.cell? ⟨b,2,Y⟩=Z x2/\w.cell? ⟨b,3,Y⟩=Z x3/\w.cell? ⟨b,4,Y⟩=Z x4/\w.cell? ⟨b,5,Y⟩=Z x5/\w.cell? ⟨b,6,Y⟩=Z x6
 | [x0,x1,x2,x3,x4,x5,x6,x7]=>w.cell? ⟨b,0,Y⟩=Z x0/\w.cell? ⟨b,1,Y⟩=Z x1/\w.cell? ⟨b,2,Y⟩=Z x2/\w.cell? ⟨b,3,Y⟩=Z x3/\w.cell? ⟨b,4,Y⟩=Z x4/\w.cell? ⟨b,5,Y⟩=Z x5/\w.cell? ⟨b,6,Y⟩=Z x6/\w.cell? ⟨b,7,Y⟩=Z x7
 | [x0,x1,x2,x3,x4,x5,x6,x7,x8]=>w.cell? ⟨b,0,Y⟩=Z x0/\w.cell? ⟨b,1,Y⟩=Z x1/\w.cell? ⟨b,2,Y⟩=Z x2/\w.cell? ⟨b,3,Y⟩=Z x3/\w.cell? ⟨b,4,Y⟩=Z x4/\w.cell? ⟨b,5,Y⟩=Z x5/\w.cell? ⟨b,6,Y⟩=Z x6/\w.cell? ⟨b,7,Y⟩=Z x7/\w.cell? ⟨b,8,Y⟩=Z x8
 | [x0,x1,x2,x3,x4,x5,x6,x7,x8,x9]=>w.cell? ⟨b,0,Y⟩=Z x0/\w.cell? ⟨b,1,Y⟩=Z x1/\w.cell? ⟨b,2,Y⟩=Z x2/\w.cell? ⟨b,3,Y⟩=Z x3/\w.cell? ⟨b,4,Y⟩=Z x4/\w.cell? ⟨b,5,Y⟩=Z x5/\w.cell? ⟨b,6,Y⟩=Z x6/\w.cell? ⟨b,7,Y⟩=Z x7/\w.cell? ⟨b,8,Y⟩=Z x8/\w.cell? ⟨b,9,Y⟩=Z x9
 | [x0,x1,x2,x3,x4,x5,x6,x7,x8,x9,x10]=>w.cell? ⟨b,0,Y⟩=Z x0/\w.cell? ⟨b,1,Y⟩=Z x1/\w.cell? ⟨b,2,Y⟩=Z x2/\w.cell? ⟨b,3,Y⟩=Z x3/\w.cell? ⟨b,4,Y⟩=Z x4/\w.cell? ⟨b,5,Y⟩=Z x5/\w.cell? ⟨b,6,Y⟩=Z x6/\w.cell? ⟨b,7,Y⟩=Z x7/\w.cell? ⟨b,8,Y⟩=Z x8/\w.cell? ⟨b,9,Y⟩=Z x9/\w.cell? ⟨b,10,Y⟩=Z x10
 | _=>True
theorem rows{l:List aG}(h:w.heap[b]? =Z (T ⟨l⟩ t fr)):rowP w b l:=by
 unfold rowP
 split
 all_goals
  repeat' apply And.intro
  all_goals first|trivial|exact cell_of_row _ _ _ _ _ _ h

def Bs(base:Nat)(w:aA)(v:aG)(xs:List aG):Prop:=
 (v=R Y 0 0/\xs=[])\/
 ∃g cap,v=R (Z ⟨g,0,Y⟩) xs.length cap/\base<=g/\g<w.heap.size/\xs.length<=cap/\cap<=maxLen/\
  (∀j u,xs[j]? =Z u->w.cell? ⟨g,j,Y⟩=Z u)/\∀j,j<cap->(w.cell? ⟨g,j,Y⟩).isSome=true/\w.frozen? ⟨g,j,Y⟩=false
theorem Bs.nil(base:Nat)(w:aA):Bs base w (R Y 0 0) []:=aM ⟨rfl,rfl⟩
theorem Bs.shape(h:Bs base w v xs):∃a c,v=R a xs.length c:=by
 rcases h with⟨rfl,rfl⟩|⟨g,cap,rfl,_⟩
 ·exact⟨Y,0,rfl⟩
 ·exact⟨_,_,rfl⟩
theorem Bs.shape3(h:Bs base w v xs):∃a m c,v=R a m c:=by
 obtain⟨a,c,h⟩:=h.shape;exact⟨a,_,c,h⟩
theorem Bs.grown{row:Option Nat}(h:Bs base w v xs)(hg:w.grownBy w' row)(Hd:∀k,row=Z k->k<base\/w.heap.size<=k):Bs base w' v xs:=by
 rcases h with h|⟨g,cap,hv,hb,H5,zi,hm,hc,hs⟩
 ·exact aM h
 ·have xm:w'.heap[g]? =w.heap[g]? :=hg.block g H5 (λe=>by rcases Hd g e.symm with h1|h1<;>omega);refine aN ⟨g,cap,hv,hb,lH H5 hg.size,zi,hm,λj u hu=>?_,λj hj=>?_⟩
  ·rw[lR (a:=⟨g,j,Y⟩) xm];exact hc j u hu
  ·rw[lR (a:=⟨g,j,Y⟩) xm,World.frozen?_of_block (a:=⟨g,j,Y⟩) xm];exact hs j hj
theorem Bs.alloc(h:Bs base w v xs)(o:Obj):Bs base (w.alloc o) v xs:=
 h.grown (row:=Y) (World.grownBy_alloc w o Y) (λ_ e=>by cases e)
theorem Bs.drew(h:Bs base w v xs):Bs base w.drew v xs:=h
theorem Bs.own(h:Bs base w v xs):∀k,v.ownBlock=Z k->base<=k/\k<w.heap.size:=by
 rcases h with⟨rfl,rfl⟩|⟨g,cap,rfl,hb,H5,_⟩
 ·intro k hk;cases hk
 ·intro k hk;cases hk;exact⟨hb,H5⟩

theorem Jby(g:Nat):∀(vs:List aG)(o:Nat)(w:aA),(w.setCells g o vs).tape=w.tape
 | [],_,_=>rfl
 | v::vs,o,w=>by
  rw[World.setCells,Jby g vs];rfl
def RowT(e:TypeId)(w:aA)(v:aG):Prop:=∀k,v.ownBlock=Z k->∃cur m,w.heap[k]? =Z (T cur e m)
theorem ZE(g:Nat):∀(vs:List aG)(o:Nat)(w:aA){cur:Array aG}{e:TypeId}{m:Nat×Nat},w.heap[g]? =Z (T cur e m)->∃cur m,(w.setCells g o vs).heap[g]? =Z (T cur e m)
 | [],_,_,_,_,_,h=>⟨_,_,h⟩
 | v::vs,o,w,cur,e,m,h=>by
  rw[World.setCells];have h1:=setCell_eq_setRow w g o cur e m v h;refine ZE g vs _ _ (cur:=cur.setIfInBounds o v) (m:=m) ?_;rw[h1];exact setRow_heap _ _ _ _ _ _ h
theorem Ja2(h:Bs base w v xs)
 (t tx ty e:TypeId) (i:TypeInfo) (z:aG) (ht:P.underlying t=Z (.slice e)) (hi:P.info? e=Z i) (hz:i.zero=Z z) (gP:i.size=1) (gJ:i.bytes=1) (qU:z.cells.size=1)
 (x:aG) (n:Nat) (news:List aG) (hs:Src P 1 tx x n news w) (nQ:xs.length+n<=140737488355328) (Ha:base<=w.heap.size):
  ∃v' w',(oC #[t,tx] ty #[v,x]).run P w=.ok v' w'/\Bs base w' v' (xs++news)/\w.grownBy w' v.ownBlock/\(v'.ownBlock=v.ownBlock\/∃k,v'.ownBlock=Z k/\w.heap.size<=k)/\(RowT e w v->RowT e w' v'):=by
 have jH:news.length=n:=by have:=hs.newsLen;omega
 have hml:xs.length+n<=maxLen:=by simp only[maxLen];omega
 have ef:Src P i.size tx x n news w:=by rw[gP];exact hs
 have grow:∀(bs:Option Addr)(sc:Nat),v=R bs xs.length sc->sc<xs.length+n->
   (Builtin.firstCells i.size xs.length (R bs xs.length sc)).run P w.drew=.ok xs.toArray w.drew->
   ∃v' w',(oC #[t,tx] ty #[v,x]).run P w=.ok v' w'/\Bs base w' v' (xs++news)/\w.grownBy w' v.ownBlock/\(v'.ownBlock=v.ownBlock\/∃k,v'.ownBlock=Z k/\w.heap.size<=k)/\(RowT e w v->RowT e w' v'):=by
  rintro bs sc rfl hg jP;have Hy:=run_append_grow_src (P:=P) w t tx ty e i z ht hi hz bs xs.length sc xs jP x n news ef hg (by omega) (growslice_fits hg (by rw[gJ];omega));have gI:=grownCap_ge w (xs.length+n) sc e;have hcm:=grownCap_le_maxLen w (xs.length+n) sc e hml;have Hi:((xs++news).toArray++lx z.cells (grownCap w (xs.length+n) sc e-(xs.length+n))).size=grownCap w (xs.length+n) sc e:=by rw[Array.size_append,List.size_toArray,size_zeroCells,qU,lI,jH];omega
  refine⟨_,_,Hy,aN ⟨w.heap.size,_,by rw[lI,jH],Ha,by simp,by rw[lI,jH];exact gI,hcm,λj u hu=>?_,λj hj=>⟨?_,?_⟩⟩,⟨rfl,rfl,rfl,by simp,λk hk _=>Below.heap_alloc w.drew _ k hk⟩,aN ⟨w.heap.size,rfl,lG _⟩,λ_ k hk=>by cases hk;exact⟨_,_,heap_alloc_new w.drew _⟩⟩
  ·have hj:=(lK.1 hu).1;have e1:=World.cell?_alloc_new w.drew ((xs++news).toArray++lx z.cells (grownCap w (xs.length+n) sc e-(xs.length+n))) e j;refine(show _=_ from e1).trans ?_;rw[Array.getElem?_append_left (by simpa using hj),List.getElem?_toArray];exact hu
  ·have e1:=World.cell?_alloc_new w.drew ((xs++news).toArray++lx z.cells (grownCap w (xs.length+n) sc e-(xs.length+n))) e j;rw[show (w.drew.alloc _).cell? ⟨w.heap.size,j,Y⟩=_ from e1,Array.getElem?_eq_getElem (by rw[Hi];exact hj)];rfl
  ·exact World.frozen?_alloc_new w.drew _ _ j
 rcases h with⟨rfl,rfl⟩|⟨g,cap,rfl,hb,H5,zi,hm,hc,vz⟩
 ·rcases Nat.eq_zero_or_pos n with h0|qX
  ·subst h0;obtain rfl:news=[]:=lO jH;exact⟨_,_,run_append_nothing (P:=P) w t tx ty e i ht hi Y 0 0 (lG _) x ef,aM ⟨rfl,rfl⟩,World.grownBy.refl _ _,aM rfl,λh=>h⟩
  ·exact grow Y 0 rfl (by simpa using qX) (run_firstCells_none w.drew i.size 0 0 0)
 ·by_cases tP:xs.length+n<=cap
  ·have vB:∀j,j<news.length->(w.cell? ⟨g,0+xs.length*i.size+j,Y⟩).isSome=true:=λj hj=>by
    rw[gP];simp only[l6,Nat.mul_one];exact(vz _ (by omega)).1
   have Hy:=run_append_room_src (P:=P) w t tx ty e i ht hi g 0 xs.length cap x n news ef tP vB
    (λj hj=>by rw[gP];simp only[l6,Nat.mul_one];exact(vz _ (by omega)).2)
   rw[gP]at Hy vB;simp only[l6,Nat.mul_one]at Hy vB;have ku:=World.cell?_setCells_in g news xs.length w vB;have eg:∀j,(j<xs.length\/xs.length+news.length<=j)->(w.setCells g xs.length news).cell? ⟨g,j,Y⟩=w.cell? ⟨g,j,Y⟩:=λj hj=>World.cell?_setCells_out g _ _ _ _ (λ_ _=>hj);have hk:=World.keptBut_setCells g (may:=λ_=>True) news xs.length w (λ_ _=>trivial);refine⟨_,_,Hy,aN ⟨g,cap,by rw[lI,jH],hb,lH H5 hk.size,by rw[lI,jH];exact tP,hm,λj u hu=>?_,λj hj=>⟨?_,(World.frozen?_setCells g _ _ _ _).trans (vz j hj).2⟩⟩,?_,aM rfl,λh k hk=>by cases hk;obtain⟨cur,m,hr⟩:=h g rfl;exact ZE g news _ w hr⟩
   ·by_cases hj:j<xs.length
    ·rw[lM hj]at hu;rw[eg j (aM hj)];exact hc j u hu
    ·rw[lY (by omega)]at hu;obtain⟨yS,rfl⟩:=lK.1 hu;have:=ku (j-xs.length) yS
     rwa [show xs.length+(j-xs.length)=j by omega]at this
   ·by_cases yS:xs.length<=j/\j<xs.length+news.length
    ·have:=ku (j-xs.length) (by omega);rw[show xs.length+(j-xs.length)=j by omega]at this;rw[this];rfl
    ·rw[eg j (by omega)];exact(vz j hj).1
   ·exact⟨World.os_setCells _ _ _ _,Jby _ _ _ _,World.output_setCells _ _ _ _,hk.size,λk kt Hd=>World.heap_setCells_other w g _ news kt (λe=>Hd (by rw[e];rfl))⟩
  ·refine grow (Z ⟨g,0,Y⟩) cap rfl (by omega) ?_;refine run_firstCells_some w.drew i.size xs.length ⟨g,0,Y⟩ xs.length cap xs (by rw[gP];omega) (λj u hu=>?_);rw[Addr.add_lit,l6];exact hc j u hu

theorem Jbt(h:Bs base w v xs)
 (t tx ty e:TypeId) (i:TypeInfo) (z:aG) (ht:P.underlying t=Z (.slice e)) (hi:P.info? e=Z i) (hz:i.zero=Z z) (gP:i.size=1) (gJ:i.bytes=1) (qU:z.cells.size=1)
 (x:aG) (n:Nat) (news:List aG) (hs:Src P 1 tx x n news w) (nQ:xs.length+n<=140737488355328) (Ha:base<=w.heap.size):
  ∃v' w',(oC #[t,tx] ty #[v,x]).run P w=.ok v' w'/\Bs base w' v' (xs++news)/\w.grownBy w' v.ownBlock/\(v'.ownBlock=v.ownBlock\/∃k,v'.ownBlock=Z k/\w.heap.size<=k):=by
 obtain⟨v',w',h1,h2,h3,h4,_⟩:=Ja2 h t tx ty e i z ht hi hz gP gJ qU x n news hs nQ Ha;exact⟨v',w',h1,h2,h3,h4⟩
theorem XH{o:Oper}(jd:o.guard=Y)(s x:Operand)(t tx e:TypeId)
 (ho:o.op=.call { callee:=.builtin .append,args:= #[s,x],argTypes:= #[t,tx] })
 (i:TypeInfo) (z:aG) (ht:P.underlying t=Z (.slice e)) (hi:P.info? e=Z i) (hz:i.zero=Z z) (gP:i.size=1) (gJ:i.bytes=1) (qU:z.cells.size=1)
 (hv:a.eval s=v) (h:Bs base w v xs)
 (xv:aG) (n:Nat) (news:List aG) (hx:a.eval x=xv) (hs:Src P 1 tx xv n news w) (nQ:xs.length+n<=140737488355328) (Ha:base<=w.heap.size)
 (hK:∀v' w',Bs base w' v' (xs++news)->w.grownBy w' v.ownBlock->(v'.ownBlock=v.ownBlock\/∃k,v'.ownBlock=Z k/\w.heap.size<=k)->wpList P ops Q rest (a.put o.dst v') w'):wpList P ops Q (o::rest) a w:=by
 refine wpList_plain jd λK zN=>?_;obtain⟨v',w',Hy,r,r2,r3⟩:=Jbt (P:=P) h t tx o.type e i z ht hi hz gP gJ qU xv n news hs nQ Ha;unfold Oper.wp;simp[execOp,ho,resolve,invoke,builtin,hv,hx,Hy,Result.andThen];exact zN _ _ (hK v' w' r r2 r3)

theorem Jcs{o:Oper}(jd:o.guard=Y)(s x:Operand)(t tx e:TypeId)
 (ho:o.op=.call { callee:=.builtin .append,args:= #[s,x],argTypes:= #[t,tx] })
 (i:TypeInfo) (z:aG) (ht:P.underlying t=Z (.slice e)) (hi:P.info? e=Z i) (hz:i.zero=Z z) (gP:i.size=1) (gJ:i.bytes=1) (qU:z.cells.size=1)
 (hv:a.eval s=v) (h:Bs base w v xs)
 (xv:aG) (n:Nat) (news:List aG) (hx:a.eval x=xv) (hs:Src P 1 tx xv n news w) (nQ:xs.length+n<=140737488355328) (Ha:base<=w.heap.size)
 (hK:∀v' w',Bs base w' v' (xs++news)->w.grownBy w' v.ownBlock->(v'.ownBlock=v.ownBlock\/∃k,v'.ownBlock=Z k/\w.heap.size<=k)->(RowT e w v->RowT e w' v')->wpList P ops Q rest (a.put o.dst v') w'):wpList P ops Q (o::rest) a w:=by
 refine wpList_plain jd λK zN=>?_;obtain⟨v',w',Hy,r,r2,r3,r4⟩:=Ja2 (P:=P) h t tx o.type e i z ht hi hz gP gJ qU xv n news hs nQ Ha;unfold Oper.wp;simp[execOp,ho,resolve,invoke,builtin,hv,hx,Hy,Result.andThen];exact zN _ _ (hK v' w' r r2 r3 r4)

theorem JfV(w:aA)(src dst e:TypeId)(s:ByteArray){u:TypeDesc}(hs:P.underlying src=Z u)(hd:P.underlying dst=Z (.slice e))(he:P.underlying e=Z (.int .u8))(hm:s.size<=maxLen):
  ∃v' w',(convert src dst (L s)).run P w=.ok v' w'/\Bs w.heap.size w' v' (byteCells s)/\w.grownBy w' Y:=by
 refine⟨_,_,Lib.run_convert_string_bytes w src dst e s hs hd he,aN ⟨w.heap.size,_,by rw[byteCells_length],lG _,by rw[Lib.bytesWorld_size];omega,by rw[byteCells_length];exact grownCap_ge _ _ _ _,grownCap_le_maxLen _ _ _ _ hm,λj u hu=>?_,λj hj=>⟨?_,?_⟩⟩,?_⟩
 ·have hj:=(lK.1 hu).1;rw[byteCells_length]at hj;rw[Lib.bytesWorld_cell w e s j hj];simp[byteCells]at hu;obtain⟨b,hb,rfl⟩:=hu;simp[lF,hb]
 ·have Hi:(Lib.bytesCells w e s).size=grownCap w s.size 0 e:=by
   have:=grownCap_ge w s.size 0 e;have e0:s.data.size=s.size:=rfl;simp[Lib.bytesCells,e0];omega
  simp[World.cell?,Lib.bytesWorld_at_new,Hi,hj]
 ·have Hi:(Lib.bytesCells w e s).size=grownCap w s.size 0 e:=by
   have:=grownCap_ge w s.size 0 e;have e0:s.data.size=s.size:=rfl;simp[Lib.bytesCells,e0];omega
  simp[World.frozen?,Lib.bytesWorld_at_new,Hi];omega
 ·exact⟨rfl,rfl,rfl,by rw[Lib.bytesWorld_size];omega,λk hk _=>Lib.bytesWorld_at_old w e s k hk⟩

theorem Yd{l:List UInt8}(h:Bs base w v (l.map λb=>lQ aE b.toNat))(src dst e:TypeId)(hs:P.underlying src=Z (.slice e))(he:P.underlying e=Z (.int .u8))(hd:P.underlying dst=Z .string):
  (convert src dst v).run P w=.ok (L ⟨l.toArray⟩) w:=by
 rcases h with⟨rfl,hx⟩|⟨g,cap,rfl,_,_,_,_,hc,_⟩
 ·obtain rfl:l=[]:=by simpa using hx
  rw[run_convert_bytes_string w src dst e Y 0 0 hs he hd];simp[Conv.bytesToString];rfl
 ·rw[List.length_map];exact run_convert_bytes_back w src dst e ⟨g,0,Y⟩ cap l hs he hd (λj hj=>by
   rw[Addr.add_lit,l6];exact hc j _ (by simp[hj]))
open Tryz

def rr(n:Nat)(x:Int):Int:=bits .or aF (x*2 ^ (32-n) % 4294967296) (x/2 ^ n)
theorem rot2(x:Int)(w:aA):
  aB N 338 #[O aF x,O I (-2)] w λe w'=>e=aC (O aF (rr 2 x))/\w=w':=by
 have hs:bits .and aD (lN.wrap (-2)) 31=30:=by decide
 go_enter func338,ntmps338;go_wp2;go_ret;exact⟨rfl,rfl⟩
theorem rot6(x:Int)(w:aA):
  aB N 338 #[O aF x,O I (-6)] w λe w'=>e=aC (O aF (rr 6 x))/\w=w':=by
 have hs:bits .and aD (lN.wrap (-6)) 31=26:=by decide
 go_enter func338,ntmps338;go_wp2;go_ret;exact⟨rfl,rfl⟩
theorem rot7(x:Int)(w:aA):
  aB N 338 #[O aF x,O I (-7)] w λe w'=>e=aC (O aF (rr 7 x))/\w=w':=by
 have hs:bits .and aD (lN.wrap (-7)) 31=25:=by decide
 go_enter func338,ntmps338;go_wp2;go_ret;exact⟨rfl,rfl⟩
theorem JqE(x:Int)(w:aA):
  aB N 338 #[O aF x,O I (-11)] w λe w'=>e=aC (O aF (rr 11 x))/\w=w':=by
 have hs:bits .and aD (lN.wrap (-11)) 31=21:=by decide
 go_enter func338,ntmps338;go_wp2;go_ret;exact⟨rfl,rfl⟩
theorem JqF(x:Int)(w:aA):
  aB N 338 #[O aF x,O I (-13)] w λe w'=>e=aC (O aF (rr 13 x))/\w=w':=by
 have hs:bits .and aD (lN.wrap (-13)) 31=19:=by decide
 go_enter func338,ntmps338;go_wp2;go_ret;exact⟨rfl,rfl⟩
theorem JqG(x:Int)(w:aA):
  aB N 338 #[O aF x,O I (-17)] w λe w'=>e=aC (O aF (rr 17 x))/\w=w':=by
 have hs:bits .and aD (lN.wrap (-17)) 31=15:=by decide
 go_enter func338,ntmps338;go_wp2;go_ret;exact⟨rfl,rfl⟩
theorem JqH(x:Int)(w:aA):
  aB N 338 #[O aF x,O I (-18)] w λe w'=>e=aC (O aF (rr 18 x))/\w=w':=by
 have hs:bits .and aD (lN.wrap (-18)) 31=14:=by decide
 go_enter func338,ntmps338;go_wp2;go_ret;exact⟨rfl,rfl⟩
theorem JqI(x:Int)(w:aA):
  aB N 338 #[O aF x,O I (-19)] w λe w'=>e=aC (O aF (rr 19 x))/\w=w':=by
 have hs:bits .and aD (lN.wrap (-19)) 31=13:=by decide
 go_enter func338,ntmps338;go_wp2;go_ret;exact⟨rfl,rfl⟩
theorem JqJ(x:Int)(w:aA):
  aB N 338 #[O aF x,O I (-22)] w λe w'=>e=aC (O aF (rr 22 x))/\w=w':=by
 have hs:bits .and aD (lN.wrap (-22)) 31=10:=by decide
 go_enter func338,ntmps338;go_wp2;go_ret;exact⟨rfl,rfl⟩
theorem JqK(x:Int)(w:aA):
  aB N 338 #[O aF x,O I (-25)] w λe w'=>e=aC (O aF (rr 25 x))/\w=w':=by
 have hs:bits .and aD (lN.wrap (-25)) 31=7:=by decide
 go_enter func338,ntmps338;go_wp2;go_ret;exact⟨rfl,rfl⟩

def sg0(x:Int):Int:=bits .xor aF (bits .xor aF (rr 7 x) (rr 18 x)) (x/8)
def sg1(x:Int):Int:=bits .xor aF (bits .xor aF (rr 17 x) (rr 19 x)) (x/1024)
def word(b0 b1 b2 b3:UInt8):Int:=
 bits .or aF (bits .or aF (bits .or aF ((b0.toNat:Int) % 4294967296*16777216 % 4294967296) ((b1.toNat:Int) % 4294967296*65536 % 4294967296)) ((b2.toNat:Int) % 4294967296*256 % 4294967296)) ((b3.toNat:Int) % 4294967296)
def nxW(b:List UInt8)(k:Nat)(l:List Int):Int:=
 if k<16 then word (b.getD (4*k) 0) (b.getD (4*k+1) 0) (b.getD (4*k+2) 0) (b.getD (4*k+3) 0)
 else (l.getD (k-16) 0+sg0 (l.getD (k-15) 0)+l.getD (k-7) 0+sg1 (l.getD (k-2) 0)) % 4294967296
def stW(b:List UInt8)(k:Nat)(l:List Int):List Int:=l++[nxW b k l]
def Wl(b:List UInt8):Nat->List Int
 | 0=>[]
 | k+1=>stW b k (Wl b k)
theorem XA(b:List UInt8)(k:Nat):(Wl b k).length=k:=by
 induction k with
 | zero=>rfl
 | succ k ih=>simp[Wl,stW,ih]
def arr(l:List Int):Array aG:=(l.map (lQ aF)++lE (64-l.length) (lQ aF 0)).toArray
theorem Jjv(l:List Int)(k:Nat)(hk:k<l.length):(arr l)[k]? =Z (O aF (l.getD k 0)):=by
 simp[arr,lX,hk,lF]
theorem JnP(l:List Int)(hk:l.length<64):(arr l)[l.length]? =Z (O aF 0):=by
 have:¬64-l.length=0:=by omega
 simp[arr,lX,List.getElem?_replicate];omega
theorem JnQ(l:List Int)(v:Int)(hk:l.length<64):(arr l).setIfInBounds l.length (O aF v)=arr (l++[v]):=by
 obtain⟨m,hm⟩:∃m,64-l.length=m+1:=⟨63-l.length,by omega⟩
 have tj:64-(l++[v]).length=m:=by simp;omega
 unfold arr;rw[hm,tj,List.replicate_succ];simp[lP]
abbrev W2(w:aA)(l:List Int)(n:Nat):aA:=((w.alloc (T (arr []) 486)).alloc (T (arr l) 486)).drewN n
theorem Jdq(w:aA)(l:List Int)(n:Nat):(W2 w l n).heap[w.heap.size+1]? =Z (T (arr l) 486):=heap_alloc2_new _ _ _
theorem Jdp(w:aA)(l:List Int)(k n:Nat)(hk:k<l.length):(W2 w l n).cell? ⟨w.heap.size+1,k,Y⟩=Z (O aF (l.getD k 0)):=by
 rw[cell_of_row _ _ _ _ _ _ (Jdq w l n)];exact Jjv l k hk
theorem Jlz(w:aA)(l:List Int)(k n:Nat)(hl:l.length=k)(hk:k<64):(W2 w l n).cell? ⟨w.heap.size+1,k,Y⟩=Z (O aF 0):=by
 subst hl;rw[cell_of_row _ _ _ _ _ _ (Jdq w l n)];exact JnP l hk
theorem Je4(w:aA)(l:List Int)(k n:Nat):(W2 w l n).frozen? ⟨w.heap.size+1,k,Y⟩=false:=frozen_of_row _ _ _ _ _ (Jdq w l n)
theorem JlA(w:aA)(l:List Int)(v:Int)(k n:Nat)(hl:l.length=k)(hk:k<64):(W2 w l n).setCell ⟨w.heap.size+1,k,Y⟩ (O aF v)=W2 w (l++[v]) n:=by
 subst hl;show ((((w.alloc (T (arr []) 486)).alloc (T (arr l) 486))).setCell ⟨w.heap.size+1,l.length,Y⟩ (O aF v)).drewN n=_;rw[World.setCell_alloc_at _ _ _ _ _ (by simp),JnQ l v hk]
theorem JgL(l:List Int)(h:l.length<=64):(arr l).size=64:=by simp[arr];omega
theorem Jjw(l:List Int):(arr l).all (·.oneCell')=true:=by
 rw[lh];intro v hv;simp[arr]at hv
 rcases hv with⟨a,_,rfl⟩|⟨_,rfl⟩<;>rfl
theorem Jly(w:aA)(l:List Int)(n:Nat):Below w.heap.size w (W2 w l n):=by
 have h:=((Below.refl w.heap.size w).alloc (lG _) (T (arr []) 486)).alloc (by simp) (T (arr l) 486);exact⟨h.os,h.tape,h.output,h.size,h.block⟩
theorem XJ{a:aA}(h:Below B a w){g:Nat}(hg:B<=g)(cs:Array aG):Below B a (w.setRow g cs):=
 ⟨h.os,h.tape,h.output,by simp;exact h.size,λk hk=>by rw[setRow_other _ _ _ _ (by omega)];exact h.block k hk⟩
theorem Jdt(b:ByteArray)(k j:Nat)(hb:b.size=64)(hk:k<16)(hj:j<4)(h:j<(b.extract (4*k) (4*k+4)).size):(b.extract (4*k) (4*k+4))[j]=b.data.toList.getD (4*k+j) 0:=by
 have h2:4*k+j<b.data.size:=by have:b.data.size=64:=hb;omega
 rw[ByteArray.getElem_eq_getElem_data];simp only[lJ,lF,Array.getElem_extract,Array.getElem?_toList];rw[Array.getElem?_eq_getElem h2];rfl

theorem Jk4(b:ByteArray)(w:aA)(hb:b.size=64):
  aB N 337 #[L b] w λe w'=>e=aC (aH (arr (Wl b.data.toList 64)))/\Below w.heap.size w w':=by
 go_enter func337,ntmps337;go_wp2;go_loopw [11] (λi wr=>∃k n:Nat,k<=16/\i=O I k/\wr=W2 w (Wl b.data.toList k) n) (λi _=>16-(intOf i).toNat)
 case atStart=>exact⟨0,0,by omega,rfl,rfl⟩
 case round=>
  obtain⟨k,n,hk,rfl,rfl⟩:=hrel
  by_cases H5:k<16
  ·go_wp2;have hl:=XA b.data.toList k;have hc:=Jlz w (Wl b.data.toList k) k n hl (by omega);have hf:=Je4 w (Wl b.data.toList k) k n;have hp:(b.extract (4*k) (4*k+4)).size=4:=(by simp;omega);have hs:=λv=>JlA w (Wl b.data.toList k) v k n hl (by omega);obtain⟨p,hp,uN,hw⟩:∃p:ByteArray,∃hp:p.size=4,b.extract (4*k) (4*k+4)=p/\nxW b.data.toList k (Wl b.data.toList k)=word p[0] p[1] p[2] p[3]:=by
    refine⟨_,hp,rfl,?_⟩;rw[Jdt b k 0 hb H5 (by omega),Jdt b k 1 hb H5 (by omega),Jdt b k 2 hb H5 (by omega),Jdt b k 3 hb H5 (by omega)];simp[nxW,H5]
   rw[uN];have HW:J (Wl b.data.toList (k+1)=Wl b.data.toList k++[word p[0] p[1] p[2] p[3]]):=(by rw[<-hw];rfl);have HS:J _:=hs;clear hw hs hl uN;generalize hW:W2 w (Wl b.data.toList k) n=W at *;clear hW;go_region;go_wp2;go_roundw
   case rel=>exact⟨k+1,n+1,by omega,by go_num,by rw[HW.out];exact congrArg World.drew (HS _)⟩
   case measure=>simp[intOf];omega
  ·have eh:J (k=16):=(by omega:k=16)
   go_wp2;go_loopw [6] (λi wr=>∃k n:Nat,16<=k/\k<=64/\i=O I k/\wr=W2 w (Wl b.data.toList k) n) (λi _=>64-(intOf i).toNat)
   case atStart=>exact⟨16,n,by omega,by omega,rfl,by rw[eh.out]⟩
   case round=>
    clear H5 hk eh;obtain⟨k,n,h16,hk,rfl,rfl⟩:=hrel
    by_cases H5:k<64
    ·have hl:=XA b.data.toList k;have hc:=Jlz w (Wl b.data.toList k) k n hl (by omega);have hf:=Je4 w (Wl b.data.toList k) k n;have h2:=Jdp w (Wl b.data.toList k) (k-2) n (by omega);have h7:=Jdp w (Wl b.data.toList k) (k-7) n (by omega);have h15:=Jdp w (Wl b.data.toList k) (k-15) n (by omega);have h16':=Jdp w (Wl b.data.toList k) (k-16) n (by omega);have HS:J (∀v,_):=λv=>JlA w (Wl b.data.toList k) v k n hl (by omega);have HW:J (Wl b.data.toList (k+1)=Wl b.data.toList k++[((Wl b.data.toList k).getD (k-16) 0+sg0 ((Wl b.data.toList k).getD (k-15) 0)+(Wl b.data.toList k).getD (k-7) 0+sg1 ((Wl b.data.toList k).getD (k-2) 0)) % 4294967296]):=by
      show stW b.data.toList k _=_;simp[stW,nxW,show ¬k<16 by omega]
     generalize (Wl b.data.toList k).getD (k-2) 0=x2 at *;generalize (Wl b.data.toList k).getD (k-7) 0=x7 at *;generalize (Wl b.data.toList k).getD (k-15) 0=x15 at *;generalize (Wl b.data.toList k).getD (k-16) 0=x16 at *;generalize hW:W2 w (Wl b.data.toList k) n=W at *;clear hW hl;go_wp2;go_region;go_wp2_with fail;refine(rot7 _ _).mono ?_;rintro e w'⟨rfl,rfl⟩;go_wp2_with fail;refine(JqH _ _).mono ?_;rintro e w'⟨rfl,rfl⟩;go_wp2_with fail;refine(JqG _ _).mono ?_;rintro e w'⟨rfl,rfl⟩;go_wp2_with fail;refine(JqI _ _).mono ?_;rintro e w'⟨rfl,rfl⟩;go_wp2_with fail;go_region;go_wp2;go_roundw
     case rel=>exact⟨k+1,n+2,by omega,by omega,by go_num,by rw[HW.out];exact congrArg (λx=>World.drew (World.drew x)) (HS _)⟩
     case measure=>simp[intOf];omega
    ·have dK:J (k=64):=(by omega:k=64)
     have hA:(arr (Wl b.data.toList k)).size=64:=JgL _ (by rw[XA];omega);have yA:(arr (Wl b.data.toList k)).all (·.oneCell')=true:=Jjw _;have hG:=Jdq w (Wl b.data.toList k) n;have nR:(W2 w (Wl b.data.toList k) n).heap[w.heap.size]? =Z (T (arr []) 486):=heap_alloc2_old _ _ _;have hB:Below w.heap.size w (W2 w (Wl b.data.toList k) n):=Jly _ _ _;generalize W2 w (Wl b.data.toList k) n=W at *;have HE:J (arr (Wl b.data.toList k)=arr (Wl b.data.toList 64)):=(by rw[dK.out]:arr (Wl b.data.toList k)=arr (Wl b.data.toList 64))
     generalize arr (Wl b.data.toList k)=A at *;have hi:(prog.info? 486).map (·.size)=Z A.size:=(by rw[hA];kernel_rfl);go_wp2_with (first|(refine wpList_load_row rfl 486 _ rfl (w.heap.size+1) rfl 486 A (0,0) (.array 64 429) hG underlying486 rfl hi ?_)|(refine wpList_store_row rfl 486 _ _ rfl w.heap.size A rfl rfl 486 (arr []) nR hi (by rw[hA];rfl) yA ?_));refine bodyPost_ret (v:=aH A) (results_cell_row results337 _ _ w.heap.size 486 A (0,0) (.array 64 429) rfl (setRow_heap _ _ _ _ _ _ nR) underlying486 rfl hi) rfl ⟨by rw[HE.out],XJ hB (lG _) _⟩

def Ks:List Int:=[1116352408,1899447441,3049323471,3921009573,961987163,1508970993,2453635748,2870763221,3624381080,310598401,607225278,1426881987,1925078388,2162078206,2614888103,3248222580,3835390401,4022224774,264347078,604807628,770255983,1249150122,1555081692,1996064986,2554220882,2821834349,2952996808,3210313671,3336571891,3584528711,113926993,338241895,666307205,773529912,1294757372,1396182291,1695183700,1986661051,2177026350,2456956037,2730485921,2820302411,3259730800,3345764771,3516065817,3600352804,4094571909,275423344,430227734,506948616,659060556,883997877,958139571,1322822218,1537002063,1747873779,1955562222,2024104815,2227730452,2361852424,2428436474,2756734187,3204031479,3329325298]
structure S8 where
 a:Int
 b:Int
 c:Int
 d:Int
 e:Int
 f:Int
 g:Int
 h:Int
def S8.val(s:S8):aG:=aH #[O aF s.a,O aF s.b,O aF s.c,O aF s.d,O aF s.e,O aF s.f,O aF s.g,O aF s.h]
def t1(k w:Int)(s:S8):Int:=
 s.h+bits .xor aF (bits .xor aF (rr 6 s.e) (rr 11 s.e)) (rr 25 s.e)+bits .xor aF (bits .and aF s.e s.f) (bits .and aF (bits .xor aF IntKind.u32.max s.e) s.g)+k+w
def maj(s:S8):Int:=bits .xor aF (bits .xor aF (bits .and aF s.a s.b) (bits .and aF s.a s.c)) (bits .and aF s.b s.c)
def rnd(k w:Int)(s:S8):S8:=
 ⟨((t1 k w s+bits .xor aF (bits .xor aF (rr 2 s.a) (rr 13 s.a)) (rr 22 s.a)) % 4294967296+maj s) % 4294967296,s.a,s.b,s.c,(s.d+t1 k w s % 4294967296) % 4294967296,s.e,s.f,s.g⟩
def addS(s t:S8):S8:=⟨(s.a+t.a) % 4294967296,(s.b+t.b) % 4294967296,(s.c+t.c) % 4294967296,(s.d+t.d) % 4294967296,(s.e+t.e) % 4294967296,(s.f+t.f) % 4294967296,(s.g+t.g) % 4294967296,(s.h+t.h) % 4294967296⟩
def toS(ws:List Int)(s:S8):Nat->S8
 | 0=>s
 | k+1=>rnd (Ks.getD k 0) (ws.getD k 0) (toS ws s k)
def comp(s:S8)(b:List UInt8):S8:=addS s (toS (Wl b 64) s 64)
theorem all8(x0 x1 x2 x3 x4 x5 x6 x7:Int):(#[lQ aF x0,O aF x1,O aF x2,O aF x3,O aF x4,O aF x5,O aF x6,O aF x7]).all (·.oneCell')=true:=by
 simp[l8]
theorem Jql(hb:Below W.heap.size W w1):(∀b o,b<W.heap.size->w1.cell? ⟨b,o,Y⟩=W.cell? ⟨b,o,Y⟩)/\(∀b o,b<W.heap.size->w1.frozen? ⟨b,o,Y⟩=W.frozen? ⟨b,o,Y⟩):=
 ⟨λb o h=>hb.cell (p:=⟨b,o,Y⟩) h,λb o h=>hb.frozen (p:=⟨b,o,Y⟩) h⟩

theorem JgS(s:S8)(b:ByteArray)(w:aA)(hb:b.size=64)(h7:13<w.heap.size)(hT:∀i,i<64->w.cell? ⟨13,i,Y⟩=Z (O aF (Ks.getD i 0))):
  aB N 277 #[s.val,L b] w λe w'=>e=aC (comp s b.data.toList).val/\Below w.heap.size w w':=by
 obtain⟨x0,x1,x2,x3,x4,x5,x6,x7⟩:=s;have HT:J _:=hT;unfold S8.val;go_enter func277,ntmps277;go_wp2_with fail;refine(Jk4 _ _ hb).mono ?_;rintro _ w1⟨rfl,hB⟩;obtain⟨hc,hf⟩:=Jql hB;have hA:(arr (Wl b.data.toList 64)).size=64:=JgL _ (by rw[XA];omega);have yA:(arr (Wl b.data.toList 64)).all (·.oneCell')=true:=Jjw _;have hAc:J (∀i,i<64->(arr (Wl b.data.toList 64))[i]? =Z (O aF ((Wl b.data.toList 64).getD i 0))):=λi hi=>Jjv _ _ (by rw[XA];exact hi);generalize arr (Wl b.data.toList 64)=A at *;have hi:(prog.info? 486).map (·.size)=Z A.size:=by rw[hA];kernel_rfl
 go_wp2_with (refine wpList_store_row rfl 486 _ _ rfl w1.heap.size A rfl rfl 486 _ (heap_alloc_new _ _) hi (by rw[hA];rfl) yA ?_);generalize hWc:(World.alloc w1 _).setRow w1.heap.size A=Wc;have hz:w.heap.size+1<w1.heap.size:=by have:=hB.size;simp at this;omega
 have qF:=(((Below.refl _ _).alloc (lG _) _).alloc (by simp) _).trans (hB.mono (by simp;omega));have nS:Below w.heap.size w Wc:=by rw[<-hWc];exact XJ (qF.alloc qF.size _) qF.size _
 have xm:∀k,k<w1.heap.size->Wc.heap[k]? =w1.heap[k]? :=λk hk=>by rw[<-hWc,setRow_other _ _ _ _ (by omega),Below.heap_alloc _ _ _ hk]
 have hw:Wc.heap[w1.heap.size]? =Z (T A 486):=by rw[<-hWc];exact setRow_heap _ _ _ _ _ _ (heap_alloc_new _ _)
 have HAc:J (∀i,i<64->Wc.cell? ⟨w1.heap.size,i,Y⟩=Z (O aF ((Wl b.data.toList 64).getD i 0))):=λi hi=>by rw[cell_of_row _ _ _ _ _ _ hw];exact hAc i hi
 have hTc:J (∀i,i<64->Wc.cell? ⟨13,i,Y⟩=Z (O aF (Ks.getD i 0))):=λi hi=>by rw[nS.cell (p:=⟨13,i,Y⟩) h7];exact HT i hi
 have hh:Wc.heap[w.heap.size]? =Z (T #[O aF x0,O aF x1,O aF x2,O aF x3,O aF x4,O aF x5,O aF x6,O aF x7] 434):=by rw[xm _ (by omega),hB.block _ (by simp;omega),heap_alloc2_old]
 have hr:Wc.heap[w.heap.size+1]? =Z (T #[O aF 0,O aF 0,O aF 0,O aF 0,O aF 0,O aF 0,O aF 0,O aF 0] 434):=by rw[xm _ (by omega),hB.block _ (by simp),heap_alloc2_new]
 obtain⟨g0,g1,g2,g3,g4,g5,g6,g7⟩:=rows hh;have Hr:J _:=hr;have Hh:J _:=hh;go_quiet (fail);go_wp2;generalize hS:(⟨x0,x1,x2,x3,x4,x5,x6,x7⟩:S8)=S;go_loopw [6,7,8,9,10,11,12,13,38] (λva vb vc vd ve vf vg vh i wr=>∃k n:Nat,k<=64/\i=O I k/\va=O aF (toS (Wl b.data.toList 64) S k).a/\vb=O aF (toS (Wl b.data.toList 64) S k).b/\vc=O aF (toS (Wl b.data.toList 64) S k).c/\vd=O aF (toS (Wl b.data.toList 64) S k).d/\ve=O aF (toS (Wl b.data.toList 64) S k).e/\vf=O aF (toS (Wl b.data.toList 64) S k).f/\vg=O aF (toS (Wl b.data.toList 64) S k).g/\vh=O aF (toS (Wl b.data.toList 64) S k).h/\wr=Wc.drewN n) (λ_ _ _ _ _ _ _ _ i _=>64-(intOf i).toNat)
 case atStart=>subst hS;exact⟨0,_,by omega,rfl,rfl,rfl,rfl,rfl,rfl,rfl,rfl,rfl,rfl⟩
 case round=>
  obtain⟨k,n,hk,rfl,rfl,rfl,rfl,rfl,rfl,rfl,rfl,rfl,rfl⟩:=hrel
  by_cases H5:k<64
  ·have c1:=HAc k H5;have c2:=hTc k H5;have kE:toS (Wl b.data.toList 64) S (k+1)=rnd (Ks.getD k 0) ((Wl b.data.toList 64).getD k 0) (toS (Wl b.data.toList 64) S k):=rfl;have uP:J _:=kE;generalize toS (Wl b.data.toList 64) S k=T0 at *;generalize (Wl b.data.toList 64).getD k 0=ww at *;generalize Ks.getD k 0=kk at *;obtain⟨ta,tb,tc,td,te,tf,tg,th⟩:=T0;dsimp only;go_wp2_with fail;refine(rot6 _ _).mono ?_;rintro _ _⟨rfl,rfl⟩;go_wp2_with fail;refine(JqE _ _).mono ?_;rintro _ _⟨rfl,rfl⟩;go_wp2_with fail;refine(JqK _ _).mono ?_;rintro _ _⟨rfl,rfl⟩;go_wp2_with fail;go_quiet (fail);go_wp2_with fail;refine(rot2 _ _).mono ?_;rintro _ _⟨rfl,rfl⟩;go_wp2_with fail;refine(JqF _ _).mono ?_;rintro _ _⟨rfl,rfl⟩;go_wp2_with fail;refine(JqJ _ _).mono ?_;rintro _ _⟨rfl,rfl⟩;go_wp2;go_roundw
   case rel=>exact⟨k+1,_,by omega,by go_num,by rw[uP.out];rfl,by rw[uP.out];rfl,by rw[uP.out];rfl,by rw[uP.out];rfl,by rw[uP.out];rfl,by rw[uP.out];rfl,by rw[uP.out];rfl,by rw[uP.out];rfl,rfl⟩
   case measure=>simp[intOf];omega
  ·have dK:J (k=64):=(by omega:k=64)
   obtain⟨g0,g1,g2,g3,g4,g5,g6,g7⟩:=rows Hh.out;have HE:J (toS (Wl b.data.toList 64) S k=toS (Wl b.data.toList 64) S 64):=(by rw[dK.out]:toS (Wl b.data.toList 64) S k=toS (Wl b.data.toList 64) S 64)
   generalize toS (Wl b.data.toList 64) S k=T0 at *;obtain⟨ta,tb,tc,td,te,tf,tg,th⟩:=T0;dsimp only;have hi8:(prog.info? 434).map (·.size)=Z 8:=(by kernel_rfl);go_wp2_with (refine wpList_store_row rfl 434 _ _ rfl (w.heap.size+1) #[O aF ((x0+ta) % 4294967296),O aF ((x1+tb) % 4294967296),O aF ((x2+tc) % 4294967296),O aF ((x3+td) % 4294967296),O aF ((x4+te) % 4294967296),O aF ((x5+tf) % 4294967296),O aF ((x6+tg) % 4294967296),O aF ((x7+th) % 4294967296)] rfl rfl 434 _ Hr hi8 rfl (all8 _ _ _ _ _ _ _ _) ?_);refine bodyPost_ret (v:=aH #[O aF ((x0+ta) % 4294967296),O aF ((x1+tb) % 4294967296),O aF ((x2+tc) % 4294967296),O aF ((x3+td) % 4294967296),O aF ((x4+te) % 4294967296),O aF ((x5+tf) % 4294967296),O aF ((x6+tg) % 4294967296),O aF ((x7+th) % 4294967296)]) (results_cell_row results277 _ _ (w.heap.size+1) 434 _ (0,0) (.array 8 429) rfl (setRow_heap (Wc.drewN n) _ _ _ _ _ Hr) underlying434 rfl hi8) rfl ⟨?_,?_⟩
   ·subst hS;unfold comp;rw[<-HE.out];rfl
   ·exact XJ (w:=Wc.drewN n) (g:=w.heap.size+1) ⟨nS.os,nS.tape,nS.output,nS.size,nS.block⟩ (by omega) _

theorem Jqr:(prog.info? 5).map (λi=>(i.zero,i.size,i.bytes))=Z (Z (O aE 0),1,1):=by kernel_rfl
def bc(l:List UInt8):List aG:=l.map λb=>lQ aE b.toNat
theorem YA(l:List UInt8):(bc l).length=l.length:=by simp[bc]
theorem Jaa(l m:List UInt8):bc (l++m)=bc l++bc m:=by simp[bc]
def slen:aG->Nat
 | R _ n _=>n
 | _=>0
def zs(n:Nat):Nat:=(119-n % 64) % 64
def be8(n k:Nat):List UInt8:=(List.range k).map λj=>lV (n/2 ^ (56-8*j))
theorem JlK(pre:List UInt8)(n j:Nat):bc (pre++be8 (n*8) (j+1))=bc (pre++be8 (n*8) j)++[O aE ((n:Int)*8/2 ^ (56-8*j) % 256)]:=by
 have h:be8 (n*8) (j+1)=be8 (n*8) j++[lV (n*8/2 ^ (56-8*j))]:=by simp[be8,List.range_succ]
 rw[h,<-ld,Jaa]
 congr 1
def padL(r:List UInt8)(n:Nat):List UInt8:=r++[128]++lE (zs r.length) 0++be8 (n*8) 8

theorem JoD(s:ByteArray)(n:Nat)(w:aA)(hs:s.size<64)(hn:n<1152921504606846976):
  aB N 278 #[L s,O I n] w λe w'=>e=aC (L ⟨(padL s.data.toList n).toArray⟩)/\Below w.heap.size w w':=by
 obtain⟨i0,hi,q9,gQ,jj⟩:=info_parts Jqr;obtain⟨v0,w0,Hy,kU,hg⟩:=JfV (P:=N) w 9 52 5 s underlying9 underlying52 underlying5 (by simp[maxLen];omega);have qF:=(Below.refl _ _).grown hg (lG _) (λ_ e=>by cases e);have yl:=byteCells_length s;go_enter func278,ntmps278;go_wp2_with (at_builtin;refine XH rfl _ _ 52 52 5 rfl i0 _ underlying52 hi q9 gQ jj rfl rfl (kU.alloc _) _ 1 [O aE 128] rfl (Src.ofSlice _ underlying52 _ 1 1 _ rfl (cell_one_new _ _ _) (by simp[l8])) (by rw[yl];omega) (by have:=hg.size;simp;omega) ?_;intro v1 w1 yZ nP _);have ej:Bs w.heap.size w1 v1 (bc (s.data.toList++[128]++lE 0 0)):=by simpa [bc,byteCells]using yZ
 have xz:Below w.heap.size w w1:=by refine(qF.alloc qF.size _).grown nP (by have:=qF.size;simp;omega) (λk e=>?_);exact(kU.own k e).1
 go_loopw [5] (λv wr=>∃k:Nat,k<=zs s.size/\Bs w.heap.size wr v (bc (s.data.toList++[128]++lE k 0))/\Below w.heap.size w wr) (λv _=>200-slen v)
 case atStart=>exact⟨0,Nat.zero_le _,ej,xz⟩
 case round=>
  obtain⟨k,hk,hb,hB⟩:=hrel;have hL:(bc (s.data.toList++[128]++lE k 0)).length=s.size+1+k:=by have:s.data.toList.length=s.size:=(by simp);rw[YA];simp;omega
  obtain⟨a,c,rfl⟩:∃a c,u5=R a (s.size+1+k) c:=by rw[<-hL];exact hb.shape
  have qU:zs s.size<64:=Nat.mod_lt _ (by omega)
  by_cases kt:k<zs s.size
  ·have ht:(((s.size:Int)+1+(k:Int)) % 64 != 56)=true:=by
    rw[bne_iff_ne];unfold zs at kt qU;omega
   have Hi:=hB.size;go_wp2_with (at_builtin;refine XH rfl _ _ 52 52 5 rfl i0 _ underlying52 hi q9 gQ jj rfl rfl (hb.alloc _) _ 1 [O aE 0] rfl (Src.ofSlice _ underlying52 _ 1 1 _ rfl (cell_one_new _ _ _) (by simp[l8])) (by rw[hL];omega) (by simp;omega) ?_;intro v2 w2 pO sA _);have zJ:Bs w.heap.size w2 v2 (bc (s.data.toList++[128]++lE (k+1) 0)):=(by have e:bc (s.data.toList++[128]++lE (k+1) 0)=bc (s.data.toList++[128]++lE k 0)++[O aE 0]:=(by rw[List.replicate_succ',<-ld,Jaa];rfl);rw[e];exact pO);have dL:=(hB.alloc hB.size _).grown sA (by simp;omega) (λk e=>(hb.own k e).1);obtain⟨a2,c2,kW⟩:=pO.shape;go_roundw
   case rel=>exact⟨k+1,by omega,zJ,dL⟩
   case measure=>have hL2:(bc (s.data.toList++[128]++lE k 0)++[lQ aE 0]).length=s.size+1+k+1:=(by rw[lI,hL];rfl);rw[kW,hL2];simp[slen];omega
  ·have ht:((s.size:Int)+1+(k:Int)) % 64=56:=(by unfold zs at kt hk qU;omega);have hkz:J (k=zs s.size):=(by omega:k=zs s.size)
   go_wp2;have HE:J (s.data.toList++[128]++lE k 0=s.data.toList++[128]++lE (zs s.data.toList.length) 0):=by show _=_;rw[hkz.out];simp
   generalize s.data.toList++[128]++lE k 0=pre at *;have hL0:pre.length=s.size+1+k:=(by rw[<-YA];exact hL);go_loopw [5,7] (λv i wr=>∃j:Nat,j<=8/\i=O I (56-8*(j:Int))/\Bs w.heap.size wr v (bc (pre++be8 (n*8) j))/\Below w.heap.size w wr) (λ_ i _=>(intOf i+8).toNat)
   case atStart=>exact⟨0,by omega,rfl,by simpa [be8]using hb,hB⟩
   case round=>
    clear hb hB ht hL kt hkz;obtain⟨j,hj,rfl,hb,hB⟩:=hrel;have hL:(bc (pre++be8 (n*8) j)).length=s.size+1+k+j:=by rw[YA];simp[be8,hL0]
    by_cases yS:j<8
    ·have Hi:=hB.size;go_wp2_with (at_builtin;refine XH rfl _ _ 52 52 5 rfl i0 _ underlying52 hi q9 gQ jj rfl rfl (hb.alloc _) _ 1 [_] rfl (Src.ofSlice _ underlying52 _ 1 1 _ rfl (cell_one_new _ _ _) (by simp[l8])) (by rw[hL];omega) (by simp;omega) ?_;intro v2 w2 pO sA _);have zJ:Bs w.heap.size w2 v2 (bc (pre++be8 (n*8) (j+1))):=(by rw[JlK];exact pO);have dL:=(hB.alloc hB.size _).grown sA (by simp;omega) (λk e=>(hb.own k e).1);exact⟨⟨j+1,by omega,congrArg (lQ I) (by omega),zJ,dL⟩,by simp only[intOf];omega⟩
    ·have hj8:J (j=8):=(by omega:j=8)
     have hstr:=Yd (P:=N) hb 52 9 5 underlying52 underlying5 underlying9;have vN:J (pre++be8 (n*8) j=padL s.data.toList n):=(by show _=_;rw[hj8.out,HE.out];rfl);generalize pre++be8 (n*8) j=fin at *;go_wp2;go_ret;exact⟨by rw[<-vN.out];rfl,hB⟩

def JaN(x:Int)(j:Nat):Int:=x/2 ^ (24-8*j) % 256
def S8.list(s:S8):List Int:=[s.a,s.b,s.c,s.d,s.e,s.f,s.g,s.h]
def asB(s:S8):Nat->List Int
 | 0=>[]
 | k+1=>asB s k++[JaN (s.list.getD (k/4) 0) (k % 4)]
theorem ZA(s:S8)(k:Nat):(asB s k).length=k:=by
 induction k with
 | zero=>rfl
 | succ k ih=>simp[asB,ih]
theorem JlH(s:S8)(k j:Nat)(hj:j<4):asB s (4*k+(j+1))=asB s (4*k+j)++[JaN (s.list.getD k 0) j]:=by
 show asB s (4*k+j)++[JaN (s.list.getD ((4*k+j)/4) 0) ((4*k+j) % 4)]=_;rw[show (4*k+j)/4=k by omega,show (4*k+j) % 4=j by omega]
def arr8(l:List Int):Array aG:=(l.map (lQ aE)++lE (32-l.length) (lQ aE 0)).toArray
theorem JlF(l:List Int)(k:Nat)(hk:k<l.length):(arr8 l)[k]? =Z (O aE (l.getD k 0)):=by
 simp[arr8,lX,hk,lF]
theorem JlE(l:List Int)(hk:l.length<32):(arr8 l)[l.length]? =Z (O aE 0):=by
 have:¬32-l.length=0:=by omega
 simp[arr8,lX,List.getElem?_replicate];omega
theorem JlG(l:List Int)(v:Int)(hk:l.length<32):(arr8 l).setIfInBounds l.length (O aE v)=arr8 (l++[v]):=by
 obtain⟨m,hm⟩:∃m,32-l.length=m+1:=⟨31-l.length,by omega⟩
 have tj:32-(l++[v]).length=m:=by simp;omega
 unfold arr8;rw[hm,tj,List.replicate_succ];simp[lP]
theorem Jcv(l:List Int)(h:l.length<=32):(arr8 l).size=32:=by simp[arr8];omega
theorem JdC(l:List Int):(arr8 l).all (·.oneCell')=true:=by
 rw[lh];intro v hv;simp[arr8]at hv
 rcases hv with⟨a,_,rfl⟩|⟨_,rfl⟩<;>rfl
abbrev W3(w:aA)(o:Obj)(l:List Int):aA:=((w.alloc o).alloc (T (arr8 []) 335)).alloc (T (arr8 l) 335)
theorem JfQ(w:aA)(o:Obj)(l:List Int):(W3 w o l).heap[w.heap.size+1+1]? =Z (T (arr8 l) 335):=by
 have:=heap_alloc_new ((w.alloc o).alloc (T (arr8 []) 335)) (T (arr8 l) 335);simpa using this
theorem Jpp(w:aA)(o:Obj)(l:List Int)(k:Nat)(hl:l.length=k)(hk:k<32):(W3 w o l).cell? ⟨w.heap.size+1+1,k,Y⟩=Z (O aE 0):=by
 subst hl;rw[cell_of_row _ _ _ _ _ _ (JfQ w o l)];exact JlE l hk
theorem Jj5(w:aA)(o:Obj)(l:List Int)(k:Nat):(W3 w o l).frozen? ⟨w.heap.size+1+1,k,Y⟩=false:=frozen_of_row _ _ _ _ _ (JfQ w o l)
theorem Jpq(w:aA)(o:Obj)(l:List Int)(v:Int)(k:Nat)(hl:l.length=k)(hk:k<32):(W3 w o l).setCell ⟨w.heap.size+1+1,k,Y⟩ (O aE v)=W3 w o (l++[v]):=by
 subst hl;rw[World.setCell_alloc_at _ _ _ _ _ (by simp),JlG l v hk]
theorem JlB(w:aA)(o:Obj)(l:List Int):Below w.heap.size w (W3 w o l):=
 (((Below.refl w.heap.size w).alloc (lG _) o).alloc (by simp) _).alloc (by simp;omega) _
theorem JpB(x0 x1 x2 x3 x4 x5 x6 x7:Int)(k:Nat)(hk:k<8)(w:aA):
  (Instr.index 434 (aH #[O aF x0,O aF x1,O aF x2,O aF x3,O aF x4,O aF x5,O aF x6,O aF x7]) (O I (k:Int))).run N w=.ok (O aF ((S8.list ⟨x0,x1,x2,x3,x4,x5,x6,x7⟩).getD k 0)) w:=by
 obtain rfl|rfl|rfl|rfl|rfl|rfl|rfl|rfl:k=0\/k=1\/k=2\/k=3\/k=4\/k=5\/k=6\/k=7:=by omega
 all_goals kernel_rfl

theorem JnR(s:S8)(w:aA):
  aB N 279 #[s.val] w λe w'=>e=aC (aH (arr8 (asB s 32)))/\Below w.heap.size w w':=by
 obtain⟨x0,x1,x2,x3,x4,x5,x6,x7⟩:=s;unfold S8.val;have rl:=JpB x0 x1 x2 x3 x4 x5 x6 x7;go_enter func279,ntmps279;go_wp2;generalize hS:(⟨x0,x1,x2,x3,x4,x5,x6,x7⟩:S8)=S at *;have rT:J _:=hS;generalize hO:(Obj.cells #[O aF x0,O aF x1,O aF x2,O aF x3,O aF x4,O aF x5,O aF x6,O aF x7] 434)=aQ;have HX:J _:=rl;clear rl;go_loopw [8] (λi wr=>∃k:Nat,k<=8/\i=O I k/\wr=W3 w aQ (asB S (4*k))) (λi _=>8-(intOf i).toNat)
 case atStart=>exact⟨0,by omega,rfl,rfl⟩
 case round=>
  obtain⟨k,hk,rfl,rfl⟩:=hrel
  by_cases H5:k<8
  ·have hx:=HX k H5;have HN:J (∀j:Nat,j<4->_):=λj hj=>JlH S k j hj;generalize S.list.getD k 0=x at hx HN;have hd:decide ((k:Int)<8)=true:=(by simp;omega);go_wp2;go_loopw [12] (λi wr=>∃j:Nat,j<=4/\i=O I j/\wr=W3 w aQ (asB S (4*k+j))) (λi _=>4-(intOf i).toNat)
   case atStart=>exact⟨0,by omega,rfl,rfl⟩
   case round=>
    obtain⟨j,hj,rfl,rfl⟩:=hrel
    by_cases yS:j<4
    ·have hl:=ZA S (4*k+j);have hc:=Jpp w aQ (asB S (4*k+j)) (4*k+j) hl (by omega);have hf:=Jj5 w aQ (asB S (4*k+j)) (4*k+j);have HS:J (∀v,_):=λv=>Jpq w aQ (asB S (4*k+j)) v (4*k+j) hl (by omega);generalize hW:W3 w aQ (asB S (4*k+j))=W at *;go_wp2;go_roundw
     case rel=>exact⟨j+1,by omega,by go_num,by rw[HN.out j yS];exact HS _⟩
     case measure=>simp[intOf];omega
    ·have HJ:J (4*k+j=4*(k+1)):=(by omega:4*k+j=4*(k+1))
     go_wp2;go_roundw
     case rel=>exact⟨k+1,by omega,by go_num,by rw[HJ.out]⟩
     case measure=>simp[intOf];omega
  ·have hk8:J (k=8):=(by omega:k=8)
   have hA:(arr8 (asB S (4*k))).size=32:=Jcv _ (by rw[ZA];omega);have yA:(arr8 (asB S (4*k))).all (·.oneCell')=true:=JdC _;have hG:=JfQ w aQ (asB S (4*k));have nR:(W3 w aQ (asB S (4*k))).heap[w.heap.size+1]? =Z (T (arr8 []) 335):=(by rw[Below.heap_alloc _ _ _ (by simp)];have:=heap_alloc_new (w.alloc aQ) (T (arr8 []) 335);simpa using this);have hB:Below w.heap.size w (W3 w aQ (asB S (4*k))):=JlB _ _ _;generalize W3 w aQ (asB S (4*k))=W at *;have HE:J (arr8 (asB S (4*k))=arr8 (asB S 32)):=(by rw[hk8.out]:arr8 (asB S (4*k))=arr8 (asB S 32))
   generalize arr8 (asB S (4*k))=A at *;have hi:(prog.info? 335).map (·.size)=Z A.size:=(by rw[hA];kernel_rfl);go_wp2_with (first|(refine wpList_load_row rfl 335 _ rfl (w.heap.size+1+1) rfl 335 A (0,0) (.array 32 5) hG underlying335 rfl hi ?_)|(refine wpList_store_row rfl 335 _ _ rfl (w.heap.size+1) A rfl rfl 335 (arr8 []) nR hi (by rw[hA];rfl) yA ?_));refine bodyPost_ret (v:=aH A) (results_cell_row results279 _ _ (w.heap.size+1) 335 A (0,0) (.array 32 5) rfl (setRow_heap _ _ _ _ _ _ nR) underlying335 rfl hi) rfl ⟨by rw[HE.out,<-rT.out],XJ hB (by omega) _⟩

def H0:S8:=⟨1779033703,3144134277,1013904242,2773480762,1359893119,2600822924,528734635,1541459225⟩
def JcP:aG->Nat
 | L s=>s.size
 | _=>0
def JV:Nat->S8->List UInt8->S8
 | 0,s,_=>s
 | n+1,s,l=>comp (JV n s l) ((l.drop (64*n)).take 64)

def shaS(l:List UInt8):S8:=
 JV ((padL (l.drop (64*(l.length/64))) l.length).length/64) (JV (l.length/64) H0 l) (padL (l.drop (64*(l.length/64))) l.length)
theorem set8(w:aA)(g:Nat)(t:TypeId)(old:Array aG)(v0 v1 v2 v3 v4 v5 v6 v7:aG)(ho:old.size=8)(h:w.heap[g]? =Z (T old t (0,0))):
  (((((((w.setCell ⟨g,0,Y⟩ v0).setCell ⟨g,1,Y⟩ v1).setCell ⟨g,2,Y⟩ v2).setCell ⟨g,3,Y⟩ v3).setCell ⟨g,4,Y⟩ v4).setCell ⟨g,5,Y⟩ v5).setCell ⟨g,6,Y⟩ v6).setCell ⟨g,7,Y⟩ v7=w.setRow g #[v0,v1,v2,v3,v4,v5,v6,v7]:=by
 rw[setCell_eq_setRow w g 0 old t (0,0) v0 h,
  setCell_eq_setRow _ g 1 _ t (0,0) v1 (setRow_heap _ _ _ _ _ _ h),setRow_setRow,
  setCell_eq_setRow _ g 2 _ t (0,0) v2 (setRow_heap _ _ _ _ _ _ h),setRow_setRow,
  setCell_eq_setRow _ g 3 _ t (0,0) v3 (setRow_heap _ _ _ _ _ _ h),setRow_setRow,
  setCell_eq_setRow _ g 4 _ t (0,0) v4 (setRow_heap _ _ _ _ _ _ h),setRow_setRow,
  setCell_eq_setRow _ g 5 _ t (0,0) v5 (setRow_heap _ _ _ _ _ _ h),setRow_setRow,
  setCell_eq_setRow _ g 6 _ t (0,0) v6 (setRow_heap _ _ _ _ _ _ h),setRow_setRow,
  setCell_eq_setRow _ g 7 _ t (0,0) v7 (setRow_heap _ _ _ _ _ _ h),setRow_setRow]
 refine congrArg (w.setRow g) ?_;obtain⟨l⟩:=old
 match l,ho with
 | [_,_,_,_,_,_,_,_],_=>simp
structure At8(w:aA)(g:Nat)(s:S8):Prop where
 row:w.heap[g]? =Z (T #[O aF s.a,O aF s.b,O aF s.c,O aF s.d,O aF s.e,O aF s.f,O aF s.g,O aF s.h] 434)

theorem Jda{wr:aA}{T0:S8}(C:S8)(hR:wr.heap[w.heap.size]? =Z (T (arr8 []) 335))(hA:At8 wr (w.heap.size+1) T0)(hB:Below w.heap.size w wr)(xz:Below wr.heap.size wr w1)(hN:w.heap.size+1<wr.heap.size):
  (((((((((w1.setCell ⟨w.heap.size+1,0,Y⟩ (O aF C.a)).setCell ⟨w.heap.size+1,1,Y⟩ (O aF C.b)).setCell ⟨w.heap.size+1,2,Y⟩ (O aF C.c)).setCell ⟨w.heap.size+1,3,Y⟩ (O aF C.d)).setCell ⟨w.heap.size+1,4,Y⟩ (O aF C.e)).setCell ⟨w.heap.size+1,5,Y⟩ (O aF C.f)).setCell ⟨w.heap.size+1,6,Y⟩ (O aF C.g)).setCell ⟨w.heap.size+1,7,Y⟩ (O aF C.h))).heap[w.heap.size]? =Z (T (arr8 []) 335)/\
  At8 ((((((((w1.setCell ⟨w.heap.size+1,0,Y⟩ (O aF C.a)).setCell ⟨w.heap.size+1,1,Y⟩ (O aF C.b)).setCell ⟨w.heap.size+1,2,Y⟩ (O aF C.c)).setCell ⟨w.heap.size+1,3,Y⟩ (O aF C.d)).setCell ⟨w.heap.size+1,4,Y⟩ (O aF C.e)).setCell ⟨w.heap.size+1,5,Y⟩ (O aF C.f)).setCell ⟨w.heap.size+1,6,Y⟩ (O aF C.g)).setCell ⟨w.heap.size+1,7,Y⟩ (O aF C.h)) (w.heap.size+1) C/\
  Below w.heap.size w ((((((((w1.setCell ⟨w.heap.size+1,0,Y⟩ (O aF C.a)).setCell ⟨w.heap.size+1,1,Y⟩ (O aF C.b)).setCell ⟨w.heap.size+1,2,Y⟩ (O aF C.c)).setCell ⟨w.heap.size+1,3,Y⟩ (O aF C.d)).setCell ⟨w.heap.size+1,4,Y⟩ (O aF C.e)).setCell ⟨w.heap.size+1,5,Y⟩ (O aF C.f)).setCell ⟨w.heap.size+1,6,Y⟩ (O aF C.g)).setCell ⟨w.heap.size+1,7,Y⟩ (O aF C.h)):=by
 have row1:=(xz.block _ hN).trans hA.row;rw[set8 w1 (w.heap.size+1) 434 _ _ _ _ _ _ _ _ _ rfl row1];refine⟨?_,⟨setRow_heap _ _ _ _ _ _ row1⟩,XJ (hB.trans (xz.mono hB.size)) (by omega) _⟩;rw[setRow_other _ _ _ _ (by omega),xz.block _ (by omega)];exact hR
theorem Jg0(r:ByteArray)(l:List UInt8)(n:Nat)(h:r.data.toList=l):(r.extract 0 n).data.toList=l.take n:=by
 subst h;simp[lJ]
theorem JgZ(r:ByteArray)(l:List UInt8)(n m:Nat)(h:r.data.toList=l.drop m):(r.extract n r.size).data.toList=l.drop (m+n):=by
 have hz:r.size=r.data.toList.length:=by simp
 rw[lJ,Array.toList_extract,lZ,<-List.drop_drop,<-h];exact lf (by rw[List.length_drop,<-hz];exact lG _)

theorem Jhv(r:List UInt8)(n:Nat):(padL r n).length % 64=0:=by
 simp[padL,be8,zs];omega
theorem Jf4(q:ByteArray)(h:q.size=0):q.toList.isEmpty=true:=by
 have hl:q.data.toList.length=0:=by rw[<-h];simp
 rw[ByteArray.toList_eq,lO hl];rfl
theorem JeT(q:ByteArray)(h:0<q.size):q.toList.isEmpty=false:=by
 have hl:q.data.toList.length=q.size:=by simp
 rw[ByteArray.toList_eq]
 cases hx:q.data.toList with
 | nil=>rw[hx]at hl;simp at hl;omega
 | cons _ _=>rfl

theorem JoN(s:ByteArray)(w:aA)(hs:s.size<1152921504606846976)(h7:13<w.heap.size)(hT:∀i,i<64->w.cell? ⟨13,i,Y⟩=Z (O aF (Ks.getD i 0))):
  aB N 199 #[L s] w λe w'=>e=aC (aH (arr8 (asB (shaS s.data.toList) 32)))/\Below w.heap.size w w':=by
 have HT:J _:=hT;go_enter func199,ntmps199;go_wp2;go_loopw [4] (λv wr=>∃(k:Nat)(r:ByteArray),64*k<=s.size/\v=L r/\r.data.toList=s.data.toList.drop (64*k)/\wr.heap[w.heap.size]? =Z (T (arr8 []) 335)/\At8 wr (w.heap.size+1) (JV k H0 s.data.toList)/\Below w.heap.size w wr) (λv _=>JcP v)
 case atStart=>exact⟨0,s,by omega,rfl,rfl,heap_alloc2_old _ _ _,⟨heap_alloc2_new _ _ _⟩,((Below.refl _ _).alloc (lG _) _).alloc (by simp) _⟩
 case round=>
  obtain⟨k,r,hk,rfl,(Hr:J _),hR,hA,hB⟩:=hrel;have hrs:r.size=s.size-64*k:=by have:r.data.toList.length=(s.data.toList.drop (64*k)).length:=(by rw[Hr]);simpa using this
  have hN:w.heap.size+1<wr.heap.size:=by have:=hA.row;exact(lC.1 this).1
  by_cases H5:64*(k+1)<=s.size
  ·have uP:J (JV (k+1) H0 s.data.toList=comp (JV k H0 s.data.toList) ((s.data.toList.drop (64*k)).take 64)):=rfl;have el:J ((r.extract 0 64).data.toList=(s.data.toList.drop (64*k)).take 64/\(r.extract 64 (s.size-64*k)).data.toList=s.data.toList.drop (64*(k+1))):=⟨Jg0 r _ 64 Hr,by rw[<-hrs,show 64*(k+1)=64*k+64 by omega];exact JgZ r _ 64 (64*k) Hr⟩
   generalize JV k H0 s.data.toList=T0 at *;have hZ:=hA.row;have HR:J _:=hZ;obtain⟨c0,c1,c2,c3,c4,c5,c6,c7⟩:=rows hZ;have f0:∀j,wr.frozen? ⟨w.heap.size+1,j,Y⟩=false:=λj=>frozen_of_row _ _ _ _ _ hZ;have gI:(64:Int)<=(r.size:Int):=(by omega);have dM:(r.extract 0 64).size=64:=(by simp;omega);have h7r:13<wr.heap.size:=(by omega);have HTr:J (∀i,i<64->wr.cell? ⟨13,i,Y⟩=Z (O aF (Ks.getD i 0))):=λi hi=>by rw[hB.cell (p:=⟨13,i,Y⟩) h7];exact HT i hi
   go_wp2;go_region_with (go_at_call 277;refine(JgS T0 _ _ ?_ ?_ ?_).mono ?_;exact dM;exact h7r;exact HTr.out;rintro _ w1⟨rfl,(kS:J _)⟩;have d0:=(kS.cell (p:=⟨w.heap.size+1,0,Y⟩) hN).trans c0;have d1:=(kS.cell (p:=⟨w.heap.size+1,1,Y⟩) hN).trans c1;have d2:=(kS.cell (p:=⟨w.heap.size+1,2,Y⟩) hN).trans c2;have d3:=(kS.cell (p:=⟨w.heap.size+1,3,Y⟩) hN).trans c3;have d4:=(kS.cell (p:=⟨w.heap.size+1,4,Y⟩) hN).trans c4;have d5:=(kS.cell (p:=⟨w.heap.size+1,5,Y⟩) hN).trans c5;have d6:=(kS.cell (p:=⟨w.heap.size+1,6,Y⟩) hN).trans c6;have d7:=(kS.cell (p:=⟨w.heap.size+1,7,Y⟩) hN).trans c7;have g0:∀j,_:=λj=>(kS.frozen (p:=⟨w.heap.size+1,j,Y⟩) hN).trans (f0 j);generalize hC:comp T0 _=C;have HC:J _:=hC;unfold S8.val)
   all_goals
    go_wp2;go_roundw
    case rel=>obtain⟨e1,e2,e3⟩:=Jda C hR hA hB ⟨kS.os,kS.tape,kS.output,kS.size,kS.block⟩ hN;exact⟨k+1,_,H5,rfl,el.2,e1,by rw[uP.out,<-el.out.1,HC.out];exact e2,e3⟩
    case measure=>simp[JcP];omega
  ·have hr64:r.size<64:=(by omega);generalize zt:JV k H0 s.data.toList=T0 at *;have kC:J _:=zt;have Hk:J (k=s.size/64):=(by omega:k=s.size/64)
   have gY:¬(64:Int)<=(r.size:Int):=(by omega);clear zt H5;go_wp2_with (go_at_call 278;refine(JoD r s.size _ hr64 hs).mono ?_;rintro _ w1⟨rfl,xz⟩);have dG:=(xz.block _ (by omega)).trans hR;have yA:At8 w1 (w.heap.size+1) T0:=⟨(xz.block _ hN).trans hA.row⟩
   have dL:=hB.trans (xz.mono hB.size);have HL:J ((padL r.data.toList s.size).length % 64=0):=Jhv _ _;generalize hP:padL r.data.toList s.size=PL at *;have HP:J _:=hP;go_loopw [4] (λv wr=>∃(j:Nat)(q:ByteArray),64*j<=PL.length/\v=L q/\q.data.toList=PL.drop (64*j)/\wr.heap[w.heap.size]? =Z (T (arr8 []) 335)/\At8 wr (w.heap.size+1) (JV j T0 PL)/\Below w.heap.size w wr) (λv _=>JcP v)
   case atStart=>exact⟨0,_,by omega,rfl,rfl,dG,yA,dL⟩
   case round=>
    obtain⟨j,q,hj,rfl,hq,hR,hA,hB⟩:=hrel;have hqs:q.size=PL.length-64*j:=(by have:q.data.toList.length=(PL.drop (64*j)).length:=(by rw[hq]);simpa using this);have hN:=(lC.1 hA.row).1
    by_cases H5:64*(j+1)<=PL.length
    ·have uP:J (JV (j+1) T0 PL=comp (JV j T0 PL) ((PL.drop (64*j)).take 64)):=rfl;have el:J ((q.extract 0 64).data.toList=(PL.drop (64*j)).take 64/\(q.extract 64 q.size).data.toList=PL.drop (64*(j+1))):=⟨Jg0 q _ 64 hq,by rw[show 64*(j+1)=64*j+64 by omega];exact JgZ q _ 64 (64*j) hq⟩
     generalize JV j T0 PL=T1 at *;have hZ:=hA.row;obtain⟨c0,c1,c2,c3,c4,c5,c6,c7⟩:=rows hZ;have f0:∀j,wr.frozen? ⟨w.heap.size+1,j,Y⟩=false:=λj=>frozen_of_row _ _ _ _ _ hZ;have gI:(64:Int)<=(q.size:Int):=(by omega);have dM:(q.extract 0 64).size=64:=(by simp;omega);have h7r:13<wr.heap.size:=(by omega);have HTr:J (∀i,i<64->wr.cell? ⟨13,i,Y⟩=Z (O aF (Ks.getD i 0))):=λi hi=>by rw[hB.cell (p:=⟨13,i,Y⟩) h7];exact HT i hi
     have Hd:=JeT q (by omega);clear hZ hq hqs;go_wp2;go_region_with (go_at_call 277;refine(JgS T1 _ _ ?_ ?_ ?_).mono ?_;exact dM;exact h7r;exact HTr.out;rintro _ w1⟨rfl,(kS:J _)⟩;have d0:=(kS.cell (p:=⟨w.heap.size+1,0,Y⟩) hN).trans c0;have d1:=(kS.cell (p:=⟨w.heap.size+1,1,Y⟩) hN).trans c1;have d2:=(kS.cell (p:=⟨w.heap.size+1,2,Y⟩) hN).trans c2;have d3:=(kS.cell (p:=⟨w.heap.size+1,3,Y⟩) hN).trans c3;have d4:=(kS.cell (p:=⟨w.heap.size+1,4,Y⟩) hN).trans c4;have d5:=(kS.cell (p:=⟨w.heap.size+1,5,Y⟩) hN).trans c5;have d6:=(kS.cell (p:=⟨w.heap.size+1,6,Y⟩) hN).trans c6;have d7:=(kS.cell (p:=⟨w.heap.size+1,7,Y⟩) hN).trans c7;have g0:∀j,_:=λj=>(kS.frozen (p:=⟨w.heap.size+1,j,Y⟩) hN).trans (f0 j);generalize hC:comp T1 _=C;have HC:J _:=hC;clear hC;unfold S8.val)
     all_goals
      go_wp2;go_roundw
      case rel=>obtain⟨e1,e2,e3⟩:=Jda C hR hA hB ⟨kS.os,kS.tape,kS.output,kS.size,kS.block⟩ hN;exact⟨j+1,_,H5,rfl,el.2,e1,by rw[uP.out,<-el.out.1,HC.out];exact e2,e3⟩
      case measure=>simp[JcP];omega
    ·have hLL:=HL.out;have Hj:J (j=PL.length/64):=(by omega:j=PL.length/64)
     have hem:=Jf4 q (by omega);generalize rI:JV j T0 PL=T1 at *;have H3:J _:=rI;have hZ:=hA.row;obtain⟨c0,c1,c2,c3,c4,c5,c6,c7⟩:=rows hZ;clear hZ hq hqs rI hLL H5 hj;go_wp2_with fail;refine(JnR T1 _).mono ?_;rintro _ w1⟨rfl,xz⟩;have nR:=(xz.block _ (by omega)).trans hR;have hBf:=hB.trans (xz.mono hB.size);clear xz c0 c1 c2 c3 c4 c5 c6 c7 hR hA hB;have sC:(arr8 (asB T1 32)).size=32:=Jcv _ (by rw[ZA];omega);have yA:(arr8 (asB T1 32)).all (·.oneCell')=true:=JdC _;have HE:J (arr8 (asB T1 32)=arr8 (asB (shaS s.data.toList) 32)):=(by show _=_;rw[<-H3.out,Hj.out,<-HP.out,Hr.out,<-kC.out,Hk.out];simp[shaS]);generalize arr8 (asB T1 32)=A at *;have hi:(prog.info? 335).map (·.size)=Z A.size:=(by rw[sC];kernel_rfl);go_wp2_with (refine wpList_store_row rfl 335 _ _ rfl w.heap.size A rfl rfl 335 (arr8 []) nR hi (by rw[sC];rfl) yA ?_);refine bodyPost_ret (v:=aH A) (results_cell_row results199 _ _ w.heap.size 335 A (0,0) (.array 32 5) rfl (setRow_heap _ _ _ _ _ _ nR) underlying335 rfl hi) rfl ⟨by rw[HE.out],XJ hBf (lG _) _⟩

def digL(l:List UInt8):List UInt8:=(asB (shaS l) 32).map λx=>lV x.toNat
theorem JfW(x:Int)(j:Nat):0<=JaN x j/\JaN x j<256:=⟨Int.emod_nonneg _ (by omega),Int.emod_lt_of_pos _ (by omega)⟩
theorem Jj8(s:S8)(k:Nat):∀x∈asB s k,0<=x/\x<256:=by
 induction k with
 | zero=>intro x hx;cases hx
 | succ k ih=>
  intro x hx;simp only[asB,lp,lw]at hx
  rcases hx with hx|rfl
  ·exact ih x hx
  ·exact JfW _ _
theorem JaP(l:List UInt8):(digL l).length=32:=by simp[digL,ZA]
theorem Jiq(aS:List Int)(j:Nat)(hr:∀x∈aS,0<=x/\x<256)(h:j<(aS.map λx=>lV x.toNat).length):(arr8 aS)[j]? =Z (O aE ((aS.map λx=>lV x.toNat)[j].toNat:Int)):=by
 have qn:j<aS.length:=by simpa using h
 rw[JlF _ _ qn];have hr:=hr _ (ll qn);simp only[List.getElem_map,lF,lS qn,ly,UInt8.toNat_ofNat']
 congr 2
 omega
theorem Jkh(l:List UInt8)(j:Nat)(h:j<(digL l).length):(arr8 (asB (shaS l) 32))[j]? =Z (O aE ((digL l)[j].toNat:Int)):=
 Jiq (asB (shaS l) 32) j (Jj8 _ _) h

theorem JmA(n:Nat)(s:ByteArray)(w:aA)(h1:1<=n)(nI:n<=32)(hs:s.size<1152921504606846976)(h7:13<w.heap.size)(hT:∀i,i<64->w.cell? ⟨13,i,Y⟩=Z (O aF (Ks.getD i 0))):
  aB N 130 #[O I (n:Int),L s] w λe w'=>e=aC (L ⟨((digL s.data.toList).take n).toArray⟩)/\Below w.heap.size w w':=by
 have HT:J _:=hT;go_enter func130,ntmps130;go_wp2_with fail;refine(JoN s _ hs h7 HT.out).mono ?_;rintro _ w1⟨rfl,hB⟩;have sC:(arr8 (asB (shaS s.data.toList) 32)).size=32:=Jcv _ (by rw[ZA];omega);have yA:(arr8 (asB (shaS s.data.toList) 32)).all (·.oneCell')=true:=JdC _;have HC:J (∀j (hj:j<(digL s.data.toList).length),_):=λj hj=>Jkh _ j hj;generalize arr8 (asB (shaS s.data.toList) 32)=A at *;have hi:(prog.info? 335).map (·.size)=Z A.size:=by rw[sC];kernel_rfl
 have nS:∀o,Below w.heap.size w ((w1.alloc o).setRow w1.heap.size A):=λo=>XJ (hB.alloc hB.size _) hB.size _;have hconv:∀C,(convert 52 9 (R (Z ⟨w1.heap.size,0,Y⟩) n 32)).run N ((w1.alloc (T C 335)).setRow w1.heap.size A)=.ok (L ⟨((digL s.data.toList).take n).toArray⟩) ((w1.alloc (T C 335)).setRow w1.heap.size A):=by
  intro C;have hZ:((w1.alloc (T C 335)).setRow w1.heap.size A).heap[w1.heap.size]? =Z (T A 335):=setRow_heap _ _ _ _ _ _ (heap_alloc_new _ _);have hl:((digL s.data.toList).take n).length=n:=by rw[lm,JaP];omega
  have:=run_convert_bytes_back (P:=N) ((w1.alloc (T C 335)).setRow w1.heap.size A) 52 9 5 ⟨w1.heap.size,0,Y⟩ 32 ((digL s.data.toList).take n) underlying52 underlying5 underlying9 (λj hj=>by
   rw[Addr.add_lit,l6,cell_of_row _ _ _ _ _ _ hZ];have yS:j<(digL s.data.toList).length:=(by rw[lm]at hj;omega);rw[HC.out j yS];simp)
  rw[hl]at this;exact this
 have h32i:(n:Int)<=32:=by omega
 have nI:¬32=0:=by omega
 go_wp2_with (refine wpList_store_row rfl 335 _ _ rfl w1.heap.size A rfl rfl 335 _ (heap_alloc_new _ _) hi (by rw[sC];rfl) yA ?_)
 all_goals go_ret
 all_goals exact⟨rfl,nS _⟩

theorem Ym(n:Nat)(w:aA)(h1:1<=n)(nI:n<=32):
  aB N 124 #[O I (n:Int)] w λe w'=>e=aC aK/\w=w':=by
 have a1:¬(n:Int)<1:=by omega
 have a2:¬(32:Int)<(n:Int):=by omega
 go_enter func124,ntmps124;go_wp2;go_ret;exact⟨rfl,rfl⟩
theorem Jki(n:Nat)(s:ByteArray)(w:aA)(h1:1<=n)(nI:n<=32)(hs:s.size<1152921504606846976)(h7:13<w.heap.size)(hT:∀i,i<64->w.cell? ⟨13,i,Y⟩=Z (O aF (Ks.getD i 0))):
  aB N 73 #[O I (n:Int),L s] w λe w'=>e=aC (aI #[L ⟨((digL s.data.toList).take n).toArray⟩,O I 0])/\Below w.heap.size w w':=by
 have HT:J _:=hT;go_enter func73,ntmps73;go_wp2_with fail;refine(Ym n _ h1 nI).mono ?_;rintro _ _⟨rfl,rfl⟩;go_wp2_with fail;refine(JmA n s _ h1 nI hs h7 HT).mono ?_;rintro _ w1⟨rfl,hB⟩;go_wp2;go_ret2;exact⟨rfl,hB⟩

theorem Qa:type_of% @lP:=@lP
theorem Qb:type_of% @List.set_cons_zero:=@List.set_cons_zero
theorem Qc:type_of% @List.set_cons_succ:=@List.set_cons_succ
theorem Qd:type_of% @lS:=@lS
theorem Qe:type_of% @lI:=@lI
theorem Qf:type_of% @heap_alloc_new:=@heap_alloc_new
theorem Qg:type_of% @frozen_of_row:=@frozen_of_row
theorem Qh:type_of% @Option.some.injEq:=@Option.some.injEq
theorem Qi:type_of% @setRow_heap:=@setRow_heap
theorem Qj:type_of% @setCell_eq_setRow:=@setCell_eq_setRow
theorem Qk:type_of% @lH:=@lH
theorem Ql:type_of% @lG:=@lG
theorem Qm:type_of% @oB:=@oB
theorem Qn:type_of% @lF:=@lF
theorem Qo:type_of% @lK:=@lK
theorem Qp:type_of% @List.length_cons:=@List.length_cons
theorem Qq:type_of% @results_cell_row:=@results_cell_row
theorem Qr:type_of% @World.block_lt_of_cell?:=@World.block_lt_of_cell?
theorem Qs:type_of% @ld:=@ld
theorem Qt:type_of% @lw:=@lw
theorem Qu:type_of% @lz:=@lz
theorem Qv:type_of% @List.length_nil:=@List.length_nil
theorem Qw:type_of% @Prod.mk.injEq:=@Prod.mk.injEq
theorem Qx:type_of% @ll:=@ll
theorem Qy:type_of% @Value.slice.injEq:=@Value.slice.injEq
theorem Qz:type_of% @lY:=@lY
theorem QA:type_of% @Array.length_toList:=@Array.length_toList
theorem QB:type_of% @lm:=@lm
theorem QC:type_of% @List.append_nil:=@List.append_nil
theorem QD:type_of% @List.not_mem_nil:=@List.not_mem_nil
theorem QE:type_of% @lp:=@lp
theorem QF:type_of% @lM:=@lM
theorem QG:type_of% @List.flatMap_cons:=@List.flatMap_cons
theorem QH:type_of% @List.cons.injEq:=@List.cons.injEq
theorem QI:type_of% @setRow_setRow:=@setRow_setRow
theorem QJ:type_of% @lC:=@lC
theorem QK:type_of% @bodyPost_ret:=@bodyPost_ret
theorem QL:type_of% @List.mem_map:=@List.mem_map
theorem QM:type_of% @List.length_map:=@List.length_map
theorem QN:type_of% @lT:=@lT
theorem QO:type_of% @List.mem_filter:=@List.mem_filter
theorem QP:type_of% @lO:=@lO
theorem QQ:type_of% @List.mem_cons_of_mem:=@List.mem_cons_of_mem
theorem QR:type_of% @li:=@li
theorem QS:type_of% @lf:=@lf
theorem QT:type_of% @List.mem_of_getElem?:=@List.mem_of_getElem?
abbrev BA:=ByteArray
theorem Ja{g j:Nat}{cs:Array aG}(hg:w.heap[g]? =Z (T cs t fr)):w.cell? ⟨g,j,Y⟩=cs[j]? :=cell_of_row w g j cs t fr hg
theorem noE{P:α->Prop}(a:α)(h:False):P a:=h.elim
theorem Jb{a:Array α}{i:Nat}{x:α}(h:a[i]? =Z x):i<a.size:=(lC.1 h).1
theorem _root_.Go.RowKit.Hid.o{p:Prop}(h:J p):p:=h
abbrev D:Nat->Prop:=λ_=>False
structure M(S:Nat->Prop)(w w':aA):Prop where
 os:w'.os=w.os
 tape:w'.tape=w.tape
 output:w'.output=w.output
 size:w.heap.size<=w'.heap.size
 block:∀k,k<w.heap.size->¬S k->w'.heap[k]? =w.heap[k]?
theorem M.refl(S:Nat->Prop)(w:aA):M S w w:=⟨rfl,rfl,rfl,lG _,λ_ _ _=>rfl⟩
theorem M.trans{a b c:aA}(h:M S a b)(k:M S' b c)(hs:∀j,S' j->S j\/a.heap.size<=j):M S a c:=
 ⟨k.os.trans h.os,k.tape.trans h.tape,k.output.trans h.output,oB h.size k.size,λj hj hn=>(k.block j (lH hj h.size) (λqn=>by rcases hs j qn with h1|h1;exact hn h1;omega)).trans (h.block j hj hn)⟩
theorem M.mono{a b:aA}(h:M S a b)(hs:∀j,S j->S' j\/a.heap.size<=j):M S' a b:=
 ⟨h.os,h.tape,h.output,h.size,λj hj hn=>h.block j hj (λqn=>by rcases hs j qn with h1|h1;exact hn h1;omega)⟩
theorem M.cell(h:M S w w'){p:Addr}(hp:p.block<w.heap.size)(hn:¬S p.block):w'.cell? p=w.cell? p:=lR (w:=w) (h.block p.block hp hn)
theorem M.of_below(h:Below B w w'):M (λk=>B<=k) w w':=⟨h.os,h.tape,h.output,h.size,λk _ hn=>h.block k (by omega)⟩
theorem M.below(h:M S w w')(hB:B<=w.heap.size)(hs:∀j,S j->B<=j):Below B w w':=⟨h.os,h.tape,h.output,h.size,λk hk=>h.block k (by omega) (λhj=>by have:=hs k hj;omega)⟩
theorem M.alloc(S:Nat->Prop)(w:aA)(o:Obj):M S w (w.alloc o):=⟨rfl,rfl,rfl,by simp,λk hk _=>Below.heap_alloc w o k hk⟩
theorem M.drewN(S:Nat->Prop)(w:aA)(n:Nat):M S w (w.drewN n):=⟨rfl,rfl,rfl,lG _,λ_ _ _=>rfl⟩
theorem M.setRow(w:aA)(g:Nat)(cs:Array aG):M (λk=>k=g) w (w.setRow g cs):=⟨rfl,rfl,rfl,by simp,λk _ hn=>setRow_other _ _ _ _ hn⟩
theorem M.grown{w w':aA}{row:Option Nat}(h:w.grownBy w' row):M (λk=>Z k=row) w w':=⟨h.os,h.tape,h.output,h.size,h.block⟩

theorem gPow:Tryz.prog.globalNamed "internal/strconv.uint64pow10" =Z 15:=by kernel_rfl
structure Env(E:Nat->Addr)(w:aA):Prop where
 size:18<=w.heap.size
 form:w.cell? ⟨7,0,Y⟩=Z (aJ 509 (X (Z (E 7))))
 tip:w.cell? ⟨0,0,Y⟩=Z (aJ 509 (X (Z (E 0))))
 input:w.cell? ⟨1,0,Y⟩=Z (aJ 509 (X (Z (E 1))))
 exist:w.cell? ⟨2,0,Y⟩=Z (aJ 509 (X (Z (E 2))))
 sum:w.cell? ⟨3,0,Y⟩=Z (aJ 509 (X (Z (E 3))))
 root:w.cell? ⟨4,0,Y⟩=Z (aJ 509 (X (Z (E 4))))
 range:w.cell? ⟨5,0,Y⟩=Z (aJ 509 (X (Z (E 5))))
 torn:w.cell? ⟨6,0,Y⟩=Z (aJ 509 (X (Z (E 6))))
 pow:Lib.TabIs Tryz.prog w "internal/strconv.uint64pow10" aD Lib.pow10Tab
 table:∀i,i<64->w.cell? ⟨13,i,Y⟩=Z (O aF (Ks.getD i 0))
theorem Env.tch{E:Nat->Addr}(h:Env E w)(k:M S w w')(hs:∀j,S j->18<=j):Env E w':=by
 have hc:∀b o,b<18->w'.cell? ⟨b,o,Y⟩=w.cell? ⟨b,o,Y⟩:=λb o hb=>k.cell (p:=⟨b,o,Y⟩) (lH hb h.size) (λhj=>by have:18<=b:=hs _ hj;omega);have uz:Lib.TabIs Tryz.prog w' "internal/strconv.uint64pow10" aD Lib.pow10Tab:=by have hb:=k.block 15 (lH (by decide) h.size) (λhj=>by have:=hs _ hj;omega);have:=h.pow;unfold Lib.TabIs World.var? at this ⊢;rw[gPow]at this ⊢;simp only[lz]at this ⊢;rw[hb];exact this
 exact⟨oB h.size k.size,(hc _ _ (by decide)).trans h.form,(hc _ _ (by decide)).trans h.tip,(hc _ _ (by decide)).trans h.input,(hc _ _ (by decide)).trans h.exist,(hc _ _ (by decide)).trans h.sum,(hc _ _ (by decide)).trans h.root,(hc _ _ (by decide)).trans h.range,(hc _ _ (by decide)).trans h.torn,uz,λi hi=>(hc _ _ (by decide)).trans (h.table i hi)⟩
abbrev eV(E:Nat->Addr)(g:Nat):aG:=aJ 509 (X (Z (E g)))

inductive PS where
 | rd (pre rest:List UInt8)
 | wr (done:List UInt8)
def Jd(w:aA)(b:Nat)(g:Option Nat)(wj:Int)(err:aG):PS->Prop
 | .rd pre rest=>g=Y/\w.heap[b]? =Z (T #[aJ 170 (X (Z ⟨b,0,Y⟩)),O I wj,err,L ⟨(pre++rest).toArray⟩,O I (pre.length:Int)] 174)
 | .wr done=>∃v,v.ownBlock=g/\Bs (b+1) w v (bc done)/\w.heap[b]? =Z (T #[aJ 153 (X (Z ⟨b,0,Y⟩)),O I wj,err,v] 161)
theorem Jd.lt{p:PS}(h:Jd w b g wj err p):b<w.heap.size:=by
 cases p with
 | rd q r=>exact(Jb h.2)
 | wr d=>obtain⟨v,_,_,h⟩:=h;exact(Jb h)
theorem Jd.own{p:PS}(h:Jd w b g wj err p):∀k,g=Z k->b<k/\k<w.heap.size:=by
 cases p with
 | rd q r=>intro k hk;rw[h.1]at hk;cases hk
 | wr d=>obtain⟨v,rfl,hb,_⟩:=h;intro k hk;have:=hb.own k hk;omega
theorem Jd.tch{p:PS}(h:Jd w b g wj err p)(k:M S w w')(hb:¬S b)(hg:∀j,g=Z j->¬S j):Jd w' b g wj err p:=by
 have H5:=h.lt
 cases p with
 | rd q r=>exact⟨h.1,(k.block b H5 hb).trans h.2⟩
 | wr d=>
  obtain⟨v,hv,kU,hZ⟩:=h;refine⟨v,hv,?_,(k.block b H5 hb).trans hZ⟩
  rcases kU with kU|⟨gg,cap,rfl,h1,h2,h3,h4,h5,h6⟩
  ·exact aM kU
  ·have xm:w'.heap[gg]? =w.heap[gg]? :=k.block gg h2 (hg gg (by rw[<-hv];rfl));refine aN ⟨gg,cap,rfl,h1,lH h2 k.size,h3,h4,λj u hu=>?_,λj hj=>?_⟩
   ·rw[lR (a:=⟨gg,j,Y⟩) xm];exact h5 j u hu
   ·rw[lR (a:=⟨gg,j,Y⟩) xm,World.frozen?_of_block (a:=⟨gg,j,Y⟩) xm];exact h6 j hj
def Jq(w:aA)(g g':Option Nat):Prop:=g'=g\/∃k,g'=Z k/\w.heap.size<=k
theorem Ta:type_of% @M.alloc:=@M.alloc
theorem Td:type_of% @M.drewN:=@M.drewN
theorem Ts:type_of% @M.setRow:=@M.setRow
theorem Te:type_of% @M.refl:=@M.refl
theorem Tg:type_of% @M.grown:=@M.grown

theorem Jnm(l:List UInt8)(n:Nat):((⟨l.toArray⟩:BA).extract n (⟨l.toArray⟩:BA).size)=⟨(l.drop n).toArray⟩:=by
 apply ByteArray.ext;have:(⟨l.toArray⟩:BA).size=l.length:=by simp[ByteArray.size]
 rw[this,lJ];apply Array.ext';simp[lZ];exact QS (by simp)
theorem Jnn(l:List UInt8)(n:Nat):((⟨l.toArray⟩:BA).extract 0 n)=⟨(l.take n).toArray⟩:=by
 apply ByteArray.ext;rw[lJ];apply Array.ext';simp
theorem Jh(l:List UInt8):(⟨l.toArray⟩:BA).size=l.length:=by simp[ByteArray.size]

theorem JoU(l:List UInt8)(a b:Nat):((⟨l.toArray⟩:BA).extract a b)=⟨((l.take b).drop a).toArray⟩:=by
 apply ByteArray.ext;rw[lJ];apply Array.ext';simp[lZ,List.drop_take]

theorem Jm2(b:Nat)(wj:Int)(err:aG)(pre rest:List UInt8)(k:Nat)(w:aA)(hp:Jd w b Y wj err (.rd pre rest))(hk:k<=pre.length):
  aB N 384 #[X (Z ⟨b,0,Y⟩),O I (k:Int)] w λe w'=>e=aC (L ⟨(pre.drop k).toArray⟩)/\∃n,w'=w.drewN n:=by
 have hZ:=hp.2;obtain⟨-, -, -,c3,c4⟩:=rows hZ;have Hi:pre.length<=(⟨(pre++rest).toArray⟩:BA).size:=by rw[Jh,Qe];omega
 have hx:(⟨(pre++rest).toArray⟩:BA).extract k pre.length=⟨(pre.drop k).toArray⟩:=by rw[JoU,List.take_left'];rfl
 generalize (⟨(pre.drop k).toArray⟩:BA)=rt at *;generalize (⟨(pre++rest).toArray⟩:BA)=r at *;generalize pre.length=n at *;go_enter func384,ntmps384;go_wp2;go_region
 all_goals go_wp2
 all_goals go_ret
 all_goals exact⟨rfl,1,rfl⟩

theorem Jee(E:Nat->Addr)(b:Nat)(wj:Int)(err x:aG)(pre rest:List UInt8)(n:Nat)(w:aA)(hE:Env E w)(hp:Jd w b Y wj err (.rd pre rest))(hb:pre.length+rest.length<=10000000000000)(hn:rest.length<n):
  aB N 385 #[X (Z ⟨b,0,Y⟩),x,O I (n:Int)] w λe w'=>e=aC (aI #[L ⟨#[]⟩,eV E 7])/\∃k,w'=w.drewN k:=by
 have hZ:=hp.2;obtain⟨-, -, -,c3,c4⟩:=rows hZ;have hf:=hE.form;have Hi:(⟨(pre++rest).toArray⟩:BA).size=pre.length+rest.length:=by rw[Jh,Qe]
 generalize (⟨(pre++rest).toArray⟩:BA)=r at *;have H5:(r.size:Int)-(pre.length:Int)<(n:Int):=by omega
 have yq:I.wrap ((r.size:Int)-(pre.length:Int))=(r.size:Int)-(pre.length:Int):=by simp[lr,lu,l9];omega
 generalize pre.length=m at *;go_enter func385,ntmps385;go_wp2;go_region
 all_goals go_wp2
 all_goals go_region
 all_goals go_wp2
 all_goals go_ret2
 all_goals exact⟨rfl,2,rfl⟩

theorem Jm1{pre rest:List UInt8}(n:Nat)(hp:Jd w b Y wj err (.rd pre rest))(hn:n<=rest.length):
  Jd (w.setCell ⟨b,4,Y⟩ (O I ((pre.length:Int)+(n:Int)))) b Y wj err (.rd (pre++rest.take n) (rest.drop n))/\M (λk=>k=b) w (w.setCell ⟨b,4,Y⟩ (O I ((pre.length:Int)+(n:Int)))):=by
 have hZ:=hp.2;have h1:=Qj w b 4 _ _ (0,0) (O I ((pre.length:Int)+(n:Int))) hZ;have r1:=Qi w b _ (#[aJ 170 (X (Z ⟨b,0,Y⟩)),O I wj,err,L ⟨(pre++rest).toArray⟩,O I (pre.length:Int)].setIfInBounds 4 (O I ((pre.length:Int)+(n:Int)))) _ _ hZ;rw[h1];refine⟨⟨rfl,?_⟩,Ts _ _ _⟩;rw[r1,Qs,List.take_append_drop];have:((pre++rest.take n).length:Int)=(pre.length:Int)+(n:Int):=by rw[Qe,QB];omega
 rw[this];rfl
theorem Jef(b:Nat)(wj:Int)(err x:aG)(pre rest:List UInt8)(n:Nat)(w:aA)(hp:Jd w b Y wj err (.rd pre rest))(hb:pre.length+rest.length<=10000000000000)(hn:n<=rest.length):
  aB N 385 #[X (Z ⟨b,0,Y⟩),x,O I (n:Int)] w λe w'=>e=aC (aI #[L ⟨(rest.take n).toArray⟩,aK])/\Jd w' b Y wj err (.rd (pre++rest.take n) (rest.drop n))/\M (λk=>k=b) w w':=by
 have hZ:=hp.2;obtain⟨-, -, -,c3,c4⟩:=rows hZ;have f4:w.frozen? ⟨b,4,Y⟩=false:=Qg _ _ _ _ _ hZ;have Hi:(⟨(pre++rest).toArray⟩:BA).size=pre.length+rest.length:=by rw[Jh,Qe]
 obtain⟨q1,q2⟩:=Jm1 n hp hn;have HS:J (∀k:Nat,aB N 384 #[X (Z ⟨b,0,Y⟩),O I (pre.length:Int)] ((w.drewN k).setCell ⟨b,4,Y⟩ (O I ((pre.length:Int)+(n:Int)))) λe w'=>e=aC (L ⟨(rest.take n).toArray⟩)/\∃m,w'=((w.drewN k).setCell ⟨b,4,Y⟩ (O I ((pre.length:Int)+(n:Int)))).drewN m):=λk=>by
  have:=Jm2 b wj err (pre++rest.take n) (rest.drop n) pre.length ((w.drewN k).setCell ⟨b,4,Y⟩ (O I ((pre.length:Int)+(n:Int)))) (Jm1 (w:=w.drewN k) n hp hn).1 (by rw[Qe];omega);rw[List.drop_left']at this
  ·exact this
  ·rfl
 have Q1:J (∀k:Nat,_):=λk=>Jm1 (w:=w.drewN k) n hp hn;generalize (⟨(rest.take n).toArray⟩:BA)=rt at *;generalize (⟨(pre++rest).toArray⟩:BA)=r at *;have H5:¬(r.size:Int)-(pre.length:Int)<(n:Int):=by omega
 have yq:I.wrap ((r.size:Int)-(pre.length:Int))=(r.size:Int)-(pre.length:Int):=by simp[lr,lu,l9];omega
 have bN:I.wrap ((pre.length:Int)+(n:Int))=(pre.length:Int)+(n:Int):=by simp[lr,lu,l9];omega
 generalize hm:(pre.length:Int)=m at *;have HM:J _:=hm;go_enter func385,ntmps385;go_wp2;go_region;go_wp2_with fail;refine(HS 1).mono ?_;rintro _ _⟨rfl,k,rfl⟩;obtain⟨q1,q2⟩:=Q1 1;have R1:J (Jd _ _ _ _ _ _):=q1;have R2:J (M _ _ _):=q2;go_wp2;go_ret2;exact⟨rfl,R1.o,((Td _ w 1).trans R2.o (λj h=>aM h)).trans (Td D _ k) (λj h=>h.elim)⟩
theorem Jlf(s:BA)(k:Nat)(h:k<s.size):s.data.toList.take (k+1)=s.data.toList.take k++[s[k]]:=by
 rw[QR (by simpa using h)];rfl
def numL(l:List UInt8):Nat:=l.foldl (λn c=>n*256+c.toNat) 0
theorem Jag(l:List UInt8)(c:UInt8):numL (l++[c])=numL l*256+c.toNat:=by simp[numL]
theorem Jl5(l:List UInt8):∀a:Nat,l.foldl (λn c=>n*256+c.toNat) a<(a+1)*256 ^ l.length:=by
 induction l with
 | nil=>intro a;simp
 | cons c l ih=>
  intro a;have hc:=UInt8.toNat_lt c;have h1:=ih (a*256+c.toNat);rw[List.foldl_cons,Qp,Nat.pow_succ];have h2:(a*256+c.toNat+1)*256 ^ l.length<=((a+1)*256)*256 ^ l.length:=Nat.mul_le_mul_right _ (by omega);have h3:(a+1)*(256 ^ l.length*256)=((a+1)*256)*256 ^ l.length:=by rw[Nat.mul_comm (256 ^ l.length) 256,Nat.mul_assoc]
  omega
theorem Ys(l:List UInt8):numL l<256 ^ l.length:=by have:=Jl5 l 0;simpa [numL]using this
theorem JK(x:Int)(h0:0<=x)(h:x<18446744073709551616):lN.wrap x=x:=by
 simp[lr,lu,l9];omega
theorem JoC(x:Nat)(c:UInt8)(hx:x<72057594037927936):bits .or aD ((x:Int)*256) (lN.wrap (c.toNat:Int))=((x*256+c.toNat:Nat):Int):=by
 have hc:c.toNat<256:=UInt8.toNat_lt c;have e1:(x:Int)*256=((x*256:Nat):Int):=by omega
 rw[e1,JK _ (by omega) (by omega),u64_or_nat _ _ (by omega) (by omega),nat_join 8 (x*256) c.toNat (by omega) (by omega)]

theorem Jgl(E:Nat->Addr)(b:Nat)(wj:Int)(err x:aG)(pre rest:List UInt8)(n:Nat)(w:aA)(hE:Env E w)(hp:Jd w b Y wj err (.rd pre rest))(hb:pre.length+rest.length<=10000000000000)(hn:rest.length<n):
  aB N 382 #[X (Z ⟨b,0,Y⟩),x,O I (n:Int)] w λe w'=>e=aC (aI #[O aD 0,eV E 7])/\∃k,w'=w.drewN k:=by
 go_enter func382,ntmps382;go_wp2_with fail;refine(Jee E b wj err _ pre rest n _ hE hp hb hn).mono ?_;rintro _ w1⟨rfl,k,rfl⟩;clear hE hp;go_wp2;go_loop [10,20] (λa i=>a=O aD 0/\i=O I 0) (λ_ _=>0)
 case atStart=>exact⟨rfl,rfl⟩
 case round=>obtain⟨rfl,rfl⟩:=hrel;go_wp2;go_ret2;exact⟨rfl,k,rfl⟩

theorem Jgm(b:Nat)(wj:Int)(err x:aG)(pre rest:List UInt8)(n:Nat)(w:aA)(hp:Jd w b Y wj err (.rd pre rest))(hb:pre.length+rest.length<=10000000000000)(hn:n<=rest.length)(h8:n<=8):
  aB N 382 #[X (Z ⟨b,0,Y⟩),x,O I (n:Int)] w λe w'=>e=aC (aI #[O aD (numL (rest.take n):Int),aK])/\Jd w' b Y wj err (.rd (pre++rest.take n) (rest.drop n))/\M (λk=>k=b) w w':=by
 go_enter func382,ntmps382;go_wp2_with fail;refine(Jef b wj err _ pre rest n _ hp hb hn).mono ?_;rintro _ W1⟨rfl,Hs,H6⟩;have Hq:J (Jd _ _ _ _ _ _):=Hs;have H3:J (M _ _ _):=H6;have hl:(rest.take n).length=n:=by rw[QB];omega
 have Hi:(⟨(rest.take n).toArray⟩:BA).size=n:=by rw[Jh,hl]
 have HB:J (∀k (h:k<(⟨(rest.take n).toArray⟩:BA).size),(rest.take n).take (k+1)=(rest.take n).take k++[(⟨(rest.take n).toArray⟩:BA)[k]]):=λk h=>Jlf ⟨(rest.take n).toArray⟩ k h;generalize hL:rest.take n=l at *;have HL:J (_=l):=hL;clear hL;generalize (⟨l.toArray⟩:BA)=r at *;go_wp2;go_loop [10,20] (λa i=>∃k:Nat,k<=n/\a=O aD (numL (l.take k):Int)/\i=O I k) (λ_ i=>n-(intOf i).toNat)
 case atStart=>exact⟨0,by omega,rfl,rfl⟩
 case round=>
  obtain⟨k,hk,rfl,rfl⟩:=hrel
  by_cases H5:k<n
  ·have gY:k<r.size:=(by omega);have hx:numL (l.take k)<72057594037927936:=by
    have h1:=Ys (l.take k);have h2:256 ^ (l.take k).length<=256 ^ 7:=Nat.pow_le_pow_right (by decide) (by rw[QB];omega);omega
   have ho:=JoC (numL (l.take k)) r[k] hx;have HN:J (numL (l.take (k+1))=numL (l.take k)*256+r[k].toNat):=(by show _=_;rw[HB.o k gY,Jag]);have HO:J _:=ho;clear ho;generalize numL (l.take k)=x at *;go_wp2;exact⟨⟨k+1,by omega,by rw[HO.o,HN.o],by go_num⟩,by simp[intOf];omega⟩
  ·have HK:J (l.take k=l):=QS (by omega);go_wp2;go_ret2;exact⟨congrArg (λl:List UInt8=>Ending.returned (aI #[O aD (numL l:Int),aK])) (HK.o.trans HL.o.symm),by rw[<-HL.o]at Hq;exact Hq.o,H3.o⟩
theorem JeD{o:Oper}{K:Act->aA->Prop}{E:Prop}
 (jd:o.guard=Y) (s x:Operand) (t tx e:TypeId) (ho:o.op=.call { callee:=.builtin .append,args:= #[s,x],argTypes:= #[t,tx] })
 (i:TypeInfo) (z:aG) (ht:P.underlying t=Z (.slice e)) (hi:P.info? e=Z i) (hz:i.zero=Z z) (gP:i.size=1) (gJ:i.bytes=1) (qU:z.cells.size=1)
 (hv:a.eval s=v) (h:Bs base w v xs)
 (xv:aG) (n:Nat) (news:List aG) (hx:a.eval x=xv) (hs:Src P 1 tx xv n news w) (nQ:xs.length+n<=140737488355328) (Ha:base<=w.heap.size)
 (hK:∀v' w',Bs base w' v' (xs++news)->w.grownBy w' v.ownBlock->(v'.ownBlock=v.ownBlock\/∃k,v'.ownBlock=Z k/\w.heap.size<=k)->K (a.put o.dst v') w'):
  if lU o (yielded ops a.tmps)=true then Oper.wp P o a w K Q else E:=by
 have hw:lU o (yielded ops a.tmps)=true:=by simp[lU,jd]
 rw[if_pos hw];obtain⟨v',w',Hy,r,r2,r3⟩:=Jbt (P:=P) h t tx o.type e i z ht hi hz gP gJ qU xv n news hs nQ Ha;unfold Oper.wp;simp[execOp,ho,resolve,invoke,builtin,hv,hx,Hy,Result.andThen];exact hK v' w' r r2 r3

theorem Jjq(E:Nat->Addr)(b:Nat)(s:BA)(n:Nat)(w:aA)(hE:Env E w)(hn:s.size ≠ n):
  aB N 381 #[X (Z ⟨b,0,Y⟩),L s,O I (n:Int)] w λe w'=>e=aC (aI #[L ⟨#[]⟩,eV E 7])/\∃k,w'=w.drewN k:=by
 have hf:=hE.form;have Hd:((s.size:Int) != (n:Int))=true:=by rw[bne_iff_ne];omega
 clear hE;go_enter func381,ntmps381;go_wp2;go_region;go_wp2;go_ret2;exact⟨rfl,1,rfl⟩

theorem Jhy(hb:b<w.heap.size)
 (hZ:w.heap[b]? =Z (T #[aJ 153 (X (Z ⟨b,0,Y⟩)),O I wj,err,v] 161))
 (kU:Bs (b+1) w v (bc done)) (h1:Bs (b+1) w1 v1 (bc done++bc news)) (hg:w.grownBy w1 v.ownBlock):
  Jd (w1.setCell ⟨b,3,Y⟩ v1) b v1.ownBlock wj err (.wr (done++news))/\M (λk=>k=b\/Z k=v.ownBlock) w (w1.setCell ⟨b,3,Y⟩ v1):=by
 have Hd:Z b ≠ v.ownBlock:=λe=>by have:=kU.own b e.symm;omega
 have yd:=(hg.block b hb Hd).trans hZ;have hs:=Qj w1 b 3 _ _ (0,0) v1 yd;have ht:M (λk=>k=b) w1 (w1.setCell ⟨b,3,Y⟩ v1):=by rw[hs];exact Ts _ _ _
 refine⟨⟨v1,rfl,?_,?_⟩,(Tg hg).mono (λj h=>aM (aN h)) |>.trans ht (λj h=>aM (aM h))⟩
 ·rw[Jaa];have hgr:w1.grownBy (w1.setCell ⟨b,3,Y⟩ v1) (Z b):=⟨ht.os,ht.tape,ht.output,ht.size,λk hk hn=>ht.block k hk (λe=>hn (by rw[e]))⟩
  exact h1.grown hgr (λk e=>by cases e;exact aM (by omega))
 ·rw[hs,Qi _ _ _ _ _ _ yd];rfl

theorem Jfy(hb:b<w.heap.size)
 (hZ:w.heap[b]? =Z (T #[aJ 153 (X (Z ⟨b,0,Y⟩)),O I wj,err,v] 161))
 (kU:Bs (b+1) w v xs) (hg:w.grownBy w1 v.ownBlock):w1.cell? ⟨b,3,Y⟩=Z v/\w1.frozen? ⟨b,3,Y⟩=false:=by
 have Hd:Z b ≠ v.ownBlock:=λe=>by have:=kU.own b e.symm;omega
 have yd:=(hg.block b hb Hd).trans hZ;exact⟨Ja yd,Qg _ _ _ _ _ yd⟩
theorem JkS{o:Obj}(hb:b<w.heap.size)
 (hZ:w.heap[b]? =Z (T #[aJ 153 (X (Z ⟨b,0,Y⟩)),O I wj,err,v] 161))
 (kU:Bs (b+1) w v xs) (hg:(w.alloc o).drew.grownBy w1 v.ownBlock):w1.cell? ⟨b,3,Y⟩=Z v/\w1.frozen? ⟨b,3,Y⟩=false:=
 Jfy (w:=(w.alloc o).drew) (by show b<(w.alloc o).heap.size;simp;omega) ((Below.heap_alloc w o b hb).trans hZ) (kU.alloc o) hg
theorem JkR{o:Obj}(hb:b<w.heap.size)
 (hZ:w.heap[b]? =Z (T #[aJ 153 (X (Z ⟨b,0,Y⟩)),O I wj,err,v] 161))
 (kU:Bs (b+1) w v (bc done)) (h1:Bs (b+1) w1 v1 (bc done++bc news)) (hg:(w.alloc o).drew.grownBy w1 v.ownBlock) (hm:Jq (w.alloc o).drew v.ownBlock v1.ownBlock) (hv:v.ownBlock=g):
  Jd (w1.setCell ⟨b,3,Y⟩ v1) b v1.ownBlock wj err (.wr (done++news))/\Jq w g v1.ownBlock/\M (λk=>k=b\/Z k=g) w (w1.setCell ⟨b,3,Y⟩ v1):=by
 subst hv;obtain⟨h2,h3⟩:=Jhy (w:=(w.alloc o).drew) (by show b<(w.alloc o).heap.size;simp;omega) ((Below.heap_alloc w o b hb).trans hZ) (kU.alloc o) h1 hg;refine⟨h2,?_,((Ta (λk=>k=b\/Z k=v.ownBlock) w o).trans (Td _ _ 1) (λj h=>aM h)).trans h3 (λj h=>aM h)⟩
 rcases hm with hm|⟨k,hk,zi⟩
 ·exact aM hm
 ·exact aN ⟨k,hk,by have:(w.alloc o).heap.size<=k:=zi;simp at this;omega⟩
theorem Jq.trans{g2:Option Nat}(h:Jq w g g1)(k:Jq w1 g1 g2)(hs:w.heap.size<=w1.heap.size):Jq w g g2:=by
 rcases k with rfl|⟨j,rfl,hj⟩
 ·exact h
 ·exact aN ⟨j,rfl,by omega⟩
theorem Yx{w2:aA}(h:M (λk=>k=b\/Z k=g) w w1)(k:M (λk=>k=b\/Z k=g1) w1 w2)(hm:Jq w g g1):M (λk=>k=b\/Z k=g) w w2:=
 h.trans k (λj hj=>by
  rcases hj with rfl|hj
  ·exact aM (aM rfl)
  ·rcases hm with rfl|⟨i,rfl,hi⟩
   ·exact aM (aN hj)
   ·cases hj;exact aN hi)
theorem JbZ:(prog.info? 5).map (λi=>(i.zero,i.size,i.bytes))=Z (Z (O aE 0),1,1):=by kernel_rfl

theorem Jjr(b:Nat)(g:Option Nat)(wj:Int)(err:aG)(done:List UInt8)(s:BA)(n:Nat)(w:aA)(hp:Jd w b g wj err (.wr done))(hn:s.size=n)(hm:done.length+n<=10000000000000):
  aB N 381 #[X (Z ⟨b,0,Y⟩),L s,O I (n:Int)] w λe w'=>e=aC (aI #[L s,aK])/\∃g',Jd w' b g' wj err (.wr (done++s.data.toList))/\Jq w g g'/\M (λk=>k=b\/Z k=g) w w':=by
 have H5:=hp.lt;obtain⟨v,rfl,kU,(vZ:J _)⟩:=hp;obtain⟨i0,hi,q9,gQ,jj⟩:=info_parts JbZ;have c3:w.cell? ⟨b,3,Y⟩=Z v:=Ja vZ;have Hd:((s.size:Int) != (n:Int))=false:=by rw[bne_eq_false_iff_eq];omega
 have nz:J _:=YA done;go_enter func381,ntmps381;go_wp2_with (at_builtin;refine XH rfl _ _ 52 9 5 rfl i0 _ underlying52 hi q9 gQ jj rfl rfl kU _ s.size (byteCells s) rfl (Src.ofString _ underlying9 s) (by rw[nz.out];omega) (by omega) ?_;intro v1 w1 yZ (mw:J _) (HM:J _);obtain⟨hc1,cz⟩:=Jfy H5 vZ kU mw.out;obtain⟨a1,m1,c1,jq⟩:=yZ.shape3;subst jq);go_ret2;obtain⟨h1,h2⟩:=Jhy (news:=s.data.toList) H5 vZ kU yZ mw.out;exact⟨rfl,_,h1,HM,h2⟩

def beL(n k:Nat):Nat->List UInt8
 | 0=>[]
 | j+1=>beL n k j++[lV (n/2 ^ (8*(k-1-j)))]
theorem Jf(n k j:Nat):(beL n k j).length=j:=by
 induction j with
 | zero=>rfl
 | succ j ih=>simp[beL,ih]
theorem Jm8(n k:Nat):((n:Int)/2 ^ (8*k) != 0)=decide (n/2 ^ (8*k) ≠ 0):=by
 have e:(n:Int)/2 ^ (8*k)=((n/2 ^ (8*k):Nat):Int):=by simp
 rw[e];generalize n/2 ^ (8*k)=m
 by_cases h:m=0
 ·subst h;rfl
 ·have:((m:Int) != 0)=true:=by rw[bne_iff_ne];omega
  rw[this];simp[h]

theorem Jo(x:Int)(h0:0<=x)(h:x<1000000):I.wrap x=x:=by
 simp[lr,lu,l9];omega

theorem JgA(E:Nat->Addr)(b:Nat)(n k:Nat)(w:aA)(hE:Env E w)(hk:k<=8)(em:n/2 ^ (8*k) ≠ 0):
  aB N 378 #[X (Z ⟨b,0,Y⟩),O aD (n:Int),O I (k:Int)] w λe w'=>e=aC (aI #[O aD 0,eV E 7])/\∃j,w'=w.drewN j:=by
 have hf:=hE.form;clear hE;have ht:((n:Int)/2 ^ (8*k) != 0)=true:=by rw[Jm8];simp[em]
 clear em;have hki:(k:Int)<=8:=by omega
 go_enter func378,ntmps378;go_wp2;go_region;go_wp2;go_ret2;exact⟨rfl,1,rfl⟩

theorem JgB(b:Nat)(g:Option Nat)(wj:Int)(err:aG)(done:List UInt8)(n k:Nat)(w:aA)(hp:Jd w b g wj err (.wr done))(hk:k<=8)(zh:n/2 ^ (8*k)=0)(hm:done.length<=10000000000000):
  aB N 378 #[X (Z ⟨b,0,Y⟩),O aD (n:Int),O I (k:Int)] w λe w'=>e=aC (aI #[O aD (n:Int),aK])/\∃g',Jd w' b g' wj err (.wr (done++beL n k k))/\Jq w g g'/\M (λk=>k=b\/Z k=g) w w':=by
 obtain⟨i0,hi,q9,gQ,jj⟩:=info_parts JbZ;have ht:((n:Int)/2 ^ (8*k) != 0)=false:=by rw[Jm8];simp[zh]
 have hki:(k:Int)<=8:=by omega
 go_enter func378,ntmps378;go_wp2;go_loopw [8] (λi wr=>∃j:Nat,j<=k/\i=O I ((k:Int)-1-(j:Int))/\∃g',Jd wr b g' wj err (.wr (done++beL n k j))/\Jq w g g'/\M (λk=>k=b\/Z k=g) w wr) (λi _=>(intOf i+1).toNat)
 case atStart=>exact⟨0,by omega,congrArg (lQ I) (by omega),g,by simpa [beL]using hp,aM rfl,Te _ _⟩
 case round=>
  obtain⟨j,hj,rfl,g',hp,cX,cr⟩:=hrel;have H5:=hp.lt
  by_cases ph:j<k
  ·obtain⟨v,(HV:J _),kU,hZ⟩:=hp;obtain⟨-, -, -,c3⟩:=rows hZ;have vZ:J _:=hZ;have nz:J ((bc (done++beL n k j)).length=done.length+j):=(by rw[YA,Qe,Jf]:(bc (done++beL n k j)).length=done.length+j)
   have HMV:J (Jq w g g'):=cX;have jz:J (M (λk=>k=b\/Z k=g) w wr):=cr;obtain⟨m,tj,jp⟩:∃m:Nat,(k:Int)-1-(j:Int)=(m:Int)/\k-1-j=m:=⟨k-1-j,by omega,rfl⟩
   have HM:J ((k:Int)-1-(j:Int)=(m:Int)/\k-1-j=m):=⟨tj,jp⟩
   have hm7:m<=7:=(by omega);rw[tj];have vQ:I.wrap (8*(m:Int))=8*(m:Int):=Jo _ (by omega) (by omega);have qW:Op.shift .shr aD (n:Int) I (8*(m:Int))=pure (O aD ((n:Int)/2 ^ (8*m))):=by
    rw[shift_shr_u64 _ _ _ (by omega) (by omega)]
    congr 3
   go_wp2;go_region_law (refine JeD rfl _ _ 52 52 5 rfl i0 _ underlying52 hi q9 gQ jj rfl rfl ((kU.drew).alloc _) _ 1 [_] rfl (Src.ofSlice _ underlying52 _ 1 1 _ rfl (cell_one_new _ _ _) (by simp[l8])) (by rw[nz.out];omega) (by simp;omega) ?_;intro v1 w1 yZ (mw:J _) (jO:J _);obtain⟨hc1,cz⟩:=JkS H5 vZ kU mw.out;obtain⟨a1,m1,c1,jq⟩:=yZ.shape3;subst jq)
   all_goals
    go_wp2;have e2:[lQ aE (IntKind.u8.wrap ((n:Int)/2 ^ (8*(m:Int)).toNat))]=bc [lV (n/2 ^ (8*m))]:=by rw[IntKind.wrap_u8',show (8*(m:Int)).toNat=8*m by omega];simp[bc]
    rw[e2]at yZ;obtain⟨p1,p2,p3⟩:=JkR H5 vZ kU yZ mw jO HV.o;have e3:done++beL n k (j+1)=done++beL n k j++[lV (n/2 ^ (8*m))]:=(by rw[<-HM.o.2,Qs];rfl);go_roundw
    case rel=>exact⟨j+1,by omega,congrArg (lQ I) (by have:=HM.o.1;omega),_,by rw[e3];exact p1,HMV.trans p2 jz.size,Yx jz p3 HMV⟩
    case measure=>simp only[intOf];omega
  ·have HJ:J (j=k):=(by omega:j=k)
   have hlt0:¬(0:Int)<=(k:Int)-1-(j:Int):=(by omega);go_wp2;go_ret2;exact⟨rfl,g',by have:=HJ.o;subst this;exact hp,cX,cr⟩

def Jr(B:Nat)(w:aA)(v:aG)(l:List (Nat×Nat)):Prop:=
 (v=R Y 0 0/\l=[])\/∃gi oi c,v=R (Z ⟨gi,oi,Y⟩) l.length c/\gi<B/\gi<w.heap.size/\∀i (h:i<l.length),w.cell? ⟨gi,oi+i*2,Y⟩=Z (O aD ((l[i].1:Nat):Int))/\w.cell? ⟨gi,oi+i*2+1,Y⟩=Z (O aE ((l[i].2:Nat):Int))
theorem Jr.tch(h:Jr B w v l)(k:M S w w')(hs:∀j,S j->B<=j):Jr B w' v l:=by
 rcases h with h|⟨gi,oi,c,hv,h1,h2,h3⟩
 ·exact aM h
 ·refine aN ⟨gi,oi,c,hv,h1,Qk h2 k.size,λi hi=>?_⟩;have hc:∀o,w'.cell? ⟨gi,o,Y⟩=w.cell? ⟨gi,o,Y⟩:=λo=>k.cell (p:=⟨gi,o,Y⟩) h2 (λe=>by have:=hs gi e;omega);rw[hc,hc];exact h3 i hi
theorem Jr.shape(h:Jr B w v l):∃a c,v=R a l.length c:=by
 rcases h with⟨rfl,rfl⟩|⟨gi,oi,c,rfl,_⟩
 ·exact⟨Y,0,rfl⟩
 ·exact⟨_,_,rfl⟩
def JG(B:Nat)(w:aA)(v:aG)(l:List (BA×Int)):Prop:=
 (v=R Y 0 0/\l=[])\/∃gi oi c,v=R (Z ⟨gi,oi,Y⟩) l.length c/\gi<B/\gi<w.heap.size/\∀i (h:i<l.length),w.cell? ⟨gi,oi+i*2,Y⟩=Z (L l[i].1)/\w.cell? ⟨gi,oi+i*2+1,Y⟩=Z (O I l[i].2)
theorem JG.tch{l:List (BA×Int)}(h:JG B w v l)(k:M S w w')(hs:∀j,S j->B<=j):JG B w' v l:=by
 rcases h with h|⟨gi,oi,c,hv,h1,h2,h3⟩
 ·exact aM h
 ·refine aN ⟨gi,oi,c,hv,h1,Qk h2 k.size,λi hi=>?_⟩;have hc:∀o,w'.cell? ⟨gi,o,Y⟩=w.cell? ⟨gi,o,Y⟩:=λo=>k.cell (p:=⟨gi,o,Y⟩) h2 (λe=>by have:=hs gi e;omega);rw[hc,hc];exact h3 i hi
theorem JG.shape{l:List (BA×Int)}(h:JG B w v l):∃a c,v=R a l.length c:=by
 rcases h with⟨rfl,rfl⟩|⟨gi,oi,c,rfl,_⟩
 ·exact⟨Y,0,rfl⟩
 ·exact⟨_,_,rfl⟩
abbrev Sl:=Option Addr×Nat×Nat
def Xa(B:Nat)(w:aA)(v:aG)(l:List (Sl×Sl)):Prop:=
 (v=R Y 0 0/\l=[])\/∃gi oi c,v=R (Z ⟨gi,oi,Y⟩) l.length c/\gi<B/\gi<w.heap.size/\∀i (h:i<l.length),w.cell? ⟨gi,oi+i*2,Y⟩=Z (R l[i].1.1 l[i].1.2.1 l[i].1.2.2)/\w.cell? ⟨gi,oi+i*2+1,Y⟩=Z (R l[i].2.1 l[i].2.2.1 l[i].2.2.2)
theorem Xa.tch{l:List (Sl×Sl)}(h:Xa B w v l)(k:M S w w')(hs:∀j,S j->B<=j):Xa B w' v l:=by
 rcases h with h|⟨gi,oi,c,hv,h1,h2,h3⟩
 ·exact aM h
 ·refine aN ⟨gi,oi,c,hv,h1,Qk h2 k.size,λi hi=>?_⟩;have hc:∀o,w'.cell? ⟨gi,o,Y⟩=w.cell? ⟨gi,o,Y⟩:=λo=>k.cell (p:=⟨gi,o,Y⟩) h2 (λe=>by have:=hs gi e;omega);rw[hc,hc];exact h3 i hi
theorem Xa.shape{l:List (Sl×Sl)}(h:Xa B w v l):∃a c,v=R a l.length c:=by
 rcases h with⟨rfl,rfl⟩|⟨gi,oi,c,rfl,_⟩
 ·exact⟨Y,0,rfl⟩
 ·exact⟨_,_,rfl⟩
theorem JG.up{l:List (BA×Int)}(h:JG B w v l)(hb:B<=B'):JG B' w v l:=by
 rcases h with h|⟨gi,oi,c,h1,h2,h3⟩
 ·exact aM h
 ·exact aN ⟨gi,oi,c,h1,by omega,h3⟩
theorem Jr.up(h:Jr B w v l)(hb:B<=B'):Jr B' w v l:=by
 rcases h with h|⟨gi,oi,c,h1,h2,h3⟩
 ·exact aM h
 ·exact aN ⟨gi,oi,c,h1,by omega,h3⟩

section
variable {w W:aA}{a b:Obj}
theorem qu(h:W=w.alloc a):W.heap[w.heap.size]? =Z a:=by rw[h];exact Qf _ _
theorem xu(h:W=w.alloc a):M D w W:=by rw[h];exact Ta _ _ _
theorem kX(h:W=(w.alloc a).alloc b):W.heap[w.heap.size]? =Z a:=by rw[h];exact heap_alloc2_old _ _ _
theorem hnn(h:W=(w.alloc a).alloc b):W.heap[w.heap.size+1]? =Z b:=by rw[h];exact heap_alloc2_new _ _ _
theorem zG(h:W=(w.alloc a).alloc b):M D w W:=by rw[h];exact(Ta _ _ _).trans (Ta _ _ _) (λ_ h=>aM h)
end
theorem JqQ{l:List aG}(h:W.heap[b]? =Z (T ⟨l⟩ t fr))(V:aA)(k:M D W V):rowP V b l:=
 rows ((k.block _ (Jb h) (λh=>h)).trans h)
end Go.Proofs.YtighkdnooglfjaaGreatDoor
namespace Go.Proofs
open Tryz
open Go.Shelf
def Jf6:Go.Shelf.Ren:=⟨fun|171=>101|243=>162|246=>248|283=>323|284=>324|285=>325|286=>326|129=>320|317=>354|318=>355|319=>356|320=>357|337=>360|338=>361|n=>n,fun|3=>3|9=>9|2=>2|4=>4|171=>472|0=>0|53=>78|37=>52|5=>5|173=>474|212=>503|51=>429|20=>20|213=>504|46=>322|232=>335|233=>508|n=>n,fun|17=>15|18=>16|19=>17|n=>n⟩
theorem Jmj:Go.Proofs.LaysM.n171 N Jf6:={
 mixed:=by kernel_rfl
 f129:=func320.trans (congrArg Z (by kernel_rfl))
 f171:=func101.trans (congrArg Z (by kernel_rfl))
 f243:=func162.trans (congrArg Z (by kernel_rfl))
 f246:=func248.trans (congrArg Z (by kernel_rfl))
 f283:=func323.trans (congrArg Z (by kernel_rfl))
 f284:=func324.trans (congrArg Z (by kernel_rfl))
 f285:=func325.trans (congrArg Z (by kernel_rfl))
 f286:=func326.trans (congrArg Z (by kernel_rfl))
 f317:=func354.trans (congrArg Z (by kernel_rfl))
 f318:=func355.trans (congrArg Z (by kernel_rfl))
 f319:=func356.trans (congrArg Z (by kernel_rfl))
 f320:=func357.trans (congrArg Z (by kernel_rfl))
 f337:=func360.trans (congrArg Z (by kernel_rfl))
 f338:=func361.trans (congrArg Z (by kernel_rfl))
 t0:=underlying0
 a0:=isAgg0
 z0:=sizeOf0
 v0:=zeroValue0
 t2:=underlying2
 a2:=isAgg2
 z2:=sizeOf2
 v2:=zeroValue2
 t3:=underlying3
 a3:=isAgg3
 z3:=sizeOf3
 v3:=zeroValue3
 t4:=underlying4
 a4:=isAgg4
 z4:=sizeOf4
 v4:=zeroValue4
 t5:=underlying5
 a5:=isAgg5
 z5:=sizeOf5
 v5:=zeroValue5
 t9:=underlying9
 a9:=isAgg9
 z9:=sizeOf9
 v9:=zeroValue9
 t20:=underlying20
 a20:=isAgg20
 z20:=sizeOf20
 v20:=zeroValue20
 t37:=underlying52
 a37:=isAgg52
 z37:=sizeOf52
 v37:=zeroValue52
 t46:=underlying322
 a46:=isAgg322
 z46:=sizeOf322
 v46:=zeroValue322
 t51:=underlying429
 a51:=isAgg429
 z51:=sizeOf429
 v51:=zeroValue429
 t53:=underlying78
 a53:=isAgg78
 z53:=sizeOf78
 v53:=zeroValue78
 t171:=underlying472
 a171:=isAgg472
 z171:=sizeOf472
 v171:=zeroValue472
 t173:=underlying474
 a173:=isAgg474
 z173:=sizeOf474
 v173:=zeroValue474
 t212:=underlying503
 a212:=isAgg503
 z212:=sizeOf503
 v212:=zeroValue503
 t213:=underlying504
 a213:=isAgg504
 z213:=sizeOf504
 t232:=underlying335
 a232:=isAgg335
 z232:=sizeOf335
 v232:=zeroValue335
 t233:=underlying508
 a233:=isAgg508
 z233:=sizeOf508
 v233:=zeroValue508
 g17:=by kernel_rfl
 g18:=by kernel_rfl
 g19:=by kernel_rfl
 i0:=by kernel_rfl
 i2:=by kernel_rfl
 i3:=by kernel_rfl
 i4:=by kernel_rfl
 i5:=by kernel_rfl
 i9:=by kernel_rfl
 i20:=by kernel_rfl
 i37:=by kernel_rfl
 i46:=by kernel_rfl
 i51:=by kernel_rfl
 i53:=by kernel_rfl
 i171:=by kernel_rfl
 i173:=by kernel_rfl
 i212:=by kernel_rfl
 i232:=by kernel_rfl
 i233:=by kernel_rfl
 m17:=by kernel_rfl
 m18:=by kernel_rfl
 m19:=by kernel_rfl }
open Go.RowKit Go.Sort Go.Lib in
theorem strconv_Itoa(n:Int)(h0: -9223372036854775808<=n)(h1:n<=9223372036854775807)(w:aA)(tC:Lib.TabIs N w "internal/strconv.uint64pow10" aD Lib.pow10Tab):
  aB N 101 #[O I n] w λe w'=>e=aC (L ⟨(Lib.itoa n).toArray⟩)/\∃k os,w'=grow (w.drewN k) os:=Any.strconv_Itoa Jmj n h0 h1 w tC
end Go.Proofs
namespace Go.Proofs.YtighkdnooglfjaaGreatDoor
open Tryz
open Go.RowKit
theorem Jix(w:aA)(k:Nat)(os:Array Obj):Below w.heap.size w (Go.Sort.grow (w.drewN k) os):=
 ⟨rfl,rfl,rfl,by simp[Go.Sort.grow,World.drewN],λj hj=>by simp[Go.Sort.grow,World.drewN,Array.getElem?_append_left hj]⟩
theorem JdP{E:Nat->Addr}{w:aA}(hE:Env E w)(i:Nat)(hi:i<100000):aB N 101 #[O I (i:Int)] w λe w'=>(∃s:BA,s.size<=30/\e=aC (L s))/\Below w.heap.size w w':=by
 refine(strconv_Itoa (i:Int) (by omega) (by omega) w hE.pow).mono λe w' h=>?_;obtain⟨h1,k,os,h2⟩:=h;refine⟨⟨_,?_,h1⟩,by rw[h2];exact Jix w k os⟩;have:=Lib.itoa_length_le (i:Int) (by omega) (by omega);show (Lib.itoa (i:Int)).toArray.size<=30;simp;omega
end Go.Proofs.YtighkdnooglfjaaGreatDoor
namespace Go.Proofs
open Tryz
open Go.Shelf
def Jf7:Go.Shelf.Ren:=⟨fun|316=>142|n=>n,fun|9=>9|3=>3|4=>4|37=>52|0=>0|127=>358|5=>5|n=>n,fun|n=>n⟩
theorem Jmk:Go.Proofs.LaysM.n316 N Jf7:={
 mixed:=by kernel_rfl
 f316:=func142.trans (congrArg Z (by kernel_rfl))
 t0:=underlying0
 a0:=isAgg0
 z0:=sizeOf0
 v0:=zeroValue0
 t3:=underlying3
 a3:=isAgg3
 z3:=sizeOf3
 v3:=zeroValue3
 t4:=underlying4
 a4:=isAgg4
 z4:=sizeOf4
 v4:=zeroValue4
 t9:=underlying9
 a9:=isAgg9
 z9:=sizeOf9
 v9:=zeroValue9
 t37:=underlying52
 a37:=isAgg52
 z37:=sizeOf52
 v37:=zeroValue52
 t127:=underlying358
 a127:=isAgg358
 z127:=sizeOf358
 v127:=zeroValue358
 t5:=underlying5
 a5:=isAgg5
 z5:=sizeOf5
 v5:=zeroValue5
 i0:=by kernel_rfl
 i3:=by kernel_rfl
 i4:=by kernel_rfl
 i5:=by kernel_rfl
 i9:=by kernel_rfl
 i37:=by kernel_rfl
 i127:=by kernel_rfl }
open Go.RowKit in
theorem stringslite_Clone(s:ByteArray)(w:aA)(ur:s.size<=281474976710656):
  aB N 142 #[L s] w λe w'=>e=aC (L s)/\Below w.heap.size w w':=Any.stringslite_Clone Jmk s w ur
def Jc3:Go.Shelf.Ren:=⟨fun|105=>128|212=>192|99=>193|165=>194|166=>195|170=>196|169=>197|263=>272|264=>273|206=>274|240=>275|241=>276|276=>335|277=>336|n=>n,fun|9=>9|3=>3|4=>4|20=>20|0=>0|46=>322|109=>323|5=>5|72=>328|76=>330|51=>429|146=>430|53=>78|148=>432|70=>326|37=>52|75=>92|127=>358|164=>483|80=>61|n=>n,fun|n=>n⟩
theorem JjG:Go.Proofs.Lays.n105 N Jc3:={
 mixed:=by kernel_rfl
 f99:=func193.trans (congrArg Z (by kernel_rfl))
 f105:=func128.trans (congrArg Z (by kernel_rfl))
 f165:=func194.trans (congrArg Z (by kernel_rfl))
 f166:=func195.trans (congrArg Z (by kernel_rfl))
 f169:=func197.trans (congrArg Z (by kernel_rfl))
 f170:=func196.trans (congrArg Z (by kernel_rfl))
 f206:=func274.trans (congrArg Z (by kernel_rfl))
 f212:=func192.trans (congrArg Z (by kernel_rfl))
 f240:=func275.trans (congrArg Z (by kernel_rfl))
 f241:=func276.trans (congrArg Z (by kernel_rfl))
 f263:=func272.trans (congrArg Z (by kernel_rfl))
 f264:=func273.trans (congrArg Z (by kernel_rfl))
 f276:=func335.trans (congrArg Z (by kernel_rfl))
 f277:=func336.trans (congrArg Z (by kernel_rfl))
 t0:=underlying0
 a0:=isAgg0
 z0:=sizeOf0
 v0:=zeroValue0
 t3:=underlying3
 a3:=isAgg3
 z3:=sizeOf3
 v3:=zeroValue3
 t4:=underlying4
 a4:=isAgg4
 z4:=sizeOf4
 v4:=zeroValue4
 t5:=underlying5
 a5:=isAgg5
 z5:=sizeOf5
 v5:=zeroValue5
 t9:=underlying9
 a9:=isAgg9
 z9:=sizeOf9
 v9:=zeroValue9
 t20:=underlying20
 a20:=isAgg20
 z20:=sizeOf20
 v20:=zeroValue20
 t37:=underlying52
 a37:=isAgg52
 z37:=sizeOf52
 v37:=zeroValue52
 t46:=underlying322
 a46:=isAgg322
 z46:=sizeOf322
 v46:=zeroValue322
 t51:=underlying429
 a51:=isAgg429
 z51:=sizeOf429
 v51:=zeroValue429
 t53:=underlying78
 a53:=isAgg78
 z53:=sizeOf78
 v53:=zeroValue78
 t70:=underlying326
 a70:=isAgg326
 z70:=sizeOf326
 v70:=zeroValue326
 t72:=underlying328
 a72:=isAgg328
 z72:=sizeOf328
 v72:=zeroValue328
 t75:=underlying92
 a75:=isAgg92
 z75:=sizeOf92
 v75:=zeroValue92
 t76:=underlying330
 a76:=isAgg330
 z76:=sizeOf330
 v76:=zeroValue330
 t109:=underlying323
 a109:=isAgg323
 z109:=sizeOf323
 v109:=zeroValue323
 t127:=underlying358
 a127:=isAgg358
 z127:=sizeOf358
 v127:=zeroValue358
 t146:=underlying430
 a146:=isAgg430
 z146:=sizeOf430
 v146:=zeroValue430
 t148:=underlying432
 a148:=isAgg432
 z148:=sizeOf432
 v148:=zeroValue432
 t164:=underlying483
 a164:=isAgg483
 z164:=sizeOf483
 v164:=zeroValue483 }
theorem JbO:Builder.Extra N Jc3:={
 sizeBuilder:=by kernel_rfl
 liesBuilder:=by kernel_rfl
 t5:=underlying5
 a5:=isAgg5
 z5:=sizeOf5
 v5:=zeroValue5
 infoByte:=by kernel_rfl
 cellsByte:=by kernel_rfl
 sizeByte:=by kernel_rfl
 neB5:=by decide }
open Go.RowKit Go.Lib in
theorem strings_Repeat_main(s:ByteArray)(c:Nat)(w:aA)(hc2:2<=c)(hc:c<=9223372036854775807)(Hl:s.size*c<=140737488355328)(h0:0<s.size):
  aB N 128 #[L s,O I c] w λe w'=>e=aC (L ⟨(Lib.repeatL s.data.toList c).toArray⟩)/\Below w.heap.size w w':=Any.strings_Repeat_main JjG JbO s c w hc2 hc Hl h0
open Go.RowKit Go.Lib in
theorem strings_Repeat_one(s:ByteArray)(w:aA):
  aB N 128 #[L s,O I 1] w λe w'=>e=aC (L s)/\w'=w:=Any.strings_Repeat_one JjG s w
end Go.Proofs
namespace Go.Proofs.YtighkdnooglfjaaGreatDoor
open Tryz
open Go.RowKit
theorem M.of_belowN{w w':aA}(h:Below w.heap.size w w'):M D w w':=(M.of_below h).mono (λ_ hj=>aN hj)
set_option maxRecDepth 100000 in
theorem Jkd(s:BA)(w:aA)(hs:s.size<=1000000):aB N 90 #[L s] w λe w'=>e=aC (L s)/\M D w w':=by
 have HC:J (∀W,aB N 142 #[L s] W λe w'=>e=aC (L s)/\M D W w'):=λW=>(stringslite_Clone s W (by omega)).mono λe w' h=>⟨h.1,M.of_belowN h.2⟩
 clear hs;go_enter func90,ntmps90;go_wp2_with fail;refine(HC.o _).mono ?_;rintro _ w1⟨rfl,h⟩;have HH:J _:=h;clear h HC;go_wp2;go_ret;exact⟨rfl,HH.o⟩
theorem JiX(c:Nat)(h1:1<=c)(h2:c<=32)(w:aA):aB N 128 #[L ⟨#[0]⟩,O I (c:Int)] w λe w'=>e=aC (L ⟨(lE c (0:UInt8)).toArray⟩)/\M D w w':=by
 by_cases hc:c=1
 ·subst hc;exact(strings_Repeat_one ⟨#[0]⟩ w).mono λe w' h=>⟨h.1,by rw[h.2];exact Te _ _⟩
 ·refine(strings_Repeat_main ⟨#[0]⟩ c w (by omega) (by omega) (by show 1*c<=_;omega) (by show 0<1;omega)).mono λe w' h=>⟨?_,M.of_belowN h.2⟩
  have e:Lib.repeatL [0] c=lE c (0:UInt8):=by have:=Lib.repeatL_replicate 0 1 c;rw[Nat.mul_one]at this;exact this
  rw[h.1,show (⟨#[0]⟩:BA).data.toList=[0] from rfl,e]
open Go

section
variable {P:Program}{md:lW}{Q:Exit->Act->aA->Prop}

def Jaz(md:lW)(o:Oper):List Nat:=(o.after.toList.filter (Region.binds md)).map (·.on)
def Jnx(md:lW)(l:List Oper):Nat->List Nat->List Nat
 | 0,aV=>aV
 | n+1,aV=>Jnx md l n ((aV++aV.flatMap λj=>((l[j]?).map (Jaz md)).getD []).eraseDups)
def Jfo(md:lW)(l:List Oper)(o:Oper)(n:Nat):Bool:=
 (List.range l.length).all (λj=>(Jnx md l n (Jaz md o)).contains j) && (Jaz md o).all (λj=>decide (j<l.length)) &&
 (List.range l.length).all (λi=>((l[i]?).map (λx=>(Jaz md x).all (λj=>decide (j<i)))).getD true) && l.all (λx=>x.guard.isNone) && o.guard.isNone
theorem Zl{o:Oper}{j:Nat}:j∈Jaz md o↔∃e∈o.after,Region.binds md e=true/\e.on=j:=by
 simp only[Jaz,List.mem_map,List.mem_filter,Array.mem_toList_iff,and_assoc]
def Jjt(md:lW)(l:List Oper)(listed:Array Bool):Prop:=∀i o,l[i]? =Z o->listed.getD i false=true->∀j∈Jaz md o,listed.getD j false=true
theorem Jcr{l:List Oper}{listed:Array Bool}(h:Jjt md l listed):∀(n:Nat)(aV:List Nat),(∀j∈aV,listed.getD j false=true)->∀j∈Jnx md l n aV,listed.getD j false=true
 | 0,_,hD=>hD
 | n+1,aV,hD=>Jcr h n _ (λj hj=>by
   rw[List.mem_eraseDups,lp,List.mem_flatMap]at hj
   rcases hj with hj|⟨i,hi,hj⟩
   ·exact hD j hj
   ·cases ho:l[i]? with
    | none=>rw[ho]at hj;simp at hj
    | some o=>rw[ho]at hj;exact h i o ho (hD i hi) j (by simpa using hj))
def Jdz(P:Program)(ops:Array Oper)(o:Oper)(Q:Exit->Act->aA->Prop):Exit->Act->aA->Prop
 | .normal,a,w=>wpList P ops Q [o] a w
 | e,a,w=>Q e a w
theorem Zy{listed:Array Bool}{i:Nat}(h:i<listed.size)(d:Bool):(listed.push false).getD i d=listed.getD i d:=by
 simp[l5,h,Array.getElem_push_lt,Nat.lt_succ_of_lt h]
theorem JaC{l:List Oper}{o:Oper}{n:Nat}(hB:Jfo md l o n=true):∀(fuel:Nat)(listed:Array Bool)(a:Act)(w:aA),listed.size=l.length->Jjt md l listed->
  wpAny P md l.toArray (Jdz P (l++[o]).toArray o Q) fuel listed a w->wpAny P md (l++[o]).toArray Q (fuel+1) (listed.push false) a w:=by
 simp only[Jfo,Bool.and_eq_true,oA,List.mem_range,List.contains_iff_mem,decide_eq_true_eq,Option.isNone_iff_eq_none]at hB;obtain⟨⟨⟨⟨h1,h2⟩,h3⟩,h4⟩,h5⟩:=hB;have jt:∀listed:Array Bool,listed.size=l.length->Jjt md l listed->l.length∈lD md (l++[o]).toArray (listed.push false)->∀j<l.length,listed.getD j false=true:=by
  intro listed hs hc hr j hj;obtain⟨_,o',ho',xF⟩:=mem_ready.1 hr;have ho'':o'=o:=by simpa using ho'.symm
  subst ho'';refine Jcr hc n _ (λi hi=>?_) j (h1 j hj);obtain⟨e,he,hb,rfl⟩:=Zl.1 hi;have:=xF e he hb
  rwa [Zy (by rw[hs];exact h2 _ hi)]at this
 have xN:∀(listed:Array Bool),listed.size=l.length->∀i,i<l.length->(i∈lD md (l++[o]).toArray (listed.push false)↔i∈lD md l.toArray listed):=by
  intro listed hs i hi;rw[mem_ready,mem_ready,Zy (by omega)];have e1:((l++[o]).toArray)[i]? =l.toArray[i]? :=by simp[lM hi]
  rw[e1];refine and_congr_right λ_=>exists_congr λx=>and_congr_right λhx=>forall_congr' λe=>forall_congr' λhe=>forall_congr' λhb=>?_;have mQ:l[i]? =Z x:=by simpa using hx
  have H5:e.on<i:=by have:=h3 i hi;rw[mQ]at this;simp only[Option.map_some,ly,oA,decide_eq_true_eq]at this;exact this _ (Zl.2 ⟨e,he,hb,rfl⟩)
  rw[Zy (by omega)]
 have sD:∀(listed:Array Bool),listed.size=l.length->lD md l.toArray listed=[]->∀j<l.length,listed.getD j false=true:=by
  intro listed hs hr j
  induction j using Nat.strongRecOn with
  | _ j ih=>
   intro hj
   cases hd:listed.getD j false with
   | true=>rfl
   | false=>
    exfalso;have:j∈lD md l.toArray listed:=by
     refine mem_ready.2 ⟨?_,l[j],by simp[hj],λe he hb=>?_⟩
     ·have qn:j<listed.size:=(by omega);simp[l5,qn]at hd ⊢;exact hd
     ·have hx:=h3 j hj;rw[lS hj]at hx;simp only[Option.map_some,ly,oA,decide_eq_true_eq]at hx;have:=hx _ (Zl.2 ⟨e,he,hb,rfl⟩);exact ih _ this (by omega)
    rw[hr]at this;cases this
 have hwO:∀(listed:Array Bool)(i:Nat)(K:Act->aA->Prop)(Q':Exit->Act->aA->Prop)(a:Act)(w:aA),i<l.length->wpOp P l.toArray Q' i K a w->wpOp P (l++[o]).toArray Q' i K a w:=by
  intro listed i K Q' a w hi h;unfold wpOp at *;have e1:((l++[o]).toArray)[i]? =l.toArray[i]? :=by simp[lM hi]
  rw[e1];have e2:l.toArray[i]? =Z l[i]:=by simp[hi]
  rw[e2]at h ⊢;have hg:(l[i]).guard=Y:=h4 _ (ll hi);simpa only [lU,hg,if_true]using h
 have hQ:∀(i:Nat)(K:Act->aA->Prop)(a:Act)(w:aA),wpOp P (l++[o]).toArray (Jdz P (l++[o]).toArray o Q) i K a w->wpOp P (l++[o]).toArray Q i K a w:=by
  intro i K a w h;unfold wpOp at *
  split at h
  ·exact h
  ·rename_i x hx
   split at h
   ·rename_i hw;rw[if_pos hw]
    rcases h with h|⟨h,hl⟩
    ·refine aM ?_;unfold Oper.wp at *;generalize (execOp a.eval x).run P w=r at *
     cases r with
     | ok nx w'=>
      cases nx<;>simp only[Oper.upon]at h ⊢<;>first|exact h|exact Calls.mono h (λe w'' he=>by cases e<;>exact he)
     | halt y w'=>cases y<;>simp only[Oper.upon]at h ⊢<;>exact h
    ·exact aN ⟨h,hl⟩
   ·rename_i hw;rw[if_neg hw];exact h
 have hk:∀(listed:Array Bool),listed.size=l.length->∀i∈lD md (l++[o]).toArray (listed.push false),i<l.length\/i=l.length:=by intro listed hs i hi;obtain⟨_,x,hx,_⟩:=mem_ready.1 hi;have:=(lC.1 hx).1;simp at this;omega
 have ep:∀(fuel:Nat)(listed:Array Bool)(a:Act)(w:aA),listed.size=l.length->(∀j<l.length,listed.getD j false=true)->wpList P (l++[o]).toArray Q [o] a w->wpAny P md (l++[o]).toArray Q (fuel+1) (listed.push false) a w:=by
  intro fuel listed a w hs xF h;have hkr:l.length∈lD md (l++[o]).toArray (listed.push false):=by
   refine mem_ready.2 ⟨?_,o,by simp,λe he hb=>?_⟩
   ·simp[l5,<-hs]
   ·have:=h2 _ (Zl.2 ⟨e,he,hb,rfl⟩);rw[Zy (by omega)];exact xF _ this
  have es:∀i∈lD md (l++[o]).toArray (listed.push false),i=l.length:=by
   intro i hi
   rcases hk listed hs i hi with H5|he
   ·have h0:=(mem_ready.1 hi).1;rw[Zy (by omega)]at h0;have:=xF i H5;have qn:i<listed.size:=(by omega);simp[l5,qn]at h0 this;rw[h0]at this;cases this
   ·exact he
  refine⟨λh0=>(by rw[h0]at hkr;cases hkr),λi hi=>?_⟩;have:=es i hi;subst this;have et:∀(f:Nat)(a:Act)(w:aA),Q .normal a w->wpAny P md (l++[o]).toArray Q f ((listed.push false).setIfInBounds l.length true) a w:=by
   intro f a w hq;have nT:lD md (l++[o]).toArray ((listed.push false).setIfInBounds l.length true)=[]:=by
    cases hr:lD md (l++[o]).toArray ((listed.push false).setIfInBounds l.length true) with
    | nil=>rfl
    | cons i t=>
     exfalso;have xV:i∈lD md (l++[o]).toArray ((listed.push false).setIfInBounds l.length true):=(by rw[hr];exact lT);obtain⟨h0,x,hx,_⟩:=mem_ready.1 xV;have H5:=(lC.1 hx).1;simp at H5
     by_cases qm:i=l.length
     ·subst qm;simp[l5,<-hs]at h0
     ·rw[getD_set_ne true (λe=>qm e.symm),Zy (by omega)]at h0;have:=xF i (by omega);have qn:i<listed.size:=(by omega);simp[l5,qn]at h0 this;rw[h0]at this;cases this
   cases f with
   | zero=>exact⟨nT,hq⟩
   | succ f=>exact⟨λ_=>hq,by rw[nT];intro i hi;cases hi⟩
  unfold wpOp;have e2:((l++[o]).toArray)[l.length]? =Z o:=by simp
  rw[e2];simp only[wpList]at h;simp only[lU,h5,if_true]at h ⊢
  rcases h with h|h
  ·exact aM (Oper.wp_mono (λa w hq=>et fuel a w hq) h)
  ·exact aN h
 intro fuel
 induction fuel with
 | zero=>
  intro listed a w hs hc h;exact ep 0 listed a w hs (sD listed hs h.1) h.2
 | succ fuel ih=>
  intro listed a w hs hc h
  by_cases Hd:lD md l.toArray listed=[]
  ·exact ep (fuel+1) listed a w hs (sD listed hs Hd) (h.1 Hd)
  ·refine⟨λh0=>?_,λi hi=>?_⟩
   ·exfalso
    cases hr:lD md l.toArray listed with
    | nil=>exact Hd hr
    | cons j t=>
     have hj:j∈lD md l.toArray listed:=(by rw[hr];exact lT);have H5:j<l.length:=(by obtain⟨_,x,hx,_⟩:=mem_ready.1 hj;simpa using (lC.1 hx).1);have:=(xN listed hs j H5).2 hj;rw[h0]at this;cases this
   ·rcases hk listed hs i hi with H5|he
    ·have xV:=(xN listed hs i H5).1 hi;have hw:=h.2 i xV;have jE:(listed.push false).setIfInBounds i true=(listed.setIfInBounds i true).push false:=by
      apply Array.ext_getElem?;intro j;simp only[Array.getElem?_setIfInBounds,Array.getElem?_push,Array.size_setIfInBounds,Array.size_push]
      by_cases ru:i=j
      ·subst ru;simp[hs,H5,Nat.lt_succ_of_lt H5,Nat.ne_of_lt H5]
      ·simp[ru]
     have hc':Jjt md l (listed.setIfInBounds i true):=by
      intro m x hx hm j hj
      by_cases rM:m=i
      ·subst rM;obtain⟨_,x',mQ,xF⟩:=mem_ready.1 xV;have:x'=x:=by
        have:l[m]? =Z x':=(by simpa using mQ);rw[hx]at this;exact(Option.some.inj this).symm
       subst this;obtain⟨e,he,hb,rfl⟩:=Zl.1 hj;exact getD_set_true (xF e he hb)
      ·rw[getD_set_ne false (λe=>rM e.symm)]at hm;exact getD_set_true (hc m x hx hm j hj)
     refine hQ i _ a w (hwO listed i _ _ a w H5 (wpOp_mono (λa' w' h'=>?_) hw));rw[jE];exact ih _ a' w' (by simp[hs]) hc' h'
    ·subst he;have:=jt listed hs hc hi;exfalso;apply Hd
     cases hr:lD md l.toArray listed with
     | nil=>rfl
     | cons j t=>
      have hj:j∈lD md l.toArray listed:=(by rw[hr];exact lT);obtain⟨h0,x,hx,_⟩:=mem_ready.1 hj;have H5:j<l.length:=(by simpa using (lC.1 hx).1);have h':=this j H5;have qn:j<listed.size:=(by omega);simp[l5,qn]at h0 h';rw[h0]at h';cases h'
theorem YN(n:Nat):(lq n false).push false=lq (n+1) false:=by rw[Array.replicate_succ]

variable {S:aA->Prop}
theorem Xn{id:Nat}{a:Act}{w:aA}{aS:List Oper}(n:Nat)(Hd:aS ≠ [])(hm:P.follows .mixedOrders=true)(hB:Jfo .any aS.dropLast (aS.getLast Hd) n=true)(hS:S w.drew)
  (h:S w.drew->∀l o,aS.dropLast=l->aS.getLast Hd=o->wpAnyH P .any l.toArray (Jdz P aS.toArray o Q) S l.length (lq l.length false) a w.drew):(Code.region id aS.toArray true).wp P Q a w:=by
 refine wp_region_any hm ?_;have e:aS=aS.dropLast++[aS.getLast Hd]:=(List.dropLast_concat_getLast Hd).symm;have h1:=wpAny_of_held _ _ _ _ (h hS _ _ rfl rfl);have h2:=JaC (Q:=Q) hB aS.dropLast.length (lq aS.dropLast.length false) a w.drew (by simp) (λi o _ hi=>by simp[l5]at hi) (by rw[<-e];exact h1);rw[<-e,YN]at h2;have hl:aS.dropLast.length+1=aS.toArray.size:=by have:=congrArg List.length e;simpa using this.symm
 rw[hl]at h2;exact h2
theorem Ja6{l:List Oper}{md:lW}{i:Nat}{oi:Oper}{v:aG}{fuel:Nat}{listed:Array Bool}{a:Act}{w:aA}(hi:l[i]? =Z oi)
  (hs:Region.noSelect l.toArray=true) (hf:Region.free md l.toArray listed i=true) (hr:(lD md l.toArray listed).contains i=true)
  (hQ:∀c a w,Q (.panic c) (a.put oi.dst v) w->Q (.panic c) a w) (hg:oi.guard=Y) (hy:∀w,S w->(execOp a.eval oi).run P w=.ok (.value v) w) (hS:S w)
  (h:wpAnyH P md l.toArray Q S fuel (listed.setIfInBounds i true) (a.put oi.dst v) w):wpAnyH P md l.toArray Q S (fuel+1) listed a w:=
 wpAnyH_take (by simpa using hi) hs hf hr hQ (aM ⟨by simp[lU,hg],hy⟩) hS h
theorem tkL{l:List Oper}{md:lW}(i:Nat){oi:Oper}{v:aG}{fuel:Nat}{listed:Array Bool}{a:Act}{w:aA}(h:wpAnyH P md l.toArray Q S fuel (listed.setIfInBounds i true) (a.put oi.dst v) w)(hi:l[i]? =Z oi:=by rfl)(hs:Region.noSelect l.toArray=true:=by kernel_rfl)(hf:Region.free md l.toArray listed i=true:=by kernel_rfl)(hr:(lD md l.toArray listed).contains i=true:=by kernel_rfl)
  (hQ:∀c a w,Q (.panic c) (a.put oi.dst v) w->Q (.panic c) a w:=by exact λ_ _ _ h=>h) (hg:oi.guard=Y:=by rfl) (hy:∀w,S w->(execOp a.eval oi).run P w=.ok (.value v) w:=by intro W qv;(try dsimp only at qv);go_simp;(try with_reducible rfl)) (hS:S w:=by first|assumption|trivial):wpAnyH P md l.toArray Q S (fuel+1) listed a w:=Ja6 hi hs hf hr hQ hg hy hS h
theorem JaI{l:List Oper}{md:lW}{i:Nat}{oi:Oper}{fuel:Nat}{listed:Array Bool}{a:Act}{w:aA}(hi:l[i]? =Z oi)(hr:lD md l.toArray listed=[i])
  (h:∀K:Act->aA->Prop,Shut (∀a w,S w->(S w->wpAnyH P md l.toArray Q S fuel (listed.setIfInBounds i true) a w)->K a w)->if lU oi (yielded l.toArray a.tmps)=true then Oper.wp P oi a w K Q else K (a.put oi.dst undef) w):wpAnyH P md l.toArray Q S (fuel+1) listed a w:=
 wpAnyH_ready hr (by simp) (AllReadyH.cons (o:=oi) (by simpa using hi) h AllReadyH.nil)
end

theorem Jd5{w:aA}{g:Nat}{a b:aG}{aY:TypeId}(h:w.heap[g]? =Z (T #[a,b] aY))(x0 x1:aG):
  ((w.setCell ⟨g,0,Y⟩ x0).setCell ⟨g,1,Y⟩ x1).heap[g]? =Z (T #[x0,x1] aY)/\M (λx=>x=g) w ((w.setCell ⟨g,0,Y⟩ x0).setCell ⟨g,1,Y⟩ x1):=by
 have h0:=Qi w g _ #[x0,b] aY _ h;have e0:w.setCell ⟨g,0,Y⟩ x0=w.setRow g #[x0,b]:=Qj w g 0 _ _ _ _ h;rw[<-e0]at h0;have t0:M (λx=>x=g) w (w.setCell ⟨g,0,Y⟩ x0):=by rw[e0];exact Ts _ _ _
 generalize w.setCell ⟨g,0,Y⟩ x0=w0 at *;have h1:=Qi w0 g _ #[x0,x1] aY _ h0;have e1:w0.setCell ⟨g,1,Y⟩ x1=w0.setRow g #[x0,x1]:=Qj w0 g 1 _ _ _ _ h0;rw[<-e1]at h1;exact⟨h1,by rw[e1];exact t0.trans (Ts _ _ _) (λ_ h=>aM h)⟩
def Emp(v:aG):Prop:=v=R Y 0 0\/∃a c,v=R (Z a) 0 c
theorem Emp.shape{v:aG}(h:Emp v):∃a c,v=R a 0 c:=by
 rcases h with rfl|⟨a,c,rfl⟩
 ·exact⟨_,_,rfl⟩
 ·exact⟨_,_,rfl⟩
def Yz(B:Nat)(w:aA)(v:aG)(l:List (Nat×Nat)):Prop:=
 (Emp v/\l=[])\/∃gi oi c,v=R (Z ⟨gi,oi,Y⟩) l.length c/\gi<B/\gi<w.heap.size/\∀i (h:i<l.length),w.cell? ⟨gi,oi+i*2,Y⟩=Z (O aD ((l[i].1:Nat):Int))/\w.cell? ⟨gi,oi+i*2+1,Y⟩=Z (O aE ((l[i].2:Nat):Int))
theorem Jr.raw{B:Nat}{w:aA}{v:aG}{l:List (Nat×Nat)}(h:Jr B w v l):Yz B w v l:=h.imp_left λh=>⟨aM h.1,h.2⟩
theorem Yz.tch{B:Nat}{w w':aA}{v:aG}{l:List (Nat×Nat)}{S:Nat->Prop}(h:Yz B w v l)(k:M S w w')(hs:∀j,S j->B<=j):Yz B w' v l:=by
 rcases h with h|h
 ·exact aM h
 ·exact(Jr.tch (aN h) k hs).raw
theorem Yz.shape{B:Nat}{w:aA}{v:aG}{l:List (Nat×Nat)}(h:Yz B w v l):∃a c,v=R a l.length c:=by
 rcases h with⟨h,rfl⟩|⟨gi,oi,c,rfl,_⟩
 ·exact h.shape
 ·exact⟨_,_,rfl⟩
def YE(B:Nat)(w:aA)(v:aG)(l:List (BA×Int)):Prop:=
 (Emp v/\l=[])\/∃gi oi c,v=R (Z ⟨gi,oi,Y⟩) l.length c/\gi<B/\gi<w.heap.size/\∀i (h:i<l.length),w.cell? ⟨gi,oi+i*2,Y⟩=Z (L l[i].1)/\w.cell? ⟨gi,oi+i*2+1,Y⟩=Z (O I l[i].2)
theorem JG.raw{B:Nat}{w:aA}{v:aG}{l:List (BA×Int)}(h:JG B w v l):YE B w v l:=h.imp_left λh=>⟨aM h.1,h.2⟩
theorem YE.tch{B:Nat}{w w':aA}{v:aG}{l:List (BA×Int)}{S:Nat->Prop}(h:YE B w v l)(k:M S w w')(hs:∀j,S j->B<=j):YE B w' v l:=by
 rcases h with h|h
 ·exact aM h
 ·exact(JG.tch (aN h) k hs).raw
theorem YE.shape{B:Nat}{w:aA}{v:aG}{l:List (BA×Int)}(h:YE B w v l):∃a c,v=R a l.length c:=by
 rcases h with⟨h,rfl⟩|⟨gi,oi,c,rfl,_⟩
 ·exact h.shape
 ·exact⟨_,_,rfl⟩
def TxsR(B:Nat)(w:aA)(v:aG)(l:List (Sl×Sl)):Prop:=
 (Emp v/\l=[])\/∃gi oi c,v=R (Z ⟨gi,oi,Y⟩) l.length c/\gi<B/\gi<w.heap.size/\∀i (h:i<l.length),w.cell? ⟨gi,oi+i*2,Y⟩=Z (R l[i].1.1 l[i].1.2.1 l[i].1.2.2)/\w.cell? ⟨gi,oi+i*2+1,Y⟩=Z (R l[i].2.1 l[i].2.2.1 l[i].2.2.2)
theorem Xa.raw{B:Nat}{w:aA}{v:aG}{l:List (Sl×Sl)}(h:Xa B w v l):TxsR B w v l:=h.imp_left λh=>⟨aM h.1,h.2⟩
theorem TxsR.tch{B:Nat}{w w':aA}{v:aG}{l:List (Sl×Sl)}{S:Nat->Prop}(h:TxsR B w v l)(k:M S w w')(hs:∀j,S j->B<=j):TxsR B w' v l:=by
 rcases h with h|h
 ·exact aM h
 ·exact(Xa.tch (aN h) k hs).raw
theorem TxsR.shape{B:Nat}{w:aA}{v:aG}{l:List (Sl×Sl)}(h:TxsR B w v l):∃a c,v=R a l.length c:=by
 rcases h with⟨h,rfl⟩|⟨gi,oi,c,rfl,_⟩
 ·exact h.shape
 ·exact⟨_,_,rfl⟩
