import Derived.WalkSpells
import Derived.Deep.Upon
import Derived.Lib.ConvBytes
import Derived.Test.YtighkdnooglfjaaGreatDoorProg
import Derived.WalkLawsBesides
import Derived.BigQuiet
import Derived.Lib.LaidTab
import Derived.Lib.ItoaNum
import Derived.Deep.RegionLaw
import Derived.Stop.Asserts
import Derived.Test.YtighkdnooglfjaaGreatDoorRows
import Derived.ProofKit
import Derived.LaidMore
import Derived.Stop.LaidErr
open Go renaming Calls->aB,Value->aG,World->aA
open Go.Ending renaming returned->aC
open Go.IntKind renaming i64->I,u32->aF,u64->aD,u8->aE,u64->lF,signed->lR,wrap->lZ,bits->l5
open Go.Obj renaming cells->T
open Go.Proofs.Tryz renaming prog->N
open Go.RowKit renaming Hid->J
open Go.Value renaming agg->aH,bool->aL,iface->aJ,int->O,nilIface->aK,pointer->X,slice->R,string->L,tuple->aI,int->lO,oneCell'->l6
open Option renaming none->Y,some->Z,bind_some->lq,some->lw
open Array renaming getElem?_eq_some_iff->lJ,all_eq_true_iff_forall_mem->ld
open Go.Builtin renaming zeroCells->lm,append_->lu
open ByteArray renaming data_extract->lI
open Go.Instr renaming typeAssert->lU
open List renaming replicate->lC,getD_eq_getElem?_getD->lD,length_append->lH,getElem?_eq_some_iff->lK,eq_nil_of_length_eq_zero->lM,setIfInBounds_toArray->lN,getElem?_append->lS,getElem?_append_right->lT,getElem?_append_left->lV,extract_eq_take_drop->lW,getElem?_eq_getElem->lX,append_assoc->l8,take_of_length_le->l9,take_succ_eq_append_getElem->lf,length_take->lh,mem_singleton->ll,getElem_mem->lp
open Nat renaming le_refl->lE,lt_of_lt_of_le->lG,zero_add->lY,le_trans->lr
open UInt8 renaming ofNat->lQ
open Go.World renaming cell?_of_block->lP,drewN_zero->li
set_option maxRecDepth 100000
set_option maxHeartbeats 1000000
namespace Go.Proofs.YtighkdnooglfjaaGreatDoor
open Go.RowKit

variable {a:Act}{ops:Array Oper}{Q:Exit->Act->aA->Prop}{wj:Int}{l:List (Nat×Nat)}{rest:List Oper}{done news:List UInt8}{xs:List aG}{B B' b k:Nat}{E:Nat->Addr}{S S':Nat->Prop}{fr:Nat×Nat}{g g1 g2:Option Nat}{P:Program}{α:Type}{t:TypeId}{e err v v1:aG}{W w w' w1 w2 w3:aA}
def rowP(w:aA)(b:Nat):List aG->Prop
 | [x0]=>w.cell? ⟨b,0,Y⟩=Z x0
 | [x0,x1]=>w.cell? ⟨b,0,Y⟩=Z x0/\w.cell? ⟨b,1,Y⟩=Z x1
 | [x0,x1,x2]=>w.cell? ⟨b,0,Y⟩=Z x0/\w.cell? ⟨b,1,Y⟩=Z x1/\w.cell? ⟨b,2,Y⟩=Z x2
 | [x0,x1,x2,x3]=>w.cell? ⟨b,0,Y⟩=Z x0/\w.cell? ⟨b,1,Y⟩=Z x1/\w.cell? ⟨b,2,Y⟩=Z x2/\w.cell? ⟨b,3,Y⟩=Z x3
 | [x0,x1,x2,x3,x4]=>w.cell? ⟨b,0,Y⟩=Z x0/\w.cell? ⟨b,1,Y⟩=Z x1/\w.cell? ⟨b,2,Y⟩=Z x2/\w.cell? ⟨b,3,Y⟩=Z x3/\w.cell? ⟨b,4,Y⟩=Z x4
 | [x0,x1,x2,x3,x4,x5]=>w.cell? ⟨b,0,Y⟩=Z x0/\w.cell? ⟨b,1,Y⟩=Z x1/\w.cell? ⟨b,2,Y⟩=Z x2/\w.cell? ⟨b,3,Y⟩=Z x3/\w.cell? ⟨b,4,Y⟩=Z x4/\w.cell? ⟨b,5,Y⟩=Z x5
 | [x0,x1,x2,x3,x4,x5,x6]=>w.cell? ⟨b,0,Y⟩=Z x0/\w.cell? ⟨b,1,Y⟩=Z x1/\w.cell? ⟨b,2,Y⟩=Z x2/\w.cell? ⟨b,3,Y⟩=Z x3/\w.cell? ⟨b,4,Y⟩=Z x4/\w.cell? ⟨b,5,Y⟩=Z x5/\w.cell? ⟨b,6,Y⟩=Z x6
 | [x0,x1,x2,x3,x4,x5,x6,x7]=>w.cell? ⟨b,0,Y⟩=Z x0/\w.cell? ⟨b,1,Y⟩=Z x1/\w.cell? ⟨b,2,Y⟩=Z x2/\w.cell? ⟨b,3,Y⟩=Z x3/\w.cell? ⟨b,4,Y⟩=Z x4/\w.cell? ⟨b,5,Y⟩=Z x5/\w.cell? ⟨b,6,Y⟩=Z x6/\w.cell? ⟨b,7,Y⟩=Z x7
 | [x0,x1,x2,x3,x4,x5,x6,x7,x8]=>w.cell? ⟨b,0,Y⟩=Z x0/\w.cell? ⟨b,1,Y⟩=Z x1/\w.cell? ⟨b,2,Y⟩=Z x2/\w.cell? ⟨b,3,Y⟩=Z x3/\w.cell? ⟨b,4,Y⟩=Z x4/\w.cell? ⟨b,5,Y⟩=Z x5/\w.cell? ⟨b,6,Y⟩=Z x6/\w.cell? ⟨b,7,Y⟩=Z x7/\w.cell? ⟨b,8,Y⟩=Z x8
 | [x0,x1,x2,x3,x4,x5,x6,x7,x8,x9]=>w.cell? ⟨b,0,Y⟩=Z x0/\w.cell? ⟨b,1,Y⟩=Z x1/\w.cell? ⟨b,2,Y⟩=Z x2/\w.cell? ⟨b,3,Y⟩=Z x3/\w.cell? ⟨b,4,Y⟩=Z x4/\w.cell? ⟨b,5,Y⟩=Z x5/\w.cell? ⟨b,6,Y⟩=Z x6/\w.cell? ⟨b,7,Y⟩=Z x7/\w.cell? ⟨b,8,Y⟩=Z x8/\w.cell? ⟨b,9,Y⟩=Z x9
 | [x0,x1,x2,x3,x4,x5,x6,x7,x8,x9,x10]=>w.cell? ⟨b,0,Y⟩=Z x0/\w.cell? ⟨b,1,Y⟩=Z x1/\w.cell? ⟨b,2,Y⟩=Z x2/\w.cell? ⟨b,3,Y⟩=Z x3/\w.cell? ⟨b,4,Y⟩=Z x4/\w.cell? ⟨b,5,Y⟩=Z x5/\w.cell? ⟨b,6,Y⟩=Z x6/\w.cell? ⟨b,7,Y⟩=Z x7/\w.cell? ⟨b,8,Y⟩=Z x8/\w.cell? ⟨b,9,Y⟩=Z x9/\w.cell? ⟨b,10,Y⟩=Z x10
 | _=>True
theorem rows{l:List aG}(h:w.heap[b]? =Z (T ⟨l⟩ t fr)):rowP w b l:=by
 unfold rowP
 split
 all_goals
  repeat' apply And.intro
  all_goals first|trivial|exact cell_of_row _ _ _ _ _ _ h

def Bs(base:Nat)(w:aA)(v:aG)(xs:List aG):Prop:=
 (v=R Y 0 0/\xs=[])\/
 ∃g cap,v=R (Z ⟨g,0,Y⟩) xs.length cap/\base<=g/\g<w.heap.size/\xs.length<=cap/\cap<=maxLen/\
  (∀j u,xs[j]? =Z u->w.cell? ⟨g,j,Y⟩=Z u)/\∀j,j<cap->(w.cell? ⟨g,j,Y⟩).isSome=true/\w.frozen? ⟨g,j,Y⟩=false
theorem Bs.nil(base:Nat)(w:aA):Bs base w (R Y 0 0) []:=.inl ⟨rfl,rfl⟩
theorem Bs.shape{base:Nat}(h:Bs base w v xs):∃a c,v=R a xs.length c:=by
 rcases h with⟨rfl,rfl⟩|⟨g,cap,rfl,_⟩
 ·exact⟨Y,0,rfl⟩
 ·exact⟨_,_,rfl⟩
theorem Bs.shape3{base:Nat}(h:Bs base w v xs):∃a m c,v=R a m c:=by
 obtain⟨a,c,h⟩:=h.shape;exact⟨a,_,c,h⟩
theorem Bs.grown{base:Nat}{row:Option Nat}(h:Bs base w v xs)(hg:w.grownBy w' row)(Hl:∀k,row=Z k->k<base\/w.heap.size<=k):Bs base w' v xs:=by
 rcases h with h|⟨g,cap,hv,hb,H7,vk,hm,hc,hs⟩
 ·exact .inl h
 ·have yr:w'.heap[g]? =w.heap[g]? :=hg.block g H7 (λe=>by rcases Hl g e.symm with h1|h1<;>omega);refine .inr ⟨g,cap,hv,hb,lG H7 hg.size,vk,hm,λj u hu=>?_,λj hj=>?_⟩
  ·rw[lP (a:=⟨g,j,Y⟩) yr];exact hc j u hu
  ·rw[lP (a:=⟨g,j,Y⟩) yr,World.frozen?_of_block (a:=⟨g,j,Y⟩) yr];exact hs j hj
theorem Bs.alloc{base:Nat}(h:Bs base w v xs)(o:Obj):Bs base (w.alloc o) v xs:=
 h.grown (row:=Y) (World.grownBy_alloc w o Y) (λ_ e=>by cases e)
theorem Bs.drew{base:Nat}(h:Bs base w v xs):Bs base w.drew v xs:=h
theorem Bs.own{base:Nat}(h:Bs base w v xs):∀k,v.ownBlock=Z k->base<=k/\k<w.heap.size:=by
 rcases h with⟨rfl,rfl⟩|⟨g,cap,rfl,hb,H7,_⟩
 ·intro k hk;cases hk
 ·intro k hk;cases hk;exact⟨hb,H7⟩

theorem JbA(g:Nat):∀(vs:List aG)(o:Nat)(w:aA),(w.setCells g o vs).tape=w.tape
 | [],_,_=>rfl
 | v::vs,o,w=>by
  rw[World.setCells,JbA g vs];rfl
def RowT(e:TypeId)(w:aA)(v:aG):Prop:=∀k,v.ownBlock=Z k->∃cur m,w.heap[k]? =Z (T cur e m)
theorem ZG(g:Nat):∀(vs:List aG)(o:Nat)(w:aA){cur:Array aG}{e:TypeId}{m:Nat×Nat},w.heap[g]? =Z (T cur e m)->∃cur m,(w.setCells g o vs).heap[g]? =Z (T cur e m)
 | [],_,_,_,_,_,h=>⟨_,_,h⟩
 | v::vs,o,w,cur,e,m,h=>by
  rw[World.setCells];have h1:=setCell_eq_setRow w g o cur e m v h;refine ZG g vs _ _ (cur:=cur.setIfInBounds o v) (m:=m) ?_;rw[h1];exact setRow_heap _ _ _ _ _ _ h
theorem Ja4{base:Nat}(h:Bs base w v xs)
 (t tx ty e:TypeId) (i:TypeInfo) (z:aG) (ht:P.underlying t=Z (.slice e)) (hi:P.info? e=Z i) (hz:i.zero=Z z) (jF:i.size=1) (gy:i.bytes=1) (xH:z.cells.size=1)
 (x:aG) (n:Nat) (news:List aG) (hs:Src P 1 tx x n news w) (mV:xs.length+n<=140737488355328) (He:base<=w.heap.size):
  ∃v' w',(lu #[t,tx] ty #[v,x]).run P w=.ok v' w'/\Bs base w' v' (xs++news)/\w.grownBy w' v.ownBlock/\(v'.ownBlock=v.ownBlock\/∃k,v'.ownBlock=Z k/\w.heap.size<=k)/\(RowT e w v->RowT e w' v'):=by
 have jb:news.length=n:=by have:=hs.newsLen;omega
 have hml:xs.length+n<=maxLen:=by simp only[maxLen];omega
 have hsi:Src P i.size tx x n news w:=by rw[jF];exact hs
 have grow:∀(bs:Option Addr)(sc:Nat),v=R bs xs.length sc->sc<xs.length+n->
   (Builtin.firstCells i.size xs.length (R bs xs.length sc)).run P w.drew=.ok xs.toArray w.drew->
   ∃v' w',(lu #[t,tx] ty #[v,x]).run P w=.ok v' w'/\Bs base w' v' (xs++news)/\w.grownBy w' v.ownBlock/\(v'.ownBlock=v.ownBlock\/∃k,v'.ownBlock=Z k/\w.heap.size<=k)/\(RowT e w v->RowT e w' v'):=by
  rintro bs sc rfl hg jk;have kH:=run_append_grow_src (P:=P) w t tx ty e i z ht hi hz bs xs.length sc xs jk x n news hsi hg (by omega) (growslice_fits hg (by rw[gy];omega));have jA:=grownCap_ge w (xs.length+n) sc e;have hcm:=grownCap_le_maxLen w (xs.length+n) sc e hml;have Hp:((xs++news).toArray++lm z.cells (grownCap w (xs.length+n) sc e-(xs.length+n))).size=grownCap w (xs.length+n) sc e:=by rw[Array.size_append,List.size_toArray,size_zeroCells,xH,lH,jb];omega
  refine⟨_,_,kH,.inr ⟨w.heap.size,_,by rw[lH,jb],He,by simp,by rw[lH,jb];exact jA,hcm,λj u hu=>?_,λj hj=>⟨?_,?_⟩⟩,⟨rfl,rfl,rfl,by simp,λk hk _=>Below.heap_alloc w.drew _ k hk⟩,.inr ⟨w.heap.size,rfl,lE _⟩,λ_ k hk=>by cases hk;exact⟨_,_,heap_alloc_new w.drew _⟩⟩
  ·have hj:=(lK.1 hu).1;have e1:=World.cell?_alloc_new w.drew ((xs++news).toArray++lm z.cells (grownCap w (xs.length+n) sc e-(xs.length+n))) e j;refine(show _=_ from e1).trans ?_;rw[Array.getElem?_append_left (by simpa using hj),List.getElem?_toArray];exact hu
  ·have e1:=World.cell?_alloc_new w.drew ((xs++news).toArray++lm z.cells (grownCap w (xs.length+n) sc e-(xs.length+n))) e j;rw[show (w.drew.alloc _).cell? ⟨w.heap.size,j,Y⟩=_ from e1,Array.getElem?_eq_getElem (by rw[Hp];exact hj)];rfl
  ·exact World.frozen?_alloc_new w.drew _ _ j
 rcases h with⟨rfl,rfl⟩|⟨g,cap,rfl,hb,H7,vk,hm,hc,tL⟩
 ·rcases Nat.eq_zero_or_pos n with h0|xL
  ·subst h0;obtain rfl:news=[]:=lM jb;exact⟨_,_,run_append_nothing (P:=P) w t tx ty e i ht hi Y 0 0 (lE _) x hsi,.inl ⟨rfl,rfl⟩,World.grownBy.refl _ _,.inl rfl,λh=>h⟩
  ·exact grow Y 0 rfl (by simpa using xL) (run_firstCells_none w.drew i.size 0 0 0)
 ·by_cases sI:xs.length+n<=cap
  ·have uK:∀j,j<news.length->(w.cell? ⟨g,0+xs.length*i.size+j,Y⟩).isSome=true:=λj hj=>by
    rw[jF];simp only[lY,Nat.mul_one];exact(tL _ (by omega)).1
   have kH:=run_append_room_src (P:=P) w t tx ty e i ht hi g 0 xs.length cap x n news hsi sI uK
    (λj hj=>by rw[jF];simp only[lY,Nat.mul_one];exact(tL _ (by omega)).2)
   rw[jF]at kH uK;simp only[lY,Nat.mul_one]at kH uK;have gV:=World.cell?_setCells_in g news xs.length w uK;have hout:∀j,(j<xs.length\/xs.length+news.length<=j)->(w.setCells g xs.length news).cell? ⟨g,j,Y⟩=w.cell? ⟨g,j,Y⟩:=λj hj=>World.cell?_setCells_out g _ _ _ _ (λ_ _=>hj);have hk:=World.keptBut_setCells g (may:=λ_=>True) news xs.length w (λ_ _=>trivial);refine⟨_,_,kH,.inr ⟨g,cap,by rw[lH,jb],hb,lG H7 hk.size,by rw[lH,jb];exact sI,hm,λj u hu=>?_,λj hj=>⟨?_,(World.frozen?_setCells g _ _ _ _).trans (tL j hj).2⟩⟩,?_,.inl rfl,λh k hk=>by cases hk;obtain⟨cur,m,hr⟩:=h g rfl;exact ZG g news _ w hr⟩
   ·by_cases hj:j<xs.length
    ·rw[lV hj]at hu;rw[hout j (.inl hj)];exact hc j u hu
    ·rw[lT (by omega)]at hu;obtain⟨zG,rfl⟩:=lK.1 hu;have:=gV (j-xs.length) zG
     rwa [show xs.length+(j-xs.length)=j by omega]at this
   ·by_cases zG:xs.length<=j/\j<xs.length+news.length
    ·have:=gV (j-xs.length) (by omega);rw[show xs.length+(j-xs.length)=j by omega]at this;rw[this];rfl
    ·rw[hout j (by omega)];exact(tL j hj).1
   ·exact⟨World.os_setCells _ _ _ _,JbA _ _ _ _,World.output_setCells _ _ _ _,hk.size,λk gS Hl=>World.heap_setCells_other w g _ news gS (λe=>Hl (by rw[e];rfl))⟩
  ·refine grow (Z ⟨g,0,Y⟩) cap rfl (by omega) ?_;refine run_firstCells_some w.drew i.size xs.length ⟨g,0,Y⟩ xs.length cap xs (by rw[jF];omega) (λj u hu=>?_);rw[Addr.add_lit,lY];exact hc j u hu

theorem Jbv{base:Nat}(h:Bs base w v xs)
 (t tx ty e:TypeId) (i:TypeInfo) (z:aG) (ht:P.underlying t=Z (.slice e)) (hi:P.info? e=Z i) (hz:i.zero=Z z) (jF:i.size=1) (gy:i.bytes=1) (xH:z.cells.size=1)
 (x:aG) (n:Nat) (news:List aG) (hs:Src P 1 tx x n news w) (mV:xs.length+n<=140737488355328) (He:base<=w.heap.size):
  ∃v' w',(lu #[t,tx] ty #[v,x]).run P w=.ok v' w'/\Bs base w' v' (xs++news)/\w.grownBy w' v.ownBlock/\(v'.ownBlock=v.ownBlock\/∃k,v'.ownBlock=Z k/\w.heap.size<=k):=by
 obtain⟨v',w',h1,h2,h3,h4,_⟩:=Ja4 h t tx ty e i z ht hi hz jF gy xH x n news hs mV He;exact⟨v',w',h1,h2,h3,h4⟩
theorem XH{base:Nat}{o:Oper}(jz:o.guard=Y)(s x:Operand)(t tx e:TypeId)
 (ho:o.op=.call { callee:=.builtin .append,args:= #[s,x],argTypes:= #[t,tx] })
 (i:TypeInfo) (z:aG) (ht:P.underlying t=Z (.slice e)) (hi:P.info? e=Z i) (hz:i.zero=Z z) (jF:i.size=1) (gy:i.bytes=1) (xH:z.cells.size=1)
 (hv:a.eval s=v) (h:Bs base w v xs)
 (xv:aG) (n:Nat) (news:List aG) (hx:a.eval x=xv) (hs:Src P 1 tx xv n news w) (mV:xs.length+n<=140737488355328) (He:base<=w.heap.size)
 (hK:∀v' w',Bs base w' v' (xs++news)->w.grownBy w' v.ownBlock->(v'.ownBlock=v.ownBlock\/∃k,v'.ownBlock=Z k/\w.heap.size<=k)->wpList P ops Q rest (a.put o.dst v') w'):wpList P ops Q (o::rest) a w:=by
 refine wpList_plain jz λK vA=>?_;obtain⟨v',w',kH,r,r2,r3⟩:=Jbv (P:=P) h t tx o.type e i z ht hi hz jF gy xH xv n news hs mV He;unfold Oper.wp;simp[execOp,ho,resolve,invoke,builtin,hv,hx,kH,Result.andThen];exact vA _ _ (hK v' w' r r2 r3)

theorem Jct{base:Nat}{o:Oper}(jz:o.guard=Y)(s x:Operand)(t tx e:TypeId)
 (ho:o.op=.call { callee:=.builtin .append,args:= #[s,x],argTypes:= #[t,tx] })
 (i:TypeInfo) (z:aG) (ht:P.underlying t=Z (.slice e)) (hi:P.info? e=Z i) (hz:i.zero=Z z) (jF:i.size=1) (gy:i.bytes=1) (xH:z.cells.size=1)
 (hv:a.eval s=v) (h:Bs base w v xs)
 (xv:aG) (n:Nat) (news:List aG) (hx:a.eval x=xv) (hs:Src P 1 tx xv n news w) (mV:xs.length+n<=140737488355328) (He:base<=w.heap.size)
 (hK:∀v' w',Bs base w' v' (xs++news)->w.grownBy w' v.ownBlock->(v'.ownBlock=v.ownBlock\/∃k,v'.ownBlock=Z k/\w.heap.size<=k)->(RowT e w v->RowT e w' v')->wpList P ops Q rest (a.put o.dst v') w'):wpList P ops Q (o::rest) a w:=by
 refine wpList_plain jz λK vA=>?_;obtain⟨v',w',kH,r,r2,r3,r4⟩:=Ja4 (P:=P) h t tx o.type e i z ht hi hz jF gy xH xv n news hs mV He;unfold Oper.wp;simp[execOp,ho,resolve,invoke,builtin,hv,hx,kH,Result.andThen];exact vA _ _ (hK v' w' r r2 r3 r4)

theorem Jf1(w:aA)(src dst e:TypeId)(s:ByteArray){u:TypeDesc}(hs:P.underlying src=Z u)(hd:P.underlying dst=Z (.slice e))(he:P.underlying e=Z (.int .u8))(hm:s.size<=maxLen):
  ∃v' w',(convert src dst (L s)).run P w=.ok v' w'/\Bs w.heap.size w' v' (byteCells s)/\w.grownBy w' Y:=by
 refine⟨_,_,Lib.run_convert_string_bytes w src dst e s hs hd he,.inr ⟨w.heap.size,_,by rw[byteCells_length],lE _,by rw[Lib.bytesWorld_size];omega,by rw[byteCells_length];exact grownCap_ge _ _ _ _,grownCap_le_maxLen _ _ _ _ hm,λj u hu=>?_,λj hj=>⟨?_,?_⟩⟩,?_⟩
 ·have hj:=(lK.1 hu).1;rw[byteCells_length]at hj;rw[Lib.bytesWorld_cell w e s j hj];simp[byteCells]at hu;obtain⟨b,hb,rfl⟩:=hu;simp[lD,hb]
 ·have Hp:(Lib.bytesCells w e s).size=grownCap w s.size 0 e:=by
   have:=grownCap_ge w s.size 0 e;have e0:s.data.size=s.size:=rfl;simp[Lib.bytesCells,e0];omega
  simp[World.cell?,Lib.bytesWorld_at_new,Hp,hj]
 ·have Hp:(Lib.bytesCells w e s).size=grownCap w s.size 0 e:=by
   have:=grownCap_ge w s.size 0 e;have e0:s.data.size=s.size:=rfl;simp[Lib.bytesCells,e0];omega
  simp[World.frozen?,Lib.bytesWorld_at_new,Hp];omega
 ·exact⟨rfl,rfl,rfl,by rw[Lib.bytesWorld_size];omega,λk hk _=>Lib.bytesWorld_at_old w e s k hk⟩

theorem Ye{base:Nat}{l:List UInt8}(h:Bs base w v (l.map λb=>lO aE b.toNat))(src dst e:TypeId)(hs:P.underlying src=Z (.slice e))(he:P.underlying e=Z (.int .u8))(hd:P.underlying dst=Z .string):
  (convert src dst v).run P w=.ok (L ⟨l.toArray⟩) w:=by
 rcases h with⟨rfl,hx⟩|⟨g,cap,rfl,_,_,_,_,hc,_⟩
 ·obtain rfl:l=[]:=by simpa using hx
  rw[run_convert_bytes_string w src dst e Y 0 0 hs he hd];simp[Conv.bytesToString];rfl
 ·rw[List.length_map];exact run_convert_bytes_back w src dst e ⟨g,0,Y⟩ cap l hs he hd (λj hj=>by
   rw[Addr.add_lit,lY];exact hc j _ (by simp[hj]))
open Go.Proofs.Tryz

def rr(n:Nat)(x:Int):Int:=bits .or aF (x*2 ^ (32-n) % 4294967296) (x/2 ^ n)
theorem rot2(x:Int)(w:aA):
  aB N 338 #[O aF x,O I (-2)] w λe w'=>e=aC (O aF (rr 2 x))/\w=w':=by
 have hs:bits .and aD (lF.wrap (-2)) 31=30:=by decide
 go_enter func338,ntmps338;go_wp2;go_ret;exact⟨rfl,rfl⟩
theorem rot6(x:Int)(w:aA):
  aB N 338 #[O aF x,O I (-6)] w λe w'=>e=aC (O aF (rr 6 x))/\w=w':=by
 have hs:bits .and aD (lF.wrap (-6)) 31=26:=by decide
 go_enter func338,ntmps338;go_wp2;go_ret;exact⟨rfl,rfl⟩
theorem rot7(x:Int)(w:aA):
  aB N 338 #[O aF x,O I (-7)] w λe w'=>e=aC (O aF (rr 7 x))/\w=w':=by
 have hs:bits .and aD (lF.wrap (-7)) 31=25:=by decide
 go_enter func338,ntmps338;go_wp2;go_ret;exact⟨rfl,rfl⟩
theorem JqQ(x:Int)(w:aA):
  aB N 338 #[O aF x,O I (-11)] w λe w'=>e=aC (O aF (rr 11 x))/\w=w':=by
 have hs:bits .and aD (lF.wrap (-11)) 31=21:=by decide
 go_enter func338,ntmps338;go_wp2;go_ret;exact⟨rfl,rfl⟩
theorem JqR(x:Int)(w:aA):
  aB N 338 #[O aF x,O I (-13)] w λe w'=>e=aC (O aF (rr 13 x))/\w=w':=by
 have hs:bits .and aD (lF.wrap (-13)) 31=19:=by decide
 go_enter func338,ntmps338;go_wp2;go_ret;exact⟨rfl,rfl⟩
theorem JqS(x:Int)(w:aA):
  aB N 338 #[O aF x,O I (-17)] w λe w'=>e=aC (O aF (rr 17 x))/\w=w':=by
 have hs:bits .and aD (lF.wrap (-17)) 31=15:=by decide
 go_enter func338,ntmps338;go_wp2;go_ret;exact⟨rfl,rfl⟩
theorem JqT(x:Int)(w:aA):
  aB N 338 #[O aF x,O I (-18)] w λe w'=>e=aC (O aF (rr 18 x))/\w=w':=by
 have hs:bits .and aD (lF.wrap (-18)) 31=14:=by decide
 go_enter func338,ntmps338;go_wp2;go_ret;exact⟨rfl,rfl⟩
theorem JqU(x:Int)(w:aA):
  aB N 338 #[O aF x,O I (-19)] w λe w'=>e=aC (O aF (rr 19 x))/\w=w':=by
 have hs:bits .and aD (lF.wrap (-19)) 31=13:=by decide
 go_enter func338,ntmps338;go_wp2;go_ret;exact⟨rfl,rfl⟩
theorem JqV(x:Int)(w:aA):
  aB N 338 #[O aF x,O I (-22)] w λe w'=>e=aC (O aF (rr 22 x))/\w=w':=by
 have hs:bits .and aD (lF.wrap (-22)) 31=10:=by decide
 go_enter func338,ntmps338;go_wp2;go_ret;exact⟨rfl,rfl⟩
theorem JqW(x:Int)(w:aA):
  aB N 338 #[O aF x,O I (-25)] w λe w'=>e=aC (O aF (rr 25 x))/\w=w':=by
 have hs:bits .and aD (lF.wrap (-25)) 31=7:=by decide
 go_enter func338,ntmps338;go_wp2;go_ret;exact⟨rfl,rfl⟩

def sg0(x:Int):Int:=bits .xor aF (bits .xor aF (rr 7 x) (rr 18 x)) (x/8)
def sg1(x:Int):Int:=bits .xor aF (bits .xor aF (rr 17 x) (rr 19 x)) (x/1024)
def word(b0 b1 b2 b3:UInt8):Int:=
 bits .or aF (bits .or aF (bits .or aF ((b0.toNat:Int) % 4294967296*16777216 % 4294967296) ((b1.toNat:Int) % 4294967296*65536 % 4294967296)) ((b2.toNat:Int) % 4294967296*256 % 4294967296)) ((b3.toNat:Int) % 4294967296)
def nxW(b:List UInt8)(k:Nat)(l:List Int):Int:=
 if k<16 then word (b.getD (4*k) 0) (b.getD (4*k+1) 0) (b.getD (4*k+2) 0) (b.getD (4*k+3) 0)
 else (l.getD (k-16) 0+sg0 (l.getD (k-15) 0)+l.getD (k-7) 0+sg1 (l.getD (k-2) 0)) % 4294967296
def stW(b:List UInt8)(k:Nat)(l:List Int):List Int:=l++[nxW b k l]
def Wl(b:List UInt8):Nat->List Int
 | 0=>[]
 | k+1=>stW b k (Wl b k)
theorem XA(b:List UInt8)(k:Nat):(Wl b k).length=k:=by
 induction k with
 | zero=>rfl
 | succ k ih=>simp[Wl,stW,ih]
def arr(l:List Int):Array aG:=(l.map (lO aF)++lC (64-l.length) (lO aF 0)).toArray
theorem JjF(l:List Int)(k:Nat)(hk:k<l.length):(arr l)[k]? =Z (O aF (l.getD k 0)):=by
 simp[arr,lS,hk,lD]
theorem Jn4(l:List Int)(hk:l.length<64):(arr l)[l.length]? =Z (O aF 0):=by
 have:¬64-l.length=0:=by omega
 simp[arr,lS,List.getElem?_replicate];omega
theorem Jn5(l:List Int)(v:Int)(hk:l.length<64):(arr l).setIfInBounds l.length (O aF v)=arr (l++[v]):=by
 obtain⟨m,hm⟩:∃m,64-l.length=m+1:=⟨63-l.length,by omega⟩
 have tq:64-(l++[v]).length=m:=by simp;omega
 unfold arr;rw[hm,tq,List.replicate_succ];simp[lN]
abbrev W2(w:aA)(l:List Int)(n:Nat):aA:=((w.alloc (T (arr []) 486)).alloc (T (arr l) 486)).drewN n
theorem Jdr(w:aA)(l:List Int)(n:Nat):(W2 w l n).heap[w.heap.size+1]? =Z (T (arr l) 486):=heap_alloc2_new _ _ _
theorem Jdq(w:aA)(l:List Int)(k n:Nat)(hk:k<l.length):(W2 w l n).cell? ⟨w.heap.size+1,k,Y⟩=Z (O aF (l.getD k 0)):=by
 rw[cell_of_row _ _ _ _ _ _ (Jdr w l n)];exact JjF l k hk
theorem JlM(w:aA)(l:List Int)(k n:Nat)(hl:l.length=k)(hk:k<64):(W2 w l n).cell? ⟨w.heap.size+1,k,Y⟩=Z (O aF 0):=by
 subst hl;rw[cell_of_row _ _ _ _ _ _ (Jdr w l n)];exact Jn4 l hk
theorem Je8(w:aA)(l:List Int)(k n:Nat):(W2 w l n).frozen? ⟨w.heap.size+1,k,Y⟩=false:=frozen_of_row _ _ _ _ _ (Jdr w l n)
theorem JlN(w:aA)(l:List Int)(v:Int)(k n:Nat)(hl:l.length=k)(hk:k<64):(W2 w l n).setCell ⟨w.heap.size+1,k,Y⟩ (O aF v)=W2 w (l++[v]) n:=by
 subst hl;show ((((w.alloc (T (arr []) 486)).alloc (T (arr l) 486))).setCell ⟨w.heap.size+1,l.length,Y⟩ (O aF v)).drewN n=_;rw[World.setCell_alloc_at _ _ _ _ _ (by simp),Jn5 l v hk]
theorem JgQ(l:List Int)(h:l.length<=64):(arr l).size=64:=by simp[arr];omega
theorem JjG(l:List Int):(arr l).all (·.oneCell')=true:=by
 rw[ld];intro v hv;simp[arr]at hv
 rcases hv with⟨a,_,rfl⟩|⟨_,rfl⟩<;>rfl
theorem JlL(w:aA)(l:List Int)(n:Nat):Below w.heap.size w (W2 w l n):=by
 have h:=((Below.refl w.heap.size w).alloc (lE _) (T (arr []) 486)).alloc (by simp) (T (arr l) 486);exact⟨h.os,h.tape,h.output,h.size,h.block⟩
theorem XJ{a:aA}(h:Below B a w){g:Nat}(hg:B<=g)(cs:Array aG):Below B a (w.setRow g cs):=
 ⟨h.os,h.tape,h.output,by simp;exact h.size,λk hk=>by rw[setRow_other _ _ _ _ (by omega)];exact h.block k hk⟩
theorem Jdu(b:ByteArray)(k j:Nat)(hb:b.size=64)(hk:k<16)(hj:j<4)(h:j<(b.extract (4*k) (4*k+4)).size):(b.extract (4*k) (4*k+4))[j]=b.data.toList.getD (4*k+j) 0:=by
 have h2:4*k+j<b.data.size:=by have:b.data.size=64:=hb;omega
 rw[ByteArray.getElem_eq_getElem_data];simp only[lI,lD,Array.getElem_extract,Array.getElem?_toList];rw[Array.getElem?_eq_getElem h2];rfl

theorem Jlg(b:ByteArray)(w:aA)(hb:b.size=64):
  aB N 337 #[L b] w λe w'=>e=aC (aH (arr (Wl b.data.toList 64)))/\Below w.heap.size w w':=by
 go_enter func337,ntmps337;go_wp2;go_loopw [11] (λi wr=>∃k n:Nat,k<=16/\i=O I k/\wr=W2 w (Wl b.data.toList k) n) (λi _=>16-(intOf i).toNat)
 case atStart=>exact⟨0,0,by omega,rfl,rfl⟩
 case round=>
  obtain⟨k,n,hk,rfl,rfl⟩:=hrel
  by_cases H7:k<16
  ·go_wp2;have hl:=XA b.data.toList k;have hc:=JlM w (Wl b.data.toList k) k n hl (by omega);have hf:=Je8 w (Wl b.data.toList k) k n;have hp:(b.extract (4*k) (4*k+4)).size=4:=(by simp;omega);have hs:=λv=>JlN w (Wl b.data.toList k) v k n hl (by omega);obtain⟨p,hp,tK,hw⟩:∃p:ByteArray,∃hp:p.size=4,b.extract (4*k) (4*k+4)=p/\nxW b.data.toList k (Wl b.data.toList k)=word p[0] p[1] p[2] p[3]:=by
    refine⟨_,hp,rfl,?_⟩;rw[Jdu b k 0 hb H7 (by omega),Jdu b k 1 hb H7 (by omega),Jdu b k 2 hb H7 (by omega),Jdu b k 3 hb H7 (by omega)];simp[nxW,H7]
   rw[tK];have HW:J (Wl b.data.toList (k+1)=Wl b.data.toList k++[word p[0] p[1] p[2] p[3]]):=(by rw[<-hw];rfl);have HS:J _:=hs;clear hw hs hl tK;generalize hW:W2 w (Wl b.data.toList k) n=W at *;clear hW;go_region;go_wp2;go_roundw
   case rel=>exact⟨k+1,n+1,by omega,by go_num,by rw[HW.out];exact congrArg World.drew (HS _)⟩
   case measure=>simp[intOf];omega
  ·have hk16:J (k=16):=(by omega:k=16)
   go_wp2;go_loopw [6] (λi wr=>∃k n:Nat,16<=k/\k<=64/\i=O I k/\wr=W2 w (Wl b.data.toList k) n) (λi _=>64-(intOf i).toNat)
   case atStart=>exact⟨16,n,by omega,by omega,rfl,by rw[hk16.out]⟩
   case round=>
    clear H7 hk hk16;obtain⟨k,n,h16,hk,rfl,rfl⟩:=hrel
    by_cases H7:k<64
    ·have hl:=XA b.data.toList k;have hc:=JlM w (Wl b.data.toList k) k n hl (by omega);have hf:=Je8 w (Wl b.data.toList k) k n;have h2:=Jdq w (Wl b.data.toList k) (k-2) n (by omega);have h7:=Jdq w (Wl b.data.toList k) (k-7) n (by omega);have h15:=Jdq w (Wl b.data.toList k) (k-15) n (by omega);have h16':=Jdq w (Wl b.data.toList k) (k-16) n (by omega);have HS:J (∀v,_):=λv=>JlN w (Wl b.data.toList k) v k n hl (by omega);have HW:J (Wl b.data.toList (k+1)=Wl b.data.toList k++[((Wl b.data.toList k).getD (k-16) 0+sg0 ((Wl b.data.toList k).getD (k-15) 0)+(Wl b.data.toList k).getD (k-7) 0+sg1 ((Wl b.data.toList k).getD (k-2) 0)) % 4294967296]):=by
      show stW b.data.toList k _=_;simp[stW,nxW,show ¬k<16 by omega]
     generalize (Wl b.data.toList k).getD (k-2) 0=x2 at *;generalize (Wl b.data.toList k).getD (k-7) 0=x7 at *;generalize (Wl b.data.toList k).getD (k-15) 0=x15 at *;generalize (Wl b.data.toList k).getD (k-16) 0=x16 at *;generalize hW:W2 w (Wl b.data.toList k) n=W at *;clear hW hl;go_wp2;go_region;go_wp2_with fail;refine(rot7 _ _).mono ?_;rintro e w'⟨rfl,rfl⟩;go_wp2_with fail;refine(JqT _ _).mono ?_;rintro e w'⟨rfl,rfl⟩;go_wp2_with fail;refine(JqS _ _).mono ?_;rintro e w'⟨rfl,rfl⟩;go_wp2_with fail;refine(JqU _ _).mono ?_;rintro e w'⟨rfl,rfl⟩;go_wp2_with fail;go_region;go_wp2;go_roundw
     case rel=>exact⟨k+1,n+2,by omega,by omega,by go_num,by rw[HW.out];exact congrArg (λx=>World.drew (World.drew x)) (HS _)⟩
     case measure=>simp[intOf];omega
    ·have cm:J (k=64):=(by omega:k=64)
     have hA:(arr (Wl b.data.toList k)).size=64:=JgQ _ (by rw[XA];omega);have zZ:(arr (Wl b.data.toList k)).all (·.oneCell')=true:=JjG _;have hG:=Jdr w (Wl b.data.toList k) n;have mW:(W2 w (Wl b.data.toList k) n).heap[w.heap.size]? =Z (T (arr []) 486):=heap_alloc2_old _ _ _;have hB:Below w.heap.size w (W2 w (Wl b.data.toList k) n):=JlL _ _ _;generalize W2 w (Wl b.data.toList k) n=W at *;have HE:J (arr (Wl b.data.toList k)=arr (Wl b.data.toList 64)):=(by rw[cm.out]:arr (Wl b.data.toList k)=arr (Wl b.data.toList 64))
     generalize arr (Wl b.data.toList k)=A at *;have hi:(prog.info? 486).map (·.size)=Z A.size:=(by rw[hA];kernel_rfl);go_wp2_with (first|(refine wpList_load_row rfl 486 _ rfl (w.heap.size+1) rfl 486 A (0,0) (.array 64 429) hG underlying486 rfl hi ?_)|(refine wpList_store_row rfl 486 _ _ rfl w.heap.size A rfl rfl 486 (arr []) mW hi (by rw[hA];rfl) zZ ?_));refine bodyPost_ret (v:=aH A) (results_cell_row results337 _ _ w.heap.size 486 A (0,0) (.array 64 429) rfl (setRow_heap _ _ _ _ _ _ mW) underlying486 rfl hi) rfl ⟨by rw[HE.out],XJ hB (lE _) _⟩

def Ks:List Int:=[1116352408,1899447441,3049323471,3921009573,961987163,1508970993,2453635748,2870763221,3624381080,310598401,607225278,1426881987,1925078388,2162078206,2614888103,3248222580,3835390401,4022224774,264347078,604807628,770255983,1249150122,1555081692,1996064986,2554220882,2821834349,2952996808,3210313671,3336571891,3584528711,113926993,338241895,666307205,773529912,1294757372,1396182291,1695183700,1986661051,2177026350,2456956037,2730485921,2820302411,3259730800,3345764771,3516065817,3600352804,4094571909,275423344,430227734,506948616,659060556,883997877,958139571,1322822218,1537002063,1747873779,1955562222,2024104815,2227730452,2361852424,2428436474,2756734187,3204031479,3329325298]
structure S8 where
 a:Int
 b:Int
 c:Int
 d:Int
 e:Int
 f:Int
 g:Int
 h:Int
def S8.val(s:S8):aG:=aH #[O aF s.a,O aF s.b,O aF s.c,O aF s.d,O aF s.e,O aF s.f,O aF s.g,O aF s.h]
def t1(k w:Int)(s:S8):Int:=
 s.h+bits .xor aF (bits .xor aF (rr 6 s.e) (rr 11 s.e)) (rr 25 s.e)+bits .xor aF (bits .and aF s.e s.f) (bits .and aF (bits .xor aF IntKind.u32.max s.e) s.g)+k+w
def maj(s:S8):Int:=bits .xor aF (bits .xor aF (bits .and aF s.a s.b) (bits .and aF s.a s.c)) (bits .and aF s.b s.c)
def rnd(k w:Int)(s:S8):S8:=
 ⟨((t1 k w s+bits .xor aF (bits .xor aF (rr 2 s.a) (rr 13 s.a)) (rr 22 s.a)) % 4294967296+maj s) % 4294967296,s.a,s.b,s.c,(s.d+t1 k w s % 4294967296) % 4294967296,s.e,s.f,s.g⟩
def addS(s t:S8):S8:=⟨(s.a+t.a) % 4294967296,(s.b+t.b) % 4294967296,(s.c+t.c) % 4294967296,(s.d+t.d) % 4294967296,(s.e+t.e) % 4294967296,(s.f+t.f) % 4294967296,(s.g+t.g) % 4294967296,(s.h+t.h) % 4294967296⟩
def toS(ws:List Int)(s:S8):Nat->S8
 | 0=>s
 | k+1=>rnd (Ks.getD k 0) (ws.getD k 0) (toS ws s k)
def comp(s:S8)(b:List UInt8):S8:=addS s (toS (Wl b 64) s 64)
theorem all8(x0 x1 x2 x3 x4 x5 x6 x7:Int):(#[lO aF x0,O aF x1,O aF x2,O aF x3,O aF x4,O aF x5,O aF x6,O aF x7]).all (·.oneCell')=true:=by
 simp[l6]
theorem Jqz(hb:Below W.heap.size W w1):(∀b o,b<W.heap.size->w1.cell? ⟨b,o,Y⟩=W.cell? ⟨b,o,Y⟩)/\(∀b o,b<W.heap.size->w1.frozen? ⟨b,o,Y⟩=W.frozen? ⟨b,o,Y⟩):=
 ⟨λb o h=>hb.cell (p:=⟨b,o,Y⟩) h,λb o h=>hb.frozen (p:=⟨b,o,Y⟩) h⟩

theorem JgY(s:S8)(b:ByteArray)(w:aA)(hb:b.size=64)(h7:13<w.heap.size)(hT:∀i,i<64->w.cell? ⟨13,i,Y⟩=Z (O aF (Ks.getD i 0))):
  aB N 277 #[s.val,L b] w λe w'=>e=aC (comp s b.data.toList).val/\Below w.heap.size w w':=by
 obtain⟨x0,x1,x2,x3,x4,x5,x6,x7⟩:=s;have HT:J _:=hT;unfold S8.val;go_enter func277,ntmps277;go_wp2_with fail;refine(Jlg _ _ hb).mono ?_;rintro _ w1⟨rfl,hB⟩;obtain⟨hc,hf⟩:=Jqz hB;have hA:(arr (Wl b.data.toList 64)).size=64:=JgQ _ (by rw[XA];omega);have zZ:(arr (Wl b.data.toList 64)).all (·.oneCell')=true:=JjG _;have hAc:J (∀i,i<64->(arr (Wl b.data.toList 64))[i]? =Z (O aF ((Wl b.data.toList 64).getD i 0))):=λi hi=>JjF _ _ (by rw[XA];exact hi);generalize arr (Wl b.data.toList 64)=A at *;have hi:(prog.info? 486).map (·.size)=Z A.size:=by rw[hA];kernel_rfl
 go_wp2_with (refine wpList_store_row rfl 486 _ _ rfl w1.heap.size A rfl rfl 486 _ (heap_alloc_new _ _) hi (by rw[hA];rfl) zZ ?_);generalize hWc:(World.alloc w1 _).setRow w1.heap.size A=Wc;have hz:w.heap.size+1<w1.heap.size:=by have:=hB.size;simp at this;omega
 have qr:=(((Below.refl _ _).alloc (lE _) _).alloc (by simp) _).trans (hB.mono (by simp;omega));have mX:Below w.heap.size w Wc:=by rw[<-hWc];exact XJ (qr.alloc qr.size _) qr.size _
 have yr:∀k,k<w1.heap.size->Wc.heap[k]? =w1.heap[k]? :=λk hk=>by rw[<-hWc,setRow_other _ _ _ _ (by omega),Below.heap_alloc _ _ _ hk]
 have hw:Wc.heap[w1.heap.size]? =Z (T A 486):=by rw[<-hWc];exact setRow_heap _ _ _ _ _ _ (heap_alloc_new _ _)
 have HAc:J (∀i,i<64->Wc.cell? ⟨w1.heap.size,i,Y⟩=Z (O aF ((Wl b.data.toList 64).getD i 0))):=λi hi=>by rw[cell_of_row _ _ _ _ _ _ hw];exact hAc i hi
 have hTc:J (∀i,i<64->Wc.cell? ⟨13,i,Y⟩=Z (O aF (Ks.getD i 0))):=λi hi=>by rw[mX.cell (p:=⟨13,i,Y⟩) h7];exact HT i hi
 have hh:Wc.heap[w.heap.size]? =Z (T #[O aF x0,O aF x1,O aF x2,O aF x3,O aF x4,O aF x5,O aF x6,O aF x7] 434):=by rw[yr _ (by omega),hB.block _ (by simp;omega),heap_alloc2_old]
 have hr:Wc.heap[w.heap.size+1]? =Z (T #[O aF 0,O aF 0,O aF 0,O aF 0,O aF 0,O aF 0,O aF 0,O aF 0] 434):=by rw[yr _ (by omega),hB.block _ (by simp),heap_alloc2_new]
 obtain⟨g0,g1,g2,g3,g4,g5,g6,g7⟩:=rows hh;have Hr:J _:=hr;have Hh:J _:=hh;go_quiet (fail);go_wp2;generalize hS:(⟨x0,x1,x2,x3,x4,x5,x6,x7⟩:S8)=S;go_loopw [6,7,8,9,10,11,12,13,38] (λva vb vc vd ve vf vg vh i wr=>∃k n:Nat,k<=64/\i=O I k/\va=O aF (toS (Wl b.data.toList 64) S k).a/\vb=O aF (toS (Wl b.data.toList 64) S k).b/\vc=O aF (toS (Wl b.data.toList 64) S k).c/\vd=O aF (toS (Wl b.data.toList 64) S k).d/\ve=O aF (toS (Wl b.data.toList 64) S k).e/\vf=O aF (toS (Wl b.data.toList 64) S k).f/\vg=O aF (toS (Wl b.data.toList 64) S k).g/\vh=O aF (toS (Wl b.data.toList 64) S k).h/\wr=Wc.drewN n) (λ_ _ _ _ _ _ _ _ i _=>64-(intOf i).toNat)
 case atStart=>subst hS;exact⟨0,_,by omega,rfl,rfl,rfl,rfl,rfl,rfl,rfl,rfl,rfl,rfl⟩
 case round=>
  obtain⟨k,n,hk,rfl,rfl,rfl,rfl,rfl,rfl,rfl,rfl,rfl,rfl⟩:=hrel
  by_cases H7:k<64
  ·have c1:=HAc k H7;have c2:=hTc k H7;have kL:toS (Wl b.data.toList 64) S (k+1)=rnd (Ks.getD k 0) ((Wl b.data.toList 64).getD k 0) (toS (Wl b.data.toList 64) S k):=rfl;have tZ:J _:=kL;generalize toS (Wl b.data.toList 64) S k=T0 at *;generalize (Wl b.data.toList 64).getD k 0=ww at *;generalize Ks.getD k 0=kk at *;obtain⟨ta,tb,tc,td,te,tf,tg,th⟩:=T0;dsimp only;go_wp2_with fail;refine(rot6 _ _).mono ?_;rintro _ _⟨rfl,rfl⟩;go_wp2_with fail;refine(JqQ _ _).mono ?_;rintro _ _⟨rfl,rfl⟩;go_wp2_with fail;refine(JqW _ _).mono ?_;rintro _ _⟨rfl,rfl⟩;go_wp2_with fail;go_quiet (fail);go_wp2_with fail;refine(rot2 _ _).mono ?_;rintro _ _⟨rfl,rfl⟩;go_wp2_with fail;refine(JqR _ _).mono ?_;rintro _ _⟨rfl,rfl⟩;go_wp2_with fail;refine(JqV _ _).mono ?_;rintro _ _⟨rfl,rfl⟩;go_wp2;go_roundw
   case rel=>exact⟨k+1,_,by omega,by go_num,by rw[tZ.out];rfl,by rw[tZ.out];rfl,by rw[tZ.out];rfl,by rw[tZ.out];rfl,by rw[tZ.out];rfl,by rw[tZ.out];rfl,by rw[tZ.out];rfl,by rw[tZ.out];rfl,rfl⟩
   case measure=>simp[intOf];omega
  ·have cm:J (k=64):=(by omega:k=64)
   obtain⟨g0,g1,g2,g3,g4,g5,g6,g7⟩:=rows Hh.out;have HE:J (toS (Wl b.data.toList 64) S k=toS (Wl b.data.toList 64) S 64):=(by rw[cm.out]:toS (Wl b.data.toList 64) S k=toS (Wl b.data.toList 64) S 64)
   generalize toS (Wl b.data.toList 64) S k=T0 at *;obtain⟨ta,tb,tc,td,te,tf,tg,th⟩:=T0;dsimp only;have hi8:(prog.info? 434).map (·.size)=Z 8:=(by kernel_rfl);go_wp2_with (refine wpList_store_row rfl 434 _ _ rfl (w.heap.size+1) #[O aF ((x0+ta) % 4294967296),O aF ((x1+tb) % 4294967296),O aF ((x2+tc) % 4294967296),O aF ((x3+td) % 4294967296),O aF ((x4+te) % 4294967296),O aF ((x5+tf) % 4294967296),O aF ((x6+tg) % 4294967296),O aF ((x7+th) % 4294967296)] rfl rfl 434 _ Hr hi8 rfl (all8 _ _ _ _ _ _ _ _) ?_);refine bodyPost_ret (v:=aH #[O aF ((x0+ta) % 4294967296),O aF ((x1+tb) % 4294967296),O aF ((x2+tc) % 4294967296),O aF ((x3+td) % 4294967296),O aF ((x4+te) % 4294967296),O aF ((x5+tf) % 4294967296),O aF ((x6+tg) % 4294967296),O aF ((x7+th) % 4294967296)]) (results_cell_row results277 _ _ (w.heap.size+1) 434 _ (0,0) (.array 8 429) rfl (setRow_heap (Wc.drewN n) _ _ _ _ _ Hr) underlying434 rfl hi8) rfl ⟨?_,?_⟩
   ·subst hS;unfold comp;rw[<-HE.out];rfl
   ·exact XJ (w:=Wc.drewN n) (g:=w.heap.size+1) ⟨mX.os,mX.tape,mX.output,mX.size,mX.block⟩ (by omega) _

theorem JqF:(prog.info? 5).map (λi=>(i.zero,i.size,i.bytes))=Z (Z (O aE 0),1,1):=by kernel_rfl
def bc(l:List UInt8):List aG:=l.map λb=>lO aE b.toNat
theorem YE(l:List UInt8):(bc l).length=l.length:=by simp[bc]
theorem Jac(l m:List UInt8):bc (l++m)=bc l++bc m:=by simp[bc]
def slen:aG->Nat
 | R _ n _=>n
 | _=>0
def zs(n:Nat):Nat:=(119-n % 64) % 64
def be8(n k:Nat):List UInt8:=(List.range k).map λj=>lQ (n/2 ^ (56-8*j))
theorem JlX(H4:List UInt8)(n j:Nat):bc (H4++be8 (n*8) (j+1))=bc (H4++be8 (n*8) j)++[O aE ((n:Int)*8/2 ^ (56-8*j) % 256)]:=by
 have h:be8 (n*8) (j+1)=be8 (n*8) j++[lQ (n*8/2 ^ (56-8*j))]:=by simp[be8,List.range_succ]
 rw[h,<-l8,Jac]
 congr 1
def padL(r:List UInt8)(n:Nat):List UInt8:=r++[128]++lC (zs r.length) 0++be8 (n*8) 8

theorem JoQ(s:ByteArray)(n:Nat)(w:aA)(hs:s.size<64)(hn:n<1152921504606846976):
  aB N 278 #[L s,O I n] w λe w'=>e=aC (L ⟨(padL s.data.toList n).toArray⟩)/\Below w.heap.size w w':=by
 obtain⟨i0,hi,xV,jH,qQ⟩:=info_parts JqF;obtain⟨v0,w0,kH,ko,hg⟩:=Jf1 (P:=N) w 9 52 5 s underlying9 underlying52 underlying5 (by simp[maxLen];omega);have qr:=(Below.refl _ _).grown hg (lE _) (λ_ e=>by cases e);have zm:=byteCells_length s;go_enter func278,ntmps278;go_wp2_with (at_builtin;refine XH rfl _ _ 52 52 5 rfl i0 _ underlying52 hi xV jH qQ rfl rfl (ko.alloc _) _ 1 [O aE 128] rfl (Src.ofSlice _ underlying52 _ 1 1 _ rfl (cell_one_new _ _ _) (by simp[l6])) (by rw[zm];omega) (by have:=hg.size;simp;omega) ?_;intro v1 w1 zb nv _);have hbs1':Bs w.heap.size w1 v1 (bc (s.data.toList++[128]++lC 0 0)):=by simpa [bc,byteCells]using zb
 have yu:Below w.heap.size w w1:=by refine(qr.alloc qr.size _).grown nv (by have:=qr.size;simp;omega) (λk e=>?_);exact(ko.own k e).1
 go_loopw [5] (λv wr=>∃k:Nat,k<=zs s.size/\Bs w.heap.size wr v (bc (s.data.toList++[128]++lC k 0))/\Below w.heap.size w wr) (λv _=>200-slen v)
 case atStart=>exact⟨0,Nat.zero_le _,hbs1',yu⟩
 case round=>
  obtain⟨k,hk,hb,hB⟩:=hrel;have hL:(bc (s.data.toList++[128]++lC k 0)).length=s.size+1+k:=by have:s.data.toList.length=s.size:=(by simp);rw[YE];simp;omega
  obtain⟨a,c,rfl⟩:∃a c,u5=R a (s.size+1+k) c:=by rw[<-hL];exact hb.shape
  have xH:zs s.size<64:=Nat.mod_lt _ (by omega)
  by_cases gS:k<zs s.size
  ·have ht:(((s.size:Int)+1+(k:Int)) % 64 != 56)=true:=by
    rw[bne_iff_ne];unfold zs at gS xH;omega
   have Hp:=hB.size;go_wp2_with (at_builtin;refine XH rfl _ _ 52 52 5 rfl i0 _ underlying52 hi xV jH qQ rfl rfl (hb.alloc _) _ 1 [O aE 0] rfl (Src.ofSlice _ underlying52 _ 1 1 _ rfl (cell_one_new _ _ _) (by simp[l6])) (by rw[hL];omega) (by simp;omega) ?_;intro v2 w2 nP sV _);have vB:Bs w.heap.size w2 v2 (bc (s.data.toList++[128]++lC (k+1) 0)):=(by have e:bc (s.data.toList++[128]++lC (k+1) 0)=bc (s.data.toList++[128]++lC k 0)++[O aE 0]:=(by rw[List.replicate_succ',<-l8,Jac];rfl);rw[e];exact nP);have cZ:=(hB.alloc hB.size _).grown sV (by simp;omega) (λk e=>(hb.own k e).1);obtain⟨a2,c2,kn⟩:=nP.shape;go_roundw
   case rel=>exact⟨k+1,by omega,vB,cZ⟩
   case measure=>have hL2:(bc (s.data.toList++[128]++lC k 0)++[lO aE 0]).length=s.size+1+k+1:=(by rw[lH,hL];rfl);rw[kn,hL2];simp[slen];omega
  ·have ht:((s.size:Int)+1+(k:Int)) % 64=56:=(by unfold zs at gS hk xH;omega);have hkz:J (k=zs s.size):=(by omega:k=zs s.size)
   go_wp2;have HE:J (s.data.toList++[128]++lC k 0=s.data.toList++[128]++lC (zs s.data.toList.length) 0):=by show _=_;rw[hkz.out];simp
   generalize s.data.toList++[128]++lC k 0=H4 at *;have hL0:H4.length=s.size+1+k:=(by rw[<-YE];exact hL);go_loopw [5,7] (λv i wr=>∃j:Nat,j<=8/\i=O I (56-8*(j:Int))/\Bs w.heap.size wr v (bc (H4++be8 (n*8) j))/\Below w.heap.size w wr) (λ_ i _=>(intOf i+8).toNat)
   case atStart=>exact⟨0,by omega,rfl,by simpa [be8]using hb,hB⟩
   case round=>
    clear hb hB ht hL gS hkz;obtain⟨j,hj,rfl,hb,hB⟩:=hrel;have hL:(bc (H4++be8 (n*8) j)).length=s.size+1+k+j:=by rw[YE];simp[be8,hL0]
    by_cases zG:j<8
    ·have Hp:=hB.size;go_wp2_with (at_builtin;refine XH rfl _ _ 52 52 5 rfl i0 _ underlying52 hi xV jH qQ rfl rfl (hb.alloc _) _ 1 [_] rfl (Src.ofSlice _ underlying52 _ 1 1 _ rfl (cell_one_new _ _ _) (by simp[l6])) (by rw[hL];omega) (by simp;omega) ?_;intro v2 w2 nP sV _);have vB:Bs w.heap.size w2 v2 (bc (H4++be8 (n*8) (j+1))):=(by rw[JlX];exact nP);have cZ:=(hB.alloc hB.size _).grown sV (by simp;omega) (λk e=>(hb.own k e).1);exact⟨⟨j+1,by omega,congrArg (lO I) (by omega),vB,cZ⟩,by simp only[intOf];omega⟩
    ·have hj8:J (j=8):=(by omega:j=8)
     have hstr:=Ye (P:=N) hb 52 9 5 underlying52 underlying5 underlying9;have uT:J (H4++be8 (n*8) j=padL s.data.toList n):=(by show _=_;rw[hj8.out,HE.out];rfl);generalize H4++be8 (n*8) j=fin at *;go_wp2;go_ret;exact⟨by rw[<-uT.out];rfl,hB⟩

def JaP(x:Int)(j:Nat):Int:=x/2 ^ (24-8*j) % 256
def S8.list(s:S8):List Int:=[s.a,s.b,s.c,s.d,s.e,s.f,s.g,s.h]
def asB(s:S8):Nat->List Int
 | 0=>[]
 | k+1=>asB s k++[JaP (s.list.getD (k/4) 0) (k % 4)]
theorem ZC(s:S8)(k:Nat):(asB s k).length=k:=by
 induction k with
 | zero=>rfl
 | succ k ih=>simp[asB,ih]
theorem JlU(s:S8)(k j:Nat)(hj:j<4):asB s (4*k+(j+1))=asB s (4*k+j)++[JaP (s.list.getD k 0) j]:=by
 show asB s (4*k+j)++[JaP (s.list.getD ((4*k+j)/4) 0) ((4*k+j) % 4)]=_;rw[show (4*k+j)/4=k by omega,show (4*k+j) % 4=j by omega]
def arr8(l:List Int):Array aG:=(l.map (lO aE)++lC (32-l.length) (lO aE 0)).toArray
theorem JlS(l:List Int)(k:Nat)(hk:k<l.length):(arr8 l)[k]? =Z (O aE (l.getD k 0)):=by
 simp[arr8,lS,hk,lD]
theorem JlR(l:List Int)(hk:l.length<32):(arr8 l)[l.length]? =Z (O aE 0):=by
 have:¬32-l.length=0:=by omega
 simp[arr8,lS,List.getElem?_replicate];omega
theorem JlT(l:List Int)(v:Int)(hk:l.length<32):(arr8 l).setIfInBounds l.length (O aE v)=arr8 (l++[v]):=by
 obtain⟨m,hm⟩:∃m,32-l.length=m+1:=⟨31-l.length,by omega⟩
 have tq:32-(l++[v]).length=m:=by simp;omega
 unfold arr8;rw[hm,tq,List.replicate_succ];simp[lN]
theorem Jcw(l:List Int)(h:l.length<=32):(arr8 l).size=32:=by simp[arr8];omega
theorem JdC(l:List Int):(arr8 l).all (·.oneCell')=true:=by
 rw[ld];intro v hv;simp[arr8]at hv
 rcases hv with⟨a,_,rfl⟩|⟨_,rfl⟩<;>rfl
abbrev W3(w:aA)(o:Obj)(l:List Int):aA:=((w.alloc o).alloc (T (arr8 []) 335)).alloc (T (arr8 l) 335)
theorem JfU(w:aA)(o:Obj)(l:List Int):(W3 w o l).heap[w.heap.size+1+1]? =Z (T (arr8 l) 335):=by
 have:=heap_alloc_new ((w.alloc o).alloc (T (arr8 []) 335)) (T (arr8 l) 335);simpa using this
theorem JpD(w:aA)(o:Obj)(l:List Int)(k:Nat)(hl:l.length=k)(hk:k<32):(W3 w o l).cell? ⟨w.heap.size+1+1,k,Y⟩=Z (O aE 0):=by
 subst hl;rw[cell_of_row _ _ _ _ _ _ (JfU w o l)];exact JlR l hk
theorem Jkh(w:aA)(o:Obj)(l:List Int)(k:Nat):(W3 w o l).frozen? ⟨w.heap.size+1+1,k,Y⟩=false:=frozen_of_row _ _ _ _ _ (JfU w o l)
theorem JpE(w:aA)(o:Obj)(l:List Int)(v:Int)(k:Nat)(hl:l.length=k)(hk:k<32):(W3 w o l).setCell ⟨w.heap.size+1+1,k,Y⟩ (O aE v)=W3 w o (l++[v]):=by
 subst hl;rw[World.setCell_alloc_at _ _ _ _ _ (by simp),JlT l v hk]
theorem JlO(w:aA)(o:Obj)(l:List Int):Below w.heap.size w (W3 w o l):=
 (((Below.refl w.heap.size w).alloc (lE _) o).alloc (by simp) _).alloc (by simp;omega) _
theorem JpQ(x0 x1 x2 x3 x4 x5 x6 x7:Int)(k:Nat)(hk:k<8)(w:aA):
  (Instr.index 434 (aH #[O aF x0,O aF x1,O aF x2,O aF x3,O aF x4,O aF x5,O aF x6,O aF x7]) (O I (k:Int))).run N w=.ok (O aF ((S8.list ⟨x0,x1,x2,x3,x4,x5,x6,x7⟩).getD k 0)) w:=by
 obtain rfl|rfl|rfl|rfl|rfl|rfl|rfl|rfl:k=0\/k=1\/k=2\/k=3\/k=4\/k=5\/k=6\/k=7:=by omega
 all_goals kernel_rfl

theorem Jn6(s:S8)(w:aA):
  aB N 279 #[s.val] w λe w'=>e=aC (aH (arr8 (asB s 32)))/\Below w.heap.size w w':=by
 obtain⟨x0,x1,x2,x3,x4,x5,x6,x7⟩:=s;unfold S8.val;have pT:=JpQ x0 x1 x2 x3 x4 x5 x6 x7;go_enter func279,ntmps279;go_wp2;generalize hS:(⟨x0,x1,x2,x3,x4,x5,x6,x7⟩:S8)=S at *;have nO:J _:=hS;generalize hO:(Obj.cells #[O aF x0,O aF x1,O aF x2,O aF x3,O aF x4,O aF x5,O aF x6,O aF x7] 434)=aQ;have HX:J _:=pT;clear pT;go_loopw [8] (λi wr=>∃k:Nat,k<=8/\i=O I k/\wr=W3 w aQ (asB S (4*k))) (λi _=>8-(intOf i).toNat)
 case atStart=>exact⟨0,by omega,rfl,rfl⟩
 case round=>
  obtain⟨k,hk,rfl,rfl⟩:=hrel
  by_cases H7:k<8
  ·have hx:=HX k H7;have HN:J (∀j:Nat,j<4->_):=λj hj=>JlU S k j hj;generalize S.list.getD k 0=x at hx HN;have hd:decide ((k:Int)<8)=true:=(by simp;omega);go_wp2;go_loopw [12] (λi wr=>∃j:Nat,j<=4/\i=O I j/\wr=W3 w aQ (asB S (4*k+j))) (λi _=>4-(intOf i).toNat)
   case atStart=>exact⟨0,by omega,rfl,rfl⟩
   case round=>
    obtain⟨j,hj,rfl,rfl⟩:=hrel
    by_cases zG:j<4
    ·have hl:=ZC S (4*k+j);have hc:=JpD w aQ (asB S (4*k+j)) (4*k+j) hl (by omega);have hf:=Jkh w aQ (asB S (4*k+j)) (4*k+j);have HS:J (∀v,_):=λv=>JpE w aQ (asB S (4*k+j)) v (4*k+j) hl (by omega);generalize hW:W3 w aQ (asB S (4*k+j))=W at *;go_wp2;go_roundw
     case rel=>exact⟨j+1,by omega,by go_num,by rw[HN.out j zG];exact HS _⟩
     case measure=>simp[intOf];omega
    ·have HJ:J (4*k+j=4*(k+1)):=(by omega:4*k+j=4*(k+1))
     go_wp2;go_roundw
     case rel=>exact⟨k+1,by omega,by go_num,by rw[HJ.out]⟩
     case measure=>simp[intOf];omega
  ·have hk8:J (k=8):=(by omega:k=8)
   have hA:(arr8 (asB S (4*k))).size=32:=Jcw _ (by rw[ZC];omega);have zZ:(arr8 (asB S (4*k))).all (·.oneCell')=true:=JdC _;have hG:=JfU w aQ (asB S (4*k));have mW:(W3 w aQ (asB S (4*k))).heap[w.heap.size+1]? =Z (T (arr8 []) 335):=(by rw[Below.heap_alloc _ _ _ (by simp)];have:=heap_alloc_new (w.alloc aQ) (T (arr8 []) 335);simpa using this);have hB:Below w.heap.size w (W3 w aQ (asB S (4*k))):=JlO _ _ _;generalize W3 w aQ (asB S (4*k))=W at *;have HE:J (arr8 (asB S (4*k))=arr8 (asB S 32)):=(by rw[hk8.out]:arr8 (asB S (4*k))=arr8 (asB S 32))
   generalize arr8 (asB S (4*k))=A at *;have hi:(prog.info? 335).map (·.size)=Z A.size:=(by rw[hA];kernel_rfl);go_wp2_with (first|(refine wpList_load_row rfl 335 _ rfl (w.heap.size+1+1) rfl 335 A (0,0) (.array 32 5) hG underlying335 rfl hi ?_)|(refine wpList_store_row rfl 335 _ _ rfl (w.heap.size+1) A rfl rfl 335 (arr8 []) mW hi (by rw[hA];rfl) zZ ?_));refine bodyPost_ret (v:=aH A) (results_cell_row results279 _ _ (w.heap.size+1) 335 A (0,0) (.array 32 5) rfl (setRow_heap _ _ _ _ _ _ mW) underlying335 rfl hi) rfl ⟨by rw[HE.out,<-nO.out],XJ hB (by omega) _⟩

def H0:S8:=⟨1779033703,3144134277,1013904242,2773480762,1359893119,2600822924,528734635,1541459225⟩
def JcQ:aG->Nat
 | L s=>s.size
 | _=>0
def JV:Nat->S8->List UInt8->S8
 | 0,s,_=>s
 | n+1,s,l=>comp (JV n s l) ((l.drop (64*n)).take 64)

def shaS(l:List UInt8):S8:=
 JV ((padL (l.drop (64*(l.length/64))) l.length).length/64) (JV (l.length/64) H0 l) (padL (l.drop (64*(l.length/64))) l.length)
theorem set8(w:aA)(g:Nat)(t:TypeId)(old:Array aG)(v0 v1 v2 v3 v4 v5 v6 v7:aG)(ho:old.size=8)(h:w.heap[g]? =Z (T old t (0,0))):
  (((((((w.setCell ⟨g,0,Y⟩ v0).setCell ⟨g,1,Y⟩ v1).setCell ⟨g,2,Y⟩ v2).setCell ⟨g,3,Y⟩ v3).setCell ⟨g,4,Y⟩ v4).setCell ⟨g,5,Y⟩ v5).setCell ⟨g,6,Y⟩ v6).setCell ⟨g,7,Y⟩ v7=w.setRow g #[v0,v1,v2,v3,v4,v5,v6,v7]:=by
 rw[setCell_eq_setRow w g 0 old t (0,0) v0 h,
  setCell_eq_setRow _ g 1 _ t (0,0) v1 (setRow_heap _ _ _ _ _ _ h),setRow_setRow,
  setCell_eq_setRow _ g 2 _ t (0,0) v2 (setRow_heap _ _ _ _ _ _ h),setRow_setRow,
  setCell_eq_setRow _ g 3 _ t (0,0) v3 (setRow_heap _ _ _ _ _ _ h),setRow_setRow,
  setCell_eq_setRow _ g 4 _ t (0,0) v4 (setRow_heap _ _ _ _ _ _ h),setRow_setRow,
  setCell_eq_setRow _ g 5 _ t (0,0) v5 (setRow_heap _ _ _ _ _ _ h),setRow_setRow,
  setCell_eq_setRow _ g 6 _ t (0,0) v6 (setRow_heap _ _ _ _ _ _ h),setRow_setRow,
  setCell_eq_setRow _ g 7 _ t (0,0) v7 (setRow_heap _ _ _ _ _ _ h),setRow_setRow]
 refine congrArg (w.setRow g) ?_;obtain⟨l⟩:=old
 match l,ho with
 | [_,_,_,_,_,_,_,_],_=>simp
structure At8(w:aA)(g:Nat)(s:S8):Prop where
 row:w.heap[g]? =Z (T #[O aF s.a,O aF s.b,O aF s.c,O aF s.d,O aF s.e,O aF s.f,O aF s.g,O aF s.h] 434)

theorem Jda{wr:aA}{T0:S8}(C:S8)(hR:wr.heap[w.heap.size]? =Z (T (arr8 []) 335))(hA:At8 wr (w.heap.size+1) T0)(hB:Below w.heap.size w wr)(yu:Below wr.heap.size wr w1)(hN:w.heap.size+1<wr.heap.size):
  (((((((((w1.setCell ⟨w.heap.size+1,0,Y⟩ (O aF C.a)).setCell ⟨w.heap.size+1,1,Y⟩ (O aF C.b)).setCell ⟨w.heap.size+1,2,Y⟩ (O aF C.c)).setCell ⟨w.heap.size+1,3,Y⟩ (O aF C.d)).setCell ⟨w.heap.size+1,4,Y⟩ (O aF C.e)).setCell ⟨w.heap.size+1,5,Y⟩ (O aF C.f)).setCell ⟨w.heap.size+1,6,Y⟩ (O aF C.g)).setCell ⟨w.heap.size+1,7,Y⟩ (O aF C.h))).heap[w.heap.size]? =Z (T (arr8 []) 335)/\
  At8 ((((((((w1.setCell ⟨w.heap.size+1,0,Y⟩ (O aF C.a)).setCell ⟨w.heap.size+1,1,Y⟩ (O aF C.b)).setCell ⟨w.heap.size+1,2,Y⟩ (O aF C.c)).setCell ⟨w.heap.size+1,3,Y⟩ (O aF C.d)).setCell ⟨w.heap.size+1,4,Y⟩ (O aF C.e)).setCell ⟨w.heap.size+1,5,Y⟩ (O aF C.f)).setCell ⟨w.heap.size+1,6,Y⟩ (O aF C.g)).setCell ⟨w.heap.size+1,7,Y⟩ (O aF C.h)) (w.heap.size+1) C/\
  Below w.heap.size w ((((((((w1.setCell ⟨w.heap.size+1,0,Y⟩ (O aF C.a)).setCell ⟨w.heap.size+1,1,Y⟩ (O aF C.b)).setCell ⟨w.heap.size+1,2,Y⟩ (O aF C.c)).setCell ⟨w.heap.size+1,3,Y⟩ (O aF C.d)).setCell ⟨w.heap.size+1,4,Y⟩ (O aF C.e)).setCell ⟨w.heap.size+1,5,Y⟩ (O aF C.f)).setCell ⟨w.heap.size+1,6,Y⟩ (O aF C.g)).setCell ⟨w.heap.size+1,7,Y⟩ (O aF C.h)):=by
 have row1:=(yu.block _ hN).trans hA.row;rw[set8 w1 (w.heap.size+1) 434 _ _ _ _ _ _ _ _ _ rfl row1];refine⟨?_,⟨setRow_heap _ _ _ _ _ _ row1⟩,XJ (hB.trans (yu.mono hB.size)) (by omega) _⟩;rw[setRow_other _ _ _ _ (by omega),yu.block _ (by omega)];exact hR
theorem Jg6(r:ByteArray)(l:List UInt8)(n:Nat)(h:r.data.toList=l):(r.extract 0 n).data.toList=l.take n:=by
 subst h;simp[lI]
theorem Jg5(r:ByteArray)(l:List UInt8)(n m:Nat)(h:r.data.toList=l.drop m):(r.extract n r.size).data.toList=l.drop (m+n):=by
 have hz:r.size=r.data.toList.length:=by simp
 rw[lI,Array.toList_extract,lW,<-List.drop_drop,<-h];exact l9 (by rw[List.length_drop,<-hz];exact lE _)

theorem JhD(r:List UInt8)(n:Nat):(padL r n).length % 64=0:=by
 simp[padL,be8,zs];omega
theorem Jf9(q:ByteArray)(h:q.size=0):q.toList.isEmpty=true:=by
 have hl:q.data.toList.length=0:=by rw[<-h];simp
 rw[ByteArray.toList_eq,lM hl];rfl
theorem JeW(q:ByteArray)(h:0<q.size):q.toList.isEmpty=false:=by
 have hl:q.data.toList.length=q.size:=by simp
 rw[ByteArray.toList_eq]
 cases hx:q.data.toList with
 | nil=>rw[hx]at hl;simp at hl;omega
 | cons _ _=>rfl

theorem Jo0(s:ByteArray)(w:aA)(hs:s.size<1152921504606846976)(h7:13<w.heap.size)(hT:∀i,i<64->w.cell? ⟨13,i,Y⟩=Z (O aF (Ks.getD i 0))):
  aB N 199 #[L s] w λe w'=>e=aC (aH (arr8 (asB (shaS s.data.toList) 32)))/\Below w.heap.size w w':=by
 have HT:J _:=hT;go_enter func199,ntmps199;go_wp2;go_loopw [4] (λv wr=>∃(k:Nat)(r:ByteArray),64*k<=s.size/\v=L r/\r.data.toList=s.data.toList.drop (64*k)/\wr.heap[w.heap.size]? =Z (T (arr8 []) 335)/\At8 wr (w.heap.size+1) (JV k H0 s.data.toList)/\Below w.heap.size w wr) (λv _=>JcQ v)
 case atStart=>exact⟨0,s,by omega,rfl,rfl,heap_alloc2_old _ _ _,⟨heap_alloc2_new _ _ _⟩,((Below.refl _ _).alloc (lE _) _).alloc (by simp) _⟩
 case round=>
  obtain⟨k,r,hk,rfl,(Hr:J _),hR,hA,hB⟩:=hrel;have hrs:r.size=s.size-64*k:=by have:r.data.toList.length=(s.data.toList.drop (64*k)).length:=(by rw[Hr]);simpa using this
  have hN:w.heap.size+1<wr.heap.size:=by have:=hA.row;exact(lJ.1 this).1
  by_cases H7:64*(k+1)<=s.size
  ·have tZ:J (JV (k+1) H0 s.data.toList=comp (JV k H0 s.data.toList) ((s.data.toList.drop (64*k)).take 64)):=rfl;have Hrx:J ((r.extract 0 64).data.toList=(s.data.toList.drop (64*k)).take 64/\(r.extract 64 (s.size-64*k)).data.toList=s.data.toList.drop (64*(k+1))):=⟨Jg6 r _ 64 Hr,by rw[<-hrs,show 64*(k+1)=64*k+64 by omega];exact Jg5 r _ 64 (64*k) Hr⟩
   generalize JV k H0 s.data.toList=T0 at *;have hZ:=hA.row;have HR:J _:=hZ;obtain⟨c0,c1,c2,c3,c4,c5,c6,c7⟩:=rows hZ;have f0:∀j,wr.frozen? ⟨w.heap.size+1,j,Y⟩=false:=λj=>frozen_of_row _ _ _ _ _ hZ;have jA:(64:Int)<=(r.size:Int):=(by omega);have cp:(r.extract 0 64).size=64:=(by simp;omega);have h7r:13<wr.heap.size:=(by omega);have HTr:J (∀i,i<64->wr.cell? ⟨13,i,Y⟩=Z (O aF (Ks.getD i 0))):=λi hi=>by rw[hB.cell (p:=⟨13,i,Y⟩) h7];exact HT i hi
   go_wp2;go_region_with (go_at_call 277;refine(JgY T0 _ _ ?_ ?_ ?_).mono ?_;exact cp;exact h7r;exact HTr.out;rintro _ w1⟨rfl,(kf:J _)⟩;have d0:=(kf.cell (p:=⟨w.heap.size+1,0,Y⟩) hN).trans c0;have d1:=(kf.cell (p:=⟨w.heap.size+1,1,Y⟩) hN).trans c1;have d2:=(kf.cell (p:=⟨w.heap.size+1,2,Y⟩) hN).trans c2;have d3:=(kf.cell (p:=⟨w.heap.size+1,3,Y⟩) hN).trans c3;have d4:=(kf.cell (p:=⟨w.heap.size+1,4,Y⟩) hN).trans c4;have d5:=(kf.cell (p:=⟨w.heap.size+1,5,Y⟩) hN).trans c5;have d6:=(kf.cell (p:=⟨w.heap.size+1,6,Y⟩) hN).trans c6;have d7:=(kf.cell (p:=⟨w.heap.size+1,7,Y⟩) hN).trans c7;have g0:∀j,_:=λj=>(kf.frozen (p:=⟨w.heap.size+1,j,Y⟩) hN).trans (f0 j);generalize hC:comp T0 _=C;have HC:J _:=hC;unfold S8.val)
   all_goals
    go_wp2;go_roundw
    case rel=>obtain⟨e1,e2,e3⟩:=Jda C hR hA hB ⟨kf.os,kf.tape,kf.output,kf.size,kf.block⟩ hN;exact⟨k+1,_,H7,rfl,Hrx.2,e1,by rw[tZ.out,<-Hrx.out.1,HC.out];exact e2,e3⟩
    case measure=>simp[JcQ];omega
  ·have hr64:r.size<64:=(by omega);generalize vt:JV k H0 s.data.toList=T0 at *;have kJ:J _:=vt;have Hk:J (k=s.size/64):=(by omega:k=s.size/64)
   have jM:¬(64:Int)<=(r.size:Int):=(by omega);clear vt H7;go_wp2_with (go_at_call 278;refine(JoQ r s.size _ hr64 hs).mono ?_;rintro _ w1⟨rfl,yu⟩);have dn:=(yu.block _ (by omega)).trans hR;have zZ:At8 w1 (w.heap.size+1) T0:=⟨(yu.block _ hN).trans hA.row⟩
   have cZ:=hB.trans (yu.mono hB.size);have HL:J ((padL r.data.toList s.size).length % 64=0):=JhD _ _;generalize hP:padL r.data.toList s.size=PL at *;have HP:J _:=hP;go_loopw [4] (λv wr=>∃(j:Nat)(q:ByteArray),64*j<=PL.length/\v=L q/\q.data.toList=PL.drop (64*j)/\wr.heap[w.heap.size]? =Z (T (arr8 []) 335)/\At8 wr (w.heap.size+1) (JV j T0 PL)/\Below w.heap.size w wr) (λv _=>JcQ v)
   case atStart=>exact⟨0,_,by omega,rfl,rfl,dn,zZ,cZ⟩
   case round=>
    obtain⟨j,q,hj,rfl,hq,hR,hA,hB⟩:=hrel;have hqs:q.size=PL.length-64*j:=(by have:q.data.toList.length=(PL.drop (64*j)).length:=(by rw[hq]);simpa using this);have hN:=(lJ.1 hA.row).1
    by_cases H7:64*(j+1)<=PL.length
    ·have tZ:J (JV (j+1) T0 PL=comp (JV j T0 PL) ((PL.drop (64*j)).take 64)):=rfl;have Hrx:J ((q.extract 0 64).data.toList=(PL.drop (64*j)).take 64/\(q.extract 64 q.size).data.toList=PL.drop (64*(j+1))):=⟨Jg6 q _ 64 hq,by rw[show 64*(j+1)=64*j+64 by omega];exact Jg5 q _ 64 (64*j) hq⟩
     generalize JV j T0 PL=T1 at *;have hZ:=hA.row;obtain⟨c0,c1,c2,c3,c4,c5,c6,c7⟩:=rows hZ;have f0:∀j,wr.frozen? ⟨w.heap.size+1,j,Y⟩=false:=λj=>frozen_of_row _ _ _ _ _ hZ;have jA:(64:Int)<=(q.size:Int):=(by omega);have cp:(q.extract 0 64).size=64:=(by simp;omega);have h7r:13<wr.heap.size:=(by omega);have HTr:J (∀i,i<64->wr.cell? ⟨13,i,Y⟩=Z (O aF (Ks.getD i 0))):=λi hi=>by rw[hB.cell (p:=⟨13,i,Y⟩) h7];exact HT i hi
     have Hl:=JeW q (by omega);clear hZ hq hqs;go_wp2;go_region_with (go_at_call 277;refine(JgY T1 _ _ ?_ ?_ ?_).mono ?_;exact cp;exact h7r;exact HTr.out;rintro _ w1⟨rfl,(kf:J _)⟩;have d0:=(kf.cell (p:=⟨w.heap.size+1,0,Y⟩) hN).trans c0;have d1:=(kf.cell (p:=⟨w.heap.size+1,1,Y⟩) hN).trans c1;have d2:=(kf.cell (p:=⟨w.heap.size+1,2,Y⟩) hN).trans c2;have d3:=(kf.cell (p:=⟨w.heap.size+1,3,Y⟩) hN).trans c3;have d4:=(kf.cell (p:=⟨w.heap.size+1,4,Y⟩) hN).trans c4;have d5:=(kf.cell (p:=⟨w.heap.size+1,5,Y⟩) hN).trans c5;have d6:=(kf.cell (p:=⟨w.heap.size+1,6,Y⟩) hN).trans c6;have d7:=(kf.cell (p:=⟨w.heap.size+1,7,Y⟩) hN).trans c7;have g0:∀j,_:=λj=>(kf.frozen (p:=⟨w.heap.size+1,j,Y⟩) hN).trans (f0 j);generalize hC:comp T1 _=C;have HC:J _:=hC;clear hC;unfold S8.val)
     all_goals
      go_wp2;go_roundw
      case rel=>obtain⟨e1,e2,e3⟩:=Jda C hR hA hB ⟨kf.os,kf.tape,kf.output,kf.size,kf.block⟩ hN;exact⟨j+1,_,H7,rfl,Hrx.2,e1,by rw[tZ.out,<-Hrx.out.1,HC.out];exact e2,e3⟩
      case measure=>simp[JcQ];omega
    ·have hLL:=HL.out;have Hj:J (j=PL.length/64):=(by omega:j=PL.length/64)
     have hem:=Jf9 q (by omega);generalize pF:JV j T0 PL=T1 at *;have H5:J _:=pF;have hZ:=hA.row;obtain⟨c0,c1,c2,c3,c4,c5,c6,c7⟩:=rows hZ;clear hZ hq hqs pF hLL H7 hj;go_wp2_with fail;refine(Jn6 T1 _).mono ?_;rintro _ w1⟨rfl,yu⟩;have mW:=(yu.block _ (by omega)).trans hR;have hBf:=hB.trans (yu.mono hB.size);clear yu c0 c1 c2 c3 c4 c5 c6 c7 hR hA hB;have rQ:(arr8 (asB T1 32)).size=32:=Jcw _ (by rw[ZC];omega);have zZ:(arr8 (asB T1 32)).all (·.oneCell')=true:=JdC _;have HE:J (arr8 (asB T1 32)=arr8 (asB (shaS s.data.toList) 32)):=(by show _=_;rw[<-H5.out,Hj.out,<-HP.out,Hr.out,<-kJ.out,Hk.out];simp[shaS]);generalize arr8 (asB T1 32)=A at *;have hi:(prog.info? 335).map (·.size)=Z A.size:=(by rw[rQ];kernel_rfl);go_wp2_with (refine wpList_store_row rfl 335 _ _ rfl w.heap.size A rfl rfl 335 (arr8 []) mW hi (by rw[rQ];rfl) zZ ?_);refine bodyPost_ret (v:=aH A) (results_cell_row results199 _ _ w.heap.size 335 A (0,0) (.array 32 5) rfl (setRow_heap _ _ _ _ _ _ mW) underlying335 rfl hi) rfl ⟨by rw[HE.out],XJ hBf (lE _) _⟩

def digL(l:List UInt8):List UInt8:=(asB (shaS l) 32).map λx=>lQ x.toNat
theorem Jf2(x:Int)(j:Nat):0<=JaP x j/\JaP x j<256:=⟨Int.emod_nonneg _ (by omega),Int.emod_lt_of_pos _ (by omega)⟩
theorem Jkk(s:S8)(k:Nat):∀x∈asB s k,0<=x/\x<256:=by
 induction k with
 | zero=>intro x hx;cases hx
 | succ k ih=>
  intro x hx;simp only[asB,List.mem_append,ll]at hx
  rcases hx with hx|rfl
  ·exact ih x hx
  ·exact Jf2 _ _
theorem JaR(l:List UInt8):(digL l).length=32:=by simp[digL,ZC]
theorem Jiy(aS:List Int)(j:Nat)(hr:∀x∈aS,0<=x/\x<256)(h:j<(aS.map λx=>lQ x.toNat).length):(arr8 aS)[j]? =Z (O aE ((aS.map λx=>lQ x.toNat)[j].toNat:Int)):=by
 have xg:j<aS.length:=by simpa using h
 rw[JlS _ _ xg];have hr:=hr _ (lp xg);simp only[List.getElem_map,lD,lX xg,Option.getD_some,UInt8.toNat_ofNat']
 congr 2
 omega
theorem Jkt(l:List UInt8)(j:Nat)(h:j<(digL l).length):(arr8 (asB (shaS l) 32))[j]? =Z (O aE ((digL l)[j].toNat:Int)):=
 Jiy (asB (shaS l) 32) j (Jkk _ _) h

theorem JmQ(n:Nat)(s:ByteArray)(w:aA)(h1:1<=n)(n9:n<=32)(hs:s.size<1152921504606846976)(h7:13<w.heap.size)(hT:∀i,i<64->w.cell? ⟨13,i,Y⟩=Z (O aF (Ks.getD i 0))):
  aB N 130 #[O I (n:Int),L s] w λe w'=>e=aC (L ⟨((digL s.data.toList).take n).toArray⟩)/\Below w.heap.size w w':=by
 have HT:J _:=hT;go_enter func130,ntmps130;go_wp2_with fail;refine(Jo0 s _ hs h7 HT.out).mono ?_;rintro _ w1⟨rfl,hB⟩;have rQ:(arr8 (asB (shaS s.data.toList) 32)).size=32:=Jcw _ (by rw[ZC];omega);have zZ:(arr8 (asB (shaS s.data.toList) 32)).all (·.oneCell')=true:=JdC _;have HC:J (∀j (hj:j<(digL s.data.toList).length),_):=λj hj=>Jkt _ j hj;generalize arr8 (asB (shaS s.data.toList) 32)=A at *;have hi:(prog.info? 335).map (·.size)=Z A.size:=by rw[rQ];kernel_rfl
 have mX:∀o,Below w.heap.size w ((w1.alloc o).setRow w1.heap.size A):=λo=>XJ (hB.alloc hB.size _) hB.size _;have hconv:∀C,(convert 52 9 (R (Z ⟨w1.heap.size,0,Y⟩) n 32)).run N ((w1.alloc (T C 335)).setRow w1.heap.size A)=.ok (L ⟨((digL s.data.toList).take n).toArray⟩) ((w1.alloc (T C 335)).setRow w1.heap.size A):=by
  intro C;have hZ:((w1.alloc (T C 335)).setRow w1.heap.size A).heap[w1.heap.size]? =Z (T A 335):=setRow_heap _ _ _ _ _ _ (heap_alloc_new _ _);have hl:((digL s.data.toList).take n).length=n:=by rw[lh,JaR];omega
  have:=run_convert_bytes_back (P:=N) ((w1.alloc (T C 335)).setRow w1.heap.size A) 52 9 5 ⟨w1.heap.size,0,Y⟩ 32 ((digL s.data.toList).take n) underlying52 underlying5 underlying9 (λj hj=>by
   rw[Addr.add_lit,lY,cell_of_row _ _ _ _ _ _ hZ];have zG:j<(digL s.data.toList).length:=(by rw[lh]at hj;omega);rw[HC.out j zG];simp)
  rw[hl]at this;exact this
 have h32i:(n:Int)<=32:=by omega
 have n9:¬32=0:=by omega
 go_wp2_with (refine wpList_store_row rfl 335 _ _ rfl w1.heap.size A rfl rfl 335 _ (heap_alloc_new _ _) hi (by rw[rQ];rfl) zZ ?_)
 all_goals go_ret
 all_goals exact⟨rfl,mX _⟩

theorem Yn(n:Nat)(w:aA)(h1:1<=n)(n9:n<=32):
  aB N 124 #[O I (n:Int)] w λe w'=>e=aC aK/\w=w':=by
 have a1:¬(n:Int)<1:=by omega
 have a2:¬(32:Int)<(n:Int):=by omega
 go_enter func124,ntmps124;go_wp2;go_ret;exact⟨rfl,rfl⟩
theorem Jku(n:Nat)(s:ByteArray)(w:aA)(h1:1<=n)(n9:n<=32)(hs:s.size<1152921504606846976)(h7:13<w.heap.size)(hT:∀i,i<64->w.cell? ⟨13,i,Y⟩=Z (O aF (Ks.getD i 0))):
  aB N 73 #[O I (n:Int),L s] w λe w'=>e=aC (aI #[L ⟨((digL s.data.toList).take n).toArray⟩,O I 0])/\Below w.heap.size w w':=by
 have HT:J _:=hT;go_enter func73,ntmps73;go_wp2_with fail;refine(Yn n _ h1 n9).mono ?_;rintro _ _⟨rfl,rfl⟩;go_wp2_with fail;refine(JmQ n s _ h1 n9 hs h7 HT).mono ?_;rintro _ w1⟨rfl,hB⟩;go_wp2;go_ret2;exact⟨rfl,hB⟩

theorem Qa:type_of% @lN:=@lN
theorem Qb:type_of% @List.set_cons_zero:=@List.set_cons_zero
theorem Qc:type_of% @List.set_cons_succ:=@List.set_cons_succ
theorem Qd:type_of% @lX:=@lX
theorem Qe:type_of% @lH:=@lH
theorem Qf:type_of% @heap_alloc_new:=@heap_alloc_new
theorem Qg:type_of% @frozen_of_row:=@frozen_of_row
theorem Qh:type_of% @lw.injEq:=@lw.injEq
theorem Qi:type_of% @setRow_heap:=@setRow_heap
theorem Qj:type_of% @setCell_eq_setRow:=@setCell_eq_setRow
theorem Qk:type_of% @lG:=@lG
theorem Ql:type_of% @lE:=@lE
theorem Qm:type_of% @lr:=@lr
theorem Qn:type_of% @lD:=@lD
theorem Qo:type_of% @lK:=@lK
theorem Qp:type_of% @List.length_cons:=@List.length_cons
theorem Qq:type_of% @results_cell_row:=@results_cell_row
theorem Qr:type_of% @World.block_lt_of_cell?:=@World.block_lt_of_cell?
theorem Qs:type_of% @l8:=@l8
theorem Qt:type_of% @ll:=@ll
theorem Qu:type_of% @lq:=@lq
theorem Qv:type_of% @List.length_nil:=@List.length_nil
theorem Qw:type_of% @Prod.mk.injEq:=@Prod.mk.injEq
theorem Qx:type_of% @lp:=@lp
theorem Qy:type_of% @Value.slice.injEq:=@Value.slice.injEq
theorem Qz:type_of% @lT:=@lT
theorem QA:type_of% @Array.length_toList:=@Array.length_toList
theorem QB:type_of% @lh:=@lh
theorem QC:type_of% @List.append_nil:=@List.append_nil
theorem QD:type_of% @List.not_mem_nil:=@List.not_mem_nil
theorem QE:type_of% @List.mem_append:=@List.mem_append
theorem QF:type_of% @lV:=@lV
theorem QG:type_of% @List.flatMap_cons:=@List.flatMap_cons
theorem QH:type_of% @List.cons.injEq:=@List.cons.injEq
theorem QI:type_of% @setRow_setRow:=@setRow_setRow
theorem QJ:type_of% @lJ:=@lJ
theorem QK:type_of% @bodyPost_ret:=@bodyPost_ret
theorem QL:type_of% @List.mem_map:=@List.mem_map
theorem QM:type_of% @List.length_map:=@List.length_map
theorem QN:type_of% @List.mem_cons_self:=@List.mem_cons_self
theorem QO:type_of% @List.mem_filter:=@List.mem_filter
theorem QP:type_of% @lM:=@lM
theorem QQ:type_of% @List.mem_cons_of_mem:=@List.mem_cons_of_mem
theorem QR:type_of% @lf:=@lf
theorem QS:type_of% @l9:=@l9
theorem QT:type_of% @List.mem_of_getElem?:=@List.mem_of_getElem?
abbrev BA:=ByteArray
theorem Ja{g j:Nat}{cs:Array aG}(hg:w.heap[g]? =Z (T cs t fr)):w.cell? ⟨g,j,Y⟩=cs[j]? :=cell_of_row w g j cs t fr hg
theorem noE{P:α->Prop}(a:α)(h:False):P a:=h.elim
theorem Jb{a:Array α}{i:Nat}{x:α}(h:a[i]? =Z x):i<a.size:=(lJ.1 h).1
theorem _root_.Go.RowKit.Hid.o{p:Prop}(h:J p):p:=h
abbrev D:Nat->Prop:=λ_=>False
structure M(S:Nat->Prop)(w w':aA):Prop where
 os:w'.os=w.os
 tape:w'.tape=w.tape
 output:w'.output=w.output
 size:w.heap.size<=w'.heap.size
 block:∀k,k<w.heap.size->¬S k->w'.heap[k]? =w.heap[k]?
theorem M.refl(S:Nat->Prop)(w:aA):M S w w:=⟨rfl,rfl,rfl,lE _,λ_ _ _=>rfl⟩
theorem M.trans{a b c:aA}(h:M S a b)(k:M S' b c)(hs:∀j,S' j->S j\/a.heap.size<=j):M S a c:=
 ⟨k.os.trans h.os,k.tape.trans h.tape,k.output.trans h.output,lr h.size k.size,λj hj hn=>(k.block j (lG hj h.size) (λxg=>by rcases hs j xg with h1|h1;exact hn h1;omega)).trans (h.block j hj hn)⟩
theorem M.mono{a b:aA}(h:M S a b)(hs:∀j,S j->S' j\/a.heap.size<=j):M S' a b:=
 ⟨h.os,h.tape,h.output,h.size,λj hj hn=>h.block j hj (λxg=>by rcases hs j xg with h1|h1;exact hn h1;omega)⟩
theorem M.cell(h:M S w w'){p:Addr}(hp:p.block<w.heap.size)(hn:¬S p.block):w'.cell? p=w.cell? p:=lP (w:=w) (h.block p.block hp hn)
theorem M.of_below(h:Below B w w'):M (λk=>B<=k) w w':=⟨h.os,h.tape,h.output,h.size,λk _ hn=>h.block k (by omega)⟩
theorem M.below(h:M S w w')(hB:B<=w.heap.size)(hs:∀j,S j->B<=j):Below B w w':=⟨h.os,h.tape,h.output,h.size,λk hk=>h.block k (by omega) (λhj=>by have:=hs k hj;omega)⟩
theorem M.alloc(S:Nat->Prop)(w:aA)(o:Obj):M S w (w.alloc o):=⟨rfl,rfl,rfl,by simp,λk hk _=>Below.heap_alloc w o k hk⟩
theorem M.drewN(S:Nat->Prop)(w:aA)(n:Nat):M S w (w.drewN n):=⟨rfl,rfl,rfl,lE _,λ_ _ _=>rfl⟩
theorem M.setRow(w:aA)(g:Nat)(cs:Array aG):M (λk=>k=g) w (w.setRow g cs):=⟨rfl,rfl,rfl,by simp,λk _ hn=>setRow_other _ _ _ _ hn⟩
theorem M.grown{w w':aA}{row:Option Nat}(h:w.grownBy w' row):M (λk=>Z k=row) w w':=⟨h.os,h.tape,h.output,h.size,h.block⟩

theorem gPow:Tryz.prog.globalNamed "internal/strconv.uint64pow10" =Z 15:=by kernel_rfl
structure Env(E:Nat->Addr)(w:aA):Prop where
 size:18<=w.heap.size
 form:w.cell? ⟨7,0,Y⟩=Z (aJ 509 (X (Z (E 7))))
 tip:w.cell? ⟨0,0,Y⟩=Z (aJ 509 (X (Z (E 0))))
 input:w.cell? ⟨1,0,Y⟩=Z (aJ 509 (X (Z (E 1))))
 exist:w.cell? ⟨2,0,Y⟩=Z (aJ 509 (X (Z (E 2))))
 sum:w.cell? ⟨3,0,Y⟩=Z (aJ 509 (X (Z (E 3))))
 root:w.cell? ⟨4,0,Y⟩=Z (aJ 509 (X (Z (E 4))))
 range:w.cell? ⟨5,0,Y⟩=Z (aJ 509 (X (Z (E 5))))
 torn:w.cell? ⟨6,0,Y⟩=Z (aJ 509 (X (Z (E 6))))
 pow:Lib.TabIs Tryz.prog w "internal/strconv.uint64pow10" aD Lib.pow10Tab
 table:∀i,i<64->w.cell? ⟨13,i,Y⟩=Z (O aF (Ks.getD i 0))
theorem Env.tch(h:Env E w)(k:M S w w')(hs:∀j,S j->18<=j):Env E w':=by
 have hc:∀b o,b<18->w'.cell? ⟨b,o,Y⟩=w.cell? ⟨b,o,Y⟩:=λb o hb=>k.cell (p:=⟨b,o,Y⟩) (lG hb h.size) (λhj=>by have:18<=b:=hs _ hj;omega);have rS:Lib.TabIs Tryz.prog w' "internal/strconv.uint64pow10" aD Lib.pow10Tab:=by have hb:=k.block 15 (lG (by decide) h.size) (λhj=>by have:=hs _ hj;omega);have:=h.pow;unfold Lib.TabIs World.var? at this ⊢;rw[gPow]at this ⊢;simp only[lq]at this ⊢;rw[hb];exact this
 exact⟨lr h.size k.size,(hc _ _ (by decide)).trans h.form,(hc _ _ (by decide)).trans h.tip,(hc _ _ (by decide)).trans h.input,(hc _ _ (by decide)).trans h.exist,(hc _ _ (by decide)).trans h.sum,(hc _ _ (by decide)).trans h.root,(hc _ _ (by decide)).trans h.range,(hc _ _ (by decide)).trans h.torn,rS,λi hi=>(hc _ _ (by decide)).trans (h.table i hi)⟩
abbrev eV(E:Nat->Addr)(g:Nat):aG:=aJ 509 (X (Z (E g)))

structure PS where
 of ::
 v:(List UInt8×List UInt8) ⊕ List UInt8
abbrev PS.rd(H4 rest:List UInt8):PS:=⟨Sum.inl (H4,rest)⟩
abbrev PS.wr(done:List UInt8):PS:=⟨Sum.inr done⟩
theorem PS.on{motive:PS->Prop}(rd:∀H4 rest,motive (.rd H4 rest))(wr:∀done,motive (.wr done)):∀p,motive p
 | ⟨Sum.inl (a,b)⟩=>rd a b
 | ⟨Sum.inr d⟩=>wr d
def Jd(w:aA)(b:Nat)(g:Option Nat)(wj:Int)(err:aG):PS->Prop
 | ⟨Sum.inl (H4,rest)⟩=>g=Y/\w.heap[b]? =Z (T #[aJ 170 (X (Z ⟨b,0,Y⟩)),O I wj,err,L ⟨(H4++rest).toArray⟩,O I (H4.length:Int)] 174)
 | ⟨Sum.inr done⟩=>∃v,v.ownBlock=g/\Bs (b+1) w v (bc done)/\w.heap[b]? =Z (T #[aJ 153 (X (Z ⟨b,0,Y⟩)),O I wj,err,v] 161)
theorem Jd.lt{p:PS}(h:Jd w b g wj err p):b<w.heap.size:=by
 cases p using PS.on with
 | rd q r=>exact(Jb h.2)
 | wr d=>obtain⟨v,_,_,h⟩:=h;exact(Jb h)
theorem Jd.own{p:PS}(h:Jd w b g wj err p):∀k,g=Z k->b<k/\k<w.heap.size:=by
 cases p using PS.on with
 | rd q r=>intro k hk;rw[h.1]at hk;cases hk
 | wr d=>obtain⟨v,rfl,hb,_⟩:=h;intro k hk;have:=hb.own k hk;omega
theorem Jd.tch{p:PS}(h:Jd w b g wj err p)(k:M S w w')(hb:¬S b)(hg:∀j,g=Z j->¬S j):Jd w' b g wj err p:=by
 have H7:=h.lt
 cases p using PS.on with
 | rd q r=>exact⟨h.1,(k.block b H7 hb).trans h.2⟩
 | wr d=>
  obtain⟨v,hv,ko,hZ⟩:=h;refine⟨v,hv,?_,(k.block b H7 hb).trans hZ⟩
  rcases ko with ko|⟨gg,cap,rfl,h1,h2,h3,h4,h5,h6⟩
  ·exact .inl ko
  ·have yr:w'.heap[gg]? =w.heap[gg]? :=k.block gg h2 (hg gg (by rw[<-hv];rfl));refine .inr ⟨gg,cap,rfl,h1,lG h2 k.size,h3,h4,λj u hu=>?_,λj hj=>?_⟩
   ·rw[lP (a:=⟨gg,j,Y⟩) yr];exact h5 j u hu
   ·rw[lP (a:=⟨gg,j,Y⟩) yr,World.frozen?_of_block (a:=⟨gg,j,Y⟩) yr];exact h6 j hj
def Jq(w:aA)(g g':Option Nat):Prop:=g'=g\/∃k,g'=Z k/\w.heap.size<=k
theorem Ta:type_of% @M.alloc:=@M.alloc
theorem Td:type_of% @M.drewN:=@M.drewN
theorem Ts:type_of% @M.setRow:=@M.setRow
theorem Te:type_of% @M.refl:=@M.refl
theorem Tg:type_of% @M.grown:=@M.grown

theorem JnB(l:List UInt8)(n:Nat):((⟨l.toArray⟩:BA).extract n (⟨l.toArray⟩:BA).size)=⟨(l.drop n).toArray⟩:=by
 apply ByteArray.ext;have:(⟨l.toArray⟩:BA).size=l.length:=by simp[ByteArray.size]
 rw[this,lI];apply Array.ext';simp[lW];exact QS (by simp)
theorem JnC(l:List UInt8)(n:Nat):((⟨l.toArray⟩:BA).extract 0 n)=⟨(l.take n).toArray⟩:=by
 apply ByteArray.ext;rw[lI];apply Array.ext';simp
theorem Ji(l:List UInt8):(⟨l.toArray⟩:BA).size=l.length:=by simp[ByteArray.size]

theorem Jo7(l:List UInt8)(a b:Nat):((⟨l.toArray⟩:BA).extract a b)=⟨((l.take b).drop a).toArray⟩:=by
 apply ByteArray.ext;rw[lI];apply Array.ext';simp[lW,List.drop_take]

theorem Jnh(b:Nat)(wj:Int)(err:aG)(H4 rest:List UInt8)(k:Nat)(w:aA)(hp:Jd w b Y wj err (.rd H4 rest))(hk:k<=H4.length):
  aB N 384 #[X (Z ⟨b,0,Y⟩),O I (k:Int)] w λe w'=>e=aC (L ⟨(H4.drop k).toArray⟩)/\∃n,w'=w.drewN n:=by
 have hZ:=hp.2;obtain⟨-, -, -,c3,c4⟩:=rows hZ;have Hp:H4.length<=(⟨(H4++rest).toArray⟩:BA).size:=by rw[Ji,Qe];omega
 have hx:(⟨(H4++rest).toArray⟩:BA).extract k H4.length=⟨(H4.drop k).toArray⟩:=by rw[Jo7,List.take_left'];rfl
 generalize (⟨(H4.drop k).toArray⟩:BA)=rt at *;generalize (⟨(H4++rest).toArray⟩:BA)=r at *;generalize H4.length=n at *;go_enter func384,ntmps384;go_wp2;go_region
 all_goals go_wp2
 all_goals go_ret
 all_goals exact⟨rfl,1,rfl⟩

theorem Jef(E:Nat->Addr)(b:Nat)(wj:Int)(err x:aG)(H4 rest:List UInt8)(n:Nat)(w:aA)(hE:Env E w)(hp:Jd w b Y wj err (.rd H4 rest))(hb:H4.length+rest.length<=10000000000000)(hn:rest.length<n):
  aB N 385 #[X (Z ⟨b,0,Y⟩),x,O I (n:Int)] w λe w'=>e=aC (aI #[L ⟨#[]⟩,eV E 7])/\∃k,w'=w.drewN k:=by
 have hZ:=hp.2;obtain⟨-, -, -,c3,c4⟩:=rows hZ;have hf:=hE.form;have Hp:(⟨(H4++rest).toArray⟩:BA).size=H4.length+rest.length:=by rw[Ji,Qe]
 generalize (⟨(H4++rest).toArray⟩:BA)=r at *;have H7:(r.size:Int)-(H4.length:Int)<(n:Int):=by omega
 have zh:I.wrap ((r.size:Int)-(H4.length:Int))=(r.size:Int)-(H4.length:Int):=by simp[lZ,l5,lR];omega
 generalize H4.length=m at *;go_enter func385,ntmps385;go_wp2;go_region
 all_goals go_wp2
 all_goals go_region
 all_goals go_wp2
 all_goals go_ret2
 all_goals exact⟨rfl,2,rfl⟩

theorem Jng{H4 rest:List UInt8}(n:Nat)(hp:Jd w b Y wj err (.rd H4 rest))(hn:n<=rest.length):
  Jd (w.setCell ⟨b,4,Y⟩ (O I ((H4.length:Int)+(n:Int)))) b Y wj err (.rd (H4++rest.take n) (rest.drop n))/\M (λk=>k=b) w (w.setCell ⟨b,4,Y⟩ (O I ((H4.length:Int)+(n:Int)))):=by
 have hZ:=hp.2;have h1:=Qj w b 4 _ _ (0,0) (O I ((H4.length:Int)+(n:Int))) hZ;have r1:=Qi w b _ (#[aJ 170 (X (Z ⟨b,0,Y⟩)),O I wj,err,L ⟨(H4++rest).toArray⟩,O I (H4.length:Int)].setIfInBounds 4 (O I ((H4.length:Int)+(n:Int)))) _ _ hZ;rw[h1];refine⟨⟨rfl,?_⟩,Ts _ _ _⟩;rw[r1,Qs,List.take_append_drop];have:((H4++rest.take n).length:Int)=(H4.length:Int)+(n:Int):=by rw[Qe,QB];omega
 rw[this];rfl
theorem Jeg(b:Nat)(wj:Int)(err x:aG)(H4 rest:List UInt8)(n:Nat)(w:aA)(hp:Jd w b Y wj err (.rd H4 rest))(hb:H4.length+rest.length<=10000000000000)(hn:n<=rest.length):
  aB N 385 #[X (Z ⟨b,0,Y⟩),x,O I (n:Int)] w λe w'=>e=aC (aI #[L ⟨(rest.take n).toArray⟩,aK])/\Jd w' b Y wj err (.rd (H4++rest.take n) (rest.drop n))/\M (λk=>k=b) w w':=by
 have hZ:=hp.2;obtain⟨-, -, -,c3,c4⟩:=rows hZ;have f4:w.frozen? ⟨b,4,Y⟩=false:=Qg _ _ _ _ _ hZ;have Hp:(⟨(H4++rest).toArray⟩:BA).size=H4.length+rest.length:=by rw[Ji,Qe]
 obtain⟨q1,q2⟩:=Jng n hp hn;have HS:J (∀k:Nat,aB N 384 #[X (Z ⟨b,0,Y⟩),O I (H4.length:Int)] ((w.drewN k).setCell ⟨b,4,Y⟩ (O I ((H4.length:Int)+(n:Int)))) λe w'=>e=aC (L ⟨(rest.take n).toArray⟩)/\∃m,w'=((w.drewN k).setCell ⟨b,4,Y⟩ (O I ((H4.length:Int)+(n:Int)))).drewN m):=λk=>by
  have:=Jnh b wj err (H4++rest.take n) (rest.drop n) H4.length ((w.drewN k).setCell ⟨b,4,Y⟩ (O I ((H4.length:Int)+(n:Int)))) (Jng (w:=w.drewN k) n hp hn).1 (by rw[Qe];omega);rw[List.drop_left']at this
  ·exact this
  ·rfl
 have Q1:J (∀k:Nat,_):=λk=>Jng (w:=w.drewN k) n hp hn;generalize (⟨(rest.take n).toArray⟩:BA)=rt at *;generalize (⟨(H4++rest).toArray⟩:BA)=r at *;have H7:¬(r.size:Int)-(H4.length:Int)<(n:Int):=by omega
 have zh:I.wrap ((r.size:Int)-(H4.length:Int))=(r.size:Int)-(H4.length:Int):=by simp[lZ,l5,lR];omega
 have fQ:I.wrap ((H4.length:Int)+(n:Int))=(H4.length:Int)+(n:Int):=by simp[lZ,l5,lR];omega
 generalize hm:(H4.length:Int)=m at *;have HM:J _:=hm;go_enter func385,ntmps385;go_wp2;go_region;go_wp2_with fail;refine(HS 1).mono ?_;rintro _ _⟨rfl,k,rfl⟩;obtain⟨q1,q2⟩:=Q1 1;have R1:J (Jd _ _ _ _ _ _):=q1;have R2:J (M _ _ _):=q2;go_wp2;go_ret2;exact⟨rfl,R1.o,((Td _ w 1).trans R2.o (λj h=>.inl h)).trans (Td D _ k) (λj h=>h.elim)⟩
theorem Jlr(s:BA)(k:Nat)(h:k<s.size):s.data.toList.take (k+1)=s.data.toList.take k++[s[k]]:=by
 rw[QR (by simpa using h)];rfl
def kC(l:List UInt8):Nat:=l.foldl (λn c=>n*256+c.toNat) 0
theorem Jaj(l:List UInt8)(c:UInt8):kC (l++[c])=kC l*256+c.toNat:=by simp[kC]
theorem Jmj(l:List UInt8):∀a:Nat,l.foldl (λn c=>n*256+c.toNat) a<(a+1)*256 ^ l.length:=by
 induction l with
 | nil=>intro a;simp
 | cons c l ih=>
  intro a;have hc:=UInt8.toNat_lt c;have h1:=ih (a*256+c.toNat);rw[List.foldl_cons,Qp,Nat.pow_succ];have h2:(a*256+c.toNat+1)*256 ^ l.length<=((a+1)*256)*256 ^ l.length:=Nat.mul_le_mul_right _ (by omega);have h3:(a+1)*(256 ^ l.length*256)=((a+1)*256)*256 ^ l.length:=by rw[Nat.mul_comm (256 ^ l.length) 256,Nat.mul_assoc]
  omega
theorem Yt(l:List UInt8):kC l<256 ^ l.length:=by have:=Jmj l 0;simpa [kC]using this
theorem JK(x:Int)(h0:0<=x)(h:x<18446744073709551616):lF.wrap x=x:=by
 simp[lZ,l5,lR];omega
theorem JoP(x:Nat)(c:UInt8)(hx:x<72057594037927936):bits .or aD ((x:Int)*256) (lF.wrap (c.toNat:Int))=((x*256+c.toNat:Nat):Int):=by
 have hc:c.toNat<256:=UInt8.toNat_lt c;have e1:(x:Int)*256=((x*256:Nat):Int):=by omega
 rw[e1,JK _ (by omega) (by omega),u64_or_nat _ _ (by omega) (by omega),nat_join 8 (x*256) c.toNat (by omega) (by omega)]

theorem Jgr(E:Nat->Addr)(b:Nat)(wj:Int)(err x:aG)(H4 rest:List UInt8)(n:Nat)(w:aA)(hE:Env E w)(hp:Jd w b Y wj err (.rd H4 rest))(hb:H4.length+rest.length<=10000000000000)(hn:rest.length<n):
  aB N 382 #[X (Z ⟨b,0,Y⟩),x,O I (n:Int)] w λe w'=>e=aC (aI #[O aD 0,eV E 7])/\∃k,w'=w.drewN k:=by
 go_enter func382,ntmps382;go_wp2_with fail;refine(Jef E b wj err _ H4 rest n _ hE hp hb hn).mono ?_;rintro _ w1⟨rfl,k,rfl⟩;clear hE hp;go_wp2;go_loop [10,20] (λa i=>a=O aD 0/\i=O I 0) (λ_ _=>0)
 case atStart=>exact⟨rfl,rfl⟩
 case round=>obtain⟨rfl,rfl⟩:=hrel;go_wp2;go_ret2;exact⟨rfl,k,rfl⟩

theorem Jgs(b:Nat)(wj:Int)(err x:aG)(H4 rest:List UInt8)(n:Nat)(w:aA)(hp:Jd w b Y wj err (.rd H4 rest))(hb:H4.length+rest.length<=10000000000000)(hn:n<=rest.length)(h8:n<=8):
  aB N 382 #[X (Z ⟨b,0,Y⟩),x,O I (n:Int)] w λe w'=>e=aC (aI #[O aD (kC (rest.take n):Int),aK])/\Jd w' b Y wj err (.rd (H4++rest.take n) (rest.drop n))/\M (λk=>k=b) w w':=by
 go_enter func382,ntmps382;go_wp2_with fail;refine(Jeg b wj err _ H4 rest n _ hp hb hn).mono ?_;rintro _ W1⟨rfl,Hy,H9⟩;have Hx:J (Jd _ _ _ _ _ _):=Hy;have H5:J (M _ _ _):=H9;have hl:(rest.take n).length=n:=by rw[QB];omega
 have Hp:(⟨(rest.take n).toArray⟩:BA).size=n:=by rw[Ji,hl]
 have HB:J (∀k (h:k<(⟨(rest.take n).toArray⟩:BA).size),(rest.take n).take (k+1)=(rest.take n).take k++[(⟨(rest.take n).toArray⟩:BA)[k]]):=λk h=>Jlr ⟨(rest.take n).toArray⟩ k h;generalize hL:rest.take n=l at *;have HL:J (_=l):=hL;clear hL;generalize (⟨l.toArray⟩:BA)=r at *;go_wp2;go_loop [10,20] (λa i=>∃k:Nat,k<=n/\a=O aD (kC (l.take k):Int)/\i=O I k) (λ_ i=>n-(intOf i).toNat)
 case atStart=>exact⟨0,by omega,rfl,rfl⟩
 case round=>
  obtain⟨k,hk,rfl,rfl⟩:=hrel
  by_cases H7:k<n
  ·have jM:k<r.size:=(by omega);have hx:kC (l.take k)<72057594037927936:=by
    have h1:=Yt (l.take k);have h2:256 ^ (l.take k).length<=256 ^ 7:=Nat.pow_le_pow_right (by decide) (by rw[QB];omega);omega
   have ho:=JoP (kC (l.take k)) r[k] hx;have HN:J (kC (l.take (k+1))=kC (l.take k)*256+r[k].toNat):=(by show _=_;rw[HB.o k jM,Jaj]);have HO:J _:=ho;clear ho;generalize kC (l.take k)=x at *;go_wp2;exact⟨⟨k+1,by omega,by rw[HO.o,HN.o],by go_num⟩,by simp[intOf];omega⟩
  ·have HK:J (l.take k=l):=QS (by omega);go_wp2;go_ret2;exact⟨congrArg (λl:List UInt8=>Ending.returned (aI #[O aD (kC l:Int),aK])) (HK.o.trans HL.o.symm),by rw[<-HL.o]at Hx;exact Hx.o,H5.o⟩
theorem JeE{base:Nat}{o:Oper}{K:Act->aA->Prop}{E:Prop}
 (jz:o.guard=Y) (s x:Operand) (t tx e:TypeId) (ho:o.op=.call { callee:=.builtin .append,args:= #[s,x],argTypes:= #[t,tx] })
 (i:TypeInfo) (z:aG) (ht:P.underlying t=Z (.slice e)) (hi:P.info? e=Z i) (hz:i.zero=Z z) (jF:i.size=1) (gy:i.bytes=1) (xH:z.cells.size=1)
 (hv:a.eval s=v) (h:Bs base w v xs)
 (xv:aG) (n:Nat) (news:List aG) (hx:a.eval x=xv) (hs:Src P 1 tx xv n news w) (mV:xs.length+n<=140737488355328) (He:base<=w.heap.size)
 (hK:∀v' w',Bs base w' v' (xs++news)->w.grownBy w' v.ownBlock->(v'.ownBlock=v.ownBlock\/∃k,v'.ownBlock=Z k/\w.heap.size<=k)->K (a.put o.dst v') w'):
  if Region.wanted o (yielded ops a.tmps)=true then Oper.wp P o a w K Q else E:=by
 have hw:Region.wanted o (yielded ops a.tmps)=true:=by simp[Region.wanted,jz]
 rw[if_pos hw];obtain⟨v',w',kH,r,r2,r3⟩:=Jbv (P:=P) h t tx o.type e i z ht hi hz jF gy xH xv n news hs mV He;unfold Oper.wp;simp[execOp,ho,resolve,invoke,builtin,hv,hx,kH,Result.andThen];exact hK v' w' r r2 r3

theorem JjA(E:Nat->Addr)(b:Nat)(s:BA)(n:Nat)(w:aA)(hE:Env E w)(hn:s.size ≠ n):
  aB N 381 #[X (Z ⟨b,0,Y⟩),L s,O I (n:Int)] w λe w'=>e=aC (aI #[L ⟨#[]⟩,eV E 7])/\∃k,w'=w.drewN k:=by
 have hf:=hE.form;have Hl:((s.size:Int) != (n:Int))=true:=by rw[bne_iff_ne];omega
 clear hE;go_enter func381,ntmps381;go_wp2;go_region;go_wp2;go_ret2;exact⟨rfl,1,rfl⟩

theorem JhG(hb:b<w.heap.size)
 (hZ:w.heap[b]? =Z (T #[aJ 153 (X (Z ⟨b,0,Y⟩)),O I wj,err,v] 161))
 (ko:Bs (b+1) w v (bc done)) (h1:Bs (b+1) w1 v1 (bc done++bc news)) (hg:w.grownBy w1 v.ownBlock):
  Jd (w1.setCell ⟨b,3,Y⟩ v1) b v1.ownBlock wj err (.wr (done++news))/\M (λk=>k=b\/Z k=v.ownBlock) w (w1.setCell ⟨b,3,Y⟩ v1):=by
 have Hl:Z b ≠ v.ownBlock:=λe=>by have:=ko.own b e.symm;omega
 have zd:=(hg.block b hb Hl).trans hZ;have hs:=Qj w1 b 3 _ _ (0,0) v1 zd;have ht:M (λk=>k=b) w1 (w1.setCell ⟨b,3,Y⟩ v1):=by rw[hs];exact Ts _ _ _
 refine⟨⟨v1,rfl,?_,?_⟩,(Tg hg).mono (λj h=>.inl (.inr h)) |>.trans ht (λj h=>.inl (.inl h))⟩
 ·rw[Jac];have hgr:w1.grownBy (w1.setCell ⟨b,3,Y⟩ v1) (Z b):=⟨ht.os,ht.tape,ht.output,ht.size,λk hk hn=>ht.block k hk (λe=>hn (by rw[e]))⟩
  exact h1.grown hgr (λk e=>by cases e;exact .inl (by omega))
 ·rw[hs,Qi _ _ _ _ _ _ zd];rfl

theorem JfB(hb:b<w.heap.size)
 (hZ:w.heap[b]? =Z (T #[aJ 153 (X (Z ⟨b,0,Y⟩)),O I wj,err,v] 161))
 (ko:Bs (b+1) w v xs) (hg:w.grownBy w1 v.ownBlock):w1.cell? ⟨b,3,Y⟩=Z v/\w1.frozen? ⟨b,3,Y⟩=false:=by
 have Hl:Z b ≠ v.ownBlock:=λe=>by have:=ko.own b e.symm;omega
 have zd:=(hg.block b hb Hl).trans hZ;exact⟨Ja zd,Qg _ _ _ _ _ zd⟩
theorem Jk4{o:Obj}(hb:b<w.heap.size)
 (hZ:w.heap[b]? =Z (T #[aJ 153 (X (Z ⟨b,0,Y⟩)),O I wj,err,v] 161))
 (ko:Bs (b+1) w v xs) (hg:(w.alloc o).drew.grownBy w1 v.ownBlock):w1.cell? ⟨b,3,Y⟩=Z v/\w1.frozen? ⟨b,3,Y⟩=false:=
 JfB (w:=(w.alloc o).drew) (by show b<(w.alloc o).heap.size;simp;omega) ((Below.heap_alloc w o b hb).trans hZ) (ko.alloc o) hg
theorem Jk3{o:Obj}(hb:b<w.heap.size)
 (hZ:w.heap[b]? =Z (T #[aJ 153 (X (Z ⟨b,0,Y⟩)),O I wj,err,v] 161))
 (ko:Bs (b+1) w v (bc done)) (h1:Bs (b+1) w1 v1 (bc done++bc news)) (hg:(w.alloc o).drew.grownBy w1 v.ownBlock) (hm:Jq (w.alloc o).drew v.ownBlock v1.ownBlock) (hv:v.ownBlock=g):
  Jd (w1.setCell ⟨b,3,Y⟩ v1) b v1.ownBlock wj err (.wr (done++news))/\Jq w g v1.ownBlock/\M (λk=>k=b\/Z k=g) w (w1.setCell ⟨b,3,Y⟩ v1):=by
 subst hv;obtain⟨h2,h3⟩:=JhG (w:=(w.alloc o).drew) (by show b<(w.alloc o).heap.size;simp;omega) ((Below.heap_alloc w o b hb).trans hZ) (ko.alloc o) h1 hg;refine⟨h2,?_,((Ta (λk=>k=b\/Z k=v.ownBlock) w o).trans (Td _ _ 1) (λj h=>.inl h)).trans h3 (λj h=>.inl h)⟩
 rcases hm with hm|⟨k,hk,vk⟩
 ·exact .inl hm
 ·exact .inr ⟨k,hk,by have:(w.alloc o).heap.size<=k:=vk;simp at this;omega⟩
theorem Jq.trans(h:Jq w g g1)(k:Jq w1 g1 g2)(hs:w.heap.size<=w1.heap.size):Jq w g g2:=by
 rcases k with rfl|⟨j,rfl,hj⟩
 ·exact h
 ·exact .inr ⟨j,rfl,by omega⟩
theorem YA(h:M (λk=>k=b\/Z k=g) w w1)(k:M (λk=>k=b\/Z k=g1) w1 w2)(hm:Jq w g g1):M (λk=>k=b\/Z k=g) w w2:=
 h.trans k (λj hj=>by
  rcases hj with rfl|hj
  ·exact .inl (.inl rfl)
  ·rcases hm with rfl|⟨i,rfl,hi⟩
   ·exact .inl (.inr hj)
   ·cases hj;exact .inr hi)
theorem Jb0:(prog.info? 5).map (λi=>(i.zero,i.size,i.bytes))=Z (Z (O aE 0),1,1):=by kernel_rfl

theorem JjB(b:Nat)(g:Option Nat)(wj:Int)(err:aG)(done:List UInt8)(s:BA)(n:Nat)(w:aA)(hp:Jd w b g wj err (.wr done))(hn:s.size=n)(hm:done.length+n<=10000000000000):
  aB N 381 #[X (Z ⟨b,0,Y⟩),L s,O I (n:Int)] w λe w'=>e=aC (aI #[L s,aK])/\∃g',Jd w' b g' wj err (.wr (done++s.data.toList))/\Jq w g g'/\M (λk=>k=b\/Z k=g) w w':=by
 have H7:=hp.lt;obtain⟨v,rfl,ko,(ut:J _)⟩:=hp;obtain⟨i0,hi,xV,jH,qQ⟩:=info_parts Jb0;have c3:w.cell? ⟨b,3,Y⟩=Z v:=Ja ut;have Hl:((s.size:Int) != (n:Int))=false:=by rw[bne_eq_false_iff_eq];omega
 have ml:J _:=YE done;go_enter func381,ntmps381;go_wp2_with (at_builtin;refine XH rfl _ _ 52 9 5 rfl i0 _ underlying52 hi xV jH qQ rfl rfl ko _ s.size (byteCells s) rfl (Src.ofString _ underlying9 s) (by rw[ml.out];omega) (by omega) ?_;intro v1 w1 zb (mn:J _) (HM:J _);obtain⟨hc1,ah⟩:=JfB H7 ut ko mn.out;obtain⟨a1,m1,c1,qM⟩:=zb.shape3;subst qM);go_ret2;obtain⟨h1,h2⟩:=JhG (news:=s.data.toList) H7 ut ko zb mn.out;exact⟨rfl,_,h1,HM,h2⟩

def Hf(n k:Nat):Nat->List UInt8
 | 0=>[]
 | j+1=>Hf n k j++[lQ (n/2 ^ (8*(k-1-j)))]
theorem Jf(n k j:Nat):(Hf n k j).length=j:=by
 induction j with
 | zero=>rfl
 | succ j ih=>simp[Hf,ih]
theorem Jnn(n k:Nat):((n:Int)/2 ^ (8*k) != 0)=decide (n/2 ^ (8*k) ≠ 0):=by
 have e:(n:Int)/2 ^ (8*k)=((n/2 ^ (8*k):Nat):Int):=by simp
 rw[e];generalize n/2 ^ (8*k)=m
 by_cases h:m=0
 ·subst h;rfl
 ·have:((m:Int) != 0)=true:=by rw[bne_iff_ne];omega
  rw[this];simp[h]

theorem Jo(x:Int)(h0:0<=x)(h:x<1000000):I.wrap x=x:=by
 simp[lZ,l5,lR];omega

theorem JgG(E:Nat->Addr)(b:Nat)(n k:Nat)(w:aA)(hE:Env E w)(hk:k<=8)(hbig:n/2 ^ (8*k) ≠ 0):
  aB N 378 #[X (Z ⟨b,0,Y⟩),O aD (n:Int),O I (k:Int)] w λe w'=>e=aC (aI #[O aD 0,eV E 7])/\∃j,w'=w.drewN j:=by
 have hf:=hE.form;clear hE;have ht:((n:Int)/2 ^ (8*k) != 0)=true:=by rw[Jnn];simp[hbig]
 clear hbig;have hki:(k:Int)<=8:=by omega
 go_enter func378,ntmps378;go_wp2;go_region;go_wp2;go_ret2;exact⟨rfl,1,rfl⟩

theorem JgH(b:Nat)(g:Option Nat)(wj:Int)(err:aG)(done:List UInt8)(n k:Nat)(w:aA)(hp:Jd w b g wj err (.wr done))(hk:k<=8)(uJ:n/2 ^ (8*k)=0)(hm:done.length<=10000000000000):
  aB N 378 #[X (Z ⟨b,0,Y⟩),O aD (n:Int),O I (k:Int)] w λe w'=>e=aC (aI #[O aD (n:Int),aK])/\∃g',Jd w' b g' wj err (.wr (done++Hf n k k))/\Jq w g g'/\M (λk=>k=b\/Z k=g) w w':=by
 obtain⟨i0,hi,xV,jH,qQ⟩:=info_parts Jb0;have ht:((n:Int)/2 ^ (8*k) != 0)=false:=by rw[Jnn];simp[uJ]
 have hki:(k:Int)<=8:=by omega
 go_enter func378,ntmps378;go_wp2;go_loopw [8] (λi wr=>∃j:Nat,j<=k/\i=O I ((k:Int)-1-(j:Int))/\∃g',Jd wr b g' wj err (.wr (done++Hf n k j))/\Jq w g g'/\M (λk=>k=b\/Z k=g) w wr) (λi _=>(intOf i+1).toNat)
 case atStart=>exact⟨0,by omega,congrArg (lO I) (by omega),g,by simpa [Hf]using hp,.inl rfl,Te _ _⟩
 case round=>
  obtain⟨j,hj,rfl,g',hp,aj,bI⟩:=hrel;have H7:=hp.lt
  by_cases nT:j<k
  ·obtain⟨v,(HV:J _),ko,hZ⟩:=hp;obtain⟨-, -, -,c3⟩:=rows hZ;have ut:J _:=hZ;have ml:J ((bc (done++Hf n k j)).length=done.length+j):=(by rw[YE,Qe,Jf]:(bc (done++Hf n k j)).length=done.length+j)
   have HMV:J (Jq w g g'):=aj;have qo:J (M (λk=>k=b\/Z k=g) w wr):=bI;obtain⟨m,tq,qZ⟩:∃m:Nat,(k:Int)-1-(j:Int)=(m:Int)/\k-1-j=m:=⟨k-1-j,by omega,rfl⟩
   have HM:J ((k:Int)-1-(j:Int)=(m:Int)/\k-1-j=m):=⟨tq,qZ⟩
   have hm7:m<=7:=(by omega);rw[tq];have uN:I.wrap (8*(m:Int))=8*(m:Int):=Jo _ (by omega) (by omega);have xI:Op.shift .shr aD (n:Int) I (8*(m:Int))=pure (O aD ((n:Int)/2 ^ (8*m))):=by
    rw[shift_shr_u64 _ _ _ (by omega) (by omega)]
    congr 3
   go_wp2;go_region_law (refine JeE rfl _ _ 52 52 5 rfl i0 _ underlying52 hi xV jH qQ rfl rfl ((ko.drew).alloc _) _ 1 [_] rfl (Src.ofSlice _ underlying52 _ 1 1 _ rfl (cell_one_new _ _ _) (by simp[l6])) (by rw[ml.out];omega) (by simp;omega) ?_;intro v1 w1 zb (mn:J _) (jn:J _);obtain⟨hc1,ah⟩:=Jk4 H7 ut ko mn.out;obtain⟨a1,m1,c1,qM⟩:=zb.shape3;subst qM)
   all_goals
    go_wp2;have e2:[lO aE (IntKind.u8.wrap ((n:Int)/2 ^ (8*(m:Int)).toNat))]=bc [lQ (n/2 ^ (8*m))]:=by rw[IntKind.wrap_u8',show (8*(m:Int)).toNat=8*m by omega];simp[bc]
    rw[e2]at zb;obtain⟨p1,p2,p3⟩:=Jk3 H7 ut ko zb mn jn HV.o;have e3:done++Hf n k (j+1)=done++Hf n k j++[lQ (n/2 ^ (8*m))]:=(by rw[<-HM.o.2,Qs];rfl);go_roundw
    case rel=>exact⟨j+1,by omega,congrArg (lO I) (by have:=HM.o.1;omega),_,by rw[e3];exact p1,HMV.trans p2 qo.size,YA qo p3 HMV⟩
    case measure=>simp only[intOf];omega
  ·have HJ:J (j=k):=(by omega:j=k)
   have hlt0:¬(0:Int)<=(k:Int)-1-(j:Int):=(by omega);go_wp2;go_ret2;exact⟨rfl,g',by have:=HJ.o;subst this;exact hp,aj,bI⟩

theorem JaX(a:Addr)(w:aA):(method 641 170 (X (Z a)) "trove/wire.number").run N w=.ok (382,X (Z a)) w:=by kernel_rfl
theorem Jb4(a:Addr)(w:aA):(method 641 170 (X (Z a)) "trove/wire.text").run N w=.ok (385,X (Z a)) w:=by kernel_rfl
theorem JaY(a:Addr)(w:aA):(method 641 153 (X (Z a)) "trove/wire.number").run N w=.ok (378,X (Z a)) w:=by kernel_rfl
theorem Jb5(a:Addr)(w:aA):(method 641 153 (X (Z a)) "trove/wire.text").run N w=.ok (381,X (Z a)) w:=by kernel_rfl
theorem XO{e':aG}{p:PS}{n:Nat}(hp:Jd w b g wj e p):
  (w.drewN n).cell? ⟨b,2,Y⟩=Z e/\(w.drewN n).frozen? ⟨b,2,Y⟩=false/\Jd ((w.drewN n).setCell ⟨b,2,Y⟩ e') b g wj e' p/\M (λk=>k=b) w ((w.drewN n).setCell ⟨b,2,Y⟩ e'):=by
 cases p using PS.on with
 | rd H4 rest=>
  have hZ:=hp.2;have h1:=Qj (w.drewN n) b 2 _ _ (0,0) e' hZ;refine⟨Ja hZ,Qg _ _ _ _ _ hZ,?_,?_⟩
  ·exact⟨hp.1,by rw[h1,Qi (w.drewN n) _ _ _ _ _ hZ];rfl⟩
  ·rw[h1];exact(Td _ w n).trans (Ts _ _ _) (λj h=>.inl h)
 | wr done=>
  have H7:=hp.lt;obtain⟨v,hv,ko,hZ⟩:=hp;have h1:=Qj (w.drewN n) b 2 _ _ (0,0) e' hZ;have ht:M (λk=>k=b) w ((w.drewN n).setCell ⟨b,2,Y⟩ e'):=by rw[h1];exact(Td _ w n).trans (Ts _ _ _) (λj h=>.inl h)
  refine⟨Ja hZ,Qg _ _ _ _ _ hZ,⟨v,hv,?_,by rw[h1,Qi (w.drewN n) _ _ _ _ _ hZ];rfl⟩,ht⟩;exact ko.grown (row:=Z b) ⟨ht.os,ht.tape,ht.output,ht.size,λk hk hn=>ht.block k hk (λe=>hn (by rw[e]))⟩ (λk e=>by cases e;exact .inl (by omega))

theorem Jgh(b:Nat)(wj:Int)(x:Int)(H4 rest:List UInt8)(n:Nat)(w:aA)(hp:Jd w b Y wj aK (.rd H4 rest))(hb:H4.length+rest.length<=10000000000000)(hn:n<=rest.length)(h8:n<=8):
  aB N 138 #[X (Z ⟨b,0,Y⟩),O aD x,O I (n:Int)] w λe w'=>e=aC (O aD (kC (rest.take n):Int))/\Jd w' b Y wj aK (.rd (H4++rest.take n) (rest.drop n))/\M (λk=>k=b) w w':=by
 have hZ:=hp.2;obtain⟨c0, -,c2⟩:=rows hZ;have hm:=JaX ⟨b,0,Y⟩;go_enter func138,ntmps138;go_wp2_with fail;refine(Jgs b wj aK _ H4 rest n _ hp hb hn h8).mono ?_;rintro _ w1⟨rfl,Hy,ht⟩;obtain⟨d2,f2,q1,q2⟩:=XO (n:=0) (e':=aK) Hy;rw[li]at d2 f2 q1 q2;have Q1:J (Jd _ _ _ _ _ _):=q1;have Q2:J (M _ _ _):=q2;have HT:J (M _ _ _):=ht;go_wp2;go_ret;exact⟨rfl,Q1.out,HT.o.trans Q2.out (λj h=>.inl h)⟩
theorem Jgg(E:Nat->Addr)(b:Nat)(wj:Int)(x:Int)(H4 rest:List UInt8)(n:Nat)(w:aA)(hE:Env E w)(hp:Jd w b Y wj aK (.rd H4 rest))(hb:H4.length+rest.length<=10000000000000)(hn:rest.length<n):
  aB N 138 #[X (Z ⟨b,0,Y⟩),O aD x,O I (n:Int)] w λe w'=>e=aC (O aD 0)/\Jd w' b Y wj (eV E 7) (.rd H4 rest)/\M (λk=>k=b) w w':=by
 have hZ:=hp.2;obtain⟨c0, -,c2⟩:=rows hZ;have hm:=JaX ⟨b,0,Y⟩;go_enter func138,ntmps138;go_wp2_with fail;refine(Jgr E b wj aK _ H4 rest n _ hE hp hb hn).mono ?_;rintro _ w1⟨rfl,j,rfl⟩;obtain⟨d2,f2,q1,q2⟩:=XO (n:=j) (e':=eV E 7) hp;have Q1:J (Jd _ _ _ _ _ _):=q1;have Q2:J (M _ _ _):=q2;go_wp2;go_ret;exact⟨rfl,Q1.out,Q2.out⟩
theorem Jgi(E:Nat->Addr)(b:Nat)(wj:Int)(x:Nat)(g:Option Nat)(done:List UInt8)(n:Nat)(w:aA)(hE:Env E w)(hp:Jd w b g wj aK (.wr done))(h8:n<=8)(hn:x/2 ^ (8*n) ≠ 0):
  aB N 138 #[X (Z ⟨b,0,Y⟩),O aD (x:Int),O I (n:Int)] w λe w'=>e=aC (O aD 0)/\Jd w' b g wj (eV E 7) (.wr done)/\M (λk=>k=b) w w':=by
 have hZ:=hp.choose_spec.2.2;obtain⟨c0, -,c2, -⟩:=rows hZ;have hm:=JaY ⟨b,0,Y⟩;go_enter func138,ntmps138;go_wp2_with fail;refine(JgG E b x n _ hE h8 hn).mono ?_;rintro _ w1⟨rfl,j,rfl⟩;obtain⟨d2,f2,q1,q2⟩:=XO (n:=j) (e':=eV E 7) hp;have Q1:J _:=q1;have Q2:J _:=q2;go_wp2;go_ret;exact⟨rfl,Q1.out,Q2.out⟩
theorem Jjm(E:Nat->Addr)(b:Nat)(wj:Int)(x:aG)(H4 rest:List UInt8)(n:Nat)(w:aA)(hE:Env E w)(hp:Jd w b Y wj aK (.rd H4 rest))(hb:H4.length+rest.length<=10000000000000)(hn:rest.length<n):
  aB N 209 #[X (Z ⟨b,0,Y⟩),x,O I (n:Int)] w λe w'=>e=aC (L ⟨#[]⟩)/\Jd w' b Y wj (eV E 7) (.rd H4 rest)/\M (λk=>k=b) w w':=by
 have hZ:=hp.2;obtain⟨c0, -,c2⟩:=rows hZ;have hm:=Jb4 ⟨b,0,Y⟩;go_enter func209,ntmps209;go_wp2_with fail;refine(Jef E b wj aK _ H4 rest n _ hE hp hb hn).mono ?_;rintro _ w1⟨rfl,j,rfl⟩;obtain⟨d2,f2,q1,q2⟩:=XO (n:=j) (e':=eV E 7) hp;have Q1:J (Jd _ _ _ _ _ _):=q1;have Q2:J (M _ _ _):=q2;go_wp2;go_ret;exact⟨rfl,Q1.out,Q2.out⟩
theorem Jjo(E:Nat->Addr)(b:Nat)(wj:Int)(s:BA)(g:Option Nat)(done:List UInt8)(n:Nat)(w:aA)(hE:Env E w)(hp:Jd w b g wj aK (.wr done))(hn:s.size ≠ n):
  aB N 209 #[X (Z ⟨b,0,Y⟩),L s,O I (n:Int)] w λe w'=>e=aC (L ⟨#[]⟩)/\Jd w' b g wj (eV E 7) (.wr done)/\M (λk=>k=b) w w':=by
 have hZ:=hp.choose_spec.2.2;obtain⟨c0, -,c2, -⟩:=rows hZ;have hm:=Jb5 ⟨b,0,Y⟩;go_enter func209,ntmps209;go_wp2_with fail;refine(JjA E b s n _ hE hn).mono ?_;rintro _ w1⟨rfl,j,rfl⟩;obtain⟨d2,f2,q1,q2⟩:=XO (n:=j) (e':=eV E 7) hp;have Q1:J _:=q1;have Q2:J _:=q2;go_wp2;go_ret;exact⟨rfl,Q1,Q2⟩
theorem Jjn(b:Nat)(wj:Int)(x:aG)(H4 rest:List UInt8)(n:Nat)(w:aA)(hp:Jd w b Y wj aK (.rd H4 rest))(hb:H4.length+rest.length<=10000000000000)(hn:n<=rest.length):
  aB N 209 #[X (Z ⟨b,0,Y⟩),x,O I (n:Int)] w λe w'=>e=aC (L ⟨(rest.take n).toArray⟩)/\Jd w' b Y wj aK (.rd (H4++rest.take n) (rest.drop n))/\M (λk=>k=b) w w':=by
 have hZ:=hp.2;obtain⟨c0, -,c2⟩:=rows hZ;have hm:=Jb4 ⟨b,0,Y⟩;go_enter func209,ntmps209;go_wp2_with fail;refine(Jeg b wj aK _ H4 rest n _ hp hb hn).mono ?_;rintro _ w1⟨rfl,Hy,ht⟩;obtain⟨d2,f2,q1,q2⟩:=XO (n:=0) (e':=aK) Hy;rw[li]at d2 f2 q1 q2;have Q1:J (Jd _ _ _ _ _ _):=q1;have Q2:J (M _ _ _):=q2;have HT:J (M _ _ _):=ht;go_wp2;go_ret;exact⟨rfl,Q1.out,HT.o.trans Q2.out (λj h=>.inl h)⟩
theorem Jgj(b:Nat)(g:Option Nat)(wj:Int)(x:Nat)(done:List UInt8)(n:Nat)(w:aA)(hp:Jd w b g wj aK (.wr done))(h8:n<=8)(hn:x/2 ^ (8*n)=0)(hd:done.length<=10000000000000):
  aB N 138 #[X (Z ⟨b,0,Y⟩),O aD (x:Int),O I (n:Int)] w λe w'=>e=aC (O aD (x:Int))/\∃g',Jd w' b g' wj aK (.wr (done++Hf x n n))/\Jq w g g'/\M (λk=>k=b\/Z k=g) w w':=by
 have hZ:=hp.choose_spec.2.2;obtain⟨c0, -,c2, -⟩:=rows hZ;have hm:=JaY ⟨b,0,Y⟩;go_enter func138,ntmps138;go_wp2_with fail;refine(JgH b g wj aK done x n _ hp h8 hn hd).mono ?_;rintro _ w1⟨rfl,g1,Hy,aj,ht⟩;obtain⟨d2,f2,q1,q2⟩:=XO (n:=0) (e':=aK) Hy;rw[li]at d2 f2 q1 q2;have Q1:J _:=q1;have Q2:J _:=q2;have HM:J _:=aj;have HT:J _:=ht;go_wp2;go_ret;exact⟨rfl,g1,Q1.out,HM.o,HT.o.trans Q2.out (λj h=>.inl (.inl h))⟩
theorem Jjp(b:Nat)(g:Option Nat)(wj:Int)(s:BA)(done:List UInt8)(n:Nat)(w:aA)(hp:Jd w b g wj aK (.wr done))(hn:s.size=n)(hd:done.length+n<=10000000000000):
  aB N 209 #[X (Z ⟨b,0,Y⟩),L s,O I (n:Int)] w λe w'=>e=aC (L s)/\∃g',Jd w' b g' wj aK (.wr (done++s.data.toList))/\Jq w g g'/\M (λk=>k=b\/Z k=g) w w':=by
 have hZ:=hp.choose_spec.2.2;obtain⟨c0, -,c2, -⟩:=rows hZ;have hm:=Jb5 ⟨b,0,Y⟩;go_enter func209,ntmps209;go_wp2_with fail;refine(JjB b g wj aK done s n _ hp hn hd).mono ?_;rintro _ w1⟨rfl,g1,Hy,aj,ht⟩;obtain⟨d2,f2,q1,q2⟩:=XO (n:=0) (e':=aK) Hy;rw[li]at d2 f2 q1 q2;have Q1:J _:=q1;have Q2:J _:=q2;have HM:J _:=aj;have HT:J _:=ht;go_wp2;go_ret;exact⟨rfl,g1,Q1.out,HM.o,HT.o.trans Q2.out (λj h=>.inl (.inl h))⟩

def PS.num(x k:Nat):PS->Option (Nat×PS)
 | ⟨Sum.inl (H4,rest)⟩=>if k<=rest.length then Z (kC (rest.take k),.rd (H4++rest.take k) (rest.drop k)) else Y
 | ⟨Sum.inr done⟩=>if x/2 ^ (8*k)=0 then Z (x,.wr (done++Hf x k k)) else Y
def PS.txt(s:List UInt8)(k:Nat):PS->Option (List UInt8×PS)
 | ⟨Sum.inl (H4,rest)⟩=>if k<=rest.length then Z (rest.take k,.rd (H4++rest.take k) (rest.drop k)) else Y
 | ⟨Sum.inr done⟩=>if s.length=k then Z (s,.wr (done++s)) else Y
def PS.len:PS->Nat
 | ⟨Sum.inl (H4,rest)⟩=>H4.length+rest.length
 | ⟨Sum.inr done⟩=>done.length
def XI(w w':aA)(b:Nat)(g:Option Nat)(wj:Int)(p':PS):Prop:=
 ∃g',Jd w' b g' wj aK p'/\Jq w g g'/\M (λk=>k=b\/Z k=g) w w'
theorem XI.trans{p2:PS}(hm:Jq w g g1)(h:M (λk=>k=b\/Z k=g) w w1)(k:XI w1 w2 b g1 wj p2):XI w w2 b g wj p2:=by
 obtain⟨g2,h1,h2,h3⟩:=k;exact⟨g2,h1,hm.trans h2 h.size,YA h h3 hm⟩
theorem Xv(b:Nat)(g:Option Nat)(wj:Int)(x n m:Nat)(p p':PS)(w:aA)(hp:Jd w b g wj aK p)(h8:n<=8)(hd:p.len<=10000000000000)(h:p.num x n=Z (m,p')):
  aB N 138 #[X (Z ⟨b,0,Y⟩),O aD (x:Int),O I (n:Int)] w λe w'=>e=aC (O aD (m:Int))/\XI w w' b g wj p':=by
 cases p using PS.on with
 | rd H4 rest=>
  simp only[PS.num]at h
  split at h
  ·cases h
   obtain rfl:=hp.1;exact(Jgh b wj x H4 rest n w hp hd ‹_› h8).mono λe w' ⟨h1,h2,h3⟩=>⟨h1,Y,h2,.inl rfl,h3.mono (λj hj=>.inl (.inl hj))⟩
  ·cases h
 | wr done=>
  simp only[PS.num]at h
  split at h
  ·cases h
   exact Jgj b g wj x done n w hp h8 ‹_› hd
  ·cases h
theorem Zn(E:Nat->Addr)(b:Nat)(g:Option Nat)(wj:Int)(x n:Nat)(p:PS)(w:aA)(hE:Env E w)(hp:Jd w b g wj aK p)(h8:n<=8)(hd:p.len<=10000000000000)(h:p.num x n=Y):
  aB N 138 #[X (Z ⟨b,0,Y⟩),O aD (x:Int),O I (n:Int)] w λe w'=>e=aC (O aD 0)/\Jd w' b g wj (eV E 7) p/\M (λk=>k=b) w w':=by
 cases p using PS.on with
 | rd H4 rest=>
  simp only[PS.num]at h
  split at h
  ·cases h
  ·obtain rfl:=hp.1;exact Jgg E b wj x H4 rest n w hE hp hd (by omega)
 | wr done=>
  simp only[PS.num]at h
  split at h
  ·cases h
  ·exact Jgi E b wj x g done n w hE hp h8 ‹_›
theorem Jaq(b:Nat)(g:Option Nat)(wj:Int)(s:BA)(n:Nat)(m:List UInt8)(p p':PS)(w:aA)(hp:Jd w b g wj aK p)(hd:p.len+n<=10000000000000)(h:p.txt s.data.toList n=Z (m,p')):
  aB N 209 #[X (Z ⟨b,0,Y⟩),L s,O I (n:Int)] w λe w'=>e=aC (L ⟨m.toArray⟩)/\XI w w' b g wj p':=by
 cases p using PS.on with
 | rd H4 rest=>
  simp only[PS.txt]at h
  split at h
  ·cases h
   obtain rfl:=hp.1;exact(Jjn b wj _ H4 rest n w hp (by simp only[PS.len]at hd;omega) ‹_›).mono λe w' ⟨h1,h2,h3⟩=>⟨h1,Y,h2,.inl rfl,h3.mono (λj hj=>.inl (.inl hj))⟩
  ·cases h
 | wr done=>
  simp only[PS.txt]at h
  split at h
  ·cases h
   rename_i hl;exact(Jjp b g wj s done n w hp (by simpa using hl) hd).mono λe w' ⟨h1,h2⟩=>⟨by rw[h1],h2⟩
  ·cases h
theorem JfN(E:Nat->Addr)(b:Nat)(g:Option Nat)(wj:Int)(s:BA)(n:Nat)(p:PS)(w:aA)(hE:Env E w)(hp:Jd w b g wj aK p)(hd:p.len<=10000000000000)(h:p.txt s.data.toList n=Y):
  aB N 209 #[X (Z ⟨b,0,Y⟩),L s,O I (n:Int)] w λe w'=>e=aC (L ⟨#[]⟩)/\Jd w' b g wj (eV E 7) p/\M (λk=>k=b) w w':=by
 cases p using PS.on with
 | rd H4 rest=>
  simp only[PS.txt]at h
  split at h
  ·cases h
  ·obtain rfl:=hp.1;exact Jjm E b wj _ H4 rest n w hE hp hd (by omega)
 | wr done=>
  simp only[PS.txt]at h
  split at h
  ·cases h
  ·rename_i hl;exact Jjo E b wj s g done n w hE hp (by simpa using hl)
theorem Jd.errCell{p:PS}(hp:Jd w b g wj e p):w.cell? ⟨b,2,Y⟩=Z e:=(XO (n:=0) (e':=e) hp).1
theorem JaB(b:Nat)(g:Option Nat)(wj:Int)(x:aG)(n:aG)(p:PS)(t:TypeId)(v:aG)(w:aA)(hp:Jd w b g wj (aJ t v) p):
  aB N 138 #[X (Z ⟨b,0,Y⟩),x,n] w λe w'=>e=aC (O aD 0)/\w=w':=by
 have c2:=hp.errCell;clear hp;go_enter func138,ntmps138;go_wp2;go_ret;exact⟨rfl,rfl⟩
theorem Jib(b:Nat)(g:Option Nat)(wj:Int)(x:aG)(n:aG)(p:PS)(t:TypeId)(v:aG)(w:aA)(hp:Jd w b g wj (aJ t v) p):
  aB N 209 #[X (Z ⟨b,0,Y⟩),x,n] w λe w'=>e=aC (L ⟨#[]⟩)/\w=w':=by
 have c2:=hp.errCell;clear hp;go_enter func209,ntmps209;go_wp2;go_ret;exact⟨rfl,rfl⟩
theorem ZR(x k m:Nat)(p p1:PS)(h:p.num x k=Z (m,p1)):p1.len<=p.len+k:=by
 cases p using PS.on<;>simp only[PS.num]at h<;>split at h<;>cases h<;>simp[PS.len,Jf]<;>omega
theorem JgC(s t:List UInt8)(k:Nat)(p p1:PS)(h:p.txt s k=Z (t,p1)):p1.len<=p.len+k:=by
 cases p using PS.on<;>simp only[PS.txt]at h<;>split at h<;>cases h<;>simp[PS.len]<;>omega

def Jr(B:Nat)(w:aA)(v:aG)(l:List (Nat×Nat)):Prop:=
 (v=R Y 0 0/\l=[])\/∃gi oi c,v=R (Z ⟨gi,oi,Y⟩) l.length c/\gi<B/\gi<w.heap.size/\∀i (h:i<l.length),w.cell? ⟨gi,oi+i*2,Y⟩=Z (O aD ((l[i].1:Nat):Int))/\w.cell? ⟨gi,oi+i*2+1,Y⟩=Z (O aE ((l[i].2:Nat):Int))
theorem Jr.tch(h:Jr B w v l)(k:M S w w')(hs:∀j,S j->B<=j):Jr B w' v l:=by
 rcases h with h|⟨gi,oi,c,hv,h1,h2,h3⟩
 ·exact .inl h
 ·refine .inr ⟨gi,oi,c,hv,h1,Qk h2 k.size,λi hi=>?_⟩;have hc:∀o,w'.cell? ⟨gi,o,Y⟩=w.cell? ⟨gi,o,Y⟩:=λo=>k.cell (p:=⟨gi,o,Y⟩) h2 (λe=>by have:=hs gi e;omega);rw[hc,hc];exact h3 i hi
theorem Jr.shape(h:Jr B w v l):∃a c,v=R a l.length c:=by
 rcases h with⟨rfl,rfl⟩|⟨gi,oi,c,rfl,_⟩
 ·exact⟨Y,0,rfl⟩
 ·exact⟨_,_,rfl⟩
def JG(B:Nat)(w:aA)(v:aG)(l:List (BA×Int)):Prop:=
 (v=R Y 0 0/\l=[])\/∃gi oi c,v=R (Z ⟨gi,oi,Y⟩) l.length c/\gi<B/\gi<w.heap.size/\∀i (h:i<l.length),w.cell? ⟨gi,oi+i*2,Y⟩=Z (L l[i].1)/\w.cell? ⟨gi,oi+i*2+1,Y⟩=Z (O I l[i].2)
theorem JG.tch{l:List (BA×Int)}(h:JG B w v l)(k:M S w w')(hs:∀j,S j->B<=j):JG B w' v l:=by
 rcases h with h|⟨gi,oi,c,hv,h1,h2,h3⟩
 ·exact .inl h
 ·refine .inr ⟨gi,oi,c,hv,h1,Qk h2 k.size,λi hi=>?_⟩;have hc:∀o,w'.cell? ⟨gi,o,Y⟩=w.cell? ⟨gi,o,Y⟩:=λo=>k.cell (p:=⟨gi,o,Y⟩) h2 (λe=>by have:=hs gi e;omega);rw[hc,hc];exact h3 i hi
theorem JG.shape{l:List (BA×Int)}(h:JG B w v l):∃a c,v=R a l.length c:=by
 rcases h with⟨rfl,rfl⟩|⟨gi,oi,c,rfl,_⟩
 ·exact⟨Y,0,rfl⟩
 ·exact⟨_,_,rfl⟩
abbrev Sl:=Option Addr×Nat×Nat
def Xa(B:Nat)(w:aA)(v:aG)(l:List (Sl×Sl)):Prop:=
 (v=R Y 0 0/\l=[])\/∃gi oi c,v=R (Z ⟨gi,oi,Y⟩) l.length c/\gi<B/\gi<w.heap.size/\∀i (h:i<l.length),w.cell? ⟨gi,oi+i*2,Y⟩=Z (R l[i].1.1 l[i].1.2.1 l[i].1.2.2)/\w.cell? ⟨gi,oi+i*2+1,Y⟩=Z (R l[i].2.1 l[i].2.2.1 l[i].2.2.2)
theorem Xa.tch{l:List (Sl×Sl)}(h:Xa B w v l)(k:M S w w')(hs:∀j,S j->B<=j):Xa B w' v l:=by
 rcases h with h|⟨gi,oi,c,hv,h1,h2,h3⟩
 ·exact .inl h
 ·refine .inr ⟨gi,oi,c,hv,h1,Qk h2 k.size,λi hi=>?_⟩;have hc:∀o,w'.cell? ⟨gi,o,Y⟩=w.cell? ⟨gi,o,Y⟩:=λo=>k.cell (p:=⟨gi,o,Y⟩) h2 (λe=>by have:=hs gi e;omega);rw[hc,hc];exact h3 i hi
theorem Xa.shape{l:List (Sl×Sl)}(h:Xa B w v l):∃a c,v=R a l.length c:=by
 rcases h with⟨rfl,rfl⟩|⟨gi,oi,c,rfl,_⟩
 ·exact⟨Y,0,rfl⟩
 ·exact⟨_,_,rfl⟩
theorem JG.up{l:List (BA×Int)}(h:JG B w v l)(hb:B<=B'):JG B' w v l:=by
 rcases h with h|⟨gi,oi,c,h1,h2,h3⟩
 ·exact .inl h
 ·exact .inr ⟨gi,oi,c,h1,by omega,h3⟩
theorem Jr.up(h:Jr B w v l)(hb:B<=B'):Jr B' w v l:=by
 rcases h with h|⟨gi,oi,c,h1,h2,h3⟩
 ·exact .inl h
 ·exact .inr ⟨gi,oi,c,h1,by omega,h3⟩

def PS.out(a o:Nat)(p:PS):Option ((Nat×Nat)×PS):=
 match p.num a 8 with
 | none=>Y
 | some (a',p1)=>match p1.num o 1 with
  | none=>Y
  | some (o',p2)=>Z ((a',o'),p2)
def JD(n:Int):Nat:=(n % 18446744073709551616).toNat
def PS.coin(wj:Nat)(c:BA×Int)(p:PS):Option ((BA×Int)×PS):=
 match p.txt c.1.data.toList wj with
 | none=>Y
 | some (t,p1)=>match p1.num (JD c.2) 1 with
  | none=>Y
  | some (m,p2)=>if m<3 then Z ((⟨t.toArray⟩,(m:Int)),p2) else Y
def PS.coins(wj:Nat):List (BA×Int)->PS->Option (List (BA×Int)×PS)
 | [],p=>Z ([],p)
 | x::r,p=>match p.coin wj x with
  | none=>Y
  | some (y,p1)=>match PS.coins wj r p1 with
   | none=>Y
   | some (ys,p2)=>Z (y::ys,p2)
def PS.outs:List (Nat×Nat)->PS->Option (List (Nat×Nat)×PS)
 | [],p=>Z ([],p)
 | x::r,p=>match p.out x.1 x.2 with
  | none=>Y
  | some (y,p1)=>match PS.outs r p1 with
   | none=>Y
   | some (ys,p2)=>Z (y::ys,p2)
def YC(l:List (BA×Int))(cnt:Nat):List (BA×Int):=if l=[] then lC cnt (⟨#[]⟩,0) else l
def Ze(l:List (Nat×Nat))(cnt:Nat):List (Nat×Nat):=if l=[] then lC cnt (0,0) else l
def PS.listC(wj least most:Nat)(l:List (BA×Int))(p:PS):Option (List (BA×Int)×PS):=
 match p.num l.length 1 with
 | none=>Y
 | some (cnt,p1)=>if cnt<least\/most<cnt then Y else PS.coins wj (YC l cnt) p1
def PS.listO(least most:Nat)(l:List (Nat×Nat))(p:PS):Option (List (Nat×Nat)×PS):=
 match p.num l.length 1 with
 | none=>Y
 | some (cnt,p1)=>if cnt<least\/most<cnt then Y else PS.outs (Ze l cnt) p1
abbrev TxL:=List (BA×Int)×List (Nat×Nat)
def PS.tx(wj:Nat)(t:TxL)(p:PS):Option (TxL×PS):=
 match p.listC wj 1 3 t.1 with
 | none=>Y
 | some (ys,p1)=>match p1.listO 0 3 t.2 with
  | none=>Y
  | some (zs,p2)=>Z ((ys,zs),p2)
def PS.txs(wj:Nat):List TxL->PS->Option (List TxL×PS)
 | [],p=>Z ([],p)
 | x::r,p=>match p.tx wj x with
  | none=>Y
  | some (y,p1)=>match PS.txs wj r p1 with
   | none=>Y
   | some (ys,p2)=>Z (y::ys,p2)
def Zr(ts:List TxL)(cnt:Nat):List TxL:=if ts=[] then lC cnt ([],[]) else ts
def PS.body(wj:Nat)(ts:List TxL)(p:PS):Option (List TxL×PS):=
 match p.num ts.length 1 with
 | none=>Y
 | some (cnt,p1)=>if 3<cnt then Y else PS.txs wj (Zr ts cnt) p1
def PS.hdr(wj:Nat)(h:Nat×BA×BA×BA)(p:PS):Option ((Nat×BA×BA×BA)×PS):=
 match p.num h.1 4 with
 | none=>Y
 | some (n,p1)=>match p1.txt h.2.1.data.toList wj with
  | none=>Y
  | some (t1,p2)=>match p2.txt h.2.2.1.data.toList wj with
   | none=>Y
   | some (t2,p3)=>match p3.txt h.2.2.2.data.toList wj with
    | none=>Y
    | some (t3,p4)=>Z ((n,⟨t1.toArray⟩,⟨t2.toArray⟩,⟨t3.toArray⟩),p4)
def Jt(l:List (Nat×Nat))(k:Nat):Nat:=((l.take k).map (·.1)).sum
def Xo(l1 l2:List (Nat×Nat)):Prop:=18446744073709551616<=Jt l1 l1.length\/18446744073709551616<=Jt l2 l2.length\/Jt l1 l1.length<Jt l2 l2.length

def JbB(E:Nat->Addr)(w w':aA)(b:Nat)(g:Option Nat)(wj:Int):Prop:=
 ∃g' p',Jd w' b g' wj (eV E 7) p'/\Jq w g g'/\M (λk=>k=b\/Z k=g) w w'
theorem M.allocs(S:Nat->Prop)(w:aA)(o o':Obj):M S w ((w.alloc o).alloc o'):=(Ta S w o).trans (Ta S _ o') (λ_ h=>.inl h)
theorem Jd.allocs{p:PS}(h:Jd w b g wj err p)(o o':Obj):Jd ((w.alloc o).alloc o') b g wj err p:=
 h.tch (M.allocs D w o o') (λh=>h) (λ_ _ h=>h)
theorem Env.allocs(h:Env E w)(o o':Obj):Env E ((w.alloc o).alloc o'):=h.tch (M.allocs D w o o') noE
theorem set2(w:aA)(g:Nat)(t:TypeId)(a b v0 v1:aG)(h:w.heap[g]? =Z (T #[a,b] t (0,0))):
  (w.setCell ⟨g,0,Y⟩ v0).setCell ⟨g,1,Y⟩ v1=w.setRow g #[v0,v1]:=by
 rw[Qj w g 0 _ t (0,0) v0 h,Qj _ g 1 _ t (0,0) v1 (Qi _ _ _ _ _ _ h),QI];refine congrArg (w.setRow g) ?_;simp
theorem XI.fresh{p p2:PS}(_hp:Jd w b g wj err p)(o o':Obj)(hm:Jq ((w.alloc o).alloc o') g g2)(ht:M (λk=>k=b\/Z k=g) ((w.alloc o).alloc o') w2)
 (kV:Jd w3 b g2 wj aK p2) (h3:M (λj=>j=k) w2 w3) (hk:w.heap.size<=k):XI w w3 b g wj p2:=by
 refine⟨g2,kV,?_,((M.allocs _ w o o').trans ht (λ_ h=>.inl h)).trans h3 (λj hj=>by subst hj;exact .inr hk)⟩
 rcases hm with hm|⟨i,hi,vk⟩
 ·exact .inl hm
 ·exact .inr ⟨i,hi,by simp at vk;omega⟩
theorem JbB.fresh{p p2:PS}(_hp:Jd w b g wj err p)(o o':Obj)(hm:Jq ((w.alloc o).alloc o') g g2)(ht:M (λk=>k=b\/Z k=g) ((w.alloc o).alloc o') w2)
 (kV:Jd w3 b g2 wj (eV E 7) p2) (h3:M (λj=>j=k) w2 w3) (hk:w.heap.size<=k):JbB E w w3 b g wj:=by
 refine⟨g2,p2,kV,?_,((M.allocs _ w o o').trans ht (λ_ h=>.inl h)).trans h3 (λj hj=>by subst hj;exact .inr hk)⟩
 rcases hm with hm|⟨i,hi,vk⟩
 ·exact .inl hm
 ·exact .inr ⟨i,hi,by simp at vk;omega⟩
theorem Yp{p:PS}(h:Jd w b g wj err p)(k:Nat)(hk:w.heap.size<=k):¬(k=b\/Z k=g):=by
 have h1:=h.lt;rintro(rfl|e)
 ·omega
 ·have:=(h.own k e.symm).2;omega
theorem Jbk{p:PS}(p9:18<=b)(h:Jd w b g wj err p):∀j,(j=b\/Z j=g)->18<=j:=by
 rintro j (rfl|e)
 ·exact p9
 ·have:=(h.own j e.symm).1;omega
theorem JcH{g':Option Nat}{p:PS}(h:Jd w b g wj err p)(o o':Obj)(hm:Jq ((w.alloc o).alloc o') g g')(k:Nat)(hk:w.heap.size<=k)(gS:k<w.heap.size+2):¬(k=b\/Z k=g'):=by
 rcases hm with rfl|⟨i,rfl,hi⟩
 ·exact Yp h k hk
 ·have h1:=h.lt;rintro(rfl|e)
  ·omega
  ·cases e;simp at hi;omega

theorem Jcr(x:Int)(h0:0<=x)(h:x<256):IntKind.u8.wrap x=x:=by
 simp[lZ,l5,lR];omega

theorem JmU(b:Nat)(g:Option Nat)(wj:Int)(a o a' o':Nat)(p p1 p2:PS)(w:aA)(hp:Jd w b g wj aK p)(hd:p.len<=90000000)(zr:p1.len<=90000000)(ho:o<256)(h1:p.num a 8=Z (a',p1))(h2:p1.num o 1=Z (o',p2))(ho':o'<256):
  aB N 205 #[X (Z ⟨b,0,Y⟩),aH #[O aD (a:Int),O aE (o:Int)]] w λe w'=>e=aC (aH #[O aD (a':Int),O aE (o':Int)])/\XI w w' b g wj p2:=by
 have H7:=hp.lt;go_enter func205,ntmps205;go_wp2_with fail;refine(Xv b g wj a 8 a' p p1 _ (hp.allocs _ _) (by omega) (by omega) h1).mono ?_;rintro _ w1⟨rfl,g1,Hy,ql,H9⟩;have cB:=(H9.cell (p:=⟨w.heap.size,1,Y⟩) (by simp;omega) (Yp hp _ (Ql _))).trans (Ja (heap_alloc2_old _ _ _));have rR:=(H9.block _ (by simp) (Yp hp _ (by omega))).trans (heap_alloc2_new _ _ _);have hw:lF.wrap (o:Int)=(o:Int):=JK _ (by omega) (by omega);have xd:IntKind.u8.wrap (o':Int)=(o':Int):=Jcr _ (by omega) (by omega);have RR:J _:=rR;have jn:J (Jq _ _ _):=ql;have H5:J (M _ _ _):=H9;have HP:J (Jd _ _ _ _ _ _):=hp;go_wp2_with fail;refine(Xv b g1 wj o 1 o' p1 p2 _ Hy (by omega) (by omega) h2).mono ?_;rintro _ w2⟨rfl,g2,kV,gK,Ha⟩;have yN:=(Ha.block _ (by have:=H5.o.size;simp at this;omega) (JcH HP _ _ jn _ (by omega) (by omega))).trans RR.out;obtain⟨e0,e1⟩:=rows yN;have fR:∀j,w2.frozen? ⟨w.heap.size+1,j,Y⟩=false:=λj=>Qg _ _ _ _ _ yN;have xu:J _:=yN;go_wp2;rw[set2 _ _ _ _ _ _ _ xu.out];refine QK (v:=aH #[O aD (a':Int),O aE (o':Int)]) (Qq results205 _ _ (w.heap.size+1) _ _ (0,0) _ rfl (Qi w2 _ _ _ _ _ xu) underlying80 rfl (by kernel_rfl)) rfl ⟨rfl,?_⟩;have jx:¬(w.heap.size+1=b\/Z (w.heap.size+1)=g2):=by have h3:=jn.o.trans gK H5.o.size;exact JcH HP _ _ h3 _ (by omega) (by omega)
 refine XI.fresh HP.o _ _ (jn.o.trans gK H5.o.size) (YA H5.o Ha jn.o) ?_ (Ts w2 (w.heap.size+1) _) (by omega);exact kV.tch (Ts w2 (w.heap.size+1) _) (λe=>jx (.inl e.symm)) (λj hj e=>jx (.inr (by rw[hj,e])))

theorem Jk1(E:Nat->Addr)(b:Nat)(g:Option Nat)(wj:Int)(a o:Nat)(p:PS)(w:aA)(hE:Env E w)(hp:Jd w b g wj aK p)(hd:p.len<=90000000)(h1:p.num a 8=Y):
  aB N 205 #[X (Z ⟨b,0,Y⟩),aH #[O aD (a:Int),O aE (o:Int)]] w λe w'=>∃x y:Int,e=aC (aH #[O aD x,O aE y])/\JbB E w w' b g wj:=by
 have H7:=hp.lt;go_enter func205,ntmps205;go_wp2_with fail;refine(Zn E b g wj a 8 p _ (hE.allocs _ _) (hp.allocs _ _) (by omega) (by omega) h1).mono ?_;rintro _ w2⟨rfl,Hy,(H5:J _)⟩;have hb1:w.heap.size ≠ b:=by omega
 have vB:w.heap.size+1 ≠ b:=by omega
 have cB:=(H5.cell (p:=⟨w.heap.size,1,Y⟩) (by simp;omega) hb1).trans (Ja (heap_alloc2_old _ _ _));have yN:=(H5.block _ (by simp) vB).trans (heap_alloc2_new _ _ _);obtain⟨e0,e1⟩:=rows yN;have fR:∀j,w2.frozen? ⟨w.heap.size+1,j,Y⟩=false:=λj=>Qg _ _ _ _ _ yN;have xu:J _:=yN;have HP:J (Jd _ _ _ _ _ _):=hp;go_wp2_with fail;refine(JaB b g wj _ _ p _ _ _ Hy).mono ?_;rintro _ _⟨rfl,rfl⟩;go_wp2;rw[set2 _ _ _ _ _ _ _ xu.out];refine QK (v:=aH #[O aD 0,O aE 0]) (Qq results205 _ _ (w.heap.size+1) _ _ (0,0) _ rfl (Qi w2 _ _ _ _ _ xu) underlying80 rfl (by kernel_rfl)) rfl ⟨0,0,rfl,?_⟩;refine JbB.fresh (p2:=p) HP _ _ (.inl rfl) (H5.mono (λj h=>.inl (.inl h))) ?_ (Ts w2 (w.heap.size+1) _) (by omega);exact Hy.tch (Ts w2 (w.heap.size+1) _) (λe=>vB e.symm) (λj hj e=>by subst e;have:=(HP.o.own _ hj).2;omega)

theorem Jk2(E:Nat->Addr)(b:Nat)(Hi:18<=b)(g:Option Nat)(wj:Int)(a o a':Nat)(p p1:PS)(w:aA)(hE:Env E w)(hp:Jd w b g wj aK p)(hd:p.len<=90000000)(ho:o<256)(h1:p.num a 8=Z (a',p1))(h2:p1.num o 1=Y):
  aB N 205 #[X (Z ⟨b,0,Y⟩),aH #[O aD (a:Int),O aE (o:Int)]] w λe w'=>∃x y:Int,e=aC (aH #[O aD x,O aE y])/\JbB E w w' b g wj:=by
 have H7:=hp.lt;go_enter func205,ntmps205;go_wp2_with fail;refine(Xv b g wj a 8 a' p p1 _ (hp.allocs _ _) (by omega) (by omega) h1).mono ?_;rintro _ w1⟨rfl,g1,Hy,(jn:J _),(H5:J _)⟩;have cB:=(H5.cell (p:=⟨w.heap.size,1,Y⟩) (by simp;omega) (Yp hp _ (Ql _))).trans (Ja (heap_alloc2_old _ _ _));have rR:=(H5.block _ (by simp) (Yp hp _ (by omega))).trans (heap_alloc2_new _ _ _);have hw:lF.wrap (o:Int)=(o:Int):=JK _ (by omega) (by omega);have RR:J _:=rR;have HP:J _:=hp;have nq:=(hE.allocs _ _).tch H5 (Jbk Hi hp);go_wp2_with fail;refine(Zn E b g1 wj o 1 p1 _ nq Hy (by omega) (by have:=ZR _ _ _ _ _ h1;omega) h2).mono ?_;rintro _ w2⟨rfl,kV,Ha⟩;have vB:w.heap.size+1 ≠ b:=by omega
 have yN:=(Ha.block _ (by have:=H5.o.size;simp at this;omega) vB).trans RR.out;obtain⟨e0,e1⟩:=rows yN;have fR:∀j,w2.frozen? ⟨w.heap.size+1,j,Y⟩=false:=λj=>Qg _ _ _ _ _ yN;have xu:J _:=yN;go_wp2;rw[set2 _ _ _ _ _ _ _ xu.out];refine QK (v:=aH #[O aD (a':Int),O aE 0]) (Qq results205 _ _ (w.heap.size+1) _ _ (0,0) _ rfl (Qi w2 _ _ _ _ _ xu) underlying80 rfl (by kernel_rfl)) rfl ⟨(a':Int),0,rfl,?_⟩;have jx:¬(w.heap.size+1=b\/Z (w.heap.size+1)=g1):=JcH HP _ _ jn _ (by omega) (by omega);refine JbB.fresh (p2:=p1) HP _ _ jn (H5.trans Ha (λj h=>.inl (.inl h))) ?_ (Ts w2 (w.heap.size+1) _) (by omega);exact kV.tch (Ts w2 (w.heap.size+1) _) (λe=>jx (.inl e.symm)) (λj hj e=>jx (.inr (by rw[hj,e])))

def ErrN(E:Nat->Addr)(g:Nat)(w:aA):aG->Nat->Prop
 | v,0=>v=eV E g
 | v,n+1=>∃p s u,w.heap[p]? =Z (T #[L s,u] 237)/\ErrN E g w u n/\v=aJ 235 (X (Z ⟨p,0,Y⟩))
theorem ErrN.wrap{g:Nat}(p:Nat)(s:BA)(v:aG)(n:Nat)(hp:w.heap[p]? =Z (T #[L s,v] 237))(h:ErrN E g w v n):ErrN E g w (aJ 235 (X (Z ⟨p,0,Y⟩))) (n+1):=⟨p,s,v,hp,h,rfl⟩
theorem ErrN.ri{g:Nat}{motive:∀v n,ErrN E g w v n->Prop}(base:motive (eV E g) 0 rfl)(wrap:∀p s v n hp h,motive v n h->motive _ _ (.wrap p s v n hp h)):∀{v n} (h:ErrN E g w v n),motive v n h
 | _,0,rfl=>base
 | _,n+1,⟨p,s,u,hp,hu,rfl⟩=>wrap p s u n hp hu (ErrN.ri base wrap hu)
structure Jn(E:Nat->Addr)(g:Nat)(w:aA)(v:aG):Prop where
 of ::
 len:∃n,ErrN E g w v n
theorem Jn.base{g:Nat} :Jn E g w (eV E g):=⟨0,rfl⟩
theorem Jn.wrap{g:Nat}(p:Nat)(s:BA)(v:aG)(hp:w.heap[p]? =Z (T #[L s,v] 237)):Jn E g w v->Jn E g w (aJ 235 (X (Z ⟨p,0,Y⟩)))
 | ⟨n,h⟩=>⟨n+1,.wrap p s v n hp h⟩
theorem Jn.tch{g:Nat}(h:Jn E g w v)(k:M S w w')(hs:∀p s u,w.heap[p]? =Z (T #[L s,u] 237)->¬S p):Jn E g w' v:=by
 obtain⟨n,h⟩:=h
 induction h using ErrN.ri with
 | base=>exact .base
 | wrap p s u n hp _ ih=>exact .wrap p s u ((k.block p (Jb hp) (hs p s u hp)).trans hp) ih
theorem Jn.later{g:Nat}(h:Jn E g w v)(k:Below w.heap.size w w'):Jn E g w' v:=
 h.tch (M.of_below k) (λp _ _ hp hj=>by have:=(Jb hp);omega)
theorem Jn.iface{g:Nat}(h:Jn E g w v):∃t u,v=aJ t u:=by
 obtain⟨n,h⟩:=h
 cases h using ErrN.ri<;>exact⟨_,_,rfl⟩

theorem Xk(s:BA)(t:TypeId)(v:aG)(w:aA):aB N 80 #[L s,aJ t v] w λe w'=>e=aC (aJ 235 (X (Z ⟨w.heap.size,0,Y⟩)))/\w'=w.alloc (T #[L s,aJ t v] 237):=by
 go_enter func80,ntmps80;go_wp2;go_ret;exact⟨rfl,rfl⟩
theorem JiJ(i:Nat)(hi:i<10)(w:aA):aB N 101 #[O I (i:Int)] w λe w'=>(∃s:BA,s.size<=10/\e=aC (L s))/\w=w':=by
 have h0:(0:Int)<=(i:Int):=by omega
 have h1:(i:Int)<100:=by omega
 have h2:(i:Int)<10:=by omega
 go_enter func101,ntmps101;go_wp2;go_ret;refine⟨⟨_,?_,rfl⟩,rfl⟩;rw[ByteArray.size_extract];omega
open Go.RowKit Go.Extern.Stop Go.Stop Go.Extern

def Jpt:Array aG->Sem aG:=Extern.ReflectliteType.method λt=>do Extern.Rtype.noPackHeld "Comparable" t;pure (aL (<-typeInfo t).comparable)
theorem Jms(v:aG)(w:aA):(Extern.ReflectliteType.typeOf #[aJ 509 v]).run N w=.ok (aJ 338 (aH #[X (Z ⟨18,509,Y⟩)])) w:=by kernel_rfl
theorem Jf8(w:aA):(Jpt #[aH #[X (Z ⟨18,509,Y⟩)]]).run N w=.ok (aL true) w:=by kernel_rfl
theorem JbF(v:aG)(w:aA):(Go.method 641 338 v "Comparable").run N w=.ok (392,v) w:=by kernel_rfl
theorem JpR:(prog.info? 509).map (·.comparable)=Z true:=by kernel_rfl
theorem JpS:(prog.info? 531).map (·.size)=Z 1:=by kernel_rfl
theorem JqL(v:aG)(xT:TypeId)(w:aA):(lU (aJ 509 v) xT 340 true).run N w=.ok (aI #[aK,aL false]) w:=run_typeAssert_lacksB underlying340 (by kernel_rfl) (by kernel_rfl) v xT w
theorem JkX(v:aG)(xT:TypeId)(w:aA):(lU (aJ 509 v) xT 343 true).run N w=.ok (aI #[aK,aL false]) w:=run_typeAssert_lacksB underlying343 (by kernel_rfl) (by kernel_rfl) v xT w
theorem JiS(v:aG)(xT:TypeId)(w:aA):(lU (aJ 509 v) xT 344 true).run N w=.ok (aI #[aK,aL false]) w:=run_typeAssert_lacksB underlying344 (by kernel_rfl) (by kernel_rfl) v xT w
theorem JqM(v:aG)(xT:TypeId)(w:aA):(lU (aJ 235 v) xT 340 true).run N w=.ok (aI #[aK,aL false]) w:=run_typeAssert_lacksB underlying340 (by kernel_rfl) (by kernel_rfl) v xT w
theorem JiG(v:aG)(xT:TypeId)(w:aA):(lU (aJ 235 v) xT 343 true).run N w=.ok (aI #[aJ 235 v,aL true]) w:=run_typeAssert_hasB underlying343 (by kernel_rfl) v xT w
theorem Jgf(v:aG)(w:aA):(Go.method 641 235 v "Unwrap").run N w=.ok (387,v) w:=by kernel_rfl

def Ss:List Nat:=[0,1,2,3,4,5,6,7]
structure Sent(E:Nat->Addr)(w:aA):Prop where
 row:∀g∈Ss,∃ca ta,w.heap[(E g).block]? =Z (T ca ta (0,0))
 inj:∀g∈Ss,∀h∈Ss,E g=E h->g=h
theorem Sent.tch(h:Sent E w)(k:M S w w')(hs:∀g∈Ss,¬S (E g).block):Sent E w':=
 ⟨λg hg=>by obtain⟨ca,ta,hr⟩:=h.row g hg;exact⟨ca,ta,(k.block _ (Jb hr) (hs g hg)).trans hr⟩,h.inj⟩
theorem ErrN.unique{g:Nat} :∀{n m:Nat} {v:aG},ErrN E g w v n->ErrN E g w v m->n=m
 | 0,0,_,_,_=>rfl
 | 0,m+1,_,h,k=>by obtain⟨p,s,u,_,_,rfl⟩:=k;simp[ErrN]at h
 | n+1,0,_,h,k=>by obtain⟨p,s,u,_,_,rfl⟩:=h;simp[ErrN]at k
 | n+1,m+1,_,h,k=>by
  obtain⟨p,s,u,hp,hu,rfl⟩:=h;obtain⟨p2,s2,u2,kV,nH,e⟩:=k;simp only[Value.iface.injEq,Value.pointer.injEq,Qh,Addr.mk.injEq,and_true,true_and]at e;rw[<-e,hp]at kV;simp only[Qh,Obj.cells.injEq,and_true]at kV;have:u=u2:=by have:=congrArg (λa=>a[1]?) kV;simpa using this
  subst this;rw[ErrN.unique hu nH]
theorem JpO(E:Nat->Addr)(g:Nat)(w:aA):∃f:aG->Nat,∀v n,ErrN E g w v n->f v=n:=by
 classical
 refine⟨λv=>if h:∃n,ErrN E g w v n then h.choose else 0,λv n h=>?_⟩;simp only;rw[dif_pos ⟨n,h⟩];exact ErrN.unique (Exists.choose_spec ⟨n,h⟩) h

theorem JpT(g t:Nat)(hg:g∈Ss)(ht:t∈Ss)(hS:Sent E w)(v:aG)(n:Nat)(hv:ErrN E g w v n):
  aB N 132 #[v,eV E t,aL true] w λe w'=>e=aC (aL (g == t))/\w'=w:=by
 obtain⟨i,hi,vV⟩:=Option.map_eq_some_iff.1 JpR;obtain⟨j,hj,hjs⟩:=Option.map_eq_some_iff.1 JpS;obtain⟨ca,ta,ha⟩:=hS.row g hg;obtain⟨cb,tb,hb⟩:=hS.row t ht;have HI:J (E g=E t->g=t):=hS.inj g hg t ht;clear hS hg ht;obtain⟨f,(HF:J _)⟩:=JpO E g w;have nE:=JqL;have uE:=JkX;have vE:=JiS;have nW:=JqM;have uW:=JiG;have mU:=Jgf;go_enter func132,ntmps132;go_wp2;go_loopw [0] (λE' wl=>wl=w/\∃m,ErrN E g w E' m) (λE' _=>f E')
 case atStart=>exact⟨rfl,n,hv⟩
 case round=>
  obtain⟨rfl,m,hm⟩:=hrel
  cases hm using ErrN.ri with
  | base=>
   by_cases vH:g=t
   ·subst vH;have qD:=run_eql_iface_ptr_same (P:=N) wr (E g) underlying92 underlying509 hi vV hj;go_wp2;go_ret;exact⟨by simp,rfl⟩
   ·have Hl:E g ≠ E t:=λe=>vH (HI.o e);have qD:=run_eql_iface_ptr_other (P:=N) wr underlying92 underlying509 hi vV hj (by rw[hjs];decide) Hl ha hb;go_wp2;go_ret;exact⟨by rw[beq_eq_false_iff_ne.2 vH];rfl,rfl⟩
  | wrap p s u m1 hp h1 ih=>
   clear ih;have hty:=run_eql_iface_types (P:=N) 235 509 (X (Z ⟨p,0,Y⟩)) (X (Z (E t))) underlying92 (by decide) wr;have Hq:=HF.o _ _ h1;have uG:=HF.o _ _ (ErrN.wrap p s u m1 hp h1);have c1:wr.cell? ⟨p,1,Y⟩=Z u:=Ja hp;have Hl:∃a b,u=aJ a b:=(by cases h1 using ErrN.ri<;>exact⟨_,_,rfl⟩);obtain⟨u1,v1,rfl⟩:=Hl;have HC:J (ErrN E g wr (aJ u1 v1) m1):=h1;clear h1;go_wp2;go_roundw
   case rel=>exact⟨trivial,m1,HC.o⟩
   case measure=>show f (aJ u1 v1)<_;rw[Hq,uG];omega

theorem Jpz(g t:Nat)(hg:g∈Ss)(ht:t∈Ss)(hS:Sent E w)(v:aG)(hv:Jn E g w v):
  aB N 75 #[v,eV E t] w λe w'=>e=aC (aL (g == t))/\w'=w:=by
 have h10:= @run_callFunc_extern N 131 _ Extern.ReflectliteType.typeOf func131 (by kernel_rfl) (by kernel_rfl) (by kernel_rfl) (by kernel_rfl);have h30:= @run_callFunc_extern N 392 _ Jpt func392 (by kernel_rfl) (by kernel_rfl) (by kernel_rfl) (by kernel_rfl);have tT:=Jms;have cT:=Jf8;have mR:=JbF;obtain⟨a,b,rfl⟩:=hv.iface;obtain⟨n,hn⟩:=hv.len;have hcon:=JpT g t hg ht hS (aJ a b) n hn;clear hv hn hS hg ht;go_enter func75,ntmps75;go_wp2_with (first|(go_at_call 132;refine hcon.mono ?_;rintro e w'⟨rfl,rfl⟩)|go_in);go_ret;exact⟨rfl,rfl⟩

def Jl7(g:Nat):Int:=if g=0 then 2 else if g=1 then 3 else if g=2 then 4 else if g=3 then 5 else if g=4 then 6 else if g=5 then 7 else if g=6 then 8 else 1
theorem Jbd(w:aA):aB N 42 #[aK] w λe w'=>e=aC (O I 0)/\w'=w:=by
 go_enter func42,ntmps42;go_wp2;go_ret;exact⟨rfl,rfl⟩
theorem JkB(g:Nat)(hg:g∈Ss)(hE:Env E w)(hS:Sent E w)(v:aG)(hv:Jn E g w v):
  aB N 42 #[v] w λe w'=>e=aC (O I (Jl7 g))/\w'=w:=by
 have HI:J (∀t∈Ss,_):=λt ht=>Jpz g t hg ht hS v hv;obtain⟨a,b,rfl⟩:=hv.iface;have c0:=hE.tip;have c1:=hE.input;have c2:=hE.exist;have c3:=hE.sum;have c4:=hE.root;have c5:=hE.range;have c6:=hE.form;have c7:=hE.torn;have hg':g=0\/g=1\/g=2\/g=3\/g=4\/g=5\/g=6\/g=7:=by simpa [Ss]using hg
 rcases hg' with rfl|rfl|rfl|rfl|rfl|rfl|rfl|rfl
 all_goals go_enter func42,ntmps42;go_wp2_with (go_at_call 75;refine(HI _ (by decide)).mono ?_;rintro _ _⟨rfl,rfl⟩);go_ret;exact⟨rfl,rfl⟩
open Go.ChangeShapes Go.WideShapes Go.ChangeAt Go.RowKit

theorem JqZ(u:TypeId)(h:prog.typeName? 3 u=Z "*errors.errorString"):u=509:=
 have star: "*" ++ "errors.errorString" = "*errors.errorString" :=by decide
 typeName_ptr_named (nm:= "errors.errorString") (by rw[star];kernel_rfl) (by kernel_rfl) (by decide) u (by rw[star];exact h)
theorem Jl3:prog.cellsOf 531=1:=by kernel_rfl
theorem Jl4:prog.cellsOf 9=1:=by kernel_rfl
def JdA(W:aA)(g:Nat)(text:List UInt8):Prop:=∃(a:Addr)(s:BA)(ca:Array aG)(ta:TypeId),W.cell? ⟨g,0,Y⟩=Z (aJ 509 (X (Z a)))/\W.cell? a=Z (L s)/\s.data.toList=text/\W.heap[a.block]? =Z (T ca ta (0,0))
theorem XV{n:String}{g:Nat}{text:List UInt8}{r:List (String×DataW Unit)}(h:laidMet N ((n,.iface "*errors.errorString" (.ptr (.agg [.lit (.string text)])))::r) W) (hg:prog.globalNamed n=Z g) (ht:(prog.globals[g]?).map (·.type)=Z 92):JdA W g text:=by
 obtain⟨ps,⟨g0,t0,cs0,f0,p0,q0,hg0,ht0,rg,hd0,_,e0⟩,_,mY⟩:=h;obtain rfl:=lw.inj (hg.symm.trans hg0);obtain rfl:=lw.inj (ht.symm.trans ht0);subst e0;obtain⟨l0⟩:=cs0;have ok0:∀u v,l0=[aJ u v]->Value.okWide N W .any 0 u v:=λu v e=>by
  subst e;exact(mY g 0 (by simp[MemPlace.row])).2 u v ((World.var?_cell hg0 rg 0).trans rfl)
 obtain⟨a0,s0,rfl,hc0,hs0,xV,rfl⟩:=errorString_of_trod underlying92 JqZ underlying509 underlying531 rfl rfl underlying9 Jl3 Jl4 hd0 ok0;obtain⟨ca,ta,hb⟩:=(mY a0.block a0.off (by simp[MemPlace.row])).1;exact⟨a0,s0,ca,ta,(World.var?_cell hg0 rg 0).trans rfl,hc0,hs0,hb⟩
def txOf:DataW Unit->List UInt8
 | .iface _ (.ptr (.agg [.lit (.string t)]))=>t
 | _=>[]
def tx(g:Nat):List UInt8:=txOf (if g=0 then Rows.laid_trove_fault_Tip else if g=1 then Rows.laid_trove_fault_Input else if g=2 then Rows.laid_trove_fault_Exists else if g=3 then Rows.laid_trove_fault_Sum else if g=4 then Rows.laid_trove_fault_Root else if g=5 then Rows.laid_trove_fault_Range else if g=6 then Rows.laid_trove_fault_Torn else Rows.laid_trove_fault_Form)
theorem Jqk:∀g∈Ss,∀h∈Ss,tx g=tx h->g=h:=by decide
theorem JpM(hS:∀g∈Ss,JdA W g (tx g))(Hp:18<=W.heap.size)(rS:Lib.TabIs N W "internal/strconv.uint64pow10" aD Lib.pow10Tab) (sK:∀i,i<64->W.cell? ⟨13,i,Y⟩=Z (O aF (Ks.getD i 0))):
  ∃E:Nat->Addr,Env E W/\Sent E W/\∀g∈Ss,(E g).block<W.heap.size:=by
 classical
 let E:Nat->Addr:=λg=>if h:g∈Ss then Classical.choose (hS g h) else ⟨0,0,Y⟩
 have hE:∀g (h:g∈Ss),∃(s:BA)(ca:Array aG)(ta:TypeId),W.cell? ⟨g,0,Y⟩=Z (aJ 509 (X (Z (E g))))/\W.cell? (E g)=Z (L s)/\s.data.toList=tx g/\W.heap[(E g).block]? =Z (T ca ta (0,0)):=λg h=>by
  have e:E g=Classical.choose (hS g h):=dif_pos h;rw[e];exact Classical.choose_spec (hS g h)
 have hc:∀g,g∈Ss->W.cell? ⟨g,0,Y⟩=Z (aJ 509 (X (Z (E g)))):=λg h=>by obtain⟨_,_,_,h1,_⟩:=hE g h;exact h1
 refine⟨E,⟨Hp,hc _ (by decide),hc _ (by decide),hc _ (by decide),hc _ (by decide),hc _ (by decide),hc _ (by decide),hc _ (by decide),hc _ (by decide),rS,sK⟩,⟨λg hg=>?_,λg hg h hh e=>?_⟩,λg hg=>?_⟩
 ·obtain⟨_,ca,ta,_,_,_,h4⟩:=hE g hg;exact⟨ca,ta,h4⟩
 ·obtain⟨s,_,_,_,h2,h3,_⟩:=hE g hg;obtain⟨s',_,_,_,h2',tC,_⟩:=hE h hh;rw[e,h2']at h2
  cases h2
  exact Jqk g hg h hh (h3.symm.trans tC)
 ·obtain⟨_,ca,ta,_,_,_,h4⟩:=hE g hg;exact(Jb h4)
theorem gTab:prog.globalNamed "trove/digest.roundConstants" =Z 13:=by kernel_rfl
theorem Jmm:(prog.globals[13]?).map (·.type)=Z 486:=by kernel_rfl
theorem JpJ:prog.cellsOf 486=64:=by kernel_rfl
theorem JpK:prog.cellsOf 429=1:=by kernel_rfl
theorem Jml:(prog.globals[15]?).map (·.type)=Z 503:=by kernel_rfl
theorem JpI:prog.cellsOf 503=20:=by kernel_rfl
theorem Jl5:prog.cellsOf 78=1:=by kernel_rfl

section
variable {w W:aA}{a b:Obj}
theorem xw(h:W=w.alloc a):W.heap[w.heap.size]? =Z a:=by rw[h];exact Qf _ _
theorem yh(h:W=w.alloc a):M D w W:=by rw[h];exact Ta _ _ _
theorem kt(h:W=(w.alloc a).alloc b):W.heap[w.heap.size]? =Z a:=by rw[h];exact heap_alloc2_old _ _ _
theorem hnn(h:W=(w.alloc a).alloc b):W.heap[w.heap.size+1]? =Z b:=by rw[h];exact heap_alloc2_new _ _ _
theorem vM(h:W=(w.alloc a).alloc b):M D w W:=by rw[h];exact(Ta _ _ _).trans (Ta _ _ _) (λ_ h=>.inl h)
end
