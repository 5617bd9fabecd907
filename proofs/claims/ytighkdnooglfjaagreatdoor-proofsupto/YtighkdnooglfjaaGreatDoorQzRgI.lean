import Derived.RangeFuncCalls
import Derived.OrdersIn
import Derived.Shelf.SlicesE.Reverse
import Derived.Test.YtighkdnooglfjaaGreatDoorQzIs
import Derived.Laws.AppendOwnNone
open Go renaming Calls->aB,Value->aG,World->aA
open Go.Ending renaming returned->aC
open Go.IntKind renaming i64->I,u32->aF,u64->aD,u8->aE
open Go.Obj renaming cells->T
open Go.Proofs.Tryz renaming prog->N
open Go.RowKit renaming Hid->J
open Go.Value renaming agg->aH,int->O,slice->R,string->L,tuple->aI,string->lE
open Option renaming none->Y,some->Z,map_eq_some_iff->lK
open Or renaming inl->aM,inr->aN
open Array renaming getElem?_toList->lM
open Go.Builtin renaming append_->lP
open ByteArray renaming size_append->lD
open Classical renaming byContradiction->lG
open List renaming mem_cons->lF,getElem?_take_of_lt->lJ,range_succ->lN,mem_flatMap->lO
open Nat renaming zero_add->lH,add_zero->lI
open UInt8 renaming ofNat->lC
set_option maxRecDepth 100000
set_option maxHeartbeats 2000000
namespace Go.Proofs.YtighkdnooglfjaaGreatDoor
open Go

section
variable {P:Program}{md:Region.Mode}{Q:Exit->Act->aA->Prop}{l n:Nat}
theorem JjL{o:Oper}{a:Act}{w:aA}{K K':Act->aA->Prop}(jK:∀c,o.op ≠ .defer c)(hK:∀a w,K a w->K' a w)(h:Oper.wp P o a w K Q):Oper.wpIn (Fence.wide.inRound l) n P o a w K' Q:=by
 unfold Oper.wpIn;refine⟨λ_ _=>trivial,?_⟩;rw[Fence.inRound_round,Oper.semAt_some l _ _ jK];unfold Oper.wp at h;generalize (execOp a.eval o).run P w=r at *
 cases r with
 | ok x w'=>
  cases x with
  | enter f args=>
   refine⟨λh=>by simp[Fence.wide]at h,callsIn_wide.2 (Calls.mono h ?_)⟩;intro e w2 h2
   cases e with
   | returned v=>exact hK _ _ h2
   | panicked c=>exact h2
   | outgrown=>exact h2
  | row r args=>
   refine⟨λh=>by simp[Fence.wide]at h,λc cs _=>?_⟩;obtain⟨v,w2,h2,h3⟩:=h c cs;exact⟨v,w2,hK _ _ h2,stepsIn_wide.2 h3⟩
  | value v=>exact hK _ _ h
  | skip=>exact hK _ _ h
  | defer d=>exact hK _ _ h
  | round _ _ _ _ _=>exact h.elim
  | _=>exact h.elim
 | halt hl w'=>
  cases hl with
  | panic v=>exact h
  | _=>exact h.elim
theorem Jpr{ops:Array Oper}(jK:∀(i:Nat) o,ops[i]? =Z o->∀c,o.op ≠ .defer c)(hQ:¬LetsOut Q):∀(fuel:Nat)(listed:Array Bool)(a:Act)(w:aA),wpAny P md ops Q fuel listed a w->wpAnyIn (Fence.wide.inRound l) n P md ops Q fuel listed a w:=by
 intro fuel
 induction fuel with
 | zero=>intro listed a w h;exact h
 | succ fuel ih=>
  intro listed a w h;refine⟨h.1,λi hi=>?_⟩;have h2:=h.2 i hi;unfold wpOp at h2;unfold wpOpIn
  cases ho:ops[i]? with
  | none=>rw[ho]at h2;exact ih _ _ _ h2
  | some o=>
   rw[ho]at h2;dsimp only at h2 ⊢
   split
   ·rename_i hw;rw[if_pos hw]at h2
    rcases h2 with h2|h2
    ·exact JjL (jK i o ho) (ih _) h2
    ·exact absurd h2.2 hQ
   ·rename_i hw;rw[if_neg hw]at h2;exact⟨λ_ _=>trivial,ih _ _ _ h2⟩
variable {S:aA->Prop}
theorem YX{id:Nat}{a:Act}{w:aA}{aS:List Oper}(m:Nat)(Hd:aS ≠ [])(hm:P.follows .mixedOrders=true)(hB:Jfo .any aS.dropLast (aS.getLast Hd) m=true)(jK:∀o∈aS,∀c,o.op ≠ .defer c)(hQ:¬LetsOut Q)(hS:S w.drew)
  (h:S w.drew->∀l o,aS.dropLast=l->aS.getLast Hd=o->wpAnyH P .any l.toArray (Jdz P aS.toArray o Q) S l.length (Array.replicate l.length false) a w.drew):(Code.region id aS.toArray true).wpIn (Fence.wide.inRound l) n P Q a w:=by
 refine wpIn_region_any hm (Jpr (λi o ho=>jK o (List.mem_of_getElem? (by simpa using ho))) hQ _ _ _ _ ?_);have e:aS=aS.dropLast++[aS.getLast Hd]:=(List.dropLast_concat_getLast Hd).symm;have h1:=wpAny_of_held _ _ _ _ (h hS _ _ rfl rfl);have h2:=JaC (Q:=Q) hB aS.dropLast.length (Array.replicate aS.dropLast.length false) a w.drew (by simp) (λi o _ hi=>by simp[Array.getD]at hi) (by rw[<-e];exact h1);rw[<-e,YN]at h2;have hl:aS.dropLast.length+1=aS.toArray.size:=by have:=congrArg List.length e;simpa using this.symm
 rw[hl]at h2;exact h2
end
end Go.Proofs.YtighkdnooglfjaaGreatDoor
namespace Go.Proofs
open Tryz
open Go.Shelf
def JeU:Go.Shelf.Ren:=⟨fun|35=>290|n=>n,fun|22=>58|23=>9|3=>3|4=>4|0=>0|n=>n,fun|n=>n⟩
theorem Jkz:SlLaysE.n35 N JeU:={
 mixed:=by kernel_rfl
 f35:=Exists.intro "slices.Reverse[[]string,string]" ⟨by decide,func290.trans (congrArg Z (by kernel_rfl))⟩
 t0:=underlying0
 a0:=isAgg0
 z0:=sizeOf0
 v0:=zeroValue0
 t3:=underlying3
 a3:=isAgg3
 z3:=sizeOf3
 v3:=zeroValue3
 t4:=underlying4
 a4:=isAgg4
 z4:=sizeOf4
 v4:=zeroValue4
 t22:=underlying58
 a22:=isAgg58
 z22:=sizeOf58
 v22:=zeroValue58
 a23:=isAgg9
 z23:=sizeOf9 }
theorem YtighkdnooglfjaaGreatDoor.tch_putRow(w:aA)(n blk off:Nat)(d:Array ByteArray):YtighkdnooglfjaaGreatDoor.M (λj=>j=blk) w (Go.Sort.putRow lE (Go.Sort.ahead w n) blk off d):=by
 refine⟨rfl,rfl,rfl,by simp[Go.Sort.ahead],λk _ hk=>?_⟩;simp only[Go.Sort.putRow,Go.Sort.mapBlock,Go.Sort.ahead];rw[Array.getElem?_modify,if_neg (λe=>hk e.symm)]
theorem YtighkdnooglfjaaGreatDoor.reverse_any(blk cap:Nat)(zs:List ByteArray)(w:aA)(hc:∀j (h:j<zs.length),w.cell? ⟨blk,j,Y⟩=Z (L zs[j])/\w.frozen? ⟨blk,j,Y⟩=false)(hz:zs.length<=1000000):
  aB N 290 #[R (Z ⟨blk,0,Y⟩) zs.length cap] w λe w'=>e=aC (aI #[])/\YtighkdnooglfjaaGreatDoor.M (λj=>j=blk) w w'/\∀j (h:j<zs.reverse.length),w'.cell? ⟨blk,j,Y⟩=Z (L zs.reverse[j]):=by
 have hH:Go.Sort.Holds lE w blk 0 zs.toArray:=λj hj=>by
  have qn:j<zs.length:=by simpa using hj
  obtain⟨h1,h2⟩:=hc j qn;rw[lH];refine⟨?_,h2⟩;rw[h1];simp[qn]
 refine(AnyE.slices_Reverse Jkz lE (λ_=>rfl) blk 0 cap zs w hH (by omega)).mono ?_;rintro e w'⟨rfl,n,rfl⟩;refine⟨rfl,YtighkdnooglfjaaGreatDoor.tch_putRow _ _ _ _ _,λj h=>?_⟩;have h0:Go.Sort.Holds lE (Go.Sort.ahead w n) blk 0 zs.toArray:=hH;have:=Go.Sort.cell?_putRow lE (Go.Sort.ahead w n) blk 0 zs.toArray zs.reverse.toArray h0 (by simp) j (by simpa using h);rw[lH]at this;rw[this];have qn:j<zs.length:=by simpa using h
 simp[qn]
end Go.Proofs
namespace Go.Proofs.YtighkdnooglfjaaGreatDoor
open Tryz
open Go.RowKit

theorem Jb1(n:Int)(w:aA):aB N 66 #[O I n] w λe w'=>e=aC (O I n)/\w'=w:=by
 go_enter func66,ntmps66;go_wp2;go_ret;exact⟨rfl,rfl⟩
theorem Jmi(c:Int)(n:Nat)(h1: -9223372036854775808<=c)(h2:c<9223372036854775808)(hn:0<n)(jT:n<9223372036854775808):
  ∃r:Nat,r<n/\∀w,aB N 69 #[O I c,O I (n:Int)] w λe w'=>e=aC (O I (r:Int))/\w'=w:=by
 obtain⟨d,hd,yh,qj,hdc⟩:∃d:Int,(0<=d)/\d<9223372036854775808/\(c<0->wrap64 (-(wrap64 (c+1)))=d)/\(¬c<0->c=d):=by
  by_cases h:c<0
  ·refine⟨-(c+1),by omega,by omega,λ_=>?_,λh'=>absurd h h'⟩;have e1:wrap64 (c+1)=c+1:=(by simp only[wrap64];omega);rw[e1];simp only[wrap64];omega
  ·exact⟨c,by omega,by omega,λh'=>absurd h' h,λ_=>rfl⟩
 obtain⟨m,rfl⟩:=Int.eq_ofNat_of_zero_le hd;have Hd:¬(n:Int)=0:=by omega
 refine⟨m % n,Nat.mod_lt _ hn,λw=>?_⟩
 by_cases hc:c<0
 ·have fe:J _:=qj hc;clear h1 h2 hd yh qj hdc;go_enter func69,ntmps69;go_wp2;go_ret;exact⟨by show Ending.returned (Value.int I ((wrap64 (-wrap64 (c+1))).tmod n))=_;rw[fe.o];rfl,rfl⟩
 ·obtain rfl:=hdc hc;go_enter func69,ntmps69;go_wp2;go_ret;exact⟨rfl,rfl⟩
theorem Jmh(s:BA)(hs:s.size<=1000000)(c more:Int)(h1: -9223372036854775808<=c)(h2:c<9223372036854775808):
  ∃q:BA,q.size<=s.size/\∀w,aB N 182 #[L s,O I c,O I more] w λe w'=>e=aC (L q)/\M D w w':=by
 by_cases h0:s.size=0
 ·refine⟨s,Ql _,λw=>?_⟩;obtain rfl:s=⟨#[]⟩:=by
   obtain⟨a⟩:=s;have:a= #[]:=Array.eq_empty_of_size_eq_zero h0;rw[this]
  go_enter func182,ntmps182;go_wp2;go_ret;exact⟨rfl,Te _ _⟩
 ·have fy:s.toList.isEmpty=false:=by
   rw[List.isEmpty_eq_false_iff];intro e;apply h0;have:=congrArg List.length e;rw[ByteArray.toList_eq,QA]at this;exact this
  by_cases hm:more=0
  ·subst hm;refine⟨s,Ql _,λw=>?_⟩;go_enter func182,ntmps182;go_wp2;go_ret;exact⟨rfl,Te _ _⟩
  ·obtain⟨r,hr,(HPK:J _)⟩:=Jmi c s.size h1 h2 (by omega) (by omega);obtain⟨x,hx⟩:∃x:Nat,s[r].toNat=x:=⟨_,rfl⟩
   obtain⟨b,hb,gX⟩:∃b:Nat,b<256/\((x:Int)+more) % 256=(b:Int):=⟨(((x:Int)+more) % 256).toNat,by omega,by omega⟩
   have eC:¬9223372036854775807<r+1:=(by omega);have e1:(⟨#[lC b]⟩:BA).size=1:=rfl;have hq:(s.extract 0 r++(⟨#[lC b]⟩:BA)++s.extract (r+1) s.size).size<=s.size:=(by rw[lD,lD,ByteArray.size_extract,ByteArray.size_extract,e1];omega);refine⟨_,hq,λw=>?_⟩;have gJ:=Jb0 b (w.alloc (T #[O aE (b:Int)] 5)).drew w.heap.size hb (Ja (Qf _ _));have kD:(r:Int)<(s.size:Int):=(by omega);have dx:r<=s.size:=(by omega);have hrm:r+1<=s.size:=(by omega);have cK:(r:Int)+1<=(s.size:Int):=(by omega);clear hq;go_enter func182,ntmps182;go_wp2_with fail;refine(HPK _).mono ?_;rintro _ aX⟨rfl,hX⟩;rw[hX];go_upto_region 4 with fail;go_region
   all_goals go_wp2;go_ret;exact⟨rfl,M.box w _⟩

theorem Jku(wj:Nat)(l:List (BA×Int))(h:∀x∈l,Ji wj x):(l.flatMap Jc).length=l.length*(wj+1):=by
 induction l with
 | nil=>simp
 | cons x r ih=>rw[QG,Qe,Xg (h x QN),ih (λy hy=>h y (QQ _ hy)),Qp,Nat.succ_mul];omega
theorem Jb7(o:Nat×Nat):(outB o).length=9:=by simp[outB,Jf]
theorem Jff(l:List (Nat×Nat)):(l.flatMap outB).length=l.length*9:=by
 induction l with
 | nil=>simp
 | cons x r ih=>rw[QG,Qe,Jb7,ih,Qp,Nat.succ_mul];omega
def txA1(t:TxL)(i:Nat):List UInt8:=beL t.1.length 1 1++(t.1.take i).flatMap Jc
def txA2(t:TxL)(i:Nat):List UInt8:=txA1 t t.1.length++(beL t.2.length 1 1++(t.2.take i).flatMap outB)
theorem Jlk(t:TxL)(i:Nat)(h:i<t.1.length):txA1 t (i+1)=txA1 t i++Jc t.1[i]:=by
 unfold txA1;rw[QR h];simp only[List.flatMap_append,QG,List.flatMap_nil,QC,Qs]
theorem Jnr(t:TxL):txA2 t t.2.length=txB t:=by
 unfold txA2 txA1 txB JdW Jy;rw[List.take_length,List.take_length]
theorem JeI(wj:Nat)(t:TxL)(h:TxOk wj t)(hw:wj<=32)(i:Nat):(txA1 t i).length<=100:=by
 unfold txA1;rw[Qe,Jf,Jku wj _ (λx hx=>h.coins x (List.mem_of_mem_take hx)),QB];have:=h.ins;have:min i t.1.length<=3:=by omega
 have:min i t.1.length*(wj+1)<=3*(32+1):=Nat.mul_le_mul this (by omega);omega
theorem Jns(wj:Nat)(t:TxL)(h:TxOk wj t)(hw:wj<=32)(i:Nat):(txA2 t i).length<=200:=by
 unfold txA2;rw[Qe,Qe,Jf,Jff,QB];have:=JeI wj t h hw t.1.length;have:=h.made;omega
theorem JO(a b:List UInt8)(h:a.length+b.length<=1000000000)(W:aA):(Op.stringOp .add (⟨a.toArray⟩:BA) ⟨b.toArray⟩).run Tryz.prog W=.ok (L ⟨(a++b).toArray⟩) W:=by
 rw[run_string_add_sum (P:=Tryz.prog) W (⟨a.toArray⟩:BA) ⟨b.toArray⟩ (by show a.toArray.size+b.toArray.size<=_;simp;omega)];exact congrArg (λx=>Result.ok (lE x) W) (YK (by simp))
theorem beL1(n:Nat):beL n 1 1=[lC n]:=by simp[beL]

theorem Jg9{l:List H9}{c:BA×Int}{k:Nat}(hk:k<l.length)(he:l[k].1=c)(hn:∀j (hj:j<l.length),j<k->l[j].1 ≠ c):XX l c=Z k:=by
 unfold XX;rw[List.findIdx?_eq_some_iff_getElem];exact⟨hk,by simpa using he,λj hj=>by simpa using hn j (by omega) hj⟩
theorem Jl3{l:List H9}{c:BA×Int}(hn:∀j (hj:j<l.length),l[j].1 ≠ c):XX l c=Y:=by
 unfold XX;rw[List.findIdx?_eq_none_iff];intro x hx;obtain⟨j,hj,rfl⟩:=List.getElem_of_mem hx;simpa using hn j hj
def Yi(l:List H9)(c:BA×Int):Int:=match XX l c with|some k=>(k:Int)|none=> -1


def JdI(h:BA×Int):List aG:=[L h.1,O I h.2]
def YC(l:List (BA×Int)):List aG:=l.flatMap JdI
theorem JbW(l:List (BA×Int)):(YC l).length=l.length*2:=by
 induction l with
 | nil=>rfl
 | cons x r ih=>simp only[YC,QG,Qe]at ih ⊢;rw[ih];simp[JdI];omega
theorem Jkf(l:List (BA×Int)):∀u∈YC l,u.oneCell'=true:=by
 intro u hu;simp only[YC,lO,JdI]at hu;obtain⟨x,_,hu⟩:=hu;simp only[lF,QD,or_false]at hu
 rcases hu with rfl|rfl<;>rfl
theorem JfZ(l l':List (BA×Int)):YC (l++l')=YC l++YC l':=by simp[YC]
theorem Je9(l:List (BA×Int)):∀(i:Nat)(h:i<l.length),(YC l)[i*2]? =Z (L l[i].1)/\(YC l)[i*2+1]? =Z (O I l[i].2):=by
 induction l with
 | nil=>intro i h;simp at h
 | cons x r ih=>
  intro i h
  cases i with
  | zero=>simp[YC,JdI]
  | succ i=>
   have e:∀j,(YC (x::r))[(i+1)*2+j]? =(YC r)[i*2+j]? :=by
    intro j;show (JdI x++YC r)[(i+1)*2+j]? =_;rw[Qz (by simp[JdI];omega)]
    congr 1;simp[JdI];omega
   refine⟨?_,?_⟩
   ·have:=e 0;rw[lI,lI]at this;rw[this];simpa using (ih i (by simpa using h)).1
   ·rw[e 1];simpa using (ih i (by simpa using h)).2
theorem JG.cells{w:aA}{g o:Nat}{l:List (BA×Int)}(h:∀i (h:i<l.length),w.cell? ⟨g,o+i*2,Y⟩=Z (L l[i].1)/\w.cell? ⟨g,o+i*2+1,Y⟩=Z (O I l[i].2)):
  ∀j u,(YC l)[j]? =Z u->w.cell? (Addr.add ⟨g,o,Y⟩ j)=Z u:=by
 intro j u hu;have hj:j<l.length*2:=by have:=(Qo.1 hu).1;rw[JbW]at this;exact this
 obtain⟨e0,e1⟩:=Je9 l (j/2) (by omega);obtain⟨f0,f1⟩:=h (j/2) (by omega);rw[Addr.add_lit];obtain hm|hm:j % 2=0\/j % 2=1:=by omega
 ·rw[show j/2*2=j by omega]at e0;rw[show o+j/2*2=o+j by omega]at f0;rw[f0,<-e0,hu]
 ·rw[show j/2*2+1=j by omega]at e1;rw[show o+j/2*2+1=o+j by omega]at f1;rw[f1,<-e1,hu]
def COwn(base:Nat)(w:aA)(v:aG)(l:List (BA×Int)):Prop:=w.ownsRow base 49 2 v l.length (YC l)
theorem COwn.nil(base:Nat)(w:aA):COwn base w (R Y 0 0) []:=⟨rfl,aM ⟨rfl,rfl⟩⟩
theorem COwn.at{base:Nat}{w:aA}{v:aG}{l:List (BA×Int)}(h:COwn base w v l):JG w.heap.size w v l:=by
 obtain⟨_,⟨rfl,h0⟩|⟨g,cap,cur,rfl,_,hZ,_,_,Hi,kK⟩⟩:=h
 ·exact aM ⟨rfl,QP h0⟩
 ·have H5:=(Jb hZ)
  refine aN ⟨g,0,cap,rfl,H5,H5,λi hi=>?_⟩;obtain⟨e0,e1⟩:=Je9 l i hi;have hc:∀j u,(YC l)[j]? =Z u->w.cell? ⟨g,0+j,Y⟩=Z u:=by intro j u hu;rw[<-kK]at hu;have hj:=(Qo.1 hu).1;rw[lJ (by rw[QB]at hj;omega)]at hu;rw[Ja hZ,lH,<-lM];exact hu
  exact⟨hc _ _ e0,hc _ _ e1⟩
theorem COwn.own{base:Nat}{w:aA}{v:aG}{l:List (BA×Int)}(h:COwn base w v l):∀k,v.ownBlock=Z k->base<=k/\k<w.heap.size:=by
 obtain⟨_,⟨rfl,h0⟩|⟨g,cap,cur,rfl,hb,hZ,_⟩⟩:=h
 ·intro k hk;cases hk
 ·intro k hk;cases hk;exact⟨hb,(Jb hZ)⟩
theorem COwn.tch{base:Nat}{w w':aA}{v:aG}{l:List (BA×Int)}{S:Nat->Prop}(h:COwn base w v l)(k:M S w w')(hs:∀j,v.ownBlock=Z j->¬S j):COwn base w' v l:=by
 obtain⟨h1,⟨rfl,h0⟩|⟨g,cap,cur,rfl,hb,hZ,h2⟩⟩:=h
 ·exact⟨h1,aM ⟨rfl,h0⟩⟩
 ·exact⟨h1,aN ⟨g,cap,cur,rfl,hb,(k.block g (Jb hZ) (hs g rfl)).trans hZ,h2⟩⟩
theorem COwn.shape{base:Nat}{w:aA}{v:aG}{l:List (BA×Int)}(h:COwn base w v l):∃a c,v=R a l.length c:=h.at.shape
theorem COwn.shape3{base:Nat}{w:aA}{v:aG}{l:List (BA×Int)}(h:COwn base w v l):∃a m c,v=R a m c:=by
 obtain⟨a,c,h⟩:=h.shape;exact⟨a,_,c,h⟩
theorem Jkx:(prog.info? 49).map (λi=>(i.zero,i.size,i.bytes))=Z (Z (aH #[L ⟨#[]⟩,O I 0]),2,24):=by kernel_rfl
theorem Jdk{base:Nat}{w:aA}{v:aG}{l:List (BA×Int)}(h:COwn base w v l)(x:aG)(B:Nat)(l2:List (BA×Int))(hx:JG B w x l2)(ty:TypeId)(hb:l.length+l2.length<=1000000000)(Ha:base<=w.heap.size):
  ∃v' w',(lP #[96,96] ty #[v,x]).run N w=.ok v' w'/\COwn base w' v' (l++l2)/\w.grownBy w' v.ownBlock:=by
 obtain⟨i,hi,hp⟩:=lK.1 Jkx;simp only[Qw]at hp;obtain⟨hz,Hi,gJ⟩:=hp
 rcases hx with⟨rfl,rfl⟩|⟨g,o,c,rfl,_,hg,Hg⟩
 ·exact⟨v,w,run_append_owned_none (P:=N) (w:=w) base 96 ty 49 i 2 underlying96 hi v l.length (YC l) h,by rw[QC];exact h,World.grownBy.refl _ _⟩
 ·obtain⟨v',w',hr,h2,h3,h4⟩:=run_append_own (P:=N) w base 96 ty 49 i _ 2 24 underlying96 hi hz Hi gJ rfl (by omega) v l.length (YC l) h ⟨g,o,Y⟩ l2.length c (YC l2) (JbW l2) (JG.cells Hg) (Jkf l2) (by simp only[maxLen];omega) (by omega) Ha;exact⟨v',w',hr,by unfold COwn;rw[Qe,JfZ];exact h2,h3⟩
theorem Jmx(W:aA)(c:BA×Int):JG (W.heap.size+1) (W.alloc (T #[L c.1,O I c.2] 49)) (R (Z ⟨W.heap.size,0,Y⟩) 1 1) [c]:=by
 refine aN ⟨W.heap.size,0,1,rfl,by omega,by simp,λi hi=>?_⟩;obtain rfl:i=0:=by simpa using hi
 have hZ:=Qf W (T #[L c.1,O I c.2] 49);exact⟨Ja hZ,Ja hZ⟩

def outC(h:Nat×Nat):List aG:=[O aD ((h.1:Nat):Int),O aE ((h.2:Nat):Int)]
def outV(l:List (Nat×Nat)):List aG:=l.flatMap outC
theorem Jc6(l:List (Nat×Nat)):(outV l).length=l.length*2:=by
 induction l with
 | nil=>rfl
 | cons x r ih=>simp only[outV,QG,Qe]at ih ⊢;rw[ih];simp[outC];omega
theorem JmE(l:List (Nat×Nat)):∀u∈outV l,u.oneCell'=true:=by
 intro u hu;simp only[outV,lO,outC]at hu;obtain⟨x,_,hu⟩:=hu;simp only[lF,QD,or_false]at hu
 rcases hu with rfl|rfl<;>rfl
theorem Jhs(l l':List (Nat×Nat)):outV (l++l')=outV l++outV l':=by simp[outV]
theorem Jht(l:List (Nat×Nat)):∀(i:Nat)(h:i<l.length),(outV l)[i*2]? =Z (O aD ((l[i].1:Nat):Int))/\(outV l)[i*2+1]? =Z (O aE ((l[i].2:Nat):Int)):=by
 induction l with
 | nil=>intro i h;simp at h
 | cons x r ih=>
  intro i h
  cases i with
  | zero=>simp[outV,outC]
  | succ i=>
   have e:∀j,(outV (x::r))[(i+1)*2+j]? =(outV r)[i*2+j]? :=by
    intro j;show (outC x++outV r)[(i+1)*2+j]? =_;rw[Qz (by simp[outC];omega)]
    congr 1;simp[outC];omega
   refine⟨?_,?_⟩
   ·have:=e 0;rw[lI,lI]at this;rw[this];simpa using (ih i (by simpa using h)).1
   ·rw[e 1];simpa using (ih i (by simpa using h)).2
theorem Jr.cells{w:aA}{g o:Nat}{l:List (Nat×Nat)}(h:∀i (h:i<l.length),w.cell? ⟨g,o+i*2,Y⟩=Z (O aD ((l[i].1:Nat):Int))/\w.cell? ⟨g,o+i*2+1,Y⟩=Z (O aE ((l[i].2:Nat):Int))):
  ∀j u,(outV l)[j]? =Z u->w.cell? (Addr.add ⟨g,o,Y⟩ j)=Z u:=by
 intro j u hu;have hj:j<l.length*2:=by have:=(Qo.1 hu).1;rw[Jc6]at this;exact this
 obtain⟨e0,e1⟩:=Jht l (j/2) (by omega);obtain⟨f0,f1⟩:=h (j/2) (by omega);rw[Addr.add_lit];obtain hm|hm:j % 2=0\/j % 2=1:=by omega
 ·rw[show j/2*2=j by omega]at e0;rw[show o+j/2*2=o+j by omega]at f0;rw[f0,<-e0,hu]
 ·rw[show j/2*2+1=j by omega]at e1;rw[show o+j/2*2+1=o+j by omega]at f1;rw[f1,<-e1,hu]
def OOwn(base:Nat)(w:aA)(v:aG)(l:List (Nat×Nat)):Prop:=w.ownsRow base 80 2 v l.length (outV l)
theorem OOwn.nil(base:Nat)(w:aA):OOwn base w (R Y 0 0) []:=⟨rfl,aM ⟨rfl,rfl⟩⟩
theorem OOwn.at{base:Nat}{w:aA}{v:aG}{l:List (Nat×Nat)}(h:OOwn base w v l):Jr w.heap.size w v l:=by
 obtain⟨_,⟨rfl,h0⟩|⟨g,cap,cur,rfl,_,hZ,_,_,Hi,kK⟩⟩:=h
 ·exact aM ⟨rfl,QP h0⟩
 ·have H5:=(Jb hZ)
  refine aN ⟨g,0,cap,rfl,H5,H5,λi hi=>?_⟩;obtain⟨e0,e1⟩:=Jht l i hi;have hc:∀j u,(outV l)[j]? =Z u->w.cell? ⟨g,0+j,Y⟩=Z u:=by intro j u hu;rw[<-kK]at hu;have hj:=(Qo.1 hu).1;rw[lJ (by rw[QB]at hj;omega)]at hu;rw[Ja hZ,lH,<-lM];exact hu
  exact⟨hc _ _ e0,hc _ _ e1⟩
theorem OOwn.own{base:Nat}{w:aA}{v:aG}{l:List (Nat×Nat)}(h:OOwn base w v l):∀k,v.ownBlock=Z k->base<=k/\k<w.heap.size:=by
 obtain⟨_,⟨rfl,h0⟩|⟨g,cap,cur,rfl,hb,hZ,_⟩⟩:=h
 ·intro k hk;cases hk
 ·intro k hk;cases hk;exact⟨hb,(Jb hZ)⟩
theorem OOwn.tch{base:Nat}{w w':aA}{v:aG}{l:List (Nat×Nat)}{S:Nat->Prop}(h:OOwn base w v l)(k:M S w w')(hs:∀j,v.ownBlock=Z j->¬S j):OOwn base w' v l:=by
 obtain⟨h1,⟨rfl,h0⟩|⟨g,cap,cur,rfl,hb,hZ,h2⟩⟩:=h
 ·exact⟨h1,aM ⟨rfl,h0⟩⟩
 ·exact⟨h1,aN ⟨g,cap,cur,rfl,hb,(k.block g (Jb hZ) (hs g rfl)).trans hZ,h2⟩⟩
theorem OOwn.shape{base:Nat}{w:aA}{v:aG}{l:List (Nat×Nat)}(h:OOwn base w v l):∃a c,v=R a l.length c:=h.at.shape
theorem OOwn.shape3{base:Nat}{w:aA}{v:aG}{l:List (Nat×Nat)}(h:OOwn base w v l):∃a m c,v=R a m c:=by
 obtain⟨a,c,h⟩:=h.shape;exact⟨a,_,c,h⟩
theorem Jmc:(prog.info? 80).map (λi=>(i.zero,i.size,i.bytes))=Z (Z (aH #[O aD 0,O aE 0]),2,16):=by kernel_rfl
theorem Ja3{base:Nat}{w:aA}{v:aG}{l:List (Nat×Nat)}(h:OOwn base w v l)(x:aG)(B:Nat)(l2:List (Nat×Nat))(hx:Jr B w x l2)(ty:TypeId)(hb:l.length+l2.length<=1000000000)(Ha:base<=w.heap.size):
  ∃v' w',(lP #[22,22] ty #[v,x]).run N w=.ok v' w'/\OOwn base w' v' (l++l2)/\w.grownBy w' v.ownBlock:=by
 obtain⟨i,hi,hp⟩:=lK.1 Jmc;simp only[Qw]at hp;obtain⟨hz,Hi,gJ⟩:=hp
 rcases hx with⟨rfl,rfl⟩|⟨g,o,c,rfl,_,hg,Hg⟩
 ·exact⟨v,w,run_append_owned_none (P:=N) (w:=w) base 22 ty 80 i 2 underlying22 hi v l.length (outV l) h,by rw[QC];exact h,World.grownBy.refl _ _⟩
 ·obtain⟨v',w',hr,h2,h3,h4⟩:=run_append_own (P:=N) w base 22 ty 80 i _ 2 16 underlying22 hi hz Hi gJ rfl (by omega) v l.length (outV l) h ⟨g,o,Y⟩ l2.length c (outV l2) (Jc6 l2) (Jr.cells Hg) (JmE l2) (by simp only[maxLen];omega) (by omega) Ha;exact⟨v',w',hr,by unfold OOwn;rw[Qe,Jhs];exact h2,h3⟩
theorem Jct{base:Nat}{w:aA}{ops:Array Oper}{rest:List Oper}{o:Oper}{a:Act}{Q:Exit->Act->aA->Prop}(jd:o.guard=Y)(s x:Operand)
  (ho:o.op=.call { callee:=.builtin .append,args:= #[s,x],argTypes:= #[22,22] })
  {v:aG} {l:List (Nat×Nat)} (hv:a.eval s=v) (h:OOwn base w v l) (xv:aG) (B:Nat) (l2:List (Nat×Nat)) (hx:a.eval x=xv) (hs:Jr B w xv l2) (hb:l.length+l2.length<=1000000000) (Ha:base<=w.heap.size)
  (hK:∀v' w',OOwn base w' v' (l++l2)->w.grownBy w' v.ownBlock->wpList N ops Q rest (a.put o.dst v') w'):wpList N ops Q (o::rest) a w:=by
 refine wpList_plain jd λK zN=>?_;obtain⟨v',w',Hy,r,r2⟩:=Ja3 h xv B l2 hs o.type hb Ha;unfold Oper.wp;simp[execOp,ho,resolve,invoke,builtin,hv,hx,Hy,Result.andThen];exact zN _ _ (hK v' w' r r2)
theorem Jdl{base:Nat}{ops:Array Oper}{o:Oper}{a:Act}{w:aA}{K:Act->aA->Prop}{Q:Exit->Act->aA->Prop}{E:Prop}
  (jd:o.guard=Y) (s x:Operand) (ho:o.op=.call { callee:=.builtin .append,args:= #[s,x],argTypes:= #[22,22] })
  {v:aG} {l:List (Nat×Nat)} (hv:a.eval s=v) (h:OOwn base w v l) (xv:aG) (B:Nat) (l2:List (Nat×Nat)) (hx:a.eval x=xv) (hs:Jr B w xv l2) (hb:l.length+l2.length<=1000000000) (Ha:base<=w.heap.size)
  (hK:∀v' w',OOwn base w' v' (l++l2)->w.grownBy w' v.ownBlock->K (a.put o.dst v') w'):
  if Region.wanted o (yielded ops a.tmps)=true then Oper.wp N o a w K Q else E:=by
 have hw:Region.wanted o (yielded ops a.tmps)=true:=by simp[Region.wanted,jd]
 rw[if_pos hw];obtain⟨v',w',Hy,r,r2⟩:=Ja3 h xv B l2 hs o.type hb Ha;unfold Oper.wp;simp[execOp,ho,resolve,invoke,builtin,hv,hx,Hy,Result.andThen];exact hK v' w' r r2
theorem JjK(W:aA)(c:Nat×Nat):Jr (W.heap.size+1) (W.alloc (T #[O aD ((c.1:Nat):Int),O aE ((c.2:Nat):Int)] 80)) (R (Z ⟨W.heap.size,0,Y⟩) 1 1) [c]:=by
 refine aN ⟨W.heap.size,0,1,rfl,by omega,by simp,λi hi=>?_⟩;obtain rfl:i=0:=by simpa using hi
 have hZ:=Qf W (T #[O aD ((c.1:Nat):Int),O aE ((c.2:Nat):Int)] 80);exact⟨Ja hZ,Ja hZ⟩

def txC(h:Sl×Sl):List aG:=[R h.1.1 h.1.2.1 h.1.2.2,R h.2.1 h.2.2.1 h.2.2.2]
def txV(l:List (Sl×Sl)):List aG:=l.flatMap txC
theorem JeK(l:List (Sl×Sl)):(txV l).length=l.length*2:=by
 induction l with
 | nil=>rfl
 | cons x r ih=>simp only[txV,QG,Qe]at ih ⊢;rw[ih];simp[txC];omega
theorem JoZ(l:List (Sl×Sl)):∀u∈txV l,u.oneCell'=true:=by
 intro u hu;simp only[txV,lO,txC]at hu;obtain⟨x,_,hu⟩:=hu;simp only[lF,QD,or_false]at hu
 rcases hu with rfl|rfl<;>rfl
theorem Jjl(l l':List (Sl×Sl)):txV (l++l')=txV l++txV l':=by simp[txV]
theorem Jj0(l:List (Sl×Sl)):∀(i:Nat)(h:i<l.length),(txV l)[i*2]? =Z (R l[i].1.1 l[i].1.2.1 l[i].1.2.2)/\(txV l)[i*2+1]? =Z (R l[i].2.1 l[i].2.2.1 l[i].2.2.2):=by
 induction l with
 | nil=>intro i h;simp at h
 | cons x r ih=>
  intro i h
  cases i with
  | zero=>simp[txV,txC]
  | succ i=>
   have e:∀j,(txV (x::r))[(i+1)*2+j]? =(txV r)[i*2+j]? :=by
    intro j;show (txC x++txV r)[(i+1)*2+j]? =_;rw[Qz (by simp[txC];omega)]
    congr 1;simp[txC];omega
   refine⟨?_,?_⟩
   ·have:=e 0;rw[lI,lI]at this;rw[this];simpa using (ih i (by simpa using h)).1
   ·rw[e 1];simpa using (ih i (by simpa using h)).2
theorem Xa.cells{w:aA}{g o:Nat}{l:List (Sl×Sl)}(h:∀i (h:i<l.length),w.cell? ⟨g,o+i*2,Y⟩=Z (R l[i].1.1 l[i].1.2.1 l[i].1.2.2)/\w.cell? ⟨g,o+i*2+1,Y⟩=Z (R l[i].2.1 l[i].2.2.1 l[i].2.2.2)):
  ∀j u,(txV l)[j]? =Z u->w.cell? (Addr.add ⟨g,o,Y⟩ j)=Z u:=by
 intro j u hu;have hj:j<l.length*2:=by have:=(Qo.1 hu).1;rw[JeK]at this;exact this
 obtain⟨e0,e1⟩:=Jj0 l (j/2) (by omega);obtain⟨f0,f1⟩:=h (j/2) (by omega);rw[Addr.add_lit];obtain hm|hm:j % 2=0\/j % 2=1:=by omega
 ·rw[show j/2*2=j by omega]at e0;rw[show o+j/2*2=o+j by omega]at f0;rw[f0,<-e0,hu]
 ·rw[show j/2*2+1=j by omega]at e1;rw[show o+j/2*2+1=o+j by omega]at f1;rw[f1,<-e1,hu]
def TOwn(base:Nat)(w:aA)(v:aG)(l:List (Sl×Sl)):Prop:=w.ownsRow base 98 2 v l.length (txV l)
theorem TOwn.nil(base:Nat)(w:aA):TOwn base w (R Y 0 0) []:=⟨rfl,aM ⟨rfl,rfl⟩⟩
theorem TOwn.at{base:Nat}{w:aA}{v:aG}{l:List (Sl×Sl)}(h:TOwn base w v l):Xa w.heap.size w v l:=by
 obtain⟨_,⟨rfl,h0⟩|⟨g,cap,cur,rfl,_,hZ,_,_,Hi,kK⟩⟩:=h
 ·exact aM ⟨rfl,QP h0⟩
 ·have H5:=(Jb hZ)
  refine aN ⟨g,0,cap,rfl,H5,H5,λi hi=>?_⟩;obtain⟨e0,e1⟩:=Jj0 l i hi;have hc:∀j u,(txV l)[j]? =Z u->w.cell? ⟨g,0+j,Y⟩=Z u:=by intro j u hu;rw[<-kK]at hu;have hj:=(Qo.1 hu).1;rw[lJ (by rw[QB]at hj;omega)]at hu;rw[Ja hZ,lH,<-lM];exact hu
  exact⟨hc _ _ e0,hc _ _ e1⟩
theorem TOwn.own{base:Nat}{w:aA}{v:aG}{l:List (Sl×Sl)}(h:TOwn base w v l):∀k,v.ownBlock=Z k->base<=k/\k<w.heap.size:=by
 obtain⟨_,⟨rfl,h0⟩|⟨g,cap,cur,rfl,hb,hZ,_⟩⟩:=h
 ·intro k hk;cases hk
 ·intro k hk;cases hk;exact⟨hb,(Jb hZ)⟩
theorem TOwn.tch{base:Nat}{w w':aA}{v:aG}{l:List (Sl×Sl)}{S:Nat->Prop}(h:TOwn base w v l)(k:M S w w')(hs:∀j,v.ownBlock=Z j->¬S j):TOwn base w' v l:=by
 obtain⟨h1,⟨rfl,h0⟩|⟨g,cap,cur,rfl,hb,hZ,h2⟩⟩:=h
 ·exact⟨h1,aM ⟨rfl,h0⟩⟩
 ·exact⟨h1,aN ⟨g,cap,cur,rfl,hb,(k.block g (Jb hZ) (hs g rfl)).trans hZ,h2⟩⟩
theorem TOwn.shape{base:Nat}{w:aA}{v:aG}{l:List (Sl×Sl)}(h:TOwn base w v l):∃a c,v=R a l.length c:=h.at.shape
theorem TOwn.shape3{base:Nat}{w:aA}{v:aG}{l:List (Sl×Sl)}(h:TOwn base w v l):∃a m c,v=R a m c:=by
 obtain⟨a,c,h⟩:=h.shape;exact⟨a,_,c,h⟩
theorem Jn6:(prog.info? 98).map (λi=>(i.zero,i.size,i.bytes))=Z (Z (aH #[R Y 0 0,R Y 0 0]),2,48):=by kernel_rfl
theorem Je3{base:Nat}{w:aA}{v:aG}{l:List (Sl×Sl)}(h:TOwn base w v l)(x:aG)(B:Nat)(l2:List (Sl×Sl))(hx:Xa B w x l2)(ty:TypeId)(hb:l.length+l2.length<=1000000000)(Ha:base<=w.heap.size):
  ∃v' w',(lP #[73,73] ty #[v,x]).run N w=.ok v' w'/\TOwn base w' v' (l++l2)/\w.grownBy w' v.ownBlock:=by
 obtain⟨i,hi,hp⟩:=lK.1 Jn6;simp only[Qw]at hp;obtain⟨hz,Hi,gJ⟩:=hp
 rcases hx with⟨rfl,rfl⟩|⟨g,o,c,rfl,_,hg,Hg⟩
 ·exact⟨v,w,run_append_owned_none (P:=N) (w:=w) base 73 ty 98 i 2 underlying73 hi v l.length (txV l) h,by rw[QC];exact h,World.grownBy.refl _ _⟩
 ·obtain⟨v',w',hr,h2,h3,h4⟩:=run_append_own (P:=N) w base 73 ty 98 i _ 2 48 underlying73 hi hz Hi gJ rfl (by omega) v l.length (txV l) h ⟨g,o,Y⟩ l2.length c (txV l2) (JeK l2) (Xa.cells Hg) (JoZ l2) (by simp only[maxLen];omega) (by omega) Ha;exact⟨v',w',hr,by unfold TOwn;rw[Qe,Jjl];exact h2,h3⟩
theorem JcS{base:Nat}{w:aA}{ops:Array Oper}{rest:List Oper}{o:Oper}{a:Act}{Q:Exit->Act->aA->Prop}(jd:o.guard=Y)(s x:Operand)
  (ho:o.op=.call { callee:=.builtin .append,args:= #[s,x],argTypes:= #[73,73] })
  {v:aG} {l:List (Sl×Sl)} (hv:a.eval s=v) (h:TOwn base w v l) (xv:aG) (B:Nat) (l2:List (Sl×Sl)) (hx:a.eval x=xv) (hs:Xa B w xv l2) (hb:l.length+l2.length<=1000000000) (Ha:base<=w.heap.size)
  (hK:∀v' w',TOwn base w' v' (l++l2)->w.grownBy w' v.ownBlock->wpList N ops Q rest (a.put o.dst v') w'):wpList N ops Q (o::rest) a w:=by
 refine wpList_plain jd λK zN=>?_;obtain⟨v',w',Hy,r,r2⟩:=Je3 h xv B l2 hs o.type hb Ha;unfold Oper.wp;simp[execOp,ho,resolve,invoke,builtin,hv,hx,Hy,Result.andThen];exact zN _ _ (hK v' w' r r2)
theorem JpN(W:aA)(c:Sl×Sl):Xa (W.heap.size+1) (W.alloc (T #[R c.1.1 c.1.2.1 c.1.2.2,R c.2.1 c.2.2.1 c.2.2.2] 98)) (R (Z ⟨W.heap.size,0,Y⟩) 1 1) [c]:=by
 refine aN ⟨W.heap.size,0,1,rfl,by omega,by simp,λi hi=>?_⟩;obtain rfl:i=0:=by simpa using hi
 have hZ:=Qf W (T #[R c.1.1 c.1.2.1 c.1.2.2,R c.2.1 c.2.2.1 c.2.2.2] 98);exact⟨Ja hZ,Ja hZ⟩

def Xr:Er->Int
 | .form=>1
 | .tip=>2
 | .input=>3
 | .exist=>4
 | .sum=>5
 | .root=>6
 | .range=>7

def Jlx(w:aA)(v:aG)(ts:List TxL):Prop:=
 ∃l:List (Sl×Sl),Xa w.heap.size w v l/\l.length=ts.length/\∀(j:Nat) x t,l[j]? =Z x->ts[j]? =Z t->JG w.heap.size w (R x.1.1 x.1.2.1 x.1.2.2) t.1/\Jr w.heap.size w (R x.2.1 x.2.2.1 x.2.2.2) t.2
structure Xx(E:Nat->Addr)(base:Nat)(w:aA):Prop where
 env:Env E w
 sent:Sent E w
 vars:18<=base
 rows:∀g∈Ss,(E g).block<base
theorem Xx.tch{E:Nat->Addr}{base:Nat}{S:Nat->Prop}{w w':aA}(h:Xx E base w)(k:M S w w')(hs:∀j,S j->base<=j):Xx E base w':=
 ⟨h.env.tch k (λj hj=>Qm h.vars (hs j hj)),h.sent.tch k (λg hg hj=>by have:=hs _ hj;have:=h.rows g hg;omega),h.vars,h.rows⟩
def ZD(ch:Ch)(h:Int):BA:=if 0<=h then (ch.getD h.toNat (⟨#[]⟩,Y)).1 else ⟨#[]⟩

def XK(id:BA)(outs:List (Nat×Nat))(n:Nat):List H9:=(List.range n).map λ(i:Nat)=>((id,(i:Int)),outs.getD i (0,0))
theorem Jc1(id:BA)(outs:List (Nat×Nat))(n:Nat):XK id outs (n+1)=XK id outs n++[((id,(n:Int)),outs.getD n (0,0))]:=by
 unfold XK;rw[lN,List.map_append];rfl
theorem Jha(id:BA)(outs:List (Nat×Nat))(n:Nat):XX (XK id outs n) (id,(n:Int))=Y:=by
 unfold XX;rw[List.findIdx?_eq_none_iff];intro x hx;unfold XK at hx;rw[QL]at hx;obtain⟨i,hi,rfl⟩:=hx;rw[List.mem_range]at hi;simp only[decide_eq_false_iff_not];intro h;have:=congrArg Prod.snd h;simp only at this;omega
theorem Jbs(id:BA)(outs:List (Nat×Nat)):∀(r:List (Nat×Nat))(n:Nat),outs.drop n=r->n+r.length=outs.length->∀(o:Nat)(b:Bool),∃o' b',ZJ id n r (XK id outs n,o,b)=Z (XK id outs outs.length,o',b'):=by
 intro r
 induction r with
 | nil=>intro n _ hn o b;simp only[Qv,lI]at hn;subst hn;exact⟨o,b,rfl⟩
 | cons x r ih=>
  intro n hd hn o b;simp only[ZJ,Jha];have H5:n<outs.length:=by simp only[Qp]at hn;omega
  have e:=List.drop_eq_getElem_cons H5;rw[hd]at e;simp only[QH]at e;have ex:outs.getD n (0,0)=x:=by simp[List.getD_eq_getElem?_getD,List.getElem?_eq_getElem H5,e.1]
  have:=ih (n+1) e.2.symm (by simp only[Qp]at hn;omega) ((o+x.1) % M64) (b || decide ((o+x.1) % M64<o));rw[Jc1,ex]at this;exact this
theorem Jiw(wj:Nat)(outs:List (Nat×Nat))(ho:∀o∈outs,JC o)(h3:outs.length<=3)(id:BA)(jS:id.size=wj)(st:Option Tr)(h:Jz id 0 outs Y=.ok st):Book wj st (XK id outs outs.length):=by
 have B0:Book wj Y []:=by
  refine⟨?_,?_,?_,?_⟩
  ·intro t ht;cases ht
  ·intro h hh;exact(QD hh).elim
  ·exact List.nodup_nil
  ·intro k o;simp[JX]
 have:=Jcd wj id jS outs ho 0 (by omega) Y [] 0 false B0;obtain⟨o',b',e⟩:=Jbs id outs outs 0 rfl (by omega) 0 false;have e0:XK id outs 0=[]:=rfl;rw[e0]at e;rw[show (0:Nat) % M64=0 from rfl,e]at this;obtain⟨st',e1,B,_⟩:=this;rw[h]at e1
 cases e1
 exact B

theorem XU(n k:Nat)(w:aA)(hk:k<=8):
  aB N 171 #[O aD (n:Int),O I (k:Int)] w λe w'=>e=aC (L ⟨(beL n k k).toArray⟩)/\M D w w':=by
 obtain⟨i0,hi,q9,gQ,jj⟩:=info_parts JbZ;have hki:(k:Int)<=8:=by omega
 go_enter func171,ntmps171;go_wp2;go_loopw [5,6] (λv i wr=>∃j:Nat,j<=k/\i=O I ((k:Int)-1-(j:Int))/\J (Bs w.heap.size wr v (bc (beL n k j)))/\J (M D w wr)) (λ_ i _=>(intOf i+1).toNat)
 case atStart=>exact⟨0,by omega,congrArg (Value.int I) (by omega),Bs.nil _ _,Te _ _⟩
 case round=>
  obtain⟨j,hj,rfl,kU,cr⟩:=hrel
  by_cases ph:j<k
  ·obtain⟨m,tj,jp⟩:∃m:Nat,(k:Int)-1-(j:Int)=(m:Int)/\k-1-j=m:=⟨k-1-j,by omega,rfl⟩
   have HM:J ((k:Int)-1-(j:Int)=(m:Int)/\k-1-j=m):=⟨tj,jp⟩
   have hm7:m<=7:=(by omega);have HJ:J _:=ph;rw[tj];have vQ:I.wrap (8*(m:Int))=8*(m:Int):=Jo _ (by omega) (by omega);have qW:Op.shift .shr aD (n:Int) I (8*(m:Int))=pure (O aD ((n:Int)/2 ^ (8*m))):=by
    rw[shift_shr_u64 _ _ _ (by omega) (by omega)]
    congr 3
   have nz:J ((bc (beL n k j)).length=j):=(by rw[YA,Jf]:(bc (beL n k j)).length=j)
   obtain⟨a0,m0,c0,sg⟩:=kU.shape3;subst sg;go_wp2_with (at_builtin;refine XH rfl _ _ 52 52 5 rfl i0 _ underlying52 hi q9 gQ jj rfl rfl (kU.alloc _) _ 1 [_] rfl (Src.ofSlice _ underlying52 _ 1 1 _ rfl (cell_one_new _ _ _) (by simp[Value.oneCell'])) (by rw[nz.out];omega) (by have:=cr.out.size;simp;omega) ?_;intro v1 w1 (kS:J _) (mw:J _) hmv1;clear hmv1);have e2:[Value.int aE (IntKind.u8.wrap ((n:Int)/2 ^ (8*(m:Int)).toNat))]=bc [lC (n/2 ^ (8*m))]:=(by rw[IntKind.wrap_u8',show (8*(m:Int)).toNat=8*m by omega];simp[bc]);have e3:bc (beL n k (j+1))=bc (beL n k j)++bc [lC (n/2 ^ (8*m))]:=(by rw[<-HM.o.2,<-Jaa];rfl);have ph:=HJ.o;go_roundw
   case rel=>
    refine⟨j+1,by omega,?_,?_,?_⟩
    ·exact congrArg (Value.int I) (by have:=HM.o.1;omega)
    ·rw[e3,<-e2];exact kS
    ·exact Bs.tchOwn (kU.alloc _) mw (Ql _) (cr.trans (Ta D _ _) noE)
   case measure=>simp only[intOf];omega
  ·obtain rfl:j=k:=(by omega);have hneg:¬(0:Int)<=(j:Int)-1-(j:Int):=(by omega);have bi:=Yd (P:=N) (l:=beL n j j) kU 52 9 5 underlying52 underlying5 underlying9;obtain⟨a0,m0,c0,sg⟩:=kU.shape3;subst sg;go_wp2;go_ret;exact⟨rfl,cr⟩
theorem Jb9{a b:BA}(h:a.data.toList=b.data.toList):a=b:=by
 cases a;cases b;simp only at h;rw[Array.toList_inj]at h;rw[h]
theorem Jd9(b:Nat)(w:aA)(k:Nat)(hb:b<256)(hc:w.cell? ⟨k,0,Y⟩=Z (O aE (b:Int))):(convert 52 9 (R (Z ⟨k,0,Y⟩) 1 1)).run N w=.ok (L ⟨#[lC b]⟩) w:=by
 have:=run_convert_bytes_back (P:=N) w 52 9 5 ⟨k,0,Y⟩ 1 [lC b] underlying52 underlying5 underlying9 (λj hj=>by
  obtain rfl:j=0:=by simpa using hj
  rw[Addr.add_lit,lH,hc];simp[Nat.mod_eq_of_lt hb])
 exact this
theorem JpW(b:Nat)(w:aA)(hb:b<256):(convert 52 9 (R (Z ⟨w.heap.size,0,Y⟩) 1 1)).run N (w.alloc (T #[O aE (b:Int)] 5))=.ok (L ⟨#[lC b]⟩) (w.alloc (T #[O aE (b:Int)] 5)):=by
 have:=run_convert_bytes_back (P:=N) (w.alloc (T #[O aE (b:Int)] 5)) 52 9 5 ⟨w.heap.size,0,Y⟩ 1 [lC b] underlying52 underlying5 underlying9 (λj hj=>by
  obtain rfl:j=0:=by simpa using hj
  rw[Addr.add_lit,lH,Ja (Qf _ _)];simp[Nat.mod_eq_of_lt hb])
 exact this
theorem JcM(a o:Nat)(w:aA)(ho:o<256):
  aB N 164 #[aH #[O aD (a:Int),O aE (o:Int)]] w λe w'=>e=aC (L ⟨(outB (a,o)).toArray⟩)/\M D w w':=by
 have HO:J _:=ho;have ku:=λW=>XU a 8 W (by omega);have gJ:=λW=>JpW o W ho;have gW:∀W,(Op.stringOp .add (⟨(beL a 8 8).toArray⟩:BA) ⟨#[lC o]⟩).run N W=.ok (L ⟨(outB (a,o)).toArray⟩) W:=λW=>by
  have:=run_string_add_sum (P:=N) W (⟨(beL a 8 8).toArray⟩:BA) ⟨#[lC o]⟩ (by show (beL a 8 8).toArray.size+1<=_;simp[Jf]);rw[this];exact congrArg (λx=>Result.ok (lE x) W) (Jb9 (by simp[outB,beL]))
 have zJ:=Jd9 o ((w.alloc (T #[O aD (a:Int),O aE (o:Int)] 80)).alloc (T #[O aE (o:Int)] 5)).drew (w.heap.size+1) ho (Ja (heap_alloc2_new _ _ _));have yH:J _:=ku;clear ku ho;go_enter func164,ntmps164;go_wp2;go_region_with (go_at_call 171;refine(yH _).mono ?_;rintro _ w1⟨rfl,H6⟩;have r1:w1.heap[w.heap.size]? =Z (T #[O aD (a:Int),O aE (o:Int)] 80):=(H6.block _ (by first|(simp;done)|(simp;omega)) (λh=>h)).trans (by first|exact Qf _ _|exact heap_alloc2_old _ _ _);have c1:w1.cell? ⟨w.heap.size,1,Y⟩=Z (O aE (o:Int)):=Ja r1;(try (have q1:w1.heap[w.heap.size+1]? =Z (T #[O aE (o:Int)] 5):=(H6.block _ (by simp) (λh=>h)).trans (heap_alloc2_new _ _ _);have q2:=Jd9 o w1 (w.heap.size+1) HO (Ja q1)));have H3:J _:=H6;clear H6 r1)
 all_goals
  go_wp2;go_ret;refine⟨rfl,?_⟩
  first
   | exact(M.box w _).trans H3 noE
   | exact(M.box2 w _ _).trans H3 noE
   | exact((M.box w _).trans H3 noE).trans (Ta D w1 _) noE
theorem Za(c:BA×Int)(w:aA)(h0:0<=c.2)(h3:c.2<256)(hz:c.1.size<=1000000):
  aB N 105 #[aH #[L c.1,O I c.2]] w λe w'=>e=aC (L ⟨(Jc c).toArray⟩)/\M D w w':=by
 obtain⟨s,n⟩:=c;simp only at h0 h3 hz;obtain⟨m,rfl⟩:=Int.eq_ofNat_of_zero_le h0;have hm:m<256:=by omega
 have yq:IntKind.u8.wrap (m:Int)=(m:Int):=by simp[IntKind.wrap,IntKind.bits,IntKind.signed];omega
 have gJ:=Jd9 m ((w.alloc (T #[L s,O I (m:Int)] 49)).alloc (T #[O aE (m:Int)] 5)) (w.heap.size+1) hm (Ja (heap_alloc2_new _ _ _));have gW:∀W,(Op.stringOp .add s ⟨#[lC m]⟩).run N W=.ok (L ⟨(Jc (s,(m:Int))).toArray⟩) W:=λW=>by
  have:=run_string_add_sum (P:=N) W s ⟨#[lC m]⟩ (by show s.size+1<=_;omega);rw[this];have hx:JD (m:Int)=m:=by have:=Zk (m:Int) h0 (by omega);omega
  exact congrArg (λx=>Result.ok (lE x) W) (Jb9 (by simp[Jc,hx,beL]))
 clear h0 h3 hz;go_enter func105,ntmps105;go_wp2;go_ret;exact⟨rfl,(Ta D w _).trans (Ta D _ _) (λ_ h=>aM h)⟩

theorem Jm9(l:List KO)(b:Nat):(side l b 0).length+(side l b 1).length=l.length:=by
 unfold side
 induction l with
 | nil=>rfl
 | cons x r ih=>
  have h2:bt x.1 b=0\/bt x.1 b=1:=by have:=Yv x.1 b;omega
  rcases h2 with h|h
  ·simp[h]at ih ⊢;omega
  ·simp[h]at ih ⊢;omega

def alkB(l:List H9)(b:Nat):Bool:=match l with
 | []=>true
 | h::r=>r.all λx=>bt (Jc x.1) b == bt (Jc h.1) b
def koR(l:List H9):List KO:=l.map λh=>(Jc h.1,h.2)
theorem ZZ(h0:H9)(r:List H9)(b:Nat):alkB (h0::r) b=true↔∀x∈h0::r,bt (Jc x.1) b=bt (Jc h0.1) b:=by
 unfold alkB;simp only[List.all_eq_true,beq_iff_eq,lF,forall_eq_or_imp,true_and]
theorem Jhc(h0:H9)(r:List H9)(b:Nat)(kX:alkB (h0::r) b=false)(yR:∀i,i<b->alkB (h0::r) i=true):Fork (koR (h0::r)) b:=by
 constructor
 ·intro x hx y hy i hi;have h:=(ZZ h0 r i).1 (yR i hi);obtain⟨u,hu,rfl⟩:=QL.1 hx;obtain⟨v,hv,rfl⟩:=QL.1 hy;exact(h u hu).trans (h v hv).symm
 ·apply lG;intro hc;have:alkB (h0::r) b=true:=(ZZ h0 r b).2 λx hx=>by
   apply lG;intro Hd;exact hc ⟨_,QL.2 ⟨x,hx,rfl⟩,_,QL.2 ⟨h0,QN,rfl⟩,Hd⟩
  rw[kX]at this
  cases this
theorem Jl6{wj:Nat}(h0 x:H9)(r:List H9)(Hb:∀h∈h0::x::r,Ji wj h.1)(jK:((h0::x::r).map (·.1)).Nodup):∃b,b<8*(wj+1)/\alkB (h0::x::r) b=false:=by
 have k0:=Hb h0 (by simp);have kx:=Hb x (by simp);have Hd:Jc h0.1 ≠ Jc x.1:=λe=>by
  have:=Zx k0 kx e;simp[this]at jK
 obtain⟨h1,h2,_⟩:=JjD (Jc h0.1) (Jc x.1) (by rw[Xg k0,Xg kx]) Hd;rw[Xg k0]at h1;refine⟨_,h1,?_⟩
 cases ha:alkB (h0::x::r) (fd (Jc h0.1) (Jc x.1)) with
 | false=>rfl
 | true=>exact absurd ((ZZ h0 (x::r) _).1 ha x (by simp)).symm h2
def sidL(l:List H9)(b v:Nat):List H9:=l.filter λh=>bt (Jc h.1) b=v
theorem JdR(l:List H9)(b v:Nat):koR (sidL l b v)=side (koR l) b v:=by
 unfold koR sidL side;rw[List.filter_map];rfl
theorem Jk5(l:List H9)(x:H9)(b v:Nat):sidL (l++[x]) b v=if bt (Jc x.1) b=v then sidL l b v++[x] else sidL l b v:=by
 unfold sidL;rw[List.filter_append]
 by_cases h:bt (Jc x.1) b=v
 ·rw[if_pos h,List.filter_cons_of_pos (by simpa using h)];rfl
 ·rw[if_neg h,List.filter_cons_of_neg (by simpa using h)];simp
theorem JhP(l:List H9)(b:Nat):(sidL l b 0).length+(sidL l b 1).length=l.length:=by
 have:=Jm9 (koR l) b;rw[<-JdR,<-JdR]at this;simpa [koR]using this
theorem JoO(h0:H9)(r:List H9)(b:Nat)(kX:alkB (h0::r) b=false):(sidL (h0::r) b 0).length<(h0::r).length/\(sidL (h0::r) b 1).length<(h0::r).length:=by
 have hl:=JhP (h0::r) b;have hx:∃x∈h0::r,¬bt (Jc x.1) b=bt (Jc h0.1) b:=by
  apply lG;intro hc;have:alkB (h0::r) b=true:=(ZZ h0 r b).2 λx hx=>by
   apply lG;intro Hd;exact hc ⟨x,hx,Hd⟩
  rw[kX]at this
  cases this
 obtain⟨x,hx,Hd⟩:=hx;have b0:=Yv (Jc h0.1) b;have bx:=Yv (Jc x.1) b;have m0:h0∈sidL (h0::r) b (bt (Jc h0.1) b):=QO.2 ⟨QN,by simp⟩;have mx:x∈sidL (h0::r) b (bt (Jc x.1) b):=QO.2 ⟨hx,by simp⟩;have p0:=List.length_pos_of_mem m0;have px:=List.length_pos_of_mem mx;have h2:(bt (Jc h0.1) b=0/\bt (Jc x.1) b=1)\/(bt (Jc h0.1) b=1/\bt (Jc x.1) b=0):=by omega
 rcases h2 with⟨e1,e2⟩|⟨e1,e2⟩
 ·rw[e1]at p0;rw[e2]at px;omega
 ·rw[e1]at p0;rw[e2]at px;omega
theorem Jc2{wj:Nat}(h0 x:H9)(r:List H9)(Hb:∀h∈h0::x::r,Ji wj h.1)(jK:((h0::x::r).map (·.1)).Nodup):∃b,b<8*(wj+1)/\alkB (h0::x::r) b=false/\∀i,i<b->alkB (h0::x::r) i=true:=by
 obtain⟨b,hb,hf⟩:=Jl6 h0 x r Hb jK;generalize 8*(wj+1)=aU at *;generalize h0::x::r=l at *;clear Hb jK
 induction b using Nat.strongRecOn with
 | _ b ih=>
  by_cases xF:∀i,i<b->alkB l i=true
  ·exact⟨b,hb,hf,xF⟩
  ·obtain⟨i,hi⟩:=Classical.not_forall.1 xF;obtain⟨tU,hia⟩:=Classical.not_imp.1 hi;exact ih i tU (by omega) (by simpa using hia)
theorem Jk2{d:List UInt8->BA}(h0:H9)(r:List H9)(b:Nat)(kX:alkB (h0::r) b=false)(yR:∀i,i<b->alkB (h0::r) i=true){s t:List UInt8}(hs:Root d (koR (sidL (h0::r) b 0)) s)(ht:Root d (koR (sidL (h0::r) b 1)) t):
  Root d (koR (h0::r)) (78::(beL b 2 2++((d s).data.toList++(d t).data.toList))):=by
 rw[JdR]at hs ht;exact .two _ b s t (Jhc h0 r b kX yR) hs ht
theorem Jdv{P:H9->Prop}(l:List H9)(b v:Nat)(h:∀x∈l,P x):∀x∈sidL l b v,P x:=λx hx=>h x (QO.1 hx).1
theorem JbK(l:List H9)(b v:Nat)(h:(l.map (·.1)).Nodup):((sidL l b v).map (·.1)).Nodup:=h.sublist (List.Sublist.map _ List.filter_sublist)
theorem Root.rlen{wj:Nat}(hw:wj<=32){l:List H9}(Hb:∀h∈l,Ji wj h.1){s:List UInt8}(h:Root (dgW wj) (koR l) s):s.length<=1000:=by
 have hd:∀y,(dgW wj y).data.toList.length=wj:=λy=>by
  have:=Jj wj hw y;rw[QA];exact this
 generalize hk:koR l=kl at h
 cases h with
 | none=>simp
 | one k o=>
  have hm:(k,o)∈koR l:=by rw[hk];simp
  obtain⟨x,hx,e⟩:=QL.1 hm;have hl:=Xg (Hb x hx);have e1:Jc x.1=k:=congrArg Prod.fst e;rw[e1]at hl;simp only[Qp,Qe,hl,outB,Jf];omega
 | two _ b x y hf _ _=>
  simp only[Qp,Qe,Jf,hd];omega
theorem Jfn{wj:Nat}:∀(l:List H9),(∀h∈l,Ji wj h.1)->(l.map (·.1)).Nodup->((koR l).map (·.1)).Nodup
 | [],_,_=>by simp[koR]
 | x::r,Hb,jK=>by
  simp only[koR,List.map_cons,List.nodup_cons]at jK ⊢;refine⟨λhm=>jK.1 ?_,Jfn r (λh hh=>Hb h (by simp[hh])) jK.2⟩;obtain⟨y,hy,e⟩:=QL.1 hm;obtain⟨z,hz,rfl⟩:=QL.1 hy;have:=Zx (Hb z (by simp[hz])) (Hb x (by simp)) e;exact QL.2 ⟨z,hz,this⟩
theorem JcO{wj:Nat}{d:List UInt8->BA}{st:Option Tr}{l:List H9}(B:Book wj st l){s:List UInt8}(h:Root d (koR l) s):s=Ji5 d st:=by
 refine Root.of_state B.wf (λx=>?_) (Jfn l (λh hh=>(B.ok h hh).1) B.nodup) h;obtain⟨k,o⟩:=x;rw[B.mem k o];unfold koR;rw[QL];constructor
 ·rintro⟨y,hy,e⟩;exact⟨y,hy,congrArg Prod.fst e,congrArg Prod.snd e⟩
 ·rintro⟨y,hy,e1,e2⟩;exact⟨y,hy,by rw[e1,e2]⟩

theorem Yp(x:Int)(hx:U32 x)(n:Nat)(h:n∈[2,6,7,11,13,17,18,19,22,25])(w:aA):
  aB Tryz.prog 252 #[O I x,O I (n:Int)] w λe w'=>e=aC (O I (rr n x))/\M D w w':=by
 have h0:=hx.1;have h1:=hx.2;have hn:1<=n/\n<=31:=by simp only[lF,QD,or_false]at h;omega
 obtain⟨e1,e2,e3,e4⟩:=Jlj hx n hn.1 hn.2;simp only[lF,QD,or_false]at h
 rcases h with rfl|rfl|rfl|rfl|rfl|rfl|rfl|rfl|rfl|rfl
 all_goals simp only[Nat.reduceSub,Int.reducePow]at e1 e2 e3 e4;go_enter Tryz.func252,Tryz.ntmps252;go_wp2_with fail;go_quiet (fail);go_wp2;go_ret;refine⟨?_,Td _ _ _⟩;rw[<-e1];rfl

def padS(l:List UInt8):List UInt8:=l++[128]++List.replicate (zs l.length) 0++beL (l.length*8) 8 8
theorem JnS(n:Nat):be8 n 8=beL n 8 8:=by
 simp[be8,beL,lN]
theorem JbC:∀(n:Nat)(s:S8)(l r:List UInt8),64*n<=l.length->JV n s (l++r)=JV n s l
 | 0,_,_,_,_=>rfl
 | n+1,s,l,r,h=>by
  unfold JV;rw[JbC n s l r (by omega),List.drop_append_of_le_length (by omega),List.take_append_of_le_length (by rw[List.length_drop];omega)]
theorem Jfg(m:Nat)(s:S8)(l r:List UInt8)(h:l.length=64*m):∀n,JV (m+n) s (l++r)=JV n (JV m s l) r
 | 0=>JbC m s l r (by omega)
 | n+1=>by
  show comp (JV (m+n) s (l++r)) (((l++r).drop (64*(m+n))).take 64)=comp (JV n (JV m s l) r) ((r.drop (64*n)).take 64);rw[Jfg m s l r h n,show 64*(m+n)=l.length+64*n by omega,List.drop_append];have e:l.drop (l.length+64*n)=[]:=List.drop_eq_nil_of_le (by omega);rw[e,List.nil_append,Nat.add_sub_cancel_left]
theorem Jhw(l:List UInt8):(padS l).length % 64=0/\(padS l).length<=l.length+73:=by
 unfold padS;simp only[Qe,List.length_singleton,List.length_replicate,Jf,zs];omega
theorem JhO(l:List UInt8):shaS l=JV ((padS l).length/64) H0 (padS l):=by
 obtain⟨q,hq⟩:∃q,q=l.length/64:=⟨_,rfl⟩
 have hl:(l.take (64*q)).length=64*q:=by rw[QB];omega
 have hz:zs (l.drop (64*q)).length=zs l.length:=by rw[List.length_drop];unfold zs;omega
 have e:padS l=l.take (64*q)++padL (l.drop (64*q)) l.length:=by unfold padS padL;rw[JnS,hz];simp only[<-Qs,List.take_append_drop]
 have e2:JV q H0 l=JV q H0 (l.take (64*q)):=by
  have:=JbC q H0 (l.take (64*q)) (l.drop (64*q)) (by omega)
  rwa [List.take_append_drop]at this
 unfold shaS;rw[<-hq,e,e2,<-Jfg q H0 _ _ hl]
 congr 1
 rw[Qe,hl];omega
theorem JlV(s:S8)(b:List UInt8):∀x∈(comp s b).list,U32 x:=by
 intro x hx;unfold comp addS S8.list at hx;simp only[lF,QD,or_false]at hx
 rcases hx with rfl|rfl|rfl|rfl|rfl|rfl|rfl|rfl<;>exact Jdw _
theorem JcD:∀(n:Nat)(s:S8)(l:List UInt8),(∀x∈s.list,U32 x)->∀x∈(JV n s l).list,U32 x
 | 0,_,_,h=>h
 | _+1,_,_,_=>JlV _ _
theorem Jii:∀x∈H0.list,U32 x:=by
 intro x hx;unfold H0 S8.list at hx;simp only[lF,QD,or_false]at hx
 rcases hx with rfl|rfl|rfl|rfl|rfl|rfl|rfl|rfl<;>(unfold U32;omega)
def outL(s:S8)(k:Nat):List UInt8:=(s.list.take k).flatMap λx=>beL x.toNat 4 4
theorem JkO(s:S8)(k:Nat)(hk:k<8):outL s (k+1)=outL s k++beL (s.list.getD k 0).toNat 4 4:=by
 have hl:k<s.list.length:=hk;unfold outL;rw[QR hl,List.flatMap_append];simp[List.getD_eq_getElem?_getD,hl]
theorem JdO{α β:Type}{f g:α->List β}:∀(l:List α),(∀x∈l,f x=g x)->l.flatMap f=l.flatMap g
 | [],_=>rfl
 | x::r,h=>by rw[QG,QG,h x QN,JdO r (λy hy=>h y (QQ _ hy))]
theorem Jl0(l:List UInt8):digL l=outL (shaS l) 8:=by
 have hu:∀x∈(shaS l).list,U32 x:=by rw[JhO];exact JcD _ _ _ Jii
 unfold digL;generalize shaS l=s at *;have hb:∀x∈s.list,((List.range 4).map λj=>lC (JaN x j).toNat)=beL x.toNat 4 4:=λx hx=>by
  obtain⟨a,rfl,ha⟩:=(hu x hx).nat;simp only[JaN,lN,List.range_zero,List.map_cons,List.map_nil,List.nil_append,List.cons_append,beL,Int.toNat_natCast];have hx:∀n:Nat,lC ((a:Int)/2 ^ n % 256).toNat=lC (a/2 ^ n):=λn=>by
   have e:((a:Int)/2 ^ n % 256).toNat=a/2 ^ n % 256:=(by have:((a:Int)/2 ^ n % 256)=((a/2 ^ n % 256:Nat):Int):=(by simp);rw[this,Int.toNat_natCast]);rw[e];apply UInt8.toNat_inj.1;simp
  rw[hx,hx,hx,hx]
 have h8:asB s 32=s.list.flatMap λx=>(List.range 4).map λj=>JaN x j:=by obtain⟨a,b,c,d,e,f,g,h⟩:=s;clear hb hu;simp[asB,S8.list,lN]
 rw[h8,List.map_flatMap];unfold outL;have ht:s.list.take 8=s.list:=QS (by unfold S8.list;exact Ql _);rw[ht];refine JdO _ (λx hx=>?_);rw[<-hb x hx,List.map_map];rfl

theorem JmV(s:BA)(w:aA)(hs:s.size<1152921504606846976):
  aB Tryz.prog 249 #[L s] w λe w'=>e=aC (L ⟨(padS s.data.toList).toArray⟩)/\M D w w':=by
 have bp:J (∀V,_):=λV=>XU (s.size*8) 8 V (by omega);have bi:IntKind.u64.wrap (s.size:Int)=(s.size:Int):=by simp[IntKind.wrap,IntKind.bits,IntKind.signed];omega
 have hmu:IntKind.u64.wrap ((s.size:Int)*8)=((s.size*8:Nat):Int):=by simp[IntKind.wrap,IntKind.bits,IntKind.signed];omega
 have HZ:J (zs s.size=(119-s.size % 64) % 64):=rfl;have hz:zs s.size<=63:=by have:=HZ.o;omega
 have ff:J (padS s.data.toList=s.data.toList++[128]++List.replicate (zs s.size) 0++beL (s.size*8) 8 8):=by show padS _=_;unfold padS;rw[show s.data.toList.length=s.size by simp only[QA];rfl]
 generalize padS s.data.toList=PS at *;go_enter Tryz.func249,Tryz.ntmps249;go_wp2;go_loopw [3] (λv wr=>∃(k:Nat)(q:BA),k<=zs s.size/\v=L q/\q.size=s.size+1+k/\J (q.data.toList=s.data.toList++[128]++List.replicate k 0)/\wr=w) (λv _=>s.size+100-JcP v)
 case atStart=>exact⟨0,_,Nat.zero_le _,rfl,by simp[lD];rfl,by show _=_;simp,rfl⟩
 case round=>
  obtain⟨k,q,hk,rfl,hq,HQ,rfl⟩:=hrel;have HQS:J _:=hq;have hqb:q.size<1152921504606847100:=by omega
  by_cases H5:k<zs s.size
  ·have t1:¬(q.size:Int) % 64=56:=(by have:=HZ.o;omega);go_wp2;go_roundw
   case rel=>
    refine⟨k+1,_,H5,rfl,?_,?_,trivial⟩
    ·have:=HQS.o;rw[lD,this];rfl
    ·show _=_;have:=HQ.o;rw[ByteArray.data_append,Array.toList_append,this,List.replicate_succ'];simp
   case measure=>have:=HQS.o;simp only[JcP,lD];show _-(q.size+1)<_;omega
  ·have t1:(q.size:Int) % 64=56:=(by have:=HZ.o;omega);have HK:J (k=zs s.size):=(by omega:k=zs s.size)
   go_wp2_with fail;refine(bp.o _).mono ?_;rintro _ w1⟨rfl,ht⟩;have HT:J _:=ht;obtain⟨B8,hB8⟩:∃B8:BA,B8=⟨(beL (s.size*8) 8 8).toArray⟩:=⟨_,rfl⟩
   have HB8:J _:=hB8;have tN:B8.size=8:=(by rw[hB8,Jh,Jf]);rw[<-hB8];clear ht hB8;go_wp2;go_ret;refine⟨?_,HT.o⟩;show Ending.returned (lE (q++B8))=_
   congr 2
   refine YK ?_;have:=HQ.o;rw[ByteArray.data_append,Array.toList_append,this,ff.o,HB8.o,HK.o]

def z8(s:S8):Array aG:= #[O I s.a,O I s.b,O I s.c,O I s.d,O I s.e,O I s.f,O I s.g,O I s.h]
structure S8.U(s:S8):Prop where
 a:U32 s.a
 b:U32 s.b
 c:U32 s.c
 d:U32 s.d
 e:U32 s.e
 f:U32 s.f
 g:U32 s.g
 h:U32 s.h
theorem S8.U.of{s:S8}(h:∀x∈s.list,U32 x):s.U:=by
 unfold S8.list at h;exact⟨h _ (by simp),h _ (by simp),h _ (by simp),h _ (by simp),h _ (by simp),h _ (by simp),h _ (by simp),h _ (by simp)⟩
theorem S8.U.rnd{s:S8}(h:s.U)(k w:Int):(rnd k w s).U:=by
 unfold Proofs.YtighkdnooglfjaaGreatDoor.rnd;exact⟨Jdw _,h.a,h.b,h.c,Jdw _,h.e,h.f,h.g⟩
theorem S8.U.to{s:S8}(h:s.U)(ws:List Int):∀k,(toS ws s k).U
 | 0=>h
 | k+1=>(S8.U.to h ws k).rnd _ _
def rs(ws:List Int)(s:S8)(k:Nat):S8:=toS ws s k
theorem S8.U.rs{s:S8}(h:s.U)(ws:List Int)(k:Nat):(Proofs.YtighkdnooglfjaaGreatDoor.rs ws s k).U:=S8.U.to h ws k
def bigA(x:Int):Int:=bits .xor aF (bits .xor aF (rr 2 x) (rr 13 x)) (rr 22 x)
def bigE(x:Int):Int:=bits .xor aF (bits .xor aF (rr 6 x) (rr 11 x)) (rr 25 x)
def cho(s:S8):Int:=bits .xor aF (bits .and aF s.e s.f) (bits .and aF (4294967295-s.e) s.g)
def tR(k w:Int)(s:S8):Int:=(s.h+bigE s.e+cho s+k+w) % 4294967296
theorem JoJ(k w:Int){s:S8}(h:s.U):rnd k w s=⟨(tR k w s+bigA s.a+maj s) % 4294967296,s.a,s.b,s.c,(s.d+tR k w s) % 4294967296,s.e,s.f,s.g⟩:=by
 have e1:t1 k w s=s.h+bigE s.e+cho s+k+w:=by unfold t1 bigE cho;rw[Joz h.e]
 unfold rnd;rw[e1];unfold tR;have e2:bits .xor aF (bits .xor aF (rr 2 s.a) (rr 13 s.a)) (rr 22 s.a)=bigA s.a:=rfl;rw[e2];generalize s.h+bigE s.e+cho s+k+w=t;generalize bigA s.a=A;generalize maj s=m
 congr 1
 omega
theorem Jpm(i:Nat):U32 (Ks.getD i 0):=by
 by_cases h:i<64
 ·have:∀j:Fin 64,0<=Ks.getD j.1 0/\Ks.getD j.1 0<4294967296:=by decide
  exact this ⟨i,h⟩
 ·rw[Qn,List.getElem?_eq_none (by show 64<=i;omega)];exact⟨by decide,by decide⟩
