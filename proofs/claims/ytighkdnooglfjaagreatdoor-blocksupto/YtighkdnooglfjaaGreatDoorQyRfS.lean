import Derived.Test.YtighkdnooglfjaaGreatDoorQyChQ
import Derived.Test.YtighkdnooglfjaaGreatDoorQyVfA
open Go renaming Calls->aB,Value->aG,World->aA
open Go.Ending renaming returned->aC,returned->lf
open Go.IntKind renaming i64->I,u64->aD,signed->lH,wrap->lJ,bits->lK,u64->lO
open Go.Obj renaming cells->T
open Go.Proofs.Tryz renaming prog->N
open Go.RowKit renaming Hid->J
open Go.Value renaming agg->aH,bool->aL,iface->aJ,int->O,nilIface->aK,pointer->X,slice->R,string->L,tuple->aI,slice->lS
open Option renaming none->Y,some->Z
open Or renaming inl->aM,inr->aN
open Go.Act renaming put->lD
open Array renaming toList_extract->lI,toArray_toList->lN
open Bool renaming and_eq_true->l9
open ByteArray renaming size_append->lC,data_extract->lF,size_extract->lX
open Int renaming toNat_natCast->l8
open List renaming extract_eq_take_drop->lE,length_drop->lG,getElem?_map->lM,getElem?_cons_zero->lP,mem_cons->lR,dropLast_cons_cons->lT,dropLast_singleton->lU,getLast_cons_cons->lV,getLast_singleton->lW,getElem?_eq_none->lY,getElem_map->lZ,getElem?_range->l6,all_eq_true->ld
open Nat renaming sub_self->l5
open UInt8 renaming toNat_lt->lQ
set_option maxRecDepth 100000
set_option maxHeartbeats 4000000
namespace Go.Proofs.YtighkdnooglfjaaGreatDoor
open Go.Proofs.Tryz
open Go.RowKit

variable {a:Act}{ops:Array Oper}{b:BA}{ch:Ch}{Q:Exit->Act->aA->Prop}{l:List Int}{lv:List Lv}{ts:List TxL}{d s:List UInt8}{B b' base fl g i rb wj:Nat}{G:Nat->Prop}{o:Oper}{p:PS}{t:TxL}{α β:Type}{v v2 v3 vL:aG}{w w' w3:aA}
theorem Jhk{h:HdL}(k:HdOk wj h):(Ht h).length=4+3*wj:=by
 unfold Ht;simp only[Qe,Jf,QA];have h1:h.2.1.data.size=wj:=k.a;have h2:h.2.2.1.data.size=wj:=k.b;have h3:h.2.2.2.data.size=wj:=k.c;omega
theorem JhM(h:RfAt wj base w rb G ch vL lv b)(hl:ch.length<=1000000000):
  aB N 118 #[X (Z ⟨rb,0,Y⟩)] w λe w'=>e=aC (O I ((ch.length:Int)-1))/\M D w w':=by
 have Hl:lv ≠ []:=λe=>by have:=h.len;rw[e]at this;simp at this;omega
 obtain⟨g,cap,hv,hg,hc⟩:=h.lvs.at Hl;rw[h.len.1]at hv;subst hv;obtain⟨-,q1⟩:=rows h.row;have h1:=h.len.2;have Hn:I.wrap ((ch.length:Int)-1)=(ch.length:Int)-1:=w63 _ (by omega) (by omega);go_enter func118,ntmps118;go_wp2;go_ret;exact⟨rfl,Te _ _⟩
theorem Jcb(hw:wj<=32)(h:RfAt wj base w rb G ch vL lv b)(hl:ch.length<=1000000000)(i:Nat)(c:BA×Option Tr)(hi:ch[i]? =Z c):
  aB N 183 #[X (Z ⟨rb,0,Y⟩),O I (i:Int)] w λe w'=>e=aC (L c.1)/\M D w w':=by
 have xY:=(Qo.1 hi).1;have Hl:lv ≠ []:=λe=>by have:=h.len;rw[e]at this;simp at this;omega
 obtain⟨g,cap,hv,hg,hc⟩:=h.lvs.at Hl;obtain⟨q0,q1,q2,q3⟩:=hc i (by rw[h.len.1];exact xY);obtain⟨Hg,(HH:J _)⟩:=h.hdr i _ c (Qd (by rw[h.len.1];exact xY)) hi;rw[h.len.1]at hv;subst hv;obtain⟨-,p1⟩:=rows h.row;generalize lv[i]'(by rw[h.len.1];exact xY)=x at *;obtain⟨⟨xa,xb,xc⟩,xs⟩:=x;have Hq:=Jhk Hg;have s1:xa.data.toList.length=wj:=by rw[QA];exact Hg.a
 have s2:xb.data.toList.length=wj:=by rw[QA];exact Hg.b
 have s3:xc.data.toList.length=wj:=by rw[QA];exact Hg.c
 have yw:J (∀V,_):=λV=>XU i 4 V (by omega);have zh:lO.wrap (i:Int)=(i:Int):=by simp[lJ,lK,lH];omega
 have a1:=JO (Hf i 4 4) xa.data.toList (by rw[Jf];omega);have a2:=JO (Hf i 4 4++xa.data.toList) xb.data.toList (by simp only[Qe,Jf];omega);have a3:=JO (Hf i 4 4++xa.data.toList++xb.data.toList) xc.data.toList (by simp only[Qe,Jf];omega);have HX:J ((⟨(Hf i 4 4++xa.data.toList++xb.data.toList++xc.data.toList).toArray⟩:BA)=c.1):=by show _=c.1;rw[HH.o];simp[Ht,lvH]
 simp only[lN]at a1 a2 a3;have e1:∀y:BA,(⟨y.data⟩:BA)=y:=λy=>rfl;rw[e1]at a1 a2 a3;generalize (⟨(Hf i 4 4++xa.data.toList++xb.data.toList++xc.data.toList).toArray⟩:BA)=X3 at *;generalize (⟨(Hf i 4 4++xa.data.toList++xb.data.toList).toArray⟩:BA)=X2 at *;generalize (⟨(Hf i 4 4++xa.data.toList).toArray⟩:BA)=X1 at *;generalize (⟨(Hf i 4 4).toArray⟩:BA)=X0 at *;have hii:(i:Int)<(ch.length:Int):=by omega
 simp only at q0 q1 q2 q3;go_enter func183,ntmps183;go_wp2_with fail;have kN:J (∀V,M D (w.alloc (T #[L xa,L xb,L xc,R xs.1 xs.2.1 xs.2.2] 205)) V->V.cell? ⟨w.heap.size,0,Y⟩=Z (L xa)/\V.cell? ⟨w.heap.size,1,Y⟩=Z (L xb)/\V.cell? ⟨w.heap.size,2,Y⟩=Z (L xc)):=λV hV=>by
  have hr:=(hV.block _ (by simp) (λh=>h)).trans (Qf w (T #[L xa,L xb,L xc,R xs.1 xs.2.1 xs.2.2] 205));exact⟨Ja hr,Ja hr,Ja hr⟩
 have cD:J (M D w (w.alloc (T #[L xa,L xb,L xc,R xs.1 xs.2.1 xs.2.2] 205))):=Ta _ _ _;obtain⟨wA,jC⟩:∃wA,wA=w.alloc (T #[L xa,L xb,L xc,R xs.1 xs.2.1 xs.2.2] 205):=⟨_,rfl⟩
 rw[<-jC]at kN cD;rw[<-jC];clear jC q0 q1 q2 q3 p1;obtain⟨z0,z1,z2⟩:=kN wA (Te _ _);go_region_held3 (λV=>V.cell? ⟨w.heap.size,0,Y⟩=Z (L xa)/\V.cell? ⟨w.heap.size,1,Y⟩=Z (L xb)/\V.cell? ⟨w.heap.size,2,Y⟩=Z (L xc)) (go_keep) ((go_at_call 171;refine(yw _).mono ?_;rintro _ w1⟨rfl,H9⟩;have H5:J _:=(Td D wA 1).trans H9 (λ_ h=>aM h);obtain⟨y0,y1,y2⟩:=kN w1 H5.o;clear H9))
 all_goals go_wp2;go_ret;exact⟨by rw[<-HX.o];rfl,cD.trans H5 noE⟩
theorem r_id(hD:DgC)(Hn:1<=wj)(hw:wj<=32)(h:RfAt wj base w rb G ch vL lv b)(hl:ch.length<=1000000000)(i:Nat)(c:BA×Option Tr)(hi:ch[i]? =Z c):
  aB N 172 #[X (Z ⟨rb,0,Y⟩),O I (i:Int)] w λe w'=>e=aC (L (H3 wj (72::c.1.data.toList)))/\M D w w':=by
 have xY:i<lv.length:=by rw[h.len.1];exact(Qo.1 hi).1
 obtain⟨Hg,hh⟩:=h.hdr i _ c (Qd xY) hi;have Hq:=Jhk Hg;have tX:c.1.data.toList.length=4+3*wj:=by rw[hh];simpa using Hq
 have HHT:J (∀V,M D w V->_):=λV hV=>Jcb hw (h.tch hV (λ_ e=>e.elim)) hl i c hi;have HP:J (∀V,M D w V->V.cell? ⟨rb,0,Y⟩=Z (O I (wj:Int))):=λV hV=>Ja (h.tch hV (λ_ e=>e.elim)).row;have a1:=JO [72] c.1.data.toList (by rw[tX];simp;omega);simp only[lN]at a1;have e1:∀y:BA,(⟨y.data⟩:BA)=y:=λy=>rfl;rw[e1]at a1;have a1':∀W,(Op.stringOp .add (⟨#[72]⟩:BA) c.1).run N W=.ok (L ⟨(72::c.1.data.toList).toArray⟩) W:=a1;have jR:J (∀V,_):=λV=>hD wj ⟨(72::c.1.data.toList).toArray⟩ V Hn hw (by rw[Ji,Qp,tX];omega);obtain⟨aV,hDD⟩:∃aV,aV=H3 wj (72::c.1.data.toList):=⟨_,rfl⟩
 rw[<-hDD]at jR;rw[<-hDD];clear hDD;generalize (⟨(72::c.1.data.toList).toArray⟩:BA)=aX at *;have z0:=HP w (Te _ _);clear h Hg hh Hq tX a1 e1;generalize c.1=c1 at *;go_enter func172,ntmps172;go_wp2_with fail;go_region_held3 (λV=>V.cell? ⟨rb,0,Y⟩=Z (O I (wj:Int))) (go_keep) ((first|(go_at_call 183;refine(HHT _ (Td _ _ 1)).mono ?_;rintro _ w1⟨rfl,H9⟩;have H5:J _:=(Td D w 1).trans H9 (λ_ h=>aM h);have y0:=HP w1 H5.o;clear H9)|(go_at_call 103;refine(jR _).mono ?_;rintro _ w2⟨rfl,Ha⟩;have H6:J _:=H5.trans Ha (λ_ h=>aM h);have x0:=HP w2 H6.o;clear Ha)))
 all_goals go_wp2;go_ret;exact⟨rfl,H6⟩
theorem JhI(hw:wj<=32)(h:RfAt wj base w rb G ch vL lv b)(hl:ch.length<=1000000000)(n:Int)(xw: -9223372036854775808<=n)(jx:n<9223372036854775808):
  aB N 119 #[X (Z ⟨rb,0,Y⟩),O I n] w λe w'=>e=aC (aI #[L (ZF ch n),O I (if 0<=n/\n<(ch.length:Int) then 0 else 7)])/\M D w w':=by
 have vu:J (∀V,M D w V->_):=λV hV=>JhM (h.tch hV (λ_ e=>e.elim)) hl;have h1:=h.len.2
 by_cases hneg:n<0
 ·have HX:J (ZF ch n=⟨#[]⟩/\(if 0<=n/\n<(ch.length:Int) then (0:Int) else 7)=7):=⟨by unfold ZF;rw[if_neg (by omega)],if_neg (by omega)⟩
  go_enter func119,ntmps119;go_wp2;go_ret2;refine⟨?_,Te _ _⟩
  first|rw[HX.o.1,HX.o.2]|rw[HX.o.1]
  rfl
 ·by_cases hgt:(ch.length:Int)-1<n
  ·have HX:J (ZF ch n=⟨#[]⟩/\(if 0<=n/\n<(ch.length:Int) then (0:Int) else 7)=7):=by
    refine⟨?_,if_neg (by omega)⟩;unfold ZF;rw[if_pos (by omega),Qn,lY (by omega)];rfl
   go_enter func119,ntmps119;go_wp2_with (go_at_call 118;refine(vu _ (Te _ _)).mono ?_;rintro _ w1⟨rfl,(H5:J _)⟩);go_ret2;refine⟨?_,H5⟩
   first|rw[HX.o.1,HX.o.2]|rw[HX.o.1]
   rfl
  ·obtain⟨i,rfl⟩:∃i:Nat,n=(i:Int):=⟨n.toNat,by omega⟩
   have hic:i<ch.length:=(by omega);have hi:=Qd hic;have HHT:J (∀V,M D w V->_):=λV hV=>Jcb hw (h.tch hV (λ_ e=>e.elim)) hl i ch[i] hi;have HX:J (ZF ch (i:Int)=ch[i].1/\(if 0<=(i:Int)/\(i:Int)<(ch.length:Int) then (0:Int) else 7)=0):=(by refine⟨?_,if_pos (by omega)⟩;unfold ZF;rw[if_pos (by omega),l8,Qn,hi];rfl);generalize ch[i].1=c1 at *;clear h xw jx hi;go_enter func119,ntmps119;go_wp2_with (first|(go_at_call 118;refine(vu _ (Te _ _)).mono ?_;rintro _ w1⟨rfl,(H5:J _)⟩)|(go_at_call 183;refine(HHT _ H5).mono ?_;rintro _ w2⟨rfl,Ha⟩;have H6:J _:=H5.trans Ha (λ_ h=>aM h);clear Ha));go_ret2;refine⟨?_,H6⟩
   first|rw[HX.o.1,HX.o.2]|rw[HX.o.1]
   rfl

theorem Jmd{n:Nat}(h:n<=32)(l:List UInt8):(H3 n l).data.toList.length=n:=by rw[QA];exact Jk n h l

theorem Jna(hD:DgC)(k c:List UInt8)(hk:k.length=1)(hc:c.length<=100000)(w:aA):
  aB N 169 #[L ⟨k.toArray⟩,L ⟨c.toArray⟩] w λe w'=>e=aC (L ⟨(ke k c).toArray⟩)/\M D w w':=by
 have yw:J (∀V,_):=λV=>XU c.length 2 V (by omega);have zh:lO.wrap (c.length:Int)=(c.length:Int):=by simp[lJ,lK,lH];omega
 have Hp:=Ji c;have a1:=JO k (Hf c.length 2 2) (by rw[Jf];omega);have a2:=JO (k++Hf c.length 2 2) c (by rw[Qe,Jf];omega);have e1:k++Hf c.length 2 2++c=gI k c:=by unfold gI;simp
 rw[e1]at a2;have hra:(gI k c).length=3+c.length:=by rw[<-e1];simp[Jf];omega
 obtain⟨aV,dH,hDs⟩:∃aV:BA,H3 4 (gI k c)=aV/\aV.data.toList.length=4:=⟨_,rfl,Jmd (by omega) _⟩
 have a3:=JO (gI k c) aV.data.toList (by omega);simp only[lN]at a3;have e2:∀y:BA,(⟨y.data⟩:BA)=y:=λy=>rfl;rw[e2]at a3;have jR:J (∀V,aB N 103 #[O I 4,L ⟨(gI k c).toArray⟩] V λe w'=>e=aC (L aV)/\M D V w'):=λV=>by
  have:=hD 4 ⟨(gI k c).toArray⟩ V (by omega) (by omega) (by rw[Ji];omega);rw[show (⟨(gI k c).toArray⟩:BA).data.toList=gI k c from rfl,dH]at this;exact this
 have HX:J ((⟨(gI k c++aV.data.toList).toArray⟩:BA)=⟨(ke k c).toArray⟩):=by show _=_;unfold ke;rw[dH]
 generalize (⟨(gI k c++aV.data.toList).toArray⟩:BA)=X3 at *;generalize (⟨(gI k c).toArray⟩:BA)=X2 at *;generalize (⟨(k++Hf c.length 2 2).toArray⟩:BA)=X1 at *;generalize (⟨(Hf c.length 2 2).toArray⟩:BA)=X0 at *;generalize (⟨c.toArray⟩:BA)=cb at *;generalize (⟨k.toArray⟩:BA)=kb at *;go_enter func169,ntmps169;go_wp2_with (first|(go_at_call 171;refine(yw _).mono ?_;rintro _ w1⟨rfl,(H5:J _)⟩)|(go_at_call 103;refine(jR _).mono ?_;rintro _ w2⟨rfl,Ha⟩;have H6:J _:=H5.trans Ha (λ_ h=>aM h)));go_ret;exact⟨by rw[<-HX.o];rfl,H6⟩
theorem Jej(k c:List UInt8)(hk:k.length=1):(ke k c).length=7+c.length:=by
 unfold ke;obtain⟨aV,dH,hDs⟩:∃aV:BA,H3 4 (gI k c)=aV/\aV.data.toList.length=4:=⟨_,rfl,Jmd (by omega) _⟩
 rw[dH,Qe,hDs];unfold gI;rw[Qe,Qe,Jf];omega
theorem Jj1(hD:DgC)(k c:List UInt8)(hk:k.length=1)(hc:c.length<=100000)(w:aA)(rb:Nat)(x y z:aG)(b:BA)(hb:b.size<=1100000000)(hZ:w.heap[rb]? =Z (T #[x,y,z,L b] 208)):
  aB N 107 #[X (Z ⟨rb,0,Y⟩),L ⟨k.toArray⟩,L ⟨c.toArray⟩] w λe w'=>e=aC (aI #[])/\M (λj=>j=rb) w w'/\w'.heap[rb]? =Z (T #[x,y,z,L (b++⟨(ke k c).toArray⟩)] 208):=by
 have xW:J (∀V,_):=λV=>Jna hD k c hk hc V;have hl:=Jej k c hk;have jL:∀W,_:=λW=>run_string_add_sum (P:=N) W b _ (by
  have h2:(⟨(ke k c).toArray⟩:BA).size=7+c.length:=by rw[Ji,hl]
  rw[h2];omega)
 have pL:J _:=hZ;have HV:J (∀V,M D w V->_):=λV hV=>(hV.block _ (Jb pL) (λh=>h)).trans pL.o;obtain⟨-, -, -,q3⟩:=rows hZ;generalize (⟨(ke k c).toArray⟩:BA)=aW at *;generalize (⟨c.toArray⟩:BA)=cb at *;generalize (⟨k.toArray⟩:BA)=kb at *;generalize hBR:b++aW=BR at *;go_enter func107,ntmps107;go_wp2_with fail;refine Xm (S:=λV=>V.cell? ⟨rb,3,Y⟩=Z (L b)/\J (M D w V)) 20 (by simp) (by kernel_rfl) (by kernel_rfl) ⟨q3,Td _ _ 1⟩ ?_;intro hHeld l o hl ho;simp only[lT,lU]at hl;simp only[lV,lW]at ho;subst hl;subst ho;simp only[Qp,Qv,Nat.reduceAdd];refine Ja8 (i:=0) (v:=?vc0) rfl (by kernel_rfl) (by kernel_rfl) (by kernel_rfl) (λ_ _ _ h=>h) rfl ?hc0 (by assumption) ?rc0
 case hc0=>(intro W yD;(try dsimp only at yD);go_simp;(try with_reducible rfl))
 simp only[lD,Qa,Qb,Qc];refine Ja8 (i:=1) (v:=?vc1) rfl (by kernel_rfl) (by kernel_rfl) (by kernel_rfl) (λ_ _ _ h=>h) rfl ?hc1 (by assumption) ?rc1
 case hc1=>(intro W yD;(try dsimp only at yD);go_simp;(try with_reducible rfl))
 simp only[lD,Qa,Qb,Qc];refine Ja8 (i:=2) (v:=?vc2) rfl (by kernel_rfl) (by kernel_rfl) (by kernel_rfl) (λ_ _ _ h=>h) rfl ?hc2 (by assumption) ?rc2
 case hc2=>(intro W yD;(try dsimp only at yD);go_simp;(try with_reducible rfl))
 simp only[lD,Qa,Qb,Qc];refine Ja8 (i:=3) (v:=?vc3) rfl (by kernel_rfl) (by kernel_rfl) (by kernel_rfl) (λ_ _ _ h=>h) rfl ?hc3 (by assumption) ?rc3
 case hc3=>(intro W yD;(try dsimp only at yD);go_simp;(try with_reducible rfl))
 simp only[lD,Qa,Qb,Qc];refine Ja8 (i:=4) (v:=?vc4) rfl (by kernel_rfl) (by kernel_rfl) (by kernel_rfl) (λ_ _ _ h=>h) rfl ?hc4 (by assumption) ?rc4
 case hc4=>(intro W yD;(try dsimp only at yD);go_simp;(try with_reducible rfl))
 simp only[lD,Qa,Qb,Qc];refine Ja8 (i:=5) (v:=?vc5) rfl (by kernel_rfl) (by kernel_rfl) (by kernel_rfl) (λ_ _ _ h=>h) rfl ?hc5 (by assumption) ?rc5
 case hc5=>(intro W yD;(try dsimp only at yD);go_simp;(try with_reducible rfl))
 simp only[lD,Qa,Qb,Qc];refine Ja8 (i:=6) (v:=?vc6) rfl (by kernel_rfl) (by kernel_rfl) (by kernel_rfl) (λ_ _ _ h=>h) rfl ?hc6 (by assumption) ?rc6
 case hc6=>(intro W yD;(try dsimp only at yD);go_simp;(try with_reducible rfl))
 simp only[lD,Qa,Qb,Qc];refine JaK (i:=7) rfl (by kernel_rfl) (λK hK=>?_);go_simp;go_at_call 169;refine(xW _).mono ?_;rintro _ w1⟨rfl,H9⟩;have H5:J (M D w w1):=(hHeld.2.out.trans H9 (λ_ h=>aM h));have kK:=HV w1 H5.o;have q1:w1.cell? ⟨rb,3,Y⟩=Z (L b):=Ja kK;have z1:w1.frozen? ⟨rb,3,Y⟩=false:=(by simp[World.frozen?,kK]);have gF:J (w1.setCell ⟨rb,3,Y⟩ (L BR)=w1.setRow rb #[x,y,z,L BR]):=Qj w1 rb 3 _ _ _ _ kK;have qR:J (w1.heap[rb]? =_):=kK;refine hK _ _ ⟨q1,H5⟩ (λ_=>?_)
 try simp only[lD,Qa,Qb,Qc]
 refine Ja8 (i:=8) (v:=?vc8) rfl (by kernel_rfl) (by kernel_rfl) (by kernel_rfl) (λ_ _ _ h=>h) rfl ?hc8 (by assumption) ?rc8
 case hc8=>(intro W yD;(try dsimp only at yD);go_simp;(try with_reducible rfl))
 simp only[lD,Qa,Qb,Qc];refine Ja8 (i:=9) (v:=?vc9) rfl (by kernel_rfl) (by kernel_rfl) (by kernel_rfl) (λ_ _ _ h=>h) rfl ?hc9 (by assumption) ?rc9
 case hc9=>(intro W yD;(try dsimp only at yD);go_simp;(try with_reducible rfl))
 simp only[lD,Qa,Qb,Qc];refine Ja8 (i:=10) (v:=?vc10) rfl (by kernel_rfl) (by kernel_rfl) (by kernel_rfl) (λ_ _ _ h=>h) rfl ?hc10 (by assumption) ?rc10
 case hc10=>(intro W yD;(try dsimp only at yD);go_simp;(try with_reducible rfl))
 simp only[lD,Qa,Qb,Qc];refine wpAnyH_done (by kernel_rfl) ?_ _;show wpList _ _ _ [_] _ _;go_wp2;refine bodyPost_end (v:=aI #[]) (results_none results107 _ _ _) rfl ?_;refine⟨rfl,?_,?_⟩
 ·rw[gF.o];exact(H5.mono noE).trans (Ts _ _ _) (λ_ h=>aM h)
 ·rw[gF.o];exact Qi _ _ _ _ _ _ qR.o

def RLv(wj:Nat)(ch:Ch)(ts:List TxL)(G:Nat->Prop)(w:aA)(e:Ending)(w':aA):Prop:=
 M D w w'/\match JH (H3 wj) ch.last.2 ts with
 | .error er=>e=aC (aI #[aH #[L ⟨#[]⟩,L ⟨#[]⟩,L ⟨#[]⟩,R Y 0 0],O I (Xr er)])
 | .ok st=>∃(s:Sl)(l:List Hd),e=aC (aI #[aH #[L (H3 wj (72::ch.last.1.data.toList)),L (H3 wj (66::JL ts)),L (Xh (H3 wj) st),R s.1 s.2.1 s.2.2],O I 0])/\RhAt w' (R s.1 s.2.1 s.2.2) l/\Book wj st l/\l.length<=9*(ch.length+1)/\∀j,(lS s.1 s.2.1 s.2.2).ownBlock=Z j->G j\/w.heap.size<=j
theorem JmJ{a b c d:aG}{aY:TypeId}(h:w.heap[g]? =Z (T #[a,b,c,d] aY))(x0 x1 x2 x3:aG):
  ((((w.setCell ⟨g,0,Y⟩ x0).setCell ⟨g,1,Y⟩ x1).setCell ⟨g,2,Y⟩ x2).setCell ⟨g,3,Y⟩ x3).heap[g]? =Z (T #[x0,x1,x2,x3] aY)/\M (λx=>x=g) w ((((w.setCell ⟨g,0,Y⟩ x0).setCell ⟨g,1,Y⟩ x1).setCell ⟨g,2,Y⟩ x2).setCell ⟨g,3,Y⟩ x3):=by
 have h0:=Qi w g _ #[x0,b,c,d] aY _ h;have e0:w.setCell ⟨g,0,Y⟩ x0=w.setRow g #[x0,b,c,d]:=Qj w g 0 _ _ _ _ h;rw[<-e0]at h0;have t0:M (λx=>x=g) w (w.setCell ⟨g,0,Y⟩ x0):=by rw[e0];exact Ts _ _ _
 generalize w.setCell ⟨g,0,Y⟩ x0=w0 at *;have h1:=Qi w0 g _ #[x0,x1,c,d] aY _ h0;have e1:w0.setCell ⟨g,1,Y⟩ x1=w0.setRow g #[x0,x1,c,d]:=Qj w0 g 1 _ _ _ _ h0;rw[<-e1]at h1;have t1:M (λx=>x=g) w (w0.setCell ⟨g,1,Y⟩ x1):=by rw[e1];exact t0.trans (Ts _ _ _) (λ_ h=>aM h)
 generalize w0.setCell ⟨g,1,Y⟩ x1=w1 at *;have h2:=Qi w1 g _ #[x0,x1,x2,d] aY _ h1;have e2:w1.setCell ⟨g,2,Y⟩ x2=w1.setRow g #[x0,x1,x2,d]:=Qj w1 g 2 _ _ _ _ h1;rw[<-e2]at h2;have t2:M (λx=>x=g) w (w1.setCell ⟨g,2,Y⟩ x2):=by rw[e2];exact t1.trans (Ts _ _ _) (λ_ h=>aM h)
 generalize w1.setCell ⟨g,2,Y⟩ x2=w2 at *;have h3:=Qi w2 g _ #[x0,x1,x2,x3] aY _ h2;have e3:w2.setCell ⟨g,3,Y⟩ x3=w2.setRow g #[x0,x1,x2,x3]:=Qj w2 g 3 _ _ _ _ h2;rw[<-e3]at h3;exact⟨h3,by rw[e3];exact t2.trans (Ts _ _ _) (λ_ h=>aM h)⟩
theorem Jhq(ch:Ch)(h:1<=ch.length):ch[ch.length-1]? =Z ch.last:=by
 unfold Ch.last;rw[List.getLastD_eq_getLast?,List.getLast?_eq_getElem?,Qd (by omega)];rfl
theorem Jfb(wj:Nat)(hw:wj<=32)(ts:List TxL)(h:∀t∈ts,TxOk wj t)(h3:ts.length<=3):(JL ts).length<=601:=by
 have:=Jcz wj hw ts h ts.length;rw[Jcy]at this;omega
theorem Jj0(hD:DgC)(Hn:1<=wj)(hw:wj<=32)(h:RfAt wj base w rb G ch vL lv b)(hl:ch.length<=10000000)(B:Nat)(v:aG)(ts:List TxL)(sl:List (Sl×Sl))(h3:ts.length<=3)(ho:∀t∈ts,TxOk wj t)(hv:TxsR B w v sl)(hs:TxIs B w ts sl):
  aB N 173 #[X (Z ⟨rb,0,Y⟩),v] w (RLv wj ch ts G w):=by
 have h1:=h.len.2;have zK:=Jhq ch h1;have xY:ch.length-1<lv.length:=by rw[h.len.1];omega
 obtain⟨l0,pJ,(qA:J _),hL0⟩:=h.coins (ch.length-1) _ _ (Qd xY) zK;have hcG:=h.cG _ (Qx xY);have Hl:lv ≠ []:=λe=>by have:=h.len;rw[e]at this;simp at this;omega
 obtain⟨g,cap,un,hg,hc⟩:=h.lvs.at Hl;rw[h.len.1]at un;subst un;have q3:=(hc (ch.length-1) xY).2.2.2;obtain⟨m,hm⟩:∃m:Nat,ch.length=m+1:=⟨ch.length-1,by omega⟩
 have ql:ch.length-1=m:=by omega
 obtain⟨s0,hs0⟩:∃s0:Sl,(lv[ch.length-1]'xY).2=s0:=⟨_,rfl⟩
 rw[hs0]at pJ hcG q3;rw[ql]at zK q3;obtain⟨a0,c0,xI⟩:=pJ.shape;simp only[Qy]at xI;obtain⟨sa,sb,sc⟩:=s0;simp only at pJ hcG q3 xI;obtain⟨rfl,rfl,rfl⟩:=xI;have qv:J (∀V,M D w V->_):=λV hV=>h.tch hV (λ_ e=>e.elim);have vu:J (∀V,M D w V->aB N 118 #[X (Z ⟨rb,0,Y⟩)] V λe w'=>e=aC (O I (m:Int))/\M D V w'):=λV hV=>by
  have:=JhM (qv V hV) (by omega);rw[show (ch.length:Int)-1=(m:Int) by omega]at this;exact this
 have zy:J (∀V,M D w V->_):=λV hV=>r_id hD Hn hw (qv V hV) (by omega) m ch.last zK;have HP:J (∀V,M D w V->V.cell? ⟨rb,0,Y⟩=Z (O I (wj:Int))/\V.cell? ⟨rb,1,Y⟩=Z (R (Z ⟨g,0,Y⟩) ch.length cap)/\V.cell? ⟨g,m*4+3,Y⟩=Z (R sa l0.length sc)):=λV hV=>by
  have hr:=(qv V hV).row;exact⟨Ja hr,Ja hr,(hV.cell (p:=⟨g,m*4+3,Y⟩) hg (λe=>e)).trans q3⟩
 have yS:J (∀V,M D w V->_):=λV hV=>Jd9 wj hw B v ts sl h3 ho V (hv.tch hV (λ_ e=>e.elim)) ⟨hs.1,λi h1 h2=>⟨(hs.2 i h1 h2).1.tch hV (λ_ e=>e.elim),(hs.2 i h1 h2).2.tch hV (λ_ e=>e.elim)⟩⟩;have HV:J _:=hv;have sv:J _:=hs;have nU:=hs.1;have HO:J _:=ho;have gC:J (RhAt w (R sa l0.length sc) l0):=pJ;have HCG:J _:=hcG;have hL0':l0.length<=9*ch.length:=by omega
 obtain⟨va,vc,xm⟩:=hv.shape;subst xm;have pX:(m:Int)<(ch.length:Int):=by omega
 have xU:=Jfb wj hw ts ho h3;have HM:J (ch.length=m+1/\ts.length=sl.length):=⟨hm,nU⟩
 clear hm ql nU;clear h hc pJ hL0 hcG hv hs ho q3 hs0 xY Hl;obtain⟨z0,z1,z2⟩:=HP w (Te _ _);go_enter func173,ntmps173;go_wp2_with fail;obtain⟨wA,jC⟩:∃wA,wA=w.alloc (T #[L ⟨#[]⟩,L ⟨#[]⟩,L ⟨#[]⟩,R Y 0 0] 205):=⟨_,rfl⟩
 have kI:J (M D w wA):=by rw[jC];exact Ta _ _ _
 have uH:J (wA.heap[w.heap.size]? =Z (T #[L ⟨#[]⟩,L ⟨#[]⟩,L ⟨#[]⟩,R Y 0 0] 205)):=by rw[jC];exact Qf _ _
 rw[<-jC];clear jC z0 z1 z2;obtain⟨z0,z1,z2⟩:=HP.o wA kI.o;go_cut [6] (λv wx=>v=R sa l0.length sc/\J (M D wA wx))
 case first=>
  go_region_held3 (λV=>V.cell? ⟨rb,1,Y⟩=Z (R (Z ⟨g,0,Y⟩) ch.length cap)/\V.cell? ⟨g,m*4+3,Y⟩=Z (R sa l0.length sc)) (go_keep) ((go_at_call 118;refine(vu _ (kI.trans (Td _ _ 1) (λ_ h=>aM h))).mono ?_;rintro _ w1⟨rfl,H9⟩;have H5:J _:=(Td D wA 1).trans H9 (λ_ h=>aM h);have y:=HP w1 (kI.trans H5 (λ_ h=>aM h));obtain⟨y0,y1,y2⟩:=y;clear H9))
  all_goals go_wp2;go_meet;exact⟨rfl,H5⟩
 case rest=>
 obtain⟨rfl,gZ⟩:=hcut;obtain⟨wB,yp⟩:∃wB,wB=wc:=⟨wc,rfl⟩
 subst yp;clear z0 z1 z2;have qR:J _:=gC.tch0 (kI.trans gZ (λ_ h=>aM h));go_wp2;go_loopw [6,7] (λvn i wr=>∃(k:Nat)(lk:List Hd)(sk:Option Tr)(na:Option Addr)(nc:Nat),k<=ts.length/\i=O I k/\vn=R na lk.length nc/\J (RhAt wr (R na lk.length nc) lk)/\J (Book wj sk lk)/\J (JH (H3 wj) ch.last.2 ts=JH (H3 wj) sk (ts.drop k))/\lk.length<=l0.length+3*k/\J (∀j,(lS na lk.length nc).ownBlock=Z j->G j\/w.heap.size<j)/\J (M D wA wr)) (λ_ i _=>ts.length-(intOf i).toNat)
 case atStart=>exact⟨0,l0,ch.last.2,sa,sc,by omega,rfl,rfl,qR,qA,rfl,by omega,λj hj=>aM (HCG j hj),gZ⟩
 case round=>
  clear qR gZ gC qA HCG;obtain⟨k,lk,sk,na,nc,hk,rfl,rfl,xE,xp,HAK,yH,HGK,pO⟩:=hrel
  by_cases H7:k<ts.length
  ·have jM:k<sl.length:=by have:=HM.o.2;omega
   rcases HV with⟨e,e2⟩|⟨gi,oi,cc,e,_,kp,Ho⟩
   ·rw[e2]at jM;simp at jM
   simp only[Qy,true_and]at e;obtain⟨rfl,rfl⟩:=e;obtain⟨f0,f1⟩:=Ho k jM;have ge:J _:=kI.trans pO (λ_ h=>aM h);have q0:=(ge.cell (p:=⟨gi,oi+k*2,Y⟩) kp (λh=>h)).trans f0;have q1:=(ge.cell (p:=⟨gi,oi+k*2+1,Y⟩) kp (λh=>h)).trans f1;have kj:(k:Int)<(sl.length:Int):=(by omega);obtain⟨p1,p2⟩:=sv.2 k H7 jM;have Hg:=HO _ (Qx H7);have xN:J (∀V,M D wr V->_):=λV hV=>Jk7 hD wj Hn hw _ lk sk B _ _ ts[k] V (xE.tch0 hV) xp Hg (p1.tch (ge.trans hV (λ_ h=>aM h)) (λ_ e=>e.elim)) (p2.tch (ge.trans hV (λ_ h=>aM h)) (λ_ e=>e.elim)) (by omega);have yg:J _:=List.drop_eq_getElem_cons H7;clear Ho f0 f1 p1 p2 Hg;generalize sl[k].1.1=y1 at *;generalize sl[k].1.2.1=y2 at *;generalize sl[k].1.2.2=y3 at *;generalize sl[k].2.1=y4 at *;generalize sl[k].2.2.1=y5 at *;generalize sl[k].2.2.2=y6 at *;generalize ts[k]=t at *;obtain⟨z0,z1,z2⟩:=HP wr ge.o
   cases hap:JI (H3 wj) sk t with
   | error er=>
    have cU:J (∀V,M D wr V->aB N 255 #[O I (wj:Int),R na lk.length nc,aH #[R y1 y2 y3,R y4 y5 y6]] V λe w'=>e=aC (aI #[R Y 0 0,O I (Xr er)])/\M D V w'):=λV hV=>(xN V hV).mono (by
     rintro e w'⟨h1,h2⟩;rw[hap]at h2;exact⟨h2,h1⟩)
    have jB:J (JH (H3 wj) ch.last.2 ts=.error er):=(by show JH _ _ _=_;rw[HAK.o,yg.o];simp only[JH,hap]);have Hl:¬Xr er=0:=(by cases er using Er.on<;>decide);clear xN hap yg HAK;go_upto_region 5 with fail;go_cut [8,9] (λv8 v9 wx=>v8=R Y 0 0/\v9=O I (Xr er)/\J (M D wA wx))
    case first=>
     go_region_held3 (λV=>V.cell? ⟨rb,0,Y⟩=Z (O I (wj:Int))/\V.cell? ⟨gi,oi+k*2,Y⟩=Z (R y1 y2 y3)/\V.cell? ⟨gi,oi+k*2+1,Y⟩=Z (R y4 y5 y6)) (go_keep) ((go_at_call 255;refine(cU _ (Td _ _ 1)).mono ?_;rintro _ w1⟨rfl,H9⟩;have H5:J _:=(Td D wr 1).trans H9 (λ_ h=>aM h);have x0:=(H5.cell (p:=⟨gi,oi+k*2,Y⟩) (Qr _ _ q0) (λh=>h)).trans q0;have x1:=(H5.cell (p:=⟨gi,oi+k*2+1,Y⟩) (Qr _ _ q1) (λh=>h)).trans q1;have x2:=(HP w1 (ge.trans H5 (λ_ h=>aM h))).1;clear H9))
     all_goals go_wp2;go_meet;exact⟨rfl,rfl,pO.trans H5 (λ_ h=>aM h)⟩
    case rest=>
    obtain⟨rfl,rfl,qo⟩:=hcut;obtain⟨wC,pN⟩:∃wC,wC=wc:=⟨wc,rfl⟩
    subst pN;clear z0 z1 z2 q0 q1;have jZ:=(qo.o.block _ (Jb uH.o) (λh=>h)).trans uH.o;have HBC:J (_=_):=jZ;obtain⟨b0,b1,b2,b3⟩:=rows jZ;have fR:∀j,wC.frozen? ⟨w.heap.size,j,Y⟩=false:=λj=>Qg _ _ _ _ _ jZ;clear jZ;go_wp2;obtain⟨p1,p2⟩:=JmJ HBC (L ⟨#[]⟩) (L ⟨#[]⟩) (L ⟨#[]⟩) (R Y 0 0);refine QK (v:=aI #[aH #[L ⟨#[]⟩,L ⟨#[]⟩,L ⟨#[]⟩,R Y 0 0],O I (Xr er)]) (Je results173 _ _ w.heap.size _ _ (0,0) _ rfl p1 underlying205 rfl (by kernel_rfl)) rfl ⟨?_,?_⟩
    ·exact(kI.trans qo (λ_ h=>aM h)).trans p2 (λx hx=>aN (by rw[hx];exact Ql _))
    ·rw[jB.o]
   | ok kW=>
    have cU:J (∀V,M D wr V->aB N 255 #[O I (wj:Int),R na lk.length nc,aH #[R y1 y2 y3,R y4 y5 y6]] V λe w'=>∃v',e=aC (aI #[v',O I 0])/\M D V w'/\∃na' nc' l',v'=R na' l'.length nc'/\RhAt w' v' l'/\Book wj kW l'/\l'.length<=lk.length+3/\∀j,v'.ownBlock=Z j->w.heap.size<j):=λV hV=>(xN V hV).mono (by
     rintro e w'⟨h1,h2⟩;rw[hap]at h2;obtain⟨v',l',he,ho,hb,vz⟩:=h2;obtain⟨na',nc',xI⟩:=ho.shape;exact⟨v',he,h1,na',nc',l',xI,ho.at,hb,vz,λj hj=>Qk (Qk (Jb uH) (Qm pO.size hV.size)) (ho.own j hj).1⟩)
    have zi:J (JH (H3 wj) ch.last.2 ts=JH (H3 wj) kW (ts.drop (k+1))):=(by show JH _ _ _=_;rw[HAK.o,yg.o];simp only[JH,hap]);clear xN hap yg HAK;go_upto_region 5 with fail;go_cut [8,9] (λv8 v9 wx=>v9=O I 0/\J (M D wA wx)/\∃na' nc' l',v8=R na' l'.length nc'/\J (RhAt wx (R na' l'.length nc') l')/\J (Book wj kW l')/\l'.length<=lk.length+3/\J (∀j,(lS na' l'.length nc').ownBlock=Z j->w.heap.size<j))
    case first=>
     go_region_held3 (λV=>V.cell? ⟨rb,0,Y⟩=Z (O I (wj:Int))/\V.cell? ⟨gi,oi+k*2,Y⟩=Z (R y1 y2 y3)/\V.cell? ⟨gi,oi+k*2+1,Y⟩=Z (R y4 y5 y6)) (go_keep) ((go_at_call 255;refine(cU _ (Td _ _ 1)).mono ?_;rintro _ w1⟨v',rfl,H9,kP⟩;have jV:J (_:Prop):=kP;have H5:J (M D wr w1):=(Td D wr 1).trans H9 (λ_ h=>aM h);have x0:=(H5.cell (p:=⟨gi,oi+k*2,Y⟩) (Qr _ _ q0) (λh=>h)).trans q0;have x1:=(H5.cell (p:=⟨gi,oi+k*2+1,Y⟩) (Qr _ _ q1) (λh=>h)).trans q1;have x2:=(HP w1 (ge.trans H5 (λ_ h=>aM h))).1;clear H9 kP))
     all_goals
      go_wp2;go_meet;obtain⟨na',nc',l',e1,r1,r2,r3,r4⟩:=jV.o;refine⟨rfl,pO.trans H5 (λ_ h=>aM h),na',nc',l',e1,?_,r2,r3,?_⟩
      ·rw[<-e1];exact r1
      ·rw[<-e1];exact r4
    case rest=>
    obtain⟨rfl,qo,na',nc',l',rfl,jK,jo,vz,sW⟩:=hcut;obtain⟨wC,pN⟩:∃wC,wC=wc:=⟨wc,rfl⟩
    subst pN;clear z0 z1 z2 q0 q1;go_wp2;go_roundw
    case rel=>exact⟨k+1,l',kW,na',nc',by omega,by go_num,rfl,jK,jo,zi,by omega,λj hj=>aN (sW j hj),qo⟩
    case measure=>simp[intOf];omega
  ·have HKK:J (k=ts.length):=(by omega:k=ts.length)
   have jA:¬(k:Int)<(sl.length:Int):=(by have:=HM.o.2;omega);have jW:J (JH (H3 wj) ch.last.2 ts=.ok sk):=(by show JH _ _ _=_;rw[HAK.o,HKK.o,List.drop_length];rfl);have ge:J (M D w wr):=kI.trans pO (λ_ h=>aM h);have sw:J (∀V,M D wr V->aB N 106 #[O I (wj:Int),R na lk.length nc] V λe w'=>∃S,e=aC (L S)/\(H3 wj S.data.toList=Xh (H3 wj) sk/\S.size<=1000)/\M D V w'):=λV hV=>(Ji0 hD wj Hn hw lk.length lk V _ (Ql _) xp.ok xp.nodup (xE.tch0 hV) (by omega)).mono (by
    rintro e w'⟨s,he,hr,ht⟩;refine⟨⟨s.toArray⟩,he,⟨?_,by rw[Ji];exact hr.rlen hw (λx hx=>(xp.ok x hx).1)⟩,ht⟩;rw[Jew,<-JcP xp.o hr])
   have ib:J (∀(S:BA)(V:aA),S.size<=1000->aB N 103 #[O I (wj:Int),L S] V λe w'=>∃aV,e=aC (L aV)/\aV=H3 wj S.data.toList/\M D V w'):=λS V hs=>(hD wj S V Hn hw (by omega)).mono (by rintro _ _⟨rfl,h⟩;exact⟨_,rfl,rfl,h⟩);have a1:=JO [66] (JL ts) (by simp;omega);have a1':∀W,(Op.stringOp .add (⟨#[66]⟩:BA) ⟨(JL ts).toArray⟩).run N W=.ok (L ⟨(66::JL ts).toArray⟩) W:=a1;have xz:J ((⟨(66::JL ts).toArray⟩:BA).data.toList=66::JL ts/\(⟨(66::JL ts).toArray⟩:BA).size<=1000):=⟨rfl,by rw[Ji,Qp];omega⟩
   generalize (⟨(66::JL ts).toArray⟩:BA)=XB at *;generalize (⟨(JL ts).toArray⟩:BA)=X0 at *;obtain⟨D1,mT⟩:∃D1,D1=H3 wj (72::ch.last.1.data.toList):=⟨_,rfl⟩
   rw[<-mT]at zy;have du:J (D1=_):=mT;clear a1 mT;have bX:rb<w.heap.size:=(QJ.1 (qv w (Te _ _)).row).1;have xw:¬rb=w.heap.size:=(by omega);have jx:¬w.heap.size=rb:=(by omega);have kN:J (∀V,M D wr V->V.heap[w.heap.size]? =Z (T #[L ⟨#[]⟩,L ⟨#[]⟩,L ⟨#[]⟩,R Y 0 0] 205)):=λV hV=>by
    have ht:=pO.o.trans hV (λ_ h=>aM h);exact(ht.block _ (Jb uH.o) (λh=>h)).trans uH.o
   obtain⟨z0,z1,z2⟩:=HP wr ge.o;go_upto_region 9 with fail;go_region_held3 (λV=>V.cell? ⟨rb,0,Y⟩=Z (O I (wj:Int))) (go_keep) ((first
    | (go_at_call 118;refine(vu _ (ge.trans (Td _ _ 1) (λ_ h=>aM h))).mono ?_;rintro _ w1⟨rfl,H9⟩;have H5:J (M D wr w1):=(Td D wr 1).trans H9 (λ_ h=>aM h);have x1:=(HP w1 (ge.trans H5 (λ_ h=>aM h))).1;clear H9)
    | (go_at_call 172;refine(zy _ (ge.trans H5 (λ_ h=>aM h))).mono ?_;rintro _ w2⟨rfl,Ha⟩;have H6:J (M D wr w2):=H5.trans Ha (λ_ h=>aM h);have x2:=(HP w2 (ge.trans H6 (λ_ h=>aM h))).1;clear Ha)
    | (go_at_call 256;refine(yS _ (ge.trans H6 (λ_ h=>aM h))).mono ?_;rintro _ w3⟨rfl,Hs⟩;have Hb:J (M D wr w3):=H6.trans Hs (λ_ h=>aM h);have x3:=(HP w3 (ge.trans Hb (λ_ h=>aM h))).1;clear Hs)
    | (go_at_call_of 103 (Value.string XB);refine(ib XB _ xz.2).mono ?_;rintro _ w4⟨D2,rfl,xe,Hu⟩;have fi:J (D2=_):=xe;have Hm:J (M D wr w4):=Hb.trans Hu (λ_ h=>aM h);have x4:=(HP w4 (ge.trans Hm (λ_ h=>aM h))).1;clear Hu xe)
    | (go_at_call 106;refine(sw _ Hm).mono ?_;rintro _ w5⟨S,rfl,s5,kR⟩;have zQ:J (_/\_):=s5;have kD:J (M D wr w5):=Hm.trans kR (λ_ h=>aM h);have x5:=(HP w5 (ge.trans kD (λ_ h=>aM h))).1;clear kR s5)
    | (go_at_call_of 103 (Value.string S);refine(ib S _ zQ.2).mono ?_;rintro _ w6⟨D3,rfl,pI,jN⟩;have HD3:J (D3=_):=pI;have kz:J (M D wr w6):=kD.trans jN (λ_ h=>aM h);have x6:=(HP w6 (ge.trans kz (λ_ h=>aM h))).1;have jZ:=kN w6 kz.o;have b0:w6.cell? ⟨w.heap.size,0,Y⟩=Z (L ⟨#[]⟩):=Ja jZ;have b1:w6.cell? ⟨w.heap.size,1,Y⟩=Z (L ⟨#[]⟩):=Ja jZ;have b2:w6.cell? ⟨w.heap.size,2,Y⟩=Z (L ⟨#[]⟩):=Ja jZ;have b3:w6.cell? ⟨w.heap.size,3,Y⟩=Z (R Y 0 0):=Ja jZ;have fR:∀j,w6.frozen? ⟨w.heap.size,j,Y⟩=false:=(λj=>Qg _ _ _ _ _ jZ);have cO:J (_=_):=jZ;clear jN pI jZ)))
   all_goals
    go_wp2;obtain⟨p1,p2⟩:=JmJ cO (L D1) (L D2) (L D3) (R na lk.length nc);refine QK (v:=aI #[aH #[L D1,L D2,L D3,R na lk.length nc],O I 0]) (Je results173 _ _ w.heap.size _ _ (0,0) _ rfl p1 underlying205 rfl (by kernel_rfl)) rfl ⟨?_,?_⟩
    ·exact(ge.trans kz (λ_ h=>aM h)).trans p2 (λx hx=>aN (by rw[hx];exact Ql _))
    ·rw[jW.o];refine⟨(na,lk.length,nc),lk,?_,?_,xp,by have:=HM.o.1;omega,λj hj=>(HGK j hj).imp id (λh=>Nat.le_of_lt h)⟩
     ·rw[du.o,fi.o,HD3.o,xz.o.1,zQ.o.1]
     ·have hrk:=xE.o.tch0 kz.o;refine hrk.tch p2 (λj hj e=>?_)
      rcases HGK j hj with h|h
      ·have:=((qv w (Te _ _)).own j h).2;omega
      ·omega

def XZ(wj:Nat)(c:BA×Int):Bool:=decide (c.1.size=wj) && (decide (0<=c.2) && decide (c.2<3))
theorem Yc(wj:Nat)(c:BA×Int):XZ wj c=true↔Jj wj c:=by
 unfold XZ Jj;simp
theorem Jec(wj:Nat)(c:BA×Int)(hc:c.1.size<=9223372036854775807)(w:aA):
  aB N 257 #[O I (wj:Int),aH #[L c.1,O I c.2]] w λe w'=>e=aC (aL (XZ wj c))/\M D w w':=by
 obtain⟨s,n⟩:=c;simp only at hc;have HX:J (XZ wj (s,n)=(decide (s.size=wj) && (decide (0<=n) && decide (n<3)))):=rfl;generalize XZ wj (s,n)=aX at *
 by_cases h1:s.size=wj
 ·have h1i:(s.size:Int)=(wj:Int):=by omega
  by_cases h2:0<=n
  ·by_cases h3:n<3
   ·have HY:J (aX=true):=(by show aX=true;rw[HX.o];simp[h1,h2,h3]);clear h1;go_enter func257,ntmps257;go_wp2;go_ret;exact⟨by rw[HY.o];rfl,Ta _ _ _⟩
   ·have HY:J (aX=false):=(by show aX=false;rw[HX.o];simp[h3]);clear h1;go_enter func257,ntmps257;go_wp2;go_ret;exact⟨by rw[HY.o];rfl,Ta _ _ _⟩
  ·have HY:J (aX=false):=(by show aX=false;rw[HX.o];simp[h2]);clear h1;go_enter func257,ntmps257;go_wp2;go_ret;exact⟨by rw[HY.o];rfl,Ta _ _ _⟩
 ·have h1i:¬(s.size:Int)=(wj:Int):=by omega
  have HY:J (aX=false):=by show aX=false;rw[HX.o];simp[h1]
  clear h1;go_enter func257,ntmps257;go_wp2;go_ret;exact⟨by rw[HY.o];rfl,Ta _ _ _⟩
def Yg(t:TxL):Bool:=decide (1<=t.1.length) && (decide (t.1.length<=3) && decide (t.2.length<=3))
def Jhj(wj:Nat)(t:TxL):Bool:=Yg t && t.1.all (XZ wj)
def mayB(wj:Nat)(ts:List TxL):Bool:=decide (ts.length<=3) && ts.all (Jhj wj)
def qI(wj:Nat)(ts:List TxL)(i:Nat):Bool:=decide (ts.length<=3) && (ts.take i).all (Jhj wj)
theorem JkV(wj:Nat)(ts:List TxL)(i:Nat)(h:i<ts.length):qI wj ts (i+1)=(qI wj ts i && (Yg ts[i] && ts[i].1.all (XZ wj))):=by
 unfold qI;rw[QR h,List.all_append,Bool.and_assoc];simp[Jhj]
theorem Jb3(wj:Nat)(ts:List TxL)(ho:∀t∈ts,∀o∈t.2,Jy o):mayB wj ts=true↔ts.length<=3/\∀t∈ts,TxOk wj t:=by
 unfold mayB;rw[l9,decide_eq_true_eq,ld];refine and_congr Iff.rfl ⟨λh t ht=>?_,λh t ht=>?_⟩
 ·have:=h t ht;unfold Jhj Yg at this;simp only[l9,decide_eq_true_eq,ld,Yc]at this;exact⟨this.2,ho t ht,this.1.1,this.1.2.1,this.1.2.2⟩
 ·have:=h t ht;unfold Jhj Yg;simp only[l9,decide_eq_true_eq,ld,Yc];exact⟨⟨this.one,this.ins,this.made⟩,this.coins⟩
theorem JqP(wj:Nat)(B:Nat)(v:aG)(ts:List TxL)(sl:List (Sl×Sl))(w:aA)(hv:TxsR B w v sl)(hs:TxIs B w ts sl)(hl:ts.length<=1000000000)(hc:∀t∈ts,t.1.length<=1000000000/\t.2.length<=1000000000/\∀c∈t.1,c.1.size<=9223372036854775807):
  aB N 266 #[O I (wj:Int),v] w λe w'=>e=aC (aL (mayB wj ts))/\M D w w':=by
 have HV:J _:=hv;have sv:J _:=hs;have HL:J _:=hs.1;have HC:J _:=hc;obtain⟨va,vc,xm⟩:=hv.shape;subst xm;have hls:sl.length<=1000000000:=by rw[<-hs.1];exact hl
 have HM0:J (decide ((sl.length:Int)<=3)=qI wj ts 0):=by show _=qI wj ts 0;unfold qI;rw[HL.o];simp;omega
 go_enter func266,ntmps266;go_wp2;go_loopw [5,6] (λok i wr=>∃k:Nat,k<=sl.length/\i=O I k/\ok=aL (qI wj ts k)/\J (M D w wr)) (λ_ i _=>sl.length-(intOf i).toNat)
 case atStart=>exact⟨0,by omega,rfl,by rw[<-HM0.o],Te _ _⟩
 case round=>
  obtain⟨k,hk,rfl,rfl,HT⟩:=hrel
  by_cases H7:k<sl.length
  ·have jM:k<ts.length:=by rw[HL.o];exact H7
   rcases HV with⟨e,e2⟩|⟨gi,oi,cc,e,_,kp,Ho⟩
   ·rw[e2]at H7;simp at H7
   simp only[Qy,true_and]at e;obtain⟨rfl,rfl⟩:=e;obtain⟨f0,f1⟩:=Ho k H7;have q0:=(HT.cell (p:=⟨gi,oi+k*2,Y⟩) kp (λh=>h)).trans f0;have q1:=(HT.cell (p:=⟨gi,oi+k*2+1,Y⟩) kp (λh=>h)).trans f1;have kj:(k:Int)<(sl.length:Int):=(by omega);obtain⟨p1,p2⟩:=sv.2 k jM H7;obtain⟨l1,l2,(vN:J _)⟩:=HC _ (Qx jM);have HSU:=JkV wj ts k jM;have HS:J _:=HSU;generalize ts[k]=t at *;obtain⟨y1,y3,pt⟩:=p1.shape;simp only[Qy]at pt;obtain⟨z1,z3,jH⟩:=p2.shape;simp only[Qy]at jH;obtain⟨pt,hy2,hy3⟩:=pt;obtain⟨jH,qQ,hz3⟩:=jH;rw[pt,hy2,hy3]at p1 q0;rw[jH,qQ,hz3]at p2 q1;have Hx:J _:=p1;clear p1 p2;obtain⟨aU,hM⟩:∃aU,qI wj ts k=aU:=⟨_,rfl⟩
   rw[hM]at HS;rw[hM];have cK:J (Yg t=(decide (1<=t.1.length) && (decide (t.1.length<=3) && decide (t.2.length<=3)))):=rfl;go_upto_region 6 with fail;obtain⟨wA,jC⟩:∃wA,wA=wr.alloc (T #[R y1 t.1.length y3,R z1 t.2.length z3] 98):=⟨_,rfl⟩
   have kI:J (M D w wA):=(by rw[jC];exact HT.trans (Ta D _ _) (λ_ h=>aM h));have jZ:=xw jC;have kN:J _:=jZ;rw[<-jC];clear jC q0 q1;obtain⟨b0,b1⟩:=rows jZ;generalize wr.heap.size=xb at *;go_cut [5] (λvo wx=>vo=aL (aU && Yg t)/\J (M D wA wx))
   case first=>
    cases aU
    ·go_wp2;go_meet;exact⟨by simp,Te _ _⟩
    ·by_cases c1:1<=t.1.length
     ·have c1i:(1:Int)<=(t.1.length:Int):=by omega
      by_cases c2:t.1.length<=3
      ·have c2i:(t.1.length:Int)<=3:=by omega
       by_cases c3:t.2.length<=3
       ·have c3i:(t.2.length:Int)<=3:=(by omega);have HR:J (Yg t=true):=(by show Yg t=true;rw[cK.o];simp[c1,c2,c3]);go_wp2;go_meet;exact⟨by rw[HR.o];rfl,Te _ _⟩
       ·have c3i:¬(t.2.length:Int)<=3:=(by omega);have HR:J (Yg t=false):=(by show Yg t=false;rw[cK.o];simp[c3]);go_wp2;go_meet;exact⟨by rw[HR.o];rfl,Te _ _⟩
      ·have c2i:¬(t.1.length:Int)<=3:=(by omega);have HR:J (Yg t=false):=(by show Yg t=false;rw[cK.o];simp[c2]);go_wp2;go_meet;exact⟨by rw[HR.o];rfl,Te _ _⟩
     ·have c1i:¬(1:Int)<=(t.1.length:Int):=(by omega);have HR:J (Yg t=false):=(by show Yg t=false;rw[cK.o];simp[c1]);go_wp2;go_meet;exact⟨by rw[HR.o];rfl,Te _ _⟩
   case rest=>
   obtain⟨rfl,gZ⟩:=hcut;obtain⟨wB,yp⟩:∃wB,wB=wc:=⟨wc,rfl⟩
   subst yp;have zJ:J _:=(gZ.block _ (Jb kN) (λh=>h)).trans kN.o;have HE0:J ((aU && Yg t)=(aU && Yg t && (t.1.take 0).all (XZ wj))):=(by show _=_;simp);go_wp2;go_loopw [5,8] (λvo j wx=>∃m:Nat,m<=t.1.length/\j=O I m/\vo=aL (aU && Yg t && (t.1.take m).all (XZ wj))/\J (M D wB wx)) (λ_ j _=>t.1.length-(intOf j).toNat)
   case atStart=>exact⟨0,by omega,rfl,by rw[<-HE0.o],Te _ _⟩
   case round=>
    obtain⟨m,hm,rfl,rfl,ki⟩:=hrel;rename_i wq _;have jZ:=(ki.block _ (Jb zJ) (λh=>h)).trans zJ.o;obtain⟨b0, -⟩:=rows jZ;have ge:J _:=(kI.trans gZ (λ_ h=>aM h)).trans ki (λ_ h=>aM h)
    by_cases xy:m<t.1.length
    ·have pX:(m:Int)<(t.1.length:Int):=by omega
     rcases Hx with⟨e,e2⟩|⟨gj,oj,cj,e,_,hgj,hcj⟩
     ·rw[e2]at xy;simp at xy
     simp only[Qy,true_and]at e;obtain⟨rfl,rfl⟩:=e;obtain⟨f0,f1⟩:=hcj m xy;have r0:=(ge.cell (p:=⟨gj,oj+m*2,Y⟩) hgj (λh=>h)).trans f0;have r1:=(ge.cell (p:=⟨gj,oj+m*2+1,Y⟩) hgj (λh=>h)).trans f1;have xG:J (∀V,_):=λV=>Jec wj t.1[m] (vN _ (Qx xy)) V;have zi:J ((aU && Yg t && (t.1.take (m+1)).all (XZ wj))=(aU && Yg t && (t.1.take m).all (XZ wj) && XZ wj t.1[m])):=by show _=_;rw[QR xy,List.all_append];simp[Bool.and_assoc]
     generalize XZ wj t.1[m]=cd at *;generalize t.1[m]=c at *;generalize (aU && Yg t && (t.1.take m).all (XZ wj))=ok at *
     cases ok
     all_goals
      go_wp2_with (go_at_call 257;refine(xG _).mono ?_;rintro _ w5⟨rfl,(kD:J _)⟩);go_roundw
      case rel=>exact⟨m+1,by omega,by go_num,by rw[zi.o];simp,ki.trans kD (λ_ h=>aM h)⟩
      case measure=>simp[intOf];omega
    ·have pX:¬(m:Int)<(t.1.length:Int):=(by omega);have HEX:J ((aU && Yg t && (t.1.take m).all (XZ wj))=qI wj ts (k+1)):=by
      show _=qI wj ts (k+1);rw[HS.o,QS (by omega),Bool.and_assoc]
     generalize (aU && Yg t && (t.1.take m).all (XZ wj))=ok at *;go_wp2;go_roundw
     case rel=>exact⟨k+1,by omega,by go_num,by rw[HEX.o],ge⟩
     case measure=>simp[intOf];omega
  ·have jA:¬(k:Int)<(sl.length:Int):=(by omega);have HE:J (qI wj ts k=mayB wj ts):=by
    show qI wj ts k=_;unfold qI mayB;rw[QS (by rw[HL.o];omega)]
   generalize qI wj ts k=aX at *;go_wp2;go_ret;exact⟨by rw[<-HE.o];rfl,HT⟩

theorem JcU{x k y:Nat}(h:(PS.wr d).num x k=Z (y,p)):y=x/\x<2 ^ (8*k)/\∃d',p=.wr d':=by
 simp only[PS.num]at h
 split at h
 ·rename_i hx;simp only[Qh,Qw]at h;exact⟨h.1.symm,(Nat.div_eq_zero_iff.1 hx).resolve_left (Nat.ne_of_gt (Nat.two_pow_pos _)),_,h.2.symm⟩
 ·cases h
theorem Jph{c y:BA×Int}(xw: -9223372036854775808<=c.2)(jx:c.2<9223372036854775808)(h:(PS.wr d).coin wj c=Z (y,p)):Jj wj c/\∃d',p=.wr d':=by
 unfold PS.coin at h;simp only[PS.txt]at h
 split at h
 ·cases h
 ·rename_i t p1 he
  split at he
  ·rename_i hl;simp only[Qh,Qw]at he;obtain⟨rfl,rfl⟩:=he
   split at h
   ·cases h
   ·rename_i m p2 hm;obtain⟨h1,h2,d',h3⟩:=JcU hm
    split at h
    ·rename_i h4;simp only[Qh,Qw]at h;refine⟨⟨?_,?_,?_⟩,d',by rw[<-h.2,h3]⟩
     ·rw[QA]at hl;exact hl
     ·unfold JD at h1;rw[h1]at h4;omega
     ·unfold JD at h1;rw[h1]at h4;omega
    ·cases h
  ·cases he
theorem JnV:∀(l:List (BA×Int))(d:List UInt8)(ys:List (BA×Int))(p:PS),(∀c∈l, -9223372036854775808<=c.2/\c.2<9223372036854775808)->PS.coins wj l (.wr d)=Z (ys,p)->(∀c∈l,Jj wj c)/\∃d',p=.wr d':=by
 intro l
 induction l with
 | nil=>
  intro d ys p _ h;simp only[PS.coins,Qh,Qw]at h;exact⟨λ_ h=>(QD h).elim,d,h.2.symm⟩
 | cons x r ih=>
  intro d ys p hr h;simp only[PS.coins]at h
  split at h
  ·cases h
  ·rename_i y p1 h1;obtain⟨k1,d1,rfl⟩:=Jph (hr x (by simp)).1 (hr x (by simp)).2 h1
   split at h
   ·cases h
   ·rename_i zs p2 h2;obtain⟨k2,d2,rfl⟩:=ih d1 zs p2 (λc hc=>hr c (by simp[hc])) h2;simp only[Qh,Qw]at h;exact⟨λc hc=>by rcases lR.1 hc with rfl|hc;exact k1;exact k2 c hc,d2,h.2.symm⟩
theorem Jpi:∀(l:List (Nat×Nat))(d:List UInt8)(ys:List (Nat×Nat))(p:PS),PS.outs l (.wr d)=Z (ys,p)->∃d',p=.wr d':=by
 intro l
 induction l with
 | nil=>
  intro d ys p h;simp only[PS.outs,Qh,Qw]at h;exact⟨d,h.2.symm⟩
 | cons x r ih=>
  intro d ys p h;simp only[PS.outs]at h
  split at h
  ·cases h
  ·rename_i y p1 h1;obtain⟨d1,rfl⟩:∃d1,p1=.wr d1:=by
    unfold PS.out at h1
    split at h1
    ·cases h1
    ·rename_i a' q1 g1;obtain⟨_,_,e1,rfl⟩:=JcU g1
     split at h1
     ·cases h1
     ·rename_i b' q2 g2;obtain⟨_,_,e2,rfl⟩:=JcU g2;simp only[Qh,Qw]at h1;exact⟨_,h1.2.symm⟩
   split at h
   ·cases h
   ·rename_i zs p2 h2;obtain⟨d2,rfl⟩:=ih d1 zs p2 h2;simp only[Qh,Qw]at h;exact⟨d2,h.2.symm⟩
theorem Jip{least most:Nat}{l ys:List (Nat×Nat)}(h:(PS.wr d).listO least most l=Z (ys,p)):least<=l.length/\l.length<=most/\∃d',p=.wr d':=by
 unfold PS.listO at h
 split at h
 ·cases h
 ·rename_i cnt p1 h1;obtain⟨e1,_,d1,rfl⟩:=JcU h1
  split at h
  ·cases h
  ·rename_i h2;obtain⟨d2,rfl⟩:=Jpi _ _ _ _ h;exact⟨by omega,by omega,d2,rfl⟩
def InR(t:TxL):Prop:=(∀c∈t.1, -9223372036854775808<=c.2/\c.2<9223372036854775808)/\∀o∈t.2,Jy o
theorem Jq1{y:TxL}(hr:InR t)(h:(PS.wr d).tx wj t=Z (y,p)):TxOk wj t/\∃d',p=.wr d':=by
 unfold PS.tx at h
 split at h
 ·cases h
 ·rename_i ys p1 h1;unfold PS.listC at h1
  split at h1
  ·cases h1
  ·rename_i cnt q1 g1;obtain⟨e1,_,d1,rfl⟩:=JcU g1
   split at h1
   ·cases h1
   ·rename_i g2;have hs:YC t.1 cnt=t.1:=(by unfold YC;rw[if_neg];intro e;rw[e]at e1;simp at e1;omega);rw[hs]at h1;obtain⟨k1,d2,rfl⟩:=JnV _ _ _ _ hr.1 h1
    split at h
    ·cases h
    ·rename_i zs p2 h2;obtain⟨_,k2,d3,rfl⟩:=Jip h2;simp only[Qh,Qw]at h;exact⟨⟨k1,hr.2,by omega,by omega,k2⟩,d3,h.2.symm⟩
theorem Jqs:∀(l:List TxL)(d:List UInt8)(ys:List TxL)(p:PS),(∀t∈l,InR t)->PS.txs wj l (.wr d)=Z (ys,p)->∀t∈l,TxOk wj t:=by
 intro l
 induction l with
 | nil=>intro _ _ _ _ _ t h;exact(QD h).elim
 | cons x r ih=>
  intro d ys p hr h;simp only[PS.txs]at h
  split at h
  ·cases h
  ·rename_i y p1 h1;obtain⟨k1,d1,rfl⟩:=Jq1 (hr x (by simp)) h1
   split at h
   ·cases h
   ·rename_i zs p2 h2;have k2:=ih d1 zs p2 (λc hc=>hr c (by simp[hc])) h2;intro t ht
    rcases lR.1 ht with rfl|ht
    ·exact k1
    ·exact k2 t ht
theorem Jjz(hr:∀t∈ts,InR t)(h:mayB wj ts=false):(PS.wr []).body wj ts=Y:=by
 cases hb:(PS.wr []).body wj ts with
 | none=>rfl
 | some x=>
  exfalso;obtain⟨ys,p⟩:=x;unfold PS.body at hb
  split at hb
  ·cases hb
  ·rename_i cnt p1 h1;obtain⟨e1,_,d1,rfl⟩:=JcU h1
   split at hb
   ·cases hb
   ·rename_i h3;have hs:Zr ts cnt=ts:=by
     unfold Zr
     split
     ·rename_i e;rw[e]at e1;rw[e,e1];rfl
     ·rfl
    rw[hs]at hb;have:=(Jb3 wj ts (λt ht=>(hr t ht).2)).2 ⟨by omega,Jqs ts d1 ys p hr hb⟩;rw[h]at this
    cases this
theorem outsB?_no{l:List (Nat×Nat)}(h:¬(1<=l.length/\l.length<=3)):outsB? l=Y:=by
 unfold outsB?
 cases hq:(PS.wr []).listO 1 3 l with
 | none=>rfl
 | some r=>
  obtain⟨ys,p⟩:=r;obtain⟨h1,h2,_⟩:=Jip hq;exact absurd ⟨h1,h2⟩ h

theorem ZW(E:Nat->Addr)(n:Int)(w:aA)(hE:Env E w)(hn:¬(1<=n/\n<=32)):
  aB N 124 #[O I n] w λe w'=>(∃t u,e=aC (aJ t u)/\Jn E 7 w' (aJ t u))/\M D w w':=by
 have hf:=hE.form;have Hp:7<w.heap.size:=Qk (by decide) hE.size;clear hE
 by_cases h1:n<1
 ·clear hn;go_enter func124,ntmps124;go_wp2_with fail;refine(Xk _ _ _ _).mono ?_;rintro _ w1⟨rfl,rfl⟩;go_wp2;go_ret;exact⟨⟨_,_,rfl,.wrap _ _ _ (Qf _ _) .base⟩,Ta _ _ _⟩
 ·have h2:(32:Int)<n:=by omega
  clear hn;go_enter func124,ntmps124;go_wp2_with fail;refine(Xk _ _ _ _).mono ?_;rintro _ w1⟨rfl,rfl⟩;go_wp2;go_ret;exact⟨⟨_,_,rfl,.wrap _ _ _ (Qf _ _) .base⟩,Ta _ _ _⟩
theorem JhC(E:Nat->Addr)(n:Int)(s:BA)(w:aA)(hF:Xt E base w)(hn:¬(1<=n/\n<=32)):
  aB N 73 #[O I n,L s] w λe w'=>e=aC (aI #[L ⟨#[]⟩,O I 1])/\M D w w':=by
 have HC:J (aB _ _ _ _ _):=ZW E n w hF.env hn;have HS:J (∀w',M D w w'->_):=λw' k=>hF.next k;go_enter func73,ntmps73;go_wp2_with fail;refine HC.o.mono ?_;rintro _ w1⟨⟨t,u,rfl,he⟩,ht⟩;have HT:J _:=ht;have HR:J (aB _ _ _ _ _):=Jag .form (HS w1 ht).1 (HS w1 ht).2 t u he;go_wp2_with fail;refine HR.o.mono ?_;rintro _ w2⟨rfl,Ha⟩;have H6:J _:=Ha;go_wp2;go_ret2;exact⟨rfl,HT.go H6⟩
theorem JmV(E:Nat->Addr)(n:Int)(s:BA)(w:aA)(hF:Xt E base w)(hs:s.size<1152921504606846976):
  aB N 73 #[O I n,L s] w λe w'=>M D w w'/\e=if 1<=n/\n<=32 then aC (aI #[L (H3 n.toNat s.data.toList),O I 0]) else aC (aI #[L ⟨#[]⟩,O I 1]):=by
 by_cases hn:1<=n/\n<=32
 ·rw[if_pos hn];obtain⟨m,rfl⟩:=Int.eq_ofNat_of_zero_le (show 0<=n by omega);exact(Jku m s w (by omega) (by omega) hs (Qk (by decide) hF.env.size) hF.env.table).mono λe w' ⟨k1,k2⟩=>⟨(M.of_below k2).mono (λj hj=>aN hj),k1⟩
 ·rw[if_neg hn];exact(JhC E n s w hF hn).mono λe w' k=>⟨k.2,k.1⟩
theorem Jl6(E:Nat->Addr)(n:Int)(v:aG)(outs:List (Nat×Nat))(w:aA)(hE:Env E w)(hv:Jr w.heap.size w v outs)(hl:outs.length<1000000)(ho:∀o∈outs,Jy o)(kt:¬(1<=n/\n<=32/\1<=outs.length/\outs.length<=3)):
  aB N 72 #[O I n,v] w λe w'=>(∃t u,e=aC (aI #[X Y,aJ t u])/\Jn E 7 w' (aJ t u))/\M D w w':=by
 by_cases hn:1<=n/\n<=32
 ·obtain⟨m,rfl⟩:=Int.eq_ofNat_of_zero_le (show 0<=n by omega);have tj:J (aB N 124 #[O I (m:Int)] w λe w'=>e=aC aK/\w=w'):=Yn m w (by omega) (by omega);have zy:J (aB N 125 #[O I (m:Int),v] w λe w'=>M D w w'/\∃t u,e=aC (aI #[L ⟨#[]⟩,aJ t u])/\Jn E 7 w' (aJ t u)):=by
   have:=Jc0 E m (by omega) (by omega) _ outs w hE hv (by omega) (λx hx=>(ho x hx).2);rw[outsB?_no (by omega)]at this;exact this
  obtain⟨ia,ic,kG⟩:=hv.shape;subst kG;go_enter func72,ntmps72;go_wp2_with fail;refine tj.o.mono ?_;rintro _ _⟨rfl,rfl⟩;go_wp2_with fail;refine zy.mono ?_;rintro _ w1⟨(HT:J _),t,u,rfl,(HE:J _)⟩;clear zy;go_wp2;go_ret2;exact⟨⟨t,u,rfl,HE⟩,HT⟩
 ·have HC:J (aB _ _ _ _ _):=ZW E n w hE hn;obtain⟨ia,ic,kG⟩:=hv.shape;subst kG;go_enter func72,ntmps72;go_wp2_with fail;refine HC.o.mono ?_;rintro _ w1⟨⟨t,u,rfl,he⟩,ht⟩;have HT:J _:=ht;have HE:J _:=he;go_wp2;go_ret2;exact⟨⟨t,u,rfl,HE⟩,HT⟩
theorem JmW(E:Nat->Addr)(n:Int)(v:aG)(outs:List (Nat×Nat))(w:aA)(hF:Xt E base w)(hv:Jr w.heap.size w v outs)(hl:outs.length<1000000)(ho:∀o∈outs,Jy o)(kt:¬(1<=n/\n<=32/\1<=outs.length/\outs.length<=3)):
  aB N 37 #[O I n,v] w λe w'=>e=aC (aI #[X Y,O I 1])/\M D w w':=by
 have HC:J (aB _ _ _ _ _):=Jl6 E n v outs w hF.env hv hl ho kt;have HS:J (∀w',M D w w'->_):=λw' k=>hF.next k;obtain⟨ia,ic,kG⟩:=hv.shape;subst kG;go_enter func37,ntmps37;go_wp2_with fail;refine HC.o.mono ?_;rintro _ w1⟨⟨t,u,rfl,he⟩,ht⟩;have HT:J _:=ht;have HR:J (aB _ _ _ _ _):=Jag .form (HS w1 ht).1 (HS w1 ht).2 t u he;go_wp2_with fail;refine HR.o.mono ?_;rintro _ w2⟨rfl,Ha⟩;have H6:J _:=Ha;go_wp2;go_ret2;exact⟨rfl,HT.go H6⟩

def XQ(wj:Nat)(ch:Ch)(ts:List TxL):BA×Int:=
 if mayB wj ts=true then match JH (H3 wj) ch.last.2 ts with
  | .ok st=>(⟨(Jau (H3 wj) ch ts st).toArray⟩,0)
  | .error er=>(⟨#[]⟩,Xr er)
 else (⟨#[]⟩,1)
theorem Jp8(hD:DgC)(Hn:1<=wj)(hw:wj<=32)(h:RfAt wj base w rb G ch vL lv b)(hl:ch.length<=10000000)(B:Nat)(v:aG)(ts:List TxL)(sl:List (Sl×Sl))(hv:TxsR B w v sl)(hs:TxIs B w ts sl)(qK:ts.length<=1000000000)(hc:∀t∈ts,t.1.length<=1000000000/\t.2.length<=1000000000/\∀c∈t.1,c.1.size<=9223372036854775807)(ii:∀t∈ts,∀o∈t.2,Jy o):
  aB N 180 #[X (Z ⟨rb,0,Y⟩),v] w λe w'=>e=aC (aI #[L (XQ wj ch ts).1,O I (XQ wj ch ts).2])/\M D w w':=by
 have h1:=h.len.2;have Hl:lv ≠ []:=λe=>by have:=h.len;rw[e]at this;simp at this;omega
 obtain⟨g,cap,un,hg,_⟩:=h.lvs.at Hl;rw[h.len.1]at un;subst un;have qv:J (∀V,M D w V->_):=λV hV=>h.tch hV (λ_ e=>e.elim);have ki:J (∀V,M D w V->TxsR B V v sl/\TxIs B V ts sl):=λV hV=>⟨hv.tch hV (λ_ e=>e.elim),hs.1,λi h1 h2=>⟨(hs.2 i h1 h2).1.tch hV (λ_ e=>e.elim),(hs.2 i h1 h2).2.tch hV (λ_ e=>e.elim)⟩⟩
 have HMY:J (∀V,M D w V->_):=λV hV=>JqP wj B v ts sl V (ki V hV).1 (ki V hV).2 qK hc;have HP:J (∀V,M D w V->V.cell? ⟨rb,0,Y⟩=Z (O I (wj:Int))/\V.cell? ⟨rb,1,Y⟩=Z (R (Z ⟨g,0,Y⟩) ch.length cap)):=λV hV=>by
  have hr:=(qv V hV).row;exact⟨Ja hr,Ja hr⟩
 have HMI:J _:=(Jb3 wj ts ii).1;obtain⟨va,vc,xm⟩:=hv.shape;subst xm;obtain⟨z0,z1⟩:=HP w (Te _ _)
 cases hmy:mayB wj ts with
 | false=>
  have HR:J ((XQ wj ch ts).1=⟨#[]⟩/\(XQ wj ch ts).2=1):=by unfold XQ;rw[hmy];exact⟨rfl,rfl⟩
  rw[hmy]at HMY;generalize (XQ wj ch ts).1=r1 at *;generalize (XQ wj ch ts).2=r2 at *;go_enter func180,ntmps180;go_wp2_with (go_at_call 266;refine(HMY _ (Te _ _)).mono ?_;rintro _ w1⟨rfl,(H5:J _)⟩);go_ret2;exact⟨by rw[HR.o.1,HR.o.2];rfl,H5⟩
 | true=>
  obtain⟨h3,ho⟩:=HMI hmy;have nD:J (∀V,M D w V->_):=λV hV=>Jj0 hD Hn hw (qv V hV) hl B _ ts sl h3 ho (ki V hV).1 (ki V hV).2;rw[hmy]at HMY
  cases hap:JH (H3 wj) ch.last.2 ts with
  | error er=>
   have HR:J ((XQ wj ch ts).1=⟨#[]⟩/\(XQ wj ch ts).2=Xr er):=(by unfold XQ;rw[if_pos hmy,hap];exact⟨rfl,rfl⟩);have zX:J (∀V,M D w V->aB N 173 #[X (Z ⟨rb,0,Y⟩),R va sl.length vc] V λe w'=>e=aC (aI #[aH #[L ⟨#[]⟩,L ⟨#[]⟩,L ⟨#[]⟩,R Y 0 0],O I (Xr er)])/\M D V w'):=λV hV=>(nD V hV).mono (by
    rintro e w'⟨h1,h2⟩;rw[hap]at h2;exact⟨h2,h1⟩)
   have Hl:¬Xr er=0:=(by cases er using Er.on<;>decide);generalize (XQ wj ch ts).1=r1 at *;generalize (XQ wj ch ts).2=r2 at *;go_enter func180,ntmps180;go_wp2_with (first|(go_at_call 266;refine(HMY _ (Te _ _)).mono ?_;rintro _ w1⟨rfl,(H5:J _)⟩)|(go_at_call 173;refine(zX _ (by first|exact H5|exact H5.trans (Ta _ _ _) (λ_ h=>aM h))).mono ?_;rintro _ w2⟨rfl,(H6:J _)⟩));go_ret2;exact⟨by rw[HR.o.1,HR.o.2];rfl,(H5.trans H6 (λ_ h=>aM h)).trans (Ta D _ _) (λ_ h=>aM h)⟩
  | ok st=>
   have HR:J ((XQ wj ch ts).1=⟨(Jau (H3 wj) ch ts st).toArray⟩/\(XQ wj ch ts).2=0):=(by unfold XQ;rw[if_pos hmy,hap];exact⟨rfl,rfl⟩);have zX:J (∀V,M D w V->aB N 173 #[X (Z ⟨rb,0,Y⟩),R va sl.length vc] V λe w'=>∃(D1 D2 D3:BA)(s:Sl),e=aC (aI #[aH #[L D1,L D2,L D3,R s.1 s.2.1 s.2.2],O I 0])/\(D1=H3 wj (72::ch.last.1.data.toList)/\D2=H3 wj (66::JL ts)/\D3=Xh (H3 wj) st)/\M D V w'):=λV hV=>(nD V hV).mono (by
    rintro e w'⟨h1,h2⟩;rw[hap]at h2;obtain⟨s,l,he,_⟩:=h2;exact⟨_,_,_,s,he,⟨rfl,rfl,rfl⟩,h1⟩)
   have yS:J (∀V,M D w V->_):=λV hV=>Jd9 wj hw B _ ts sl h3 ho V (ki V hV).1 (ki V hV).2;have yw:J (∀V,_):=λV=>XU ch.length 4 V (by omega);have zh:lO.wrap (ch.length:Int)=(ch.length:Int):=(by simp[lJ,lK,lH];omega);have ac:=Jfb wj hw ts ho h3;have uO:=Xx (H3 wj) wj (λl=>Jk wj hw l) st;have HFN:J (∀D1 D2 D3:BA,D1=H3 wj (72::ch.last.1.data.toList)/\D2=H3 wj (66::JL ts)/\D3=Xh (H3 wj) st->((⟨(Hf ch.length 4 4).toArray⟩:BA)++D1++D2++D3++⟨(JL ts).toArray⟩=⟨(Jau (H3 wj) ch ts st).toArray⟩)/\D1.size=wj/\D2.size=wj/\D3.size=wj):=(by rintro D1 D2 D3⟨rfl,rfl,rfl⟩;refine⟨Jca ?_,Jk wj hw _,Jk wj hw _,uO⟩;simp[Jau,Ht,Jbt]);have HXS:J ((⟨(Hf ch.length 4 4).toArray⟩:BA).size=4/\(⟨(JL ts).toArray⟩:BA).size<=601):=⟨by rw[Ji,Jf],by rw[Ji];exact ac⟩
   generalize (⟨(Jau (H3 wj) ch ts st).toArray⟩:BA)=BB at *;generalize (⟨(Hf ch.length 4 4).toArray⟩:BA)=X0 at *;generalize (⟨(JL ts).toArray⟩:BA)=X5 at *;generalize (XQ wj ch ts).1=r1 at *;generalize (XQ wj ch ts).2=r2 at *;go_enter func180,ntmps180;go_wp2_with (first|(go_at_call 266;refine(HMY _ (Te _ _)).mono ?_;rintro _ w1⟨rfl,(H5:J _)⟩)|(go_at_call 173;refine(zX _ H5).mono ?_;rintro _ w2⟨D1,D2,D3,s,rfl,(HDD:J _),Ha⟩;have H6:J _:=H5.trans Ha (λ_ h=>aM h);clear Ha));obtain⟨wA,jC⟩:∃wA,wA=w2.alloc (T #[L D1,L D2,L D3,R s.1 s.2.1 s.2.2] 205):=⟨_,rfl⟩
   have kI:J (M D w wA):=(by rw[jC];exact H6.trans (Ta D _ _) (λ_ h=>aM h));have uH:J (wA.heap[w2.heap.size]? =Z (T #[L D1,L D2,L D3,R s.1 s.2.1 s.2.2] 205)):=(by rw[jC];exact Qf _ _);rw[<-jC];clear jC z0 z1;generalize w2.heap.size=xb at *;have kN:J (∀V,M D wA V->V.cell? ⟨rb,1,Y⟩=Z (R (Z ⟨g,0,Y⟩) ch.length cap)/\V.cell? ⟨xb,0,Y⟩=Z (L D1)/\V.cell? ⟨xb,1,Y⟩=Z (L D2)/\V.cell? ⟨xb,2,Y⟩=Z (L D3)):=λV hV=>by
    have hr:=(hV.block _ (Jb uH.o) (λh=>h)).trans uH.o;exact⟨(HP V (kI.trans hV (λ_ h=>aM h))).2,Ja hr,Ja hr,Ja hr⟩
   obtain⟨ar,d1,d2,d3⟩:=HFN D1 D2 D3 HDD.o;obtain⟨x0s,x5s⟩:=HXS.o;have a1:∀W,_:=λW=>run_string_add_sum (P:=N) W X0 D1 (by omega);have a2:∀W,(Op.stringOp .add (X0++D1) D2).run N W=.ok (L (X0++D1++D2)) W:=λW=>run_string_add_sum (P:=N) W _ D2 (by rw[lC];omega);have a3:∀W,(Op.stringOp .add (X0++D1++D2) D3).run N W=.ok (L (X0++D1++D2++D3)) W:=λW=>run_string_add_sum (P:=N) W _ D3 (by rw[lC,lC];omega);have a4:∀W,(Op.stringOp .add (X0++D1++D2++D3) X5).run N W=.ok (L (X0++D1++D2++D3++X5)) W:=λW=>run_string_add_sum (P:=N) W _ X5 (by rw[lC,lC,lC];omega);rw[ar]at a4;generalize X0++D1++D2++D3=X4 at *;generalize X0++D1++D2=X3 at *;generalize X0++D1=X2 at *;obtain⟨z1,b0,b1,b2⟩:=kN wA (Te _ _);go_region_held3 (λV=>V.cell? ⟨rb,1,Y⟩=Z (R (Z ⟨g,0,Y⟩) ch.length cap)/\V.cell? ⟨xb,0,Y⟩=Z (L D1)/\V.cell? ⟨xb,1,Y⟩=Z (L D2)/\V.cell? ⟨xb,2,Y⟩=Z (L D3)) (go_keep) ((first
    | (go_at_call 171;refine(yw _).mono ?_;rintro _ w4⟨rfl,Hu⟩;have Hm:J _:=(Td D wA 1).trans Hu (λ_ h=>aM h);obtain⟨y1,c0,c1,c2⟩:=kN w4 Hm.o)
    | (go_at_call 256;refine(yS _ (kI.trans Hm (λ_ h=>aM h))).mono ?_;rintro _ w5⟨rfl,kR⟩;have kD:J _:=Hm.trans kR (λ_ h=>aM h);obtain⟨x1,e0,e1,e2⟩:=kN w5 kD.o)))
   all_goals go_wp2;go_ret2;exact⟨by rw[HR.o.1,HR.o.2];rfl,kI.trans kD (λ_ h=>aM h)⟩

theorem Jko(E:Nat->Addr)(hE:Env E w){cb r:Nat}(hw:wj<=32){bs:List BV}{lv:aG}(h:JR w cb wj fl r bs lv)(v:aG)(l:List (Sl×Sl))(ts:List TxL)(hv:Xa w.heap.size w v l)(hl:l.length=ts.length)(gV:∀(j:Nat) x t,l[j]? =Z x->ts[j]? =Z t->JG w.heap.size w (R x.1.1 x.1.2.1 x.1.2.2) t.1/\Jr w.heap.size w (R x.2.1 x.2.2.1 x.2.2.2) t.2)
 (um:ts.length<1000000) (zY:∀t∈ts,t.1.length<1000000/\t.2.length<1000000) (hr:∀t∈ts,InR t) (kt:mayB wj ts=false):
  aB N 45 #[X (Z ⟨cb,0,Y⟩),v] w λe w'=>M D w w'/\∃t u,e=aC (aI #[L ⟨#[]⟩,aJ t u])/\Jn E (erG .form) w' (aJ t u):=by
 have Hp:=hE.size;have zu:J (∀W,M D w W->Jd W w.heap.size Y (wj:Int) aK (.wr [])->aB N 78 #[X (Z ⟨w.heap.size,0,Y⟩),v] W λe w'=>ToB E W w.heap.size Y wj Y e w'):=λW hT hp=>by
  have:=JdF E w.heap.size Hp Y wj hw v l ts (.wr []) W (hE.tch hT noE) hp (hv.tch hT noE) hl um (XS _ _) (λj x t h1 h2=>by
   obtain⟨k1,k2⟩:=gV j x t h1 h2;have ht:=QT h2;exact⟨k1.tch hT noE,k2.tch hT noE,(zY t ht).1,(zY t ht).2,XS _ _,XS _ _,λo ho=>((hr t ht).2 o ho).2⟩) (by show 0<=_;omega)
  rw[Jjz hr kt]at this;exact this
 obtain⟨c0, -⟩:=rows h.row;have gu:J (∀W',M D w W'->W'.cell? ⟨cb,0,Y⟩=Z (O I (wj:Int))):=λW' hT=>Ja (h.next hT).row;obtain⟨ia,ic,kG⟩:=hv.shape;clear hE h hv gV hr kt zY hl um Hp;subst kG;go_enter func45,ntmps45;go_wp2_with fail;refine(JY _ _).mono ?_;rintro _ w1⟨rfl,(Hx:J _),(H5:J _)⟩;clear c0;go_wp2_with fail;refine(zu w1 H5 Hx).mono ?_;rintro _ w2⟨x2,g2,rfl,(kF:J _),cV,Ha,_⟩;have H6:J _:=XD (b:=w.heap.size) (Ql _) H5 Ha;clear Ha Hx H5 cV zu;go_wp2_with fail;refine(Jas E w.heap.size g2 wj Y (λp hp=>by cases hp) w2 kF).mono ?_;rintro _ w3⟨Hs,t,u,rfl,(HE:J _)⟩;have Hb:J _:=H6.go Hs;clear Hs kF H6;go_wp2_with fail;refine(Xk _ _ _ _).mono ?_;rintro _ w4⟨rfl,rfl⟩;go_wp2;go_ret2;exact⟨Hb.go (Ta _ _ _),_,_,rfl,.wrap _ _ _ (Qf _ _) (HE.next (Ta _ _ _))⟩
theorem JkN(E:Nat->Addr)(wj base:Nat){pn:Nat}{lb:Nat}{F:Nat->Prop}(v:aG)(ts:List TxL)(hA:LAt wj base pn w lb F fl ch)(hF:Xt E base w)(hv:JlK w v ts)(hc:ch.length<2 ^ 27)
 (um:ts.length<1000000) (zY:∀t∈ts,t.1.length<1000000/\t.2.length<1000000) (hr:∀t∈ts,InR t):
  aB N 18 #[X (Z ⟨lb,0,Y⟩),v] w λe w'=>M D w w'/\e=aC (aI #[L (XQ wj ch ts).1,O I (XQ wj ch ts).2]):=by
 by_cases hm:mayB wj ts=true
 ·obtain⟨h3,xA⟩:=(Jb3 wj ts (λt ht=>(hr t ht).2)).1 hm;have hp:1<=ch.length:=by obtain⟨_,lg,cb,r,bs,lv,C⟩:=hA;have:=C.pos;omega
  refine(JkO E wj base v ts hA hF hv xA h3 hc).mono λe w' k=>⟨k.1,?_⟩
  have k2:=k.2;rw[Jj9 (H3 wj) wj (Jk wj hA.1.2) ch (by omega) ts xA h3]at k2;unfold XQ;rw[if_pos hm]
  cases ha:JH (H3 wj) ch.last.2 ts with
  | error er=>rw[ha]at k2;exact k2
  | ok st'=>rw[ha]at k2;exact k2
 ·have kt:mayB wj ts=false:=by simpa using hm
  obtain⟨⟨Hn,hw⟩,lg,cb,r,bs,lv,C⟩:=hA;have hl:=rows C.led;obtain⟨l,k1,k2,k3⟩:=hv;obtain⟨ia,ic,kG⟩:=k1.shape;have H:=Jko E hF.env hw C.row v l ts k1 k2 k3 um zY hr kt;subst kG;refine(Jfh (λw' k=>hF.next k) .form hl _ _ _ H).mono λe w' k=>⟨k.1,?_⟩
  rw[k.2];unfold XQ;rw[if_neg hm];rfl

theorem Zk(s:BA)(i:Nat)(h:i<s.size):Js s.data.toList i=s[i].toNat:=by
 unfold Js;rw[Qn,Qd (by rw[QA];exact h)];rfl
theorem Ja1(s:BA)(k:Nat)(hk:k<=8)(hs:k<=s.size)(w:aA):
  aB N 112 #[L s,O I (k:Int)] w λe w'=>e=aC (O aD ((kC (s.data.toList.take k):Nat):Int))/\M D w w':=by
 go_enter func112,ntmps112;go_wp2;go_loopw [5,6] (λn i wr=>∃j:Nat,j<=k/\i=O I (j:Int)/\n=O aD ((kC (s.data.toList.take j):Nat):Int)/\J (M D w wr)) (λ_ i _=>k-(intOf i).toNat)
 case atStart=>exact⟨0,by omega,rfl,rfl,Te _ _⟩
 case round=>
  obtain⟨j,hj,rfl,rfl,HT⟩:=hrel
  by_cases H7:j<k
  ·have tH:(j:Int)<(k:Int):=(by omega);have hjs:j<s.size:=(by omega);have pW:(j:Int)<(s.size:Int):=(by omega);have hN:=Yt (s.data.toList.take j);have hlj:(s.data.toList.take j).length=j:=(by rw[QB,QA];have:s.data.size=s.size:=rfl;omega);rw[hlj]at hN;have h7:256 ^ j<=256 ^ 7:=Nat.pow_le_pow_right (by omega) (by omega);have HS:J (kC (s.data.toList.take (j+1))=kC (s.data.toList.take j)*256+s[j].toNat):=by
    show kC _=_;rw[QR (by rw[QA];exact hjs),Jaj];rfl
   have hb:=lQ s[j];obtain⟨x,hx⟩:∃x:Nat,s[j].toNat=x:=⟨_,rfl⟩
   rw[hx]at HS hb;obtain⟨aZ,hNe⟩:∃aZ,kC (s.data.toList.take j)=aZ:=⟨_,rfl⟩
   rw[hNe]at HS hN;rw[hNe];have hN8:aZ<72057594037927936:=(by omega);have w1:lO.wrap ((aZ:Int)*256)=(aZ:Int)*256:=(by simp[lJ,lK,lH];omega);have w2:lO.wrap (x:Int)=(x:Int):=(by simp[lJ,lK,lH];omega);have w3:lO.wrap ((aZ:Int)*256+(x:Int))=(aZ:Int)*256+(x:Int):=(by simp[lJ,lK,lH];omega);go_wp2;go_roundw
   case rel=>exact⟨j+1,by omega,by go_num,by rw[HS.o];congr 1,HT⟩
   case measure=>simp[intOf];omega
  ·obtain rfl:j=k:=(by omega);have jA:¬(j:Int)<(j:Int):=(by omega);obtain⟨aZ,(HN:J _)⟩:∃aZ,kC (s.data.toList.take j)=aZ:=⟨_,rfl⟩
   rw[HN];go_wp2;go_ret;exact⟨by rw[HN.o];rfl,HT⟩
def Jpm(s:List UInt8)(i:Nat)(w:aA)(e:Ending)(w':aA):Prop:=
 M D w w'/\match Xc s i with
 | none=>e=aC (aI #[R Y 0 0,O I (-1)])
 | some (l,n)=>∃v,e=aC (aI #[v,O I (n:Int)])/\OOwn w.heap.size w' v l
theorem Jqb(s:BA)(i:Nat)(hi:i<=s.size)(hs:s.size<=10000000)(w:aA):
  aB N 109 #[L s,O I (i:Int)] w (Jpm s.data.toList i w):=by
 have Hp:s.data.toList.length=s.size:=by rw[QA];rfl
 by_cases h1:i<s.size
 ·have h1i:(i:Int)<(s.size:Int):=by omega
  have h1n:¬(s.size:Int)<=(i:Int):=by omega
  have yd:=Zk s i h1;obtain⟨c,hc⟩:∃c:Nat,s[i].toNat=c:=⟨_,rfl⟩
  have yv:=lQ s[i];rw[hc]at yd yv;have wc:I.wrap (c:Int)=(c:Int):=w63 _ (by omega) (by omega)
  by_cases h2:c<=3
  ·have cL:¬3<(c:Int):=(by omega);have w9:I.wrap (9*(c:Int))=9*(c:Int):=w63 _ (by omega) (by omega);have wi:I.wrap ((i:Int)+1)=(i:Int)+1:=w63 _ (by omega) (by omega);have wt:I.wrap ((i:Int)+1+9*(c:Int))=(i:Int)+1+9*(c:Int):=w63 _ (by omega) (by omega)
   by_cases h3:i+1+9*c<=s.size
   ·have p7:¬(s.size:Int)<(i:Int)+1+9*(c:Int):=(by omega);have HE:J (Xc s.data.toList i=Z (YX s.data.toList (i+1) c,i+1+9*c)):=by
     show Xc _ _=_;unfold Xc;rw[yd,Hp,if_pos ⟨h1,h2,h3⟩]
    go_enter func109,ntmps109;go_wp2;go_loopw [6,7] (λvl j wr=>∃m:Nat,m<=c/\j=O I (m:Int)/\J (OOwn w.heap.size wr vl (YX s.data.toList (i+1) m))/\J (M D w wr)) (λ_ j _=>c-(intOf j).toNat)
    case atStart=>exact⟨0,by omega,rfl,OOwn.nil _ _,Te _ _⟩
    case round=>
     obtain⟨m,hm,rfl,kY,HT⟩:=hrel
     by_cases H7:m<c
     ·have tH:(m:Int)<(c:Int):=(by omega);have w5:I.wrap (9*(m:Int))=9*(m:Int):=w63 _ (by omega) (by omega);have w6:I.wrap ((i:Int)+1+9*(m:Int))=(i:Int)+1+9*(m:Int):=w63 _ (by omega) (by omega);have p1:(0:Int)<=(i:Int)+1+9*(m:Int):=(by omega);have p2:(i:Int)+1+9*(m:Int)<=(s.size:Int):=(by omega);have p3:((i:Int)+1+9*(m:Int)).toNat=i+1+9*m:=(by omega);obtain⟨P,hP⟩:∃P:BA,s.extract (i+1+9*m) s.size=P:=⟨_,rfl⟩
      have cW:P.data.toList=s.data.toList.drop (i+1+9*m):=(by rw[<-hP,lF,lI,lE,QS];rw[lG,QA];show s.size-_<=_;omega);have hPs:P.size=s.size-(i+1+9*m):=(by rw[<-hP,lX];omega);have hP8:8<P.size:=(by omega);have hP8i:(8:Int)<(P.size:Int):=(by omega);have zo:J (∀V,aB N 112 #[L P,O I 8] V λe w'=>e=aC (O aD (((jQ s.data.toList (i+1+9*m)).1:Nat):Int))/\M D V w'):=λV=>by
       have:=Ja1 P 8 (by omega) (by omega) V;rw[cW]at this;exact this
      obtain⟨o8,ho8⟩:∃o8:Nat,P[8].toNat=o8:=⟨_,rfl⟩
      have cX:J ((jQ s.data.toList (i+1+9*m)).2=o8):=(by show Js _ _=_;rw[<-ho8,<-Zk P 8 hP8,cW];unfold Js;rw[Qn,Qn,List.getElem?_drop]);have mJ:J (YX s.data.toList (i+1) (m+1)=YX s.data.toList (i+1) m++[jQ s.data.toList (i+1+9*m)]):=JiV _ _ _;have cY:J (∃a,jQ s.data.toList (i+1+9*m)=(a,o8)/\(jQ s.data.toList (i+1+9*m)).1=a):=⟨_,by rw[<-cX.o],rfl⟩
      obtain⟨a8,tK,hpa⟩:=cY.o;rw[tK]at mJ;rw[hpa]at zo;have HOL:J ((YX s.data.toList (i+1) m).length+1<=1000000000):=(by show List.length _+1<=_;simp[YX];omega);obtain⟨na,nm,nc,tW⟩:∃na nm nc,u6=R na nm nc:=(by obtain⟨a,c,e⟩:=kY.shape;exact⟨_,_,_,e⟩);subst tW;go_upto_region 8 with fail;go_region_held3 (λ_=>True) (trivial) ((first
       | (go_at_call 112;refine(zo _).mono ?_;rintro _ w1⟨rfl,H9⟩;have H5:J _:=(Td D wr 1).trans H9 (λ_ h=>aM h))
       | (refine Jdm rfl _ _ rfl rfl (kY.tch (H5.trans (Ta D w1 _) (λ_ h=>aM h)) (λ_ _ h=>h)) _ _ [(a8,o8)] rfl (JjW w1 (a8,o8)) HOL (Qm HT.size (Qm H5.size (Ta D w1 _).size)) ?_;intro v3 w3 (jI:J _) vS;have Hb:J _:=((HT.trans (H5.trans (Ta D w1 _) (λ_ h=>aM h)) (λ_ h=>aM h)).trans (Tg vS) (λj hj=>aN (kY.own j hj.symm).1));clear vS)))
      all_goals
       go_wp2;go_roundw
       case rel=>exact⟨m+1,by omega,by go_num,by rw[mJ.o];exact jI,Hb⟩
       case measure=>simp[intOf];omega
     ·obtain rfl:m=c:=(by omega);have jA:¬(m:Int)<(m:Int):=(by omega);go_wp2_with fail;go_region_held3 (λ_=>True) (trivial) (fail)
      all_goals go_wp2;go_ret2;refine⟨HT.trans (Td D _ 1) (λ_ h=>aM h),?_⟩;rw[HE.o];exact⟨_,by first|rfl|simp,kY.o.tch (Td D _ 1) (λ_ _ h=>h)⟩
   ·have p7:(s.size:Int)<(i:Int)+1+9*(c:Int):=(by omega);have HE:J (Xc s.data.toList i=Y):=by
     show Xc _ _=_;unfold Xc;rw[yd,Hp,if_neg (λh=>h3 h.2.2)]
    go_enter func109,ntmps109;go_wp2;go_ret2;exact⟨Te _ _,by rw[HE.o];rfl⟩
  ·have cL:3<(c:Int):=(by omega);have HE:J (Xc s.data.toList i=Y):=by
    show Xc _ _=_;unfold Xc;rw[yd,if_neg (λh=>h2 h.2.1)]
   go_enter func109,ntmps109;go_wp2;go_ret2;exact⟨Te _ _,by rw[HE.o];rfl⟩
 ·have h1n:(s.size:Int)<=(i:Int):=by omega
  have HE:J (Xc s.data.toList i=Y):=by show Xc _ _=_;unfold Xc;rw[Hp,if_neg (λh=>h1 h.1)]
  go_enter func109,ntmps109;go_wp2;go_ret2;exact⟨Te _ _,by rw[HE.o];rfl⟩

theorem Yq(x:Int)(hx:U32 x)(n:Nat)(h:n∈[2,6,7,11,13,17,18,19,22,25])(w:aA):
  aB Tryz.prog 252 #[O I x,O I (n:Int)] w λe w'=>e=aC (O I (rr n x))/\M D w w':=by
 have h0:=hx.1;have h1:=hx.2;have hn:1<=n/\n<=31:=by simp only[lR,QD,or_false]at h;omega
 obtain⟨e1,e2,e3,e4⟩:=Jlv hx n hn.1 hn.2;simp only[lR,QD,or_false]at h
 rcases h with rfl|rfl|rfl|rfl|rfl|rfl|rfl|rfl|rfl|rfl
 all_goals simp only[Nat.reduceSub,Int.reducePow]at e1 e2 e3 e4;go_enter Tryz.func252,Tryz.ntmps252;go_wp2_with fail;go_quiet (fail);go_wp2;go_ret;refine⟨?_,Td _ _ _⟩;rw[<-e1];rfl

def padS(l:List UInt8):List UInt8:=l++[128]++List.replicate (zs l.length) 0++Hf (l.length*8) 8 8
theorem Jn7(n:Nat):be8 n 8=Hf n 8 8:=by
 simp[be8,Hf,List.range_succ]
theorem JbE:∀(n:Nat)(s:S8)(l r:List UInt8),64*n<=l.length->JV n s (l++r)=JV n s l
 | 0,_,_,_,_=>rfl
 | n+1,s,l,r,h=>by
  unfold JV;rw[JbE n s l r (by omega),List.drop_append_of_le_length (by omega),List.take_append_of_le_length (by rw[lG];omega)]
theorem Jfj(m:Nat)(s:S8)(l r:List UInt8)(h:l.length=64*m):∀n,JV (m+n) s (l++r)=JV n (JV m s l) r
 | 0=>JbE m s l r (by omega)
 | n+1=>by
  show comp (JV (m+n) s (l++r)) (((l++r).drop (64*(m+n))).take 64)=comp (JV n (JV m s l) r) ((r.drop (64*n)).take 64);rw[Jfj m s l r h n,show 64*(m+n)=l.length+64*n by omega,List.drop_append];have e:l.drop (l.length+64*n)=[]:=List.drop_eq_nil_of_le (by omega);rw[e,List.nil_append,Nat.add_sub_cancel_left]
theorem JhE(l:List UInt8):(padS l).length % 64=0/\(padS l).length<=l.length+73:=by
 unfold padS;simp only[Qe,List.length_singleton,List.length_replicate,Jf,zs];omega
theorem JhW(l:List UInt8):shaS l=JV ((padS l).length/64) H0 (padS l):=by
 obtain⟨q,hq⟩:∃q,q=l.length/64:=⟨_,rfl⟩
 have hl:(l.take (64*q)).length=64*q:=by rw[QB];omega
 have hz:zs (l.drop (64*q)).length=zs l.length:=by rw[lG];unfold zs;omega
 have e:padS l=l.take (64*q)++padL (l.drop (64*q)) l.length:=by unfold padS padL;rw[Jn7,hz];simp only[<-Qs,List.take_append_drop]
 have e2:JV q H0 l=JV q H0 (l.take (64*q)):=by
  have:=JbE q H0 (l.take (64*q)) (l.drop (64*q)) (by omega)
  rwa [List.take_append_drop]at this
 unfold shaS;rw[<-hq,e,e2,<-Jfj q H0 _ _ hl]
 congr 1
 rw[Qe,hl];omega
theorem Jl9(s:S8)(b:List UInt8):∀x∈(comp s b).list,U32 x:=by
 intro x hx;unfold comp addS S8.list at hx;simp only[lR,QD,or_false]at hx
 rcases hx with rfl|rfl|rfl|rfl|rfl|rfl|rfl|rfl<;>exact Jdx _
theorem JcE:∀(n:Nat)(s:S8)(l:List UInt8),(∀x∈s.list,U32 x)->∀x∈(JV n s l).list,U32 x
 | 0,_,_,h=>h
 | _+1,_,_,_=>Jl9 _ _
theorem Jiq:∀x∈H0.list,U32 x:=by
 intro x hx;unfold H0 S8.list at hx;simp only[lR,QD,or_false]at hx
 rcases hx with rfl|rfl|rfl|rfl|rfl|rfl|rfl|rfl<;>(unfold U32;omega)
def outL(s:S8)(k:Nat):List UInt8:=(s.list.take k).flatMap λx=>Hf x.toNat 4 4
theorem Jk0(s:S8)(k:Nat)(hk:k<8):outL s (k+1)=outL s k++Hf (s.list.getD k 0).toNat 4 4:=by
 have hl:k<s.list.length:=hk;unfold outL;rw[QR hl,List.flatMap_append];simp[List.getD_eq_getElem?_getD,hl]
theorem JdP{f g:α->List β}:∀(l:List α),(∀x∈l,f x=g x)->l.flatMap f=l.flatMap g
 | [],_=>rfl
 | x::r,h=>by rw[QG,QG,h x QN,JdP r (λy hy=>h y (QQ _ hy))]
theorem Jme(l:List UInt8):digL l=outL (shaS l) 8:=by
 have hu:∀x∈(shaS l).list,U32 x:=by rw[JhW];exact JcE _ _ _ Jiq
 unfold digL;generalize shaS l=s at *;have hb:∀x∈s.list,((List.range 4).map λj=>UInt8.ofNat (JaP x j).toNat)=Hf x.toNat 4 4:=λx hx=>by
  obtain⟨a,rfl,ha⟩:=(hu x hx).nat;simp only[JaP,List.range_succ,List.range_zero,List.map_cons,List.map_nil,List.nil_append,List.cons_append,Hf,l8];have hx:∀n:Nat,UInt8.ofNat ((a:Int)/2 ^ n % 256).toNat=UInt8.ofNat (a/2 ^ n):=λn=>by
   have e:((a:Int)/2 ^ n % 256).toNat=a/2 ^ n % 256:=(by have:((a:Int)/2 ^ n % 256)=((a/2 ^ n % 256:Nat):Int):=(by simp);rw[this,l8]);rw[e];apply UInt8.toNat_inj.1;simp
  rw[hx,hx,hx,hx]
 have h8:asB s 32=s.list.flatMap λx=>(List.range 4).map λj=>JaP x j:=by obtain⟨a,b,c,d,e,f,g,h⟩:=s;clear hb hu;simp[asB,S8.list,List.range_succ]
 rw[h8,List.map_flatMap];unfold outL;have ht:s.list.take 8=s.list:=QS (by unfold S8.list;exact Ql _);rw[ht];refine JdP _ (λx hx=>?_);rw[<-hb x hx,List.map_map];rfl

theorem Jm9(s:BA)(w:aA)(hs:s.size<1152921504606846976):
  aB Tryz.prog 249 #[L s] w λe w'=>e=aC (L ⟨(padS s.data.toList).toArray⟩)/\M D w w':=by
 have iL:J (∀V,_):=λV=>XU (s.size*8) 8 V (by omega);have ay:lO.wrap (s.size:Int)=(s.size:Int):=by simp[lJ,lK,lH];omega
 have hmu:lO.wrap ((s.size:Int)*8)=((s.size*8:Nat):Int):=by simp[lJ,lK,lH];omega
 have HZ:J (zs s.size=(119-s.size % 64) % 64):=rfl;have hz:zs s.size<=63:=by have:=HZ.o;omega
 have iT:J (padS s.data.toList=s.data.toList++[128]++List.replicate (zs s.size) 0++Hf (s.size*8) 8 8):=by show padS _=_;unfold padS;rw[show s.data.toList.length=s.size by simp only[QA];rfl]
 generalize padS s.data.toList=PS at *;go_enter Tryz.func249,Tryz.ntmps249;go_wp2;go_loopw [3] (λv wr=>∃(k:Nat)(q:BA),k<=zs s.size/\v=L q/\q.size=s.size+1+k/\J (q.data.toList=s.data.toList++[128]++List.replicate k 0)/\wr=w) (λv _=>s.size+100-JcQ v)
 case atStart=>exact⟨0,_,Nat.zero_le _,rfl,by simp[lC];rfl,by show _=_;simp,rfl⟩
 case round=>
  obtain⟨k,q,hk,rfl,hq,HQ,rfl⟩:=hrel;have HQS:J _:=hq;have hqb:q.size<1152921504606847100:=by omega
  by_cases H7:k<zs s.size
  ·have t1:¬(q.size:Int) % 64=56:=(by have:=HZ.o;omega);go_wp2;go_roundw
   case rel=>
    refine⟨k+1,_,H7,rfl,?_,?_,trivial⟩
    ·have:=HQS.o;rw[lC,this];rfl
    ·show _=_;have:=HQ.o;rw[ByteArray.data_append,Array.toList_append,this,List.replicate_succ'];simp
   case measure=>have:=HQS.o;simp only[JcQ,lC];show _-(q.size+1)<_;omega
  ·have t1:(q.size:Int) % 64=56:=(by have:=HZ.o;omega);have HK:J (k=zs s.size):=(by omega:k=zs s.size)
   go_wp2_with fail;refine(iL.o _).mono ?_;rintro _ w1⟨rfl,ht⟩;have HT:J _:=ht;obtain⟨B8,hB8⟩:∃B8:BA,B8=⟨(Hf (s.size*8) 8 8).toArray⟩:=⟨_,rfl⟩
   have HB8:J _:=hB8;have tu:B8.size=8:=(by rw[hB8,Ji,Jf]);rw[<-hB8];clear ht hB8;go_wp2;go_ret;refine⟨?_,HT.o⟩;show lf (Value.string (q++B8))=_
   congr 2
   refine YN ?_;have:=HQ.o;rw[ByteArray.data_append,Array.toList_append,this,iT.o,HB8.o,HK.o]

def zV(l:List Int):List aG:=l.map λn=>O I n
def ZOwn(base:Nat)(w:aA)(v:aG)(l:List Int):Prop:=w.ownsRow base 3 1 v l.length (zV l)
theorem ZOwn.nil(base:Nat)(w:aA):ZOwn base w (R Y 0 0) []:=⟨rfl,aM ⟨rfl,rfl⟩⟩
theorem ZOwn.tch{S:Nat->Prop}(h:ZOwn base w v l)(k:M S w w')(hs:∀j,v.ownBlock=Z j->¬S j):ZOwn base w' v l:=by
 obtain⟨h1,⟨rfl,h0⟩|⟨g,cap,cur,rfl,hb,hZ,h2⟩⟩:=h
 ·exact⟨h1,aM ⟨rfl,h0⟩⟩
 ·exact⟨h1,aN ⟨g,cap,cur,rfl,hb,(k.block g (Jb hZ) (hs g rfl)).trans hZ,h2⟩⟩
theorem ZOwn.own(h:ZOwn base w v l):∀k,v.ownBlock=Z k->base<=k/\k<w.heap.size:=by
 obtain⟨_,⟨rfl,h0⟩|⟨g,cap,cur,rfl,hb,hZ,_⟩⟩:=h
 ·intro k hk;cases hk
 ·intro k hk;cases hk;exact⟨hb,(Jb hZ)⟩
theorem ZOwn.at(h:ZOwn base w v l)(hl:l ≠ []):∃g cap,v=R (Z ⟨g,0,Y⟩) l.length cap/\g<w.heap.size/\∀i (hi:i<l.length),w.cell? ⟨g,i,Y⟩=Z (O I l[i]):=by
 obtain⟨_,⟨rfl,h0⟩|⟨g,cap,cur,rfl,hb,hZ,_,_,Hp,kU⟩⟩:=h
 ·exact absurd (QP h0) hl
 ·refine⟨g,cap,rfl,(Jb hZ),λi hi=>?_⟩;rw[Ja hZ,<-Array.getElem?_toList];have e:(zV l)[i]? =Z (O I l[i]):=by simp[zV,hi]
  rw[<-kU,List.getElem?_take_of_lt (by omega)]at e;exact e
theorem ZOwn.shape(h:ZOwn base w v l):∃a c,v=R a l.length c:=by
 obtain⟨_,⟨rfl,h0⟩|⟨g,cap,cur,rfl,_⟩⟩:=h
 ·exact⟨Y,0,by rw[h0]⟩
 ·exact⟨_,_,rfl⟩
theorem JiI:(prog.info? 3).map (λi=>(i.zero,i.size,i.bytes))=Z (Z (O I 0),1,8):=by kernel_rfl
theorem Jcf(h:ZOwn base w v l)(k:Nat)(x:Int)(hx:w.cell? ⟨k,0,Y⟩=Z (O I x))(ty:TypeId)(hb:l.length<=10000000000)(He:base<=w.heap.size):
  ∃v' w',(Builtin.append_ #[62,62] ty #[v,R (Z ⟨k,0,Y⟩) 1 1]).run N w=.ok v' w'/\ZOwn base w' v' (l++[x])/\w.grownBy w' v.ownBlock/\(∀j,v'.ownBlock=Z j->v.ownBlock=Z j\/w.heap.size<=j):=by
 obtain⟨i,hi,hp⟩:=Option.map_eq_some_iff.1 JiI;simp only[Qw]at hp;obtain⟨hz,Hp,gy⟩:=hp;obtain⟨v',w',hr,h2,h3,h4,h5⟩:=run_append_own_at (P:=N) (w:=w) base 62 ty 3 i _ 1 8 underlying62 hi hz Hp gy rfl (by omega) v l.length (zV l) h ⟨k,0,Y⟩ 1 1 (zV [x]) rfl (λj u hu=>by
  cases j with
  | zero=>simp only[zV,List.map_cons,List.map_nil,lP,Qh]at hu;rw[<-hu,Addr.add_lit];exact hx
  | succ j=>simp[zV]at hu) (λu hu=>by simp only[zV,List.map_cons,List.map_nil,Qt]at hu;rw[hu];rfl) (by simp only[maxLen];omega) (by omega) He
 exact⟨v',w',hr,by unfold ZOwn;rw[Qe,show zV (l++[x])=zV l++zV [x] by simp[zV]];exact h2,h3,λj hj=>by
  rcases h5 with e|e
  ·exact aM (e ▸ hj)
  ·rw[hj]at e;cases e;exact aN (Ql _)⟩
theorem Jdo{rest:List Oper}(jz:o.guard=Y)(s x:Operand)
 (ho:o.op=.call { callee:=.builtin .append,args:= #[s,x],argTypes:= #[62,62] })
 (hv:a.eval s=v) (h:ZOwn base w v l) (k:Nat) (y:Int) (hx:a.eval x=R (Z ⟨k,0,Y⟩) 1 1) (hc:w.cell? ⟨k,0,Y⟩=Z (O I y)) (hb:l.length<=10000000000) (He:base<=w.heap.size)
 (hK:∀v' w',ZOwn base w' v' (l++[y])->w.grownBy w' v.ownBlock->wpList N ops Q rest (a.put o.dst v') w'):wpList N ops Q (o::rest) a w:=by
 refine wpList_plain jz λK vA=>?_;obtain⟨v',w',kH,r,r2,r3⟩:=Jcf h k y hc o.type hb He;unfold Oper.wp;simp[execOp,ho,resolve,invoke,builtin,hv,hx,kH,Result.andThen];exact vA _ _ (hK v' w' r r2)
theorem JaF{w1:aA}{K:Act->aA->Prop}{E:Prop}{t:TypeId}{y v1:aG}(kH:(Builtin.append_ #[t,t] o.type #[v,y]).run N w=.ok v1 w1)(jz:o.guard=Y)(s x:Operand)
 (ho:o.op=.call { callee:=.builtin .append,args:= #[s,x],argTypes:= #[t,t] }) (hv:a.eval s=v) (hx:a.eval x=y) (hK:K (a.put o.dst v1) w1):if Region.wanted o (yielded ops a.tmps)=true then Oper.wp N o a w K Q else E:=by
 have hw:Region.wanted o (yielded ops a.tmps)=true:=by simp[Region.wanted,jz]
 rw[if_pos hw];unfold Oper.wp;simp[execOp,ho,resolve,invoke,builtin,hv,hx,kH,Result.andThen];exact hK
theorem Ja9{P:Program}{S:aA->Prop}{id:Nat}{aS:List Oper}(n1 n2:Nat)(Hl:aS ≠ [])(zW:aS.dropLast ≠ [])(hm:P.follows .mixedOrders=true)(yu:Jfr .any aS.dropLast.dropLast (aS.dropLast.getLast zW) n1=true)(cZ:Jfr .any aS.dropLast (aS.getLast Hl) n2=true)(hS:S w.drew)
 (h:S w.drew->∀l o1 o2,aS.dropLast.dropLast=l->aS.dropLast.getLast zW=o1->aS.getLast Hl=o2->wpAnyH P .any l.toArray (Jdz P aS.dropLast.toArray o1 (Jdz P aS.toArray o2 Q)) S l.length (Array.replicate l.length false) a w.drew):(Code.region id aS.toArray true).wp P Q a w:=by
 refine wp_region_any hm ?_;have e:=(List.dropLast_concat_getLast Hl).symm;have e':=(List.dropLast_concat_getLast zW).symm;have h1:=wpAny_of_held _ _ _ _ (h hS _ _ _ rfl rfl rfl);have h2:=JaG (Q:=Jdz P aS.toArray (aS.getLast Hl) Q) yu aS.dropLast.dropLast.length (Array.replicate aS.dropLast.dropLast.length false) a w.drew (by simp) (λi o _ hi=>by simp[Array.getD]at hi) (by rw[<-e'];exact h1);rw[<-e',YP]at h2;have sD:aS.dropLast.dropLast.length+1=aS.dropLast.length:=by have:=congrArg List.length e';simpa using this.symm
 rw[sD]at h2;have h3:=JaG (Q:=Q) cZ aS.dropLast.length (Array.replicate aS.dropLast.length false) a w.drew (by simp) (λi o _ hi=>by simp[Array.getD]at hi) (by rw[<-e];exact h2);rw[<-e,YP]at h3;have hl:aS.dropLast.length+1=aS.toArray.size:=by have:=congrArg List.length e;simpa using this.symm
 rw[hl]at h3;exact h3
theorem Jfl{r:Option Nat}(h:w.grownBy w' r):M (λj=>Z j=r) w w':=Tg h

def RTx(wj:Nat)(s:List UInt8)(i:Nat)(w:aA)(e:Ending)(w':aA):Prop:=
 M D w w'/\match Xq wj s i with
 | none=>∃x:Sl×Sl,e=aC (aI #[aH #[R x.1.1 x.1.2.1 x.1.2.2,R x.2.1 x.2.2.1 x.2.2.2],O I (-1)])
 | some (t,n)=>∃x:Sl×Sl,e=aC (aI #[aH #[R x.1.1 x.1.2.1 x.1.2.2,R x.2.1 x.2.2.1 x.2.2.2],O I (n:Int)])/\COwn w.heap.size w' (R x.1.1 x.1.2.1 x.1.2.2) t.1/\OOwn w.heap.size w' (R x.2.1 x.2.2.1 x.2.2.2) t.2
theorem r_tx(wj:Nat)(Hn:1<=wj)(hw:wj<=32)(s:BA)(i:Nat)(hi:i<=s.size)(hs:s.size<=10000000)(w:aA):
  aB N 254 #[O I (wj:Int),L s,O I (i:Int)] w (RTx wj s.data.toList i w):=by
 have Hp:s.data.toList.length=s.size:=by rw[QA];rfl
 by_cases h1:i<s.size
 ·have h1i:(i:Int)<(s.size:Int):=by omega
  have h1n:¬(s.size:Int)<=(i:Int):=by omega
  have yd:=Zk s i h1;obtain⟨c,hc⟩:∃c:Nat,s[i].toNat=c:=⟨_,rfl⟩
  have yv:=lQ s[i];rw[hc]at yd yv;have wc:I.wrap (c:Int)=(c:Int):=w63 _ (by omega) (by omega)
  by_cases h2:1<=c/\c<=3
  ·have cL:¬3<(c:Int):=(by omega);have h2j:¬(c:Int)<1:=(by omega);have ww1:I.wrap ((wj:Int)+1)=(wj:Int)+1:=w63 _ (by omega) (by omega);have mN:(wj+1)*c<=99:=Qm (Nat.mul_le_mul (show wj+1<=33 by omega) h2.2) (by omega);obtain⟨wc',uq⟩:∃wc':Nat,(wj+1)*c=wc':=⟨_,rfl⟩
   have hwci:((wj:Int)+1)*(c:Int)=(wc':Int):=(by rw[<-uq];simp);have ww9:I.wrap (((wj:Int)+1)*(c:Int))=(wc':Int):=(by rw[hwci];exact w63 _ (by omega) (by omega));have wi:I.wrap ((i:Int)+1)=(i:Int)+1:=w63 _ (by omega) (by omega);have wt:I.wrap ((i:Int)+1+(wc':Int))=(i:Int)+1+(wc':Int):=w63 _ (by omega) (by omega)
   by_cases h3:i+1+wc'<=s.size
   ·have p7:¬(s.size:Int)<(i:Int)+1+(wc':Int):=(by omega);have HE:J (Yd wj s.data.toList (i+1) c->Xq wj s.data.toList i=(Xc s.data.toList (i+1+wc')).map λx=>((XW wj s.data.toList (i+1) c,x.1),x.2)):=λHg=>by
     unfold Xq;rw[yd,Hp,uq,if_pos ⟨h1,h2.1,h2.2,h3,Hg⟩]
    have HEN:J (¬Yd wj s.data.toList (i+1) c->Xq wj s.data.toList i=Y):=λHg=>by
     unfold Xq;rw[yd,Hp,uq,if_neg (λh=>Hg h.2.2.2.2)]
    have HWC:J _:=uq;clear yd Hp uq hwci;go_enter func254,ntmps254;go_wp2;obtain⟨wA,jC⟩:∃wA,wA=(w.alloc (T #[R Y 0 0,R Y 0 0] 98)).alloc (T #[R Y 0 0,R Y 0 0] 98):=⟨_,rfl⟩
    have kI:J (M D w wA):=(by rw[jC];exact(Ta D w _).trans (Ta D _ _) (λ_ h=>aM h));have qA:=kt jC;have kf:=hnn jC;rw[<-jC];clear jC;obtain⟨xb,(xz:J _)⟩:∃xb,xb=w.heap.size+1:=⟨_,rfl⟩
    rw[<-xz]at kf;rw[<-xz];have HSA:J (w.heap.size+2<=wA.heap.size):=by
     have:=(Jb kf)
     have:=xz.o;show w.heap.size+2<=wA.heap.size;omega
    go_loopw [9] (λvi wr=>∃(m:Nat)(v1:aG),m<=c/\vi=O I (m:Int)/\J (COwn (w.heap.size+2) wr v1 (XW wj s.data.toList (i+1) m))/\J (Yd wj s.data.toList (i+1) m)/\J (wr.heap[xb]? =Z (T #[v1,R Y 0 0] 98))/\J (wr.heap[w.heap.size]? =Z (T #[R Y 0 0,R Y 0 0] 98))/\J (M D w wr)/\J (w.heap.size+2<=wr.heap.size)) (λvi _=>c-(intOf vi).toNat)
    case atStart=>exact⟨0,R Y 0 0,by omega,rfl,COwn.nil _ _,λj hj=>absurd hj (by omega),kf,qA,kI,HSA⟩
    case round=>
     clear qA kf kI HSA;obtain⟨m,v1,hm,rfl,kY,yF,zA,gC,HT,yG⟩:=hrel;obtain⟨na,nm,nc,tW⟩:=kY.shape3;subst tW;have HCX:J (∀V,M D wr V->V.cell? ⟨xb,0,Y⟩=Z (R na nm nc)):=λV hV=>Ja ((hV.block _ (Jb zA) (λh=>h)).trans zA)
     by_cases H7:m<c
     ·have tH:(m:Int)<(c:Int):=(by omega);have rN:(wj+1)*m+(wj+1)<=(wj+1)*c:=(by rw[<-Nat.mul_succ];exact Nat.mul_le_mul_left _ H7);rw[HWC.o]at rN;obtain⟨wm,(HWM:J _)⟩:∃wm:Nat,(wj+1)*m=wm:=⟨_,rfl⟩
      rw[HWM]at rN;have w5:I.wrap (((wj:Int)+1)*(m:Int))=(wm:Int):=by have e:((wj:Int)+1)*(m:Int)=(wm:Int):=(by rw[<-HWM];simp);rw[e];exact w63 _ (by omega) (by omega)
      have w6:I.wrap ((i:Int)+1+(wm:Int))=(i:Int)+1+(wm:Int):=w63 _ (by omega) (by omega);have p1:(0:Int)<=(i:Int)+1+(wm:Int):=(by omega);have p2:(i:Int)+1+(wm:Int)<=(s.size:Int):=(by omega);have p3:((i:Int)+1+(wm:Int)).toNat=i+1+wm:=(by omega);obtain⟨P,hP⟩:∃P:BA,s.extract (i+1+wm) s.size=P:=⟨_,rfl⟩
      have cW:P.data.toList=s.data.toList.drop (i+1+wm):=(by rw[<-hP,lF,lI,lE,QS];rw[lG,QA];show s.size-_<=_;omega);have hPs:P.size=s.size-(i+1+wm):=(by rw[<-hP,lX];omega);have hPw:wj<P.size:=(by omega);have hPwi:(wj:Int)<(P.size:Int):=(by omega);have hPwl:(wj:Int)<=(P.size:Int):=(by omega);obtain⟨o8,ho8⟩:∃o8:Nat,P[wj].toNat=o8:=⟨_,rfl⟩
      have cX:J (Js s.data.toList (i+1+wm+wj)=o8):=(by show Js _ _=_;rw[<-ho8,<-Zk P wj hPw,cW];unfold Js;rw[Qn,Qn,List.getElem?_drop]);have h8:=lQ P[wj];rw[ho8]at h8;have w8:I.wrap (o8:Int)=(o8:Int):=w63 _ (by omega) (by omega)
      by_cases yf:o8<3
      ·have hcoi:¬3<=(o8:Int):=(by omega);obtain⟨T0,vt⟩:∃T0:BA,P.extract 0 wj=T0:=⟨_,rfl⟩
       have HCP:J (Jbq wj s.data.toList (i+1+(wj+1)*m)=(T0,(o8:Int))):=by
        show Jbq _ _ _=_;unfold Jbq;rw[HWM.o,cX.o]
        congr 1
        refine Jca ?_;rw[<-vt,lF,lI,cW];simp[lE]
       have mJ:J (XW wj s.data.toList (i+1) (m+1)=XW wj s.data.toList (i+1) m++[(T0,(o8:Int))]):=(by show XW _ _ _ _=_;rw[JgX,HCP.o]);have p5:J (Yd wj s.data.toList (i+1) (m+1)):=λj hj=>by
        rcases Nat.lt_succ_iff_lt_or_eq.1 hj with h|h
        ·exact yF j h
        ·subst h;rw[HWM.o,cX.o];exact yf
       obtain⟨v3,w3,kH,kv,vS⟩:=Jdl (w:=(wr.alloc (T #[L T0,O I (o8:Int)] 49)).drew) (kY.tch (M.box wr _) (λ_ _ h=>h)) (R (Z ⟨wr.heap.size,0,Y⟩) 1 1) (wr.heap.size+1) [(T0,(o8:Int))] ((JmN wr (T0,(o8:Int))).tch (Td D _ 1) noE) 96 (by simp[XW];omega) (Qm yG (M.box wr _).size);have Hb:J _:=((M.box wr _).mono noE).trans (Tg vS) (λ_ h=>aM h);have dh:J (Z xb ≠ (lS na nm nc).ownBlock):=λe=>by have:=(kY.own _ e.symm).1;have:=xz.o;omega
       have kw:J _:=(Hb.block _ (Jb zA) dh).trans zA.o;have HR30:J _:=(Hb.block _ (Jb gC) (λe=>by have:=(kY.own _ e.symm).1;omega)).trans gC.o;have HC3:J (w3.cell? ⟨xb,0,Y⟩=Z (R na nm nc)):=Ja kw.o;have z3:w3.frozen? ⟨xb,0,Y⟩=false:=Qg _ _ _ _ _ kw.o;have c3:=HC3.o;have jv:J _:=HT.trans Hb (λj hj=>aN (by have:=(kY.own j hj.symm).1;omega));have zv:J (w3.setCell ⟨xb,0,Y⟩ v3=w3.setRow xb #[v3,R Y 0 0]):=Qj w3 xb 0 _ _ _ _ kw.o;have jI:J (COwn _ w3 v3 _):=kv;obtain⟨va,vm,vc,xm⟩:=kv.shape3;subst xm;clear cW hPs cX vS kv;go_upto_region 10 with fail;clear hP;refine Xm (S:=λV=>V.cell? ⟨xb,0,Y⟩=Z (R na nm nc)) 20 (by simp) (by kernel_rfl) (by kernel_rfl) (HCX _ (Td _ _ 1)) ?_;intro hHeld l o hl ho;simp only[lT,lU]at hl;simp only[lV,lW]at ho;subst hl;subst ho;simp only[Qp,Qv,Nat.reduceAdd];refine tkL 0 ?_;simp only[lD,Qa,Qb,Qc];refine tkL 1 ?_;simp only[lD,Qa,Qb,Qc];refine tkL 2 ?_;simp only[lD,Qa,Qb,Qc];refine tkL 3 ?_;simp only[lD,Qa,Qb,Qc];refine tkL 4 ?_;simp only[lD,Qa,Qb,Qc];refine tkL 5 ?_;simp only[lD,Qa,Qb,Qc];refine tkL 6 ?_;simp only[lD,Qa,Qb,Qc];refine tkL 7 ?_;simp only[lD,Qa,Qb,Qc];refine tkL 8 ?_;simp only[lD,Qa,Qb,Qc];refine tkL 9 ?_;simp only[lD,Qa,Qb,Qc];refine JaK (i:=10) rfl (by kernel_rfl) (λK hK=>?_);go_simp;refine hK _ _ (by first|exact HCX _ (M.box wr _)|exact HCX _ (M.drewAlloc wr _)) (λ_=>?_);clear hK K
       try simp only[lD,Qa,Qb,Qc]
       refine JaK (i:=11) rfl (by kernel_rfl) (λK hK=>?_);refine JaF kH (by rfl) _ _ (by rfl) (by rfl) (by rfl) ?_;refine hK _ _ HC3 (λ_=>?_);clear hK K
       try simp only[lD,Qa,Qb,Qc]
       refine tkL 12 ?_;simp only[lD,Qa,Qb,Qc];refine wpAnyH_done (by kernel_rfl) ?_ _;show wpList _ _ _ [_] _ _;go_wp2;go_roundw
       case rel=>
        have hx:=xz.o;refine⟨m+1,R va vm vc,by omega,by go_num,?_,p5,?_,?_,?_,?_⟩
        ·rw[mJ.o,zv.o];exact jI.tch (Ts _ _ _) (λj hj e=>by have:=(jI.own j hj).1;omega)
        ·rw[zv.o];exact Qi _ _ _ _ _ _ kw.o
        ·rw[zv.o];exact((Ts w3 xb _).block _ (Jb HR30) (λe=>by omega)).trans HR30.o
        ·rw[zv.o];exact jv.trans (Ts _ _ _) (λx e=>aN (by omega))
        ·rw[zv.o];exact Qm yG (Qm Hb.size (Ts w3 xb _).size)
       case measure=>simp[intOf];omega
      ·have hcoi:3<=(o8:Int):=(by omega);have uT:J _:=HEN (λh=>yf (by have:=h m H7;rw[HWM.o,cX.o]at this;exact this));obtain⟨b0,b1⟩:=rows zA.o;obtain⟨r0,r1⟩:=rows gC.o;have fR:∀j,wr.frozen? ⟨w.heap.size,j,Y⟩=false:=λj=>Qg _ _ _ _ _ gC.o;clear cW hPs cX;go_wp2;obtain⟨p1,p2⟩:=Jd6 gC (R na nm nc) (R Y 0 0);refine QK (v:=aI #[aH #[R na nm nc,R Y 0 0],O I (-1)]) (Je results254 _ _ w.heap.size _ _ (0,0) _ rfl p1 underlying98 rfl (by kernel_rfl)) rfl ⟨?_,?_⟩
       ·exact HT.trans p2 (λx hx=>aN (by rw[hx];exact Ql _))
       ·rw[uT.o];exact⟨((na,nm,nc),(Y,0,0)),rfl⟩
     ·obtain rfl:m=c:=(by omega);have jA:¬(m:Int)<(m:Int):=(by omega);have uT:=HE yF.o;have ki:J _:=uT;have HOU:J (∀V,aB N 109 #[L s,O I ((i:Int)+1+(wc':Int))] V (Jpm s.data.toList (i+1+wc') V)):=λV=>by
       have:=Jqb s (i+1+wc') h3 hs V;rw[show ((i+1+wc':Nat):Int)=(i:Int)+1+(wc':Int) by omega]at this;exact this
      have cf:J (∀V,M D wr V->V.heap[xb]? =Z (T #[R na nm nc,R Y 0 0] 98)/\V.heap[w.heap.size]? =Z (T #[R Y 0 0,R Y 0 0] 98)):=λV hV=>⟨(hV.block _ (Jb zA) (λh=>h)).trans zA,(hV.block _ (Jb gC) (λh=>h)).trans gC⟩
      clear HE HEN uT;have HAF:J (∀(w1:aA)(v2:aG),M D wr w1->∃w2,w1.setCell ⟨xb,1,Y⟩ v2=w2/\M (λx=>x=xb) w1 w2/\w2.heap[xb]? =Z (T #[R na nm nc,v2] 98)/\w2.heap[w.heap.size]? =Z (T #[R Y 0 0,R Y 0 0] 98)):=λw1 v2 hV=>by
       obtain⟨g1,g2⟩:=cf w1 hV;refine⟨_,Qj w1 xb 1 _ _ _ _ g1,Ts _ _ _,Qi _ _ _ _ _ _ g1,((Ts w1 xb _).block _ (Jb g2) (λe=>by have:=xz.o;omega)).trans g2⟩
      cases hou:Xc s.data.toList (i+1+wc') with
      | none=>
       have ci:J (∀V,aB N 109 #[L s,O I ((i:Int)+1+(wc':Int))] V λe w'=>e=aC (aI #[R Y 0 0,O I (-1)])/\M D V w'):=λV=>(HOU V).mono (by
        rintro e w'⟨g1,g2⟩;rw[hou]at g2;exact⟨g2,g1⟩)
       rw[hou]at ki;clear HOU hou;go_upto_region 13 with(go_at_call 109;refine(ci _).mono ?_;rintro _ w1⟨rfl,H9⟩;have H5:J (M D wr w1):=H9;have g:=cf w1 H9;have q1:w1.cell? ⟨xb,1,Y⟩=Z (R Y 0 0):=(Ja g.1);have z1:w1.frozen? ⟨xb,1,Y⟩=false:=(Qg _ _ _ _ _ g.1);clear H9 g);obtain⟨w2,e2,t2,g1,g2⟩:=HAF w1 (R Y 0 0) H5.o;rw[e2];obtain⟨b0,b1⟩:=rows g1;obtain⟨r0,r1⟩:=rows g2;have fR:∀j,w2.frozen? ⟨w.heap.size,j,Y⟩=false:=λj=>Qg _ _ _ _ _ g2;have sW:J (w2.heap[w.heap.size]? =_):=g2;have jD:J (M D w w2):=(HT.trans H5 (λ_ h=>aM h)).trans t2 (λx hx=>aN (by have:=xz.o;omega));clear e2 t2 g1 g2;go_wp2;obtain⟨p1,p2⟩:=Jd6 sW (R na nm nc) (R Y 0 0);refine QK (v:=aI #[aH #[R na nm nc,R Y 0 0],O I (-1)]) (Je results254 _ _ w.heap.size _ _ (0,0) _ rfl p1 underlying98 rfl (by kernel_rfl)) rfl ⟨?_,?_⟩
       ·exact jD.trans p2 (λx hx=>aN (by rw[hx];exact Ql _))
       ·rw[ki.o];exact⟨((na,nm,nc),(Y,0,0)),rfl⟩
      | some x=>
       obtain⟨l,n⟩:=x;have ci:J (∀V,aB N 109 #[L s,O I ((i:Int)+1+(wc':Int))] V λe w'=>∃va vm vc,e=aC (aI #[R va vm vc,O I (n:Int)])/\OOwn V.heap.size w' (R va vm vc) l/\M D V w'):=λV=>(HOU V).mono (by
        rintro e w'⟨g1,g2⟩;rw[hou]at g2;obtain⟨v,he,ho⟩:=g2;obtain⟨va,vm,vc,xI⟩:=ho.shape3;subst xI;exact⟨va,vm,vc,he,ho,g1⟩)
       rw[hou]at ki;clear HOU hou;go_upto_region 13 with(go_at_call 109;refine(ci _).mono ?_;rintro _ w1⟨va,vm,vc,rfl,pC,H9⟩;have HO1:J (OOwn _ w1 _ l):=pC;have H5:J (M D wr w1):=H9;have g:=cf w1 H9;have q1:w1.cell? ⟨xb,1,Y⟩=Z (R Y 0 0):=(Ja g.1);have z1:w1.frozen? ⟨xb,1,Y⟩=false:=(Qg _ _ _ _ _ g.1);clear H9 g pC);obtain⟨w2,e2,t2,g1,g2⟩:=HAF w1 (R va vm vc) H5.o;rw[e2];obtain⟨b0,b1⟩:=rows g1;obtain⟨r0,r1⟩:=rows g2;have fR:∀j,w2.frozen? ⟨w.heap.size,j,Y⟩=false:=λj=>Qg _ _ _ _ _ g2;have sW:J (w2.heap[w.heap.size]? =_):=g2;have H6:J (M (λx=>x=xb) w1 w2):=t2;have jD:J (M D w w2):=(HT.trans H5 (λ_ h=>aM h)).trans t2 (λx hx=>aN (by have:=xz.o;omega));clear e2 t2 g1 g2;go_wp2;obtain⟨p1,p2⟩:=Jd6 sW (R na nm nc) (R va vm vc);refine QK (v:=aI #[aH #[R na nm nc,R va vm vc],O I (n:Int)]) (Je results254 _ _ w.heap.size _ _ (0,0) _ rfl p1 underlying98 rfl (by kernel_rfl)) rfl ⟨?_,?_⟩
       ·exact jD.trans p2 (λx hx=>aN (by rw[hx];exact Ql _))
       ·rw[ki.o];have Hp:=yG.o;have hx:=xz.o;refine⟨((na,nm,nc),(va,vm,vc)),rfl,?_,?_⟩
        ·have h5:=((kY.tch H5 (λ_ _ h=>h)).tch H6 (λj hj e=>by have:=(kY.own j hj).1;omega)).tch p2 (λj hj e=>by have:=(kY.own j hj).1;omega);obtain⟨k1,k2|⟨g,cap,cur,k2,k3,k4⟩⟩:=h5
         ·exact⟨k1,aM k2⟩
         ·exact⟨k1,aN ⟨g,cap,cur,k2,by omega,k4⟩⟩
        ·have h5:=(HO1.tch H6 (λj hj e=>by have:=(HO1.own j hj).1;omega)).tch p2 (λj hj e=>by have:=(HO1.own j hj).1;omega);obtain⟨k1,k2|⟨g,cap,cur,k2,k3,k4⟩⟩:=h5
         ·exact⟨k1,aM k2⟩
         ·exact⟨k1,aN ⟨g,cap,cur,k2,by omega,k4⟩⟩
   ·have p7:(s.size:Int)<(i:Int)+1+(wc':Int):=(by omega);have HE:J (Xq wj s.data.toList i=Y):=by
     show Xq _ _ _=_;unfold Xq;rw[yd,Hp,uq,if_neg (λh=>h3 h.2.2.2.1)]
    clear Hp;go_enter func254,ntmps254;go_wp2;refine QK (v:=aI #[aH #[R Y 0 0,R Y 0 0],O I (-1)]) (Je results254 _ _ w.heap.size _ _ (0,0) _ rfl (heap_alloc2_old _ _ _) underlying98 rfl (by kernel_rfl)) rfl ⟨?_,?_⟩
    ·exact(Ta D w _).trans (Ta D _ _) (λ_ h=>aM h)
    ·rw[HE.o];exact⟨((Y,0,0),(Y,0,0)),rfl⟩
  ·rcases Nat.lt_or_ge c 1 with h2l|h2l
   ·have h2j:(c:Int)<1:=(by omega);have HE:J (Xq wj s.data.toList i=Y):=by
     show Xq _ _ _=_;unfold Xq;rw[yd,if_neg (λh=>h2 ⟨h.2.1,h.2.2.1⟩)]
    clear Hp;go_enter func254,ntmps254;go_wp2;refine QK (v:=aI #[aH #[R Y 0 0,R Y 0 0],O I (-1)]) (Je results254 _ _ w.heap.size _ _ (0,0) _ rfl (heap_alloc2_old _ _ _) underlying98 rfl (by kernel_rfl)) rfl ⟨?_,?_⟩
    ·exact(Ta D w _).trans (Ta D _ _) (λ_ h=>aM h)
    ·rw[HE.o];exact⟨((Y,0,0),(Y,0,0)),rfl⟩
   ·have h2j:¬(c:Int)<1:=(by omega);have h2k:3<(c:Int):=(by omega);have HE:J (Xq wj s.data.toList i=Y):=by
     show Xq _ _ _=_;unfold Xq;rw[yd,if_neg (λh=>h2 ⟨h.2.1,h.2.2.1⟩)]
    clear Hp;go_enter func254,ntmps254;go_wp2;refine QK (v:=aI #[aH #[R Y 0 0,R Y 0 0],O I (-1)]) (Je results254 _ _ w.heap.size _ _ (0,0) _ rfl (heap_alloc2_old _ _ _) underlying98 rfl (by kernel_rfl)) rfl ⟨?_,?_⟩
    ·exact(Ta D w _).trans (Ta D _ _) (λ_ h=>aM h)
    ·rw[HE.o];exact⟨((Y,0,0),(Y,0,0)),rfl⟩
 ·have h1n:(s.size:Int)<=(i:Int):=by omega
  have HE:J (Xq wj s.data.toList i=Y):=by show Xq _ _ _=_;unfold Xq;rw[Hp,if_neg (λh=>h1 h.1)]
  clear Hp;go_enter func254,ntmps254;go_wp2;refine QK (v:=aI #[aH #[R Y 0 0,R Y 0 0],O I (-1)]) (Je results254 _ _ w.heap.size _ _ (0,0) _ rfl (heap_alloc2_old _ _ _) underlying98 rfl (by kernel_rfl)) rfl ⟨?_,?_⟩
  ·exact(Ta D w _).trans (Ta D _ _) (λ_ h=>aM h)
  ·rw[HE.o];exact⟨((Y,0,0),(Y,0,0)),rfl⟩


def Zp(base:Nat)(w:aA)(v:aG)(ts:List TxL):Prop:=
 ∃l:List (Sl×Sl),TOwn base w v l/\l.length=ts.length/\∀(j:Nat) x t,l[j]? =Z x->ts[j]? =Z t->COwn base w (R x.1.1 x.1.2.1 x.1.2.2) t.1/\OOwn base w (R x.2.1 x.2.2.1 x.2.2.2) t.2
theorem JeT{b:Nat}{cs:List (BA×Int)}{l:List (Sl×Sl)}(h:COwn b w v cs)(h2:TOwn b' w v2 l):∀j,v.ownBlock=Z j->¬Z j=v2.ownBlock:=by
 intro j hj zG;obtain⟨_,⟨rfl,_⟩|⟨g,cap,cur,rfl,_,hZ,_⟩⟩:=h
 ·cases hj
 obtain⟨_,⟨rfl,_⟩|⟨g',cap',cur',rfl,_,qi,_⟩⟩:=h2
 ·cases zG
 cases hj
 cases zG
 rw[hZ]at qi;simp at qi
theorem Jgl{b:Nat}{cs:List (Nat×Nat)}{l:List (Sl×Sl)}(h:OOwn b w v cs)(h2:TOwn b' w v2 l):∀j,v.ownBlock=Z j->¬Z j=v2.ownBlock:=by
 intro j hj zG;obtain⟨_,⟨rfl,_⟩|⟨g,cap,cur,rfl,_,hZ,_⟩⟩:=h
 ·cases hj
 obtain⟨_,⟨rfl,_⟩|⟨g',cap',cur',rfl,_,qi,_⟩⟩:=h2
 ·cases zG
 cases hj
 cases zG
 rw[hZ]at qi;simp at qi
theorem Zp.tch(h:Zp base w v ts)(k:M D w w'):Zp base w' v ts:=by
 obtain⟨l,h1,h2,h3⟩:=h;exact⟨l,h1.tch k (λ_ _ e=>e),h2,λj x t hx ht=>⟨(h3 j x t hx ht).1.tch k (λ_ _ e=>e),(h3 j x t hx ht).2.tch k (λ_ _ e=>e)⟩⟩
theorem Zp.push{W:aA}{lt:List (Sl×Sl)}{x:Sl×Sl}(h1:TOwn base W v lt)(h2:lt.length=ts.length)(h3:∀(j:Nat) x t,lt[j]? =Z x->ts[j]? =Z t->COwn base W (R x.1.1 x.1.2.1 x.1.2.2) t.1/\OOwn base W (R x.2.1 x.2.2.1 x.2.2.2) t.2)
 (hc:COwn base W (R x.1.1 x.1.2.1 x.1.2.2) t.1) (ho:OOwn base W (R x.2.1 x.2.2.1 x.2.2.2) t.2) (hn:TOwn base w3 v3 (lt++[x])) (hg:World.grownBy W w3 v.ownBlock):Zp base w3 v3 (ts++[t]):=by
 refine⟨lt++[x],hn,by simp[h2],λj y u hy hu=>?_⟩;have jk:COwn base W (R y.1.1 y.1.2.1 y.1.2.2) u.1/\OOwn base W (R y.2.1 y.2.2.1 y.2.2.2) u.2:=by
  by_cases hj:j<lt.length
  ·rw[QF hj]at hy;rw[QF (by omega)]at hu;exact h3 j y u hy hu
  ·rw[Qz (by omega)]at hy;rw[Qz (by omega)]at hu;have e1:j-lt.length=0:=(by have:=(Qo.1 hy).1;simp at this;omega);rw[e1]at hy;rw[<-h2,e1]at hu;simp only[lP,Qh]at hy hu;subst hy;subst hu;exact⟨hc,ho⟩
 exact⟨jk.1.tch (Tg hg) (JeT jk.1 h1),jk.2.tch (Tg hg) (Jgl jk.2 h1)⟩

def Jde(ts:List TxL)(r:Option (List TxL×Nat)):Option (List TxL×Nat):=r.map λx=>(ts++x.1,x.2)
theorem Jjt(wj:Nat)(s:List UInt8)(ts:List TxL)(n i:Nat)(t:TxL)(j:Nat)(h:Xq wj s i=Z (t,j)):Jde ts (Xf wj s (n+1) i)=Jde (ts++[t]) (Xf wj s n j):=by
 simp only[Xf,h]
 cases Xf wj s n j with
 | none=>rfl
 | some y=>simp[Jde]
theorem Jju(wj:Nat)(s:List UInt8)(ts:List TxL)(n i:Nat)(h:Xq wj s i=Y):Jde ts (Xf wj s (n+1) i)=Y:=by
 simp only[Xf,h];rfl
theorem JoK(W:aA)(o:Obj)(x:Sl×Sl):Xa (W.heap.size+1+1) ((W.alloc o).alloc (T #[R x.1.1 x.1.2.1 x.1.2.2,R x.2.1 x.2.2.1 x.2.2.2] 98)) (R (Z ⟨W.heap.size+1,0,Y⟩) 1 1) [x]:=by
 have:=Jp1 (W.alloc o) x;rw[show (W.alloc o).heap.size=W.heap.size+1 by simp]at this;exact this
def Jpl(wj:Nat)(s:List UInt8)(w:aA)(e:Ending)(w':aA):Prop:=
 M D w w'/\match Ym wj s with
 | none=>∃v:aG,e=aC (aI #[v,aL false])
 | some ts=>∃v,e=aC (aI #[v,aL true])/\Zp w.heap.size w' v ts
theorem Jp9(wj:Nat)(Hn:1<=wj)(hw:wj<=32)(s:BA)(hs:s.size<=10000000)(w:aA):
  aB N 170 #[O I (wj:Int),L s] w (Jpl wj s.data.toList w):=by
 have Hp:s.data.toList.length=s.size:=by rw[QA];rfl
 by_cases h1:0<s.size
 ·have h1i:(0:Int)<(s.size:Int):=by omega
  have hem:s.toList.isEmpty=false:=by
   rw[ByteArray.toList_eq]
   cases hd:s.data.toList with
   | nil=>rw[hd]at Hp;simp at Hp;omega
   | cons a r=>rfl
  have yd:=Zk s 0 h1;obtain⟨c,hc⟩:∃c:Nat,s[0].toNat=c:=⟨_,rfl⟩
  have yv:=lQ s[0];rw[hc]at yd yv;have wc:I.wrap (c:Int)=(c:Int):=w63 _ (by omega) (by omega)
  by_cases h2:c<=3
  ·have cL:¬3<(c:Int):=(by omega);have HE:J (∀x,Xf wj s.data.toList c 1=x->Ym wj s.data.toList=match x with|none=>Y|some (ts,j)=>if j=s.size then Z ts else Y):=by
    rintro x rfl;unfold Ym;rw[yd,Hp,if_pos ⟨by omega,h2⟩];rfl
   go_enter func170,ntmps170;go_wp2;go_loopw [6,7,8] (λvl va vi wr=>∃(m j:Nat)(ts:List TxL),m<=c/\vi=O I (m:Int)/\va=O I (j:Int)/\j<=s.size/\J (ts.length=m)/\J (Zp w.heap.size wr vl ts)/\J (Xf wj s.data.toList c 1=Jde ts (Xf wj s.data.toList (c-m) j))/\J (M D w wr)) (λ_ _ vi _=>c-(intOf vi).toNat)
   case atStart=>
    refine⟨0,1,[],by omega,rfl,rfl,by omega,rfl,⟨[],TOwn.nil _ _,rfl,λj x t h=>by simp at h⟩,?_,Te _ _⟩;show Xf _ _ _ _=_
    cases h:Xf wj s.data.toList c 1<;>simp[Jde]
   case round=>
    obtain⟨m,j,ts,hm,rfl,rfl,hj,pY,kY,ki,HT⟩:=hrel;have h0i:=h1i
    by_cases H7:m<c
    ·have tH:(m:Int)<(c:Int):=(by omega);have HR:=λV=>r_tx wj Hn hw s j hj hs V;have sw:J _:=HR;obtain⟨k,hk⟩:∃k,c-m=k+1:=⟨c-m-1,by omega⟩
     rw[hk]at ki;have HKK:J (c-(m+1)=k):=(by omega:c-(m+1)=k)
     cases uP:Xq wj s.data.toList j with
     | none=>
      have cl:J (∀V,aB N 254 #[O I (wj:Int),L s,O I (j:Int)] V λe w'=>∃x:Sl×Sl,e=aC (aI #[aH #[R x.1.1 x.1.2.1 x.1.2.2,R x.2.1 x.2.2.1 x.2.2.2],O I (-1)])/\M D V w'):=λV=>(sw V).mono (by
       rintro e w'⟨g1,g2⟩;rw[uP]at g2;obtain⟨x,he⟩:=g2;exact⟨x,he,g1⟩)
      have HEN:J (Ym wj s.data.toList=Y):=(by rw[Jju wj s.data.toList ts k j uP]at ki;exact HE _ ki.o);go_wp2_with (go_at_call 254;refine(cl _).mono ?_;rintro _ w1⟨x,rfl,(H5:J _)⟩);go_ret2;refine⟨(HT.trans H5 (λ_ h=>aM h)).trans (Ta D _ _) (λ_ h=>aM h),?_⟩;rw[HEN.o];exact⟨_,rfl⟩
     | some y=>
      obtain⟨t,n⟩:=y;have hn:=(Jcp uP).1;have Hp:s.data.toList.length=s.size:=(by rw[QA];rfl);rw[Hp]at hn;simp only at hn;have cl:J (∀V,M D w V->aB N 254 #[O I (wj:Int),L s,O I (j:Int)] V λe w'=>∃x:Sl×Sl,e=aC (aI #[aH #[R x.1.1 x.1.2.1 x.1.2.2,R x.2.1 x.2.2.1 x.2.2.2],O I (n:Int)])/\(COwn w.heap.size w' (R x.1.1 x.1.2.1 x.1.2.2) t.1/\OOwn w.heap.size w' (R x.2.1 x.2.2.1 x.2.2.2) t.2)/\M D V w'):=λV hV=>(sw V).mono (by
       rintro e w'⟨g1,g2⟩;rw[uP]at g2;obtain⟨x,he,hc1,pC⟩:=g2;refine⟨x,he,⟨?_,?_⟩,g1⟩
       ·obtain⟨k1,k2|⟨g,cap,cur,k2,k3,k4⟩⟩:=hc1
        ·exact⟨k1,aM k2⟩
        ·exact⟨k1,aN ⟨g,cap,cur,k2,Qm hV.size k3,k4⟩⟩
       ·obtain⟨k1,k2|⟨g,cap,cur,k2,k3,k4⟩⟩:=pC
        ·exact⟨k1,aM k2⟩
        ·exact⟨k1,aN ⟨g,cap,cur,k2,Qm hV.size k3,k4⟩⟩)
      have zi:J (Xf wj s.data.toList c 1=Jde (ts++[t]) (Xf wj s.data.toList k n)):=(by show Xf _ _ _ _=_;rw[ki.o];exact Jjt wj s.data.toList ts k j t n uP);have hn0:¬(n:Int)<0:=(by omega);obtain⟨lt,pF,(xJ:J _),(eD:J _)⟩:=kY.o;obtain⟨ta,tm,tc,vT⟩:=pF.shape3;subst vT;have n4:J (TOwn w.heap.size wr (R ta tm tc) lt):=pF;clear pF kY;go_wp2_with (first
       | (go_at_call 254;refine(cl _ HT).mono ?_;rintro _ w1⟨x,rfl,(nX:J _),(H5:J _)⟩)
       | (at_builtin;refine JcT rfl _ _ rfl rfl (n4.tch ((H5.trans (Ta D w1 _) (λ_ h=>aM h)).trans (Ta D _ _) (λ_ h=>aM h)) (λ_ _ h=>h)) _ _ [x] rfl (JoK w1 _ x) (by rw[xJ.o,pY.o];simp;omega) (Qm HT.size (Qm H5.size (Qm (Ta D w1 _).size (Ta D _ _).size))) ?_;intro v3 w3 (jI:J _) (zj:J _)))
      go_roundw
      case rel=>
       have t12:M D wr ((w1.alloc (T #[R x.1.1 x.1.2.1 x.1.2.2,R x.2.1 x.2.2.1 x.2.2.2] 98)).alloc (T #[R x.1.1 x.1.2.1 x.1.2.2,R x.2.1 x.2.2.1 x.2.2.2] 98)):=(H5.trans (Ta D w1 _) (λ_ h=>aM h)).trans (Ta D _ _) (λ_ h=>aM h);have t1:M D w1 ((w1.alloc (T #[R x.1.1 x.1.2.1 x.1.2.2,R x.2.1 x.2.2.1 x.2.2.2] 98)).alloc (T #[R x.1.1 x.1.2.1 x.1.2.2,R x.2.1 x.2.2.1 x.2.2.2] 98)):=(Ta D w1 _).trans (Ta D _ _) (λ_ h=>aM h);refine⟨m+1,n,ts++[t],by omega,by go_num,rfl,hn,by show (ts++[t]).length=m+1;rw[Qe,pY.o];rfl,?_,by show Xf _ _ _ _=_;rw[HKK.o];exact zi,?_⟩
       ·exact Zp.push (x:=x) (n4.tch t12 (λ_ _ h=>h)) xJ (λj x t hx ht=>⟨(eD j x t hx ht).1.tch t12 (λ_ _ h=>h),(eD j x t hx ht).2.tch t12 (λ_ _ h=>h)⟩) (nX.1.tch t1 (λ_ _ h=>h)) (nX.2.tch t1 (λ_ _ h=>h)) jI zj.o
       ·exact(HT.trans t12 (λ_ h=>aM h)).trans (Tg zj) (λj hj=>aN (n4.own j hj.symm).1)
      case measure=>simp[intOf];omega
    ·obtain rfl:m=c:=(by omega);have jA:¬(m:Int)<(m:Int):=(by omega);have HB:=HE _ ki.o;rw[l5]at HB;simp only[Xf,Jde,Option.map_some,QC]at HB;have zJ:J _:=HB;obtain⟨lt,pF,_⟩:=kY.o;obtain⟨ta,tm,tc,vT⟩:=pF.shape3;subst vT
     by_cases he:j=s.size
     ·have hei:(j:Int)=(s.size:Int):=(by omega);have HF:J (Ym wj s.data.toList=Z ts):=(by show Ym _ _=_;rw[zJ.o,if_pos he]);have HEB:J (((j:Int) == (s.size:Int))=true):=(by show _=true;simp[he]);go_wp2;go_ret2;refine⟨HT,?_⟩;rw[HF.o];refine⟨R ta tm tc,?_,kY⟩
      first
       | rfl
       | (show lf (aI #[R ta tm tc,aL ((j:Int) == (s.size:Int))])=_;rw[HEB.o])
     ·have hei:¬(j:Int)=(s.size:Int):=(by omega);have HF:J (Ym wj s.data.toList=Y):=(by show Ym _ _=_;rw[zJ.o,if_neg he]);have HEB:J (((j:Int) == (s.size:Int))=false):=(by show _=false;simp[hei]);go_wp2;go_ret2;refine⟨HT,?_⟩;rw[HF.o];refine⟨R ta tm tc,?_⟩
      first
       | rfl
       | (show lf (aI #[R ta tm tc,aL ((j:Int) == (s.size:Int))])=_;rw[HEB.o])
  ·have cL:3<(c:Int):=(by omega);have HE:J (Ym wj s.data.toList=Y):=by
    show Ym _ _=_;unfold Ym;rw[yd,if_neg (λh=>h2 h.2)]
   go_enter func170,ntmps170;go_wp2;go_ret2;exact⟨Te _ _,by rw[HE.o];exact⟨_,rfl⟩⟩
 ·have hem:s.toList.isEmpty=true:=by
   rw[ByteArray.toList_eq,QP (show s.data.toList.length=0 by omega)];rfl
  have HE:J (Ym wj s.data.toList=Y):=by show Ym _ _=_;unfold Ym;rw[Hp,if_neg (λh=>by omega)]
  go_enter func170,ntmps170;go_wp2;go_ret2;exact⟨Te _ _,by rw[HE.o];exact⟨_,rfl⟩⟩

theorem XM(s:List UInt8)(i a b:Nat):(s.drop i).take a++(s.drop (i+a)).take b=(s.drop i).take (a+b):=by
 rw[List.take_add,List.drop_drop]
theorem Ja0(s:List UInt8)(i:Nat)(h:i<s.length):Hf (Js s i) 1 1=(s.drop i).take 1:=by
 rw[<-Jbj s i h];exact ZD _ 1 (by rw[QB,lG];omega)
theorem Jgk(s:List UInt8)(i:Nat)(h:i+9<=s.length):outB (jQ s i)=(s.drop i).take 9:=by
 unfold outB jQ;rw[ZD _ 8 (by rw[QB,lG];omega),Ja0 s (i+8) (by omega)];exact XM s i 8 1
theorem Jd4(s:List UInt8):∀(n i:Nat),i+9*n<=s.length->(YX s i n).flatMap outB=(s.drop i).take (9*n)
 | 0,i,_=>by simp[YX]
 | n+1,i,h=>by
  rw[Jd3,QG,Jgk s i (by omega),Jd4 s n (i+9) (by omega),XM,show 9+9*n=9*(n+1) by omega]
theorem Jgm(s:List UInt8)(i n:Nat):(YX s i n).length=n:=by simp[YX]
theorem Je1{x:List (Nat×Nat)×Nat}(h:Xc s i=Z x):Jz x.1=(s.drop i).take (x.2-i):=by
 unfold Xc at h
 split at h
 ·rename_i hc
  cases h
  simp only;unfold Jz;rw[Jgm,Ja0 s i hc.1,Jd4 s _ (i+1) hc.2.2,XM,show i+1+9*Js s i-i=1+9*Js s i by omega]
 ·cases h
theorem Job(wj:Nat)(s:List UInt8)(i:Nat)(h:i+(wj+1)<=s.length):Jc (Jbq wj s i)=(s.drop i).take (wj+1):=by
 unfold Jc Jbq;have hb:Js s (i+wj)<256:=lQ _;have hx:JD (Js s (i+wj):Int)=Js s (i+wj):=by unfold JD;omega
 simp only;rw[hx,Ja0 s (i+wj) (by omega)];exact XM s i wj 1
theorem JcZ(wj:Nat)(s:List UInt8):∀(n i:Nat),i+(wj+1)*n<=s.length->(XW wj s i n).flatMap Jc=(s.drop i).take ((wj+1)*n)
 | 0,i,_=>by simp[XW]
 | n+1,i,h=>by
  have rN:(wj+1)*(n+1)=(wj+1)+(wj+1)*n:=by rw[Nat.mul_add];omega
  rw[JcY,QG,Job wj s i (by omega),JcZ wj s n (i+(wj+1)) (by omega),XM,rN]
theorem JeU(wj:Nat)(s:List UInt8)(i n:Nat):(XW wj s i n).length=n:=by simp[XW]
theorem Jie{x:TxL×Nat}(h:Xq wj s i=Z x):txB x.1=(s.drop i).take (x.2-i):=by
 unfold Xq at h
 split at h
 ·rename_i hc;obtain⟨y,hy,rfl⟩:=Option.map_eq_some_iff.1 h;have h1:=Je1 hy;have h2:=Jd2 hy;simp only;unfold txB JdX;simp only;rw[h1,JeU,Ja0 s i hc.1,JcZ wj s _ (i+1) hc.2.2.2.1,XM,show i+1+(wj+1)*Js s i=i+(1+(wj+1)*Js s i) by omega,XM]
  congr 1
  omega
 ·cases h
theorem Jcq:∀(n i:Nat){x:List TxL×Nat},Xf wj s n i=Z x->x.1.length=n/\i<=x.2/\x.1.flatMap txB=(s.drop i).take (x.2-i)
 | 0,i,x,h=>by cases h;simp
 | n+1,i,x,h=>by
  simp only[Xf]at h
  cases ht:Xq wj s i with
  | none=>rw[ht]at h;cases h
  | some y=>
   obtain⟨t,j⟩:=y;rw[ht]at h;simp only at h
   cases hr:Xf wj s n j with
   | none=>rw[hr]at h;cases h
   | some z=>
    obtain⟨ts,k⟩:=z;rw[hr]at h
    cases h
    have h1:=Jie ht;have h2:=(Jcp ht).2;obtain⟨g1,g2,g3⟩:=Jcq (x:=(ts,k)) n j hr;simp only at h1 h2 g1 g2 g3;refine⟨by simp[g1],by show i<=k;omega,?_⟩;simp only;rw[QG,h1,g3];have e:j=i+(j-i):=(by omega);have:=XM s i (j-i) (k-j);rw[<-e]at this;rw[this]
    congr 1
    omega
theorem JgU(h:Ym wj s=Z ts):JL ts=s:=by
 unfold Ym at h
 split at h
 ·rename_i hc
  cases ht:Xf wj s (Js s 0) 1 with
  | none=>rw[ht]at h;cases h
  | some y=>
   obtain⟨us,j⟩:=y;rw[ht]at h;simp only at h
   split at h
   ·rename_i he
    cases h
    obtain⟨g1,g2,g3⟩:=Jcq (x:=(ts,j)) _ _ ht;simp only at g1 g2 g3;unfold JL;rw[g1,g3,Ja0 s 0 (by omega),he];have:=XM s 0 1 (s.length-1);rw[show (0:Nat)+1=1 from rfl]at this;rw[this,List.drop_zero,QS (by omega)]
   ·cases h
 ·cases h

theorem Zs.kind{l:List Lv}(h:Zs base w v l):∀j,v.ownBlock=Z j->∃cur m,w.heap[j]? =Z (T cur 205 m):=by
 obtain⟨_,⟨rfl,h0⟩|⟨g,cap,cur,rfl,hb,hZ,_⟩⟩:=h
 ·intro k hk;cases hk
 ·intro k hk;cases hk;exact⟨_,_,hZ⟩
theorem Jep{cs:Array aG}{m:Nat×Nat}(h:w.heap[rb]? =Z (T cs 208 m))(h':Zs base w v lv):v.ownBlock ≠ Z rb:=by
 intro e;obtain⟨c,m,hr⟩:=h'.kind rb e;rw[h]at hr;simp at hr
theorem JoT{wD w5:aA}{cap:Nat}{aW hd:BA}{x:Lv}{st:Option Tr}
 (h0:RfAt wj base w rb G ch (R (Z ⟨g,0,Y⟩) ch.length cap) lv b) (tD:M D w wD) (t3:M (λj=>j=g) wD w3) (t5:M (λj=>j=rb) w3 w5)
 (h3:Zs base w3 v3 (lv++[x])) (tV:∀j,v3.ownBlock=Z j->j=g\/wD.heap.size<=j)
 (hR5:w5.heap[rb]? =Z (T #[O I (wj:Int),v3,O I 0,L aW] 208)) (a7:aW.size<=b.size+1000)
 (hl:∃l:List Hd,RhAt wD (R x.2.1 x.2.2.1 x.2.2.2) l/\Book wj st l/\l.length<=9*(ch.length+1)/\∀j,(lS x.2.1 x.2.2.1 x.2.2.2).ownBlock=Z j->G j\/w.heap.size<=j)
 (hh:HdOk wj (lvH ch.length x)/\hd=⟨(Ht (lvH ch.length x)).toArray⟩) (jG:base<=w.heap.size):
  M G w w5/\∃G' vL lv b,RfAt wj base w5 rb G' (ch++[(hd,st)]) vL lv b/\∀j,G' j->G j\/w.heap.size<=j:=by
 have hGg:G g:=h0.vG g rfl;have tD3:M (λj=>j=g\/j=rb) wD w3:=t3.mono (λ_ h=>aM (aM h));have tD5:=tD3.trans t5 (λj h=>aM (Or.inr h));have tG:M G w w5:=(tD.mono noE).trans tD5 (λj hj=>aM (by
  rcases hj with e|e
  ·rw[e];exact hGg
  ·rw[e];exact h0.rbG))
 obtain⟨cg,mg,kg⟩:=h0.lvs.kind g rfl;have rO:=h0.len.1;obtain⟨l,qB,qS,zH,hl4⟩:=hl;have s1:=tD.size;have s2:=t3.size;have s3:=t5.size;have s4:=tD5.size
 -- what holds coins is neither the ledger's block nor its heights' one
 have Hl:∀V,M D w V->∀(v:aG)(l:List Hd),RhAt V v l->∀j,v.ownBlock=Z j->¬(j=g\/j=rb):=λV hV v l h j hj e=>by
  obtain⟨_,cs,m,hk⟩:=h.own j hj
  rcases e with e|e
  ·subst e;rw[(hV.block j (Jb kg) (λh=>h)).trans kg]at hk;simp at hk
  ·subst e;rw[(hV.block j (Jb h0.row) (λh=>h)).trans h0.row]at hk;simp at hk
 refine⟨tG,λj=>G j\/v3.ownBlock=Z j\/(lS x.2.1 x.2.2.1 x.2.2.2).ownBlock=Z j,v3,lv++[x],aW,?_,?_⟩
 ·refine⟨hR5,?_,aM h0.rbG,λj hj=>aN (aM hj),?_,?_,?_,?_,?_,?_⟩
  ·have k8:w3.heap[rb]? =Z (T #[O I (wj:Int),R (Z ⟨g,0,Y⟩) ch.length cap,O I 0,L b] 208):=by
    have hrD:=(tD.block rb (Jb h0.row) (λh=>h)).trans h0.row;refine(t3.block rb (Jb hrD) (λe=>?_)).trans hrD;subst e;exact Jep h0.row h0.lvs rfl
   exact h3.tch t5 (λj hj e=>by subst e;exact Jep k8 h3 hj)
  ·intro y hy j hj
   rcases QE.1 hy with hy|hy
   ·exact aM (h0.cG y hy j hj)
   ·obtain rfl:y=x:=(by simpa using hy);exact aN (aN hj)
  ·intro j hj
   rcases hj with hj|hj|hj
   ·have:=h0.own j hj;exact⟨this.1,by omega⟩
   ·have:=h3.own j hj;exact⟨this.1,by omega⟩
   ·have h8:=(qB.own j hj).1;refine⟨?_,by omega⟩
    rcases hl4 j hj with h|h
    ·exact(h0.own j h).1
    ·omega
  ·rw[Qe,Qe,rO];exact⟨rfl,by simp⟩
  ·intro i y c hy hc
   by_cases hi:i<ch.length
   ·rw[QF (by omega)]at hy hc;exact h0.hdr i y c hy hc
   ·rw[Qz (by omega)]at hy hc;obtain rfl:i=ch.length:=by
     have:=(Qo.1 hc).1;simp at this;omega
    rw[rO,l5]at hy;rw[l5]at hc;simp only[lP,Qh]at hy hc;subst hy;subst hc;exact hh
  ·intro i y c hy hc
   by_cases hi:i<ch.length
   ·rw[QF (by omega)]at hy hc;obtain⟨l',p1,p2,p3⟩:=h0.coins i y c hy hc;exact⟨l',(p1.tch0 tD).tch tD5 (Hl wD tD _ _ (p1.tch0 tD)),p2,p3⟩
   ·rw[Qz (by omega)]at hy hc;obtain rfl:i=ch.length:=by
     have:=(Qo.1 hc).1;simp at this;omega
    rw[rO,l5]at hy;rw[l5]at hc;simp only[lP,Qh]at hy hc;subst hy;subst hc;exact⟨l,qB.tch tD5 (Hl wD tD _ _ qB),qS,zH⟩
  ·rw[Qe];have:=h0.log;show aW.size<=1000*(ch.length+1);omega
 ·intro j hj
  rcases hj with hj|hj|hj
  ·exact aM hj
  ·rcases tV j hj with h|h
   ·rw[h];exact aM hGg
   ·exact aN (by omega)
  ·exact hl4 j hj

theorem JlZ(hw:wj<=32)(h:Ym wj s=Z ts):s.length<=385/\ts.length<=3/\∀t∈ts,TxOk wj t:=by
 rw[<-JdG wj []]at h
 cases hb:(PS.rd [] s).body wj [] with
 | none=>rw[hb]at h;cases h
 | some x=>
  obtain⟨us,p⟩:=x;rw[hb]at h;obtain⟨b,r',h1,h2,h3,h4⟩:=Jam wj hw _ _ _ _ hb;subst h3
  cases r' with
  | cons a r=>cases h
  | nil=>
   cases h
   rw[h2,QC];exact⟨h1,h4⟩
theorem Jql(h:Zp base w v ts):∃sl,TxsR w.heap.size w v sl/\TxIs w.heap.size w ts sl:=by
 obtain⟨l,h1,h2,h3⟩:=h;refine⟨l,h1.at.raw,h2.symm,λi hi yW=>?_⟩;have:=h3 i _ _ (Qd yW) (Qd hi);exact⟨this.1.at.raw,this.2.at.raw⟩
def RSub(wj base rb:Nat)(G:Nat->Prop)(ch:Ch)(t:List UInt8)(w:aA)(e:Ending)(w':aA):Prop:=
 match Xw wj ch t with
 | .error er=>e=aC (O I (Xr er))/\M D w w'
 | .ok ch'=>e=aC (O I 0)/\M G w w'/\∃G' vL lv b,RfAt wj base w' rb G' ch' vL lv b/\∀j,G' j->G j\/w.heap.size<=j
theorem Jm5(hD:DgC)(Hn:1<=wj)(hw:wj<=32)(h:RfAt wj base w rb G ch vL lv b)(hl:ch.length<=1000000)(jG:base<=w.heap.size)(aY:BA)(hT:aY.size<=10000000):
  aB N 110 #[X (Z ⟨rb,0,Y⟩),L aY] w (RSub wj base rb G ch aY.data.toList w):=by
 have h1:=h.len.2;have Hl:lv ≠ []:=λe=>by have:=h.len;rw[e]at this;simp at this;omega
 obtain⟨g,cap,un,hg,_⟩:=h.lvs.at Hl;rw[h.len.1]at un;subst un;have qv:J (∀V,M D w V->_):=λV hV=>h.tch hV (λ_ e=>e.elim);have HP:J (∀V,M D w V->V.cell? ⟨rb,0,Y⟩=Z (O I (wj:Int))/\V.cell? ⟨rb,1,Y⟩=Z (R (Z ⟨g,0,Y⟩) ch.length cap)):=λV hV=>by
  have hr:=(qv V hV).row;exact⟨Ja hr,Ja hr⟩
 have Hp:aY.data.toList.length=aY.size:=by rw[QA];rfl
 obtain⟨z0,z1⟩:=HP w (Te _ _);obtain⟨aZ,hN⟩:∃aZ:Nat,4+3*wj=aZ:=⟨_,rfl⟩
 have wn:I.wrap (3*(wj:Int))=3*(wj:Int):=w63 _ (by omega) (by omega);have wn2:I.wrap (4+3*(wj:Int))=(aZ:Int):=by rw[w63 _ (by omega) (by omega)];omega
 clear h Hl
 by_cases hshort:aY.size<aZ
 ·have hsi:(aY.size:Int)<(aZ:Int):=by omega
  have HE:J (Xw wj ch aY.data.toList=.error .form):=by show Xw _ _ _=_;unfold Xw;rw[hN,Hp,if_pos hshort]
  clear Hp hN;go_enter func110,ntmps110;go_wp2;go_ret;show RSub _ _ _ _ _ _ _ _ _;unfold RSub;rw[HE.o];exact⟨rfl,Te _ _⟩
 ·have hsi:¬(aY.size:Int)<(aZ:Int):=by omega
  have hNl:(aZ:Int)<=(aY.size:Int):=by omega
  obtain⟨S1,sO⟩:∃S1:BA,aY.extract aZ aY.size=S1:=⟨_,rfl⟩
  have gF:J (S1.data.toList=aY.data.toList.drop aZ):=by show _=_;rw[<-sO,lF,lI,lE,QS];rw[lG,Hp];omega
  have hS1s:S1.size<=10000000:=by rw[<-sO,lX];omega
  have tY:J (∀V,aB N 170 #[O I (wj:Int),L S1] V (Jpl wj (aY.data.toList.drop aZ) V)):=λV=>by
   have:=Jp9 wj Hn hw S1 hS1s V;rw[gF.o]at this;exact this
  cases hb:Ym wj (aY.data.toList.drop aZ) with
  | none=>
   have nN:J (∀V,aB N 170 #[O I (wj:Int),L S1] V λe w'=>∃v,e=aC (aI #[v,aL false])/\M D V w'):=λV=>(tY V).mono (by
    rintro e w'⟨g1,g2⟩;rw[hb]at g2;obtain⟨v,he⟩:=g2;exact⟨v,he,g1⟩)
   have HE:J (Xw wj ch aY.data.toList=.error .form):=(by show Xw _ _ _=_;unfold Xw;rw[hN,Hp,if_neg hshort,hb]);clear Hp hN hb tY gF;go_enter func110,ntmps110;go_upto_region 4 with fail;go_cut [6,7] (λ_ v7 wx=>v7=aL false/\J (M D w wx))
   case first=>
    go_region_held3 (λV=>V.cell? ⟨rb,0,Y⟩=Z (O I (wj:Int))) (go_keep) ((go_at_call 170;refine(nN _).mono ?_;rintro _ w1⟨v,rfl,H9⟩;have H5:J _:=(Td D w 1).trans H9 (λ_ h=>aM h);have y0:=(HP w1 H5).1;clear H9))
    all_goals go_wp2;go_meet;exact⟨rfl,H5⟩
   case rest=>
   obtain⟨rfl,H5⟩:=hcut;go_wp2;go_ret;show RSub _ _ _ _ _ _ _ _ _;unfold RSub;rw[HE.o];exact⟨rfl,H5⟩
  | some ts=>
   obtain⟨xU,h3,ho⟩:=JlZ hw hb;have zJ:J _:=JgU hb;have nN:J (∀V,aB N 170 #[O I (wj:Int),L S1] V λe w'=>∃va vm vc,e=aC (aI #[R va vm vc,aL true])/\Zp V.heap.size w' (R va vm vc) ts/\M D V w'):=λV=>(tY V).mono (by
    rintro e w'⟨g1,g2⟩;rw[hb]at g2;obtain⟨v,he,hv⟩:=g2;obtain⟨l,qM,_⟩:=id hv;obtain⟨va,vm,vc,hs⟩:=qM.shape3;subst hs;exact⟨va,vm,vc,he,hv,g1⟩)
   have zK:=Jhq ch h1;obtain⟨m,hm⟩:∃m:Nat,ch.length=m+1:=⟨ch.length-1,by omega⟩
   rw[show ch.length-1=m by omega]at zK;have vu:J (∀V,M D w V->aB N 118 #[X (Z ⟨rb,0,Y⟩)] V λe w'=>e=aC (O I (m:Int))/\M D V w'):=λV hV=>by
    have:=JhM (qv V hV) (by omega);rw[show (ch.length:Int)-1=(m:Int) by omega]at this;exact this
   have HM:J _:=hm;obtain⟨D1,mT⟩:∃D1,H3 wj (72::ch.last.1.data.toList)=D1:=⟨_,rfl⟩
   have hD1s:D1.size=wj:=(by rw[<-mT];exact Jk wj hw _);have zy:J (∀V,M D w V->aB N 172 #[X (Z ⟨rb,0,Y⟩),O I (m:Int)] V λe w'=>e=aC (L D1)/\M D V w'):=λV hV=>by
    have:=r_id hD Hn hw (qv V hV) (by omega) m ch.last zK;rw[mT]at this;exact this
   have yw:J (∀V,_):=λV=>XU ch.length 4 V (by omega);have zh:lO.wrap (ch.length:Int)=(ch.length:Int):=(by simp[lJ,lK,lH];omega);have hS1l:S1.data.toList.length<=385:=(by rw[gF.o];exact xU);have a1:=JO [66] S1.data.toList (by simp at hS1l ⊢;omega);simp only[lN]at a1;have e1:∀y:BA,(⟨y.data⟩:BA)=y:=λy=>rfl;rw[e1]at a1;have a1':∀W,(Op.stringOp .add (⟨#[66]⟩:BA) S1).run N W=.ok (L ⟨(66::S1.data.toList).toArray⟩) W:=a1;obtain⟨D2,hD2⟩:∃D2,H3 wj (66::S1.data.toList)=D2:=⟨_,rfl⟩
   have hD2s:D2.size=wj:=(by rw[<-hD2];exact Jk wj hw _);have HDB:J (∀V,aB N 103 #[O I (wj:Int),L ⟨(66::S1.data.toList).toArray⟩] V λe w'=>e=aC (L D2)/\M D V w'):=λV=>by
    have:=hD wj ⟨(66::S1.data.toList).toArray⟩ V Hn hw (by rw[Ji,Qp];omega);rw[show (⟨(66::S1.data.toList).toArray⟩:BA).data.toList=66::S1.data.toList from rfl,hD2]at this;exact this
   obtain⟨X0,cJ⟩:∃X0:BA,⟨(Hf ch.length 4 4).toArray⟩=X0:=⟨_,rfl⟩
   have hX0s:X0.size=4:=(by rw[<-cJ,Ji,Jf]);obtain⟨TP,hTP⟩:∃TP:BA,X0++D1++D2=TP:=⟨_,rfl⟩
   have HTP2:J (TP.data.toList=tipB wj ch (aY.data.toList.drop aZ)):=(by show _=_;rw[<-hTP,<-gF.o];unfold tipB;rw[mT,hD2,<-cJ];simp);have b1:∀W,(Op.stringOp .add X0 D1).run N W=.ok (L (X0++D1)) W:=λW=>run_string_add_sum (P:=N) W X0 D1 (by omega);have b2:∀W,(Op.stringOp .add (X0++D1) D2).run N W=.ok (L (X0++D1++D2)) W:=λW=>run_string_add_sum (P:=N) W _ D2 (by rw[lC];omega);rw[hTP]at b2;rw[cJ]at yw;clear hTP cJ hX0s mT hD2 hD1s hD2s a1 e1 hm zK tY;generalize (⟨(66::S1.data.toList).toArray⟩:BA)=SB at *;generalize X0++D1=X1 at *;have qX:J (Xw wj ch aY.data.toList=if aY.data.toList.take (4+2*wj) ≠ tipB wj ch (aY.data.toList.drop aZ) then .error .tip else match JH (H3 wj) ch.last.2 ts with
     | .error e=>.error e
     | .ok st=>if (aY.data.toList.drop (4+2*wj)).take wj ≠ (Xh (H3 wj) st).data.toList then .error .root else .ok (ch++[(⟨(aY.data.toList.take aZ).toArray⟩,st)])):=by
    show Xw _ _ _=_;unfold Xw;rw[hN,Hp,if_neg hshort,hb];rfl
   have hwn:I.wrap ((aZ:Int)-(wj:Int))=((4+2*wj:Nat):Int):=(by rw[w63 _ (by omega) (by omega)];omega);have p1:((4+2*wj:Nat):Int)<=(aY.size:Int):=(by omega);have p2:((4+2*wj:Nat):Int)<=(aZ:Int):=(by omega);obtain⟨S2,sP⟩:∃S2:BA,aY.extract 0 (4+2*wj)=S2:=⟨_,rfl⟩
   have jm:J (S2.data.toList=aY.data.toList.take (4+2*wj)):=(by show _=_;rw[<-sP,lF,lI];simp[lE]);obtain⟨S3,hS3⟩:∃S3:BA,aY.extract (4+2*wj) aZ=S3:=⟨_,rfl⟩
   have zv:J (S3.data.toList=(aY.data.toList.drop (4+2*wj)).take wj):=(by show _=_;rw[<-hS3,lF,lI,lE,show aZ-(4+2*wj)=wj by omega]);have uF:J (4+3*wj=aZ/\aZ<=aY.size):=⟨hN,by omega⟩
   obtain⟨N1,cP⟩:∃N1:Nat,4+2*wj=N1:=⟨_,rfl⟩
   rw[cP]at hwn p1 p2 sP hS3 qX jm zv;have HN1:J (4+2*wj=N1):=cP;clear hb Hp hN cP;go_enter func110,ntmps110;go_upto_region 4 with fail;go_cut [6,7] (λv6 v7 wx=>v7=aL true/\∃va vm vc,v6=R va vm vc/\J (Zp w.heap.size wx (R va vm vc) ts)/\J (M D w wx))
   case first=>
    go_region_held3 (λV=>V.cell? ⟨rb,0,Y⟩=Z (O I (wj:Int))) (go_keep) ((go_at_call 170;refine(nN _).mono ?_;rintro _ w1⟨va,vm,vc,rfl,uP,H9⟩;have ki:J (Zp w.heap.size w1 _ ts):=uP;have H5:J (M D w w1):=(Td D w 1).trans H9 (λ_ h=>aM h);have y0:=(HP w1 H5).1;clear H9 uP))
    all_goals go_wp2;go_meet;exact⟨rfl,va,vm,vc,rfl,ki,H5⟩
   case rest=>
   obtain⟨rfl,va,vm,vc,rfl,ki,H5⟩:=hcut;obtain⟨wA,jC⟩:∃wA,wA=wc:=⟨wc,rfl⟩
   subst jC;clear z0 z1 nN;obtain⟨z0,z1⟩:=HP wA H5.o;go_upto_region 7 with fail;go_cut [8] (λv8 wx=>v8=L TP/\J (M D wA wx))
   case first=>
    go_region_held3 (λV=>V.cell? ⟨rb,0,Y⟩=Z (O I (wj:Int))/\V.cell? ⟨rb,1,Y⟩=Z (R (Z ⟨g,0,Y⟩) ch.length cap)) (go_keep) ((first
     | (go_at_call 171;refine(yw _).mono ?_;rintro _ w2⟨rfl,Ha⟩;have H6:J (M D wA w2):=(Td D wA 1).trans Ha (λ_ h=>aM h);have y2:=HP w2 (H5.trans H6 (λ_ h=>aM h));obtain⟨y20,y21⟩:=y2;clear Ha)
     | (go_at_call 118;refine(vu _ (H5.trans H6 (λ_ h=>aM h))).mono ?_;rintro _ w3⟨rfl,Hs⟩;have Hb:J (M D wA w3):=H6.trans Hs (λ_ h=>aM h);have y3:=HP w3 (H5.trans Hb (λ_ h=>aM h));obtain⟨y30,y31⟩:=y3;clear Hs)
     | (go_at_call 172;refine(zy _ (H5.trans Hb (λ_ h=>aM h))).mono ?_;rintro _ w4⟨rfl,Hu⟩;have Hm:J (M D wA w4):=Hb.trans Hu (λ_ h=>aM h);have y4:=HP w4 (H5.trans Hm (λ_ h=>aM h));obtain⟨y40,y41⟩:=y4;clear Hu)
     | (go_at_call 103;refine(HDB _).mono ?_;rintro _ w5⟨rfl,kR⟩;have kD:J (M D wA w5):=Hm.trans kR (λ_ h=>aM h);have y5:=HP w5 (H5.trans kD (λ_ h=>aM h));obtain⟨y50,y51⟩:=y5;clear kR)))
    all_goals go_wp2;go_meet;exact⟨rfl,kD⟩
   case rest=>
   obtain⟨rfl,H6⟩:=hcut;obtain⟨wB,yp⟩:∃wB,wB=wc:=⟨wc,rfl⟩
   subst yp;clear z0 z1 yw vu zy HDB b1 b2 a1';have gZ:J (M D w wB):=H5.trans H6 (λ_ h=>aM h);obtain⟨z0,z1⟩:=HP wB gZ.o
   by_cases yE:aY.data.toList.take N1=tipB wj ch (aY.data.toList.drop aZ)
   ·have vV:(S2.toList == TP.toList)=true:=(by rw[ByteArray.toList_eq,ByteArray.toList_eq,jm.o,HTP2.o,yE];simp);rw[if_neg (λh=>h yE)]at qX;have qt:J (aY.data.toList.take N1=tipB wj ch (aY.data.toList.drop aZ)):=yE;clear yE;obtain⟨sl,hsA,hsI⟩:=Jql (ki.tch H6);have nD:J (aB N 173 #[X (Z ⟨rb,0,Y⟩),R va vm vc] wB (RLv wj ch ts G wB)):=Jj0 hD Hn hw (qv wB gZ) (by omega) _ _ ts sl h3 ho hsA hsI;clear hsA hsI
    cases hap:JH (H3 wj) ch.last.2 ts with
    | error er=>
     have zX:J (aB N 173 #[X (Z ⟨rb,0,Y⟩),R va vm vc] wB λe w'=>e=aC (aI #[aH #[L ⟨#[]⟩,L ⟨#[]⟩,L ⟨#[]⟩,R Y 0 0],O I (Xr er)])/\M D wB w'):=nD.mono (by
      rintro e w'⟨g1,g2⟩;rw[hap]at g2;exact⟨g2,g1⟩)
     rw[hap]at qX;simp only at qX;have Hl:¬Xr er=0:=(by cases er using Er.on<;>decide);clear nD hap;go_wp2_with (go_at_call 173;refine zX.mono ?_;rintro _ w6⟨rfl,jN⟩;have kz:J (M D wB w6):=jN;clear jN);go_ret;show RSub _ _ _ _ _ _ _ _ _;unfold RSub;rw[qX.o];exact⟨rfl,(gZ.trans kz (λ_ h=>aM h)).trans (Ta D _ _) (λ_ h=>aM h)⟩
    | ok st=>
     have zX:J (aB N 173 #[X (Z ⟨rb,0,Y⟩),R va vm vc] wB λe w'=>∃(E1 E2 E3:BA)(s:Sl),e=aC (aI #[aH #[L E1,L E2,L E3,R s.1 s.2.1 s.2.2],O I 0])/\(E1=H3 wj (72::ch.last.1.data.toList)/\E2=H3 wj (66::JL ts)/\E3=Xh (H3 wj) st)/\(∃l:List Hd,RhAt w' (R s.1 s.2.1 s.2.2) l/\Book wj st l/\l.length<=9*(ch.length+1)/\∀j,(lS s.1 s.2.1 s.2.2).ownBlock=Z j->G j\/wB.heap.size<=j)/\M D wB w'):=nD.mono (by
      rintro e w'⟨g1,g2⟩;rw[hap]at g2;obtain⟨s,l,he,k1,k2,k3,k4⟩:=g2;exact⟨_,_,_,s,he,⟨rfl,rfl,rfl⟩,⟨l,k1,k2,k3,k4⟩,g1⟩)
     rw[hap]at qX;simp only at qX;clear nD hap;go_upto_region 14 with(go_at_call 173;refine zX.mono ?_;rintro _ w6⟨E1,E2,E3,s,rfl,hes,tX,jN⟩;have HES:J (_/\_):=hes;have pM:J (∃l:List Hd,_):=tX;have kz:J (M D wB w6):=jN;clear jN hes tX);obtain⟨wC,pN⟩:∃wC,wC=w6.alloc (T #[L E1,L E2,L E3,R s.1 s.2.1 s.2.2] 205):=⟨_,rfl⟩
     have HT6C:=yh pN;have qo:J (M D w wC):=(gZ.trans kz (λ_ h=>aM h)).trans HT6C (λ_ h=>aM h);have kN:J (wC.heap[w6.heap.size]? =Z (T #[L E1,L E2,L E3,R s.1 s.2.1 s.2.2] 205)):=(by rw[pN];exact Qf _ _);rw[<-pN];clear pN z0 z1 zX;have cO:J (w.heap.size<=w6.heap.size):=Qm gZ.size kz.size;generalize w6.heap.size=xb at *;obtain⟨z0,z1⟩:=HP wC qo.o;have b2:wC.cell? ⟨xb,2,Y⟩=Z (L E3):=Ja kN.o;obtain⟨q,hq,hq2⟩:∃q:Bool,(E3.toList == S3.toList)=q/\(q=true↔(aY.data.toList.drop N1).take wj=(Xh (H3 wj) st).data.toList):=⟨_,rfl,by
      rw[beq_iff_eq,ByteArray.toList_eq,ByteArray.toList_eq,zv.o,HES.o.2.2];exact eq_comm⟩
     have qE:J (q=true↔_):=hq2;have hqn:(E3.toList != S3.toList)= !q:=(by rw[bne,hq]);clear hq2;go_cut [86] (λv wx=>v=aL (!q)/\J (M D wC wx))
     case first=>
      go_region_held3 (λV=>V.cell? ⟨rb,0,Y⟩=Z (O I (wj:Int))/\V.cell? ⟨xb,2,Y⟩=Z (L E3)) (go_keep) (fail)
      all_goals
       go_wp2;go_meet;refine⟨?_,Td _ _ 1⟩
       first
        | rfl
        | (rw[<-hqn])
        | (rw[<-hqn];rfl)
        | simp[hqn,hq]
     case rest=>
     obtain⟨rfl,nI⟩:=hcut;obtain⟨wD,i8⟩:∃wD,wD=wc:=⟨wc,rfl⟩
     subst i8;clear z0 z1 b2 hqn hq;have vZ:J (M D w wD):=qo.trans nI (λ_ h=>aM h)
     cases q with
     | false=>
      rw[if_pos (λh=>by have:=qE.o.2 h;cases this)]at qX;go_wp2;go_ret;show RSub _ _ _ _ _ _ _ _ _;unfold RSub;rw[qX.o];exact⟨rfl,vZ⟩
     | true=>
      rw[if_neg (λh=>h (qE.o.1 rfl))]at qX;have tY:J (wD.heap[xb]? =Z (T #[L E1,L E2,L E3,R s.1 s.2.1 s.2.2] 205)):=(nI.block _ (Jb kN) (λh=>h)).trans kN.o;obtain⟨z0,z1⟩:=HP wD vZ.o;obtain⟨b0,b1,b2,b3⟩:=rows tY.o;have nO:J (∀V,M D wD V->(V.cell? ⟨rb,1,Y⟩=Z (R (Z ⟨g,0,Y⟩) ch.length cap))/\(V.cell? ⟨xb,0,Y⟩=Z (L E1)/\V.cell? ⟨xb,1,Y⟩=Z (L E2)/\V.cell? ⟨xb,2,Y⟩=Z (L E3)/\V.cell? ⟨xb,3,Y⟩=Z (R s.1 s.2.1 s.2.2))):=λV hV=>by
       have hr:=(hV.block _ (Jb tY) (λh=>h)).trans tY.o;exact⟨(HP V (vZ.trans hV (λ_ h=>aM h))).2,Ja hr,Ja hr,Ja hr,Ja hr⟩
      have gu:J (RfAt wj base (wD.alloc (T #[L E1,L E2,L E3,R s.1 s.2.1 s.2.2] 205)).drew rb G ch (R (Z ⟨g,0,Y⟩) ch.length cap) lv b):=qv _ (vZ.trans (M.box wD _) (λ_ h=>aM h));have qU:=Qf wD (T #[L E1,L E2,L E3,R s.1 s.2.1 s.2.2] 205);obtain⟨v3,w3,kH,kv,vS,tV⟩:=Jet (w:=(wD.alloc (T #[L E1,L E2,L E3,R s.1 s.2.1 s.2.2] 205)).drew) gu.lvs wD.heap.size ((E1,E2,E3),s) ⟨cell_of_row (wD.alloc _) _ _ _ _ _ qU,cell_of_row (wD.alloc _) _ _ _ _ _ qU,cell_of_row (wD.alloc _) _ _ _ _ _ qU,cell_of_row (wD.alloc _) _ _ _ _ _ qU⟩ 206 (by rw[gu.o.len.1];omega) (Qm (Qm jG vZ.size) (M.box wD _).size);have Hb:J (M (λj=>j=g) wD w3):=((M.box wD _).mono noE).trans (Tg vS) (λj hj=>aM (by cases hj;rfl));have hrg:rb ≠ g:=λe=>Jep gu.row gu.lvs (by rw[e];rfl);have ur:xb ≠ g:=λe=>by
       have h5:=(gu.own g (gu.vG g rfl)).2;have h6:=((qv w (Te _ _)).own g ((qv w (Te _ _)).vG g rfl)).2;have h7:=cO.o;omega
      have pL:J (wD.heap[rb]? =Z (T #[O I (wj:Int),R (Z ⟨g,0,Y⟩) ch.length cap,O I 0,L b] 208)):=(qv wD vZ).row;have kw:J (w3.heap[rb]? =Z (T #[O I (wj:Int),R (Z ⟨g,0,Y⟩) ch.length cap,O I 0,L b] 208)):=(Hb.block _ (Jb pL) hrg).trans pL.o;have rP:=(Hb.block _ (Jb tY) ur).trans tY.o;have HS3W:J ((w3.cell? ⟨rb,1,Y⟩=Z (R (Z ⟨g,0,Y⟩) ch.length cap))/\(w3.cell? ⟨xb,0,Y⟩=Z (L E1)/\w3.cell? ⟨xb,1,Y⟩=Z (L E2)/\w3.cell? ⟨xb,2,Y⟩=Z (L E3)/\w3.cell? ⟨xb,3,Y⟩=Z (R s.1 s.2.1 s.2.2))):=⟨Ja kw,Ja rP,Ja rP,Ja rP,Ja rP⟩
      have c3:=HS3W.o.1;have f3:w3.frozen? ⟨rb,1,Y⟩=false:=Qg _ _ _ _ _ kw.o;have HV3:J (∀j,v3.ownBlock=Z j->j=g\/wD.heap.size<=j):=λj hj=>by
       have h5:=(M.box wD (T #[L E1,L E2,L E3,R s.1 s.2.1 s.2.2] 205)).size
       rcases tV with h|h
       ·rw[h]at hj;cases hj;exact aM rfl
       ·rw[h]at hj;cases hj;exact aN h5
      have jI:J (Zs base w3 v3 (lv++[((E1,E2,E3),s)])):=kv;obtain⟨ka,km,kc,zg⟩:∃ka km kc,v3=R ka km kc:=by
       obtain⟨_,⟨h,_⟩|⟨g',cap',cur,h,_⟩⟩:=kv
       ·exact⟨_,_,_,h⟩
       ·exact⟨_,_,_,h⟩
      subst zg;obtain⟨w4,qy⟩:∃w4,w3.setCell ⟨rb,1,Y⟩ (R ka km kc)=w4:=⟨_,rfl⟩
      have sC:J (w3.setCell ⟨rb,1,Y⟩ (R ka km kc)=w4):=qy;have e4:w4=w3.setRow rb #[O I (wj:Int),R ka km kc,O I 0,L b]:=(by rw[<-qy];exact Qj w3 rb 1 _ _ _ _ kw.o);have qz:J (w4.heap[rb]? =Z (T #[O I (wj:Int),R ka km kc,O I 0,L b] 208)):=(by rw[e4];exact Qi _ _ _ _ _ _ kw.o);have Hm:J (M (λj=>j=rb) w3 w4):=(by rw[e4];exact Ts _ _ _);have pY:J (aY.data.toList.length<=900):=(by have h5:(aY.data.toList.drop aZ).length<=385:=xU;rw[lG]at h5;show aY.data.toList.length<=900;have h6:=uF.o.1;omega);have rp:J (aB N 107 #[X (Z ⟨rb,0,Y⟩),L ⟨#[66]⟩,L aY] w4 λe w'=>e=aC (aI #[])/\M (λj=>j=rb) w4 w'/\∃aW:BA,aW.size<=b.size+1000/\w'.heap[rb]? =Z (T #[O I (wj:Int),R ka km kc,O I 0,L aW] 208)):=(by have ko:b.size<=1000*ch.length:=(qv w (Te _ _)).log;have h5:=Jj1 hD [66] aY.data.toList rfl (by have:=pY.o;omega) w4 rb _ _ _ b (by omega) qz.o;simp only[lN]at h5;refine Calls.mono (h5) ?_;rintro _ w'⟨rfl,k2,k3⟩;refine⟨rfl,k2,_,?_,k3⟩;have e1:(⟨(ke [66] aY.data.toList).toArray⟩:BA).size=7+aY.data.toList.length:=(by rw[Ji,Jej [66] _ rfl]);rw[lC,e1];have:=pY.o;omega);clear qU kv vS rP e4 qy tV;go_upto_region 15 with fail;refine Xm (S:=λV=>(V.cell? ⟨rb,1,Y⟩=Z (R (Z ⟨g,0,Y⟩) ch.length cap))/\(V.cell? ⟨xb,0,Y⟩=Z (L E1)/\V.cell? ⟨xb,1,Y⟩=Z (L E2)/\V.cell? ⟨xb,2,Y⟩=Z (L E3)/\V.cell? ⟨xb,3,Y⟩=Z (R s.1 s.2.1 s.2.2))) 20 (by simp) (by kernel_rfl) (by kernel_rfl) (nO _ (Td _ _ 1)) ?_;intro hHeld l o hl ho;simp only[lT,lU]at hl;simp only[lV,lW]at ho;subst hl;subst ho;simp only[Qp,Qv,Nat.reduceAdd];refine tkL 0 ?_;simp only[lD,Qa,Qb,Qc];refine tkL 1 ?_;simp only[lD,Qa,Qb,Qc];refine tkL 2 ?_;simp only[lD,Qa,Qb,Qc];refine tkL 3 ?_;simp only[lD,Qa,Qb,Qc];refine tkL 4 ?_;simp only[lD,Qa,Qb,Qc];refine tkL 5 ?_;simp only[lD,Qa,Qb,Qc];refine JaK (i:=6) rfl (by kernel_rfl) (λK hK=>?_);go_simp;refine hK _ _ (by first|exact nO _ (M.box wD _)|exact nO _ (M.drewAlloc wD _)) (λ_=>?_);clear hK K
      try simp only[lD,Qa,Qb,Qc]
      refine JaK (i:=7) rfl (by kernel_rfl) (λK hK=>?_);refine JaF kH (by rfl) _ _ (by rfl) (by rfl) (by rfl) ?_;refine hK _ _ HS3W (λ_=>?_);clear hK K
      try simp only[lD,Qa,Qb,Qc]
      refine tkL 8 ?_;simp only[lD,Qa,Qb,Qc];refine tkL 9 ?_;simp only[lD,Qa,Qb,Qc];refine wpAnyH_done (by kernel_rfl) ?_ _;show wpList _ _ _ [_] _ _;go_wp2_with (go_at_call 107;rw[sC.o];refine rp.mono ?_;rintro _ w5⟨rfl,kR,xP⟩;have kD:J (M _ w4 w5):=kR;have qF:J (∃aW:BA,_):=xP;clear kR xP);go_ret;show RSub _ _ _ _ _ _ _ _ _;unfold RSub;rw[qX.o];obtain⟨aW,a7,hR5⟩:=qF.o;obtain⟨l,qB,qS,zH,hl4⟩:=pM.o;obtain⟨eT,s7,he3⟩:=HES.o;have t35:M (λj=>j=rb) w3 w5:=Hm.trans kD (λ_ h=>aM h);have hN:=uF.o.1;have cP:=HN1.o;have rZ:(⟨(aY.data.toList.take aZ).toArray⟩:BA)=⟨(Ht (lvH ch.length ((E1,E2,E3),s))).toArray⟩:=by have h5:=qE.o.1 (by first|rfl|trivial);rw[show aZ=N1+wj by omega,List.take_add,qt.o,h5];unfold Ht lvH tipB;rw[<-zJ.o,<-eT,<-s7,<-he3];simp
      have Hg:HdOk wj (lvH ch.length ((E1,E2,E3),s)):=⟨by show ch.length<2 ^ 32;omega,by show E1.size=wj;rw[eT];exact Jk wj hw _,by show E2.size=wj;rw[s7];exact Jk wj hw _,by show E3.size=wj;rw[he3];exact Xx (H3 wj) wj (λl=>Jk wj hw l) st⟩
      have sQ:=JoT (x:=((E1,E2,E3),s)) (st:=st) (qv w (Te _ _)) vZ Hb t35 jI HV3 hR5 a7 ⟨l,qB.tch0 (HT6C.trans nI (λ_ h=>aM h)),qS,zH,λj hj=>(hl4 j hj).imp id (λh=>Qm gZ.size h)⟩ ⟨Hg,rZ⟩ jG;exact⟨rfl,sQ⟩
   ·have vV:(S2.toList == TP.toList)=false:=by
     rw[beq_eq_false_iff_ne,ByteArray.toList_eq,ByteArray.toList_eq,jm.o,HTP2.o];exact yE
    rw[if_pos yE]at qX;clear yE;go_wp2;go_ret;show RSub _ _ _ _ _ _ _ _ _;unfold RSub;rw[qX.o];exact⟨rfl,gZ⟩

theorem Jjb(wj:Nat)(hw:wj<=32)(ch:Ch)(ts:List TxL)(ho:∀t∈ts,∀o∈t.2,Jy o):(XQ wj ch ts).1.size<=1000:=by
 unfold XQ
 split
 ·rename_i hm;obtain⟨h3,xA⟩:=(Jb3 wj ts ho).1 hm
  split
  ·rename_i st _;rw[Ji];have h1:=Jcz wj hw ts xA ts.length;rw[Jcy]at h1;unfold Jau Jbt Ht;simp only[Qe,Jf,Yz,Jk wj hw,Xx (H3 wj) wj (Jk wj hw)];omega
  ·exact Nat.zero_le _
 ·exact Nat.zero_le _
theorem Jia{ch':Ch}{t:List UInt8}(h:Xw wj ch t=.ok ch'):ch'.length=ch.length+1:=by
 unfold Xw at h
 split at h
 ·cases h
 ·split at h
  ·cases h
  ·split at h
   ·cases h
   ·split at h
    ·cases h
    ·split at h
     ·cases h
     ·cases h
      simp
theorem JkU(f:α->β)(l:List α)(d:α):l.map f=(List.range l.length).map λi=>f (l.getD i d):=by
 apply List.ext_getElem?;intro i;rw[lM,lM]
 by_cases h:i<l.length
 ·rw[l6 h,Qd h];simp[h]
 ·rw[lY (by omega),lY (by simp;omega)];rfl
abbrev dSl:Sl×Sl:=((Y,0,0),Y,0,0)
def cOf(ts:List TxL)(i:Nat):List VV:=(ts.getD i ([],[])).1.map encC
def oOf(ts:List TxL)(i:Nat):List VV:=(ts.getD i ([],[])).2.map encO
theorem TxsR.vr{l:List (Sl×Sl)}(h:TxsR B w v l):VR B w v (l.map encT):=by
 rcases h with⟨h,rfl⟩|⟨gi,oi,c,h1,h2,h3,h4⟩
 ·exact aM ⟨h,rfl⟩
 ·exact aN ⟨gi,oi,c,by rw[QM];exact h1,h2,h3,λi hi=>by rw[QM]at hi;rw[lZ];exact h4 i hi⟩
theorem YH.vr{l:List (BA×Int)}(h:YH B w v l):VR B w v (l.map encC):=by
 rcases h with⟨h,rfl⟩|⟨gi,oi,c,h1,h2,h3,h4⟩
 ·exact aM ⟨h,rfl⟩
 ·exact aN ⟨gi,oi,c,by rw[QM];exact h1,h2,h3,λi hi=>by rw[QM]at hi;rw[lZ];exact h4 i hi⟩
theorem YD.vr{l:List (Nat×Nat)}(h:YD B w v l):VR B w v (l.map encO):=by
 rcases h with⟨h,rfl⟩|⟨gi,oi,c,h1,h2,h3,h4⟩
 ·exact aM ⟨h,rfl⟩
 ·exact aN ⟨gi,oi,c,by rw[QM];exact h1,h2,h3,λi hi=>by rw[QM]at hi;rw[lZ];exact h4 i hi⟩
theorem Jgx(l:List (Nat×Nat)):∀x∈l.map encO,ShO x:=λx hx=>by
 obtain⟨y,_,rfl⟩:=QL.1 hx;exact⟨_,_,rfl⟩
theorem JoZ(l:List (BA×Int)):∀x∈l.map encC,ShC x:=λx hx=>by
 obtain⟨y,_,rfl⟩:=QL.1 hx;exact⟨_,_,rfl⟩
theorem Jqn{sl:List (Sl×Sl)}(h:TxsR B w v sl)(hs:TxIs B w ts sl)(hb:∀t∈ts,t.1.length<=1000000/\t.2.length<=1000000):
  TxV B w v ts.length (λi=>sl.getD i dSl) (cOf ts) (oOf ts):=by
 have e:∀i (hi:i<ts.length),ts.getD i ([],[])=ts[i]:=λi hi=>by simp[hi]
 have e':∀i (hi:i<sl.length),sl.getD i dSl=sl[i]:=λi hi=>by simp[hi]
 refine⟨?_,λi hi=>?_,λi hi=>?_⟩
 ·have:=h.vr;rw[JkU encT sl dSl,<-hs.1]at this;exact this
 ·have yW:i<sl.length:=by rw[<-hs.1];exact hi
  unfold cOf sV1;rw[e i hi,e' i yW];exact⟨(hs.2 i hi yW).1.vr,JoZ _,by rw[QM];exact(hb _ (Qx hi)).1⟩
 ·have yW:i<sl.length:=by rw[<-hs.1];exact hi
  unfold oOf sV1;rw[e i hi,e' i yW];exact⟨(hs.2 i hi yW).2.vr,Jgx _,by rw[QM];exact(hb _ (Qx hi)).2⟩
theorem JmE{B':Nat}{V:aA}{nb gt:Nat}{vi vo:aG}{ga gb hb:Nat->Nat}(h:Xj B' V nb gt ts.length vi vo (cOf ts) (oOf ts) ga gb hb 0):JlK V (R (Z ⟨gt,0,Y⟩) ts.length (ts.length+8)) ts:=by
 refine⟨(List.range ts.length).map λi=>((Z ⟨ga i,0,Y⟩,(cOf ts i).length,(cOf ts i).length+8),(Z ⟨gb i,0,Y⟩,(oOf ts i).length,(oOf ts i).length+8)),aN ⟨gt,0,ts.length+8,by simp,(Jb h.txs),(Jb h.txs),λi hi=>?_⟩,by simp,λj x t hx ht=>?_⟩
 ·simp only[QM,List.length_range]at hi;have:=Xp h.txs (i:=i) (txE (cOf ts) (oOf ts) ga gb i) (by
   rw[QF (by simpa using hi),lM,l6 hi];rfl)
  simp only[lZ,List.getElem_range,Nat.zero_add];exact this
 ·obtain⟨hj,rfl⟩:=Qo.1 ht;rw[lM,l6 hj]at hx;simp only[Option.map_some,Qh]at hx;subst hx;have r1:=(h.lc.rowC j (by omega) hj).2;have r2:=(h.lc.rowO j (by omega) hj).2;have e:ts.getD j ([],[])=ts[j]:=by simp[hj]
  unfold cOf at r1 ⊢;unfold oOf at r2 ⊢;rw[e]at r1 r2;simp only[e,QM];refine⟨aN ⟨ga j,0,_,rfl,(Jb r1),(Jb r1),λi hi=>?_⟩,aN ⟨gb j,0,_,rfl,(Jb r2),(Jb r2),λi hi=>?_⟩⟩
  ·have:=Xp r1 (i:=i) (encC (ts[j].1)[i]) (by
    rw[QF (by simpa using hi),lM,Qd hi];rfl)
   rw[Nat.zero_add];exact this
  ·have:=Xp r2 (i:=i) (encO (ts[j].2)[i]) (by
    rw[QF (by simpa using hi),lM,Qd hi];rfl)
   rw[Nat.zero_add];exact this
