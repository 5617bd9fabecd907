import Derived.Test.YtighkdnooglfjaaGreatDoorQyRfS
open Go renaming Calls->aB,Value->aG,World->aA
open Go.Ending renaming returned->aC
open Go.IntKind renaming i64->I,u32->aF,u64->aD,u8->aE,signed->l8,wrap->lh,bits->li
open Go.Obj renaming cells->T
open Go.Proofs.Tryz renaming prog->N
open Go.RowKit renaming Hid->J
open Go.Value renaming agg->aH,bool->aL,int->O,nilIface->aK,pointer->X,slice->R,string->L,tuple->aI,string->lF,int->lI
open Option renaming none->Y,some->Z,map_eq_some_iff->lK
open Or renaming inl->aM,inr->aN
open Go.Act renaming put->lC
open Array renaming toList_extract->lH
open ByteArray renaming data_extract->lG,size_extract->l5
open Int renaming tmod_eq_emod_of_nonneg->lM,toNat_natCast->lf
open List renaming length_drop->lD,extract_eq_take_drop->lE,replicate->lN,dropLast_cons_cons->lO,dropLast_singleton->lP,getLast_cons_cons->lQ,getLast_singleton->lR,take_left'->lU,drop_left'->lV,getElem?_cons_zero->lY,getElem?_map->lZ,getElem?_eq_none->l6,drop_drop->l9
open Nat renaming add_mul->lW,min_eq_left->lX,zero_le->ld
open UInt8 renaming ofNat->lS,toNat_lt->lT
open Go.World renaming frozen?->lJ
set_option maxRecDepth 100000
set_option maxHeartbeats 4000000
namespace Go.Proofs.YtighkdnooglfjaaGreatDoor
open Go.Proofs.Tryz
open Go.RowKit

variable {H8:BA}{ch:Ch}{key:Key}{os:List (Nat×Nat)}{sl:List (Sl×Sl)}{ls:List Nat}{ts:List TxL}{s:List UInt8}{aS aW:List aG}{N1 base g i j lb m n rb wb wj:Nat}{NT:Nat->List UInt8}{F G S:Nat->Prop}{x:OpL}{aY:TypeId}{a b c d v' vl gP vm gQ:aG}{V V' W W' w w' w3:aA}{wy:Wy}
theorem Ji1(p:BA)(hp:p.size=64)(w:aA):
  aB N 251 #[L p] w λe w'=>∃v,e=aC v/\ZOwn w.heap.size w' v (Wl p.data.toList 64)/\M D w w':=by
 have HP:J _:=hp;clear hp;go_enter func251,ntmps251;go_wp2;go_loopw [3,4] (λv i wr=>∃k:Nat,k<=16/\i=O I (k:Int)/\J (ZOwn w.heap.size wr v (Wl p.data.toList k))/\J (M D w wr)) (λ_ i _=>16-(intOf i).toNat)
 case atStart=>exact⟨0,by omega,rfl,ZOwn.nil _ _,Te _ _⟩
 case round=>
  obtain⟨k,hk,rfl,HZ,HT⟩:=hrel
  by_cases H7:k<16
  ·have tH:(k:Int)<16:=(by omega);have hps:=HP.o;have g0:4*k<p.size:=(by omega);have g1:4*k+1<p.size:=(by omega);have g2:4*k+2<p.size:=(by omega);have g3:4*k+3<p.size:=(by omega);have i0:4*(k:Int)<(p.size:Int):=(by omega);have i1:4*(k:Int)+1<(p.size:Int):=(by omega);have i2:4*(k:Int)+2<(p.size:Int):=(by omega);have i3:4*(k:Int)+3<(p.size:Int):=(by omega);have z0:0<=4*(k:Int):=(by omega);have z1:0<=4*(k:Int)+1:=(by omega);have z2:0<=4*(k:Int)+2:=(by omega);have z3:0<=4*(k:Int)+3:=(by omega);have y0:I.wrap (4*(k:Int))=4*(k:Int):=Jo _ (by omega) (by omega);have y1:I.wrap (4*(k:Int)+1)=4*(k:Int)+1:=Jo _ (by omega) (by omega);have y2:I.wrap (4*(k:Int)+2)=4*(k:Int)+2:=Jo _ (by omega) (by omega);have y3:I.wrap (4*(k:Int)+3)=4*(k:Int)+3:=Jo _ (by omega) (by omega);have n0:(4*(k:Int)).toNat=4*k:=(by omega);have n1:(4*(k:Int)+1).toNat=4*k+1:=(by omega);have n2:(4*(k:Int)+2).toNat=4*k+2:=(by omega);have n3:(4*(k:Int)+3).toNat=4*k+3:=(by omega);have b0:=lT p[4*k];have b1:=lT p[4*k+1];have b2:=lT p[4*k+2];have b3:=lT p[4*k+3];have nA:J (nxW p.data.toList k (Wl p.data.toList k)=(p[4*k].toNat:Int)*16777216+(p[4*k+1].toNat:Int)*65536+(p[4*k+2].toNat:Int)*256+(p[4*k+3].toNat:Int)):=by
    show nxW _ _ _=_;unfold nxW;rw[if_pos H7,JnU];have e:∀j (hj:j<p.size),p.data.toList.getD j 0=p[j]:=λj hj=>by
     rw[Qn,Qd (by rw[QA];exact hj)];rfl
    rw[e _ g0,e _ g1,e _ g2,e _ g3]
   obtain⟨x0,e0⟩:∃x0:Nat,p[4*k].toNat=x0:=⟨_,rfl⟩
   obtain⟨x1,e1⟩:∃x1:Nat,p[4*k+1].toNat=x1:=⟨_,rfl⟩
   obtain⟨x2,e2⟩:∃x2:Nat,p[4*k+2].toNat=x2:=⟨_,rfl⟩
   obtain⟨x3,e3⟩:∃x3:Nat,p[4*k+3].toNat=x3:=⟨_,rfl⟩
   rw[e0,e1,e2,e3]at nA;rw[e0]at b0;rw[e1]at b1;rw[e2]at b2;rw[e3]at b3;have v0:I.wrap (x0:Int)=(x0:Int):=Jo _ (by omega) (by omega);have v1:I.wrap (x1:Int)=(x1:Int):=Jo _ (by omega) (by omega);have v2:I.wrap (x2:Int)=(x2:Int):=Jo _ (by omega) (by omega);have v3:I.wrap (x3:Int)=(x3:Int):=Jo _ (by omega) (by omega);have u0:I.wrap ((x0:Int)*16777216)=(x0:Int)*16777216:=w63 _ (by omega) (by omega);have u1:I.wrap ((x1:Int)*65536)=(x1:Int)*65536:=w63 _ (by omega) (by omega);have u2:I.wrap ((x2:Int)*256)=(x2:Int)*256:=w63 _ (by omega) (by omega);have t0:I.wrap ((x0:Int)*16777216+(x1:Int)*65536)=(x0:Int)*16777216+(x1:Int)*65536:=w63 _ (by omega) (by omega);have t1:I.wrap ((x0:Int)*16777216+(x1:Int)*65536+(x2:Int)*256)=(x0:Int)*16777216+(x1:Int)*65536+(x2:Int)*256:=w63 _ (by omega) (by omega);have t2:I.wrap ((x0:Int)*16777216+(x1:Int)*65536+(x2:Int)*256+(x3:Int))=(x0:Int)*16777216+(x1:Int)*65536+(x2:Int)*256+(x3:Int):=w63 _ (by omega) (by omega);obtain⟨a0,c0,hv⟩:=HZ.o.shape;rw[XA]at hv;subst hv;clear hps;obtain⟨v1',w1,kH,jH,nv,_⟩:=Jcf (base:=w.heap.size) (w:=(wr.alloc (T #[O I ((x0:Int)*16777216+(x1:Int)*65536+(x2:Int)*256+(x3:Int))] 3)).drew) (HZ.o.tch (M.box wr _) (λ_ _ h=>h)) wr.heap.size _ (cell_of_row (wr.alloc (T #[O I ((x0:Int)*16777216+(x1:Int)*65536+(x2:Int)*256+(x3:Int))] 3)) _ _ _ _ _ (Qf wr _)) 62 (by rw[XA];omega) (Qm HT.o.size (M.box wr _).size);have em:J (ZOwn w.heap.size w1 v1' (Wl p.data.toList (k+1))):=by show ZOwn _ _ _ _;unfold Wl stW;rw[nA.o];exact jH
   have bY:J (M D w w1):=(by have h1:M D w _:=(HT.o.go (Ta D wr (T #[O I ((x0:Int)*16777216+(x1:Int)*65536+(x2:Int)*256+(x3:Int))] 3))).go (Td D _ 1);refine h1.trans (Jfl nv) (λj hj=>aN ?_);exact(HZ.o.own j hj.symm).1);clear jH nv nA HZ;go_upto_region 5 with fail;refine Xm (S:=λ_=>True) 20 (by simp) (by kernel_rfl) (by kernel_rfl) trivial ?_;intro hHeld l o hl ho;simp only[lO,lP]at hl;simp only[lQ,lR]at ho;subst hl;subst ho;simp only[Qp,Qv,Nat.reduceAdd];refine tkL 0 ?_;simp only[lC,Qa,Qb,Qc];refine tkL 1 ?_;simp only[lC,Qa,Qb,Qc];refine tkL 2 ?_;simp only[lC,Qa,Qb,Qc];refine tkL 3 ?_;simp only[lC,Qa,Qb,Qc];refine tkL 4 ?_;simp only[lC,Qa,Qb,Qc];refine tkL 5 ?_;simp only[lC,Qa,Qb,Qc];refine tkL 6 ?_;simp only[lC,Qa,Qb,Qc];refine tkL 7 ?_;simp only[lC,Qa,Qb,Qc];refine tkL 8 ?_;simp only[lC,Qa,Qb,Qc];refine tkL 9 ?_;simp only[lC,Qa,Qb,Qc];refine tkL 10 ?_;simp only[lC,Qa,Qb,Qc];refine tkL 11 ?_;simp only[lC,Qa,Qb,Qc];refine tkL 12 ?_;simp only[lC,Qa,Qb,Qc];refine tkL 13 ?_;simp only[lC,Qa,Qb,Qc];refine tkL 14 ?_;simp only[lC,Qa,Qb,Qc];refine tkL 15 ?_;simp only[lC,Qa,Qb,Qc];refine tkL 16 ?_;simp only[lC,Qa,Qb,Qc];refine tkL 17 ?_;simp only[lC,Qa,Qb,Qc];refine tkL 18 ?_;simp only[lC,Qa,Qb,Qc];refine tkL 19 ?_;simp only[lC,Qa,Qb,Qc];refine tkL 20 ?_;simp only[lC,Qa,Qb,Qc];refine tkL 21 ?_;simp only[lC,Qa,Qb,Qc];refine tkL 22 ?_;simp only[lC,Qa,Qb,Qc];refine tkL 23 ?_;simp only[lC,Qa,Qb,Qc];refine tkL 24 ?_;simp only[lC,Qa,Qb,Qc];refine tkL 25 ?_;simp only[lC,Qa,Qb,Qc];refine tkL 26 ?_;simp only[lC,Qa,Qb,Qc];refine tkL 27 ?_;simp only[lC,Qa,Qb,Qc];refine tkL 28 ?_;simp only[lC,Qa,Qb,Qc];refine tkL 29 ?_;simp only[lC,Qa,Qb,Qc];refine JaK (i:=30) rfl (by kernel_rfl) (λK hK=>?_);go_simp;refine hK.out _ _ trivial (λ_=>?_);clear hK K
   try simp only[lC,Qa,Qb,Qc]
   refine JaK (i:=31) rfl (by kernel_rfl) (λK hK=>?_);refine JaF kH (by rfl) _ _ (by rfl) (by rfl) (by rfl) ?_;refine hK.out _ _ trivial (λ_=>?_);clear hK K
   try simp only[lC,Qa,Qb,Qc]
   refine wpAnyH_done (by kernel_rfl) ?_ _;show wpList _ _ _ [_] _ _;go_wp2;go_roundw
   case rel=>exact⟨k+1,by omega,by go_num,em,bY⟩
   case measure=>simp[intOf];omega
  ·have tH:¬(k:Int)<16:=(by omega);have HK:J (k=16):=(by omega:k=16)
   go_wp2;go_loopw [3,5] (λv i wr=>∃m:Nat,16<=m/\m<=64/\i=O I (m:Int)/\J (ZOwn w.heap.size wr v (Wl p.data.toList m))/\J (M D w wr)) (λ_ i _=>64-(intOf i).toNat)
   case atStart=>exact⟨16,by omega,by omega,rfl,by have:=HZ.o;rw[HK.o]at this;exact this,HT⟩
   case round=>
    clear HZ HT;obtain⟨m,ql,gK,rfl,HZ,HT⟩:=hrel
    by_cases jM:m<64
    ·have iO:(m:Int)<64:=(by omega);have tU:=XA p.data.toList m;obtain⟨g,cap,hv,hg,Ho⟩:=HZ.o.at (λe=>by rw[e]at tU;simp at tU;omega);rw[XA]at hv;subst hv;have qJ:J (∀V i,M D wr V->i<m->V.cell? ⟨g,i,Y⟩=Z (O I ((Wl p.data.toList m).getD i 0))/\U32 ((Wl p.data.toList m).getD i 0)):=λV i hT hi=>by
      have mL:i<(Wl p.data.toList m).length:=(by omega);rw[hT.cell (p:=⟨g,i,Y⟩) hg (λh=>h),Ho i mL,Qn,Qd mL];exact⟨rfl,Jir _ _ _ (Qx mL)⟩
     obtain⟨j16,h16⟩:∃j,m=j+16:=⟨m-16,by omega⟩
     obtain⟨j15,h15⟩:∃j,m=j+15:=⟨m-15,by omega⟩
     obtain⟨j7,h7⟩:∃j,m=j+7:=⟨m-7,by omega⟩
     obtain⟨j2,h2⟩:∃j,m=j+2:=⟨m-2,by omega⟩
     have zi:J (nxW p.data.toList m (Wl p.data.toList m)=((Wl p.data.toList m).getD j16 0+sg0 ((Wl p.data.toList m).getD j15 0)+(Wl p.data.toList m).getD j7 0+sg1 ((Wl p.data.toList m).getD j2 0)) % 4294967296):=(by show nxW _ _ _=_;unfold nxW;rw[if_neg (by omega),show m-16=j16 by omega,show m-15=j15 by omega,show m-7=j7 by omega,show m-2=j2 by omega]);have n16:I.wrap ((m:Int)-16)=(j16:Int):=(by rw[w63 _ (by omega) (by omega)];omega);have n15:I.wrap ((m:Int)-15)=(j15:Int):=(by rw[w63 _ (by omega) (by omega)];omega);have n7:I.wrap ((m:Int)-7)=(j7:Int):=(by rw[w63 _ (by omega) (by omega)];omega);have n2:I.wrap ((m:Int)-2)=(j2:Int):=(by rw[w63 _ (by omega) (by omega)];omega);have l16:(j16:Int)<(m:Int):=(by omega);have l15:(j15:Int)<(m:Int):=(by omega);have l7:(j7:Int)<(m:Int):=(by omega);have l2:(j2:Int)<(m:Int):=(by omega);have HL:J (j16<m/\j15<m/\j7<m/\j2<m):=⟨by omega,by omega,by omega,by omega⟩
     have HX:J (∀V,M D wr V->(V.cell? ⟨g,j16,Y⟩=Z (O I ((Wl p.data.toList m).getD j16 0))/\V.cell? ⟨g,j7,Y⟩=Z (O I ((Wl p.data.toList m).getD j7 0)))/\V.cell? ⟨g,j15,Y⟩=Z (O I ((Wl p.data.toList m).getD j15 0))/\V.cell? ⟨g,j2,Y⟩=Z (O I ((Wl p.data.toList m).getD j2 0))):=λV hT=>⟨⟨(qJ.o V j16 hT HL.o.1).1,(qJ.o V j7 hT HL.o.2.2.1).1⟩,(qJ.o V j15 hT HL.o.2.1).1,(qJ.o V j2 hT HL.o.2.2.2).1⟩
     have iP:=(qJ.o wr j16 (Te _ _) HL.o.1).2;have rD:=(qJ.o wr j15 (Te _ _) HL.o.2.1).2;have hu7:=(qJ.o wr j7 (Te _ _) HL.o.2.2.1).2;have nH:=(qJ.o wr j2 (Te _ _) HL.o.2.2.2).2;generalize (Wl p.data.toList m).getD j16 0=x16 at *;generalize (Wl p.data.toList m).getD j15 0=x15 at *;generalize (Wl p.data.toList m).getD j7 0=x7 at *;generalize (Wl p.data.toList m).getD j2 0=x2 at *;have gx:J (∀V,aB N 252 #[O I x15,O I 7] V λe w'=>e=aC (O I (rr 7 x15))/\M D V w'):=λV=>Yq x15 rD 7 (by decide) V;have iQ:J (∀V,aB N 252 #[O I x15,O I 18] V λe w'=>e=aC (O I (rr 18 x15))/\M D V w'):=λV=>Yq x15 rD 18 (by decide) V;have iR:J (∀V,aB N 252 #[O I x2,O I 17] V λe w'=>e=aC (O I (rr 17 x2))/\M D V w'):=λV=>Yq x2 nH 17 (by decide) V;have iS:J (∀V,aB N 252 #[O I x2,O I 19] V λe w'=>e=aC (O I (rr 19 x2))/\M D V w'):=λV=>Yq x2 nH 19 (by decide) V;have p6:J (bits .xor I (bits .xor I (rr 7 x15) (rr 18 x15)) (x15/8)=sg0 x15/\U32 (sg0 x15)):=(by refine⟨?_,Xi _ _ _⟩;have h8:U32 (x15/8):=Jke rD 3;rw[YU (ZZ _ _) (ZZ _ _),YU (Xi _ _ _) h8];rfl);have gF:J (bits .xor I (bits .xor I (rr 17 x2) (rr 19 x2)) (x2/1024)=sg1 x2/\U32 (sg1 x2)):=(by refine⟨?_,Xi _ _ _⟩;have h10:U32 (x2/1024):=Jke nH 10;rw[YU (ZZ _ _) (ZZ _ _),YU (Xi _ _ _) h10];rfl);generalize sg0 x15=A at *;generalize sg1 x2=B at *;generalize rr 7 x15=r7 at *;generalize rr 18 x15=r18 at *;generalize rr 17 x2=r17 at *;generalize rr 19 x2=r19 at *;have p15:=rD.1;have p2:=nH.1;have HU:J (U32 x16/\U32 x7):=⟨iP,hu7⟩
     clear iP rD hu7 nH Ho qJ h16 h15 h7 h2 HL tU;obtain⟨⟨q16,q7⟩,q15,q2⟩:=HX.o wr (Te _ _);go_upto_region 9 with fail;go_cut [6] (λv wx=>v=O I A/\J (M D wr wx))
     case first=>
      go_region_held3 (λV=>V.cell? ⟨g,j15,Y⟩=Z (O I x15)) (go_keep) ((first
       | (go_at_call_of 252 (lI I 7);refine(gx.o _).mono ?_;rintro _ wa⟨rfl,vT⟩;have rE:J (M D wr wa):=(Td D wr 1).go vT;have f15:=(HX.o _ rE.o).2.1;clear vT)
       | (go_at_call_of 252 (lI I 18);refine(iQ.o _).mono ?_;rintro _ wb⟨rfl,vU⟩;have rF:J (M D wr wb):=rE.o.go vU;have g15:=(HX.o _ rF.o).2.1;clear vU)))
      all_goals go_wp2;go_meet;exact⟨by first|rw[<-p6.o.1]|(rw[<-p6.o.1];rfl),rF⟩
     case rest=>
     obtain⟨rfl,H5⟩:=hcut;obtain⟨wx,hwx⟩:∃wx,wx=wc:=⟨wc,rfl⟩
     subst hwx;clear q16 q7 q15 q2;obtain⟨⟨q16,q7⟩,q15,q2⟩:=HX.o wx H5.o;go_upto_region 10 with fail;go_cut [7] (λv wy=>v=O I B/\J (M D wr wy))
     case first=>
      go_region_held3 (λV=>V.cell? ⟨g,j2,Y⟩=Z (O I x2)) (go_keep) ((first
       | (go_at_call_of 252 (lI I 17);refine(iR.o _).mono ?_;rintro _ wa⟨rfl,vT⟩;have rE:J (M D wr wa):=(H5.o.go (Td D wx 1)).go vT;have f2:=(HX.o _ rE.o).2.2;clear vT)
       | (go_at_call_of 252 (lI I 19);refine(iS.o _).mono ?_;rintro _ wb⟨rfl,vU⟩;have rF:J (M D wr wb):=rE.o.go vU;have g2:=(HX.o _ rF.o).2.2;clear vU)))
      all_goals go_wp2;go_meet;exact⟨by first|rw[<-gF.o.1]|(rw[<-gF.o.1];rfl),rF⟩
     case rest=>
     obtain⟨rfl,H6⟩:=hcut;obtain⟨wy,tO⟩:∃wy,wy=wc:=⟨wc,rfl⟩
     subst tO;clear q16 q7 q15 q2;have pM:J (∀V,M D wy V->V.cell? ⟨g,j16,Y⟩=Z (O I x16)/\V.cell? ⟨g,j7,Y⟩=Z (O I x7)):=λV hT=>(HX.o V (H6.o.go hT)).1;have HZy:J (ZOwn w.heap.size wy (R (Z ⟨g,0,Y⟩) m cap) (Wl p.data.toList m)):=HZ.o.tch H6.o (λ_ _ h=>h);obtain⟨bA0,bA1⟩:=p6.o.2;obtain⟨bB0,bB1⟩:=gF.o.2;obtain⟨⟨b160,b161⟩,b70,b71⟩:=HU.o;have w1:I.wrap (x16+A)=x16+A:=w63 _ (by omega) (by omega);have w2:I.wrap (x16+A+x7)=x16+A+x7:=w63 _ (by omega) (by omega);have w3:I.wrap (x16+A+x7+B)=x16+A+x7+B:=w63 _ (by omega) (by omega);have w4:0<=x16+A+x7+B:=(by omega);clear HX gx iQ iR iS p6 gF HU;go_upto_region 11 with fail;refine Ja9 (S:=λW=>W.cell? ⟨g,j16,Y⟩=Z (O I x16)/\W.cell? ⟨g,j7,Y⟩=Z (O I x7)) 20 20 (by simp) (by simp) (by kernel_rfl) (by kernel_rfl) (by kernel_rfl) (pM.o _ (Td _ _ 1)) ?_;intro hHeld l o1 o2 hl pC eU;simp only[lO,lP]at hl;simp only[lO,lP,lQ,lR]at pC;simp only[lQ,lR]at eU;subst hl;subst pC;subst eU;simp only[Qp,Qv,Nat.reduceAdd];refine tkL 0 ?_;simp only[lC,Qa,Qb,Qc];refine tkL 1 ?_;simp only[lC,Qa,Qb,Qc];refine tkL 2 ?_;simp only[lC,Qa,Qb,Qc];refine tkL 3 ?_;simp only[lC,Qa,Qb,Qc];refine tkL 4 ?_;simp only[lC,Qa,Qb,Qc];refine tkL 5 ?_;simp only[lC,Qa,Qb,Qc];refine tkL 6 ?_;simp only[lC,Qa,Qb,Qc];refine tkL 7 ?_;simp only[lC,Qa,Qb,Qc];refine tkL 8 ?_;simp only[lC,Qa,Qb,Qc];refine tkL 9 ?_;simp only[lC,Qa,Qb,Qc];refine tkL 10 ?_;simp only[lC,Qa,Qb,Qc];refine tkL 11 ?_;simp only[lC,Qa,Qb,Qc];refine tkL 12 ?_;simp only[lC,Qa,Qb,Qc];refine tkL 13 ?_;simp only[lC,Qa,Qb,Qc];refine tkL 14 ?_;simp only[lC,Qa,Qb,Qc];refine tkL 15 ?_;simp only[lC,Qa,Qb,Qc];refine tkL 16 ?_;simp only[lC,Qa,Qb,Qc];refine JaK (i:=17) rfl (by kernel_rfl) (λK hK=>?_);go_simp;refine hK.out _ _ (pM.o _ (M.box _ _)) (λ_=>?_);clear hK K
     try simp only[lC,Qa,Qb,Qc]
     refine wpAnyH_done (by kernel_rfl) ?_ _;show wpList _ _ _ [_] _ _;refine Jdo rfl _ _ rfl rfl (HZy.o.tch (M.box wy _) (λ_ _ h=>h)) _ _ rfl (cell_of_row (wy.alloc _) _ _ _ _ _ (Qf wy _)) (by rw[XA];omega) (Qm (HT.o.go H6.o).size (M.box wy _).size) ?_;intro v1 w5 hz5 iC;have HZ5:J (ZOwn w.heap.size w5 v1 (Wl p.data.toList (m+1))):=by show ZOwn _ _ _ _;unfold Wl stW;rw[zi.o];rw[lM w4]at hz5;exact hz5
     have HG5:J (M D w w5):=(by refine((HT.o.go H6.o).go (M.box wy _)).trans (Jfl iC) (λj hj=>aN ?_);exact(HZ.o.own j hj.symm).1);clear hz5 iC;refine wpList_nil ?_;show wpList _ _ _ [_] _ _;go_wp2;go_roundw
     case rel=>exact⟨m+1,by omega,by omega,by go_num,HZ5,HG5⟩
     case measure=>simp[intOf];omega
    ·have iO:¬(m:Int)<64:=(by omega);have HM:J (m=64):=(by omega:m=64)
     go_wp2;go_ret;exact⟨_,rfl,by have:=HZ.o;rw[HM.o]at this;exact this,HT.o⟩

theorem JhK(w:aA):
  aB Tryz.prog 250 #[] w λe w'=>∃g,e=aC (R (Z ⟨g,0,Y⟩) 64 64)/\w'.heap[g]? =Z (T (zV Ks).toArray 3)/\M D w w':=by
 go_enter Tryz.func250,Tryz.ntmps250;go_wp2;go_ret;exact⟨w.heap.size,rfl,Qf _ _,Ta _ _ _⟩

def z8(s:S8):Array aG:= #[O I s.a,O I s.b,O I s.c,O I s.d,O I s.e,O I s.f,O I s.g,O I s.h]
structure S8.U(s:S8):Prop where
 a:U32 s.a
 b:U32 s.b
 c:U32 s.c
 d:U32 s.d
 e:U32 s.e
 f:U32 s.f
 g:U32 s.g
 h:U32 s.h
theorem S8.U.of{s:S8}(h:∀x∈s.list,U32 x):s.U:=by
 unfold S8.list at h;exact⟨h _ (by simp),h _ (by simp),h _ (by simp),h _ (by simp),h _ (by simp),h _ (by simp),h _ (by simp),h _ (by simp)⟩
theorem S8.U.rnd{s:S8}(h:s.U)(k w:Int):(rnd k w s).U:=by
 unfold Proofs.YtighkdnooglfjaaGreatDoor.rnd;exact⟨Jdx _,h.a,h.b,h.c,Jdx _,h.e,h.f,h.g⟩
theorem S8.U.to{s:S8}(h:s.U)(ws:List Int):∀k,(toS ws s k).U
 | 0=>h
 | k+1=>(S8.U.to h ws k).rnd _ _
def rs(ws:List Int)(s:S8)(k:Nat):S8:=toS ws s k
theorem S8.U.rs{s:S8}(h:s.U)(ws:List Int)(k:Nat):(Proofs.YtighkdnooglfjaaGreatDoor.rs ws s k).U:=S8.U.to h ws k
def bigA(x:Int):Int:=bits .xor aF (bits .xor aF (rr 2 x) (rr 13 x)) (rr 22 x)
def bigE(x:Int):Int:=bits .xor aF (bits .xor aF (rr 6 x) (rr 11 x)) (rr 25 x)
def cho(s:S8):Int:=bits .xor aF (bits .and aF s.e s.f) (bits .and aF (4294967295-s.e) s.g)
def tR(k w:Int)(s:S8):Int:=(s.h+bigE s.e+cho s+k+w) % 4294967296
theorem JoW(k w:Int){s:S8}(h:s.U):rnd k w s=⟨(tR k w s+bigA s.a+maj s) % 4294967296,s.a,s.b,s.c,(s.d+tR k w s) % 4294967296,s.e,s.f,s.g⟩:=by
 have e1:t1 k w s=s.h+bigE s.e+cho s+k+w:=by unfold t1 bigE cho;rw[JoM h.e]
 unfold rnd;rw[e1];unfold tR;have e2:bits .xor aF (bits .xor aF (rr 2 s.a) (rr 13 s.a)) (rr 22 s.a)=bigA s.a:=rfl;rw[e2];generalize s.h+bigE s.e+cho s+k+w=t;generalize bigA s.a=A;generalize maj s=m
 congr 1
 omega
theorem JpA(i:Nat):U32 (Ks.getD i 0):=by
 by_cases h:i<64
 ·have:∀j:Fin 64,0<=Ks.getD j.1 0/\Ks.getD j.1 0<4294967296:=by decide
  exact this ⟨i,h⟩
 ·rw[Qn,l6 (by show 64<=i;omega)];exact⟨by decide,by decide⟩

def z80:Array aG:= #[O I 0,O I 0,O I 0,O I 0,O I 0,O I 0,O I 0,O I 0]
theorem JqK(w:aA):(Instr.makeSlice 62 (O I 8) (O I 8)).run N w=.ok (R (Z ⟨w.heap.size,0,Y⟩) 8 8) (w.alloc (T z80 3)):=by
 obtain⟨i,hi,hp⟩:=lK.1 JiI;simp only[Qw]at hp;obtain⟨hz,Hp,gy⟩:=hp;have:=run_make (P:=N) w 62 3 i _ underlying62 hi hz I I 8 8 (by omega) (by omega) (by rw[gy];omega) (by omega);rw[this,Hp];have e:madeCells (lI I 0).cells (Int.toNat 8*1)=z80:=by kernel_rfl
 rw[e];rfl
theorem Joe(w:aA)(g gh:Nat)(s:S8)(hg:w.heap[g]? =Z (T z80 3))(hh:w.heap[gh]? =Z (T (z8 s) 3))(ty:TypeId):(Builtin.copy_ #[62,62] ty #[R (Z ⟨g,0,Y⟩) 8 8,R (Z ⟨gh,0,Y⟩) 8 8]).run N w=.ok (O I 8) (w.setRow g (z8 s)):=by
 obtain⟨i,hi,hp⟩:=lK.1 JiI;simp only[Qw]at hp;obtain⟨hz,Hp,gy⟩:=hp;have:=Jby (P:=N) w 62 62 ty 3 1 g 8 8 ⟨gh,0,Y⟩ 8 8 z80 3 (z8 s).toList underlying62 (by rw[hi];simp[Hp]) hg rfl (λj v hv=>by
  rw[Addr.add_lit,Nat.zero_add,Ja hh,<-Array.getElem?_toList];exact hv) rfl (λv hv=>by
  simp only[z8,List.mem_cons,QD,or_false]at hv
  rcases hv with rfl|rfl|rfl|rfl|rfl|rfl|rfl|rfl<;>rfl)
 rw[this];rfl
def shA(s:S8):Nat->Array aG
 | 0=> #[O I s.a,O I s.b,O I s.c,O I s.d,O I s.e,O I s.f,O I s.g,O I s.h]
 | 1=> #[O I s.a,O I s.b,O I s.c,O I s.d,O I s.e,O I s.f,O I s.g,O I s.g]
 | 2=> #[O I s.a,O I s.b,O I s.c,O I s.d,O I s.e,O I s.f,O I s.f,O I s.g]
 | 3=> #[O I s.a,O I s.b,O I s.c,O I s.d,O I s.e,O I s.e,O I s.f,O I s.g]
 | 4=> #[O I s.a,O I s.b,O I s.c,O I s.d,O I s.d,O I s.e,O I s.f,O I s.g]
 | 5=> #[O I s.a,O I s.b,O I s.c,O I s.c,O I s.d,O I s.e,O I s.f,O I s.g]
 | 6=> #[O I s.a,O I s.b,O I s.b,O I s.c,O I s.d,O I s.e,O I s.f,O I s.g]
 | _=> #[O I s.a,O I s.a,O I s.b,O I s.c,O I s.d,O I s.e,O I s.f,O I s.g]
def adA(s t:S8):Nat->Array aG
 | 0=> #[O I s.a,O I s.b,O I s.c,O I s.d,O I s.e,O I s.f,O I s.g,O I s.h]
 | 1=> #[O I ((s.a+t.a) % 4294967296),O I s.b,O I s.c,O I s.d,O I s.e,O I s.f,O I s.g,O I s.h]
 | 2=> #[O I ((s.a+t.a) % 4294967296),O I ((s.b+t.b) % 4294967296),O I s.c,O I s.d,O I s.e,O I s.f,O I s.g,O I s.h]
 | 3=> #[O I ((s.a+t.a) % 4294967296),O I ((s.b+t.b) % 4294967296),O I ((s.c+t.c) % 4294967296),O I s.d,O I s.e,O I s.f,O I s.g,O I s.h]
 | 4=> #[O I ((s.a+t.a) % 4294967296),O I ((s.b+t.b) % 4294967296),O I ((s.c+t.c) % 4294967296),O I ((s.d+t.d) % 4294967296),O I s.e,O I s.f,O I s.g,O I s.h]
 | 5=> #[O I ((s.a+t.a) % 4294967296),O I ((s.b+t.b) % 4294967296),O I ((s.c+t.c) % 4294967296),O I ((s.d+t.d) % 4294967296),O I ((s.e+t.e) % 4294967296),O I s.f,O I s.g,O I s.h]
 | 6=> #[O I ((s.a+t.a) % 4294967296),O I ((s.b+t.b) % 4294967296),O I ((s.c+t.c) % 4294967296),O I ((s.d+t.d) % 4294967296),O I ((s.e+t.e) % 4294967296),O I ((s.f+t.f) % 4294967296),O I s.g,O I s.h]
 | 7=> #[O I ((s.a+t.a) % 4294967296),O I ((s.b+t.b) % 4294967296),O I ((s.c+t.c) % 4294967296),O I ((s.d+t.d) % 4294967296),O I ((s.e+t.e) % 4294967296),O I ((s.f+t.f) % 4294967296),O I ((s.g+t.g) % 4294967296),O I s.h]
 | _=> #[O I ((s.a+t.a) % 4294967296),O I ((s.b+t.b) % 4294967296),O I ((s.c+t.c) % 4294967296),O I ((s.d+t.d) % 4294967296),O I ((s.e+t.e) % 4294967296),O I ((s.f+t.f) % 4294967296),O I ((s.g+t.g) % 4294967296),O I ((s.h+t.h) % 4294967296)]
theorem JmS(s:S8)(m:Nat):(outL s m).length<=1000:=by
 unfold outL;have h:∀l:List Int,(l.flatMap λx=>Hf x.toNat 4 4).length=4*l.length:=λl=>by
  induction l with
  | nil=>rfl
  | cons x r ih=>rw[QG,Qe,ih,Jf,Qp];omega
 rw[h,QB];have:s.list.length=8:=rfl;omega
theorem S8.U.get{s:S8}(h:s.U)(m:Nat)(hm:m<8):U32 (s.list.getD m 0):=by
 have hm:m=0\/m=1\/m=2\/m=3\/m=4\/m=5\/m=6\/m=7:=by omega
 rcases hm with rfl|rfl|rfl|rfl|rfl|rfl|rfl|rfl
 ·exact h.a
 ·exact h.b
 ·exact h.c
 ·exact h.d
 ·exact h.e
 ·exact h.f
 ·exact h.g
 ·exact h.h
theorem Jn2(s t:S8)(m:Nat)(h:m<8):(adA s t m)[m]? =Z (O I (s.list.getD m 0))/\(adA s t m).setIfInBounds m (O I ((s.list.getD m 0+t.list.getD m 0) % 4294967296))=adA s t (m+1):=by
 have hm:m=0\/m=1\/m=2\/m=3\/m=4\/m=5\/m=6\/m=7:=by omega
 rcases hm with rfl|rfl|rfl|rfl|rfl|rfl|rfl|rfl<;>exact⟨rfl,rfl⟩
theorem JnZ(s:S8)(m:Nat)(h:m<8):(z8 s)[m]? =Z (O I (s.list.getD m 0)):=by
 have hm:m=0\/m=1\/m=2\/m=3\/m=4\/m=5\/m=6\/m=7:=by omega
 rcases hm with rfl|rfl|rfl|rfl|rfl|rfl|rfl|rfl<;>rfl
theorem JqO(s:BA)(w:aA)(hs:s.size<1152921504606846976):
  aB N 163 #[L s] w λe w'=>e=aC (L ⟨(digL s.data.toList).toArray⟩)/\M D w w':=by
 have iT:J (∀V,_):=λV=>Jm9 s V hs;have jR:J (digL s.data.toList=outL (JV ((padS s.data.toList).length/64) H0 (padS s.data.toList)) 8):=by show digL _=_;rw[Jme,JhW]
 obtain⟨(iU:J _),Hq⟩:=JhE s.data.toList;rw[show s.data.toList.length=s.size by simp only[QA];rfl]at Hq;generalize padS s.data.toList=PL at *;generalize digL s.data.toList=DG at *;obtain⟨PT,hPT⟩:∃PT:BA,PT=⟨PL.toArray⟩:=⟨_,rfl⟩
 have hPS:PT.size=PL.length:=by rw[hPT,Ji]
 have bp:J (PT.data.toList=PL):=by show PT.data.toList=PL;rw[hPT]
 rw[<-hPT]at iT;clear hPT;go_enter func163,ntmps163;go_wp2_with fail;refine(iT _).mono ?_;rintro _ w1⟨rfl,(H5:J _)⟩;clear iT;go_wp2_with fail;refine(JhK _).mono ?_;rintro _ w2⟨gk,rfl,(vC:J _),ht⟩;have H6:J _:=H5.go ht;clear ht H5;obtain⟨W,(HW:J _)⟩:∃W,W=w2.alloc (T (z8 H0) 3):=⟨_,rfl⟩
 have ge:J (M D w W):=by show M _ w W;rw[HW];exact H6.go (Ta _ _ _)
 have aa:J (W.heap[w2.heap.size]? =Z (T (z8 H0) 3)):=by show W.heap[w2.heap.size]? =_;rw[HW];exact Qf _ _
 have xE:J (W.heap[gk]? =Z (T (zV Ks).toArray 3)/\gk<w2.heap.size):=by
  have h1:=(Jb vC)
  refine⟨?_,h1⟩;rw[HW];exact((Ta D w2 _).block gk h1 (λh=>h)).trans vC.o
 have HB:J (w.heap.size<=w2.heap.size):=H6.size;obtain⟨gh,hgh⟩:∃gh,gh=w2.heap.size:=⟨_,rfl⟩
 rw[<-hgh]at aa xE HB;go_upto_region 4 with fail;show Code.wp _ _ _ _ (w2.alloc (T (z8 H0) 3));rw[<-HW.o,<-hgh];clear HW vC hgh;have hplb:PL.length<=1152921504606847100:=by omega
 clear Hq;go_wp2;go_loopw [6] (λv6 wr=>∃aU j:Nat,J (aU=64*j)/\aU<=PL.length/\v6=O I (aU:Int)/\J (wr.heap[gh]? =Z (T (z8 (JV j H0 PL)) 3))/\J (M (λx=>x=gh) W wr)) (λv6 _=>PL.length-(intOf v6).toNat)
 case atStart=>exact⟨0,0,rfl,ld _,rfl,aa,Te _ _⟩
 case round=>
  obtain⟨aU,j,HM,hM,rfl,HR,HT⟩:=hrel
  by_cases H7:aU<PL.length
  ·have tH:(aU:Int)<(PT.size:Int):=(by omega);have hM64:aU+64<=PL.length:=(by have:=HM.o;have:=iU.o;omega);have hw64:I.wrap ((aU:Int)+64)=(aU:Int)+64:=w63 _ (by omega) (by omega);have i1:(aU:Int)<=(aU:Int)+64:=(by omega);have i2:(aU:Int)+64<=(PT.size:Int):=(by omega);have i3:(0:Int)<=(aU:Int)+64:=(by omega);have n1:((aU:Int)+64).toNat=aU+64:=(by omega);have n2:aU+64<=PT.size:=(by omega);have ac:J ((PT.extract aU (aU+64)).data.toList=(PL.drop (64*j)).take 64):=by
    show (PT.extract aU (aU+64)).data.toList=_;rw[lG,lH,bp.o,lE,HM.o];simp
   have HSC:J (∀V,aB N 251 #[L (PT.extract aU (aU+64))] V λe w'=>∃v,e=aC v/\ZOwn V.heap.size w' v (Wl (PT.extract aU (aU+64)).data.toList 64)/\M D V w'):=λV=>Ji1 _ (by rw[l5];omega) V;go_wp2_with fail;refine(HSC _).mono ?_;rintro _ w4⟨vw,rfl,hz,Hu⟩;have Hm:J (M D wr w4):=Hu;have HZ4:J (ZOwn wr.heap.size w4 vw (Wl ((PL.drop (64*j)).take 64) 64)):=(by have:=hz;rw[ac.o]at this;exact this);clear hz Hu HSC ac;have tU:=XA ((PL.drop (64*j)).take 64) 64;obtain⟨gw,cw,hvw,mM,hcw⟩:=HZ4.at (λe=>by rw[e]at tU;simp at tU);rw[tU]at hvw;subst hvw;have qZ:=JqK w4;have cH:gh<w4.heap.size:=Qk (Jb HR) Hm.size;obtain⟨gv,hgv⟩:∃gv,gv=w4.heap.size:=⟨_,rfl⟩
   have xP:(w4.alloc (T z80 3)).heap[gh]? =Z (T (z8 (JV j H0 PL)) 3):=(((Ta D w4 (T z80 3)).block gh cH (λh=>h)).trans (Hm.block gh (Jb HR) (λh=>h))).trans HR.o;have tN:=Joe (w4.alloc (T z80 3)) w4.heap.size gh (JV j H0 PL) (Qf _ _) xP 3;obtain⟨W5,iV⟩:∃W5,W5=(w4.alloc (T z80 3)).setRow w4.heap.size (z8 (JV j H0 PL)):=⟨_,rfl⟩
   rw[<-iV]at tN;go_upto_region 10 with fail;rw[<-iV,<-hgv];have iW:J ((JV j H0 PL).U):=S8.U.of (JcE j H0 PL Jiq);have HFS:J (JV (j+1) H0 PL=addS (JV j H0 PL) (rs (Wl ((PL.drop (64*j)).take 64) 64) (JV j H0 PL) 64)):=rfl;have HWU:J (∀i,i<64->U32 ((Wl ((PL.drop (64*j)).take 64) 64).getD i 0)):=λi hi=>by
    rw[Qn,Qd (by rw[tU];exact hi)];exact Jir _ _ _ (Qx _)
   have rG:M D w4 W5:=(by rw[iV];exact((Ta D w4 (T z80 3)).trans (Ts _ _ _) (λx hx=>aN (by rw[hx];exact Ql _))));have kE:W5.heap[gv]? =Z (T (z8 (JV j H0 PL)) 3):=(by rw[iV,hgv];exact Qi _ _ _ _ _ _ (Qf _ _));have jy:J (W5.heap[gv]? =Z (T (z8 (JV j H0 PL)) 3)):=kE;have qF:J (W5.heap[gh]? =Z (T (z8 (JV j H0 PL)) 3)):=((rG.block gh cH (λh=>h)).trans (Hm.block gh (Jb HR) (λh=>h))).trans HR.o;have HK5:J (W5.heap[gk]? =Z (T (zV Ks).toArray 3)):=by
    have h0:=(Jb xE.1)
    have h1:=(HT.block gk h0 (λe=>by have:=xE.o.2;omega)).trans xE.1;have h2:=(Hm.block gk (Jb h1) (λh=>h)).trans h1;exact(rG.block gk (Jb h2) (λh=>h)).trans h2
   have HW5:J (∀i,i<64->W5.cell? ⟨gw,i,Y⟩=Z (O I ((Wl ((PL.drop (64*j)).take 64) 64).getD i 0))):=λi hi=>by
    rw[rG.cell (p:=⟨gw,i,Y⟩) mM (λh=>h),hcw i (by rw[tU];exact hi),Qn,Qd (by rw[tU];exact hi)];rfl
   have xN:J (gh ≠ gv/\gk ≠ gv/\gw ≠ gv):=by
    refine⟨by omega,?_,by omega⟩;have h0:=(Jb xE.1)
    have:=HT.o.size;have:=Hm.o.size;omega
   have kD:J (M D wr W5):=Hm.go rG;have HGV:J (W.heap.size<=gv):=(by have h1:=HT.o.size;have h2:=Hm.o.size;show W.heap.size<=gv;omega);clear iV tN xP qZ rG kE hcw mM hgv cH HZ4 Hm tU;generalize Wl ((PL.drop (64*j)).take 64) 64=ws at *;generalize JV j H0 PL=S at *;go_wp2;go_loopw [9] (λv9 wy=>∃i:Nat,i<=64/\v9=O I (i:Int)/\J (wy.heap[gv]? =Z (T (z8 (rs ws S i)) 3))/\J (M (λx=>x=gv) W5 wy)) (λv9 _=>64-(intOf v9).toNat)
   case atStart=>exact⟨0,by omega,rfl,jy,Te _ _⟩
   case round=>
    clear H7 tH i1 i2 i3 n1 n2 hw64;obtain⟨i,hi,rfl,mD,iX⟩:=hrel
    by_cases H7:i<64
    ·have tH:(i:Int)<64:=(by omega);have jW:J (rs ws S (i+1)=rnd (Ks.getD i 0) (ws.getD i 0) (rs ws S i)):=rfl;have HU:J ((rs ws S i).U):=S8.U.rs iW ws i;have HUW:=HWU i H7;have HUK:=JpA i;have kX:J (∀V,M D wr V->V.heap[gv]? =Z (T (z8 (rs ws S i)) 3)/\V.cell? ⟨gk,i,Y⟩=Z (O I (Ks.getD i 0))/\V.cell? ⟨gw,i,Y⟩=Z (O I (ws.getD i 0))):=λV hT=>by
      have hc:=HW5 i H7;have mM:=Qr _ _ hc;have h1:=(iX.block gk (Jb HK5) xN.2.1).trans HK5.o;have h2:=(hT.block gk (Jb h1) (λh=>h)).trans h1;have h3:=(iX.cell (p:=⟨gw,i,Y⟩) mM xN.2.2).trans hc;refine⟨(hT.block gv (Jb mD) (λh=>h)).trans mD,?_,(hT.cell (p:=⟨gw,i,Y⟩) (Qr _ _ h3) (λh=>h)).trans h3⟩;rw[Ja h2];have hk:i<Ks.length:=H7;simp[zV,List.getD_eq_getElem?_getD,hk]
     have hrf:=JoW (Ks.getD i 0) (ws.getD i 0) HU.o;rw[hrf]at jW;clear hrf;generalize Ks.getD i 0=kk at *;generalize ws.getD i 0=ww at *;generalize hTT:rs ws S i=aY at *;clear hTT;obtain⟨a,b,c,d,e,f,g,h⟩:=aY;obtain⟨ua,ub,uc,ud,ue,uf,ug,uh⟩:=HU.o;simp only at ua ub uc ud ue uf ug uh jW;have kL:=jW.o;simp only[tR]at kL;have jW:J (_=_):=kL;clear kL;have HUE:J (U32 (bigE e)/\U32 (bigA a)):=⟨Xi _ _ _,Xi _ _ _⟩
     have HMJ:J (bits .xor I (bits .xor I (bits .and I a b) (bits .and I a c)) (bits .and I b c)=maj ⟨a,b,c,d,e,f,g,h⟩/\U32 (maj ⟨a,b,c,d,e,f,g,h⟩)):=(by refine⟨?_,Xi _ _ _⟩;rw[JbU ua ub,JbU ua uc,JbU ub uc,YU (Xi _ _ _) (Xi _ _ _),YU (Xi _ _ _) (Xi _ _ _)];rfl);generalize maj ⟨a,b,c,d,e,f,g,h⟩=aU at *;have HV:J (∀V,M D wr V->(V.cell? ⟨gv,0,Y⟩=Z (O I a)/\V.cell? ⟨gv,1,Y⟩=Z (O I b)/\V.cell? ⟨gv,2,Y⟩=Z (O I c)/\V.cell? ⟨gv,3,Y⟩=Z (O I d))/\(V.cell? ⟨gv,4,Y⟩=Z (O I e)/\V.cell? ⟨gv,5,Y⟩=Z (O I f)/\V.cell? ⟨gv,6,Y⟩=Z (O I g)/\V.cell? ⟨gv,7,Y⟩=Z (O I h))/\V.cell? ⟨gk,i,Y⟩=Z (O I kk)/\V.cell? ⟨gw,i,Y⟩=Z (O I ww)):=λV hV=>by
      obtain⟨h1,h2,h3⟩:=kX V hV;exact⟨⟨Ja h1,Ja h1,Ja h1,Ja h1⟩,⟨Ja h1,Ja h1,Ja h1,Ja h1⟩,h2,h3⟩
     have kz:J (∀V,aB N 252 #[O I e,O I 6] V λx w'=>x=aC (O I (rr 6 e))/\M D V w'):=λV=>Yq e ue 6 (by decide) V;have yB:J (∀V,aB N 252 #[O I e,O I 11] V λx w'=>x=aC (O I (rr 11 e))/\M D V w'):=λV=>Yq e ue 11 (by decide) V;have iY:J (∀V,aB N 252 #[O I e,O I 25] V λx w'=>x=aC (O I (rr 25 e))/\M D V w'):=λV=>Yq e ue 25 (by decide) V;have H6:J (∀V,aB N 252 #[O I a,O I 2] V λx w'=>x=aC (O I (rr 2 a))/\M D V w'):=λV=>Yq a ua 2 (by decide) V;have iZ:J (∀V,aB N 252 #[O I a,O I 13] V λx w'=>x=aC (O I (rr 13 a))/\M D V w'):=λV=>Yq a ua 13 (by decide) V;have i6:J (∀V,aB N 252 #[O I a,O I 22] V λx w'=>x=aC (O I (rr 22 a))/\M D V w'):=λV=>Yq a ua 22 (by decide) V;have ul:J (bits .xor I (bits .xor I (rr 6 e) (rr 11 e)) (rr 25 e)=bigE e):=(by show bits _ _ _ _=_;rw[YU (ZZ _ _) (ZZ _ _),YU (Xi _ _ _) (ZZ _ _)];rfl);have uH:J (bits .xor I (bits .xor I (rr 2 a) (rr 13 a)) (rr 22 a)=bigA a):=(by show bits _ _ _ _=_;rw[YU (ZZ _ _) (ZZ _ _),YU (Xi _ _ _) (ZZ _ _)];rfl);generalize bigE e=E at *;generalize bigA a=A at *;generalize rr 6 e=r6 at *;generalize rr 11 e=r11 at *;generalize rr 25 e=r25 at *;generalize rr 2 a=r2 at *;generalize rr 13 a=r13 at *;generalize rr 22 a=r22 at *;obtain⟨⟨qa,qb,qc,qd⟩,⟨qe,qf,qg,qh⟩,qk,qw⟩:=HV wr (Te _ _);go_upto_region 13 with fail;go_cut [10] (λv wx=>v=O I E/\J (M D wr wx))
     case first=>
      go_region_held3 (λV=>V.cell? ⟨gv,4,Y⟩=Z (O I e)) (go_keep) ((first
       | (go_at_call_of 252 (lI I 6);refine(kz _).mono ?_;rintro _ wa⟨rfl,vT⟩;have rE:J (M D wr wa):=(Td D wr 1).go vT;have f15:=(HV _ rE).2.1.1;clear vT)
       | (go_at_call_of 252 (lI I 11);refine(yB _).mono ?_;rintro _ wb⟨rfl,vU⟩;have rF:J (M D wr wb):=rE.go vU;have g15:=(HV _ rF).2.1.1;clear vU)
       | (go_at_call_of 252 (lI I 25);refine(iY _).mono ?_;rintro _ wd⟨rfl,i7⟩;have mo:J (M D wr wd):=rF.go i7;have h15:=(HV _ mo).2.1.1;clear i7)))
      all_goals go_wp2;go_meet;exact⟨by first|rw[<-ul.o]|(rw[<-ul.o];rfl),mo⟩
     case rest=>
     obtain⟨rfl,kI⟩:=hcut;obtain⟨wA,jC⟩:∃wA,wA=wc:=⟨wc,rfl⟩
     subst jC;clear qa qb qc qd qe qf qg qh qk qw kz yB iY ul;obtain⟨ue1,ue2⟩:=ue;have mN:I.wrap (4294967295-e)=4294967295-e:=w63 _ (by omega) (by omega);have HCH:J (bits .xor I (bits .and I e f) (bits .and I (4294967295-e) g)=cho ⟨a,b,c,d,e,f,g,h⟩):=by show bits _ _ _ _=_;rw[JbU ⟨ue1,ue2⟩ uf,JbU ⟨by omega,by omega⟩ ug,YU (Xi _ _ _) (Xi _ _ _)];rfl
     have HUC:J (U32 (cho ⟨a,b,c,d,e,f,g,h⟩)):=Xi _ _ _;generalize cho ⟨a,b,c,d,e,f,g,h⟩=C at *;obtain⟨⟨qa,qb,qc,qd⟩,⟨qe,qf,qg,qh⟩,qk,qw⟩:=HV wA kI.o;go_upto_region 14 with fail;go_cut [11] (λv wx=>v=O I C/\J (M D wr wx))
     case first=>
      go_region_held3 (λV=>V.cell? ⟨gv,4,Y⟩=Z (O I e)/\V.cell? ⟨gv,5,Y⟩=Z (O I f)/\V.cell? ⟨gv,6,Y⟩=Z (O I g)) (go_keep) (fail)
      all_goals go_wp2;go_meet;exact⟨by first|rw[<-HCH.o]|(rw[<-HCH.o];rfl),kI.go (Td D wA 1)⟩
     case rest=>
     obtain⟨rfl,gZ⟩:=hcut;obtain⟨wB,yp⟩:∃wB,wB=wc:=⟨wc,rfl⟩
     subst yp;clear qa qb qc qd qe qf qg qh qk qw HCH mN;obtain⟨uC1,uC2⟩:=HUC.o;obtain⟨⟨uE1,uE2⟩,⟨uA1,uA2⟩⟩:=HUE.o;obtain⟨uh1,uh2⟩:=uh;obtain⟨uk1,uk2⟩:=HUK;obtain⟨uw1,uw2⟩:=HUW;have w1:I.wrap (h+E)=h+E:=w63 _ (by omega) (by omega);have w2:I.wrap (h+E+C)=h+E+C:=w63 _ (by omega) (by omega);have w3:I.wrap (h+E+C+kk)=h+E+C+kk:=w63 _ (by omega) (by omega);have w4:I.wrap (h+E+C+kk+ww)=h+E+C+kk+ww:=w63 _ (by omega) (by omega);obtain⟨t,ht⟩:∃t,(h+E+C+kk+ww) % 4294967296=t:=⟨_,rfl⟩
     rw[ht]at jW;have cI:J (Int.tmod (h+E+C+kk+ww) 4294967296=t/\0<=t/\t<4294967296):=(by refine⟨by rw[lM (by omega)];exact ht,by omega,by omega⟩);clear ht;obtain⟨⟨qa,qb,qc,qd⟩,⟨qe,qf,qg,qh⟩,qk,qw⟩:=HV wB gZ.o;go_upto_region 15 with fail;go_cut [12] (λv wx=>v=O I t/\J (M D wr wx))
     case first=>
      go_region_held3 (λV=>V.cell? ⟨gv,7,Y⟩=Z (O I h)/\V.cell? ⟨gk,i,Y⟩=Z (O I kk)/\V.cell? ⟨gw,i,Y⟩=Z (O I ww)) (go_keep) (fail)
      all_goals go_wp2;go_meet;exact⟨by first|rw[<-cI.o.1]|(rw[<-cI.o.1];rfl),gZ.go (Td D wB 1)⟩
     case rest=>
     obtain⟨rfl,qo⟩:=hcut;obtain⟨wC,pN⟩:∃wC,wC=wc:=⟨wc,rfl⟩
     subst pN;clear qa qb qc qd qe qf qg qh qk qw w1 w2 w3 w4 gZ kI;obtain⟨⟨qa,qb,qc,qd⟩,⟨qe,qf,qg,qh⟩,qk,qw⟩:=HV wC qo.o;go_upto_region 16 with fail;go_cut [13] (λv wx=>v=O I A/\J (M D wr wx))
     case first=>
      go_region_held3 (λV=>V.cell? ⟨gv,0,Y⟩=Z (O I a)) (go_keep) ((first
       | (go_at_call_of 252 (lI I 2);refine(H6 _).mono ?_;rintro _ wa⟨rfl,vT⟩;have rE:J (M D wr wa):=(qo.go (Td D wC 1)).go vT;have f15:=(HV _ rE).1.1;clear vT)
       | (go_at_call_of 252 (lI I 13);refine(iZ _).mono ?_;rintro _ wb⟨rfl,vU⟩;have rF:J (M D wr wb):=rE.go vU;have g15:=(HV _ rF).1.1;clear vU)
       | (go_at_call_of 252 (lI I 22);refine(i6 _).mono ?_;rintro _ wd⟨rfl,i7⟩;have mo:J (M D wr wd):=rF.go i7;have h15:=(HV _ mo).1.1;clear i7)))
      all_goals go_wp2;go_meet;exact⟨by first|rw[<-uH.o]|(rw[<-uH.o];rfl),mo⟩
     case rest=>
     obtain⟨rfl,nI⟩:=hcut;obtain⟨wD,i8⟩:∃wD,wD=wc:=⟨wc,rfl⟩
     subst i8;clear qa qb qc qd qe qf qg qh qk qw qo H6 iZ i6 uH;obtain⟨⟨qa,qb,qc,qd⟩,⟨qe,qf,qg,qh⟩,qk,qw⟩:=HV wD nI.o;go_upto_region 17 with fail;go_cut [14] (λv wx=>v=O I aU/\J (M D wr wx))
     case first=>
      go_region_held3 (λV=>V.cell? ⟨gv,0,Y⟩=Z (O I a)/\V.cell? ⟨gv,1,Y⟩=Z (O I b)/\V.cell? ⟨gv,2,Y⟩=Z (O I c)) (go_keep) (fail)
      all_goals go_wp2;go_meet;exact⟨by first|rw[<-HMJ.o.1]|(rw[<-HMJ.o.1];rfl),nI.go (Td D wD 1)⟩
     case rest=>
     obtain⟨rfl,fp⟩:=hcut;obtain⟨wE,hwE⟩:∃wE,wE=wc:=⟨wc,rfl⟩
     subst hwE;clear qa qb qc qd qe qf qg qh qk qw nI;have gC:J (wE.heap[gv]? =Z (T (shA ⟨a,b,c,d,e,f,g,h⟩ 0) 3)):=(kX wE fp).1;go_upto_region 18 with fail;go_wp2;go_loopw [15] (λv15 wy=>∃m:Nat,m<=7/\v15=O I (7-(m:Int))/\J (wy.heap[gv]? =Z (T (shA ⟨a,b,c,d,e,f,g,h⟩ m) 3))/\J (M (λx=>x=gv) wr wy)) (λv15 _=>(intOf v15).toNat)
     case atStart=>exact⟨0,by omega,rfl,gC,fp.mono noE⟩
     case round=>
      clear fp gC HV kX;obtain⟨m,hm,rfl,yR,uo⟩:=hrel
      by_cases H7:m<7
      ·have tq:m=0\/m=1\/m=2\/m=3\/m=4\/m=5\/m=6:=by omega
       rcases tq with rfl|rfl|rfl|rfl|rfl|rfl|rfl
       ·have hZ:=yR.o;obtain⟨-, -, -, -, -, -,q,q'⟩:=rows hZ;have z:wr.frozen? ⟨gv,7,Y⟩=false:=(by simp[lJ,hZ]);have gF:J (wr.setCell ⟨gv,7,Y⟩ (O I g)=wr.setRow gv (shA ⟨a,b,c,d,e,f,g,h⟩ 1)):=Qj wr gv 7 _ _ _ _ hZ;clear hZ;go_wp2;go_roundw
        case rel=>exact⟨1,by omega,rfl,by rw[gF.o];exact Qi _ _ _ _ _ _ yR,by rw[gF.o];exact uo.trans (Ts _ _ _) (λ_ h=>aM h)⟩
        case measure=>simp[intOf]
       ·have hZ:=yR.o;obtain⟨-, -, -, -, -,q,q'⟩:=rows hZ;have z:wr.frozen? ⟨gv,6,Y⟩=false:=(by simp[lJ,hZ]);have gF:J (wr.setCell ⟨gv,6,Y⟩ (O I f)=wr.setRow gv (shA ⟨a,b,c,d,e,f,g,h⟩ 2)):=Qj wr gv 6 _ _ _ _ hZ;clear hZ;go_wp2;go_roundw
        case rel=>exact⟨2,by omega,rfl,by rw[gF.o];exact Qi _ _ _ _ _ _ yR,by rw[gF.o];exact uo.trans (Ts _ _ _) (λ_ h=>aM h)⟩
        case measure=>simp[intOf]
       ·have hZ:=yR.o;obtain⟨-, -, -, -,q,q'⟩:=rows hZ;have z:wr.frozen? ⟨gv,5,Y⟩=false:=(by simp[lJ,hZ]);have gF:J (wr.setCell ⟨gv,5,Y⟩ (O I e)=wr.setRow gv (shA ⟨a,b,c,d,e,f,g,h⟩ 3)):=Qj wr gv 5 _ _ _ _ hZ;clear hZ;go_wp2;go_roundw
        case rel=>exact⟨3,by omega,rfl,by rw[gF.o];exact Qi _ _ _ _ _ _ yR,by rw[gF.o];exact uo.trans (Ts _ _ _) (λ_ h=>aM h)⟩
        case measure=>simp[intOf]
       ·have hZ:=yR.o;obtain⟨-, -, -,q,q'⟩:=rows hZ;have z:wr.frozen? ⟨gv,4,Y⟩=false:=(by simp[lJ,hZ]);have gF:J (wr.setCell ⟨gv,4,Y⟩ (O I d)=wr.setRow gv (shA ⟨a,b,c,d,e,f,g,h⟩ 4)):=Qj wr gv 4 _ _ _ _ hZ;clear hZ;go_wp2;go_roundw
        case rel=>exact⟨4,by omega,rfl,by rw[gF.o];exact Qi _ _ _ _ _ _ yR,by rw[gF.o];exact uo.trans (Ts _ _ _) (λ_ h=>aM h)⟩
        case measure=>simp[intOf]
       ·have hZ:=yR.o;obtain⟨-, -,q,q'⟩:=rows hZ;have z:wr.frozen? ⟨gv,3,Y⟩=false:=(by simp[lJ,hZ]);have gF:J (wr.setCell ⟨gv,3,Y⟩ (O I c)=wr.setRow gv (shA ⟨a,b,c,d,e,f,g,h⟩ 5)):=Qj wr gv 3 _ _ _ _ hZ;clear hZ;go_wp2;go_roundw
        case rel=>exact⟨5,by omega,rfl,by rw[gF.o];exact Qi _ _ _ _ _ _ yR,by rw[gF.o];exact uo.trans (Ts _ _ _) (λ_ h=>aM h)⟩
        case measure=>simp[intOf]
       ·have hZ:=yR.o;obtain⟨-,q,q'⟩:=rows hZ;have z:wr.frozen? ⟨gv,2,Y⟩=false:=(by simp[lJ,hZ]);have gF:J (wr.setCell ⟨gv,2,Y⟩ (O I b)=wr.setRow gv (shA ⟨a,b,c,d,e,f,g,h⟩ 6)):=Qj wr gv 2 _ _ _ _ hZ;clear hZ;go_wp2;go_roundw
        case rel=>exact⟨6,by omega,rfl,by rw[gF.o];exact Qi _ _ _ _ _ _ yR,by rw[gF.o];exact uo.trans (Ts _ _ _) (λ_ h=>aM h)⟩
        case measure=>simp[intOf]
       ·have hZ:=yR.o;obtain⟨q,q'⟩:=rows hZ;have z:wr.frozen? ⟨gv,1,Y⟩=false:=(by simp[lJ,hZ]);have gF:J (wr.setCell ⟨gv,1,Y⟩ (O I a)=wr.setRow gv (shA ⟨a,b,c,d,e,f,g,h⟩ 7)):=Qj wr gv 1 _ _ _ _ hZ;clear hZ;go_wp2;go_roundw
        case rel=>exact⟨7,by omega,rfl,by rw[gF.o];exact Qi _ _ _ _ _ _ yR,by rw[gF.o];exact uo.trans (Ts _ _ _) (λ_ h=>aM h)⟩
        case measure=>simp[intOf]
      ·obtain rfl:m=7:=(by omega);have hZ:=yR.o;obtain⟨-, -, -, -,q4⟩:=rows hZ;have z4:wr.frozen? ⟨gv,4,Y⟩=false:=(by simp[lJ,hZ]);obtain⟨ud1,ud2⟩:=ud;obtain⟨_,ut1,ut2⟩:=cI.o;obtain⟨uM1,uM2⟩:=HMJ.2;have w1:I.wrap (d+t)=d+t:=w63 _ (by omega) (by omega);have w2:I.wrap (t+A)=t+A:=w63 _ (by omega) (by omega);have w3:I.wrap (t+A+aU)=t+A+aU:=w63 _ (by omega) (by omega);obtain⟨wF,hwF⟩:∃wF,wF=wr.setRow gv #[O I a,O I a,O I b,O I c,O I ((d+t) % 4294967296),O I e,O I f,O I g]:=⟨_,rfl⟩
       have r9:J (wr.setCell ⟨gv,4,Y⟩ (O I ((d+t) % 4294967296))=wF):=(by rw[hwF];exact Qj wr gv 4 _ _ _ _ hZ);have zU:wF.heap[gv]? =Z (T #[O I a,O I a,O I b,O I c,O I ((d+t) % 4294967296),O I e,O I f,O I g] 3):=(by rw[hwF];exact Qi _ _ _ _ _ _ hZ);have HTF:J (M (λx=>x=gv) W5 wF):=(by rw[hwF];exact(iX.trans uo (λ_ h=>aM h)).trans (Ts _ _ _) (λ_ h=>aM h));have hz:z8 (rs ws S (i+1))= #[O I ((t+A+aU) % 4294967296),O I a,O I b,O I c,O I ((d+t) % 4294967296),O I e,O I f,O I g]:=(by rw[jW.o];rfl);have p6:J (wF.setCell ⟨gv,0,Y⟩ (O I ((t+A+aU) % 4294967296))=wF.setRow gv (z8 (rs ws S (i+1)))):=(by rw[hz];exact Qj wF gv 0 _ _ _ _ zU);obtain⟨q0, -⟩:=rows zU;have z0:wF.frozen? ⟨gv,0,Y⟩=false:=(by simp[lJ,zU]);have qv:J (_=_):=zU;clear hwF hz hZ zU;go_upto_region 23 with fail;rw[r9.o];go_wp2;go_roundw
       case rel=>exact⟨i+1,by omega,by go_num,by rw[p6.o];exact Qi _ _ _ _ _ _ qv,by rw[p6.o];exact HTF.trans (Ts _ _ _) (λ_ h=>aM h)⟩
       case measure=>simp[intOf];omega
    ·obtain rfl:i=64:=(by omega);have gC:J (wr.heap[gh]? =Z (T (adA S (rs ws S 64) 0) 3)):=(iX.block gh (Jb qF) xN.1).trans qF.o;have HUT:J ((rs ws S 64).U):=S8.U.rs iW ws 64;have eI:J (adA S (rs ws S 64) 8=z8 (addS S (rs ws S 64))):=rfl;clear HWU;go_upto_region 24 with fail;go_wp2;go_loopw [16] (λv16 wy=>∃m:Nat,m<=8/\v16=O I (m:Int)/\J (wy.heap[gh]? =Z (T (adA S (rs ws S 64) m) 3))/\J (M (λx=>x=gh) wr wy)) (λv16 _=>8-(intOf v16).toNat)
     case atStart=>exact⟨0,by omega,rfl,gC,Te _ _⟩
     case round=>
      clear gC;obtain⟨m,hm,rfl,yR,uo⟩:=hrel;rename_i wq _
      by_cases H7:m<8
      ·have kE:=(uo.block gv (Jb mD) (λe=>xN.1 e.symm)).trans mD.o;have hZ:=yR.o;obtain⟨g1,g2⟩:=Jn2 S (rs ws S 64) m H7;have tH:(m:Int)<8:=(by omega);obtain⟨ux,ux'⟩:U32 (S.list.getD m 0)/\U32 ((rs ws S 64).list.getD m 0):=⟨iW.get m H7,HUT.get m H7⟩
       have q:wr.cell? ⟨gh,m,Y⟩=Z (O I (S.list.getD m 0)):=(Ja hZ).trans g1;have q':wr.cell? ⟨gv,m,Y⟩=Z (O I ((rs ws S 64).list.getD m 0)):=(Ja kE).trans (JnZ _ m H7);have z:wr.frozen? ⟨gh,m,Y⟩=false:=(by simp[lJ,hZ]);have gF:J (wr.setCell ⟨gh,m,Y⟩ (O I ((S.list.getD m 0+(rs ws S 64).list.getD m 0) % 4294967296))=wr.setRow gh (adA S (rs ws S 64) (m+1))):=(by rw[<-g2];exact Qj wr gh m _ _ _ _ hZ);clear hZ kE g1 g2;generalize S.list.getD m 0=x at *;generalize (rs ws S 64).list.getD m 0=x' at *;obtain⟨ux1,ux2⟩:=ux;obtain⟨uy1,uy2⟩:=ux';have w1:I.wrap (x+x')=x+x':=w63 _ (by omega) (by omega);have w2:0<=x+x':=(by omega);go_upto_region 27 with fail;refine Xm (S:=λV=>V.cell? ⟨gh,m,Y⟩=Z (O I x)/\V.cell? ⟨gv,m,Y⟩=Z (O I x')) 20 (by simp) (by kernel_rfl) (by kernel_rfl) ⟨q,q'⟩ ?_;intro hHeld l o hl ho;simp only[lO,lP]at hl;simp only[lQ,lR]at ho;subst hl;subst ho;simp only[Qp,Qv,Nat.reduceAdd];refine tkL 0 ?_;simp only[lC,Qa,Qb,Qc];refine tkL 1 ?_;simp only[lC,Qa,Qb,Qc];refine tkL 2 ?_;simp only[lC,Qa,Qb,Qc];refine tkL 3 ?_;simp only[lC,Qa,Qb,Qc];refine tkL 4 ?_;simp only[lC,Qa,Qb,Qc];refine tkL 5 ?_;simp only[lC,Qa,Qb,Qc];refine tkL 6 ?_;simp only[lC,Qa,Qb,Qc];refine tkL 7 ?_;simp only[lC,Qa,Qb,Qc];refine tkL 8 ?_;simp only[lC,Qa,Qb,Qc];refine tkL 9 ?_;simp only[lC,Qa,Qb,Qc];refine tkL 10 ?_;simp only[lC,Qa,Qb,Qc];refine tkL 11 ?_;simp only[lC,Qa,Qb,Qc];refine tkL 12 ?_;simp only[lC,Qa,Qb,Qc];refine wpAnyH_done (by kernel_rfl) ?_ _;show wpList _ _ _ [_] _ _;go_wp2;go_roundw
       case rel=>exact⟨m+1,by omega,by go_num,by first|(rw[gF.o];exact Qi _ _ _ _ _ _ yR)|(have h5:=gF.o;rw[<-lM w2]at h5;rw[h5];exact Qi _ _ _ _ _ _ yR),by first|(rw[gF.o];exact(uo.trans (Ts _ _ _) (λ_ h=>aM h)).trans (Td D _ 1) noE)|(have h5:=gF.o;rw[<-lM w2]at h5;rw[h5];exact(uo.trans (Ts _ _ _) (λ_ h=>aM h)).trans (Td D _ 1) noE)⟩
       case measure=>simp[intOf];omega
      ·obtain rfl:m=8:=(by omega);go_wp2;go_roundw
       case rel=>
        refine⟨aU+64,j+1,by have:=HM.o;show aU+64=64*(j+1);omega,hM64,by go_num,?_,?_⟩
        ·have:=yR.o;rw[eI.o,<-HFS.o]at this;exact this
        ·refine((HT.trans kD noE).trans iX (λx hx=>aN (by have:=HGV.o;subst hx;omega))).trans uo (λx hx=>aM hx)
       case measure=>simp[intOf];omega
  ·have tH:¬(aU:Int)<(PT.size:Int):=(by omega);have HJ:J (j=PL.length/64):=by
    have h1:=HM.o;have h2:=iU.o;show j=PL.length/64;omega
   have iW:J ((JV j H0 PL).U):=S8.U.of (JcE j H0 PL Jiq);have HDG2:J (DG=outL (JV j H0 PL) 8):=(by show DG=_;rw[jR.o,HJ.o]);have HTF:J (M D w wr):=ge.trans HT (λx hx=>aN (by have:=HB.o;subst hx;omega));clear jR HJ;generalize JV j H0 PL=S at *;have yw:J (∀(n:Nat)(V:aA),aB N 171 #[O aD (n:Int),O I 4] V λe w'=>e=aC (L ⟨(Hf n 4 4).toArray⟩)/\M D V w'):=λn V=>XU n 4 V (by omega);go_wp2;go_loopw [17,18] (λvo vi wy=>∃m:Nat,m<=8/\vi=O I (m:Int)/\vo=L ⟨(outL S m).toArray⟩/\J (M D wr wy)) (λ_ vi _=>8-(intOf vi).toNat)
   case atStart=>exact⟨0,by omega,rfl,rfl,Te _ _⟩
   case round=>
    obtain⟨m,hm,rfl,rfl,cI⟩:=hrel;rename_i wq _
    by_cases H7:m<8
    ·have iO:(m:Int)<8:=(by omega);have hZ:=(cI.block gh (Jb HR) (λh=>h)).trans HR.o;have q:=(Ja hZ).trans (JnZ S m H7);obtain⟨u1,u2⟩:=iW.get m H7;have hos:=Jk0 S m H7;obtain⟨n,hn⟩:∃n:Nat,S.list.getD m 0=(n:Int):=⟨(S.list.getD m 0).toNat,by omega⟩
     rw[hn]at q u1 u2 hos;rw[lf]at hos;have zh:IntKind.u64.wrap (n:Int)=(n:Int):=(by simp[lh,li,l8];omega);have jL:=JO (outL S m) (Hf n 4 4) (by
      rw[Jf];have:(outL S m).length<=1000:=JmS S m;omega)
     rw[<-hos]at jL;have HIN2:J (∀V,aB _ _ _ V _):=λV=>yw n V;clear hZ hn hos;generalize hX1:outL S (m+1)=X1 at *;generalize outL S m=X0 at *;have yx:J (_=X1):=hX1;clear hX1;generalize Hf n 4 4=B4 at *;go_wp2_with (go_at_call 171;refine(HIN2 _).mono ?_;rintro _ w1⟨rfl,H9⟩;have H5:J (M _ wr w1):=H9;clear H9);go_roundw
     case rel=>exact⟨m+1,by omega,by go_num,by rw[yx.o],cI.trans H5 noE⟩
     case measure=>simp[intOf];omega
    ·obtain rfl:m=8:=(by omega);go_wp2;go_ret;exact⟨by rw[HDG2.o];rfl,HTF.trans cI noE⟩

theorem dgC:DgC:=by
 intro n s V h1 n9 hs;have HA:J (∀V,aB N 163 #[L s] V λe w'=>∃aV,e=aC (L aV)/\(aV=⟨(digL s.data.toList).toArray⟩/\aV.size=32)/\M D V w'):=λV=>(JqO s V hs).mono (by
  rintro _ w'⟨rfl,h⟩;exact⟨_,rfl,⟨rfl,by rw[Ji,JaR]⟩,h⟩)
 have hn0:(0:Int)<=(n:Int):=by omega
 go_enter func103,ntmps103;go_wp2_with (go_at_call 163;refine(HA _).mono ?_;rintro _ w1⟨aV,rfl,⟨(HD:J _),hs32⟩,(H5:J _)⟩;have hnD:(n:Int)<=(aV.size:Int):=(by omega));go_ret;refine⟨?_,H5⟩;have e:aV.extract 0 n=H3 n s.data.toList:=Jca (by
  rw[HD.o,lG,lH];simp[H3,lE])
 rw[<-e];rfl
theorem Jm3(n:Int)(s:BA)(V:aA)(hs:s.size<1152921504606846976)(xw: -9223372036854775808<=n)(jx:n<9223372036854775808):
  aB N 113 #[O I n,L s] V λe w'=>M D V w'/\e=if 1<=n/\n<=32 then aC (aI #[L (H3 n.toNat s.data.toList),O I 0]) else aC (aI #[L ⟨#[]⟩,O I 1]):=by
 by_cases h1:n<1
 ·go_enter func113,ntmps113;go_wp2;go_ret2;refine⟨Te _ _,?_⟩;rfl
 ·by_cases h2:32<n
  ·go_enter func113,ntmps113;go_wp2;go_ret2;refine⟨Te _ _,?_⟩;rfl
  ·obtain⟨m,rfl⟩:∃m:Nat,n=(m:Int):=⟨n.toNat,by omega⟩
   have HD:J (∀V,aB N 103 #[O I (m:Int),L s] V λe w'=>∃aV,e=aC (L aV)/\aV=H3 m s.data.toList/\M D V w'):=λV=>(dgC m s V (by omega) (by omega) hs).mono (by rintro _ _⟨rfl,h⟩;exact⟨_,rfl,rfl,h⟩);have HP:J (1<=(m:Int)/\(m:Int)<=32):=⟨by omega,by omega⟩
   clear xw jx;go_enter func113,ntmps113;go_wp2_with (go_at_call 103;refine(HD _).mono ?_;rintro _ w1⟨aV,rfl,(HDD:J _),(H5:J _)⟩);go_ret2;refine⟨H5,?_⟩
   first
    | (rw[if_pos HP.o,HDD.o];rfl)
    | (rw[HDD.o];rfl)

def Duo(base:Nat)(w:aA)(n lb rb:Nat)(F G:Nat->Prop):Prop:=
 ∃wj ch vL lv b,LAt wj base 0 w lb F 0 ch/\RfAt wj base w rb G ch vL lv b/\ch.length<=n/\∀j,F j->¬G j
def Jdy(base:Nat)(w:aA)(n lb rb:Nat)(F G:Nat->Prop)(w':aA):Prop:=
 M (λj=>F j\/G j) w w'/\∃F' G',Duo base w' (n+1) lb rb F' G'/\(∀j,F' j->F j\/w.heap.size<=j)/\∀j,G' j->G j\/w.heap.size<=j
theorem Duo.tch(h:Duo base w n lb rb F G)(k:M S w w')(hs:∀j,S j->¬F j/\¬G j):Duo base w' n lb rb F G:=by
 obtain⟨wj,ch,vL,lv,b,h1,h2,h3,h4⟩:=h;exact⟨wj,ch,vL,lv,b,h1.keep k (λj hj=>(hs j hj).1),h2.tch k (λj hj=>(hs j hj).2),h3,h4⟩
theorem Duo.up(h:Duo base w n lb rb F G)(hm:n<=m):Duo base w m lb rb F G:=by
 obtain⟨wj,ch,vL,lv,b,h1,h2,h3,h4⟩:=h;exact⟨wj,ch,vL,lv,b,h1,h2,Qm h3 hm,h4⟩
theorem LAt.low{pn:Nat}{fl:Nat}(h:LAt wj base pn w lb F fl ch):∀j,F j->base<=j/\j<w.heap.size:=by
 obtain⟨_,lg,cb,r,bs,lv,C⟩:=h;exact C.low
theorem Duo.own(h:Duo base w n lb rb F G):∀j,F j\/G j->base<=j/\j<w.heap.size:=by
 obtain⟨wj,ch,vL,lv,b,h1,h2,h3,h4⟩:=h;intro j hj
 rcases hj with hj|hj
 ·exact h1.low j hj
 ·exact h2.own j hj
theorem Duo.to(h:Duo base w n lb rb F G)(k:M D w w'):Jdy base w n lb rb F G w':=
 ⟨k.mono (λ_ e=>e.elim),F,G,(h.tch k (λ_ e=>e.elim)).up (by omega),λ_ e=>aM e,λ_ e=>aM e⟩
def SubQ(base:Nat)(w:aA)(lb rb:Nat)(F G:Nat->Prop)(wj:Nat)(ch:Ch)(q:BA)(k:Int)(V:aA):Prop:=
 q.size<=1100000/\M F w V/\∃F' ch' vL lv b,(∀j,F' j->F j\/w.heap.size<=j)/\LAt wj base 0 V lb F' 0 ch'/\RfAt wj base V rb G ch vL lv b/\match Xw wj ch q.data.toList with
  | .ok c=>k=0/\ch'=c
  | .error er=>k=Xr er/\ch'=ch
theorem SubQ.next{q:BA}{k:Int}(h:SubQ base w lb rb F G wj ch q k V)(t:M D V V'):SubQ base w lb rb F G wj ch q k V':=by
 obtain⟨h0,h1,F',ch',vL,lv,b,h2,h3,h4,h5⟩:=h;exact⟨h0,h1.go t,F',ch',vL,lv,b,h2,h3.keep t (λ_ e=>e.elim),h4.tch t (λ_ e=>e.elim),h5⟩
theorem JfL(E:Nat->Addr){vL:aG}{lv:List Lv}{b:BA}(hF:Xt E base w)(hA:LAt wj base 0 w lb F 0 ch)(hR:RfAt wj base w rb G ch vL lv b)(hd:∀j,F j->¬G j)(hc:ch.length<=900000)(q:BA)(hq:q.size<=1100000)(V:aA)(hV:M D w V):
  aB Tryz.prog 19 #[X (Z ⟨lb,0,Y⟩),L q] V λe V'=>∃k:Int,e=aC (O I k)/\(∃S,(∀j,S j->j<w.heap.size)/\M S V V')/\SubQ base w lb rb F G wj ch q k V':=by
 refine(Jhr E wj base q (hA.keep hV (λ_ e=>e.elim)) (hF.tch hV (λ_ e=>e.elim)) hq (by omega)).mono λe V' k=>?_;obtain⟨t,F',bH,k⟩:=k;have hw:=hA.1.2;rw[Jjk wj hw ch (by omega)]at k;have hT:M F w V':=(hV.mono (λ_ e=>e.elim)).trans t (λ_ e=>aM e);have h1:∀j,F' j->F j\/w.heap.size<=j:=λj hj=>(bH j hj).imp id (λh=>Qm hV.size h);have h2:=(hR.tch hV (λ_ e=>e.elim)).tch t hd
 cases hs:Xw wj ch q.data.toList with
 | ok c=>
  rw[hs]at k;exact⟨0,k.1,⟨F,λj hj=>(hA.low j hj).2,t⟩,hq,hT,F',c,vL,lv,b,h1,k.2,h2,by rw[hs];exact⟨rfl,rfl⟩⟩
 | error er=>
  rw[hs]at k;exact⟨_,k.1,⟨F,λj hj=>(hA.low j hj).2,t⟩,hq,hT,F',ch,vL,lv,b,h1,k.2,h2,by rw[hs];exact⟨rfl,rfl⟩⟩
theorem JeH(hd:∀j,F j->¬G j)(hG:∀j,G j->j<w.heap.size)(hn:ch.length<=n)(hc:ch.length<=900000)(jG:base<=w.heap.size)(q:BA)(k:Int)(V:aA)(h:SubQ base w lb rb F G wj ch q k V):
  aB Tryz.prog 110 #[X (Z ⟨rb,0,Y⟩),L q] V λe V'=>e=aC (O I k)/\Jdy base w n lb rb F G V':=by
 obtain⟨hq,hT,F',ch',vL,lv,b,h1,hA,hR,hk⟩:=h;have hs:=hT.size;have hFG:∀j,F' j->¬G j:=λj hj hg=>by
  rcases h1 j hj with h|h
  ·exact hd j h hg
  ·have:=hG j hg;omega
 refine(Jm5 dgC hA.1.1 hA.1.2 hR (by omega) (by omega) q (by omega)).mono λe V' r=>?_;unfold RSub at r
 cases xK:Xw wj ch q.data.toList with
 | ok c=>
  rw[xK]at hk r;dsimp only at hk r;obtain⟨rfl,rfl⟩:=hk;obtain⟨r1,r2,G',vL',kq,b',r3,r4⟩:=r;have hl:=Jia xK;refine⟨r1,(hT.mono (λ_ e=>aM (aM e))).trans r2 (λ_ e=>aM (aN e)),F',G',⟨wj,ch',vL',kq,b',hA.keep r2 (λj hj hf=>hFG j hf hj),r3,by omega,λj hj hg=>?_⟩,h1,λj hj=>(r4 j hj).imp id (λh=>Qm hs h)⟩
  rcases r4 j hg with h|h
  ·exact hFG j hj h
  ·have:=(hA.low j hj).2;omega
 | error er=>
  rw[xK]at hk r;dsimp only at hk r;obtain⟨rfl,rfl⟩:=hk;exact⟨r.1,(hT.mono (λ_ e=>aM (aM e))).trans r.2 (λ_ e=>e.elim),F',G,⟨wj,ch',vL,lv,b,hA.keep r.2 (λ_ e=>e.elim),hR.tch r.2 (λ_ e=>e.elim),by omega,hFG⟩,h1,λ_ e=>aM e⟩
structure OpOk(base:Nat)(w:aA)(x:OpL)(os:List (Nat×Nat))(ts:List TxL)(sl:List (Sl×Sl)):Prop where
 ra: -9223372036854775808<=x.a/\x.a<9223372036854775808
 rw': -9223372036854775808<=x.which/\x.which<9223372036854775808
 s:x.s.size<=1100000
 rb: -9223372036854775808<=x.b/\x.b<9223372036854775808
 rc: -9223372036854775808<=x.cn/\x.cn<9223372036854775808
 cx:x.cx.size<=9223372036854775807
 t:x.t.size<=1100000
 u:x.u.size<=1100000
 outs:YD base w (R x.os.1 x.os.2.1 x.os.2.2) os
 oOk:∀o∈os,Jy o
 oLen:os.length<1000000
 txs:TxsR base w (R x.ts.1 x.ts.2.1 x.ts.2.2) sl
 tIs:TxIs base w ts sl
 tR:∀t∈ts,InR t
 tLen:ts.length<1000000
 tFew:∀t∈ts,t.1.length<1000000/\t.2.length<1000000/\∀c∈t.1,c.1.size<=9223372036854775807
theorem OpOk.tch(h:OpOk base w x os ts sl)(k:M S w w')(hs:∀j,S j->base<=j):OpOk base w' x os ts sl:=
 { h with outs:=h.outs.tch k hs,txs:=h.txs.tch k hs,tIs:=⟨h.tIs.1,λi h1 h2=>⟨(h.tIs.2 i h1 h2).1.tch k hs,(h.tIs.2 i h1 h2).2.tch k hs⟩⟩ }
theorem Jkv(E:Nat->Addr)(hF:Xt E base w)(h:Duo base w n lb rb F G)(hn:n<=900000)(jG:base<=w.heap.size)(wb:Nat)(x:OpL)(hx:OpOk base w x os ts sl):
  aB Tryz.prog 117 #[X (Z ⟨wb,0,Y⟩),X (Z ⟨lb,0,Y⟩),X (Z ⟨rb,0,Y⟩),opV x] w λe w'=>e=aC (aL true)/\Jdy base w n lb rb F G w':=by
 have hD:=h;obtain⟨wj,ch,vL,lv,b,h1,h2,h3,h4⟩:=h;have Hp:=Jjb wj h1.1.2 ch ts (λt ht=>(hx.tR t ht).2);have hc:ch.length<=900000:=by omega
 refine Joq w wb lb rb x jG ts.length _ _ _ (by have:=hx.tLen;omega) (Jqn hx.txs hx.tIs (λt ht=>by have:=hx.tFew t ht;omega)) hx.ra.1 hx.ra.2 (XQ wj ch ts).1 (by omega) (XQ wj ch ts).2 (SubQ base w lb rb F G wj ch) _ (λV B' nb gt vi vo ga gb hb hV hA=>?_) (λV hV=>?_) (λq hq V hV=>JfL E hF h1 h2 h4 hc q (by omega) V hV) (λq k V V' hq ht=>hq.next ht) (λq k V hq=>?_) (λV hV=>hD.to hV)
 ·exact(JkN E wj base _ ts (h1.keep hV (λ_ e=>e.elim)) (hF.tch hV (λ_ e=>e.elim)) (JmE hA) (by omega) hx.tLen (λt ht=>⟨(hx.tFew t ht).1,(hx.tFew t ht).2.1⟩) hx.tR).mono λe V' k=>⟨k.2,k.1⟩
 ·exact Jp8 dgC h1.1.1 h1.1.2 (h2.tch hV (λ_ e=>e.elim)) (by omega) base _ ts sl (hx.txs.tch hV (λ_ e=>e.elim)) ((hx.tch hV (λ_ e=>e.elim)).tIs) (by have:=hx.tLen;omega) (λt ht=>by have:=hx.tFew t ht;exact⟨by omega,by omega,this.2.2⟩) (λt ht=>(hx.tR t ht).2)
 ·exact JeH h4 (λj hj=>(h2.own j hj).2) h3 hc jG q k V hq

def BoxC(V:aA)(xb:Nat)(x:OpL):Prop:=V.cell? ⟨xb,0,Y⟩=Z (O I x.kind)/\V.cell? ⟨xb,1,Y⟩=Z (O I x.a)/\V.cell? ⟨xb,2,Y⟩=Z (O I x.b)/\V.cell? ⟨xb,3,Y⟩=Z (O I x.which)/\V.cell? ⟨xb,4,Y⟩=Z (L x.s)/\V.cell? ⟨xb,5,Y⟩=Z (L x.t)/\V.cell? ⟨xb,6,Y⟩=Z (L x.u)/\V.cell? ⟨xb,7,Y⟩=Z (L x.cx)/\V.cell? ⟨xb,8,Y⟩=Z (O I x.cn)/\V.cell? ⟨xb,9,Y⟩=Z (R x.os.1 x.os.2.1 x.os.2.2)/\V.cell? ⟨xb,10,Y⟩=Z (R x.ts.1 x.ts.2.1 x.ts.2.2)
theorem Jn9{xb:Nat}(h:V.heap[xb]? =Z (T (opC x) 75)):BoxC V xb x:=
 ⟨Ja h,Ja h,Ja h,Ja h,Ja h,Ja h,Ja h,Ja h,Ja h,Ja h,Ja h⟩
theorem Jba(w:aA)(x:OpL):∃w0,w0=w.alloc (T (opC x) 75)/\M D w w0/\∀V S,M S w0 V->(∀j,S j->j<w.heap.size\/w0.heap.size<=j)->BoxC V w.heap.size x:=by
 have h:=Qf w (T (opC x) 75);refine⟨_,rfl,Ta _ _ _,λV S hV hS=>Jn9 ((hV.block _ (Jb h) (λe=>?_)).trans h)⟩;have:=hS _ e;rw[World.size_alloc]at this;omega
theorem JiA(E:Nat->Addr)(hF:Xt E base w)(h:Duo base w n lb rb F G)(hn:n<=900000)(jG:base<=w.heap.size)(wb:Nat)(x:OpL)(hx:OpOk base w x os ts sl):
  aB N 70 #[X (Z ⟨wb,0,Y⟩),X (Z ⟨lb,0,Y⟩),X (Z ⟨rb,0,Y⟩),opV x] w λe w'=>e=aC (aL true)/\Jdy base w n lb rb F G w':=by
 obtain⟨w0,(xF:J _),t0,(kN:J _)⟩:=Jba w x;have HDT:J (∀V,M D w V->_):=λV hV=>h.to hV;have HSE:J (aB N 117 #[X (Z ⟨wb,0,Y⟩),X (Z ⟨lb,0,Y⟩),X (Z ⟨rb,0,Y⟩),opV x] w0 λe w'=>e=aC (aL true)/\Jdy base w n lb rb F G w'):=(Jkv E (hF.tch t0 (λ_ e=>e.elim)) (h.tch t0 (λ_ e=>e.elim)) hn (Qm jG t0.size) wb x (hx.tch t0 (λ_ e=>e.elim))).mono λe w' k=>⟨k.1,by
  obtain⟨k1,F',G',k2,k3,k4⟩:=k.2;exact⟨(t0.mono (λ_ e=>e.elim)).trans k1 (λ_ e=>aM e),F',G',k2,λj hj=>(k3 j hj).imp id (λe=>Qm t0.size e),λj hj=>(k4 j hj).imp id (λe=>Qm t0.size e)⟩⟩
 obtain⟨wj,ch,vL,lv,b,h1,h2,h3,h4⟩:=h;have hc:ch.length<=900000:=by omega
 have gF:J (∀V,M D w V->_):=λV hV=>JfL E hF h1 h2 h4 hc x.s hx.s V hV;have jm:J (∀k V,SubQ base w lb rb F G wj ch x.s k V->_):=λk V hq=>JeH (n:=n) h4 (λj hj=>(h2.own j hj).2) h3 hc jG x.s k V hq;have H5:J (∀V,M D w V->_):=λV hV=>Jot wj base (h1.keep hV (λ_ e=>e.elim));have H6:J (∀V,M D w V->_):=λV hV=>JhM (h2.tch hV (λ_ e=>e.elim)) (by omega);have HH1:J (∀V,M D w V->_):=λV hV=>JiM E wj base x.a (h1.keep hV (λ_ e=>e.elim)) (hF.tch hV (λ_ e=>e.elim));have HH2:J (∀V,M D w V->_):=λV hV=>JhI h1.1.2 (h2.tch hV (λ_ e=>e.elim)) (by omega) x.a hx.ra.1 hx.ra.2;have kJ:J _:=t0;generalize ZF ch x.a=HD at *;generalize (if 0<=x.a/\x.a<(ch.length:Int) then (0:Int) else 7)=HC at *;generalize (ch.length:Int)-1=TP at *;clear hF jG hx t0 h1 h2 h3 h4 hc;obtain⟨kind,a,b',which,s,t,u,cx,cn,⟨oa,on,oc⟩,⟨ta,tn,tc⟩⟩:=x;simp only[BoxC]at *;go_enter func70,ntmps70;go_upto_region 1 with fail;rw[<-xF.o];obtain⟨c0,c1,c2,c3,c4,c5,c6,c7,c8,c9,c10⟩:=kN w0 _ (Te D _) (λ_ e=>e.elim)
 by_cases k34:kind=3\/kind=4
 ·rcases k34 with rfl|rfl
  all_goals go_wp2_with fail;refine HSE.mono ?_;rintro _ w1⟨rfl,(du:J _)⟩;go_wp2;go_ret;exact⟨rfl,du⟩
 ·have k3:¬kind=3:=λe=>k34 (aM e);have k4:¬kind=4:=λe=>k34 (aN e)
  by_cases k5:kind=5
  ·subst k5;go_wp2_with fail;refine(gF w0 kJ).mono ?_;rintro _ w1⟨k,rfl,⟨S,hS,ht⟩,(HQ:J _)⟩;clear c0 c1 c2 c3 c4 c5 c6 c7 c8 c9 c10;obtain⟨_,_,_,_,c4,_⟩:=kN w1 _ ht (λj hj=>aM (hS j hj));go_wp2_with fail;refine(jm k w1 HQ).mono ?_;rintro _ w2⟨rfl,(du:J _)⟩;clear c4;go_wp2_with fail;refine(Jb2 _ _).mono ?_;rintro _ _⟨rfl,rfl⟩;go_wp2;go_ret;exact⟨rfl,du⟩
  ·by_cases k6:kind=6
   ·subst k6;go_wp2_with fail;refine(H5 w0 kJ).mono ?_;rintro _ w1⟨rfl,H9⟩;have Hb:J _:=kJ.go H9;go_wp2_with fail;refine(H6 w1 Hb).mono ?_;rintro _ w2⟨rfl,Ha⟩;have Hm:J _:=Hb.go Ha;go_wp2;go_ret;exact⟨rfl,HDT _ Hm⟩
   ·go_wp2_with fail;refine(HH1 w0 kJ).mono ?_;rintro _ w1⟨rfl,(Hb:J _)⟩;clear c0 c1 c2 c3 c4 c5 c6 c7 c8 c9 c10;obtain⟨_,c1,_⟩:=kN w1 _ Hb (λ_ e=>e.elim);go_wp2_with fail;refine(HH2 w1 (kJ.go Hb)).mono ?_;rintro _ w2⟨rfl,Ha⟩;have Hm:J _:=(kJ.go Hb).go Ha;go_wp2_with fail;refine(Jb2 _ _).mono ?_;rintro _ _⟨rfl,rfl⟩;go_wp2;go_ret;exact⟨rfl,HDT _ Hm⟩

structure WAt(base:Nat)(w:aA)(wb:Nat)(gP gQ vl vm:aG)(aS aW:List aG):Prop where
 row:w.heap[wb]? =Z (T #[gP,gQ,vl,vm] 71)
 ls:VOwn 32 base w gP aS
 rs:VOwn 129 base w gQ aW
def WOwn(wb:Nat)(gP gQ:aG)(j:Nat):Prop:=j=wb\/gP.ownBlock=Z j\/gQ.ownBlock=Z j
theorem WAt.tch(h:WAt base w wb gP gQ vl vm aS aW)(k:M S w w')(hs:∀j,S j->¬WOwn wb gP gQ j):WAt base w' wb gP gQ vl vm aS aW:=
 ⟨(k.block _ (Jb h.row) (λe=>hs _ e (aM rfl))).trans h.row,h.ls.tch k (λ_ hj e=>hs _ e (aN (aM hj))),h.rs.tch k (λ_ hj e=>hs _ e (aN (aN hj)))⟩
theorem WAt.app1{L':List aG}(h:WAt base w wb gP gQ vl vm aS aW)(hv:VOwn 32 base w3 v' L')(hg:w.grownBy w3 gP.ownBlock):
  w3.cell? ⟨wb,0,Y⟩=Z gP/\(∀j,w3.frozen? ⟨wb,j,Y⟩=false)/\WAt base (w3.setCell ⟨wb,0,Y⟩ v') wb v' gQ vl vm L' aW/\M (WOwn wb gP gQ) w (w3.setCell ⟨wb,0,Y⟩ v'):=by
 have t3:M (λj=>gP.ownBlock=Z j) w w3:=(Tg hg).mono (λj hj=>aM hj.symm);have r3:=(t3.block wb (Jb h.row) (h.ls.apart h.row (by decide))).trans h.row;have e4:=Qj w3 wb 0 _ _ _ v' r3;have t4:=Ts w3 wb #[v',gQ,vl,vm];have k8:VOwn 129 base w3 gQ aW:=h.rs.tch t3 (λj hj e=>by
  obtain⟨_,_,cs,m,hr⟩:=h.rs.own j hj;exact h.ls.apart hr (by decide) e)
 refine⟨Ja r3,λj=>Qg _ _ _ _ _ r3,?_,?_⟩
 ·rw[e4];exact⟨Qi _ _ _ _ _ _ r3,hv.tch t4 (λj hj e=>by rw[e]at hj;exact hv.apart r3 (by decide) hj),k8.tch t4 (λj hj e=>by rw[e]at hj;exact k8.apart r3 (by decide) hj)⟩
 ·rw[e4];exact(t3.mono (λj hj=>aM (aN (aM hj)))).trans t4 (λj hj=>aM (aM hj))
theorem WAt.app2{R':List aG}(h:WAt base w wb gP gQ vl vm aS aW)(hv:VOwn 129 base w3 v' R')(hg:w.grownBy w3 gQ.ownBlock):
  w3.cell? ⟨wb,1,Y⟩=Z gQ/\(∀j,w3.frozen? ⟨wb,j,Y⟩=false)/\WAt base (w3.setCell ⟨wb,1,Y⟩ v') wb gP v' vl vm aS R'/\M (WOwn wb gP gQ) w (w3.setCell ⟨wb,1,Y⟩ v'):=by
 have t3:M (λj=>gQ.ownBlock=Z j) w w3:=(Tg hg).mono (λj hj=>aM hj.symm);have r3:=(t3.block wb (Jb h.row) (h.rs.apart h.row (by decide))).trans h.row;have e4:=Qj w3 wb 1 _ _ _ v' r3;have t4:=Ts w3 wb #[gP,v',vl,vm];have k8:VOwn 32 base w3 gP aS:=h.ls.tch t3 (λj hj e=>by
  obtain⟨_,_,cs,m,hr⟩:=h.ls.own j hj;exact h.rs.apart hr (by decide) e)
 refine⟨Ja r3,λj=>Qg _ _ _ _ _ r3,?_,?_⟩
 ·rw[e4];exact⟨Qi _ _ _ _ _ _ r3,k8.tch t4 (λj hj e=>by rw[e]at hj;exact k8.apart r3 (by decide) hj),hv.tch t4 (λj hj e=>by rw[e]at hj;exact hv.apart r3 (by decide) hj)⟩
 ·rw[e4];exact(t3.mono (λj hj=>aM (aN (aN hj)))).trans t4 (λj hj=>aM (aM hj))
theorem JiL(wb:Nat)(w:aA):aB N 65 #[X (Z ⟨wb,0,Y⟩),X Y,X Y] w λe w'=>e=aC (aL true)/\w'=w:=by
 go_enter func65,ntmps65;go_wp2;go_ret;exact⟨rfl,rfl⟩
theorem Joo(h:WAt base w wb gP gQ vl vm aS aW)(a b:Addr)(hL:aS.length<=1000000000)(hR:aW.length<=1000000000)(He:base<=w.heap.size):
  aB N 65 #[X (Z ⟨wb,0,Y⟩),X (Z a),X (Z b)] w λe w'=>e=aC (aL true)/\∃vls' vrs',WAt base w' wb vls' vrs' vl vm (aS++[X (Z a)]) (aW++[X (Z b)])/\M (WOwn wb gP gQ) w w'/\∀j,WOwn wb vls' vrs' j->WOwn wb gP gQ j\/w.heap.size<=j:=by
 obtain⟨ia,ic,rfl⟩:=h.ls.shape;obtain⟨ja,jc,rfl⟩:=h.rs.shape;generalize qK:aS.length=ln at *;generalize hrn:aW.length=rn at *;have gd:J (aS.length=ln/\aW.length=rn):=⟨qK,hrn⟩
 obtain⟨W1,(pA:J _)⟩:∃W1,W1=w.alloc (T #[X (Z a)] 32):=⟨_,rfl⟩
 have t1:M D w W1:=by rw[pA];exact Ta _ _ _
 have di:J _:=h.tch t1 (λ_ e=>e.elim);have yV:J (W1.cell? ⟨w.heap.size,0,Y⟩=Z (X (Z a))):=by show _=_;rw[pA];exact Ja (Qf _ _)
 have H5:J _:=t1;have HH1:J (W1.heap.size=w.heap.size+1):=by show _=_;rw[pA,World.size_alloc]
 obtain⟨q0, -⟩:=rows h.row;have HBW:J _:=He;clear h t1 He;go_enter func65,ntmps65;go_upto_region 5 with(at_builtin;rw[<-pA.o];refine Yv Jp4 rfl _ _ rfl rfl di.ls _ (X (Z a)) rfl yV rfl (by rw[gd.o.1];exact hL) (by have:=HBW.o;have:=HH1.o;omega) ?_;intro v3 w3 tV vS (HO3:J _);obtain⟨xa,xn,xc,rfl⟩:=tV.shape3;obtain⟨r0,r1,(jv:J _),(Hb:J _)⟩:=di.app1 tV vS;clear tV vS);generalize w3.setCell ⟨wb,0,Y⟩ (R xa xn xc)=w4 at *;obtain⟨W5,(sX:J _)⟩:∃W5,W5=w4.alloc (T #[X (Z b)] 129):=⟨_,rfl⟩
 have t5:M D w4 W5:=by rw[sX];exact Ta _ _ _
 have HW5:J _:=jv.tch t5 (λ_ e=>e.elim);have HC5:J (W5.cell? ⟨w4.heap.size,0,Y⟩=Z (X (Z b))):=by show _=_;rw[sX];exact Ja (Qf _ _)
 have kD:J _:=t5;obtain⟨-,q0⟩:=rows jv.o.row;clear t5;go_wp2_with (at_builtin;rw[<-sX.o];refine Yv Jp6 rfl _ _ rfl rfl HW5.rs _ (X (Z b)) rfl HC5 rfl (by rw[gd.o.2];exact hR) (by have:=HBW.o;have:=HH1.o;have:=Hb.o.size;have:=kD.o.size;omega) ?_;intro v6 w6 hv6 hg6 (HO6:J _);obtain⟨ya,yn,yc,rfl⟩:=hv6.shape3;obtain⟨r0,r1,(HW6:J _),(kz:J _)⟩:=HW5.app2 hv6 hg6;clear hv6 hg6);go_ret;have hs:w.heap.size<=W1.heap.size/\W1.heap.size<=W5.heap.size:=⟨H5.size,Qm Hb.size kD.size⟩
 have ho:∀j,WOwn wb (R xa xn xc) (R ja rn jc) j->WOwn wb (R ia ln ic) (R ja rn jc) j\/w.heap.size<=j:=λj hj=>by
  rcases hj with h|h|h
  ·exact aM (aM h)
  ·rcases HO3 with e|e
   ·rw[e]at h;exact aM (aN (aM h))
   ·rw[e]at h;cases h;exact aN hs.1
  ·exact aM (aN (aN h))
 refine⟨rfl,_,_,HW6,?_,λj hj=>?_⟩
 ·exact(((H5.mono noE).trans Hb (λ_ h=>aM h)).go kD).trans kz ho
 ·rcases hj with h|h|h
  ·exact aM (aM h)
  ·exact ho j (aN (aM h))
  ·rcases HO6 with e|e
   ·rw[e]at h;exact ho j (aN (aN h))
   ·rw[e]at h;cases h;exact aN (Qm hs.1 hs.2)

def ptrV(b:Nat):aG:=X (Z ⟨b,0,Y⟩)
structure WOk(base:Nat)(w:aA)(wb n:Nat)(gP gQ vl vm:aG)(ls rs:List Nat)(c:Nat->Nat):Prop where
 at':WAt base w wb gP gQ vl vm (ls.map ptrV) (rs.map ptrV)
 len:ls.length=rs.length
 few:ls.length<=n
 own:∀j,WOwn wb gP gQ j->c j=1/\base<=j/\j<w.heap.size
 duo:∀i lb rb,ls[i]? =Z lb->rs[i]? =Z rb->∃F G,Duo base w n lb rb F G/\(∀j,F j->c j=2*i+2)/\∀j,G j->c j=2*i+3
def WSt(base:Nat)(w:aA)(wb n:Nat)(vl vm:aG):Prop:=∃gP gQ ls rs c,WOk base w wb n gP gQ vl vm ls rs c
theorem WOk.tch{rs:List Nat}{c:Nat->Nat}(h:WOk base w wb n gP gQ vl vm ls rs c)(k:M S w w')(hs:∀j,S j->c j=0):WOk base w' wb n gP gQ vl vm ls rs c:=
 ⟨h.at'.tch k (λj e o=>by have:=(h.own j o).1;rw[hs j e]at this;cases this),h.len,h.few,λj hj=>⟨(h.own j hj).1,(h.own j hj).2.1,Qk (h.own j hj).2.2 k.size⟩,λi lb rb h1 h2=>by
  obtain⟨F,G,d1,d2,d3⟩:=h.duo i lb rb h1 h2;exact⟨F,G,d1.tch k (λj e=>⟨λf=>by have:=d2 j f;rw[hs j e]at this;omega,λf=>by have:=d3 j f;rw[hs j e]at this;omega⟩),d2,d3⟩⟩
theorem WSt.tch0(h:WSt base w wb n vl vm)(k:M D w w'):WSt base w' wb n vl vm:=by
 obtain⟨gP,gQ,ls,rs,c,h⟩:=h;exact⟨gP,gQ,ls,rs,c,h.tch k (λ_ e=>e.elim)⟩
theorem WOk.up{rs:List Nat}{c:Nat->Nat}(h:WOk base w wb n gP gQ vl vm ls rs c)(hm:n<=m):WOk base w wb m gP gQ vl vm ls rs c:=
 ⟨h.at',h.len,Qm h.few hm,h.own,λi lb rb h1 h2=>by
  obtain⟨F,G,d1,d2,d3⟩:=h.duo i lb rb h1 h2;exact⟨F,G,d1.up hm,d2,d3⟩⟩
theorem WSt.up(h:WSt base w wb n vl vm)(hm:n<=m):WSt base w wb m vl vm:=by
 obtain⟨gP,gQ,ls,rs,c,h⟩:=h;exact⟨gP,gQ,ls,rs,c,h.up hm⟩
open Classical in
theorem WOk.led{rs:List Nat}{c:Nat->Nat}(h:WOk base w wb n gP gQ vl vm ls rs c)(h1:ls[i]? =Z lb)(h2:rs[i]? =Z rb)(hd:Duo base w n lb rb F G)(hF:∀j,F j->c j=2*i+2)(hG:∀j,G j->c j=2*i+3)(t:Jdy base w n lb rb F G w'):WSt base w' wb (n+1) vl vm/\M (λj=>base<=j) w w':=by
 obtain⟨t1,F',G',t2,t3,t4⟩:=t;have H7:=hd.own;refine⟨⟨gP,gQ,ls,rs,λj=>if j<w.heap.size then c j else if F' j then 2*i+2 else if G' j then 2*i+3 else 0,h.at'.tch t1 (λj e o=>?_),h.len,by have:=h.few;omega,λj hj=>?_,λk lb' rb' k1 k2=>?_⟩,t1.mono (λj hj=>aM (H7 j hj).1)⟩
 ·have h3:=(h.own j o).1
  rcases e with e|e
  ·have:=hF j e;omega
  ·have:=hG j e;omega
 ·obtain⟨o1,o2,o3⟩:=h.own j hj;exact⟨by rw[if_pos o3];exact o1,o2,Qk o3 t1.size⟩
 ·by_cases hk:k=i
  ·subst hk;rw[h1]at k1;rw[h2]at k2
   cases k1
   cases k2
   refine⟨F',G',t2,λj hj=>?_,λj hj=>?_⟩
   ·by_cases hs:j<w.heap.size
    ·rw[if_pos hs]
     rcases t3 j hj with e|e
     ·exact hF j e
     ·omega
    ·rw[if_neg hs,if_pos hj]
   ·by_cases hs:j<w.heap.size
    ·rw[if_pos hs]
     rcases t4 j hj with e|e
     ·exact hG j e
     ·omega
    ·have:¬F' j:=λhf=>by
      obtain⟨_,_,_,_,_,_,_,_,q⟩:=t2;exact q j hf hj
     rw[if_neg hs,if_neg this,if_pos hj]
  ·obtain⟨F2,G2,d1,d2,d3⟩:=h.duo k lb' rb' k1 k2;refine⟨F2,G2,(d1.tch t1 (λj e=>⟨λf=>?_,λf=>?_⟩)).up (by omega),λj hj=>?_,λj hj=>?_⟩
   ·have:=d2 j f
    rcases e with e|e
    ·have:=hF j e;omega
    ·have:=hG j e;omega
   ·have:=d3 j f
    rcases e with e|e
    ·have:=hF j e;omega
    ·have:=hG j e;omega
   ·rw[if_pos (d1.own j (aM hj)).2];exact d2 j hj
   ·rw[if_pos (d1.own j (aN hj)).2];exact d3 j hj
open Classical in
theorem WOk.join{vls' vrs':aG}{rs:List Nat}{c:Nat->Nat}(h:WOk base w wb n gP gQ vl vm ls rs c)(k:M D w V)(hd:Duo base V 1 lb rb F G)(hF:∀j,F j\/G j->w.heap.size<=j)(hA:WAt base V' wb vls' vrs' vl vm (ls.map ptrV++[ptrV lb]) (rs.map ptrV++[ptrV rb]))(t:M (WOwn wb gP gQ) V V')(hO:∀j,WOwn wb vls' vrs' j->WOwn wb gP gQ j\/V.heap.size<=j)(jG:base<=w.heap.size)(hn:ls.length<n+1):WSt base V' wb (n+1) vl vm/\M (λj=>base<=j) w V':=by
 have hs:=k.size;have H7:=hd.own;have hV:=h.tch k (λ_ e=>e.elim);refine⟨⟨vls',vrs',ls++[lb],rs++[rb],λj=>if j<w.heap.size then c j else if F j then 2*ls.length+2 else if G j then 2*ls.length+3 else 1,?_,by rw[Qe,Qe,h.len];rfl,by rw[Qe];simp;omega,λj hj=>?_,λi lb' rb' k1 k2=>?_⟩,(k.mono (λ_ e=>e.elim)).trans t (λj hj=>aM (h.own j hj).2.1)⟩
 ·rw[List.map_append,List.map_append];exact hA
 ·have Hp:j<V'.heap.size:=by
   rcases hj with e|e|e
   ·rw[e];exact(Jb hA.row)
   ·exact(hA.ls.own j e).2.1
   ·exact(hA.rs.own j e).2.1
  rcases hO j hj with o|o
  ·obtain⟨o1,o2,o3⟩:=h.own j o;exact⟨by rw[if_pos o3];exact o1,o2,Hp⟩
  ·have h1:¬F j:=λe=>by have:=(H7 j (aM e)).2;omega
   have h2:¬G j:=λe=>by have:=(H7 j (aN e)).2;omega
   exact⟨by rw[if_neg (by omega),if_neg h1,if_neg h2],by omega,Hp⟩
 ·have apart:∀j,WOwn wb gP gQ j->j<w.heap.size:=λj hj=>(h.own j hj).2.2
  by_cases hi:i<ls.length
  ·rw[QF hi]at k1;rw[QF (by rw[<-h.len];exact hi)]at k2;obtain⟨F2,G2,d1,d2,d3⟩:=h.duo i lb' rb' k1 k2;refine⟨F2,G2,((d1.tch k (λ_ e=>e.elim)).tch t (λj o=>⟨λf=>?_,λf=>?_⟩)).up (by omega),λj hj=>?_,λj hj=>?_⟩
   ·have:=d2 j f;have:=(h.own j o).1;omega
   ·have:=d3 j f;have:=(h.own j o).1;omega
   ·rw[if_pos (d1.own j (aM hj)).2];exact d2 j hj
   ·rw[if_pos (d1.own j (aN hj)).2];exact d3 j hj
  ·rw[Qz (by omega)]at k1;rw[Qz (by rw[<-h.len];omega)]at k2;obtain rfl:i=ls.length:=by
    have:=(Qo.1 k1).1;simp at this;omega
   rw[Nat.sub_self]at k1;rw[<-h.len,Nat.sub_self]at k2;simp only[lY,Qh]at k1 k2;subst k1;subst k2;refine⟨F,G,(hd.tch t (λj o=>⟨λf=>?_,λf=>?_⟩)).up (by omega),λj hj=>?_,λj hj=>?_⟩
   ·have:=hF j (aM f);have:=apart j o;omega
   ·have:=hF j (aN f);have:=apart j o;omega
   ·rw[if_neg (by have:=hF j (aM hj);omega),if_pos hj]
   ·have:¬F j:=λhf=>by
     obtain⟨_,_,_,_,_,_,_,_,q⟩:=hd;exact q j hf hj
    rw[if_neg (by have:=hF j (aN hj);omega),if_neg this,if_pos hj]

def zB(n:Nat):Array aG:=(lN n (lI aE 0)).toArray
theorem JmM(n:Nat)(hn:n<=1000)(w:aA):(Instr.makeSlice 52 (O I (n:Int)) (O I (n:Int))).run N w=.ok (R (Z ⟨w.heap.size,0,Y⟩) n n) (w.alloc (T (zB n) 5)):=by
 obtain⟨i0,hi,xV,jH,qQ⟩:=info_parts Jb0;have:=run_make (P:=N) w 52 5 i0 _ underlying52 hi xV I I (n:Int) (n:Int) (by omega) (by omega) (by rw[qQ];omega) (by omega);rw[this,jH];have e:madeCells (lI aE 0).cells ((n:Int).toNat*1)=zB n:=by
  unfold madeCells zB;apply Array.ext
  ·simp
  ·intro i h1 h2;simp[Value.cells,Nat.mod_one]
 rw[e,lf]
theorem Jmc(n:Nat)(w:aA)(g:Nat)(hg:w.heap[g]? =Z (T (zB n) 5)):(convert 52 9 (R (Z ⟨g,0,Y⟩) n n)).run N w=.ok (L (Zh n)) w:=by
 have:=run_convert_bytes_back (P:=N) w 52 9 5 ⟨g,0,Y⟩ n (lN n 0) underlying52 underlying5 underlying9 (λj hj=>by
  rw[Addr.add_lit,Nat.zero_add,Ja hg];have xg:j<n:=by simpa using hj
  simp[zB,xg])
 rw[List.length_replicate]at this;exact this
def RNew(wj base:Nat)(outs:List (Nat×Nat))(st:Option Tr)(w:aA)(e:Ending)(w':aA):Prop:=
 M D w w'/\∃rb G vL lv b,e=aC (aI #[X (Z ⟨rb,0,Y⟩),O I 0])/\RfAt wj base w' rb G [(⟨(Ht (Yi wj outs st)).toArray⟩,st)] vL lv b/\∀j,G j->w.heap.size<=j
theorem Jm4(n:Int)(v:aG)(outs:List (Nat×Nat))(B:Nat)(w:aA)(h:YD B w v outs)(hl:outs.length<=1000000000)(kt:¬(1<=n/\n<=32/\1<=outs.length/\outs.length<=3)):
  aB N 63 #[O I n,v] w λe w'=>e=aC (aI #[X Y,O I 1])/\M D w w':=by
 obtain⟨a,c,rfl⟩:=h.shape;clear h
 by_cases c1:n<1
 ·clear kt;go_enter func63,ntmps63;go_wp2;go_ret2;exact⟨rfl,Te _ _⟩
 ·by_cases c2:32<n
  ·clear kt;go_enter func63,ntmps63;go_wp2;go_ret2;exact⟨rfl,Te _ _⟩
  ·by_cases c3:outs.length<1
   ·have c3i:(outs.length:Int)<1:=(by omega);clear kt c3;go_enter func63,ntmps63;go_wp2;go_ret2;exact⟨rfl,Te _ _⟩
   ·have c4i:3<(outs.length:Int):=(by omega);have c3i:¬(outs.length:Int)<1:=(by omega);clear kt c3;go_enter func63,ntmps63;go_wp2;go_ret2;exact⟨rfl,Te _ _⟩
theorem JqN(hD:DgC)(wj:Nat)(Hn:1<=wj)(hw:wj<=32)(v:aG)(outs:List (Nat×Nat))(ho:∀o∈outs,Jy o)(h1:1<=outs.length)(h3:outs.length<=3)(B:Nat)(w:aA)(hv:YD B w v outs)(base:Nat)(He:base<=w.heap.size)(st:Option Tr)(xh:JA (H3 wj (71::Jz outs)) 0 outs Y=.ok st):
  aB N 63 #[O I (wj:Int),v] w (RNew wj base outs st w):=by
 have vj:J (∀V,M D w V->_):=λV hV=>Jed B v outs h3 ho V (hv.tch hV noE);obtain⟨id,(yT:J _)⟩:∃id,H3 wj (71::Jz outs)=id:=⟨_,rfl⟩
 have zx:id.size=wj:=by rw[<-yT];exact Jk wj hw _
 have ae:J _:=JiE wj outs ho h3 id zx st (by rw[<-yT];exact xh);have vz:=JiO outs h3;have jR:J (∀V,aB N 103 #[O I (wj:Int),L ⟨(71::Jz outs).toArray⟩] V λe w'=>e=aC (L id)/\M D V w'):=λV=>by
  have:=hD wj ⟨(71::Jz outs).toArray⟩ V Hn hw (by rw[Ji,Qp];omega);rw[show (⟨(71::Jz outs).toArray⟩:BA).data.toList=71::Jz outs from rfl,yT]at this;exact this
 have a1:=JO [71] (Jz outs) (by simp;omega);have a1':∀W,(Op.stringOp .add (⟨#[71]⟩:BA) ⟨(Jz outs).toArray⟩).run N W=.ok (L ⟨(71::Jz outs).toArray⟩) W:=a1;have pZ:J _:=zx;have HO:J _:=ho;have HV:J _:=hv;obtain⟨va,vc,xm⟩:=hv.shape;subst xm;have c1:¬(wj:Int)<1:=by omega
 have c2:¬32<(wj:Int):=by omega
 have c3:¬(outs.length:Int)<1:=by omega
 have c4:¬3<(outs.length:Int):=by omega
 clear a1 zx ho hv xh;generalize (⟨(71::Jz outs).toArray⟩:BA)=XG at *;generalize cJ:(⟨(Jz outs).toArray⟩:BA)=X0 at *;have bo:J (_=X0):=cJ;clear cJ;go_enter func63,ntmps63;go_wp2_with (first|(go_at_call 104;refine(vj _ (Te _ _)).mono ?_;rintro _ w1⟨rfl,H9⟩;have H5:J (M D w w1):=H9;clear H9)|(go_at_call 103;refine(jR _).mono ?_;rintro _ wA⟨rfl,Ha⟩;have kI:J (M D w wA):=H5.trans Ha (λ_ h=>aM h);clear Ha));go_loopw [7,8] (λvn i wr=>∃k:Nat,k<=outs.length/\i=O I k/\J (ROwn w.heap.size wr vn (XK id outs k))/\J (M D w wr)) (λ_ i _=>outs.length-(intOf i).toNat)
 case atStart=>exact⟨0,by omega,rfl,ROwn.nil _ _,kI⟩
 case round=>
  obtain⟨k,hk,rfl,kY,HT⟩:=hrel;have HFL:J ((XK id outs k).length=k):=by show List.length _=k;simp[XK]
  by_cases H7:k<outs.length
  ·rcases HV with⟨e,e2⟩|⟨gi,oi,cc,e,_,kp,Ho⟩
   ·rw[e2]at H7;simp at H7
   simp only[Qy,true_and]at e;obtain⟨rfl,rfl⟩:=e;obtain⟨f0,f1⟩:=Ho k H7;have kj:(k:Int)<(outs.length:Int):=(by omega);obtain⟨⟨oa,oo⟩,hoe⟩:∃o,outs[k]=o:=⟨_,rfl⟩
   rw[hoe]at f0 f1;have HFS:J (XK id outs (k+1)=XK id outs k++[((id,(k:Int)),(oa,oo))]):=by show XK id outs (k+1)=_;rw[Jc1,Qn,Qd H7,hoe];rfl
   have q9:Jj wj (id,(k:Int)):=⟨pZ,by omega,by show (k:Int)<3;omega⟩
   have js:J (∀V,aB N 105 #[aH #[L id,O I (k:Int)]] V λe w'=>e=aC (L (keyS (id,(k:Int))))/\M D V w'):=λV=>Zb (id,(k:Int)) V q9.2.1 (by have:=q9.2.2;omega) (by rw[q9.1];omega);have kX:J (∀V,M (λj=>w.heap.size<=j) w V->V.cell? ⟨gi,oi+k*2,Y⟩=Z (O aD (oa:Int))/\V.cell? ⟨gi,oi+k*2+1,Y⟩=Z (O aE (oo:Int))):=λV hV=>⟨(hV.cell (p:=⟨gi,oi+k*2,Y⟩) kp (λh=>absurd h (Nat.not_le.2 kp))).trans f0,(hV.cell (p:=⟨gi,oi+k*2+1,Y⟩) kp (λh=>absurd h (Nat.not_le.2 kp))).trans f1⟩
   have mr:J (∀W:aA,RhAt (W.alloc (T #[L (keyS (id,(k:Int))),O aD (oa:Int),O aE (oo:Int)] 202)) (R (Z ⟨W.heap.size,0,Y⟩) 1 1) [((id,(k:Int)),(oa,oo))]):=λW=>Ji8 W ((id,(k:Int)),(oa,oo));obtain⟨na,nm,nc,tW⟩:∃na nm nc,u7=R na nm nc:=(by obtain⟨a,c,e⟩:=kY.shape;exact⟨_,_,_,e⟩);subst tW;obtain⟨q0,q1⟩:=kX wr (HT.mono noE);clear Ho f0 f1 q9 hoe;generalize keyS (id,(k:Int))=ks at *;go_upto_region 8 with fail;go_region_held3 (λV=>V.cell? ⟨gi,oi+k*2,Y⟩=Z (O aD (oa:Int))/\V.cell? ⟨gi,oi+k*2+1,Y⟩=Z (O aE (oo:Int))) (go_keep) ((first
     | (go_at_call 105;refine(js _).mono ?_;rintro _ w1⟨rfl,H9⟩;have H5:J (M D wr w1):=(Td D wr 1).trans H9 (λ_ h=>aM h);have y:=kX w1 ((HT.trans H5 (λ_ h=>aM h)).mono noE);obtain⟨y0,y1⟩:=y;clear H9)
     | (refine JeF rfl _ _ rfl rfl (kY.tch (H5.trans (Ta D w1 _) (λ_ h=>aM h)) (λ_ _ h=>h)) _ [((id,(k:Int)),(oa,oo))] rfl (mr w1) (by rw[HFL.o];simp;omega) (Qm HT.size (Qm H5.size (Ta D w1 _).size)) ?_;intro v3 w3 kv vS;have jI:J (ROwn _ w3 v3 _):=kv;have Hb:J (M D w w3):=(kY.tch (H5.trans (Ta D w1 _) (λ_ h=>aM h)) (λ_ _ h=>h)).grow vS (Ql _) (HT.trans (H5.trans (Ta D w1 _) (λ_ h=>aM h)) (λ_ h=>aM h));have y3:=kX w3 (Hb.mono noE);obtain⟨y4,y5⟩:=y3;clear kv vS)))
   all_goals
    go_wp2;go_roundw
    case rel=>exact⟨k+1,by omega,by go_num,by rw[HFS.o];exact jI,Hb⟩
    case measure=>simp[intOf];omega
  ·obtain rfl:k=outs.length:=(by omega);have jA:¬(outs.length:Int)<(outs.length:Int):=(by omega);have qZ:=JmM wj (by omega) wr;obtain⟨wZ,hwZ⟩:∃wZ,wZ=wr.alloc (T (zB wj) 5):=⟨_,rfl⟩
   rw[<-hwZ]at qZ;have ay:=Jmc wj wZ wr.heap.size (by rw[hwZ];exact Qf _ _);have iF:=yh hwZ;clear hwZ;obtain⟨na,nc,tW⟩:=kY.shape;rw[HFL.o]at tW;subst tW;have sw:J (∀V,M D wr V->aB N 106 #[O I (wj:Int),R na outs.length nc] V λe w'=>∃S,e=aC (L S)/\(H3 wj S.data.toList=Xh (H3 wj) st/\S.size<=1000)/\M D V w'):=λV hV=>(Ji0 hD wj Hn hw (XK id outs outs.length).length (XK id outs outs.length) V _ (Ql _) ae.ok ae.nodup (kY.at.tch0 hV) (by rw[HFL.o];omega)).mono (by
    rintro e w'⟨s,he,hr,ht⟩;refine⟨⟨s.toArray⟩,he,⟨?_,by rw[Ji];exact hr.rlen hw (λx hx=>(ae.ok x hx).1)⟩,ht⟩;rw[Jew,<-JcP ae.o hr])
   have ib:J (∀(S:BA)(V:aA),S.size<=1000->aB N 103 #[O I (wj:Int),L S] V λe w'=>∃aV,e=aC (L aV)/\aV=H3 wj S.data.toList/\M D V w'):=λS V hs=>(hD wj S V Hn hw (by omega)).mono (by rintro _ _⟨rfl,h⟩;exact⟨_,rfl,rfl,h⟩);have uN:IntKind.u8.wrap (wj:Int)=(wj:Int):=(by simp[lh,li,l8];omega);go_wp2_with (first
    | (go_at_call 106;refine(sw _ iF).mono ?_;rintro _ w5⟨S,rfl,s5,kR⟩;have zQ:J (_/\_):=s5;have kD:J (M D wr w5):=iF.trans kR (λ_ h=>aM h);clear kR s5)
    | (go_at_call 103;refine(ib S _ zQ.2).mono ?_;rintro _ w6⟨aV,rfl,hd6,jN⟩;have HD6:J (aV=_):=hd6;have kz:J (M D wr w6):=kD.trans jN (λ_ h=>aM h);clear jN hd6))
   obtain⟨wB,yp⟩:∃wB,wB=(w6.alloc (T #[L (Zh wj),L id,L aV,R na outs.length nc] 205)).alloc (T #[O I (wj:Int),R (Z ⟨w6.heap.size,0,Y⟩) 1 1,O I 0,L ⟨#[]⟩] 208):=⟨_,rfl⟩
   have gZ:J (M D wr wB):=(by rw[yp];exact(kz.trans (Ta D _ _) (λ_ h=>aM h)).trans (Ta D _ _) (λ_ h=>aM h));have rj:=hnn yp;have cK:J (wB.heap[w6.heap.size]? =Z (T #[L (Zh wj),L id,L aV,R na outs.length nc] 205)):=(by rw[yp];exact heap_alloc2_old _ _ _);rw[<-yp];clear yp qZ ay;have ie:J (wr.heap.size<=w6.heap.size):=kz.size;generalize w6.heap.size=lb at *;obtain⟨rb,bX⟩:∃rb,rb=lb+1:=⟨_,rfl⟩
   rw[<-bX]at rj;rw[<-bX];have HRBE:J (rb=lb+1):=bX;clear bX;have gy:=λW=>JiK wj W (by omega);have vB:=Jb1 wj (wB.alloc (T #[O aE (wj:Int)] 5)).drew wB.heap.size (by omega) (cell_of_row (wB.alloc _) _ _ _ _ _ (Qf _ _));have jL:=JO [lS wj] (Jz outs) (by simp;omega);have sA:∀W,(Op.stringOp .add (⟨#[lS wj]⟩:BA) X0).run N W=.ok (L ⟨([lS wj]++Jz outs).toArray⟩) W:=(by rw[<-bo.o];exact jL);have rp:J (∀V:aA,V.heap[rb]? =Z (T #[O I (wj:Int),R (Z ⟨lb,0,Y⟩) 1 1,O I 0,L ⟨#[]⟩] 208)->aB N 107 #[X (Z ⟨rb,0,Y⟩),L ⟨#[71]⟩,L ⟨([lS wj]++Jz outs).toArray⟩] V λe w'=>e=aC (aI #[])/\M (λj=>j=rb) V w'/\∃aW:BA,aW.size<=1000/\w'.heap[rb]? =Z (T #[O I (wj:Int),R (Z ⟨lb,0,Y⟩) 1 1,O I 0,L aW] 208)):=λV hV=>by
    refine(Jj1 hD [71] ([lS wj]++Jz outs) rfl (by simp;omega) V rb _ _ _ ⟨#[]⟩ (by decide) hV).mono ?_;rintro _ w'⟨rfl,h2,h3⟩;refine⟨rfl,h2,_,?_,h3⟩;have e1:(⟨(ke [71] ([lS wj]++Jz outs)).toArray⟩:BA).size=7+([lS wj]++Jz outs).length:=(by rw[Ji,Jej [71] _ rfl]);rw[ByteArray.size_append,e1];show 0+_<=1000;simp;omega
   clear jL;generalize (⟨([lS wj]++Jz outs).toArray⟩:BA)=XC at *;have HOB:J (∀V,M D wB V->aB N 104 #[R va outs.length vc] V λe w'=>e=aC (L X0)/\M D V w'):=λV hV=>vj V ((HT.trans gZ (λ_ h=>aM h)).trans hV (λ_ h=>aM h));have jB:J (∀V w8:aA,M D wB V->M (λj=>j=rb) V w8->(∃aW:BA,aW.size<=1000/\w8.heap[rb]? =Z (T #[O I (wj:Int),R (Z ⟨lb,0,Y⟩) 1 1,O I 0,L aW] 208))->RNew wj base outs st w (aC (aI #[X (Z ⟨rb,0,Y⟩),O I 0])) w8):=by
    rintro V w8 hV h8⟨aW,hR,hZ⟩;have Hp:w.heap.size<=wr.heap.size:=HT.size;have hg6:=ie.o;have hre:=HRBE.o;have h08:M (λj=>j=rb) wB w8:=(hV.mono noE).trans h8 (λ_ h=>aM h);refine⟨(HT.trans gZ (λ_ h=>aM h)).trans h08 (λx hx=>aN (by omega)),rb,λj=>j=rb\/j=lb\/(Value.slice na outs.length nc).ownBlock=Z j,R (Z ⟨lb,0,Y⟩) 1 1,[((Zh wj,id,aV),(na,outs.length,nc))],aW,rfl,?_,?_⟩
    ·have dv:=(h08.block lb (Jb cK.o) (λe=>by omega)).trans cK.o;have hD3:aV=Xh (H3 wj) st:=(by rw[HD6.o];exact zQ.1);refine⟨hZ,⟨rfl,aN ⟨lb,1,_,rfl,by omega,dv,Ql _,by simp[maxLen],rfl,rfl⟩⟩,aM rfl,λj hj=>aN (aM ?_),λx hx j hj=>?_,λj hj=>?_,⟨rfl,Ql _⟩,λi x c hx hc=>?_,λi x c hx hc=>?_,by show aW.size<=1000*1;omega⟩
     ·cases hj;rfl
     ·obtain rfl:x=((Zh wj,id,aV),(na,outs.length,nc)):=(by simpa using hx);exact aN (aN hj)
     ·have hs8:=h08.size;have h1:=(Jb rj)
      rcases hj with rfl|rfl|hj
      ·exact⟨by omega,by omega⟩
      ·exact⟨by omega,by omega⟩
      ·have:=kY.o.own j hj;have:=gZ.o.size;exact⟨by omega,by omega⟩
     ·match i,hx,hc with
      | 0,hx,hc=>
       simp only[lY,Qh]at hx hc;subst hx;subst hc;have e:lvH 0 ((Zh wj,id,aV),(na,outs.length,nc))=Yi wj outs st:=by unfold lvH Yi;rw[yT.o,hD3]
       refine⟨?_,by rw[e]⟩;refine⟨by show 0<2 ^ 32;decide,?_,pZ,?_⟩
       ·show (Zh wj).size=wj;unfold Zh;rw[Ji,List.length_replicate]
       ·show aV.size=wj;rw[hD3];exact Xx (H3 wj) wj (λl=>Jk wj hw l) st
      | i+1,hx,hc=>simp at hx
     ·match i,hx,hc with
      | 0,hx,hc=>
       simp only[lY,Qh]at hx hc;subst hx;subst hc;refine⟨XK id outs outs.length,?_,ae,by rw[HFL.o];omega⟩;refine(kY.at.tch0 gZ).tch h08 (λj hj e=>?_);have:=(kY.own j hj).2;omega
      | i+1,hx,hc=>simp at hx
    ·intro j hj
     rcases hj with rfl|rfl|hj
     ·omega
     ·omega
     ·exact(kY.own j hj).1
   clear iF kD zQ HD6 ae kY sw ib;go_region_with (first
    | (go_at_call 104;refine(HOB _ (by first|exact Td _ _ 1|exact M.box wB _)).mono ?_;rintro _ w7⟨rfl,gJ⟩;have gx:J (M D wB w7):=(by first|exact(Td D wB 1).trans gJ (λ_ h=>aM h)|exact(M.box wB _).trans gJ (λ_ h=>aM h));(try (have q1:w7.heap[wB.heap.size]? =Z (T #[O aE (wj:Int)] 5):=(gJ.block _ (by simp) (λh=>h)).trans (Qf wB _);have q2:=Jb1 wj w7 wB.heap.size (by omega) (Ja q1)));clear gJ)
    | (go_at_call 107;refine(rp _ (by first|exact(gx.block _ (Jb rj) (λh=>h)).trans rj|exact((gx.trans (Ta D w7 _) (λ_ h=>aM h)).block _ (Jb rj) (λh=>h)).trans rj)).mono ?_;rintro _ w8⟨rfl,jt,jh⟩;have HR8:J (_:Prop):=jh;have gW:J (M _ _ w8):=jt;clear jt jh))
   all_goals
    go_wp2;go_ret2
    first
     | exact jB _ _ gx gW HR8.o
     | exact jB _ _ (gx.trans (Ta D w7 _) (λ_ h=>aM h)) gW HR8.o

theorem Jjq(l:List UInt8):(⟨l.toArray⟩:BA).data.toList=l:=rfl
theorem JmR{x o:Nat×Nat}(h:outB o=outB x)(hx:Jy x)(ho:Jy o):x=o:=by
 unfold outB at h;have h1:=congrArg (λl=>kC (l.take 8)) h;have h2:=congrArg (λl=>kC (l.drop 8)) h;simp only[lU (Jf _ 8 8),lV (Jf _ 8 8)]at h1 h2;rw[YK _ 8 ho.1 8 (Ql _),YK _ 8 hx.1 8 (Ql _)]at h1;rw[YK _ 1 ho.2 1 (Ql _),YK _ 1 hx.2 1 (Ql _)]at h2;simp at h1 h2;exact Prod.ext h1.symm h2.symm
def jJ(s:List UInt8):Nat:=kC (s.take 2)
def gH(wj:Nat)(s:List UInt8):Nat:=2+jJ s*(2+wj)
def gM(wj:Nat)(s:List UInt8)(i:Nat):Stp:=(kC ((s.drop (2+i*(2+wj))).take 2),⟨((s.drop (4+i*(2+wj))).take wj).toArray⟩)
def keyP(wj:Nat)(s:List UInt8):List UInt8:=(s.drop (gH wj s)).take (wj+1)
def wyP(wj:Nat)(s:List UInt8):Wy:=((List.range (jJ s)).map (gM wj s),Z (keyP wj s,jQ s (gH wj s+wj+1)))
def Jbo(wj:Nat)(s:List UInt8):Prop:=s.length=gH wj s+wj+10/\Js s (gH wj s+wj)<3
def Yw(wj:Nat)(s:List UInt8)(j:Nat):Nat:=if j<jJ s then (gM wj s j).1 else 8*(wj+1)
def RunP(wj:Nat)(key:Key)(s:List UInt8)(j:Nat):Prop:=∀i,j<=i->i<jJ s->(gM wj s i).1<Yw wj s (i+1)/\bt (keyP wj s) (gM wj s i).1=bt key (gM wj s i).1
theorem RunP.down(h:RunP wj key s (j+1))(h1:(gM wj s j).1<Yw wj s (j+1))(h2:bt (keyP wj s) (gM wj s j).1=bt key (gM wj s j).1):RunP wj key s j:=λi hi hn=>by
 by_cases e:i=j
 ·rw[e];exact⟨h1,h2⟩
 ·exact h i (by omega) hn
def Jok(wj:Nat)(s:List UInt8):Decidable (Jbo wj s):=by unfold Jbo;infer_instance
def Jqe(wj:Nat)(key:Key)(s:List UInt8)(j:Nat):Decidable (RunP wj key s j):=
 decidable_of_iff (∀i,i<jJ s->j<=i->(gM wj s i).1<Yw wj s (i+1)/\bt (keyP wj s) (gM wj s i).1=bt key (gM wj s i).1) ⟨λh i h1 h2=>h i h2 h1,λh i h2 h1=>h i h1 h2⟩
def jP(wj:Nat)(key:Key)(s:List UInt8):Option Wy:=haveI:=Jok wj s;haveI:=Jqe wj key s 0;if s=[0,0] then Z ([],Y) else if Jbo wj s/\RunP wj key s 0 then Z (wyP wj s) else Y
theorem Jmi(wj:Nat)(s:List UInt8):∀n,2+n*(2+wj)<=s.length->((List.range n).map (gM wj s)).flatMap Xe=(s.drop 2).take (n*(2+wj))
 | 0,_=>by simp
 | n+1,h=>by
  have h1:2+n*(2+wj)+(2+wj)<=s.length:=by rw[lW]at h;omega
  rw[List.range_succ,List.map_append,List.flatMap_append,Jmi wj s n (by omega)];simp only[List.map_cons,List.map_nil,QG,List.flatMap_nil,QC];unfold Xe gM;rw[ZD _ 2 (by rw[QB,lD];omega),Jjq,show 4+n*(2+wj)=(2+n*(2+wj))+2 by omega,XM,XM,lW,Nat.one_mul]
theorem Jqp(h:s.length=gH wj s+wj+10):kT (wyP wj s)=s:=by
 have h2:2+jJ s*(2+wj)=gH wj s:=rfl;unfold kT wyP endB;simp only[QM,List.length_range];rw[Jmi wj s _ (by omega),Jgk s _ (by omega)];unfold keyP;have e1:Hf (jJ s) 2 2=(s.drop 0).take 2:=by rw[List.drop_zero];exact ZD _ 2 (by rw[QB];omega)
 rw[e1,show gH wj s+wj+1=gH wj s+(wj+1) by omega,XM,<-h2,XM];have e2:=XM s 0 2 (jJ s*(2+wj)+(wj+1+9));rw[Nat.zero_add]at e2;rw[e2,List.drop_zero,QS (by omega)]
theorem Jj7(h:RunP wj key s 0):∀k i,jJ s=i+k->i<jJ s->(gM wj s i).1<8*(wj+1)
 | 0,i,e,hi=>by omega
 | k+1,i,e,hi=>by
  have h1:=(h i (ld _) hi).1;unfold Yw at h1
  split at h1
  ·rename_i hj;exact Nat.lt_trans h1 (Jj7 h k (i+1) (by omega) hj)
  ·exact h1
theorem Jqt(h:Jbo wj s)(hr:RunP wj key s 0):WyOk wj (wyP wj s):=by
 have h2:2+jJ s*(2+wj)=gH wj s:=rfl;have hl:=h.1;have kL:∀x∈(wyP wj s).1,Zu wj x:=λx hx=>by
  obtain⟨i,hi,rfl⟩:=QL.1 hx;have hi:=List.mem_range.1 hi;have h3:(i+1)*(2+wj)<=jJ s*(2+wj):=Nat.mul_le_mul_right _ hi;rw[lW]at h3;refine⟨Jj7 hr (jJ s-i) i (by omega) hi,?_⟩;unfold gM;rw[Ji,QB,lD];omega
 have mO:YJ (wyP wj s).1 (wyP wj s).1.length:=λi h1 hi x y hx hy=>by
  unfold wyP at hi hx hy;simp only[QM,List.length_range]at hi;simp only at hx hy;rw[lZ,List.getElem?_range (by omega)]at hx hy;simp only[Option.map_some,Qh]at hx hy;subst hx;subst hy;have:=(hr (i-1) (ld _) (by omega)).1;rw[show i-1+1=i by omega]at this;unfold Yw at this;rw[if_pos hi]at this;exact this
 refine⟨kL,mO,JhS _ _ mO (λx hx=>(kL x hx).1),(λe=>by cases e),λx hx=>?_⟩
 cases hx
 refine⟨?_,?_,?_,?_⟩
 ·unfold keyP;rw[QB,lD];omega
 ·have h3:=h.2;unfold Js at h3;unfold keyP;rw[Qn,List.getElem?_take_of_lt (by omega),List.getElem?_drop,<-Qn];exact h3
 ·have:=Yt ((s.drop (gH wj s+wj+1)).take 8);rw[QB,lD,lX (by omega)]at this;exact this
 ·exact lT _
theorem Jff(e:List UInt8):∀(l:List Stp)(i:Nat),(∀s∈l,Zu wj s)->i<=l.length->(l.flatMap Xe++e).drop (i*(2+wj))=(l.drop i).flatMap Xe++e
 | l,0,_,_=>by simp
 | [],i+1,_,h=>by simp at h
 | x::r,i+1,hs,h=>by
  have hx:(Xe x).length=2+wj:=by have:=(hs x (by simp)).2;unfold Xe;rw[Qe,Jf,QA];have e:x.2.data.size=wj:=this;omega
  rw[List.drop_succ_cons,<-Jff e r i (λs hs'=>hs s (by simp[hs'])) (by simpa using h),QG,Qs,lW,Nat.one_mul,Nat.add_comm (i*_),<-hx,<-l9,lV];rfl
theorem JnY(Hg:WyOk wj wy)(hw:wj<=32)(x:KO)(hx:wy.2=Z x):wyP wj (kT wy)=wy/\Jbo wj (kT wy):=by
 obtain⟨steps,e⟩:=wy;simp only at hx;subst hx;obtain⟨k,o⟩:=x;obtain⟨h1,h2,h3⟩:=Hg.key (k,o) rfl;have hl:=Hg.len;have hs:=Hg.steps;simp only at h1 h2 h3 hl hs;obtain⟨S,hS⟩:∃S,S=kT (steps,Z (k,o)):=⟨_,rfl⟩
 have eS:S=Hf steps.length 2 2++(steps.flatMap Xe++(k++outB o)):=hS;have hn:jJ S=steps.length:=by unfold jJ;rw[eS,lU (Jf _ _ _),YK _ 2 (by omega) 2 (Ql _)];simp
 have hd:∀i,i<=steps.length->S.drop (2+i*(2+wj))=(steps.drop i).flatMap Xe++(k++outB o):=λi hi=>by
  rw[<-l9,eS,lV (Jf _ _ _),Jff _ _ _ hs hi]
 have he:S.drop (gH wj S)=k++outB o:=by unfold gH;rw[hn,hd _ (Ql _),List.drop_length];rfl
 have uL:(outB o).length=9:=by unfold outB;rw[Qe,Jf,Jf]
 have Hq:S.length=gH wj S+wj+10:=by have h5:=congrArg List.length he;rw[lD,Qe,uL]at h5;omega
 rw[<-hS];have hk:keyP wj S=k:=by unfold keyP;rw[he,lU h1]
 refine⟨?_,Hq,?_⟩
 ·unfold wyP;rw[hn,hk];refine Prod.ext ?_ ?_
  ·show (List.range steps.length).map (gM wj S)=steps;apply List.ext_getElem?;intro i;rw[lZ]
   by_cases hi:i<steps.length
   ·rw[List.getElem?_range hi,Qd hi];have h6:=hd i (by omega);rw[List.drop_eq_getElem_cons hi,QG]at h6;have h7:S.drop (4+i*(2+wj))=steps[i].2.data.toList++((steps.drop (i+1)).flatMap Xe++(k++outB o)):=by
     rw[show 4+i*(2+wj)=(2+i*(2+wj))+2 by omega,<-l9,h6];unfold Xe;rw[Qs,Qs,lV (Jf _ _ _)]
    obtain⟨g1,g2⟩:=hs _ (Qx hi);have g3:steps[i].2.data.toList.length=wj:=(by rw[QA];exact g2);simp only[Option.map_some,Qh];unfold gM;rw[h7,lU g3,h6];unfold Xe;rw[Qs,Qs,lU (Jf _ _ _),YK _ 2 (by omega) 2 (Ql _),Zx];simp
   ·rw[l6 (by simp;omega),l6 (by omega)];rfl
  ·show Z (k,jQ S (gH wj S+wj+1))=Z (k,o);have h8:S.drop (gH wj S+wj+1)=outB o:=(by rw[Nat.add_assoc,<-l9,he,lV h1]);have h9:=Jgk S (gH wj S+wj+1) (by omega);rw[h8,QS (by omega)]at h9
   congr 2
   exact JmR h9.symm (by
    constructor
    ·have:=Yt ((S.drop (gH wj S+wj+1)).take 8);rw[QB,lD,lX (by omega)]at this;exact this
    ·exact lT _) h3
 ·unfold Js;rw[Qn,<-List.getElem?_drop,he,QF (by omega),<-Qn];exact h2

def Jat(wj:Nat)(r:Option Wy)(w:aA)(e:Ending)(w':aA):Prop:=
 M D w w'/\match r with
 | some wy=>∃g m,e=aC (aI #[aH #[R (Z ⟨g,0,Y⟩) m m,L (ji wy),O aD ((gE wy).1:Int),O aE ((gE wy).2:Int)],aL true])/\wy.1.length+1=m/\g<w'.heap.size/\∀(j:Nat) t,(wy.nodes (H3 wj))[j]? =Z t->w'.cell? ⟨g,j,Y⟩=Z (L ⟨t.toArray⟩)
 | none=>∃a n c k x y,e=aC (aI #[aH #[R a n c,L k,O aD x,O aE y],aL false])
abbrev zP:Array aG:= #[R Y 0 0,L ⟨#[]⟩,O aD 0,O aE 0]
theorem Jer(h:w.heap[g]? =Z (T #[a,b,c,d] aY))(x0 x1 x2 x3:aG):
  ((((w.setCell ⟨g,0,Y⟩ x0).setCell ⟨g,1,Y⟩ x1).setCell ⟨g,2,Y⟩ x2).setCell ⟨g,3,Y⟩ x3).heap[g]? =Z (T #[x0,x1,x2,x3] aY)/\M (λj=>j=g) w ((((w.setCell ⟨g,0,Y⟩ x0).setCell ⟨g,1,Y⟩ x1).setCell ⟨g,2,Y⟩ x2).setCell ⟨g,3,Y⟩ x3):=by
 rw[Qj w g 0 _ _ (0,0) _ h,Qj _ g 1 _ _ (0,0) _ (Qi _ _ _ _ _ _ h),QI,Qj _ g 2 _ _ (0,0) _ (Qi _ _ _ _ _ _ h),QI,Qj _ g 3 _ _ (0,0) _ (Qi _ _ _ _ _ _ h),QI];exact⟨Qi _ _ _ _ _ _ h,Ts _ _ _⟩
structure Two(w W:aA)(a b c d:aG):Prop where
 r0:W.heap[w.heap.size]? =Z (T zP 302)
 r1:W.heap[w.heap.size+1]? =Z (T #[a,b,c,d] 302)
 tc:M D w W
def JaI(W:aA)(g:Nat)(a b c d:aG):Prop:=W.cell? ⟨g,0,Y⟩=Z a/\W.cell? ⟨g,1,Y⟩=Z b/\W.cell? ⟨g,2,Y⟩=Z c/\W.cell? ⟨g,3,Y⟩=Z d
theorem Jaf(h:W.heap[g]? =Z (T #[a,b,c,d] aY)):JaI W g a b c d:=⟨Ja h,Ja h,Ja h,Ja h⟩
theorem Two.tch(h:Two w W a b c d)(t:M D W W'):Two w W' a b c d:=⟨(t.block _ (Jb h.r0) (λe=>e)).trans h.r0,(t.block _ (Jb h.r1) (λe=>e)).trans h.r1,h.tc.go t⟩
theorem Jk9(wj:Nat)(hw:wj<=32)(k:BA)(aY:BA)(S:List UInt8)(yZ:aY.data.toList=S)(hS:aY.size<=2000000)(Hl:S ≠ [0,0])(nJ:aY.size<2\/¬Jbo wj S)(w:aA):
  aB N 258 #[O I (wj:Int),L k,L aY] w λe w'=>M D w w'/\∃a n c k x y,e=aC (aI #[aH #[R a n c,L k,O aD x,O aE y],aL false]):=by
 have Hp:S.length=aY.size:=by rw[<-yZ,QA];rfl
 have vV:(aY.toList == [0,0])=false:=by rw[beq_eq_false_iff_ne,ByteArray.toList_eq,yZ];exact Hl
 obtain⟨W2,qW⟩:∃W2,W2=(w.alloc (T zP 302)).alloc (T zP 302):=⟨_,rfl⟩
 have ge:J (Two w W2 (R Y 0 0) (L ⟨#[]⟩) (O aD 0) (O aE 0)):=⟨by rw[qW];exact heap_alloc2_old _ _ _,by rw[qW];exact heap_alloc2_new _ _ _,by rw[qW];exact M.allocs _ _ _ _⟩
 have jD:J _:=qW;have jB:J (∀V,Two w V (R Y 0 0) (L ⟨#[]⟩) (O aD 0) (O aE 0)->JaI V w.heap.size (R Y 0 0) (L ⟨#[]⟩) (O aD 0) (O aE 0)/\JaI V (w.heap.size+1) (R Y 0 0) (L ⟨#[]⟩) (O aD 0) (O aE 0)/\(∀j,V.frozen? ⟨w.heap.size,j,Y⟩=false)/\((((V.setCell ⟨w.heap.size,0,Y⟩ (R Y 0 0)).setCell ⟨w.heap.size,1,Y⟩ (L ⟨#[]⟩)).setCell ⟨w.heap.size,2,Y⟩ (O aD 0)).setCell ⟨w.heap.size,3,Y⟩ (O aE 0)).heap[w.heap.size]? =Z (T zP 302)/\M D w ((((V.setCell ⟨w.heap.size,0,Y⟩ (R Y 0 0)).setCell ⟨w.heap.size,1,Y⟩ (L ⟨#[]⟩)).setCell ⟨w.heap.size,2,Y⟩ (O aD 0)).setCell ⟨w.heap.size,3,Y⟩ (O aE 0))):=λV h=>by
  obtain⟨p1,p2⟩:=Jer h.r0 (R Y 0 0) (L ⟨#[]⟩) (O aD 0) (O aE 0);exact⟨Jaf h.r0,Jaf h.r1,λj=>Qg _ _ _ _ _ h.r0,p1,h.tc.trans p2 (λj hj=>aN (by rw[hj];exact Ql _))⟩
 unfold JaI at jB
 by_cases h2:aY.size<2
 ·have cL:(aY.size:Int)<2:=by omega
  clear nJ Hl qW Hp yZ;go_enter func258,ntmps258;go_upto_region 2 with fail;rw[<-jD.o];obtain⟨⟨x0,x1,x2,x3⟩,⟨y0,y1,y2,y3⟩,fz,(Hx:J _),(kF:J _)⟩:=jB W2 ge.o;go_wp2;refine QK (v:=aI #[aH zP,aL false]) (Je results258 _ _ w.heap.size _ _ (0,0) _ rfl Hx underlying302 rfl (by kernel_rfl)) rfl ⟨kF,_,_,_,_,_,_,rfl⟩
 ·have cL:¬(aY.size:Int)<2:=by omega
  obtain⟨n,hn⟩:∃n,jJ S=n:=⟨_,rfl⟩
  have jx:n<65536:=by have:=Yt (S.take 2);rw[QB,lX (by omega)]at this;rw[<-hn];exact this
  have HNU:J (∀V,aB N 112 #[L aY,O I 2] V λe w'=>e=aC (O aD (n:Int))/\M D V w'):=λV=>by
   have:=Ja1 aY 2 (by omega) (by omega) V;rw[yZ]at this;rw[<-hn];exact this
  obtain⟨sz,jl⟩:∃sz,2+wj=sz:=⟨_,rfl⟩
  obtain⟨E,hE⟩:∃E,2+n*sz=E:=⟨_,rfl⟩
  have hnE:n*sz<=65536*34:=Nat.mul_le_mul (by omega) (by omega);have rH:gH wj S=E:=by unfold gH;rw[hn,jl,hE]
  have w0:I.wrap (n:Int)=(n:Int):=w63 _ (by omega) (by omega);have w1:I.wrap (2+(wj:Int))=(sz:Int):=by rw[w63 _ (by omega) (by omega)];omega
  have w2:I.wrap ((n:Int)*(sz:Int))=(n:Int)*(sz:Int):=by have:(n:Int)*(sz:Int)=((n*sz:Nat):Int):=(by simp);rw[this];exact w63 _ (by omega) (by omega)
  have w3:I.wrap (2+(n:Int)*(sz:Int))=(E:Int):=by have:2+(n:Int)*(sz:Int)=((2+n*sz:Nat):Int):=(by simp);rw[this,hE];exact w63 _ (by omega) (by omega)
  have w4:I.wrap ((E:Int)+(wj:Int))=(E:Int)+(wj:Int):=w63 _ (by omega) (by omega);have w5:I.wrap ((E:Int)+(wj:Int)+1)=(E:Int)+(wj:Int)+1:=w63 _ (by omega) (by omega);have w6:I.wrap ((E:Int)+(wj:Int)+1+9)=(E:Int)+(wj:Int)+10:=by rw[w63 _ (by omega) (by omega)];omega
  by_cases Hq:aY.size=E+wj+10
  ·have qB:(aY.size:Int)=(E:Int)+(wj:Int)+10:=(by omega);have hb:3<=Js S (E+wj):=by
    rcases nJ with h|h
    ·omega
    ·unfold Jbo at h;rw[rH,Hp]at h;omega
   obtain⟨c,hc⟩:∃c:Nat,(aY[E+wj]'(by omega)).toNat=c:=⟨_,rfl⟩
   have yd:=Zk aY (E+wj) (by omega);rw[hc,yZ]at yd;have hc3:3<=(c:Int):=(by omega);obtain⟨EW,yq⟩:∃EW:Nat,E+wj=EW:=⟨_,rfl⟩
   have w4':I.wrap ((E:Int)+(wj:Int))=(EW:Int):=(by rw[w4];omega);have w5':I.wrap ((EW:Int)+1)=(EW:Int)+1:=w63 _ (by omega) (by omega);have w6':I.wrap ((EW:Int)+1+9)=(EW:Int)+10:=(by rw[w63 _ (by omega) (by omega)];omega);have qS:(aY.size:Int)=(EW:Int)+10:=(by omega);have pT:EW<aY.size:=(by omega);have hixi:(EW:Int)<(aY.size:Int):=(by omega);have tp:aY[EW].toNat=c:=(by subst yq;exact hc);clear nJ Hl qW hn hE hnE rH jl Hp yZ Hq qB hb hc yd yq w4 w5 w6;go_enter func258,ntmps258;go_upto_region 2 with fail;rw[<-jD.o];go_wp2_with (go_at_call 112;refine(HNU _).mono ?_;rintro _ w7⟨rfl,gJ⟩;obtain⟨⟨x0,x1,x2,x3⟩,⟨y0,y1,y2,y3⟩,fz,(Hx:J _),(kF:J _)⟩:=jB w7 (ge.tch gJ);clear gJ);refine QK (v:=aI #[aH zP,aL false]) (Je results258 _ _ w.heap.size _ _ (0,0) _ rfl Hx underlying302 rfl (by kernel_rfl)) rfl ⟨kF,_,_,_,_,_,_,rfl⟩
  ·have qB:¬(aY.size:Int)=(E:Int)+(wj:Int)+10:=(by omega);clear nJ Hl qW hn hE hnE rH jl Hp yZ;go_enter func258,ntmps258;go_upto_region 2 with fail;rw[<-jD.o];go_wp2_with (go_at_call 112;refine(HNU _).mono ?_;rintro _ w7⟨rfl,gJ⟩;obtain⟨⟨x0,x1,x2,x3⟩,⟨y0,y1,y2,y3⟩,fz,(Hx:J _),(kF:J _)⟩:=jB w7 (ge.tch gJ);clear gJ);refine QK (v:=aI #[aH zP,aL false]) (Je results258 _ _ w.heap.size _ _ (0,0) _ rfl Hx underlying302 rfl (by kernel_rfl)) rfl ⟨kF,_,_,_,_,_,_,rfl⟩
theorem JoI(n:Nat)(hn:n<=70000)(w:aA):(Instr.makeSlice 58 (O I (n:Int)) (O I (n:Int))).run N w=.ok (R (Z ⟨w.heap.size,0,Y⟩) n n) (w.alloc (T (lN n (lF ⟨#[]⟩)).toArray 9)):=by
 obtain⟨i,hi,hp⟩:=lK.1 (show (prog.info? 9).map (λi=>(i.zero,i.size,i.bytes))=Z (Z (L ⟨#[]⟩),1,16) by kernel_rfl);simp only[Qw]at hp;obtain⟨hz,Hp,gy⟩:=hp;have:=run_makeSlice (P:=N) (w:=w) 58 9 i _ underlying58 hi hz I I (n:Int) (n:Int) (by omega) (by omega) (by rw[Hp];omega) (by rw[gy];omega) (by omega);rw[this,Hp];have e:madeCells (lF ⟨#[]⟩).cells ((n:Int).toNat*1)=(lN n (lF ⟨#[]⟩)).toArray:=by
  unfold madeCells;apply Array.ext
  ·simp
  ·intro i h1 h2;simp[Value.cells,Nat.mod_one]
 rw[e,lf]
theorem Joj(Hl:s ≠ [0,0])(hg:Jbo wj s):(RunP wj key s 0->jP wj key s=Z (wyP wj s))/\(¬RunP wj key s 0->jP wj key s=Y):=by
 unfold jP;rw[if_neg Hl];exact⟨λh=>if_pos ⟨hg,h⟩,λh=>if_neg (λe=>h e.2)⟩

theorem Two.low(h:Two w W a b c d):JaI W (w.heap.size+1) a b c d/\(∀j,W.frozen? ⟨w.heap.size+1,j,Y⟩=false)/\w.heap.size+2<=W.heap.size:=⟨Jaf h.r1,λ_=>Qg _ _ _ _ _ h.r1,(Jb h.r1)⟩
theorem Two.row{a' b' c' d':aG}(h:Two w W a b c d):Two w (W.setRow (w.heap.size+1) #[a',b',c',d']) a' b' c' d':=
 ⟨((Ts W (w.heap.size+1) #[a',b',c',d']).block _ (Jb h.r0) (λe=>by omega)).trans h.r0,Qi _ _ _ _ _ _ h.r1,h.tc.trans (Ts _ _ _) (λj hj=>aN (by omega))⟩
theorem Two.p0(h:Two w W a b c d)(x:aG):Two w (W.setCell ⟨w.heap.size+1,0,Y⟩ x) x b c d:=by
 rw[Qj W _ 0 _ _ (0,0) _ h.r1];exact h.row
theorem Two.p1(h:Two w W a b c d)(x:aG):Two w (W.setCell ⟨w.heap.size+1,1,Y⟩ x) a x c d:=by
 rw[Qj W _ 1 _ _ (0,0) _ h.r1];exact h.row
theorem Two.p23(h:Two w W a b c d)(x y:aG):Two w ((W.setCell ⟨w.heap.size+1,2,Y⟩ x).setCell ⟨w.heap.size+1,3,Y⟩ y) a b x y:=by
 rw[Qj W _ 2 _ _ (0,0) _ h.r1,Qj _ _ 3 _ _ (0,0) _ (Qi _ _ _ _ _ _ h.r1),QI];exact h.row
theorem Two.far(h:Two w W a b c d)(hg:w.heap.size+2<=g)(t:M (λj=>j=g) W W'):Two w W' a b c d:=
 ⟨(t.block _ (Jb h.r0) (λe=>by omega)).trans h.r0,(t.block _ (Jb h.r1) (λe=>by omega)).trans h.r1,h.tc.trans t (λj hj=>aN (by omega))⟩
theorem Two.ends(h:Two w V a b c d):∀aX,((((V.setCell ⟨w.heap.size,0,Y⟩ a).setCell ⟨w.heap.size,1,Y⟩ b).setCell ⟨w.heap.size,2,Y⟩ c).setCell ⟨w.heap.size,3,Y⟩ d)=aX->JaI V w.heap.size (R Y 0 0) (L ⟨#[]⟩) (O aD 0) (O aE 0)/\JaI V (w.heap.size+1) a b c d/\(∀j,V.frozen? ⟨w.heap.size,j,Y⟩=false)/\J (aX.heap[w.heap.size]? =Z (T #[a,b,c,d] 302))/\J (M D w aX)/\J (M (λj=>j=w.heap.size) V aX):=λaX hX=>by
 obtain⟨p1,p2⟩:=Jer h.r0 a b c d;rw[hX]at p1 p2;exact⟨Jaf h.r0,Jaf h.r1,λj=>Qg _ _ _ _ _ h.r0,p1,h.tc.trans p2 (λj hj=>aN (by rw[hj];exact Ql _)),p2⟩
def Nds(W:aA)(g N1 n j:Nat)(NT:Nat->List UInt8):Prop:=∃cur:Array aG,W.heap[g]? =Z (T cur 9)/\cur.size=N1/\∀i,j<=i->i<=n->cur[i]? =Z (L ⟨(NT i).toArray⟩)
theorem Nds.tch(h:Nds W g N1 n j NT)(t:M S W W')(hs:¬S g):Nds W' g N1 n j NT:=by
 obtain⟨cur,h1,h2⟩:=h;exact⟨cur,(t.block _ (Jb h1) hs).trans h1,h2⟩
theorem Nds.get(h:Nds W g N1 n j NT):(∀i,j<=i->i<=n->W.cell? ⟨g,i,Y⟩=Z (L ⟨(NT i).toArray⟩))/\(∀i,i<N1->∃v,W.cell? ⟨g,i,Y⟩=Z v)/\(∀i,W.frozen? ⟨g,i,Y⟩=false)/\g<W.heap.size:=by
 obtain⟨cur,h1,h2,h3⟩:=h;exact⟨λi a b=>(Ja h1).trans (h3 i a b),λi hi=>⟨cur[i],by rw[Ja h1];exact Array.getElem?_eq_getElem (by omega)⟩,λi=>Qg _ _ _ _ _ h1,(Jb h1)⟩
theorem Nds.put(h:Nds W g N1 n (i+1) NT)(hi:i<N1)(v:aG)(hv:v=L ⟨(NT i).toArray⟩):Nds (W.setCell ⟨g,i,Y⟩ v) g N1 n i NT/\M (λj=>j=g) W (W.setCell ⟨g,i,Y⟩ v):=by
 obtain⟨cur,h1,h2,h3⟩:=h;rw[Qj W g i _ _ (0,0) _ h1];refine⟨⟨_,Qi _ _ _ _ _ _ h1,by simpa using h2,λk a b=>?_⟩,Ts _ _ _⟩
 by_cases e:k=i
 ·subst e;rw[Array.getElem?_setIfInBounds_self_of_lt (by omega),hv]
 ·rw[Array.getElem?_setIfInBounds_ne (λe'=>e e'.symm)];exact h3 k (by omega) b
theorem JhL(hD:DgC)(wj:Nat)(Hn:1<=wj)(hw:wj<=32)(K:List UInt8)(hK:K.length=wj+1)(aY:BA)(S:List UInt8)(yZ:aY.data.toList=S)(hS:aY.size<=2000000)(Hl:S ≠ [0,0])(uI:Jbo wj S)(w:aA):
  aB N 258 #[O I (wj:Int),L ⟨K.toArray⟩,L aY] w (Jat wj (jP wj K S) w):=by
 have Hp:S.length=aY.size:=by rw[<-yZ,QA];rfl
 have vV:(aY.toList == [0,0])=false:=by rw[beq_eq_false_iff_ne,ByteArray.toList_eq,yZ];exact Hl
 obtain⟨W2,qW⟩:∃W2,W2=(w.alloc (T zP 302)).alloc (T zP 302):=⟨_,rfl⟩
 have ge:J (Two w W2 (R Y 0 0) (L ⟨#[]⟩) (O aD 0) (O aE 0)):=⟨by rw[qW];exact heap_alloc2_old _ _ _,by rw[qW];exact heap_alloc2_new _ _ _,by rw[qW];exact M.allocs _ _ _ _⟩
 have jD:J (W2=_):=qW;obtain⟨n,hn⟩:∃n,jJ S=n:=⟨_,rfl⟩
 obtain⟨sz,jl⟩:∃sz,2+wj=sz:=⟨_,rfl⟩
 obtain⟨E,hE⟩:∃E,2+n*sz=E:=⟨_,rfl⟩
 have rH:gH wj S=E:=by unfold gH;rw[hn,jl,hE]
 have Hq:aY.size=E+wj+10:=by have:=uI.1;omega
 have jx:n<65536:=by have:=Yt (S.take 2);rw[QB,lX (by omega)]at this;rw[<-hn];exact this
 have hnE:n*sz<=65536*34:=Nat.mul_le_mul (by omega) (by omega);have HNU:J (∀V,aB N 112 #[L aY,O I 2] V λe w'=>e=aC (O aD (n:Int))/\M D V w'):=λV=>by
  have:=Ja1 aY 2 (by omega) (by omega) V;rw[yZ]at this;rw[<-hn];exact this
 obtain⟨EW,yq⟩:∃EW:Nat,E+wj=EW:=⟨_,rfl⟩
 obtain⟨E1,nq⟩:∃E1:Nat,EW+1=E1:=⟨_,rfl⟩
 -- the key, the output, the leaf's text
 obtain⟨KP,mP⟩:∃KP,keyP wj S=KP:=⟨_,rfl⟩
 obtain⟨oa,oo,hO⟩:∃oa oo,jQ S (gH wj S+wj+1)=(oa,oo):=⟨_,_,rfl⟩
 obtain⟨KB,yI⟩:∃KB:BA,KB=⟨KP.toArray⟩:=⟨_,rfl⟩
 obtain⟨kB,hkB⟩:∃kB:BA,kB=⟨K.toArray⟩:=⟨_,rfl⟩
 have hx1:aY.extract E E1=KB:=by
  rw[yI];apply YN;rw[lG,lH,yZ,lE,<-mP];unfold keyP;rw[rH]
  congr 1
  omega
 obtain⟨P8,hP8⟩:∃P8:BA,aY.extract E1 aY.size=P8:=⟨_,rfl⟩
 have ig:P8.data.toList=S.drop E1:=by rw[<-hP8,lG,lH,yZ,lE,QS];rw[lD];omega
 have HN8:J (∀V,aB N 112 #[L P8,O I 8] V λe w'=>e=aC (O aD (oa:Int))/\M D V w'):=λV=>by
  have:=Ja1 P8 8 (by omega) (by rw[<-hP8,l5];omega) V;rw[ig]at this;have e:oa=kC ((S.drop E1).take 8):=by have:=congrArg Prod.fst hO;unfold jQ at this;rw[rH,yq,nq]at this;exact this.symm
  rw[e];exact this
 obtain⟨LZ,hLZ⟩:∃LZ,aY.size-1=LZ:=⟨_,rfl⟩
 have hLT:LZ<aY.size:=by omega
 have hLTi:(LZ:Int)<(aY.size:Int):=by omega
 have wLZ:I.wrap ((aY.size:Int)-1)=(LZ:Int):=by rw[w63 _ (by omega) (by omega)];omega
 have ii:(aY[LZ]'hLT).toNat=oo:=by
  have h1:=Zk aY LZ hLT;have h2:=congrArg Prod.snd hO;unfold jQ at h2;rw[yZ]at h1;rw[<-h1];simp only at h2;rw[<-h2,rH]
  congr 1
  omega
 obtain⟨TE,hTE⟩:∃TE:BA,aY.extract E aY.size=TE:=⟨_,rfl⟩
 have ij:TE.data.toList=S.drop E:=by rw[<-hTE,lG,lH,yZ,lE,QS];rw[lD];omega
 obtain⟨ET,hET⟩:∃ET,Xb (Z (KP,(oa,oo)))=ET:=⟨_,rfl⟩
 have cM:ET=76::S.drop E:=by rw[<-hET];unfold Xb;have h1:=Jgk S (E+wj+1) (by omega);rw[<-rH,hO]at h1;simp only[QH,true_and];rw[h1,<-mP];unfold keyP;rw[rH,show E+wj+1=E+(wj+1) by omega,XM,QS (by rw[lD];omega)]
 have jL:∀W,(Op.stringOp .add (⟨#[76]⟩:BA) TE).run N W=.ok (L ⟨ET.toArray⟩) W:=λW=>by
  have h1:=JO [76] (S.drop E) (by simp;omega) W;rw[cM];have h2:TE=⟨(S.drop E).toArray⟩:=YN (by rw[ij]);rw[h2];exact h1
 -- the steps
 obtain⟨B,aQ,kL⟩:∃(B:Nat->Nat)(aQ:Nat->BA),∀i,gM wj S i=(B i,aQ i):=⟨λi=>(gM wj S i).1,λi=>(gM wj S i).2,λi=>rfl⟩
 obtain⟨aS,hL⟩:∃aS,(List.range n).map (gM wj S)=aS:=⟨_,rfl⟩
 have hLl:aS.length=n:=by rw[<-hL];simp
 have hLi:∀i (hi:i<n),aS[i]'(by omega)=(B i,aQ i):=λi hi=>by subst hL;rw[List.getElem_map,List.getElem_range,kL]
 have xL:∀i,i<n->2+i*sz+sz<=E:=λi hi=>by
  have h3:(i+1)*sz<=n*sz:=Nat.mul_le_mul_right _ hi;rw[lW]at h3;omega
 have cO:J (∀i,i<n->B i<65536):=λi hi=>by
  have h1:B i=kC ((S.drop (2+i*(2+wj))).take 2):=(congrArg Prod.fst (kL i)).symm;have h2:=Yt ((S.drop (2+i*(2+wj))).take 2);have h3:=xL i hi;rw[QB,lD,jl,lX (by omega)]at h2;rw[h1,jl];exact h2
 have HOs:J (∀i,i<n->(aQ i).data.toList.length=wj):=λi hi=>by
  have h1:aQ i=⟨((S.drop (4+i*(2+wj))).take wj).toArray⟩:=(congrArg Prod.snd (kL i)).symm;have h3:=xL i hi;rw[h1,Jjq,QB,lD,jl];omega
 have zo:J (∀i,i<n->∃P:BA,aY.extract (2+i*sz) aY.size=P/\∀V,aB N 112 #[L P,O I 2] V λe w'=>e=aC (O aD (B i:Int))/\M D V w'):=λi hi=>by
  refine⟨_,rfl,λV=>?_⟩;have h3:=xL i hi;have:=Ja1 (aY.extract (2+i*sz) aY.size) 2 (by omega) (by rw[l5];omega) V;have h4:(aY.extract (2+i*sz) aY.size).data.toList=S.drop (2+i*sz):=by rw[lG,lH,yZ,lE,QS];rw[lD];omega
  rw[h4]at this;have h1:B i=kC ((S.drop (2+i*(2+wj))).take 2):=(congrArg Prod.fst (kL i)).symm;rw[h1,jl];exact this
 have HOX:J (∀i,i<n->aY.extract (4+i*sz) (2+(i+1)*sz)=aQ i):=λi hi=>by
  have h1:aQ i=⟨((S.drop (4+i*(2+wj))).take wj).toArray⟩:=(congrArg Prod.snd (kL i)).symm;rw[h1];apply YN;rw[lG,lH,yZ,lE,jl,Jjq]
  congr 1
  rw[lW];omega
 obtain⟨NT,ik⟩:∃NT:Nat->List UInt8,∀j,Zv (H3 wj) KP ET aS j=NT j:=⟨_,λ_=>rfl⟩
 have hNn:NT n=ET:=by rw[<-ik,<-hLl];exact JcI _ _ _ _
 have HNS:J (∀i,i<n->NT i=78::(Hf (B i) 2 2++(if bt KP (B i)=0 then (H3 wj (NT (i+1))).data.toList++(aQ i).data.toList else (aQ i).data.toList++(H3 wj (NT (i+1))).data.toList))):=λi hi=>by
  have:=JbH (H3 wj) KP ET aS i (by omega);rw[hLi i hi,ik,ik]at this;exact this
 have nh:J (∀j,j<=n->(NT j).length<=1000):=λj hj=>by
  by_cases e:j=n
  ·rw[e,hNn,cM,Qp,lD];omega
  ·have h1:=HOs j (by omega);have h2:(H3 wj (NT (j+1))).data.toList.length=wj:=(by rw[QA];exact Jk wj hw _);rw[HNS.o j (by omega)]
   split<;>(simp only[Qp,Qe,Jf,h1,h2];omega)
 have HN:J (jJ S=n):=hn;have qv:=Joj (key:=K) Hl uI;have hRL:∀i,i<n->(Yw wj S i=B i):=λi hi=>by unfold Yw;rw[hn,if_pos hi,kL]
 have hRN:Yw wj S n=8*(wj+1):=by unfold Yw;rw[hn,if_neg (by omega)]
 have fC:J (∀i,i<n->RunP wj K S (i+1)->B i<Yw wj S (i+1)->bt KP (B i)=bt K (B i)->RunP wj K S i):=λi hi h1 h2 h3=>RunP.down h1 (by rw[kL];exact h2) (by rw[kL,mP];exact h3);have fA:J (∀i,i<n->¬(B i<Yw wj S (i+1)/\bt KP (B i)=bt K (B i))->jP wj K S=Y):=λi hi h=>qv.2 (λhr=>h (by have:=hr i (ld _) (by omega);rw[kL,mP]at this;exact this));have pU:J (RunP wj K S 0->jP wj K S=Z (wyP wj S)):=qv.1;have uD:J ((wyP wj S).1.length=n/\ji (wyP wj S)=KB/\gE (wyP wj S)=(oa,oo)/\∀j t,((wyP wj S).nodes (H3 wj))[j]? =Z t->j<=n/\t=NT j):=by
  refine⟨by unfold wyP;rw[hn];simp,?_,?_,λj t ht=>?_⟩
  ·rw[yI,<-mP];rfl
  ·exact hO
  ·have e:(wyP wj S).nodes (H3 wj)=JM (H3 wj) KP ET aS:=by
    unfold Wy.nodes;rw[<-hET,<-hL,<-mP,<-hO,<-hn];rfl
   rw[e]at ht;have h1:=(Qo.1 ht).1;rw[JZ,hLl]at h1;rw[ZH _ _ _ _ _ (by omega)]at ht;refine⟨by omega,?_⟩;rw[<-ik];exact(Option.some.inj ht).symm
 have xp:J (∀b V,b<8*(wj+1)->aB N 253 #[L KB,O I (b:Int)] V λe w'=>e=aC (O I (bt KP b:Int))/\M D V w'):=λb V hb=>by
  have ju:KP.length=wj+1:=by rw[<-mP];unfold keyP;rw[QB,lD];omega
  rw[yI];exact JhJ KP b (by omega) (by omega) V
 have uH:J (∀b V,b<8*(wj+1)->aB N 253 #[L kB,O I (b:Int)] V λe w'=>e=aC (O I (bt K b:Int))/\M D V w'):=λb V hb=>by
  rw[hkB];exact JhJ K b (by omega) (by omega) V
 have jR:J (∀j V,j<=n->aB N 103 #[O I (wj:Int),L ⟨(NT j).toArray⟩] V λe w'=>e=aC (L (H3 wj (NT j)))/\M D V w'):=λj V hj=>hD wj ⟨(NT j).toArray⟩ V Hn hw (by rw[Ji];have:=nh j hj;omega);have HFT:J (∀(b:Nat)(p q:BA)(V:aA),b<65536->p.data.toList.length<=1000->q.data.toList.length<=1000->aB N 168 #[O I (b:Int),L p,L q] V λe w'=>e=aC (L ⟨(78::(Hf b 2 2++(p.data.toList++q.data.toList))).toArray⟩)/\M D V w'):=λb p q V hb hp hq=>by
  have:=Jeb b p.data.toList q.data.toList V hb (by omega) (by omega);simpa using this
 have HCM:J (∀i,i<n->4+i*sz+wj=2+(i+1)*sz/\2+(i+1)*sz<=aY.size):=λi hi=>by
  have:=xL i hi;rw[lW];omega
 obtain⟨RW,hRW⟩:∃RW,jP wj K S=RW:=⟨_,rfl⟩
 rw[hRW]at fA pU ⊢;rw[<-hkB];have cL:¬(aY.size:Int)<2:=by omega
 have w0:I.wrap (n:Int)=(n:Int):=w63 _ (by omega) (by omega);have w1:I.wrap (2+(wj:Int))=(sz:Int):=by rw[w63 _ (by omega) (by omega)];omega
 have w2:I.wrap ((n:Int)*(sz:Int))=(n:Int)*(sz:Int):=by
  have:(n:Int)*(sz:Int)=((n*sz:Nat):Int):=by simp
  rw[this];exact w63 _ (by omega) (by omega)
 have w3:I.wrap (2+(n:Int)*(sz:Int))=(E:Int):=by
  have:2+(n:Int)*(sz:Int)=((2+n*sz:Nat):Int):=by simp
  rw[this,hE];exact w63 _ (by omega) (by omega)
 have w4:I.wrap ((E:Int)+(wj:Int))=(EW:Int):=by rw[w63 _ (by omega) (by omega)];omega
 have w5:I.wrap ((EW:Int)+1)=(E1:Int):=by rw[w63 _ (by omega) (by omega)];omega
 have w6:I.wrap ((E1:Int)+9)=(aY.size:Int):=by rw[w63 _ (by omega) (by omega)];omega
 have pT:EW<aY.size:=by omega
 have hixi:(EW:Int)<(aY.size:Int):=by omega
 obtain⟨c,hc⟩:∃c:Nat,(aY[EW]'pT).toNat=c:=⟨_,rfl⟩
 have hc3:¬3<=(c:Int):=by have h1:=uI.2;have h2:=Zk aY EW pT;rw[yZ,hc]at h2;rw[rH,yq,h2]at h1;omega
 have e1:E<=E1:=by omega
 have e1i:(E:Int)<=(E1:Int):=by omega
 have e2:E1<=aY.size:=by omega
 have e2i:(E1:Int)<=(aY.size:Int):=by omega
 have e3:E<=aY.size:=by omega
 have e3i:(E:Int)<=(aY.size:Int):=by omega
 have wn1:I.wrap ((n:Int)+1)=((n+1:Nat):Int):=by rw[w63 _ (by omega) (by omega)];rfl
 have ww1:I.wrap ((wj:Int)+1)=(wj:Int)+1:=w63 _ (by omega) (by omega);have ww8:I.wrap (8*((wj:Int)+1))=((8*(wj+1):Nat):Int):=by rw[w63 _ (by omega) (by omega)];omega
 have wnm:I.wrap ((n:Int)-1)=(n:Int)-1:=by simp[lh,li,l8];omega
 clear uI Hl qW hn hE hnE rH jl yZ yq nq mP hO yI hkB ig ij hET cM kL hL hLl hLi xL ik qv hRW Hq Hp hLZ;go_enter func258,ntmps258;go_upto_region 2 with fail;rw[<-jD.o];go_upto_region 12 with(go_at_call 112;refine(HNU _).mono ?_;rintro _ w7⟨rfl,gJ⟩;have gx:J (Two w w7 _ _ _ _):=ge.tch gJ;clear gJ);obtain⟨⟨y0,y1,y2,y3⟩,fz,_⟩:=gx.low;go_upto_region 13 with fail;have gW:J (Two w _ _ _ _ _):=gx.p1 (L KB);generalize w7.setCell ⟨w.heap.size+1,1,Y⟩ (L KB)=w8 at *;clear y0 y1 y2 y3 fz;go_cut [] (λwx=>J (Two w wx (R Y 0 0) (L KB) (O aD (oa:Int)) (O aE (oo:Int))))
 case first=>
  go_region_held3 (λ_=>True) (trivial) ((go_at_call 112;refine(HN8 _).mono ?_;rintro _ w9⟨rfl,jX⟩;have j8:J (Two w w9 _ _ _ _):=gW.tch ((Td D w8 1).go jX);obtain⟨⟨y0,y1,y2,y3⟩,fz,_⟩:=j8.low;clear jX))
  all_goals go_wp2;go_meet;exact j8.p23 _ _
 case rest=>
 have kI:J (Two w _ _ _ _ _):=hcut.out;obtain⟨wA,jC⟩:∃wA,wA=wc:=⟨wc,rfl⟩
 subst jC;clear gW gx hcut;obtain⟨N1,cP⟩:∃N1,n+1=N1:=⟨_,rfl⟩
 rw[cP]at wn1;have qZ:=JoI N1 (by omega) wA;have hnN:(n:Int)<(N1:Int):=by omega
 obtain⟨⟨y0,y1,y2,y3⟩,fz,_⟩:=kI.low;obtain⟨wB,yp⟩:∃wB,wB=wA.alloc (T (lN N1 (lF ⟨#[]⟩)).toArray 9):=⟨_,rfl⟩
 rw[<-yp]at qZ;have gZ:J (Two w wB _ _ _ _):=kI.tch (by rw[yp];exact Ta _ _ _);have nK:J (wB.heap[wA.heap.size]? =Z (T (lN N1 (lF ⟨#[]⟩)).toArray 9)):=by show _=_;rw[yp];exact Qf _ _
 have rI:J (w.heap.size+2<=wA.heap.size):=kI.low.2.2;obtain⟨g,hg⟩:∃g,wA.heap.size=g:=⟨_,rfl⟩
 rw[hg]at qZ nK rI;obtain⟨⟨z0,z1,z2,z3⟩,fzB,_⟩:=gZ.low;clear yp hg;go_upto_region 15 with fail;have qo:J (Two w _ _ _ _ _):=gZ.p0 (R (Z ⟨g,0,Y⟩) N1 N1);have HNC:J (Nds (wB.setCell ⟨w.heap.size+1,0,Y⟩ (R (Z ⟨g,0,Y⟩) N1 N1)) g N1 n (n+1) NT):=by refine⟨(lN N1 (lF ⟨#[]⟩)).toArray,?_,by simp,λi h1 h2=>absurd h1 (by omega)⟩;rw[Qj wB _ 0 _ _ (0,0) _ gZ.o.r1];exact((Ts _ _ _).block _ (Jb nK) (by have:=rI.o;omega)).trans nK.o
 generalize wB.setCell ⟨w.heap.size+1,0,Y⟩ (R (Z ⟨g,0,Y⟩) N1 N1)=wC at *;clear y0 y1 y2 y3 fz z0 z1 z2 z3 fzB qZ;obtain⟨⟨y0,y1,y2,y3⟩,fz,_⟩:=qo.low;obtain⟨old,jk⟩:=HNC.get.2.1 n (by omega);have fzg:=HNC.o.get.2.2.1;obtain⟨q1,q2⟩:=HNC.put (by omega) (L ⟨ET.toArray⟩) (by rw[hNn]);have mK:J (Nds _ _ _ _ _ _):=q1;have qE:J (Two w _ _ _ _ _):=qo.far rI q2;obtain⟨⟨x0,_,_,_⟩,_,_⟩:=qE.low;clear q1 q2;go_cut [] (λwx=>J (Two w wx (R (Z ⟨g,0,Y⟩) N1 N1) (L KB) (O aD (oa:Int)) (O aE (oo:Int)))/\J (Nds wx g N1 n n NT))
 case first=>
  go_region_held3 (λV=>V.cell? ⟨w.heap.size+1,0,Y⟩=Z (R (Z ⟨g,0,Y⟩) N1 N1)) (go_keep) (fail)
  all_goals go_wp2;go_meet;exact⟨qE.tch (Td _ _ 1),mK.tch (Td D _ 1) (λe=>e)⟩
 case rest=>
 obtain⟨nI,HND⟩:=hcut;obtain⟨wD,i8⟩:∃wD,wD=wc:=⟨wc,rfl⟩
 subst i8;clear y0 y1 y2 y3 fz x0 jk fzg mK qE qo HNC;go_wp2;go_loopw [12,13,14,15,16] (λv12 v13 _ _ _ wr=>∃(j:Nat)(z:Int)(ab:Nat),v12=O I (ab:Int)/\v13=O I z/\j<=n/\z=(j:Int)-1/\J (ab=Yw wj S j/\ab<=8*(wj+1))/\J (RunP wj K S j)/\J (Two w wr (R (Z ⟨g,0,Y⟩) N1 N1) (L KB) (O aD (oa:Int)) (O aE (oo:Int)))/\J (Nds wr g N1 n j NT)) (λ_ v13 _ _ _ _=>(intOf v13+1).toNat)
 case atStart=>exact⟨n,(n:Int)-1,8*(wj+1),rfl,rfl,Ql _,rfl,⟨hRN.symm,Ql _⟩,λi h1 h2=>absurd h2 (by rw[HN.o];omega),nI,HND⟩
 case round=>
  obtain⟨j,z,ab,rfl,rfl,hj,hz,HAB,HRU,pH,vp⟩:=hrel
  rcases j with _|i
  ·have xV:¬0<=z:=(by omega);obtain⟨aX,hX⟩:∃aX,aX=_:=⟨_,rfl⟩
   obtain⟨⟨x0,x1,x2,x3⟩,⟨y0,y1,y2,y3⟩,fz,Hx,kF,qs⟩:=pH.ends aX hX.symm;go_wp2;rw[<-hX];have mM:¬g=w.heap.size:=(by have:=rI.o;omega);refine QK (v:=aI #[aH #[R (Z ⟨g,0,Y⟩) N1 N1,L KB,O aD (oa:Int),O aE (oo:Int)],aL true]) (Je results258 _ _ w.heap.size _ _ (0,0) _ rfl Hx underlying302 rfl (by kernel_rfl)) rfl ?_;rw[pU.o HRU.o];obtain⟨q1,q2,q3,q4⟩:=uD.o;have hN:=(vp.tch qs mM).get;refine⟨kF,g,N1,by rw[q2,q3],by rw[q1];exact cP,hN.2.2.2,λj t ht=>?_⟩;obtain⟨k1,rfl⟩:=q4 j t ht;exact hN.1 j (ld _) k1
  ·obtain rfl:z=(i:Int):=(by omega);have hi:i<n:=(by omega);have h0i:(0:Int)<=(i:Int):=(by omega);clear hz;obtain⟨b,hb⟩:∃b,B i=b:=⟨_,rfl⟩
   obtain⟨Q,hQ⟩:∃Q,aQ i=Q:=⟨_,rfl⟩
   obtain⟨IS,mQ⟩:∃IS,i*sz=IS:=⟨_,rfl⟩
   obtain⟨aU,hM⟩:∃aU,2+IS=aU:=⟨_,rfl⟩
   obtain⟨M4,af⟩:∃M4,4+IS=M4:=⟨_,rfl⟩
   obtain⟨I1,sL⟩:∃I1,i+1=I1:=⟨_,rfl⟩
   obtain⟨IS1,vW⟩:∃x,I1*sz=x:=⟨_,rfl⟩
   obtain⟨M2,ag⟩:∃x,2+IS1=x:=⟨_,rfl⟩
   have c1:=HCM i hi;rw[mQ,sL,vW,ag,af]at c1;obtain⟨P,hP,tM⟩:=zo i hi;rw[mQ,hM]at hP;rw[hb]at tM;have nL:J _:=tM;have hox:=HOX i hi;rw[mQ,sL,vW,ag,af,hQ]at hox;have cQ:=cO i hi;have im:=HOs i hi;have rJ:=HNS i hi;rw[hb]at cQ;rw[hQ]at im;rw[hb,hQ,sL]at rJ;have wm1:I.wrap ((i:Int)*(sz:Int))=(IS:Int):=(by rw[show (i:Int)*(sz:Int)=((i*sz:Nat):Int) by simp,mQ];exact w63 _ (by omega) (by omega));have wm2:I.wrap (2+(IS:Int))=(aU:Int):=(by rw[w63 _ (by omega) (by omega)];omega);have wm3:I.wrap (4+(IS:Int))=(M4:Int):=(by rw[w63 _ (by omega) (by omega)];omega);have wm4:I.wrap ((i:Int)+1)=(I1:Int):=(by rw[w63 _ (by omega) (by omega)];omega);have wm5:I.wrap ((I1:Int)*(sz:Int))=(IS1:Int):=(by rw[show (I1:Int)*(sz:Int)=((I1*sz:Nat):Int) by simp,vW];exact w63 _ (by omega) (by omega));have wm6:I.wrap (2+(IS1:Int))=(M2:Int):=(by rw[w63 _ (by omega) (by omega)];omega);have wmb:I.wrap (b:Int)=(b:Int):=w63 _ (by omega) (by omega);have wmz:I.wrap ((i:Int)-1)=(i:Int)-1:=(by simp[lh,li,l8];omega);have m1:aU<=aY.size:=(by omega);have m1i:(aU:Int)<=(aY.size:Int):=(by omega);have m2:M2<=aY.size:=(by omega);have m2i:(M2:Int)<=(aY.size:Int):=(by omega);have m4:M4<=M2:=(by omega);have m4i:(M4:Int)<=(M2:Int):=(by omega);have n1:(I1:Int)<(N1:Int):=(by omega);have n0:(i:Int)<(N1:Int):=(by omega);have hIn:I1<=n:=(by omega);have hiN:i<N1:=(by omega);rw[sL]at vp;have io:J (ab=Yw wj S (i+1)):=HAB.1;have vH:=HAB.o.2
   by_cases jA:ab<=b
   ·have kp:(ab:Int)<=(b:Int):=(by omega);have kt:RW=Y:=fA i hi (λh=>by rw[hb,<-io.o]at h;omega);clear c1 tM hb hQ mQ hM af sL vW ag im rJ cQ vH;go_wp2_with (go_at_call 112;refine(nL _).mono ?_;rintro _ w7⟨rfl,gJ⟩;obtain⟨aX,hX⟩:∃aX,aX=_:=⟨_,rfl⟩;obtain⟨⟨x0,x1,x2,x3⟩,⟨y0,y1,y2,y3⟩,fz,Hx,kF,qs⟩:=(pH.tch gJ).ends aX hX.symm;clear gJ);rw[<-hX];refine QK (v:=aI #[aH #[R (Z ⟨g,0,Y⟩) N1 N1,L KB,O aD (oa:Int),O aE (oo:Int)],aL false]) (Je results258 _ _ w.heap.size _ _ (0,0) _ rfl Hx underlying302 rfl (by kernel_rfl)) rfl ?_;rw[kt];exact⟨kF,_,_,_,_,_,_,rfl⟩
   ·have kp:¬(ab:Int)<=(b:Int):=(by omega);have tu:b<8*(wj+1):=(by omega);obtain⟨x,hx⟩:∃x,bt KP b=x:=⟨_,rfl⟩
    obtain⟨y,hy⟩:∃y,bt K b=y:=⟨_,rfl⟩
    have yr:=xp b;have hba:=uH b;rw[hx]at yr rJ;rw[hy]at hba;have cR:J (∀V,_):=λV=>yr V tu;have rK:J (∀V,_):=λV=>hba V tu;clear yr hba
    by_cases hxy:x=y
    ·subst hxy;have HRN:J (RunP wj K S i):=fC i hi HRU (by rw[hb,<-io.o];omega) (by rw[hb,hx,hy]);have HBN:J (b=Yw wj S i/\b<=8*(wj+1)):=⟨by rw[hRL i hi,hb],by omega⟩
     obtain⟨aV,dm⟩:∃aV,H3 wj (NT I1)=aV:=⟨_,rfl⟩
     have hDl:aV.data.toList.length=wj:=(by rw[<-dm,QA];exact Jk wj hw _);have mS:=λV=>jR I1 V hIn;rw[dm]at mS rJ;have ip:J _:=mS;have ah:=λV=>HFT b aV Q V cQ (by omega) (by omega);have hf2:=λV=>HFT b Q aV V cQ (by omega) (by omega);have ai:J (∀V v,Nds V g N1 n I1 NT->v=L ⟨(NT i).toArray⟩->Nds (V.setCell ⟨g,i,Y⟩ v) g N1 n i NT/\M (λj=>j=g) V (V.setCell ⟨g,i,Y⟩ v)):=λV v h1 h2=>Nds.put (by rw[sL];exact h1) hiN v h2
     by_cases ru:x=0
     ·rw[if_pos ru]at rJ;rw[<-rJ]at ah;have HF:J _:=ah;have db:(x:Int)=0:=(by omega);clear c1 tM hb hQ mQ hM af sL vW ag im rJ cQ vH hx hy dm hDl mS ah hf2 tu;go_upto_region 24 with(first
       | (go_at_call 112;refine(nL _).mono ?_;rintro _ w7⟨rfl,gJ⟩;have cS:J (Two w w7 _ _ _ _/\Nds w7 g N1 n I1 NT):=⟨pH.tch gJ,vp.tch gJ (λe=>e)⟩;have y1:=cS.out.1.low.1.2.1;clear gJ)
       | (go_at_call_of 253 (lF KB);refine(cR _).mono ?_;rintro _ w8⟨rfl,jt⟩;have Hu8:J (Two w w8 _ _ _ _/\Nds w8 g N1 n I1 NT):=⟨cS.1.tch jt,cS.2.tch jt (λe=>e)⟩;clear jt y1)
       | (go_at_call_of 253 (lF kB);refine(rK _).mono ?_;rintro _ w9⟨rfl,jX⟩;have nM:J (Two w w9 _ _ _ _/\Nds w9 g N1 n I1 NT):=⟨Hu8.1.tch jX,Hu8.2.tch jX (λe=>e)⟩;clear jX))
      have y0:=nM.out.1.low.1.1;have yt:=nM.out.2.get.1 I1 (Ql _) hIn;go_upto_region 27 with(first
       | (go_at_call 103;refine(ip _).mono ?_;rintro _ qN⟨rfl,qG⟩;have rL:J (Two w qN _ _ _ _/\Nds qN g N1 n I1 NT):=⟨nM.1.tch qG,nM.2.tch qG (λe=>e)⟩;clear qG y0 yt)
       | (go_at_call_of 253 (lF kB);refine(rK _).mono ?_;rintro _ xR⟨rfl,yC⟩;have vX:J (Two w xR _ _ _ _/\Nds xR g N1 n I1 NT):=⟨rL.1.tch yC,rL.2.tch yC (λe=>e)⟩;have y3:=vX.out.1.low.1.1;clear yC))
      go_region_held3 (λV=>V.cell? ⟨w.heap.size+1,0,Y⟩=Z (R (Z ⟨g,0,Y⟩) N1 N1)) (go_keep) ((go_at_call 168;refine(HF _).mono ?_;rintro _ w12⟨rfl,vY⟩;have j5:J (Two w w12 _ _ _ _/\Nds w12 g N1 n I1 NT):=⟨vX.1.tch ((Td D xR 1).go vY),vX.2.tch ((Td D xR 1).go vY) (λe=>e)⟩;have y4:=j5.out.1.low.1.1;obtain⟨old,jk⟩:=j5.2.get.2.1 i hiN;have fzg:=j5.out.2.get.2.2.1;have y5:=(j5.1.far rI (ai _ _ j5.2 rfl).2).low.1.1;clear vY))
      all_goals
       go_wp2;go_roundw
       case rel=>exact⟨i,(i:Int)-1,b,rfl,rfl,by omega,rfl,HBN,HRN,j5.1.far rI (ai _ _ j5.2 rfl).2,(ai _ _ j5.2 rfl).1⟩
       case measure=>simp[intOf]
     ·rw[if_neg ru]at rJ;rw[<-rJ]at hf2;have HF:J _:=hf2;have db:¬(x:Int)=0:=(by omega);clear c1 tM hb hQ mQ hM af sL vW ag im rJ cQ vH hx hy dm hDl mS ah hf2 tu;go_upto_region 24 with(first
       | (go_at_call 112;refine(nL _).mono ?_;rintro _ w7⟨rfl,gJ⟩;have cS:J (Two w w7 _ _ _ _/\Nds w7 g N1 n I1 NT):=⟨pH.tch gJ,vp.tch gJ (λe=>e)⟩;have y1:=cS.out.1.low.1.2.1;clear gJ)
       | (go_at_call_of 253 (lF KB);refine(cR _).mono ?_;rintro _ w8⟨rfl,jt⟩;have Hu8:J (Two w w8 _ _ _ _/\Nds w8 g N1 n I1 NT):=⟨cS.1.tch jt,cS.2.tch jt (λe=>e)⟩;clear jt y1)
       | (go_at_call_of 253 (lF kB);refine(rK _).mono ?_;rintro _ w9⟨rfl,jX⟩;have nM:J (Two w w9 _ _ _ _/\Nds w9 g N1 n I1 NT):=⟨Hu8.1.tch jX,Hu8.2.tch jX (λe=>e)⟩;clear jX))
      have y0:=nM.out.1.low.1.1;have yt:=nM.out.2.get.1 I1 (Ql _) hIn;go_upto_region 28 with(first
       | (go_at_call 103;refine(ip _).mono ?_;rintro _ qN⟨rfl,qG⟩;have rL:J (Two w qN _ _ _ _/\Nds qN g N1 n I1 NT):=⟨nM.1.tch qG,nM.2.tch qG (λe=>e)⟩;clear qG y0 yt)
       | (go_at_call_of 253 (lF kB);refine(rK _).mono ?_;rintro _ xR⟨rfl,yC⟩;have vX:J (Two w xR _ _ _ _/\Nds xR g N1 n I1 NT):=⟨rL.1.tch yC,rL.2.tch yC (λe=>e)⟩;have y3:=vX.out.1.low.1.1;clear yC))
      go_region_held3 (λV=>V.cell? ⟨w.heap.size+1,0,Y⟩=Z (R (Z ⟨g,0,Y⟩) N1 N1)) (go_keep) ((go_at_call 168;refine(HF _).mono ?_;rintro _ w12⟨rfl,vY⟩;have j5:J (Two w w12 _ _ _ _/\Nds w12 g N1 n I1 NT):=⟨vX.1.tch ((Td D xR 1).go vY),vX.2.tch ((Td D xR 1).go vY) (λe=>e)⟩;have y4:=j5.out.1.low.1.1;obtain⟨old,jk⟩:=j5.2.get.2.1 i hiN;have fzg:=j5.out.2.get.2.2.1;have y5:=(j5.1.far rI (ai _ _ j5.2 rfl).2).low.1.1;clear vY))
      all_goals
       go_wp2;go_roundw
       case rel=>exact⟨i,(i:Int)-1,b,rfl,rfl,by omega,rfl,HBN,HRN,j5.1.far rI (ai _ _ j5.2 rfl).2,(ai _ _ j5.2 rfl).1⟩
       case measure=>simp[intOf]
    ·have hxi:¬(x:Int)=(y:Int):=(by omega);have kt:RW=Y:=fA i hi (λh=>by rw[hb,hx,hy]at h;exact hxy h.2);clear c1 tM hb hQ mQ hM af sL vW ag im rJ cQ vH hx hy tu;go_wp2_with (first
      | (go_at_call 112;refine(nL _).mono ?_;rintro _ w7⟨rfl,gJ⟩;have gx:J (Two w w7 _ _ _ _):=pH.tch gJ;have y1:=gx.o.low.1.2.1;clear gJ)
      | (go_at_call_of 253 (lF KB);refine(cR _).mono ?_;rintro _ w8⟨rfl,jt⟩;have gW:J (Two w w8 _ _ _ _):=gx.tch jt;clear jt y1)
      | (go_at_call_of 253 (lF kB);refine(rK _).mono ?_;rintro _ w9⟨rfl,jX⟩;obtain⟨aX,hX⟩:∃aX,aX=_:=⟨_,rfl⟩;obtain⟨⟨x0,x1,x2,x3⟩,⟨y0,y1,y2,y3⟩,fz,Hx,kF,qs⟩:=(gW.tch jX).ends aX hX.symm;clear jX))
     rw[<-hX];refine QK (v:=aI #[aH #[R (Z ⟨g,0,Y⟩) N1 N1,L KB,O aD (oa:Int),O aE (oo:Int)],aL false]) (Je results258 _ _ w.heap.size _ _ (0,0) _ rfl Hx underlying302 rfl (by kernel_rfl)) rfl ?_;rw[kt];exact⟨kF,_,_,_,_,_,_,rfl⟩

theorem Jk8(wj:Nat)(k:BA)(w:aA):
  aB N 258 #[O I (wj:Int),L k,L ⟨#[0,0]⟩] w (Jat wj (Z ([],Y)) w):=by
 obtain⟨W2,(jD:J _)⟩:∃W2,W2=(w.alloc (T zP 302)).alloc (T zP 302):=⟨_,rfl⟩
 have ge:J (Two w W2 (R Y 0 0) (L ⟨#[]⟩) (O aD 0) (O aE 0)):=⟨by rw[jD];exact heap_alloc2_old _ _ _,by rw[jD];exact heap_alloc2_new _ _ _,by rw[jD];exact M.allocs _ _ _ _⟩
 have vV:((⟨#[0,0]⟩:BA).toList == [0,0])=true:=by rw[ByteArray.toList_eq];rfl
 go_enter func258,ntmps258;go_upto_region 2 with fail;rw[<-jD.o];obtain⟨g,hg⟩:∃g,W2.heap.size=g:=⟨_,rfl⟩
 have rI:J (w.heap.size+2<=g):=by rw[<-hg];exact ge.low.2.2
 obtain⟨W3,xZ⟩:∃W3,W3=W2.alloc (T #[L ⟨#[69]⟩] 9):=⟨_,rfl⟩
 have Hb:J (Two w W3 _ _ _ _):=ge.tch (by rw[xZ];exact Ta _ _ _);have zj:J (W3.heap[g]? =Z (T #[L ⟨#[69]⟩] 9)):=by show _=_;rw[xZ,<-hg];exact Qf _ _
 have jv:J _:=xZ;obtain⟨⟨y0,y1,y2,y3⟩,fz,_⟩:=Hb.low;rw[xZ]at y0 y1 y2 y3 fz;go_upto_region 4 with fail;rw[<-jv.o];have Hm:J _:=Hb.p0 (R (Z ⟨g,0,Y⟩) 1 1);have sH:J ((W3.setCell ⟨w.heap.size+1,0,Y⟩ (R (Z ⟨g,0,Y⟩) 1 1)).heap[g]? =Z (T #[L ⟨#[69]⟩] 9)):=by show _=_;rw[Qj W3 _ 0 _ _ (0,0) _ Hb.o.r1];exact((Ts _ _ _).block _ (Jb zj) (by have:=rI.o;omega)).trans zj.o
 generalize W3.setCell ⟨w.heap.size+1,0,Y⟩ (R (Z ⟨g,0,Y⟩) 1 1)=W4 at *;obtain⟨aX,hX⟩:∃aX,aX=_:=⟨_,rfl⟩
 obtain⟨⟨x0,x1,x2,x3⟩,⟨y0,y1,y2,y3⟩,fz,Hx,kF,qs⟩:=Hm.ends aX hX.symm;go_wp2;rw[<-hX];have mM:¬g=w.heap.size:=by have:=rI.o;omega
 have nw:=(Jb sH)
 have hgX:=(qs.block _ nw mM).trans sH.o;refine QK (v:=aI #[aH #[R (Z ⟨g,0,Y⟩) 1 1,L ⟨#[]⟩,O aD 0,O aE 0],aL true]) (Je results258 _ _ w.heap.size _ _ (0,0) _ rfl Hx underlying302 rfl (by kernel_rfl)) rfl ⟨kF,g,1,rfl,rfl,(Jb hgX),λj t ht=>?_⟩
 rcases j with _|j
 ·cases ht
  exact Ja hgX
 ·cases ht
theorem Jqc(hD:DgC)(wj:Nat)(Hn:1<=wj)(hw:wj<=32)(K:List UInt8)(hK:K.length=wj+1)(aY:BA)(hS:aY.size<=2000000)(w:aA):
  aB N 258 #[O I (wj:Int),L ⟨K.toArray⟩,L aY] w (Jat wj (jP wj K aY.data.toList) w):=by
 by_cases h0:aY.data.toList=[0,0]
 ·have e:aY=⟨#[0,0]⟩:=YN h0;unfold jP;rw[if_pos h0,e];exact Jk8 wj _ w
 ·by_cases h1:Jbo wj aY.data.toList
  ·exact JhL hD wj Hn hw K hK aY _ rfl hS h0 h1 w
  ·refine(Jk9 wj hw ⟨K.toArray⟩ aY _ rfl hS h0 (aN h1) w).mono ?_;unfold jP;rw[if_neg h0,if_neg (λh=>h1 h.1)];exact λe w' h=>h

theorem Jbb(hk:key.length=wj+1)(hw:wj<=32)(h:yQ wj key H8 s=Z wy):wy.Holds (H3 wj) key H8/\WyOk wj wy:=by
 unfold yQ at h
 cases hR:(PS.rd [] s).way wj [] false ⟨#[]⟩ (0,0) with
 | none=>rw[hR]at h;cases h
 | some x=>
  obtain⟨wy',p⟩:=x;obtain⟨Hg,q,r,rfl⟩:=Jim hR;rw[hR]at h
  cases r with
  | cons a r=>cases h
  | nil=>
   dsimp only at h
   split at h
   ·rename_i hc
    cases h
    refine⟨⟨hc.1,λx hx=>by have:=(Hg.steps x hx).1;omega,λx hx l=>by rw[(Hg.steps x hx).2,Jk wj hw],Hg.bare,λHl=>?_,hc.2⟩,Hg⟩
    cases h2:wy.2 with
    | none=>exact absurd h2 Hl
    | some x=>simp only[Xn,h2];rw[hk];exact(Hg.key x h2).1
   ·cases h
theorem JfA:∀(A B:List (List UInt8))(x y:List UInt8),Ya A B=Z (x,y)->∃q post,(A.map (λt=>(⟨t.toArray⟩:BA))).zip (B.map (λt=>(⟨t.toArray⟩:BA)))=q++((⟨x.toArray⟩:BA),(⟨y.toArray⟩:BA))::post/\∀z∈q,z.1=z.2
 | [],_,_,_,h=>by simp[Ya]at h
 | _::_,[],_,_,h=>by simp[Ya]at h
 | a::A,b::B,x,y,h=>by
  unfold Ya at h
  split at h
  ·rename_i he;obtain⟨q,post,e1,e2⟩:=JfA A B x y h;refine⟨((⟨a.toArray⟩:BA),(⟨b.toArray⟩:BA))::q,post,by simp only[List.map_cons,List.zip_cons_cons,e1,List.cons_append],λz hz=>?_⟩
   rcases List.mem_cons.1 hz with rfl|hz
   ·rw[he]
   ·exact e2 z hz
  ·cases h
   exact⟨[],_,rfl,λz hz=>by cases hz⟩
theorem JcM:∀(A B:List (List UInt8))(x y:List UInt8),Ya A B=Z (x,y)->x∈A/\y∈B
 | [],_,_,_,h=>by simp[Ya]at h
 | _::_,[],_,_,h=>by simp[Ya]at h
 | a::A,b::B,x,y,h=>by
  unfold Ya at h
  split at h
  ·obtain⟨h1,h2⟩:=JcM A B x y h;exact⟨by simp[h1],by simp[h2]⟩
  ·cases h
   exact⟨by simp,by simp⟩
theorem Jd0(hw:wj<=32)(Hg:WyOk wj wy){t:List UInt8}(h:t∈wy.nodes (H3 wj)):t.length<=1000:=by
 obtain⟨i,hi,rfl⟩:=List.getElem_of_mem h;have hl:(wy.nodes (H3 wj)).length=wy.1.length+1:=JZ _ _ _ _;have h1:(wy.nodes (H3 wj))[i]? =Z (Zv (H3 wj) (Xn wy) (Xb wy.2) wy.1 i):=ZH (H3 wj) (Xn wy) (Xb wy.2) wy.1 i (by omega);rw[Qd hi]at h1;rw[Option.some.inj h1];exact JcJ wj hw _ _ (JaS hw Hg) _ Hg.steps i (by omega)
theorem Joa(hw:wj<=32)(Hg:WyOk wj wy)(hb:∀s∈wy.1,bt key s.1=bt (Xn wy) s.1)(hr:H3 wj ((wy.nodes (H3 wj)).headD [])=H8):yQ wj key H8 (kT wy)=Z wy:=by
 unfold yQ;rw[Jqq (by omega) Hg];exact if_pos ⟨hb,hr⟩
def XP(wj:Nat)(wy:Wy)(g:Nat)(W:aA):Prop:=g<W.heap.size/\∀(j:Nat) t,((wy.nodes (H3 wj)).map (λt=>(⟨t.toArray⟩:BA)))[j]? =Z t->W.cell? ⟨g,j,Y⟩=Z (L t)
theorem XP.tch(h:XP wj wy g V)(k:M D V V'):XP wj wy g V':=
 ⟨Qk h.1 k.size,λj t ht=>(k.cell (p:=⟨g,j,Y⟩) h.1 (λh=>h)).trans (h.2 j t ht)⟩
def JdL(wj:Nat)(k:Key)(r1 r2:Option Wy)(sx sy:BA)(b:Bool):Prop:=match r1,r2 with
 | some w1,Z w2=>if w1.said k=w2.said k then b=false/\sx=⟨#[]⟩/\sy=⟨#[]⟩ else b=true/\sx.size<=1000/\sy.size<=1000/\sx ≠ sy/\H3 wj sx.data.toList=H3 wj sy.data.toList/\Ya (w1.nodes (H3 wj)) (w2.nodes (H3 wj))=Z (sx.data.toList,sy.data.toList)
 | _,_=>b=false/\sx=⟨#[]⟩/\sy=⟨#[]⟩
theorem Jg8(E:Nat->Addr)(wj:Nat)(Hn:1<=wj)(hw:wj<=32)(h:HdL)(hh:HdOk wj h)(c:BA×Int)(hc:Jj wj c)(s1 s2:BA)(xt:s1.size<=2000000)(kZ:s2.size<=2000000)(w:aA)(hE:Env E w)(hA:Ast w)(hL:Alk w):
  aB Tryz.prog 51 #[O I (wj:Int),L ⟨(Ht h).toArray⟩,aH #[L c.1,O I c.2],L s1,L s2] w λe w'=>M D w w'/\∃sx sy b,JdL wj (Jc c) (yQ wj (Jc c) h.2.2.2 s1.data.toList) (yQ wj (Jc c) h.2.2.2 s2.data.toList) sx sy b/\e=aC (aI #[L sx,L sy,aL b]):=by
 have hk:=Xu hc;have H1:=λW (hT:M D w W)=>JcB E wj Hn hw h.2.2.2 (Jc c) hk s1 xt W (hE.tch hT noE) (hA.tch hT (λh=>h));have H2:=λW (hT:M D w W)=>JcB E wj Hn hw h.2.2.2 (Jc c) hk s2 kZ W (hE.tch hT noE) (hA.tch hT (λh=>h));refine Jhc wj _ s1 s2 c _ (λW hT=>?_)
 cases kK:yQ wj (Jc c) h.2.2.2 s1.data.toList with
 | none=>
  rw[kK]at H1;refine(Jg9 E wj Hn hw h hh c hc s1 s2 W (hE.tch hT noE) (λV hV=>?_)).mono ?_
  ·refine(H1 V (hT.go hV)).mono ?_;rintro e w'⟨ht,t,u,he⟩;exact⟨ht,0,0,0,Y,0,0,t,u,he⟩
  ·rintro e w'⟨ht,t,u,he⟩;exact⟨ht,_,_,_,he,aN ⟨⟨t,u,rfl⟩,rfl,rfl,rfl⟩⟩
 | some w1=>
  rw[kK]at H1;have yV:∀(x:Int)(y z:Nat),ZT (w1.said (Jc c))=aH #[O I x,O aD (y:Int),O aE (z:Int)]->∀V,M D W V->aB Tryz.prog 144 #[qV wj h.2.2.2 ⟨(Jc c).toArray⟩,L s1] V λe w'=>M D V w'/\∃g cap,JbQ e x y z (Z ⟨g,0,Y⟩) (w1.1.length+1) cap aK/\XP wj w1 g w':=λx y z rM V hV=>by
   refine(H1 V (hT.go hV)).mono ?_;rintro e w'⟨ht,x',y',z',g,cap,qx,he,hg,tX⟩;rw[rM]at qx;simp only[Value.agg.injEq,Array.mk.injEq,QH,lI.injEq,true_and,and_true]at qx;obtain⟨rfl,hy,hz⟩:=qx;refine⟨ht,g,cap,?_,hg,λj t ht=>?_⟩
   ·unfold JbQ;rw[he,hy,hz]
   ·rw[lZ]at ht;obtain⟨t',h1,rfl⟩:=lK.1 ht;exact tX j t' h1
  cases Hw:yQ wj (Jc c) h.2.2.2 s2.data.toList with
  | none=>
   rw[Hw]at H2;refine(Jha E wj Hn hw h hh c hc s1 s2 W (hE.tch hT noE) (λV hV=>?_) (λV hV=>?_)).mono ?_
   ·obtain⟨x,y,z,rM,_⟩:=Jbm (w1.said (Jc c));refine(yV x y z rM V hV).mono ?_;rintro e w'⟨ht,g,cap,he,_⟩;exact⟨ht,x,y,z,_,_,_,he⟩
   ·refine(H2 V (hT.go hV)).mono ?_;rintro e w'⟨ht,t,u,he⟩;exact⟨ht,0,0,0,Y,0,0,t,u,he⟩
   ·rintro e w'⟨ht,t,u,he⟩;exact⟨ht,_,_,_,he,aN ⟨⟨t,u,rfl⟩,rfl,rfl,rfl⟩⟩
  | some w2=>
   rw[Hw]at H2;obtain⟨x,y,z,rM,hx⟩:=Jbm (w1.said (Jc c));obtain⟨x',y',z',hxyz',dY⟩:=Jbm (w2.said (Jc c));have yO:(x=x'/\y=y'/\z=z')↔w1.said (Jc c)=w2.said (Jc c):=by
    rcases hx with⟨e,rfl,rfl,rfl⟩|⟨e,rfl⟩<;>rcases dY with⟨e',rfl,rfl,rfl⟩|⟨e',rfl⟩<;>rw[e,e']<;>simp
   obtain⟨hh1,ok1⟩:=Jbb hk hw kK;obtain⟨hh2,ok2⟩:=Jbb hk hw Hw;have uU:∀V,M D W V->aB Tryz.prog 144 #[qV wj h.2.2.2 ⟨(Jc c).toArray⟩,L s2] V λe w'=>M D V w'/\∃g cap,JbQ e x' y' z' (Z ⟨g,0,Y⟩) (w2.1.length+1) cap aK/\XP wj w2 g w':=λV hV=>by
    refine(H2 V (hT.go hV)).mono ?_;rintro e w'⟨ht,a,b,d,g,cap,qx,he,hg,tX⟩;rw[hxyz']at qx;simp only[Value.agg.injEq,Array.mk.injEq,QH,lI.injEq,true_and,and_true]at qx;obtain⟨rfl,hy,hz⟩:=qx;refine⟨ht,g,cap,?_,hg,λj t ht=>?_⟩
    ·unfold JbQ;rw[he,hy,hz]
    ·rw[lZ]at ht;obtain⟨t',h1,rfl⟩:=lK.1 ht;exact tX j t' h1
   refine(Jhb E wj Hn hw h hh c hc s1 s2 W (hE.tch hT noE) x y z (w1.1.length+1) x' y' z' (w2.1.length+1) (XP wj w1) (XP wj w2) (λe _=>∃sx sy,e=aC (aI #[L sx,L sy,aK])/\sx.size<=1000/\sy.size<=1000/\sx ≠ sy/\H3 wj sx.data.toList=H3 wj sy.data.toList/\Ya (w1.nodes (H3 wj)) (w2.nodes (H3 wj))=Z (sx.data.toList,sy.data.toList)) (λg V V' h k=>h.tch k) (yV x y z rM) uU (λV hV=>hL.tch (hT.go hV) (λh=>h)) (λHl V g g' cap cap' hV p1 p2=>?_) (λg V V' h k=>h.tch k)).mono ?_
   ·obtain⟨a,b,hp,vH,hd⟩:=Wy.sound (H3 wj) wj (Jk wj hw) (Jc c) h.2.2.2 w1 w2 hh1 hh2 (λx hx=>(ok1.key x hx).2.2) (λx hx=>(ok2.key x hx).2.2) (λh=>Hl (yO.2 h));obtain⟨q,post,hz,hq⟩:=JfA _ _ a b hp;have qB:((w1.nodes (H3 wj)).map (λt=>(⟨t.toArray⟩:BA))).length=w1.1.length+1:=(by rw[QM];exact JZ _ _ _ _);have qS:((w2.nodes (H3 wj)).map (λt=>(⟨t.toArray⟩:BA))).length=w2.1.length+1:=(by rw[QM];exact JZ _ _ _ _);have zW:(⟨a.toArray⟩:BA) ≠ ⟨b.toArray⟩:=λh=>vH (by simpa using h);have hpi:=JiW g cap g' cap' _ _ (by rw[qB];have:=ok1.len;omega) q post _ hz hq zW V p1.1 p2.1 p1.2 p2.2;rw[qB,qS]at hpi;refine(callsIn_wide.1 hpi).mono ?_;rintro e w'⟨rfl,hB⟩;exact⟨(M.of_below hB).mono (λ_ hj=>aN hj),_,_,⟨_,_,rfl,by rw[Ji];exact Jd0 hw ok1 (JcM _ _ _ _ hp).1,by rw[Ji];exact Jd0 hw ok2 (JcM _ _ _ _ hp).2,zW,by simpa using hd,by simpa using hp⟩,rfl⟩
   ·rintro e w'⟨ht,hs,hd⟩
    by_cases uJ:w1.said (Jc c)=w2.said (Jc c)
    ·obtain⟨t,u,he⟩:=hs (yO.2 uJ);refine⟨ht,_,_,_,he,aN ⟨⟨t,u,rfl⟩,?_⟩⟩;show JdL _ _ _ _ _ _ _;simp only[JdL,if_pos uJ];exact⟨trivial,trivial,trivial⟩
    ·obtain⟨sx,sy,he,h1,h2,h3,h4⟩:=hd (λh=>uJ (yO.1 h));refine⟨ht,_,_,_,he,aM ⟨rfl,?_⟩⟩;show JdL _ _ _ _ _ _ _;simp only[JdL,if_neg uJ];exact⟨trivial,h1,h2,h3,h4⟩
