import Derived.Test.YtighkdnooglfjaaGreatDoorQzChC
import Derived.Test.YtighkdnooglfjaaGreatDoorQzWyU
open Go renaming Calls->aB,Value->aG,World->aA
open Go.Ending renaming returned->aC
open Go.IntKind renaming i64->I,u64->aD,u8->aE,signed->lE,wrap->lF,bits->lG,u64->lH
open Go.Obj renaming cells->T
open Go.Proofs.Tryz renaming prog->N
open Go.RowKit renaming Hid->J
open Go.Value renaming agg->aH,bool->aL,iface->aJ,int->O,nilIface->aK,pointer->X,slice->R,string->L,tuple->aI,slice->lT
open Option renaming none->Y,some->Z,map_some->lN,some->lS
open Or renaming inl->aM,inr->aN
open Go.Act renaming put->lJ
open Array renaming toArray_toList->lM
open List renaming length_drop->lC,take_left'->lD,drop_left'->lI,getElem?_eq_none->lK,drop_drop->lQ,getElem?_drop->lR
open Nat renaming le_of_eq->lO
open UInt8 renaming toNat_lt->lP
set_option maxRecDepth 100000
set_option maxHeartbeats 4000000
namespace Go.Proofs.YtighkdnooglfjaaGreatDoor
open Tryz
open Go.RowKit

variable {b:BA}{m:Bool}{ch:Ch}{key:Key}{l:List (Sl×Sl)}{bs:List BV}{ts:List TxL}{lg q s:List UInt8}{B base c cb fl k lb pn r rb wj x:Nat}{E:Nat->Addr}{F G S:Nat->Prop}{o:Nat×Nat}{p:PS}{lv v vL:aG}{W w w':aA}{wy:Wy}
theorem JeW(a:Addr)(w:aA):(method 641 153 (X (Z a)) "trove/wire.place").run N w=.ok (379,X (Z a)) w:=by kernel_rfl
theorem JeX(a:Addr)(w:aA):(method 641 153 (X (Z a)) "trove/wire.since").run N w=.ok (380,X (Z a)) w:=by kernel_rfl
theorem JnH(b:Nat)(g:Option Nat)(wj:Int)(e:aG)(done:List UInt8)(w:aA)(hp:Jd w b g wj e (.wr done)):
  aB N 379 #[X (Z ⟨b,0,Y⟩)] w λe w'=>e=aC (O I (done.length:Int))/\w=w':=by
 obtain⟨v,hv,kU,hZ⟩:=hp;obtain⟨a,c,rfl⟩:=kU.shape;have c3:w.cell? ⟨b,3,Y⟩=Z (R a (bc done).length c):=Ja hZ;rw[YA]at c3;clear hv kU hZ;go_enter func379,ntmps379;go_wp2;go_ret;exact⟨rfl,rfl⟩
theorem JnI(b:Nat)(g:Option Nat)(wj:Int)(err:aG)(done:List UInt8)(w:aA)(hp:Jd w b g wj err (.wr done)):
  aB N 380 #[X (Z ⟨b,0,Y⟩),O I 0] w λe w'=>e=aC (L ⟨done.toArray⟩)/\M D w w':=by
 obtain⟨v,hv,kU,hZ⟩:=hp;have c3:w.cell? ⟨b,3,Y⟩=Z v:=Ja hZ;have uY:=Yd (P:=N) (w:=w) (l:=done) kU 52 9 5 underlying52 underlying5 underlying9;obtain⟨a,c,rfl⟩:=kU.shape;clear hv kU hZ;generalize (⟨done.toArray⟩:BA)=r at *;generalize (bc done).length=n at *;go_enter func380,ntmps380;go_wp2;go_ret;exact⟨rfl,Te _ _⟩
def recA(letter content:List UInt8):List UInt8:=letter++beL content.length 2 2++content
def recB(letter content:List UInt8):List UInt8:=recA letter content++(dgW 4 (recA letter content)).data.toList
theorem strL(s:BA):(⟨s.data.toList.toArray⟩:BA)=s:=by simp
theorem Jna(b:Nat)(g:Option Nat)(wj:Int)(done:List UInt8)(s:BA)(hs:s.size<65536)(hd:done.length<=1000000000000)(w:aA)(hp:Jd w b g wj aK (.wr done)):
  aB N 210 #[X (Z ⟨b,0,Y⟩),L s] w λe w'=>e=aC (L s)/\XI w w' b g wj (.wr (done++beL s.size 2 2++s.data.toList)):=by
 have uZ:(PS.wr done).num s.size 2=Z (s.size,.wr (done++beL s.size 2 2)):=by simp only[PS.num];rw[if_pos (by omega)]
 have yG:(PS.wr (done++beL s.size 2 2)).txt s.data.toList s.size=Z (s.data.toList,.wr (done++beL s.size 2 2++s.data.toList)):=by simp only[PS.txt];rw[if_pos (by simp only[QA];rfl)]
 have HN:J (aB N 138 #[X (Z ⟨b,0,Y⟩),O aD (s.size:Int),O I 2] w λe w'=>e=aC (O aD (s.size:Int))/\XI w w' b g wj (.wr (done++beL s.size 2 2))):=Xu b g wj s.size 2 s.size (.wr done) _ w hp (by omega) (by simp only[PS.len];omega) uZ;have HT:J (∀w1 g1,Jd w1 b g1 wj aK (.wr (done++beL s.size 2 2))->aB N 209 #[X (Z ⟨b,0,Y⟩),L s,O I (s.size:Int)] w1 λe w'=>e=aC (L s)/\XI w1 w' b g1 wj (.wr (done++beL s.size 2 2++s.data.toList))):=λw1 g1 h1=>
  (Jan b g1 wj s s.size s.data.toList _ _ w1 h1 (by simp only[PS.len,Qe,Jf];omega) yG).mono λe w' k=>⟨by rw[k.1,strL],k.2⟩
 have h1:lH.wrap (s.size:Int)=(s.size:Int):=JK _ (by omega) (by omega);have h2:I.wrap (s.size:Int)=(s.size:Int):=Jo _ (by omega) (by omega);clear hp uZ yG hs hd;go_enter func210,ntmps210;go_wp2_with fail;refine HN.o.mono ?_;rintro _ w1⟨rfl,g1,Hs,js,H6⟩;have jO:J (Jq w g g1):=js;have H3:J (M _ w w1):=H6;have Hq:J (Jd _ _ _ _ _ _):=Hs;clear Hs js H6 HN;go_wp2_with fail;refine(HT.o w1 g1 Hq.o).mono ?_;rintro _ w2⟨rfl,bS⟩;have sV:J (XI w w2 b g wj _):=XI.trans jO.o H3.o bS;clear bS HT Hq;go_wp2;go_ret;exact⟨rfl,sV.o⟩
theorem Jp4(E:Nat->Addr)(b:Nat)(g:Option Nat)(wj:Int)(done:List UInt8)(hd:done.length<=1000000)(w:aA)(hE:Env E w)(hp:Jd w b g wj aK (.wr done)):
  aB N 211 #[X (Z ⟨b,0,Y⟩),O I 0] w λe w'=>e=aC (aI #[])/\XI w w' b g wj (.wr (done++(dgW 4 done).data.toList)):=by
 have c0:w.cell? ⟨b,0,Y⟩=Z (aJ 153 (X (Z ⟨b,0,Y⟩))):=by obtain⟨v,_,_,hZ⟩:=hp;exact Ja hZ
 have hm:=JeX ⟨b,0,Y⟩;have Hi:(dgW 4 done).size=4:=Jj 4 (by omega) done;have yG:(PS.wr done).txt (dgW 4 done).data.toList 4=Z ((dgW 4 done).data.toList,.wr (done++(dgW 4 done).data.toList)):=by simp only[PS.txt];rw[if_pos (by simp only[QA];exact Hi)]
 obtain⟨dz,hdz⟩:∃dz:BA,dz=⟨done.toArray⟩:=⟨_,rfl⟩
 obtain⟨sm,zh⟩:∃sm:BA,sm=dgW 4 done:=⟨_,rfl⟩
 have HSI:J (aB N 380 #[X (Z ⟨b,0,Y⟩),O I 0] w λe w'=>e=aC (L dz)/\M D w w'):=by rw[hdz];exact JnI b g wj aK done w hp
 have xW:J (∀w1,M D w w1->aB N 130 #[O I 4,L dz] w1 λe w'=>e=aC (L sm)/\M D w1 w'):=λw1 hT=>by
  rw[hdz,zh];exact JaX E 4 ⟨done.toArray⟩ w1 (hE.tch hT noE) (by omega) (by omega) (by show done.toArray.size<=_;simp;omega)
 have HT:J (∀w1,M D w w1->aB N 209 #[X (Z ⟨b,0,Y⟩),L sm,O I 4] w1 λe w'=>e=aC (L sm)/\XI w w' b g wj (.wr (done++(dgW 4 done).data.toList))):=λw1 hT=>by
  rw[zh];exact(Jan b g wj (dgW 4 done) 4 _ _ _ w1 (hp.tch hT (λh=>h) (λ_ _ h=>h)) (by simp only[PS.len];omega) yG).mono λe w' k=>⟨by rw[k.1,strL],by
   obtain⟨g',k1,k2,k3⟩:=k.2;exact⟨g',k1,k2.imp (λh=>h) (λ⟨j,h1,h2⟩=>⟨j,h1,Qm hT.size h2⟩),(hT.mono noE).trans k3 (λj hj=>aM hj)⟩⟩
 clear hE hp yG Hi zh hdz hd;go_enter func211,ntmps211;go_wp2_with fail;refine HSI.o.mono ?_;rintro _ w1⟨rfl,H6⟩;have H3:J (M _ w w1):=H6;clear H6 HSI;go_wp2_with fail;refine(xW.o w1 H3.o).mono ?_;rintro _ w2⟨rfl,H7⟩;have H4:J (M D w w2):=H3.o.go H7;clear H7 xW H3;go_wp2_with fail;refine(HT.o w2 H4.o).mono ?_;rintro _ w3⟨rfl,bS⟩;have sV:J (XI _ _ _ _ _ _):=bS;clear bS HT;go_wp2;refine bodyPost_end (v:=aI #[]) (results_none results211 _ _ _) rfl ⟨rfl,sV.o⟩
theorem Jpi(w:aA)(g:Nat)(t:TypeId)(a b v0 v1:aG)(h:w.heap[g]? =Z (T #[a,b] t (0,0))):(w.setCell ⟨g,0,Y⟩ v0).setCell ⟨g,1,Y⟩ v1=w.setRow g #[v0,v1]:=set2 _ _ _ _ _ _ _ h
theorem Jk0(E:Nat->Addr)(b:Nat)(Hc:18<=b)(wj:Nat)(lt ct:BA)(hl:lt.size=1)(hc:ct.size<65536)(w:aA)(hE:Env E w)(hp:Jd w b Y (wj:Int) aK (.wr [])):
  aB N 141 #[X (Z ⟨b,0,Y⟩),aH #[L lt,L ct]] w λe w'=>e=aC (aH #[L lt,L ct])/\StTo E w w' b Y (wj:Int) (Z (.wr (recB lt.data.toList ct.data.toList))):=by
 have H5:=hp.lt;have ke:=Run.start Hc hE (show Jg E w b Y (wj:Int) (Z (.wr [])) from hp) (M.allocs D w (T #[L lt,L ct] 195) (T #[L ⟨#[]⟩,L ⟨#[]⟩] 195));have hL:lt.data.toList.length=1:=by simp only[QA];exact hl
 have yG:(PS.wr []).txt lt.data.toList 1=Z (lt.data.toList,.wr lt.data.toList):=by simp only[PS.txt];rw[if_pos hL];rfl
 have kR:J (∀w1 g1,Jd w1 b g1 (wj:Int) aK (.wr [])->aB N 209 #[X (Z ⟨b,0,Y⟩),L lt,O I 1] w1 λe w'=>e=aC (L lt)/\StTo E w1 w' b g1 (wj:Int) (Z (.wr lt.data.toList))):=λw1 g1 h1=>
  (Jan b g1 wj lt 1 _ _ _ w1 h1 (by simp[PS.len]) yG).mono λe w' k=>⟨by rw[k.1,strL],k.2⟩
 have xK:J (∀w1 g1,Jd w1 b g1 (wj:Int) aK (.wr lt.data.toList)->aB N 210 #[X (Z ⟨b,0,Y⟩),L ct] w1 λe w'=>e=aC (L ct)/\StTo E w1 w' b g1 (wj:Int) (Z (.wr (recA lt.data.toList ct.data.toList)))):=λw1 g1 h1=>
  (Jna b g1 wj lt.data.toList ct hc (by omega) w1 h1).mono λe w' k=>⟨k.1,by
   have e:ct.data.toList.length=ct.size:=(by simp only[QA];rfl);unfold recA;rw[e];exact k.2⟩
 have dx:(recA lt.data.toList ct.data.toList).length<=1000000:=by
  have e:ct.data.toList.length=ct.size:=by simp only[QA];rfl
  unfold recA;simp only[Qe,Jf,hL,e];omega
 have ik:J (∀w1 g1,Env E w1->Jd w1 b g1 (wj:Int) aK (.wr (recA lt.data.toList ct.data.toList))->aB N 211 #[X (Z ⟨b,0,Y⟩),O I 0] w1 λe w'=>e=aC (aI #[])/\StTo E w1 w' b g1 (wj:Int) (Z (.wr (recB lt.data.toList ct.data.toList)))):=λw1 g1 h1 h2=>Jp4 E b g1 wj _ dx w1 h1 h2;have hm:=JeW ⟨b,0,Y⟩;have c0:=(show ∀W,Jd W b Y (wj:Int) aK (.wr [])->W.cell? ⟨b,0,Y⟩=Z (aJ 153 (X (Z ⟨b,0,Y⟩))) from λW h=>by obtain⟨v,_,_,hZ⟩:=h;exact Ja hZ) _ ke.port;have vM:J (∀W,Jd W b Y (wj:Int) aK (.wr [])->aB N 379 #[X (Z ⟨b,0,Y⟩)] W λe w'=>e=aC (O I 0)/\W=w'):=λW h=>JnH b Y wj .nilIface [] W h;have RUN:J (Run _ _ _ _ _ _ _ _ _):=ke;clear hE hp ke yG dx hL;generalize recA lt.data.toList ct.data.toList=rA at *;generalize recB lt.data.toList ct.data.toList=rB at *;generalize lt.data.toList=lL at *;go_enter func141,ntmps141;go_wp2_with fail;refine(vM.o _ RUN.out.port).mono ?_;rintro _ _⟨rfl,rfl⟩;go_wp2_with fail;refine(kR.o _ _ RUN.out.port).mono ?_;rintro _ w1⟨rfl,h⟩;obtain⟨g1,R1⟩:=RUN.out.step h;have bx1:=(R1.box (k:=w.heap.size) (Ql _) (heap_alloc2_old _ _ _)).1;have c1:w1.cell? ⟨w.heap.size,1,Y⟩=Z (L ct):=Ja bx1;have Ht:J (Run _ _ _ _ _ _ _ _ _):=R1;clear R1 bx1 h kR vM c0;go_wp2_with fail;refine(xK.o _ _ Ht.out.port).mono ?_;rintro _ w2⟨rfl,h⟩;obtain⟨g2,R2⟩:=Ht.out.step h;have kH:J (Run _ _ _ _ _ _ _ _ _):=R2;clear R2 h xK c1;go_wp2_with fail;refine(ik.o _ _ kH.out.env kH.out.port).mono ?_;rintro _ w4⟨rfl,h⟩;obtain⟨g4,R4⟩:=kH.out.step h;have rR:=(R4.box (k:=w.heap.size+1) (by omega) (heap_alloc2_new _ _ _)).1;have e0:w4.cell? ⟨w.heap.size+1,0,Y⟩=Z (L ⟨#[]⟩):=Ja rR;have e1:w4.cell? ⟨w.heap.size+1,1,Y⟩=Z (L ⟨#[]⟩):=Ja rR;have fR:∀j,w4.frozen? ⟨w.heap.size+1,j,Y⟩=false:=λj=>Qg _ _ _ _ _ rR;have jN:J (Run _ _ _ _ _ _ _ _ _):=R4;have RR:J (_=_):=rR;clear R4 rR h ik;go_wp2;rw[Jpi _ _ _ _ _ _ _ RR.out];exact QK (v:=aH #[L lt,L ct]) (Qq results141 _ _ (w.heap.size+1) _ _ (0,0) _ rfl (Qi _ _ _ _ _ _ RR.out) underlying195 rfl (by kernel_rfl)) rfl ⟨rfl,jN.out.done (k:=w.heap.size+1) (by omega) (heap_alloc2_new _ _ _) (by decide)⟩

theorem Yw(x:BA):x.data.toList.length=x.size:=by simp only[QA];rfl
theorem Jeh(a b:List UInt8):(recB a b).length=a.length+b.length+6:=by
 unfold recB;rw[Qe,Yw,Jj 4 (by omega)];unfold recA;simp only[Qe,Jf];omega
structure Xy(base:Nat)(w:aA)(v:aG)(lg:List UInt8):Prop where
 bs:Bs base w v (bc lg)
 kind:RowT 5 w v
theorem Bs.tch{xs:List aG}(h:Bs base w v xs)(k:M S w w')(hs:∀j,v.ownBlock=Z j->¬S j):Bs base w' v xs:=by
 rcases h with h|⟨g,cap,hv,hb,H5,zi,hm,hc,vz⟩
 ·exact aM h
 ·have xm:w'.heap[g]? =w.heap[g]? :=k.block g H5 (hs g (by rw[hv];rfl));refine aN ⟨g,cap,hv,hb,Qk H5 k.size,zi,hm,λj u hu=>?_,λj hj=>?_⟩
  ·rw[World.cell?_of_block (a:=⟨g,j,Y⟩) xm];exact hc j u hu
  ·rw[World.cell?_of_block (a:=⟨g,j,Y⟩) xm,World.frozen?_of_block (a:=⟨g,j,Y⟩) xm];exact vz j hj
theorem Xy.tch(h:Xy base w v lg)(k:M S w w')(hs:∀j,v.ownBlock=Z j->¬S j):Xy base w' v lg:=
 ⟨h.bs.tch k hs,λj hj=>by
  obtain⟨cur,m,hr⟩:=h.kind j hj;exact⟨cur,m,(k.block j (Jb hr) (hs j hj)).trans hr⟩⟩
theorem Xy.next(h:Xy base w v lg)(k:M D w w'):Xy base w' v lg:=h.tch k (λ_ _ e=>e)
theorem Xy.ne_row(h:Xy base w v lg)(c:JR w cb wj fl r bs v):¬Z cb=v.ownBlock/\¬Z r=v.ownBlock:=by
 constructor
 ·intro e;obtain⟨cur,m,hr⟩:=h.kind cb e.symm;rw[c.row]at hr;simp at hr
 ·intro e;obtain⟨cur,m,hr⟩:=h.kind r e.symm;rw[c.map]at hr;simp at hr
theorem Jej(E:Nat->Addr)(hE:Env E w)(h:JR w cb wj fl r bs lv)(base:Nat)(Ha:base<=w.heap.size)(lg:List UInt8)(hl:Xy base w lv lg)(zj:lg.length<=140737488000000)(lt ct:BA)(h1:lt.size=1)(h2:ct.size<65536):
  aB N 89 #[X (Z ⟨cb,0,Y⟩),L lt,L ct] w λe w'=>e=aC aK/\∃lv',JR w' cb wj fl r bs lv'/\Xy base w' lv' (lg++recB lt.data.toList ct.data.toList)/\M (λk=>k=cb\/Z k=lv.ownBlock) w w'/\Jq w lv.ownBlock lv'.ownBlock:=by
 have Hi:=hE.size;have c0:w.cell? ⟨cb,0,Y⟩=Z (O I (wj:Int)):=Ja h.row;obtain⟨i0,hi,q9,gQ,jj⟩:=info_parts JbZ;obtain⟨rec,qt⟩:∃rec,rec=recB lt.data.toList ct.data.toList:=⟨_,rfl⟩
 have dx:rec.length<=70000:=by rw[qt,Jeh,Yw,Yw];omega
 have qi:J (∀W,M D w W->Jd W w.heap.size Y (wj:Int) aK (.wr [])->aB N 141 #[X (Z ⟨w.heap.size,0,Y⟩),aH #[L lt,L ct]] W λe w'=>e=aC (aH #[L lt,L ct])/\StTo E W w' w.heap.size Y (wj:Int) (Z (.wr rec))):=λW hT hp=>by
  rw[qt];exact Jk0 E w.heap.size Hi wj lt ct h1 h2 W (hE.tch hT noE) hp
 have kp:J _:=h;have HL:J _:=hl;have qS:J (lg.length<=140737488000000/\rec.length<=70000/\base<=w.heap.size):=⟨zj,dx,Ha⟩
 rw[<-qt];obtain⟨sr,hsr⟩:∃sr:BA,sr=⟨rec.toArray⟩:=⟨_,rfl⟩
 have HSR:J (byteCells sr=bc rec/\sr.size=rec.length):=by rw[hsr];exact⟨by simp[byteCells,bc],Jh _⟩
 have rU:J (∀W g,Jg E W w.heap.size g (wj:Int) (Z (.wr rec))->aB N 79 #[X (Z ⟨w.heap.size,0,Y⟩)] W λe w'=>M D W w'/\e=aC (aI #[L sr,aK])):=λW g hp=>by
  rw[hsr];exact Jap E w.heap.size g wj (Z (.wr rec)) (λp hp=>⟨_,(lS.inj hp).symm⟩) W hp
 clear hE h hl zj dx Ha h1 h2 qt hsr;go_enter func89,ntmps89;go_wp2_with fail;refine(JY _ _).mono ?_;rintro _ w1⟨rfl,Hs,H6⟩;have H3:J _:=H6;have Hq:J _:=Hs;clear H6 Hs c0;go_wp2_with fail;refine(qi.o w1 H3.o Hq.o).mono ?_;rintro _ w2⟨rfl,g2,kJ,kn,H7⟩;have Hw:J _:=kJ;have H4:J (M D w w2):=XD (b:=w.heap.size) (Ql _) H3.o H7;clear kJ H7 kn Hq H3 qi;go_wp2_with fail;refine(rU.o w2 g2 Hw.o).mono ?_;rintro _ w3⟨Hm,rfl⟩;have H8:J (M D w w3):=H4.o.go Hm;have kY:J (JR w3 cb wj fl r bs lv):=kp.o.next H8.o;have zF:J (Xy base w3 lv lg):=HL.o.next H8.o;have c3:w3.cell? ⟨cb,3,Y⟩=Z lv:=Ja kY.o.row;have hbs3:J (Bs base w3 lv (bc lg)):=zF.o.bs;have nz:J ((bc lg).length=lg.length):=YA lg;clear Hm Hw H4 rU;go_wp2_with (at_builtin;refine Jcs rfl _ _ 52 9 5 rfl i0 _ underlying52 hi q9 gQ jj rfl rfl hbs3.out _ sr.size (byteCells sr) rfl (Src.ofString _ underlying9 sr) (by rw[nz.out,HSR.o.2];have:=qS.o;omega) (by have:=qS.o;have:=H8.o.size;omega) ?_;intro v4 w4 mA pY bT dy;have pU:J _:=mA;have uS:J _:=pY;have HM4:J (Jq w3 lv.ownBlock v4.ownBlock):=bT;have nu:J (RowT _ w4 v4):=dy zF.o.kind;have ge:w4.heap[cb]? =Z (T #[O I (wj:Int),O I (fl:Int),.map (Z r),lv] 143):=(pY.block cb (Jb kY.o.row) (zF.o.ne_row kY.o).1).trans kY.o.row;have d3:w4.cell? ⟨cb,3,Y⟩=Z lv:=Ja ge;have df:w4.frozen? ⟨cb,3,Y⟩=false:=Qg _ _ _ _ _ ge;have qI:J _:=ge;obtain⟨y1,y2,y3,uA⟩:=mA.shape3;clear mA pY bT dy ge;subst uA);go_ret;have jE:=Qj w4 cb 3 _ _ (0,0) (R y1 y2 y3) qI.o;have hZ:(w4.setCell ⟨cb,3,Y⟩ (R y1 y2 y3)).heap[cb]? =Z (T #[O I (wj:Int),O I (fl:Int),.map (Z r),R y1 y2 y3] 143):=by rw[jE];exact Qi _ _ _ _ _ _ qI.o
 have Hd:=zF.o.ne_row kY.o;have hrlt:=(Jb kY.o.map)
 have pZ:w4.heap[r]? =Z (.map (JT 0 bs).toArray bs.length):=(uS.o.block r hrlt Hd.2).trans kY.o.map;have hrc:r ≠ cb:=λe=>by have:=kY.o.row;rw[<-e,kY.o.map]at this;cases this
 have tS:M (λk=>k=cb) w4 (w4.setCell ⟨cb,3,Y⟩ (R y1 y2 y3)):=by rw[jE];exact Ts _ _ _
 have tG:M (λk=>Z k=lv.ownBlock) w3 w4:=Tg uS.o;have yD:=(Jb kY.o.row)
 have jG:∀j,(lT y1 y2 y3).ownBlock=Z j->¬j=cb:=λj hj e=>by
  subst e
  rcases HM4.o with h|⟨k,h,hk⟩
  ·exact Hd.1 (by rw[<-h,hj])
  ·rw[hj]at h;cases h;omega
 refine⟨rfl,_,⟨hZ,(tS.block r (Jb pZ) hrc).trans pZ⟩,Xy.tch ⟨?_,nu.o⟩ tS jG,?_,?_⟩
 ·have e:=pU.o;rw[HSR.o.1,<-Jaa]at e;exact e
 ·exact((H8.o.mono noE).trans tG (λj hj=>aM (aN hj))).trans tS (λj hj=>aM (aM hj))
 ·rcases HM4.o with h|⟨k,h,hk⟩
  ·exact aM h
  ·exact aN ⟨k,h,Qm H8.o.size hk⟩

def subP(d:List UInt8->BA)(wj m:Nat)(bh:BA)(st:Option Tr)(text:List UInt8):Except Er (BA×Option Tr):=
 match (PS.rd [] text).hdr wj (0,⟨#[]⟩,⟨#[]⟩,⟨#[]⟩) with
 | some (h,.rd pre body)=>match (PS.rd pre body).body wj [] with
  | some (ts,.rd _ [])=>if h ≠ (m+1,d (72::bh.data.toList),d (66::body),h.2.2.2) then .error .tip else match JH d st ts with
   | .error e=>.error e
   | .ok st'=>if h.2.2.2 ≠ Xh d st' then .error .root else .ok (⟨(text.take (text.length-body.length)).toArray⟩,st')
  | _=>.error .form
 | _=>.error .form
theorem Ji9(d:List UInt8->BA)(wj m:Nat)(bh:BA)(st:Option Tr)(ch:Ch)(hl:ch.length=m+1)(hla:ch.last=(bh,st))(text:List UInt8):
  Jcl d wj ch text=match subP d wj m bh st text with | .error e=>.error e | .ok x=>.ok (ch++[x]):=by
 unfold Jcl subP Jbr;rw[hl,hla];dsimp only
 cases (PS.rd [] text).hdr wj (0,⟨#[]⟩,⟨#[]⟩,⟨#[]⟩) with
 | none=>rfl
 | some x=>
  obtain⟨h,p⟩:=x
  cases p with
  | wr d=>rfl
  | rd pre body=>
   dsimp only
   cases (PS.rd pre body).body wj [] with
   | none=>rfl
   | some y=>
    obtain⟨ts,p⟩:=y
    cases p with
    | wr d=>rfl
    | rd q r=>
     cases r with
     | cons a l=>rfl
     | nil=>
      dsimp only
      split
      ·rfl
      ·cases JH d st ts with
       | error e=>rfl
       | ok st'=>dsimp only;split<;>rfl
def NoTo(E:Nat->Addr)(er:Nat)(w:aA)(e:Ending)(w':aA):Prop:=M D w w'/\∃t u,e=aC (aJ t u)/\Jn E er w' (aJ t u)
theorem JgP(E:Nat->Addr)(hE:Env E w)(hw:wj<=32)(h:JR w cb wj fl r bs lv)(s:BA)(hs:s.size<=1100000)(hh:(PS.rd [] s.data.toList).hdr wj (0,⟨#[]⟩,⟨#[]⟩,⟨#[]⟩)=Y):
  aB N 46 #[X (Z ⟨cb,0,Y⟩),L s] w λe w'=>NoTo E 7 w e w':=by
 have Hi:=hE.size;have c0:w.cell? ⟨cb,0,Y⟩=Z (O I (wj:Int)):=Ja h.row;have ym:J (∀W,M D w W->Jd W w.heap.size Y (wj:Int) aK (.rd [] s.data.toList)->aB N 86 #[X (Z ⟨w.heap.size,0,Y⟩),aH #[O aD 0,L ⟨#[]⟩,L ⟨#[]⟩,L ⟨#[]⟩]] W λe w'=>∃(n:Nat)(x1 x2 x3:BA),e=aC (aH #[O aD (n:Int),L x1,L x2,L x3])/\RdTo E W w' w.heap.size (wj:Int) Y):=λW hT hp=>by
  have:=Jfj E w.heap.size Hi wj 0 ⟨#[]⟩ ⟨#[]⟩ ⟨#[]⟩ (Z (.rd [] s.data.toList)) W (hE.tch hT noE) ⟨hp,_,_,rfl⟩ (by simp only[JP,PS.len,Qv,QA];have:s.data.size<=1100000:=hs;omega);refine this.mono λe w' k=>?_;rw[Jew wj _ _ hh]at k;exact⟨_,_,_,_,k.1,k.2⟩
 clear hE h hh hs;go_enter func46,ntmps46;go_wp2_with fail;refine(XT _ _ _).mono ?_;rintro _ w1⟨rfl,Hs,H6⟩;have H3:J (M D w w1):=H6;have Hq:J (Jd w1 w.heap.size Y (wj:Int) aK (.rd [] s.data.toList)):=Hs;clear H6 Hs c0;go_wp2_with fail;refine(ym.o w1 H3.o Hq.o).mono ?_;rintro _ w2⟨n,x1,x2,x3,rfl,⟨q,rr,t,u,kJ,u9⟩,H7⟩;have hA:=Ta D w2 (T #[O aD (n:Int),L x1,L x2,L x3] 167);have H4:J (M D w _):=(H3.o.trans H7 (λj hj=>aN (lO hj.symm))).go hA;have Hw:J (Jd _ w.heap.size Y (wj:Int) (aJ t u) (.rd q rr)):=kJ.tch hA (λh=>h) (λ_ _ h=>h);have vN:J (Jn E 7 _ (aJ t u)):=u9.next hA;clear kJ u9 H7 ym Hq H3 hA;go_wp2_with fail;refine(Jel w.heap.size Y (wj:Int) _ q rr _ Hw.o).mono ?_;rintro _ w3⟨rfl,Hm⟩;have H8:J (M D w w3):=H4.o.go Hm;have jy:J (Jd w3 w.heap.size Y (wj:Int) (aJ t u) (.rd q rr)):=Hw.o.tch Hm (λh=>h) (λ_ _ h=>h);have im:J (Jn E 7 w3 (aJ t u)):=vN.o.next Hm;clear Hm H4 Hw vN;go_wp2_with fail;refine(JlN w.heap.size Y wj Y 0 0 _ t u w3 jy.o).mono ?_;rintro _ w4⟨rfl,xp,Ho⟩;have He:J (M D w w4):=H8.o.go Ho;have sW:J (Jd w4 w.heap.size Y (wj:Int) (aJ t u) (.rd q rr)):=xp;have io:J (Jn E 7 w4 (aJ t u)):=im.o.next Ho;clear Ho xp H8 jy im;go_wp2_with fail;refine(JfC w.heap.size Y (wj:Int) t u _ w4 sW.o).mono ?_;rintro _ w5⟨rfl,kI⟩;have Hu:J (M D w w5):=He.o.go kI;have ui:J (Jn E 7 w5 (aJ t u)):=io.o.next kI;clear kI He sW io;go_wp2_with fail;refine(Xk _ _ _ _).mono ?_;rintro _ _⟨rfl,rfl⟩;go_wp2;go_ret;exact⟨Hu.o.go (Ta _ _ _),_,_,rfl,.wrap _ _ _ (Qf _ _) (ui.o.next (Ta _ _ _))⟩
theorem Ji8(E:Nat->Addr)(hE:Env E w)(wj:Nat)(hw:wj<=32)(s:BA)(hs:s.size<=1100000)(y:HdL)(p:PS)(hh:(PS.rd [] s.data.toList).hdr wj (0,⟨#[]⟩,⟨#[]⟩,⟨#[]⟩)=Z (y,p))(hT:M D w W)(hp:Jd W w.heap.size Y (wj:Int) aK (.rd [] s.data.toList)):
  aB N 86 #[X (Z ⟨w.heap.size,0,Y⟩),aH #[O aD 0,L ⟨#[]⟩,L ⟨#[]⟩,L ⟨#[]⟩]] W λe w'=>e=aC (aH #[O aD (y.1:Int),L y.2.1,L y.2.2.1,L y.2.2.2])/\RdTo E W w' w.heap.size (wj:Int) (Z p):=by
 have:=Jfj E w.heap.size hE.size wj 0 ⟨#[]⟩ ⟨#[]⟩ ⟨#[]⟩ (Z (.rd [] s.data.toList)) W (hE.tch hT noE) ⟨hp,_,_,rfl⟩ (by simp only[JP,PS.len,Qv,QA];have:s.data.size<=1100000:=hs;omega);refine this.mono λe w' k=>?_;obtain⟨e1,e2⟩:=JbL wj _ _ _ _ hh;rw[e1]at k;rw[e2]at k;exact k
theorem JjY(E:Nat->Addr)(hE:Env E w)(wj:Nat)(hw:wj<=32)(pre body:List UInt8)(hl:pre.length+body.length<=1100000)(hT:M D w W)(hp:Jd W w.heap.size Y (wj:Int) aK (.rd pre body)):
  aB N 78 #[X (Z ⟨w.heap.size,0,Y⟩),R Y 0 0] W λe w'=>ToB E W w.heap.size Y wj ((PS.rd pre body).body wj []) e w':=
 JdE E w.heap.size hE.size Y wj hw (R Y 0 0) [] [] (.rd pre body) W (hE.tch hT noE) hp (aM ⟨rfl,rfl⟩) rfl (by simp) (λ_ _ _=>rfl) (λj x t h=>by simp at h) (by simp only[PS.len];omega)
theorem JgQ(E:Nat->Addr)(hE:Env E w)(hw:wj<=32)(h:JR w cb wj fl r bs lv)(s:BA)(hs:s.size<=1100000)(y:HdL)(pre body:List UInt8)(hh:(PS.rd [] s.data.toList).hdr wj (0,⟨#[]⟩,⟨#[]⟩,⟨#[]⟩)=Z (y,.rd pre body))(hl:pre.length+body.length<=1100000)(hb:∀ts q,(PS.rd pre body).body wj [] ≠ Z (ts,.rd q [])):
  aB N 46 #[X (Z ⟨cb,0,Y⟩),L s] w λe w'=>NoTo E 7 w e w':=by
 have Hi:=hE.size;have c0:w.cell? ⟨cb,0,Y⟩=Z (O I (wj:Int)):=Ja h.row;have ym:J (∀W,M D w W->Jd W w.heap.size Y (wj:Int) aK (.rd [] s.data.toList)->aB N 86 #[X (Z ⟨w.heap.size,0,Y⟩),aH #[O aD 0,L ⟨#[]⟩,L ⟨#[]⟩,L ⟨#[]⟩]] W λe w'=>e=aC (aH #[O aD (y.1:Int),L y.2.1,L y.2.2.1,L y.2.2.2])/\RdTo E W w' w.heap.size (wj:Int) (Z (.rd pre body))):=λW hT hp=>Ji8 E hE wj hw s hs y _ hh hT hp;have yi:J (∀W,M D w W->Jd W w.heap.size Y (wj:Int) aK (.rd pre body)->aB N 78 #[X (Z ⟨w.heap.size,0,Y⟩),R Y 0 0] W λe w'=>ToB E W w.heap.size Y wj ((PS.rd pre body).body wj []) e w'):=λW hT hp=>JjY E hE wj hw pre body hl hT hp;have uB:J (∀W g,M D w W->Jg E W w.heap.size g (wj:Int) (((PS.rd pre body).body wj []).map (·.2))->aB N 88 #[X (Z ⟨w.heap.size,0,Y⟩)] W λe w'=>M D W w'/\∃t u,e=aC (aJ t u)/\Jn E 7 w' (aJ t u)):=λW g hT hp=>by
  cases hx:(PS.rd pre body).body wj [] with
  | none=>
   rw[hx]at hp;exact Ja0 E w.heap.size wj Y (λp h=>by cases h) W (hE.tch hT noE) g hp
  | some z=>
   obtain⟨ts,p⟩:=z;obtain⟨b1,r1,_,_,e1,_⟩:=Jaj wj hw _ _ _ _ hx;subst e1;rw[hx]at hp
   cases r1 with
   | nil=>exact absurd hx (hb _ _)
   | cons a l=>exact Ja0 E w.heap.size wj (Z (.rd (pre++b1) (a::l))) (λp h=>⟨_,_,(lS.inj h).symm⟩) W (hE.tch hT noE) g hp
 clear hE h hh hs hb hl;go_enter func46,ntmps46;go_wp2_with fail;refine(XT _ _ _).mono ?_;rintro _ w1⟨rfl,Hs,H6⟩;have H3:J (M D w w1):=H6;have Hq:J (Jd w1 w.heap.size Y (wj:Int) aK (.rd [] s.data.toList)):=Hs;clear H6 Hs c0;go_wp2_with fail;refine(ym.o w1 H3.o Hq.o).mono ?_;rintro _ w2⟨rfl,⟨kJ,_⟩,H7⟩;have hA:=Ta D w2 (T #[O aD (y.1:Int),L y.2.1,L y.2.2.1,L y.2.2.2] 167);have H4:J (M D w _):=(H3.o.trans H7 (λj hj=>aN (lO hj.symm))).go hA;have Hw:J (Jd _ w.heap.size Y (wj:Int) aK (.rd pre body)):=kJ.tch hA (λh=>h) (λ_ _ h=>h);clear kJ H7 ym Hq H3 hA;go_wp2_with fail;refine(Jel w.heap.size Y (wj:Int) _ pre body _ Hw.o).mono ?_;rintro _ w3⟨rfl,Hm⟩;have H8:J (M D w w3):=H4.o.go Hm;have jy:J (Jd w3 w.heap.size Y (wj:Int) aK (.rd pre body)):=Hw.o.tch Hm (λh=>h) (λ_ _ h=>h);clear Hm H4 Hw;go_wp2_with fail;refine(yi.o w3 H8.o jy.o).mono ?_;rintro _ w4⟨⟨z1,z2,z3⟩,g4,rfl,xp,_,Ho,_⟩;have He:J (M D w w4):=XD (b:=w.heap.size) (Ql _) H8.o Ho;have sW:J (Jg E w4 w.heap.size g4 (wj:Int) (((PS.rd pre body).body wj []).map (·.2))):=xp;clear Ho xp H8 jy;go_wp2_with fail;refine(uB.o w4 g4 He.o sW.o).mono ?_;rintro _ w5⟨kI,t,u,rfl,bU⟩;have Hu:J (M D w w5):=He.o.go kI;have ui:J (Jn E 7 w5 (aJ t u)):=bU;clear kI He sW bU uB yi;go_wp2_with fail;refine(Xk _ _ _ _).mono ?_;rintro _ _⟨rfl,rfl⟩;go_wp2;go_ret;exact⟨Hu.o.go (Ta _ _ _),_,_,rfl,.wrap _ _ _ (Qf _ _) (ui.o.next (Ta _ _ _))⟩

theorem Jjh(l:List UInt8):(⟨l.toArray⟩:BA).data.toList=l:=rfl
theorem JeC(E:Nat->Addr)(wj:Nat)(hw:wj<=32)(h:HdL)(hh:HdOk wj h)(w:aA)(hE:Env E w):
  aB N 212 #[O I (wj:Int),L ⟨(Hn h).toArray⟩] w λe w'=>e=aC (aI #[L h.2.2.2,aK])/\M D w w':=by
 have Hl:(Hn h).length<=1000:=by obtain⟨h1,h2,h3,h4⟩:=hh;unfold Hn;simp only[Qe,Jf,QA];have e2:h.2.1.data.size=wj:=h2;have e3:h.2.2.1.data.size=wj:=h3;have e4:h.2.2.2.data.size=wj:=h4;omega
 have p5:(PS.rd [] (Hn h)).hdr wj (0,⟨#[]⟩,⟨#[]⟩,⟨#[]⟩)=Z (h,.rd (Hn h) []):=by have:=(JiZ wj h (0,⟨#[]⟩,⟨#[]⟩,⟨#[]⟩) hh).rd [] [];rw[QC]at this;exact this
 have ym:J (∀W,M D w W->Jd W w.heap.size Y (wj:Int) aK (.rd [] (Hn h))->aB N 86 #[X (Z ⟨w.heap.size,0,Y⟩),aH #[O aD 0,L ⟨#[]⟩,L ⟨#[]⟩,L ⟨#[]⟩]] W λe w'=>e=aC (aH #[O aD (h.1:Int),L h.2.1,L h.2.2.1,L h.2.2.2])/\RdTo E W w' w.heap.size (wj:Int) (Z (.rd (Hn h) []))):=λW hT hp=>Ji8 E hE wj hw ⟨(Hn h).toArray⟩ (by rw[Jh];omega) h _ p5 hT hp;obtain⟨n,s1,s2,s3⟩:=h;dsimp only at ym ⊢;clear hE hh Hl p5;have HL:J (∀hb,hb=Hn (n,s1,s2,s3)->_):=λhb (_:hb=Hn (n,s1,s2,s3))=>trivial;clear HL;generalize hhb:Hn (n,s1,s2,s3)=hb at *;clear hhb;go_enter func212,ntmps212;go_wp2_with fail;refine(XT _ _ _).mono ?_;rintro _ w1⟨rfl,Hs,(H3:J _)⟩;have Hq:J (Jd w1 w.heap.size Y (wj:Int) aK (.rd [] hb)):=Hs;clear Hs;go_wp2_with fail;refine(ym w1 H3 Hq).mono ?_;rintro _ w2⟨rfl,⟨kJ,_⟩,H7⟩;obtain⟨W3,(jR:J _)⟩:∃W3,W3=w2.alloc (T #[O aD (n:Int),L s1,L s2,L s3] 167):=⟨_,rfl⟩
 have hA:M D w2 W3:=by rw[jR];exact Ta _ _ _
 have H4:J _:=(H3.trans H7 (λj hj=>aN (lO hj.symm))).go hA;have Hw:J (Jd W3 w.heap.size Y (wj:Int) aK (.rd hb [])):=kJ.tch hA (λh=>h) (λ_ _ h=>h);have kP:W3.heap[w2.heap.size]? =Z (T #[O aD (n:Int),L s1,L s2,L s3] 167):=by rw[jR];exact Qf _ _
 obtain⟨-, -, -,c3⟩:=rows kP;have C3:J _:=kP;have uB:J (∀W,M D W3 W->aB N 88 #[X (Z ⟨w.heap.size,0,Y⟩)] W λe w'=>e=aC aK/\M D W w'):=λW hT=>Jeg w.heap.size (wj:Int) hb W (Hw.tch hT (λh=>h) (λ_ _ h=>h));clear kJ H7 ym Hq H3 hA kP Hw;go_upto_region 3 with fail;rw[<-jR.o];have HC:J (∀W,M D W3 W->W.cell? ⟨w2.heap.size,3,Y⟩=Z (L s3)):=λW hT=>Ja ((hT.block _ (Jb C3) (λh=>h)).trans C3);go_region_with (go_at_call 88;refine(uB _ (Td _ _ 1)).mono ?_;rintro _ w4⟨rfl,Ho⟩;have He:J _:=(Td D W3 1).go Ho;have c4:=HC _ He.o;clear Ho)
 all_goals go_wp2;go_ret2;exact⟨rfl,H4.go He⟩
abbrev qV(wj:Nat)(state kb:BA):aG:=aH #[O I (wj:Int),L state,L kb]
theorem JfU(E:Nat->Addr)(wj:Nat)(h1:1<=wj)(hw:wj<=32)(h:HdL)(hh:HdOk wj h)(c:BA×Int)(hc:Ji wj c)(w:aA)(hE:Env E w):
  aB N 143 #[O I (wj:Int),L ⟨(Hn h).toArray⟩,aH #[L c.1,O I c.2]] w λe w'=>e=aC (aI #[qV wj h.2.2.2 ⟨(Jc c).toArray⟩,aK])/\M D w w':=by
 have gy:J (∀W,M D w W->_):=λW hT=>JeC E wj hw h hh W (hE.tch hT noE);have HK:J (∀W,M D w W->_):=λW hT=>Jbe E wj hw c hc W (hE.tch hT noE);have uj:J (∀W,_):=λW=>Ym wj W h1 hw;generalize h.2.2.2=st at *;generalize (⟨(Hn h).toArray⟩:BA)=hb at *;obtain⟨s,aZ⟩:=c;dsimp only at HK ⊢;generalize (⟨(Jc (s,aZ)).toArray⟩:BA)=kb at *;obtain⟨W,(HW:J _)⟩:∃W,W=(w.alloc (T #[L s,O I aZ] 49)).alloc (T #[O I 0,L ⟨#[]⟩,L ⟨#[]⟩] 248):=⟨_,rfl⟩
 have hA:=zG HW;have kj:=kX HW;have kD:=hnn HW;have HB:J (∀V,M D W V->V.heap[w.heap.size]? =Z (T #[L s,O I aZ] 49)/\V.heap[w.heap.size+1]? =Z (T #[O I 0,L ⟨#[]⟩,L ⟨#[]⟩] 248)):=λV hT=>⟨(hT.block _ (Jb kj) (λh=>h)).trans kj,(hT.block _ (Jb kD) (λh=>h)).trans kD⟩
 have HA:J _:=hA;clear hA kj kD;go_enter func143,ntmps143;go_upto_region 1 with fail;rw[<-HW.o];go_wp2_with fail;refine(uj W).mono ?_;rintro _ w1⟨rfl,rfl⟩;have H3:J (M D W W):=Te _ _;go_wp2_with fail;refine(gy W (HA.go H3)).mono ?_;rintro _ w2⟨rfl,H7⟩;have H4:J _:=H3.go H7;obtain⟨b0,b1⟩:=HB w2 H4.o;obtain⟨c0,c1⟩:=rows b0;go_wp2_with fail;refine(HK w2 (HA.go H4)).mono ?_;rintro _ w3⟨rfl,Hm⟩;have H8:J _:=H4.go Hm;obtain⟨_,(R3:J _)⟩:=HB w3 H8.o;obtain⟨r0,r1,r2⟩:=rows R3;have fR:∀j,w3.frozen? ⟨w.heap.size+1,j,Y⟩=false:=λj=>Qg _ _ _ _ _ R3;clear Hm HK H4 c0 c1;go_wp2;rw[set3 _ _ _ _ _ _ _ _ _ R3.o];refine QK (v:=aI #[qV wj st kb,aK]) (Je results143 _ _ (w.heap.size+1) _ _ (0,0) _ rfl (Qi _ _ _ _ _ _ R3) underlying248 rfl (by kernel_rfl)) rfl ⟨rfl,?_⟩;exact(HA.go H8).trans (Ts _ _ _) (λj hj=>aN (by omega))
def ZR(o:Option (Nat×Nat)):aG:=match o with
 | some o=>aH #[O I 1,O aD (o.1:Int),O aE (o.2:Int)]
 | none=>aH #[O I 2,O aD 0,O aE 0]

theorem Jd0{m:Nat}{r:List UInt8}(h:(PS.rd q r).num x k=Z (m,p)):m<256 ^ k/\∃r',r=beL m k k++r'/\p=.rd (q++beL m k k) r':=by
 unfold PS.num at h;dsimp only at h
 split at h
 ·rename_i hk;simp only[Qh,Qw]at h;obtain⟨rfl,rfl⟩:=h;have hl:(r.take k).length=k:=by rw[QB];omega
  refine⟨by have:=Ys (r.take k);rw[hl]at this;exact this,r.drop k,?_⟩;rw[ZB _ k hl,List.take_append_drop];exact⟨rfl,rfl⟩
 ·cases h
theorem Jh8{t:List UInt8}{r:List UInt8}(h:(PS.rd q r).txt s k=Z (t,p)):t.length=k/\∃r',r=t++r'/\p=.rd (q++t) r':=by
 unfold PS.txt at h;dsimp only at h
 split at h
 ·rename_i hk;simp only[Qh,Qw]at h;obtain⟨rfl,rfl⟩:=h;exact⟨by rw[QB];omega,r.drop k,(List.take_append_drop _ _).symm,rfl⟩
 ·cases h
theorem Jle{z y:Stp}{r:List UInt8}(h:PS.step wj z (.rd q r)=Z (y,p)):Zt wj y/\∃q' r',p=.rd q' r'/\r=Xe y++r':=by
 unfold PS.step at h
 cases h1:(PS.rd q r).num z.1 2 with
 | none=>rw[h1]at h;cases h
 | some x=>
  obtain⟨m,p1⟩:=x;rw[h1]at h;dsimp only at h;obtain⟨_,r1,rfl,rfl⟩:=Jd0 h1
  split at h
  ·cases h
  ·rename_i hm
   cases h2:(PS.rd (q++beL m 2 2) r1).txt z.2.data.toList wj with
   | none=>rw[h2]at h;cases h
   | some x=>
    obtain⟨t,p2⟩:=x;rw[h2]at h;simp only[Qh,Qw]at h;obtain⟨rfl,rfl⟩:=h;obtain⟨ht,r2,rfl,rfl⟩:=Jh8 h2;exact⟨⟨by show m<_;omega,by show ByteArray.size _=_;rw[Jh];exact ht⟩,_,_,rfl,by unfold Xe;rw[Qs]⟩
theorem Jfs:∀(l ys:List Stp)(q r:List UInt8)(p:PS),PS.many (JaK wj).f l (.rd q r)=Z (ys,p)->(ys.length=l.length/\∀s∈ys,Zt wj s)/\∃q' r',p=.rd q' r'/\r=ys.flatMap Xe++r'
 | [],ys,q,r,p,h=>by
  simp only[PS.many,Qh,Qw]at h;obtain⟨rfl,rfl⟩:=h;exact⟨⟨rfl,λs hs=>by cases hs⟩,q,r,rfl,rfl⟩
 | z::l,ys,q,r,p,h=>by
  unfold PS.many at h
  cases h1:(JaK wj).f z (.rd q r) with
  | none=>rw[h1]at h;cases h
  | some x=>
   obtain⟨y,p1⟩:=x;rw[h1]at h;obtain⟨hy,q1,r1,rfl,rfl⟩:=Jle (show PS.step wj z (.rd q r)=Z (y,p1) from h1);dsimp only at h
   cases h2:PS.many (JaK wj).f l (.rd q1 r1) with
   | none=>rw[h2]at h;cases h
   | some x=>
    obtain⟨ys',p2⟩:=x;rw[h2]at h;simp only[Qh,Qw]at h;obtain⟨rfl,rfl⟩:=h;obtain⟨⟨e1,e2⟩,q2,r2,hp,rfl⟩:=Jfs l ys' q1 r1 p2 h2;refine⟨⟨by simp[e1],λs hs=>?_⟩,q2,r2,hp,by simp⟩
    rcases List.mem_cons.1 hs with rfl|hs
    ·exact hy
    ·exact e2 s hs
theorem JkF{ys:List Stp}{r:List UInt8}(h:PS.lstS wj [] (.rd q r)=Z (ys,p)):(ys.length<=8*(wj+1)/\∀s∈ys,Zt wj s)/\∃q' r',p=.rd q' r'/\r=beL ys.length 2 2++(ys.flatMap Xe++r'):=by
 unfold PS.lstS PS.lst at h
 cases h1:(PS.rd q r).num ([]:List Stp).length 2 with
 | none=>rw[h1]at h;cases h
 | some x=>
  obtain⟨cnt,p1⟩:=x;rw[h1]at h;dsimp only at h;obtain⟨_,r1,rfl,rfl⟩:=Jd0 h1
  split at h
  ·cases h
  ·rename_i hc;obtain⟨⟨e1,e2⟩,q2,r2,hp,rfl⟩:=Jfs _ _ _ _ _ h;have hs:(Jw ((0,⟨#[]⟩):Stp) [] cnt).length=cnt:=(by simp[Jw]);rw[hs]at e1;exact⟨⟨by omega,e2⟩,q2,r2,hp,by rw[e1]⟩
theorem Jex{r:List UInt8}(h:(JF x k (Z (.rd q r))).2=Z p):(JF x k (Z (.rd q r))).1<256 ^ k/\∃q' r',p=.rd q' r'/\r=beL (JF x k (Z (.rd q r))).1 k k++r':=by
 cases h1:(PS.rd q r).num x k with
 | none=>rw[ZL h1]at h;cases h
 | some y=>
  obtain⟨m,p1⟩:=y;rw[JS h1]at h ⊢;obtain⟨hm,r',hr,rfl⟩:=Jd0 h1;simp only[Qh]at h;exact⟨hm,_,_,h.symm,hr⟩
theorem Ji6{r:List UInt8}(h:(Jk s k (Z (.rd q r))).2=Z p):(Jk s k (Z (.rd q r))).1.length=k/\∃q' r',p=.rd q' r'/\r=(Jk s k (Z (.rd q r))).1++r':=by
 cases h1:(PS.rd q r).txt s k with
 | none=>rw[Yb h1]at h;cases h
 | some y=>
  obtain⟨m,p1⟩:=y;rw[JN h1]at h ⊢;obtain⟨hm,r',hr,rfl⟩:=Jh8 h1;simp only[Qh]at h;exact⟨hm,_,_,h.symm,hr⟩
theorem JhS{k:BA}{r:List UInt8}(h:(Jv wj k o (Z (.rd q r))).2=Z p):((Jv wj k o (Z (.rd q r))).1.1.length=wj+1/\((Jv wj k o (Z (.rd q r))).1.1.getD wj 0).toNat<3/\JC (Jv wj k o (Z (.rd q r))).1.2)/\∃q' r',p=.rd q' r'/\r=(Jv wj k o (Z (.rd q r))).1.1++(outB (Jv wj k o (Z (.rd q r))).1.2++r'):=by
 unfold Jv YW at h ⊢;dsimp only at h ⊢
 cases h1:(Jk k.data.toList (wj+1) (Z (.rd q r))).2 with
 | none=>rw[h1]at h;simp[stO,JF]at h
 | some p1=>
  obtain⟨hl,q1,r1,rfl,kD⟩:=Ji6 h1;rw[h1]at h;dsimp only at h ⊢
  by_cases h3:3<=((Jk k.data.toList (wj+1) (Z (.rd q r))).1.getD wj 0).toNat
  ·rw[if_pos h3]at h;simp[stO,JF]at h
  ·rw[if_neg h3]at h ⊢;unfold stO at h ⊢;dsimp only at h ⊢
   cases h4:(JF o.1 8 (Z (.rd q1 r1))).2 with
   | none=>rw[h4]at h;simp[JF]at h
   | some p2=>
    obtain⟨ha,q2,r2,rfl,Hp⟩:=Jex h4;rw[h4]at h;obtain⟨hb,q3,r3,hp,kP⟩:=Jex h;refine⟨⟨hl,by omega,by show _<2 ^ 64;exact ha,by show _<256;exact hb⟩,q3,r3,hp,?_⟩;refine kD.trans ?_
    congr 1
    unfold outB;rw[Qs,<-kP,<-Hp]
theorem Jid{k:BA}{r:List UInt8}(h:(PS.rd q r).way wj [] m k o=Z (wy,p)):WyOk wj wy/\∃q' r',p=.rd q' r'/\r=wayB wy++r':=by
 unfold PS.way at h
 cases h1:(PS.rd q r).lstS wj [] with
 | none=>rw[h1]at h;cases h
 | some x=>
  obtain⟨ys,p1⟩:=x;rw[h1]at h;obtain⟨⟨e1,e2⟩,q1,r1,rfl,kD⟩:=JkF h1;dsimp only at h
  by_cases hr:YY ys ys.length
  ·have hs:Xl ys (Z (.rd q1 r1))=Z (.rd q1 r1):=(by unfold Xl;rw[if_pos hr]);rw[hs]at h
   split at h
   ·rename_i hz;simp only[lN,Qh,Qw]at h;obtain⟨rfl,rfl⟩:=h;rw[List.length_eq_zero_iff.1 hz.1]at kD;exact⟨⟨λs hs=>(by cases hs),λi h1 h2=>(by simp at h2),by simp,λ_=>rfl,λx hx=>(by cases hx)⟩,_,_,rfl,kD⟩
   ·cases h2:(Jv wj k o (Z (.rd q1 r1))).2 with
    | none=>rw[h2]at h;cases h
    | some p2=>
     rw[h2]at h;simp only[lN,Qh,Qw]at h;obtain⟨rfl,rfl⟩:=h;obtain⟨hl,q2,r2,hp,Hp⟩:=JhS h2;refine⟨⟨e2,hr,e1,λh=>(by cases h),λx hx=>(by cases hx;exact hl)⟩,q2,r2,hp,?_⟩;rw[kD];unfold wayB endB;simp only[Qs];exact congrArg (λz=>beL ys.length 2 2++(ys.flatMap Xe++z)) Hp
  ·have hs:Xl ys (Z (.rd q1 r1))=Y:=(by unfold Xl;rw[if_neg hr]);rw[hs]at h
   split at h
   ·cases h
   ·rw[Ji3]at h
    cases h
theorem Jie{k:BA}{r:List UInt8}(h:(PS.rd q r).way wj [] m k o=Z (wy,p)):WyOk wj wy/\∃q' r',p=.rd q' r':=by
 obtain⟨h1,q',r',h2,_⟩:=Jid h;exact⟨h1,q',r',h2⟩

theorem JgM{a:BA}(h:a.toList=b.toList):a=b:=by
 rw[ByteArray.toList_eq,ByteArray.toList_eq]at h
 cases a;cases b;simp only at h;rw[Array.toList_inj]at h;rw[h]
theorem Xa.of_row{G:Nat}{pre:List (Sl×Sl)}(h:w.heap[G]? =Z (T (vvA (pre.map encT)) 98))(hB:G<B):Xa B w (R (Z ⟨G,0,Y⟩) pre.length c) pre:=by
 refine aN ⟨G,0,c,rfl,hB,(Jb h),λi hi=>?_⟩;obtain⟨e0,e1⟩:=Yt (pre.map encT) i (by simpa using hi);rw[List.getElem_map]at e0 e1;rw[Nat.zero_add];exact⟨(Ja h).trans e0,(Ja h).trans e1⟩
theorem JG.of_row{G:Nat}{pre:List (BA×Int)}(h:w.heap[G]? =Z (T (vvA (pre.map encC)) 49))(hB:G<B):JG B w (R (Z ⟨G,0,Y⟩) pre.length c) pre:=by
 refine aN ⟨G,0,c,rfl,hB,(Jb h),λi hi=>?_⟩;obtain⟨e0,e1⟩:=Yt (pre.map encC) i (by simpa using hi);rw[List.getElem_map]at e0 e1;rw[Nat.zero_add];exact⟨(Ja h).trans e0,(Ja h).trans e1⟩
theorem ToB.txs{b:Nat}{g:Option Nat}{e:Ending}(h:ToB E w b g wj (Z (ts,p)) e w'):
  ∃(x:Sl)(g':Option Nat)(zs:List (Sl×Sl)),e=aC (R x.1 x.2.1 x.2.2)/\Jg E w' b g' wj (Z p)/\M (λk=>k=b\/Z k=g) w w'/\Xa w'.heap.size w' (R x.1 x.2.1 x.2.2) zs/\TxIn w'.heap.size w' zs ts:=by
 obtain⟨x,g',h1,h2,_,h4,h5⟩:=h;obtain⟨gp,zs,rfl,k2,k3,k4,k5,k6⟩:=h5 ts p rfl;have H5:=(Jb k4)
 refine⟨_,g',zs,h1,h2,h4,?_,k5,λj x t hx ht=>?_⟩
 ·have:=Xa.of_row (B:=w'.heap.size) (c:=ts.length) k4 H5;rw[k5]at this;exact this
 ·obtain⟨⟨gc,ec,_,_,rc⟩,go,eo,_,_,ro⟩:=k6 j x t hx ht;rw[ec,eo];exact⟨JG.of_row rc (Jb rc),Jr.of_row ro (Jb ro)⟩
theorem TxIn.next(h:TxIn w.heap.size w l ts)(k:M D w w'):TxIn w'.heap.size w' l ts:=
 ⟨h.1,λj x t h1 h2=>⟨((h.2 j x t h1 h2).1.tch k noE).up k.size,((h.2 j x t h1 h2).2.tch k noE).up k.size⟩⟩
theorem Xa.next(h:Xa w.heap.size w v l)(k:M D w w'):Xa w'.heap.size w' v l:=(h.tch k noE).up k.size
def subR(d:List UInt8->BA)(AT:Except Er (Option Tr))(root hd:BA):Except Er (BA×Option Tr):=match AT with
 | .error e=>.error e
 | .ok st'=>if root ≠ Xh d st' then .error .root else .ok (hd,st')
def Jlv(E:Nat->Addr)(wj base:Nat)(F:Nat->Prop)(w:aA)(cb fl r:Nat)(bs:List BV)(lv:aG)(lg:List UInt8)(s:BA)(res:Except Er (BA×Option Tr))(e:Ending)(w':aA):Prop:=match res with
 | .error er=>NoTo E (erG er) w e w'
 | .ok (hd,st')=>e=aC aK/\∃q' lv',JR w' cb wj fl r (bs++[(hd,wj,q')]) lv'/\StAt (dgW wj) F w' q' st'/\StOk wj st'/\Xy base w' lv' (lg++recB [66] s.data.toList)/\M (λk=>k=cb\/k=r\/Z k=lv.ownBlock) w w'/\Jq w lv.ownBlock lv'.ownBlock
theorem JeN(E:Nat->Addr)(hE:Env E w)(Hf:1<=wj)(hw:wj<=32)(h:JR w cb wj fl r bs lv)(m:Nat)(hm:bs.length=m+1)(kn:m<2 ^ 31)(bh:BA)(q:Option Nat)(st:Option Tr)(hb:bs[m]? =Z (bh,wj,q))(kU:bh.size<=1000)(F:Nat->Prop)(hF:∀j,w.heap.size<=j->F j)(hs:StAt (dgW wj) F w q st)(Hb:StOk wj st)
 (base:Nat) (Ha:base<=w.heap.size) (lg:List UInt8) (yU:Xy base w lv lg) (zj:lg.length<=140737488000000) (s:BA) (fJ:s.size<=60000) (y:HdL) (pre body:List UInt8) (hh:(PS.rd [] s.data.toList).hdr wj (0,⟨#[]⟩,⟨#[]⟩,⟨#[]⟩)=Z (y,.rd pre body)) (pg:s.data.toList=pre++body) (ts:List TxL) (q3:List UInt8) (ci:(PS.rd pre body).body wj []=Z (ts,.rd q3 [])) (qH:∀t∈ts,TxOk wj t) (h3:ts.length<=3):
  aB N 46 #[X (Z ⟨cb,0,Y⟩),L s] w λe w'=>Jlv E wj base F w cb fl r bs lv lg s (if y ≠ (m+1,dgW wj (72::bh.data.toList),dgW wj (66::body),y.2.2.2) then .error .tip else subR (dgW wj) (JH (dgW wj) st ts) y.2.2.2 ⟨pre.toArray⟩) e w':=by
 have Hi:=hE.size;obtain⟨aU,hM⟩:∃aU,aU=m+1:=⟨_,rfl⟩
 rw[<-hM];have HM:J _:=hM;obtain⟨RES,pD⟩:∃RES:Except Er (BA×Option Tr),RES=(if y ≠ (aU,dgW wj (72::bh.data.toList),dgW wj (66::body),y.2.2.2) then .error .tip else subR (dgW wj) (JH (dgW wj) st ts) y.2.2.2 ⟨pre.toArray⟩):=⟨_,rfl⟩
 rw[<-pD];have yD:=(Jb h.row)
 obtain⟨rv,Hv⟩:∃rv,Jm q=X rv:=⟨_,rfl⟩
 have Hl:pre.length+body.length=s.size:=by have:=congrArg List.length pg;simp only[QA,Qe]at this;exact this.symm
 have HE:J _:=hE;have kp:J _:=h;have pE:J (Xy base w lv lg/\lg.length<=140737488000000/\base<=w.heap.size/\s.size<=60000/\bs.length=m+1/\m<2 ^ 31):=⟨yU,zj,Ha,fJ,hm,kn⟩
 have jx:J (∀W,M D w W->aB N 40 #[X (Z ⟨cb,0,Y⟩)] W λe w'=>e=aC (O I (m:Int))/\W=w'):=λW hT=>(Jcn (h.next hT) (by omega)).mono λe w' k=>⟨by rw[k.1,hm];congr 2;omega,k.2⟩
 have gC:J (∀W',M D w W'->ChS cb wj r (m:Int) (aH #[L bh,O I (wj:Int),X rv]) W'):=λW' hT=>by
  have:=(h.next hT).reads m _ hb;simp only[bV,Hv]at this;exact this
 have ym:J (∀W,M D w W->Jd W w.heap.size Y (wj:Int) aK (.rd [] s.data.toList)->aB N 86 #[X (Z ⟨w.heap.size,0,Y⟩),aH #[O aD 0,L ⟨#[]⟩,L ⟨#[]⟩,L ⟨#[]⟩]] W λe w'=>e=aC (aH #[O aD (y.1:Int),L y.2.1,L y.2.2.1,L y.2.2.2])/\RdTo E W w' w.heap.size (wj:Int) (Z (.rd pre body))):=λW hT hp=>Ji8 E hE wj hw s (by omega) y _ hh hT hp;have yi:J (∀W,M D w W->Jd W w.heap.size Y (wj:Int) aK (.rd pre body)->aB N 78 #[X (Z ⟨w.heap.size,0,Y⟩),R Y 0 0] W λe w'=>∃(x:Sl)(g':Option Nat)(zs:List (Sl×Sl)),e=aC (R x.1 x.2.1 x.2.2)/\Jg E w' w.heap.size g' (wj:Int) (Z (.rd q3 []))/\M (λk=>k=w.heap.size\/Z k=Y) W w'/\Xa w'.heap.size w' (R x.1 x.2.1 x.2.2) zs/\TxIn w'.heap.size w' zs ts):=λW hT hp=>by
  refine(JjY E hE wj hw pre body (by omega) hT hp).mono λe w' k=>?_;rw[ci]at k;exact k.txs
 have uB:J (∀W g,M D w W->Jg E W w.heap.size g (wj:Int) (Z (.rd q3 []))->aB N 88 #[X (Z ⟨w.heap.size,0,Y⟩)] W λe w'=>M D W w'/\e=aC aK):=λW g hT hp=>
  Ja0 E w.heap.size wj (Z (.rd q3 [])) (λp hp=>⟨_,_,(lS.inj hp).symm⟩) W (hE.tch hT noE) g hp
 have qR:J (∀W v l,M D w W->Xa W.heap.size W v l->TxIn W.heap.size W l ts->aB N 81 #[O I (wj:Int),aH #[O I (wj:Int),X rv],v] W λe w'=>∃(u:Nat)(rv:Option Addr)(ev:aG),e=aC (aI #[aH #[O I (u:Int),X rv],ev])/\Zz E wj F (JH (dgW wj) st ts) u rv ev w'/\M D W w'):=λW v l hT hv ku=>by
  have:=Je6 E wj Hf hw F q st v l ts qH h3 W (hE.tch hT noE) (λj hj=>hF j (Qm hT.size hj)) hv ku (hs.next hT) Hb;unfold JA at this;rw[Hv]at this;refine this.mono λe w' h=>?_;obtain⟨u,rv',ev,h1,h2⟩:=h.2.res;exact⟨u,rv',ev,h1,h2,h.1⟩
 have yj:J (∀W,M D w W->_):=λW hT=>hM ▸ Jhq E (hE.tch hT noE) Hf hw (h.next hT) m hm kn _ hb kU ⟨body.toArray⟩ (by show body.toArray.size<=_;simp;omega);have gd:J (∀W q1 st1,M D w W->StAt (dgW wj) F W q1 st1->_):=λW q1 st1 hT k=>ZN E wj Hf hw F q1 st1 W (hE.tch hT noE) k;have HRE:J (∀W,Jd W w.heap.size Y (wj:Int) aK (.rd pre body)->aB N 87 #[X (Z ⟨w.heap.size,0,Y⟩)] W λe w'=>e=aC (L ⟨body.toArray⟩)/\M D W w'):=λW hp=>Jel w.heap.size Y (wj:Int) _ pre body _ hp;have fK:(⟨body.toArray⟩:BA).size=body.length:=Jh _;have hcut:s.extract 0 pre.length=⟨pre.toArray⟩:=by
  have e:s=⟨(pre++body).toArray⟩:=by rw[<-pg,strL]
  rw[e,Jnn,lD];rfl
 obtain⟨c0,c2,xJ⟩:=gC.o w (Te _ _);have pF:J (s.extract 0 pre.length=⟨pre.toArray⟩/\(⟨body.toArray⟩:BA).size=body.length/\pre.length+body.length=s.size):=⟨hcut,fK,Hl⟩
 generalize hAT:JH (dgW wj) st ts=AT at *;generalize dgW wj (72::bh.data.toList)=sa at *;generalize dgW wj (66::body)=sb at *;obtain⟨y1,y2,y3,y4⟩:=y;dsimp only at ym pD;have jB:J _:=pD;clear pD;have dt:∀W,(Instr.field 148 (aH #[L bh,O I (wj:Int),X rv]) 1).run N W=.ok (aH #[O I (wj:Int),X rv]) W:=λW=>by kernel_rfl
 clear hE h hb kU hF hs Hb qH h3 Hv hAT hh ci yU zj Ha pg fJ fK hcut Hl hm hM;generalize (⟨body.toArray⟩:BA)=bz at *;go_enter func46,ntmps46;go_wp2_with fail;refine(XT _ _ _).mono ?_;rintro _ w1⟨rfl,Hs,H6⟩;have H3:J (M D w w1):=H6;have Hq:J (Jd w1 w.heap.size Y (wj:Int) aK (.rd [] s.data.toList)):=Hs;clear H6 Hs c0 c2 xJ;go_wp2_with fail;refine(ym.o w1 H3.o Hq.o).mono ?_;rintro _ w2⟨rfl,⟨kJ,_⟩,H7⟩;have hA:=Ta D w2 (T #[O aD (y1:Int),L y2,L y3,L y4] 167);have Hp:(w2.alloc (T #[O aD (y1:Int),L y2,L y3,L y4] 167)).heap[w2.heap.size]? =Z (T #[O aD (y1:Int),L y2,L y3,L y4] 167):=Qf _ _;have H4:J _:=(H3.o.trans H7 (λj hj=>aN (lO hj.symm))).go hA;have zD:J _:=kJ.lt;have Hw:J (Jd _ w.heap.size Y (wj:Int) aK (.rd pre body)):=kJ.tch hA (λh=>h) (λ_ _ h=>h);have gU:J _:=Hp;clear kJ H7 ym Hq H3 hA Hp;go_wp2_with fail;refine(HRE.o _ Hw.o).mono ?_;rintro _ w3⟨rfl,Hm⟩;have H8:J _:=H4.o.go Hm;have jy:J (Jd w3 w.heap.size Y (wj:Int) aK (.rd pre body)):=Hw.o.tch Hm (λh=>h) (λ_ _ h=>h);have kY:J _:=(Hm.block _ (Jb gU.o) (λh=>h)).trans gU.o;clear Hm H4 Hw gU HRE;go_wp2_with fail;refine(yi.o w3 H8.o jy.o).mono ?_;rintro _ w4⟨⟨z1,z2,z3⟩,g4,zs,rfl,xp,Ho,uA,hi4⟩;have He:J _:=XD (b:=w.heap.size) (Ql _) H8.o Ho;have sW:J _:=xp;have fM:J (Xa w4.heap.size w4 (R z1 z2 z3) zs/\TxIn w4.heap.size w4 zs ts):=⟨uA,hi4⟩
 have qI:J _:=(Ho.block _ (Jb kY.o) (λh=>by rcases h with h|h;have:=zD.o;omega;cases h)).trans kY.o;clear Ho xp H8 jy kY uA hi4 yi;go_wp2_with fail;refine(uB.o w4 g4 He.o sW.o).mono ?_;rintro _ w5⟨kI,rfl⟩;have Hu:J _:=He.o.go kI;have HV5:J (Xa w5.heap.size w5 (R z1 z2 z3) zs/\TxIn w5.heap.size w5 zs ts):=⟨fM.o.1.next kI,fM.o.2.next kI⟩
 have jZ:J _:=(kI.block _ (Jb qI.o) (λh=>h)).trans qI.o;clear kI He sW qI fM uB;go_wp2_with fail;refine(yj.o w5 Hu.o).mono ?_;rintro _ w6⟨rfl,gV⟩;have k8:J _:=Hu.o.go gV;have HV6:J (Xa w6.heap.size w6 (R z1 z2 z3) zs/\TxIn w6.heap.size w6 zs ts):=⟨HV5.o.1.next gV,HV5.o.2.next gV⟩
 have cM:J _:=(gV.block _ (Jb jZ.o) (λh=>h)).trans jZ.o;clear gV Hu jZ HV5 yj;go_upto_region 9 with fail;obtain⟨k6,dv⟩:∃k6,k6=w2.heap.size:=⟨_,rfl⟩
 obtain⟨k10,tX⟩:∃k10,k10=w6.heap.size:=⟨_,rfl⟩
 obtain⟨w7,uk⟩:∃w7,w7=w6.alloc (T #[O aD (aU:Int),L sa,L sb,L ⟨#[]⟩] 167):=⟨_,rfl⟩
 have hA7:M D w6 w7:=by rw[uk];exact Ta _ _ _
 have zR:w7.heap[k10]? =Z (T #[O aD (aU:Int),L sa,L sb,L ⟨#[]⟩] 167):=by rw[uk,tX];exact Qf _ _
 have gG:J _:=k8.o.go hA7;have cE:w7.heap[k6]? =Z (T #[O aD (y1:Int),L y2,L y3,L y4] 167):=by rw[dv];exact(hA7.block _ (Jb cM.o) (λh=>h)).trans cM.o
 have HKs:J (w.heap.size<k6/\k6<k10):=⟨by rw[dv];exact zD.o,by rw[dv,tX];exact(Jb cM.o)⟩
 rw[<-uk,<-dv,<-tX];have HA7:J (M D w6 w7/\k10=w6.heap.size):=⟨hA7,tX⟩
 clear dv tX uk hA7 k8 cM zD;obtain⟨-, -, -,f3⟩:=rows cE;obtain⟨-, -, -,r3⟩:=rows zR;have rf:w7.frozen? ⟨k10,3,Y⟩=false:=Qg _ _ _ _ _ zR;have vJ:J _:=cE;have gZ:J _:=zR;clear cE zR;go_upto_region 10 with fail;have jE:w7.setCell ⟨k10,3,Y⟩ (L y4)=w7.setRow k10 #[O aD (aU:Int),L sa,L sb,L y4]:=by rw[Qj w7 k10 3 _ _ (0,0) _ gZ.o];rfl
 rw[jE];have tS:=Ts w7 k10 #[O aD (aU:Int),L sa,L sb,L y4];have jF:(w7.setRow k10 #[O aD (aU:Int),L sa,L sb,L y4]).heap[k10]? =Z (T #[O aD (aU:Int),L sa,L sb,L y4] 167):=Qi _ _ _ _ _ _ gZ.o;have hx8:=(tS.block _ (Jb vJ.o) (λe=>by have:=HKs.o;omega)).trans vJ.o;have kw:J _:=gG.o.trans tS (λj hj=>aN (by have:=HKs.o;omega));have t68:=HA7.o.1.trans tS (λj hj=>aN (by have:=HA7.o.2;omega));have fQ:J (Xa (w7.setRow k10 #[O aD (aU:Int),L sa,L sb,L y4]).heap.size (w7.setRow k10 #[O aD (aU:Int),L sa,L sb,L y4]) (R z1 z2 z3) zs/\TxIn (w7.setRow k10 #[O aD (aU:Int),L sa,L sb,L y4]).heap.size (w7.setRow k10 #[O aD (aU:Int),L sa,L sb,L y4]) zs ts):=⟨HV6.o.1.next t68,HV6.o.2.next t68⟩
 clear jE f3 r3 rf vJ gZ tS gG HV6 t68 HA7;generalize w7.setRow k10 #[O aD (aU:Int),L sa,L sb,L y4]=w8 at *;obtain⟨f0,f1,f2,f3⟩:=rows hx8;obtain⟨r0,r1,r2,r3⟩:=rows jF;have HX8:J (w8.heap[k6]? =Z _):=hx8;clear hx8 jF;have fT:=HE.o.tch kw.o noE;have gT:=fT.tip;have gz:0<w8.heap.size:=Qk (by decide) fT.size;clear fT
 by_cases hy:(y1,y2,y3,y4)=(aU,sa,sb,y4)
 case neg=>
  have kG:RES=.error .tip:=by rw[jB.o,if_pos hy]
  subst kG;clear qR gd jx gC dt pE pF;have tipEnd:J (∀W,W=w8.alloc (T #[L ⟨#[104,101,97,100,101,114]⟩,eV E 0] 237)->Jlv E wj base F w cb fl r bs lv lg s (.error .tip) (aC (aJ 235 (X (Z ⟨w8.heap.size,0,Y⟩)))) W):=λW e=>by
   subst e;exact⟨kw.o.go (Ta _ _ _),_,_,rfl,.wrap _ _ _ (Qf _ _) .base⟩
  by_cases e1:y1=aU
  ·by_cases e2:y2.toList=sa.toList
   ·by_cases e3:y3.toList=sb.toList
    ·exact absurd (by rw[e1,JgM e2,JgM e3]) hy
    ·obtain rfl:=JgM e2;subst e1;clear hy e2;go_wp2_with fail;refine(Xk _ _ _ _).mono ?_;rintro _ _⟨rfl,rfl⟩;go_wp2;go_ret;exact tipEnd.out _ rfl
   ·subst e1;clear hy;go_wp2_with fail;refine(Xk _ _ _ _).mono ?_;rintro _ _⟨rfl,rfl⟩;go_wp2;go_ret;exact tipEnd.out _ rfl
  ·have e1':¬(y1:Int)=(aU:Int):=(by omega);clear hy;go_wp2_with fail;refine(Xk _ _ _ _).mono ?_;rintro _ _⟨rfl,rfl⟩;go_wp2;go_ret;exact tipEnd.out _ rfl
 case pos=>
  simp only[Qw]at hy;obtain⟨rY,hy2,hy3,_⟩:=hy;subst rY hy2 hy3;have uC:J (RES=subR (dgW wj) AT y4 ⟨pre.toArray⟩):=(show RES=_ by rw[jB.o,if_neg (by simp)])
  clear gT gz jB;have yF:J (M D w w8.drew):=kw.o.dr 1;have hA8:M D w8 (w8.alloc (T #[O I 0,X Y] 146)).drew:=(Ta D w8 _).dr 1;have tY:J (M D w (w8.alloc (T #[O I 0,X Y] 146)).drew):=kw.o.go hA8;have ns:J ((w8.alloc (T #[O I 0,X Y] 146)).drew.heap[w8.heap.size]? =Z (T #[O I 0,X Y] 146)):=Qf _ _;have HZ:J (w8.heap.size<(w8.alloc (T #[O I 0,X Y] 146)).drew.heap.size):=(Jb ns.o)
  have fU:J (aB _ _ _ _ _):=qR.o w8.drew _ _ yF.o fQ.o.1 fQ.o.2;have fV:J (aB _ _ _ _ _):=qR.o (w8.alloc (T #[O I 0,X Y] 146)).drew _ _ tY.o (fQ.o.1.next hA8) (fQ.o.2.next hA8);obtain⟨c0,c2,xJ⟩:=gC.o w8.drew yF.o;obtain⟨a0,a2,rP⟩:=gC.o (w8.alloc (T #[O I 0,X Y] 146)).drew tY.o;clear qR fQ hA8;go_upto_region 12 with fail;clear f0 f1 f2 f3 r0 r1 r2 r3;go_cut [11,12] (λp11 ev4 wx=>∃(k9 u4:Nat)(rv4:Option Addr),p11=X (Z ⟨k9,0,Y⟩)/\J (wx.heap[k9]? =Z (T #[O I (u4:Int),X rv4] 146))/\J (w8.heap.size<=k9)/\J (M D w8 wx)/\J (Zz E wj F AT u4 rv4 ev4 wx))
  case first=>
   go_region_held3 (λW=>W.cell? ⟨cb,0,Y⟩=Z (O I (wj:Int))/\W.cell? ⟨cb,2,Y⟩=Z (.map (Z r))/\(Instr.lookup 141 (.map (Z r)) (O I (m:Int)) false).run N W=.ok (aH #[L bh,O I (wj:Int),X rv]) W) (go_keep) ((first|(go_at_call 40;refine(jx.o _ (by first|exact yF.o|exact tY.o)).mono ?_;rintro _ _⟨rfl,rfl⟩)|(go_at_call 81;refine(fU.o).mono ?_;rintro _ w4⟨u4,rv4,ev4,rfl,ge,Ho⟩;have kv:M D w w4:=yF.o.go Ho;obtain⟨d0,d2,vH⟩:=gC.o w4 kv;obtain⟨v0,v2,yE⟩:=gC.o (w4.alloc (T #[O I (u4:Int),X rv4] 146)) (kv.go (Ta _ _ _));obtain⟨_,_,nt⟩:=gC.o (w4.alloc (T #[O I 0,X Y] 146)) (kv.go (Ta _ _ _));have vU:J (M D w8 w4):=(Td D w8 1).go Ho;have He:J (M D w w4):=kv;have qI:J (Zz _ _ _ _ _ _ _ _):=ge;have nu:J (w4.heap.size=w4.heap.size):=rfl;clear kv Ho ge)|(go_at_call 81;refine(fV.o).mono ?_;rintro _ w4⟨u4,rv4,ev4,rfl,ge,Ho⟩;have kv:M D w w4:=tY.o.go Ho;obtain⟨d0,d2,vH⟩:=gC.o w4 kv;have xX:w4.heap[w8.heap.size]? =Z (T #[O I 0,X Y] 146):=(Ho.block _ HZ.o (λh=>h)).trans ns.o;have s0:w4.cell? ⟨w8.heap.size,0,Y⟩=Z (O I 0):=Ja xX;have s1:w4.cell? ⟨w8.heap.size,1,Y⟩=Z (X Y):=Ja xX;have sf:∀j,w4.frozen? ⟨w8.heap.size,j,Y⟩=false:=λj=>Qg _ _ _ _ _ xX;obtain⟨v0,v2,yE⟩:=gC.o ((w4.setCell ⟨w8.heap.size,0,Y⟩ (O I (u4:Int))).setCell ⟨w8.heap.size,1,Y⟩ (X rv4)) (by rw[set2 _ _ _ _ _ _ _ xX];exact kv.trans (Ts _ _ _) (λj hj=>aN (by have:=kw.o.size;omega)));have vU:J (M D w8 w4):=((Ta D w8 _).go (Td _ _ 1)).go Ho;have He:J (M D w w4):=kv;have qI:J (Zz _ _ _ _ _ _ _ _):=ge;have du:J (w4.heap[w8.heap.size]? =Z _):=xX;clear kv Ho ge xX)))
   all_goals
    clear c0 c2 xJ a0 a2 rP d0 d2 vH
    first
    | (
     have tk:=nu;have qT:(w4.alloc (T #[O I (u4:Int),X rv4] 146)).heap[w4.heap.size]? =Z (T #[O I (u4:Int),X rv4] 146):=Qf _ _;have Hu:J (M D w (w4.alloc (T #[O I (u4:Int),X rv4] 146))):=He.o.go (Ta _ _ _);have yV:J (M D w8 (w4.alloc (T #[O I (u4:Int),X rv4] 146))):=vU.o.go (Ta _ _ _);have cl:J (w8.heap.size<=w4.heap.size):=vU.o.size;have jZ:J (Zz E wj F AT u4 rv4 ev4 (w4.alloc (T #[O I (u4:Int),X rv4] 146))):=qI.o.kept (λq st h=>h.next (Ta _ _ _)) (λk v h=>h.next (Ta _ _ _));clear qI He tk nu nt;obtain⟨w5,qs⟩:∃w5,w5=w4.alloc (T #[O I (u4:Int),X rv4] 146):=⟨_,rfl⟩
     rw[<-qs]at qT Hu yV jZ v0 v2 yE ⊢;clear qs;obtain⟨k9,vI⟩:∃k9,k9=w4.heap.size:=⟨_,rfl⟩
     rw[<-vI]at qT cl ⊢;clear vI vU)
    | (
     obtain⟨qT,bO,p3,p4⟩:=XF du.o He.o kw.o.size (O I (u4:Int)) (X rv4);have yV:J (M D w8 ((w4.setCell ⟨w8.heap.size,0,Y⟩ (O I (u4:Int))).setCell ⟨w8.heap.size,1,Y⟩ (X rv4))):=(XF du.o vU.o (Ql _) (O I (u4:Int)) (X rv4)).2.1;have Hu:J (M D w ((w4.setCell ⟨w8.heap.size,0,Y⟩ (O I (u4:Int))).setCell ⟨w8.heap.size,1,Y⟩ (X rv4))):=bO;have jZ:J (Zz E wj F AT u4 rv4 ev4 ((w4.setCell ⟨w8.heap.size,0,Y⟩ (O I (u4:Int))).setCell ⟨w8.heap.size,1,Y⟩ (X rv4))):=qI.o.kept (λq st h=>p3 _ _ _ _ h) (λk v h=>p4 _ _ _ h);clear qI He du p3 p4 bO s0 s1 sf;obtain⟨w5,qs⟩:∃w5,w5=((w4.setCell ⟨w8.heap.size,0,Y⟩ (O I (u4:Int))).setCell ⟨w8.heap.size,1,Y⟩ (X rv4)):=⟨_,rfl⟩
     rw[<-qs]at qT Hu yV jZ v0 v2 yE ⊢;clear qs;obtain⟨k9,vI⟩:∃k9,k9=w8.heap.size:=⟨_,rfl⟩
     have cl:J (w8.heap.size<=k9):=lO vI.symm;rw[<-vI]at qT ⊢;clear vI vU)
    go_wp2;go_meet;exact⟨k9,u4,rv4,rfl,qT,cl,yV,jZ⟩
  case rest=>
  obtain⟨k9,u4,rv4,rfl,qJ,cl,yV,jZ⟩:=hcut;obtain⟨w5,qs⟩:∃w5,w5=wc:=⟨wc,rfl⟩
  subst qs;have Hu:J (M D w w5):=kw.o.trans yV.o noE;have s0:w5.cell? ⟨k9,0,Y⟩=Z (O I (u4:Int)):=Ja qJ.o;have s1:w5.cell? ⟨k9,1,Y⟩=Z (X rv4):=Ja qJ.o;have rQ:k9<w5.heap.size:=(Jb qJ.o)
  clear yF tY HZ ns fU fV c0 c2 xJ a0 a2 rP
  cases AT with
  | error er=>
   obtain⟨tv,uv,rfl,hv⟩:=jZ.o;have HV:J (Jn E (erG er) w5 (aJ tv uv)):=hv;have kG:RES=.error er:=uC.o;subst kG;clear hv jZ gd gC jx uC;go_wp2_with fail;refine(Xk _ _ _ _).mono ?_;rintro _ _⟨rfl,rfl⟩;go_wp2;go_ret;exact⟨Hu.o.go (Ta _ _ _),_,_,rfl,.wrap _ _ _ (Qf _ _) (HV.o.next (Ta _ _ _))⟩
  | ok st'=>
   obtain⟨q',rfl,hq,rfl,uX,rS⟩:=jZ.o;have HQ:J (Jm q'=X rv4):=hq;have yC:J (StAt (dgW u4) F w5 q' st'/\StOk u4 st'):=⟨uX,rS⟩
   have cm:w5.heap[k6]? =Z (T #[O aD (y1:Int),L y2,L y3,L y4] 167):=(yV.o.block _ (Jb HX8.o) (λh=>h)).trans HX8.o;have f3:w5.cell? ⟨k6,3,Y⟩=Z (L y4):=Ja cm;have ml:k6<w5.heap.size:=(Jb cm)
   have HX5:J (w5.heap[k6]? =Z _):=cm;have vy:=gd.o w5.drew q' st' (Hu.o.dr 1) (yC.o.1.next (show M D w5 w5.drew from Td _ w5 1));unfold JA at vy;rw[HQ.o]at vy;have zE:J (aB _ _ _ _ _):=vy;have ui:=HE.o.tch Hu.o noE;have gz:4<w5.heap.size:=Qk (by decide) ui.size;have HE5':J (Env E w5):=ui;clear hq uX rS jZ cm vy gd HX8 ui;obtain⟨sd,xl⟩:∃sd,sd=Xh (dgW u4) st':=⟨_,rfl⟩
   rw[<-xl]at zE;have vK:J (sd=Xh (dgW u4) st'):=xl;clear xl;go_upto_region 15 with fail;go_cut [74] (λvb wx=>vb=aL (decide (¬y4.toList=sd.toList))/\J (M D w5 wx))
   case first=>
    by_cases hyd:y4.toList=sd.toList
    ·obtain rfl:=JgM hyd;go_region_held3 (λW=>W.cell? ⟨k6,3,Y⟩=Z (L y4)/\W.cell? ⟨k9,0,Y⟩=Z (O I (u4:Int))/\W.cell? ⟨k9,1,Y⟩=Z (X rv4)) (go_keep) ((go_at_call 83;refine zE.out.mono ?_;rintro _ w9⟨rfl,gx⟩;have q8:M D w5 w9:=(Td D w5 1).go gx;have g3:w9.cell? ⟨k6,3,Y⟩=Z (L y4):=(q8.cell (p:=⟨k6,3,Y⟩) ml (λh=>h)).trans f3;have g0:w9.cell? ⟨k9,0,Y⟩=Z (O I (u4:Int)):=(q8.cell (p:=⟨k9,0,Y⟩) rQ (λh=>h)).trans s0;have g1:w9.cell? ⟨k9,1,Y⟩=Z (X rv4):=(q8.cell (p:=⟨k9,1,Y⟩) rQ (λh=>h)).trans s1;have yW:J (M D w5 w9):=q8;clear gx q8))
     all_goals go_wp2;go_meet;exact⟨by simp,yW⟩
    ·go_region_held3 (λW=>W.cell? ⟨k6,3,Y⟩=Z (L y4)/\W.cell? ⟨k9,0,Y⟩=Z (O I (u4:Int))/\W.cell? ⟨k9,1,Y⟩=Z (X rv4)) (go_keep) ((go_at_call 83;refine zE.out.mono ?_;rintro _ w9⟨rfl,gx⟩;have q8:M D w5 w9:=(Td D w5 1).go gx;have g3:w9.cell? ⟨k6,3,Y⟩=Z (L y4):=(q8.cell (p:=⟨k6,3,Y⟩) ml (λh=>h)).trans f3;have g0:w9.cell? ⟨k9,0,Y⟩=Z (O I (u4:Int)):=(q8.cell (p:=⟨k9,0,Y⟩) rQ (λh=>h)).trans s0;have g1:w9.cell? ⟨k9,1,Y⟩=Z (X rv4):=(q8.cell (p:=⟨k9,1,Y⟩) rQ (λh=>h)).trans s1;have yW:J (M D w5 w9):=q8;clear gx q8))
     all_goals go_wp2;go_meet;exact⟨by simp[hyd],yW⟩
   case rest=>
   obtain⟨rfl,yW⟩:=hcut;obtain⟨w9,bv⟩:∃w9,w9=wc:=⟨wc,rfl⟩
   subst bv;have jD:J (M D w w9):=Hu.o.trans yW.o noE;have HE9:J (Env E w9):=HE.o.tch jD.o noE;clear f3 ml zE gz HE5' s0 s1
   by_cases hyd:y4.toList=sd.toList
   case neg=>
    have qL:(decide (¬y4.toList=sd.toList))=true:=(by simp[hyd]);have Hd:y4 ≠ Xh (dgW u4) st':=λe=>hyd (by rw[vK.o,<-e]);have kG:RES=.error .root:=(by rw[uC.o];show (if y4 ≠ Xh (dgW u4) st' then _ else _)=_;rw[if_pos Hd]);subst kG;have gR:=HE9.o.root;have gz:4<w9.heap.size:=Qk (by decide) HE9.o.size;rw[qL];clear hyd qL Hd uC gC jx pE pF;go_wp2_with fail;refine(Xk _ _ _ _).mono ?_;rintro _ _⟨rfl,rfl⟩;go_wp2;go_ret;exact⟨jD.o.go (Ta _ _ _),_,_,rfl,.wrap _ _ _ (Qf _ _) .base⟩
   case pos=>
    have qL:(decide (¬y4.toList=sd.toList))=false:=(by simp[hyd]);have hye:=JgM hyd;obtain⟨hd,sX⟩:∃hd:BA,hd=⟨pre.toArray⟩:=⟨_,rfl⟩
    obtain⟨pn,hpn⟩:∃pn,pn=pre.length:=⟨_,rfl⟩
    have kG:RES=.ok (hd,st'):=(by rw[uC.o,sX];show (if y4 ≠ Xh (dgW u4) st' then _ else _)=_;rw[if_neg (by rw[<-vK.o,hye];simp)]);have pz:=pF.o;rw[<-sX,<-hpn]at pz;obtain⟨hx1,hx2,hx3⟩:=pz;have yU:=pE.o;have hple:pn<=s.size:=(by omega);have qZ:I.wrap ((s.size:Int)-(bz.size:Int))=(pn:Int):=(by simp[lF,lG,lE];omega);have hsub2:wrap64 ((s.size:Int)-(bz.size:Int))=(pn:Int):=(by unfold wrap64;omega);have hMi:I.wrap ((m:Int)+1)=(y1:Int):=(by have:=HM.o;simp[lF,lG,lE];omega);have hMi2:wrap64 ((m:Int)+1)=(y1:Int):=(by have:=HM.o;unfold wrap64;omega);have qi:J (aB N 89 #[X (Z ⟨cb,0,Y⟩),L ⟨#[66]⟩,L s] w9 λe w'=>e=aC aK/\∃lv',JR w' cb u4 fl r bs lv'/\Xy base w' lv' (lg++recB [66] s.data.toList)/\M (λk=>k=cb\/Z k=lv.ownBlock) w9 w'/\Jq w9 lv.ownBlock lv'.ownBlock):=
     Jej E HE9.o (kp.o.next jD.o) base (Qm yU.2.2.1 jD.o.size) lg (yU.1.next jD.o) yU.2.1 ⟨#[66]⟩ s rfl (by omega)
    have hhs:hd.size<=1000000:=(by rw[sX,Jh];omega);have xA:J (∀W,aB N 90 #[L hd] W λe w'=>e=aC (L hd)/\M D W w'):=λW=>Jkd hd W hhs;have HS9:J (StAt (dgW u4) F w9 q' st'/\StOk u4 st'):=⟨yC.o.1.next yW.o,yC.o.2⟩
    have mn:J (w9.heap[k9]? =Z (T #[O I (u4:Int),X rv4] 146)):=(yW.o.block _ rQ (λh=>h)).trans qJ.o;have HKC:J (w.heap.size<=k9):=Qm kw.o.size cl.o;rw[qL];clear hx2 hx3 qL hhs yU sX hpn hyd hye yC qJ cl pF uC yV kw yW HX5 gC jx;subst kG;go_wp2_with fail;refine qi.o.mono ?_;rintro _ w10⟨rfl,lv',zR,fW,j9,fX⟩;have gZ:J (JR w10 cb u4 fl r bs lv'):=zR;have fY:J (Xy base w10 lv' (lg++recB [66] s.data.toList)):=fW;have rh:J (M (λk=>k=cb\/Z k=lv.ownBlock) w9 w10):=j9;have HM10:J (Jq w9 lv.ownBlock lv'.ownBlock):=fX;have zv:J (w10.heap[k9]? =Z (T #[O I (u4:Int),X rv4] 146)):=(j9.block _ (Jb mn.o) (λe=>by
     rcases e with e|e
     ·have:=HKC.o;omega
     ·obtain⟨cu,mm,fZ⟩:=(pE.o.1.next jD.o).kind k9 e.symm;rw[mn.o]at fZ;simp at fZ)).trans mn.o
    clear zR fW j9 fX qi;go_upto_region 21 with fail;have HMB:J (bs.length=y1):=(pE.o.2.2.2.2.1.trans HM.o.symm:bs.length=y1)
    have f9:J (∀W,M D w10 W->aB N 40 #[X (Z ⟨cb,0,Y⟩)] W λe w'=>e=aC (O I (m:Int))/\W=w'):=λW hT=>(Jcn (gZ.o.next hT) (by have h5:=pE.o.2.2.2.2.1;have h6:=pE.o.2.2.2.2.2;omega)).mono λe w' k=>⟨by rw[k.1,pE.o.2.2.2.2.1];congr 2;omega,k.2⟩
    have HPU:J (∀W,M D w10 W->(Instr.mapUpdate 141 (.map (Z r)) (O I (y1:Int)) (aH #[L hd,O I (u4:Int),X rv4])).run N W=.ok () (W.setBlocks r (bs++[(hd,u4,q')]))):=λW hT=>by
     have:=Jd6 (gZ.o.next hT).map (hd,u4,q');rw[HMB.o]at this;unfold bV at this;rw[HQ.o]at this;exact this
    have c2:w10.cell? ⟨cb,2,Y⟩=Z (.map (Z r)):=Ja gZ.o.row;have s0:w10.cell? ⟨k9,0,Y⟩=Z (O I (u4:Int)):=Ja zv.o;have s1:w10.cell? ⟨k9,1,Y⟩=Z (X rv4):=Ja zv.o;have nA:cb<w10.heap.size:=(Jb gZ.o.row)
    have zw:k9<w10.heap.size:=(Jb zv.o)
    have zx:J (¬cb=r/\¬k9=r):=⟨λe=>(by have:=gZ.o.row;rw[e,gZ.o.map]at this;cases this),λe=>(by have:=zv.o;rw[e,gZ.o.map]at this;cases this)⟩
    have nB:J (M D w10 w10.drew):=Td _ w10 1;go_cut [] (λwx=>∃W,wx=W.setBlocks r (bs++[(hd,u4,q')])/\J (M D w10 W))
    case first=>
     go_region_held3 (λW=>W.cell? ⟨cb,2,Y⟩=Z (.map (Z r))/\W.cell? ⟨k9,0,Y⟩=Z (O I (u4:Int))/\W.cell? ⟨k9,1,Y⟩=Z (X rv4)) (go_keep) ((first|(go_at_call 40;refine(f9.o _ (by first|exact nB.o|exact xD.o)).mono ?_;rintro _ _⟨rfl,rfl⟩)|(go_at_call 90;refine(xA.o _).mono ?_;rintro _ w11⟨rfl,xE⟩;have xd:M D w10 w11:=nB.o.go xE;have e2:w11.cell? ⟨cb,2,Y⟩=Z (.map (Z r)):=(xd.cell (p:=⟨cb,2,Y⟩) nA (λh=>h)).trans c2;have e0:w11.cell? ⟨k9,0,Y⟩=Z (O I (u4:Int)):=(xd.cell (p:=⟨k9,0,Y⟩) zw (λh=>h)).trans s0;have e1:w11.cell? ⟨k9,1,Y⟩=Z (X rv4):=(xd.cell (p:=⟨k9,1,Y⟩) zw (λh=>h)).trans s1;have hpu:=HPU.o w11 xd;have hsB:=M.setBlocks w11 r (bs++[(hd,u4,q')]);have p2:(w11.setBlocks r (bs++[(hd,u4,q')])).cell? ⟨cb,2,Y⟩=Z (.map (Z r)):=(hsB.cell (p:=⟨cb,2,Y⟩) (Qk nA xd.size) zx.o.1).trans e2;have p0:(w11.setBlocks r (bs++[(hd,u4,q')])).cell? ⟨k9,0,Y⟩=Z (O I (u4:Int)):=(hsB.cell (p:=⟨k9,0,Y⟩) (Qk zw xd.size) zx.o.2).trans e0;have p1:(w11.setBlocks r (bs++[(hd,u4,q')])).cell? ⟨k9,1,Y⟩=Z (X rv4):=(hsB.cell (p:=⟨k9,1,Y⟩) (Qk zw xd.size) zx.o.2).trans e1;have xD:J (M D w10 w11):=xd;clear xE xd hsB)))
     all_goals go_wp2;go_meet;exact⟨w11,rfl,xD⟩
    case rest=>
    obtain⟨w11,rfl,xD⟩:=hcut;go_wp2;go_ret;have tB:=M.setBlocks w11 r (bs++[(hd,u4,q')]);have hR9:=kp.o.next jD.o;have hL9:=pE.o.1.next jD.o;have mo:=gZ.o.next xD.o;have kE:=HS9.o.1.refine (G:=λj=>F j/\¬j=cb/\¬j=r/\¬Z j=lv.ownBlock) (λj hj hc=>⟨hj,λe=>(by obtain⟨c,hc⟩:=hc;subst e;rw[hR9.row]at hc;simp at hc),λe=>(by obtain⟨c,hc⟩:=hc;subst e;rw[hR9.map]at hc;simp at hc),λe=>(by obtain⟨c,hc⟩:=hc;obtain⟨cu,mm,fZ⟩:=hL9.kind j e.symm;rw[hc]at fZ;simp at fZ)⟩);have h10:=kE.tch rh.o (λj hS hG=>by rcases hS with h|h;exact hG.2.1 h;exact hG.2.2.2 h);have ri:=(h10.next xD.o).tch tB (λj hS hG=>hG.2.2.1 hS);refine⟨rfl,q',lv',⟨(tB.block cb (Jb mo.row) zx.o.1).trans mo.row,Ja4 mo.map _⟩,ri.mono (λj h=>h.1),HS9.o.2,(fY.o.next xD.o).tch tB (λj hj e=>(fY.o.ne_row gZ.o).2 (by rw[<-e];exact hj.symm)),?_,?_⟩
    ·exact(((jD.o.mono noE).trans rh.o (λj hj=>aM (by rcases hj with h|h;exact aM h;exact aN (aN h)))).trans xD.o noE).trans tB (λj hj=>aM (aN (aM hj)))
    ·rcases HM10.o with h|⟨k,h,hk⟩
     ·exact aM h
     ·exact aN ⟨k,h,Qm jD.o.size hk⟩

theorem JfY(E:Nat->Addr)(hE:Env E w)(Hf:1<=wj)(hw:wj<=32)(h:JR w cb wj fl r bs lv)(m:Nat)(hm:bs.length=m+1)(kn:m<2 ^ 31)(bh:BA)(q:Option Nat)(st:Option Tr)(hb:bs[m]? =Z (bh,wj,q))(kU:bh.size<=1000)(F:Nat->Prop)(hF:∀j,w.heap.size<=j->F j)(hs:StAt (dgW wj) F w q st)(Hb:StOk wj st)
 (base:Nat) (Ha:base<=w.heap.size) (lg:List UInt8) (yU:Xy base w lv lg) (zj:lg.length<=140737488000000) (s:BA) (fJ:s.size<=1100000):
  aB Tryz.prog 46 #[X (Z ⟨cb,0,Y⟩),L s] w λe w'=>Jlv E wj base F w cb fl r bs lv lg s (subP (dgW wj) wj m bh st s.data.toList) e w':=by
 cases hh:(PS.rd [] s.data.toList).hdr wj (0,⟨#[]⟩,⟨#[]⟩,⟨#[]⟩) with
 | none=>
  have e:subP (dgW wj) wj m bh st s.data.toList=.error .form:=by unfold subP;rw[hh]
  rw[e];exact JgP E hE hw h s fJ hh
 | some x=>
  obtain⟨y,p⟩:=x;obtain⟨pre,body,l1,e1,e2,_⟩:=JhH wj hw _ _ _ _ _ hh;rw[List.nil_append]at e2;subst e2;have Hl:pre.length+body.length=s.size:=by have:=congrArg List.length e1;rw[Yw,Qe]at this;exact this.symm
  by_cases cp:∃ts q3,(PS.rd pre body).body wj []=Z (ts,.rd q3 [])
  ·obtain⟨ts,q3,ci⟩:=cp;obtain⟨b2,r2,l2,e3,e4,h3,qH⟩:=Jaj wj hw _ _ _ _ ci;simp only[PS.rd.injEq]at e4;obtain⟨_,rfl⟩:=e4;rw[QC]at e3;have jk:body.length<=385:=(by rw[e3];exact l2);have e:subP (dgW wj) wj m bh st s.data.toList=(if y ≠ (m+1,dgW wj (72::bh.data.toList),dgW wj (66::body),y.2.2.2) then .error .tip else subR (dgW wj) (JH (dgW wj) st ts) y.2.2.2 ⟨pre.toArray⟩):=by
    unfold subP subR;rw[hh];dsimp only;rw[ci];dsimp only;have ec:s.data.toList.take (s.data.toList.length-body.length)=pre:=(by rw[Yw,<-Hl,Nat.add_sub_cancel,e1,lD];rfl);rw[ec]
   rw[e];exact JeN E hE Hf hw h m hm kn bh q st hb kU F hF hs Hb base Ha lg yU zj s (by omega) y pre body hh e1 ts q3 ci qH h3
  ·have Hd:∀ts q3,(PS.rd pre body).body wj [] ≠ Z (ts,.rd q3 []):=λts q3 h=>cp ⟨ts,q3,h⟩;have e:subP (dgW wj) wj m bh st s.data.toList=.error .form:=by
    unfold subP;rw[hh];dsimp only
    cases hx:(PS.rd pre body).body wj [] with
    | none=>rfl
    | some z=>
     obtain⟨ts,p⟩:=z;obtain⟨b1,r1,_,_,e4,_⟩:=Jaj wj hw _ _ _ _ hx;subst e4
     cases r1 with
     | nil=>exact absurd hx (Hd _ _)
     | cons a l=>rfl
   rw[e];exact JgQ E hE hw h s fJ y pre body hh (by omega) Hd

def XN(wj:Nat)(outs:List (Nat×Nat)):List UInt8:=beL wj 1 1++Jy outs
theorem Jni(E:Nat->Addr)(b:Nat)(Hc:18<=b)(wj:Nat)(hw:wj<=32)(ia:Option Addr)(ic n:Nat)(outs:List (Nat×Nat))(ho:∀o∈outs,JC o)(h1:1<=outs.length)(h3:outs.length<=3)(w:aA)(hE:Env E w)(hp:Jd w b Y (wj:Int) aK (.wr []))(hv:Jr b w (R ia n ic) outs):
  aB N 198 #[X (Z ⟨b,0,Y⟩),aH #[O I (wj:Int),R ia n ic]] w λe w'=>(∃v0,e=aC (aH #[O I (wj:Int),v0]))/\StTo E w w' b Y (wj:Int) (Z (.wr (XN wj outs))):=by
 have H5:=hp.lt;have ke:=Run.start Hc hE (show Jg E w b Y (wj:Int) (Z (.wr [])) from hp) (M.allocs D w (T #[O I (wj:Int),R ia n ic] 333) (T #[O I 0,R Y 0 0] 333));have uZ:(PS.wr []).num wj 1=Z (wj,.wr (beL wj 1 1)):=by simp only[PS.num];rw[if_pos (by omega)];rfl
 have HN:J (∀w1 g1,Jd w1 b g1 (wj:Int) aK (.wr [])->aB N 138 #[X (Z ⟨b,0,Y⟩),O aD (wj:Int),O I 1] w1 λe w'=>e=aC (O aD (wj:Int))/\StTo E w1 w' b g1 (wj:Int) (Z (.wr (beL wj 1 1)))):=λw1 g1 h=>Xu b g1 wj wj 1 wj (.wr []) _ w1 h (by omega) (by simp[PS.len]) uZ;have HF:J (∀w1 g1,Env E w1->Jd w1 b g1 (wj:Int) aK (.wr (beL wj 1 1))->Jr b w1 (R ia n ic) outs->aB N 188 #[X (Z ⟨b,0,Y⟩),R ia n ic] w1 λe w'=>∃gp,e=aC (R (Z ⟨gp,0,Y⟩) outs.length outs.length)/\StTo E w1 w' b g1 (wj:Int) (Z (.wr (XN wj outs)))):=λw1 g1 p6 Hs jq=>by
  have hr:=(Jer 1 3 outs ho h1 h3 (by omega)).wr (beL wj 1 1);have:=Jbp E b Hc g1 wj _ outs (.wr (beL wj 1 1)) w1 p6 Hs jq (by omega) (XS _ _) (λx hx=>(ho x hx).2) (by simp only[PS.len,Jf];omega);rw[hr]at this;refine this.mono λe w' k=>?_;obtain⟨gp,k1,_,_,g',k4,_,k6,k7⟩:=k;exact⟨gp,k1,g',k4,k6,k7⟩
 have hu:lH.wrap (wj:Int)=(wj:Int):=JK _ (by omega) (by omega);have hi:I.wrap (wj:Int)=(wj:Int):=Jo _ (by omega) (by omega);have HV:J (Jr b w (R ia n ic) outs):=hv;have RUN:J _:=ke;clear hE hp ke uZ hv ho h1 h3;go_enter func198,ntmps198;go_wp2_with fail;refine(HN.o _ _ RUN.out.port).mono ?_;rintro _ w1⟨rfl,h⟩;obtain⟨g1,R1⟩:=RUN.out.step h;have bx1:=(R1.box (k:=w.heap.size) (Ql _) (heap_alloc2_old _ _ _)).1;have c1:w1.cell? ⟨w.heap.size,1,Y⟩=Z (R ia n ic):=Ja bx1;have Ht:J _:=R1;have zA:J (Jr b w1 (R ia n ic) outs):=by obtain⟨g',_,_,t1⟩:=R1.to;exact HV.o.tch t1 (λj hj=>by rcases hj with h|h;omega;cases h)
 clear R1 bx1 h HN HV;go_wp2_with fail;refine(HF.o _ _ Ht.out.env Ht.out.port zA.o).mono ?_;rintro _ w4⟨gp,rfl,h⟩;obtain⟨g4,R4⟩:=Ht.out.step h;have rR:=(R4.box (k:=w.heap.size+1) (by omega) (heap_alloc2_new _ _ _)).1;have e0:w4.cell? ⟨w.heap.size+1,0,Y⟩=Z (O I 0):=Ja rR;have e1:w4.cell? ⟨w.heap.size+1,1,Y⟩=Z (R Y 0 0):=Ja rR;have fR:∀j,w4.frozen? ⟨w.heap.size+1,j,Y⟩=false:=λj=>Qg _ _ _ _ _ rR;have jN:J _:=R4;have RR:J (_=_):=rR;clear R4 rR h HF c1;go_wp2;rw[Jpi _ _ _ _ _ _ _ RR.out];exact QK (v:=aH #[O I (wj:Int),R (Z ⟨gp,0,Y⟩) outs.length outs.length]) (Qq results198 _ _ (w.heap.size+1) _ _ (0,0) _ rfl (Qi _ _ _ _ _ _ RR.out) underlying333 rfl (by kernel_rfl)) rfl ⟨⟨_,rfl⟩,jN.out.done (k:=w.heap.size+1) (by omega) (heap_alloc2_new _ _ _) (by decide)⟩
theorem Jdj(E:Nat->Addr)(hE:Env E w)(hw:wj<=32)(h:JR w cb wj fl r bs lv)(base:Nat)(Ha:base<=w.heap.size)(lg:List UInt8)(hl:Xy base w lv lg)(zj:lg.length<=140737488000000)(v:aG)(outs:List (Nat×Nat))(ho:∀o∈outs,JC o)(h1:1<=outs.length)(h3:outs.length<=3)(hv:Jr w.heap.size w v outs):
  aB N 129 #[X (Z ⟨cb,0,Y⟩),v] w λe w'=>e=aC aK/\∃lv',JR w' cb wj fl r bs lv'/\Xy base w' lv' (lg++recB [71] (XN wj outs))/\M (λk=>k=cb\/Z k=lv.ownBlock) w w'/\Jq w lv.ownBlock lv'.ownBlock:=by
 have Hi:=hE.size;have yD:=(Jb h.row)
 have c0:w.cell? ⟨cb,0,Y⟩=Z (O I (wj:Int)):=Ja h.row;obtain⟨ia,ic,Hx⟩:=hv.shape;subst Hx;have Hl:(XN wj outs).length<=100:=by
  have:∀l:List (Nat×Nat),(l.flatMap outB).length=l.length*9:=by
   intro l
   induction l with
   | nil=>rfl
   | cons x r ih=>rw[QG,Qe,ih];unfold outB;simp only[Qe,Jf,Qp];omega
  unfold XN Jy;rw[Qe,Qe,Jf,Jf,this];omega
 obtain⟨sb,cD⟩:∃sb:BA,sb=⟨(XN wj outs).toArray⟩:=⟨_,rfl⟩
 have gy:J (∀W,M D w W->Jd W w.heap.size Y (wj:Int) aK (.wr [])->aB N 198 #[X (Z ⟨w.heap.size,0,Y⟩),aH #[O I (wj:Int),R ia outs.length ic]] W λe w'=>(∃v0,e=aC (aH #[O I (wj:Int),v0]))/\StTo E W w' w.heap.size Y (wj:Int) (Z (.wr (XN wj outs)))):=λW hT hp=>
  Jni E w.heap.size Hi wj hw ia ic outs.length outs ho h1 h3 W (hE.tch hT noE) hp (hv.tch hT noE)
 have rU:J (∀W g,Jg E W w.heap.size g (wj:Int) (Z (.wr (XN wj outs)))->aB N 79 #[X (Z ⟨w.heap.size,0,Y⟩)] W λe w'=>M D W w'/\e=aC (aI #[L sb,aK])):=λW g hp=>by
  rw[cD];exact Jap E w.heap.size g wj (Z (.wr (XN wj outs))) (λp hp=>⟨_,(lS.inj hp).symm⟩) W hp
 have qi:J (∀W,M D w W->aB N 89 #[X (Z ⟨cb,0,Y⟩),L ⟨#[71]⟩,L sb] W λe w'=>e=aC aK/\∃lv',JR w' cb wj fl r bs lv'/\Xy base w' lv' (lg++recB [71] (XN wj outs))/\M (λk=>k=cb\/Z k=lv.ownBlock) W w'/\Jq W lv.ownBlock lv'.ownBlock):=λW hT=>by
  have:=Jej E (hE.tch hT noE) (h.next hT) base (Qm Ha hT.size) lg (hl.next hT) zj ⟨#[71]⟩ sb rfl (by rw[cD,Jh];omega);have e:sb.data.toList=XN wj outs:=by rw[cD]
  rw[e]at this;exact this
 clear hE h Ha hl zj ho h1 h3 hv Hl cD;go_enter func129,ntmps129;go_wp2_with fail;refine(JY _ _).mono ?_;rintro _ w1⟨rfl,Hs,H6⟩;have H3:J _:=H6;have mB:J (M D w w1.drew):=H6.dr 1;have Hq:J (Jd w1.drew w.heap.size Y (wj:Int) aK (.wr [])):=Hs.tch (Td D w1 1) (λh=>h) (λ_ _ h=>h);have d0:w1.cell? ⟨cb,0,Y⟩=Z (O I (wj:Int)):=(H6.cell (p:=⟨cb,0,Y⟩) yD (λh=>h)).trans c0;have hcb1:cb<w1.heap.size:=Qk yD H6.size;clear H6 Hs c0;go_upto_region 2 with fail;go_cut [] (λwx=>∃g2,J (Jg E wx w.heap.size g2 (wj:Int) (Z (.wr (XN wj outs))))/\J (M D w wx))
 case first=>
  go_region_held3 (λW=>W.cell? ⟨cb,0,Y⟩=Z (O I (wj:Int))) (go_keep) ((go_at_call 198;refine(gy.o w1.drew mB.o Hq.o).mono ?_;rintro _ w2⟨⟨v0,rfl⟩,g2,kJ,kn,H7⟩;have jr:M D w w2:=XD (b:=w.heap.size) (Ql _) mB.o H7;have e0:w2.cell? ⟨cb,0,Y⟩=Z (O I (wj:Int)):=(H7.cell (p:=⟨cb,0,Y⟩) hcb1 (λe=>by rcases e with e|e;simp only at e;omega;cases e)).trans d0;have H4:J _:=jr;have Hw:J _:=kJ;clear kJ kn H7 jr))
  all_goals go_wp2;go_meet;exact⟨g2,Hw,H4⟩
 case rest=>
 obtain⟨g2,Hw,H4⟩:=hcut;obtain⟨w2,ql⟩:∃w2,w2=wc:=⟨wc,rfl⟩
 subst ql;clear gy mB Hq d0;go_wp2_with fail;refine(rU.o w2 g2 Hw.o).mono ?_;rintro _ w3⟨Hm,rfl⟩;have H8:J (M D w w3):=H4.o.go Hm;clear Hm Hw H4 rU;go_wp2_with fail;refine(qi.o w3 H8.o).mono ?_;rintro _ w4⟨rfl,lv',k1,k2,k3,k4⟩;have HK:J (JR w4 cb wj fl r bs lv'/\Xy base w4 lv' (lg++recB [71] (XN wj outs))/\M (λk=>k=cb\/Z k=lv.ownBlock) w3 w4/\Jq w3 lv.ownBlock lv'.ownBlock):=⟨k1,k2,k3,k4⟩
 clear k1 k2 k3 k4 qi;go_wp2;go_ret;refine⟨rfl,lv',HK.o.1,HK.o.2.1,(H8.o.mono noE).trans HK.o.2.2.1 (λj hj=>aM hj),?_⟩
 rcases HK.o.2.2.2 with h|⟨k,h,hk⟩
 ·exact aM h
 ·exact aN ⟨k,h,Qm H8.o.size hk⟩

theorem Jko(wj:Nat)(w:aA):aB N 127 #[O I (wj:Int)] w λe w'=>e=aC (aH #[O I (wj:Int),X Y])/\M D w w':=by
 go_enter func127,ntmps127;go_wp2;exact QK (v:=aH #[O I (wj:Int),X Y]) (Qq results127 _ _ w.heap.size _ _ (0,0) _ rfl (Qf _ _) underlying146 rfl (by kernel_rfl)) rfl ⟨rfl,Ta _ _ _⟩
theorem JkK(W:aA):(Instr.makeMap 141 Y).run N W=.ok (.map (Z W.heap.size)) (W.alloc (.map #[] 0)):=by
 simp[Instr.makeMap,Result.andThen]
theorem outsB?_ok{outs:List (Nat×Nat)}(ho:∀o∈outs,JC o)(h1:1<=outs.length)(h3:outs.length<=3):outsB? outs=Z (Jy outs):=by
 unfold outsB?;rw[(Jer 1 3 outs ho h1 h3 (by omega)).wr];rfl
def Zg(n:Nat):BA:=⟨(List.replicate n (0:UInt8)).toArray⟩
def Yh(wj:Nat)(outs:List (Nat×Nat))(st:Option Tr):HdL:=(0,Zg wj,dgW wj (71::Jy outs),Xh (dgW wj) st)
def Jo6(wj base:Nat)(outs:List (Nat×Nat))(st:Option Tr)(w:aA)(e:Ending)(w':aA):Prop:=
 M D w w'/\∃cb r q lv,e=aC (aI #[X (Z ⟨cb,0,Y⟩),aK])/\w.heap.size<=cb/\w.heap.size<=r/\JR w' cb wj 0 r [(⟨(Hn (Yh wj outs st)).toArray⟩,wj,q)] lv/\StAt (dgW wj) (λj=>w.heap.size<=j) w' q st/\StOk wj st/\Xy base w' lv (recB [71] (XN wj outs))/\∀k,lv.ownBlock=Z k->w.heap.size<=k
theorem Jkb(E:Nat->Addr)(wj:Nat)(Hf:1<=wj)(hw:wj<=32)(v:aG)(outs:List (Nat×Nat))(ho:∀o∈outs,JC o)(h1:1<=outs.length)(h3:outs.length<=3)(w:aA)(hE:Env E w)(hv:Jr w.heap.size w v outs)(base:Nat)(Ha:base<=w.heap.size)(st:Option Tr)(qt:Jz (dgW wj (71::Jy outs)) 0 outs Y=.ok st):
  aB N 72 #[O I (wj:Int),v] w λe w'=>Jo6 wj base outs st w e w':=by
 obtain⟨ia,ic,Hx⟩:=hv.shape;subst Hx;obtain⟨id,jS⟩:∃id,id=dgW wj (71::Jy outs):=⟨_,rfl⟩
 have zH:id.size=wj:=by rw[jS];exact Jj wj hw _
 obtain⟨hd,sX⟩:∃hd:BA,hd=⟨(Hn (Yh wj outs st)).toArray⟩:=⟨_,rfl⟩
 obtain⟨zs,qU⟩:∃zs,zs=Zg wj:=⟨_,rfl⟩
 obtain⟨sd,xl⟩:∃sd,sd=Xh (dgW wj) st:=⟨_,rfl⟩
 have HE:J (Env E w):=hE;have HV:J _:=hv;have uj:J (aB N 124 #[O I (wj:Int)] w λe w'=>e=aC aK/\w=w'):=Ym wj w Hf hw;have yz:J (aB N 125 #[O I (wj:Int),R ia outs.length ic] w λe w'=>M D w w'/\e=aC (aI #[L id,aK])):=by have:=Jc0 E wj Hf hw _ outs w hE hv (by omega) (λx hx=>(ho x hx).2);rw[outsB?_ok ho h1 h3]at this;rw[jS];exact this
 have jY:J (∀W,M D w W->aB N 126 #[aH #[O I (wj:Int),X Y],L id,R ia outs.length ic] W λe w'=>M D W w'/\∃(q:Option Nat)(rv:Option Addr),Jm q=X rv/\e=aC (aI #[aH #[O I (wj:Int),X rv],aK])/\StAt (dgW wj) (λj=>w.heap.size<=j) w' q st/\StOk wj st):=λW hT=>by
  have:=Jc9 E wj Hf hw (λj=>w.heap.size<=j) Y Y id zH _ outs ho h3 W (hE.tch hT noE) (λj hj=>Qm hT.size hj) ((hv.tch hT noE).up hT.size) trivial trivial;rw[jS,qt,<-jS]at this;refine this.mono λe w' k=>⟨k.1,?_⟩
  obtain⟨q,k1,k2,k3⟩:=k.2;exact⟨q,_,rfl,k1,k2,k3⟩
 have HRP:J (∀W,aB N 128 #[L ⟨#[0]⟩,O I (wj:Int)] W λe w'=>e=aC (L zs)/\M D W w'):=λW=>by rw[qU];exact JiX wj Hf hw W
 have gd:J (∀W q,M D w W->StAt (dgW wj) (λj=>w.heap.size<=j) W q st->aB N 83 #[JA wj q] W λe w'=>e=aC (L sd)/\M D W w'):=λW q hT k=>by rw[xl];exact ZN E wj Hf hw _ q st W (hE.tch hT noE) k
 have rO:J (∀W,M D w W->aB N 84 #[O I (wj:Int),aH #[O aD 0,L zs,L id,L sd]] W λe w'=>e=aC (aI #[L hd,aK])/\M D W w'):=λW hT=>by
  have:=JaG E wj (by omega) 0 zs id sd W (hE.tch hT noE);refine this.mono λe w' k=>?_;obtain⟨k1,k2⟩:=k;have hz:zs.size=wj:=by rw[qU];unfold Zg;rw[Jh,List.length_replicate]
  rw[Jmb ⟨by show 0<2 ^ 32;omega,hz,zH,by show sd.size=wj;rw[xl];exact Xw _ wj (Jj wj hw) st⟩]at k2;rw[sX];unfold Yh;rw[<-qU,<-jS,<-xl];exact⟨k2,k1⟩
 have uC:J (∀W cb r q,M D w W->JR W cb wj 0 r [(hd,wj,q)] (R Y 0 0)->aB N 129 #[X (Z ⟨cb,0,Y⟩),R ia outs.length ic] W λe w'=>e=aC aK/\∃lv',JR w' cb wj 0 r [(hd,wj,q)] lv'/\Xy base w' lv' (recB [71] (XN wj outs))/\M (λk=>k=cb) W w'/\(∀k,lv'.ownBlock=Z k->W.heap.size<=k)):=λW cb r q hT hR=>by
  refine(Jdj E (hE.tch hT noE) hw hR base (Qm Ha hT.size) [] ⟨Bs.nil _ _,λk hk=>by cases hk⟩ (by simp) _ outs ho h1 h3 ((hv.tch hT noE).up hT.size)).mono ?_;rintro e w'⟨k0,lv',k1,k2,k3,k4⟩;refine⟨k0,lv',k1,k2,k3.mono (λj hj=>?_),λk hk=>?_⟩
  ·rcases hj with h|h
   ·exact aM h
   ·cases h
  ·rcases k4 with h|⟨j,h,hj⟩
   ·rw[hk]at h;cases h
   ·rw[hk]at h;cases h;exact hj
 have jp:=JkK;unfold Jo6;rw[<-sX];clear hE hv qt jS sX qU xl zH ho h1 h3 Ha;go_enter func72,ntmps72;go_wp2_with fail;refine uj.o.mono ?_;rintro _ _⟨rfl,rfl⟩;go_wp2_with fail;refine yz.o.mono ?_;rintro _ w1⟨H6,rfl⟩;have H3:J _:=H6;clear H6 yz uj;go_wp2_with fail;refine(Jko wj w1).mono ?_;rintro _ w2⟨rfl,H7⟩;have H4:J (M D w w2):=H3.o.go H7;clear H7 H3;go_wp2_with fail;refine(jY.o w2 H4.o).mono ?_;rintro _ w3⟨Hm,q,rv,hq,rfl,bW,yp⟩;have hA:=Ta D w3 (T #[O I (wj:Int),X rv] 146);obtain⟨w4,qG⟩:∃w4,w4=w3.alloc (T #[O I (wj:Int),X rv] 146):=⟨_,rfl⟩
 obtain⟨k4,dy⟩:∃k4,k4=w3.heap.size:=⟨_,rfl⟩
 have He:J (M D w w4):=by rw[qG];exact(H4.o.go Hm).go hA
 have sS:J (StAt (dgW wj) (λj=>w.heap.size<=j) w4 q st/\StOk wj st):=by rw[qG];exact⟨bW.next hA,yp⟩
 have ge:w4.heap[k4]? =Z (T #[O I (wj:Int),X rv] 146):=by rw[qG,dy];exact Qf _ _
 have HQ:J _:=hq;go_upto_region 8 with fail;rw[<-qG,<-dy];have s0:w4.cell? ⟨k4,0,Y⟩=Z (O I (wj:Int)):=Ja ge;have s1:w4.cell? ⟨k4,1,Y⟩=Z (X rv):=Ja ge;have ip:k4<w4.heap.size:=(Jb ge)
 have qI:J _:=ge;have vy:J (∀W,M D w4 W->aB N 83 #[aH #[O I (wj:Int),X rv]] W λe w'=>e=aC (L sd)/\M D W w'):=λW hT=>by
  have:=gd.o W q (He.o.go hT) (sS.o.1.next hT);unfold JA at this;rw[HQ.o]at this;exact this
 have rV:J (M D w4 w4.drew):=Td _ w4 1;have kN:J (∀W,M D w4 W->W.cell? ⟨k4,0,Y⟩=Z (O I (wj:Int))/\W.cell? ⟨k4,1,Y⟩=Z (X rv)):=λW hT=>⟨(hT.cell (p:=⟨k4,0,Y⟩) ip (λh=>h)).trans s0,(hT.cell (p:=⟨k4,1,Y⟩) ip (λh=>h)).trans s1⟩
 clear hA qG dy bW yp hq Hm ge gd jY H4;go_upto_region 10 with fail;go_cut [10,8] (λvh ve wx=>vh=L hd/\ve=aK/\J (M D w4 wx))
 case first=>
  go_region_held3 (λW=>W.cell? ⟨k4,0,Y⟩=Z (O I (wj:Int))/\W.cell? ⟨k4,1,Y⟩=Z (X rv)) (go_keep) ((first|(go_at_call 128;refine(HRP.o _).mono ?_;rintro _ wA⟨rfl,htA⟩;have Hz:J (M D w4 wA):=(by first|exact rV.o.go htA|exact gE.o.go htA);obtain⟨xa0,xa1⟩:=kN.o wA Hz.o;clear htA)|(go_at_call 83;refine(vy.o _ (by first|exact rV.o|exact Hz.o)).mono ?_;rintro _ wB⟨rfl,htB⟩;have gE:J (M D w4 wB):=(by first|exact rV.o.go htB|exact Hz.o.go htB);obtain⟨xb0,xb1⟩:=kN.o wB gE.o;clear htB)|(go_at_call 84;refine(rO.o _ (He.o.go (by first|exact Hz.o|exact gE.o))).mono ?_;rintro _ wC⟨rfl,htC⟩;have jz:J (M D w4 wC):=(by first|exact Hz.o.go htC|exact gE.o.go htC);obtain⟨xc0,xc1⟩:=kN.o wC jz.o;clear htC)))
  all_goals go_wp2;go_meet;exact⟨rfl,rfl,jz⟩
 case rest=>
 obtain⟨rfl,rfl,mC⟩:=hcut;obtain⟨w5,qs⟩:∃w5,w5=wc:=⟨wc,rfl⟩
 subst qs;have HM5:J (M D w4 (w5.alloc (.map #[] 0))):=mC.o.go (Ta _ _ _);obtain⟨m0,m1⟩:=kN.o _ HM5.o;have hmz:(w5.alloc (.map #[] 0)).heap[w5.heap.size]? =Z (.map (JT 0 []).toArray ([]:List BV).length):=Qf _ _;have rX:=Jd6 hmz (hd,wj,q);unfold bV at rX;rw[HQ.o]at rX;have bX:(Instr.mapUpdate 141 (.map (Z w5.heap.size)) (O I 0) (aH #[L hd,O I (wj:Int),X rv])).run N (w5.alloc (.map #[] 0))=.ok () ((w5.alloc (.map #[] 0)).setBlocks w5.heap.size [(hd,wj,q)]):=rX;have HMZ:J _:=hmz;clear rX hmz HRP rO vy rV s0 s1;go_upto_region 14 with fail;obtain⟨r,hr⟩:∃r,r=w5.heap.size:=⟨_,rfl⟩
 obtain⟨w6,sU⟩:∃w6,w6=(w5.alloc (.map #[] 0)).setBlocks w5.heap.size [(hd,wj,q)]:=⟨_,rfl⟩
 obtain⟨cb,yD⟩:∃cb,cb=w6.heap.size:=⟨_,rfl⟩
 obtain⟨w7,uk⟩:∃w7,w7=w6.alloc (T #[O I (wj:Int),O I 0,.map (Z r),R Y 0 0] 143):=⟨_,rfl⟩
 have bY:=mC.o.size;have qG:=He.o.size;have t6:M D w4 w6:=by rw[sU];exact HM5.o.trans (M.setBlocks _ _ _) (λj hj=>aN (by omega))
 have t67:M D w6 w7:=by rw[uk];exact Ta _ _ _
 have cE:JR w7 cb wj 0 r [(hd,wj,q)] (R Y 0 0):=by
  refine⟨by rw[uk,yD];exact Qf _ _,?_⟩;have h6:w6.heap[r]? =Z (.map (JT 0 [(hd,wj,q)]).toArray [(hd,wj,q)].length):=by rw[sU,hr];exact Ja4 HMZ.o _
  exact(t67.block r (Jb h6) (λh=>h)).trans h6
 have gG:J (M D w w7):=(He.o.go t6).go t67;have vJ:J _:=cE;have ig:J (StAt (dgW wj) (λj=>w.heap.size<=j) w7 q st/\StOk wj st):=⟨(sS.o.1.next t6).next t67,sS.o.2⟩
 have HCR:J (w.heap.size<=cb/\w.heap.size<=r):=⟨by rw[yD];exact Qm qG t6.size,by rw[hr];exact Qm qG bY⟩
 rw[<-hr]at sU ⊢;rw[<-sU,<-yD,<-uk];clear hr sU yD uk bY qG t6 t67 cE HMZ HM5 mC bX m0 m1 jp sS He kN qI;go_wp2_with fail;refine(uC.o w7 cb r q gG.o vJ.o).mono ?_;rintro _ w8⟨rfl,lv',k1,k2,k3,k4⟩;have HK:J (JR w8 cb wj 0 r [(hd,wj,q)] lv'/\Xy base w8 lv' (recB [71] (XN wj outs))/\M (λk=>k=cb) w7 w8/\(∀k,lv'.ownBlock=Z k->w7.heap.size<=k)):=⟨k1,k2,k3,k4⟩
 clear k1 k2 k3 k4 uC;go_wp2;go_ret2;obtain⟨k1,k2,k3,k4⟩:=HK.o;have kE:=ig.o.1.refine (G:=λj=>w.heap.size<=j/\¬j=cb) (λj hj hc=>⟨hj,λe=>(by obtain⟨c,hc⟩:=hc;subst e;rw[vJ.o.row]at hc;simp at hc)⟩);exact⟨gG.o.trans k3 (λj hj=>aN (by have:=HCR.o;omega)),cb,r,q,lv',rfl,HCR.o.1,HCR.o.2,k1,(kE.tch k3 (λj hS hG=>hG.2 hS)).mono (λj h=>h.1),ig.o.2,k2,λk hk=>Qm gG.o.size (k4 k hk)⟩

theorem Jke(er:Er):JlU (erG er)=Xr er:=by cases er<;>rfl
theorem Jpz(er:Er):erG er∈Ss:=by cases er<;>decide
theorem fTip(hl:w.cell? ⟨lb,0,Y⟩=Z (X (Z ⟨cb,0,Y⟩)))(n:Int)(h:aB N 40 #[X (Z ⟨cb,0,Y⟩)] w λe w'=>e=aC (O I n)/\w=w'):
  aB N 15 #[X (Z ⟨lb,0,Y⟩)] w λe w'=>e=aC (O I n)/\w=w':=by
 have H:J (aB _ _ _ _ _):=h;clear h;go_enter func15,ntmps15;go_wp2_with fail;refine H.out.mono ?_;rintro _ _⟨rfl,rfl⟩;go_wp2;go_ret;exact⟨rfl,rfl⟩
theorem Jae(er:Er)(hE:Env E w)(hS:Sent E w)(t:TypeId)(u:aG)(hv:Jn E (erG er) w (aJ t u)):
  aB N 42 #[aJ t u] w λe w'=>e=aC (O I (Xr er))/\M D w w':=by
 refine(Jkp (erG er) (Jpz er) hE hS _ hv).mono λe w' k=>?_;rw[Jke]at k;exact⟨k.1,by rw[k.2];exact Te _ _⟩
theorem Jit(hl:w.cell? ⟨lb,0,Y⟩=Z (X (Z ⟨cb,0,Y⟩)))(k:Int)(s:BA)(h:aB N 41 #[X (Z ⟨cb,0,Y⟩),O I k] w λe w'=>M D w w'/\e=aC (aI #[L s,aK])):
  aB N 16 #[X (Z ⟨lb,0,Y⟩),O I k] w λe w'=>e=aC (aI #[L s,O I 0])/\M D w w':=by
 have H:J (aB _ _ _ _ _):=h;clear h;go_enter func16,ntmps16;go_wp2_with fail;refine H.out.mono ?_;rintro _ w1⟨ht,rfl⟩;have HT:J (M D w w1):=ht;clear ht H;go_wp2_with fail;refine(Jbb _).mono ?_;rintro _ _⟨rfl,rfl⟩;go_wp2;go_ret2;exact⟨rfl,HT.o⟩
theorem Jg7(hS:∀w',M D w w'->Env E w'/\Sent E w')(er:Er)(hl:w.cell? ⟨lb,0,Y⟩=Z (X (Z ⟨cb,0,Y⟩)))(k:Int)(h:aB N 41 #[X (Z ⟨cb,0,Y⟩),O I k] w λe w'=>M D w w'/\∃t u,e=aC (aI #[L ⟨#[]⟩,aJ t u])/\Jn E (erG er) w' (aJ t u)):
  aB N 16 #[X (Z ⟨lb,0,Y⟩),O I k] w λe w'=>e=aC (aI #[L ⟨#[]⟩,O I (Xr er)])/\M D w w':=by
 have H:J (aB _ _ _ _ _):=h;have HS:J _:=hS;go_enter func16,ntmps16;go_wp2_with fail;refine H.out.mono ?_;rintro _ w1⟨ht,t,u,rfl,he⟩;have HT:J _:=ht;have HR:J (aB _ _ _ _ _):=Jae er (HS w1 ht).1 (HS w1 ht).2 t u he;go_wp2_with fail;refine HR.o.mono ?_;rintro _ w2⟨rfl,H7⟩;have H4:J _:=H7;go_wp2;go_ret2;exact⟨rfl,HT.go H4⟩
theorem Jl2(hl:w.cell? ⟨lb,0,Y⟩=Z (X (Z ⟨cb,0,Y⟩)))(ia:Option Addr)(n ic:Nat)(s:BA)(h:aB N 45 #[X (Z ⟨cb,0,Y⟩),R ia n ic] w λe w'=>M D w w'/\e=aC (aI #[L s,aK])):
  aB N 18 #[X (Z ⟨lb,0,Y⟩),R ia n ic] w λe w'=>M D w w'/\e=aC (aI #[L s,O I 0]):=by
 have H:J (aB _ _ _ _ _):=h;clear h;go_enter func18,ntmps18;go_wp2_with fail;refine H.out.mono ?_;rintro _ w1⟨ht,rfl⟩;have HT:J (M D w w1):=ht;clear ht H;go_wp2_with fail;refine(Jbb _).mono ?_;rintro _ _⟨rfl,rfl⟩;go_wp2;go_ret2;exact⟨HT.o,rfl⟩
theorem Jfe(hS:∀w',M D w w'->Env E w'/\Sent E w')(er:Er)(hl:w.cell? ⟨lb,0,Y⟩=Z (X (Z ⟨cb,0,Y⟩)))(ia:Option Addr)(n ic:Nat)(h:aB N 45 #[X (Z ⟨cb,0,Y⟩),R ia n ic] w λe w'=>M D w w'/\∃t u,e=aC (aI #[L ⟨#[]⟩,aJ t u])/\Jn E (erG er) w' (aJ t u)):
  aB N 18 #[X (Z ⟨lb,0,Y⟩),R ia n ic] w λe w'=>M D w w'/\e=aC (aI #[L ⟨#[]⟩,O I (Xr er)]):=by
 have H:J (aB _ _ _ _ _):=h;have HS:J _:=hS;go_enter func18,ntmps18;go_wp2_with fail;refine H.out.mono ?_;rintro _ w1⟨ht,t,u,rfl,he⟩;have HT:J _:=ht;have HR:J (aB _ _ _ _ _):=Jae er (HS w1 ht).1 (HS w1 ht).2 t u he;go_wp2_with fail;refine HR.o.mono ?_;rintro _ w2⟨rfl,H7⟩;have H4:J _:=H7;go_wp2;go_ret2;exact⟨HT.go H4,rfl⟩
theorem Jiu(hl:w.cell? ⟨lb,0,Y⟩=Z (X (Z ⟨cb,0,Y⟩)))(s:BA)(Q:aA->Prop)(h:aB N 46 #[X (Z ⟨cb,0,Y⟩),L s] w λe w'=>e=aC aK/\Q w'):
  aB N 19 #[X (Z ⟨lb,0,Y⟩),L s] w λe w'=>e=aC (O I 0)/\Q w':=by
 have H:J (aB _ _ _ _ _):=h;clear h;go_enter func19,ntmps19;go_wp2_with fail;refine H.out.mono ?_;rintro _ w1⟨rfl,hq⟩;have HQ:J (Q w1):=hq;clear hq H;go_wp2_with fail;refine(Jbb _).mono ?_;rintro _ _⟨rfl,rfl⟩;go_wp2;go_ret;exact⟨rfl,HQ.o⟩
theorem Jg8(hS:∀w',M D w w'->Env E w'/\Sent E w')(er:Er)(hl:w.cell? ⟨lb,0,Y⟩=Z (X (Z ⟨cb,0,Y⟩)))(s:BA)(h:aB N 46 #[X (Z ⟨cb,0,Y⟩),L s] w λe w'=>NoTo E (erG er) w e w'):
  aB N 19 #[X (Z ⟨lb,0,Y⟩),L s] w λe w'=>e=aC (O I (Xr er))/\M D w w':=by
 have H:J (aB _ _ _ _ _):=h;have HS:J _:=hS;go_enter func19,ntmps19;go_wp2_with fail;refine H.out.mono ?_;rintro _ w1⟨ht,t,u,rfl,he⟩;have HT:J _:=ht;have HR:J (aB _ _ _ _ _):=Jae er (HS w1 ht).1 (HS w1 ht).2 t u he;go_wp2_with fail;refine HR.o.mono ?_;rintro _ w2⟨rfl,H7⟩;have H4:J _:=H7;go_wp2;go_ret;exact⟨rfl,HT.go H4⟩
theorem fNew(wj:Int)(ia:Option Addr)(n ic:Nat)(Q:aA->Nat->Prop)(h:aB N 72 #[O I wj,R ia n ic] w λe w'=>∃cb,e=aC (aI #[X (Z ⟨cb,0,Y⟩),aK])/\Q w' cb):
  aB N 37 #[O I wj,R ia n ic] w λe w'=>∃w1 cb,Q w1 cb/\w'=w1.alloc (T #[X (Z ⟨cb,0,Y⟩)] 90)/\e=aC (aI #[X (Z ⟨w1.heap.size,0,Y⟩),O I 0]):=by
 have H:J (aB _ _ _ _ _):=h;clear h;go_enter func37,ntmps37;go_wp2_with fail;refine H.out.mono ?_;rintro _ w1⟨cb,rfl,hq⟩;have HQ:J (Q w1 cb):=hq;clear hq H;go_wp2;go_ret2;exact⟨w1,cb,HQ.o,rfl,rfl⟩

def JnL(aY:TypeId):Prop:=aY=90\/aY=143\/aY=243\/aY=5
structure Zv(wj base pn:Nat)(w:aA)(lb:Nat)(F:Nat->Prop)(fl:Nat)(ch:Ch)(lg:List UInt8)(cb r:Nat)(bs:List BV)(lv:aG):Prop where
 led:w.heap[lb]? =Z (T #[X (Z ⟨cb,0,Y⟩)] 90)
 row:JR w cb wj fl r bs lv
 log:Xy base w lv lg
 len:bs.length=ch.length
 pos:fl<ch.length
 most:ch.length<=134217728
 short:lg.length<=1000100*ch.length+100*pn
 few:pn<=134217728
 hdr:∀(i:Nat) b c,bs[i]? =Z b->ch[i]? =Z c->b.1=c.1/\b.1.size<=1000
 st:∀(i:Nat) b c,bs[i]? =Z b->ch[i]? =Z c->fl<=i->b.2.1=wj/\StAt (dgW wj) F w b.2.2 c.2/\StOk wj c.2
 gone:∀(i:Nat) b,bs[i]? =Z b->i<fl->b.2=(0,Y)
 ownL:F lb
 ownC:F cb
 ownR:F r
 ownG:∀k,lv.ownBlock=Z k->F k
 low:∀j,F j->base<=j/\j<w.heap.size
 kind:∀j,F j->∀cur aY m,w.heap[j]? =Z (T cur aY m)->JnL aY
theorem JR.tch(h:JR w cb wj fl r bs v)(k:M S w w')(h1:¬S cb)(h2:¬S r):JR w' cb wj fl r bs v:=
 ⟨(k.block _ (Jb h.row) h1).trans h.row,(k.block _ (Jb h.map) h2).trans h.map⟩
theorem Zv.keep(h:Zv wj base pn w lb F fl ch lg cb r bs lv)(k:M S w w')(hs:∀j,S j->¬F j):Zv wj base pn w' lb F fl ch lg cb r bs lv where
 led:=(k.block _ (Jb h.led) (λe=>hs _ e h.ownL)).trans h.led
 row:=h.row.tch k (λe=>hs _ e h.ownC) (λe=>hs _ e h.ownR)
 log:=h.log.tch k (λj hj e=>hs _ e (h.ownG j hj))
 len:=h.len
 pos:=h.pos
 most:=h.most
 short:=h.short
 few:=h.few
 hdr:=h.hdr
 st:=λi b c h1 h2 h3=>⟨(h.st i b c h1 h2 h3).1,(h.st i b c h1 h2 h3).2.1.tch k hs,(h.st i b c h1 h2 h3).2.2⟩
 gone:=h.gone
 ownL:=h.ownL
 ownC:=h.ownC
 ownR:=h.ownR
 ownG:=h.ownG
 low:=λj hj=>⟨(h.low j hj).1,Qk (h.low j hj).2 k.size⟩
 kind:=λj hj cur aY m hr=>h.kind j hj cur aY m ((k.block j (h.low j hj).2 (λe=>hs j e hj)).symm.trans hr)
def Jqh(wj base pn:Nat)(w:aA)(lb:Nat)(F:Nat->Prop)(fl:Nat)(ch:Ch):Prop:=∃lg cb r bs lv,Zv wj base pn w lb F fl ch lg cb r bs lv
theorem Zv.last(h:Zv wj base pn w lb F fl ch lg cb r bs lv):
  ∃m bh q st,ch.length=m+1/\bs.length=m+1/\bs[m]? =Z (bh,wj,q)/\ch[m]? =Z (bh,st)/\bh.size<=1000/\StAt (dgW wj) F w q st/\StOk wj st/\ch.last=(bh,st):=by
 have hp:=h.pos;obtain⟨m,hm⟩:∃m,ch.length=m+1:=⟨ch.length-1,by omega⟩
 have bZ:bs.length=m+1:=by rw[h.len,hm]
 have hb:bs[m]? =Z (bs[m]'(by omega)):=Qd (by omega);have hc:ch[m]? =Z (ch[m]'(by omega)):=Qd (by omega);generalize bs[m]'(by omega)=b at hb;obtain⟨e1,e2⟩:=h.hdr m _ _ hb hc;obtain⟨e3,e4,e5⟩:=h.st m _ _ hb hc (by omega);have jt:ch.last=ch[m]'(by omega):=by
  unfold Ch.last;rw[List.getLastD_eq_getLast?,List.getLast?_eq_getElem?];have e:ch.length-1=m:=by omega
  rw[e,hc];rfl
 generalize uR:ch[m]'(by omega)=c at *;obtain⟨b1,b2,b3⟩:=b;obtain⟨c1,c2⟩:=c;simp only at e1 e3 e4 e5;subst e1 e3;exact⟨m,b1,b3,c2,hm,bZ,hb,hc,e2,e4,e5,jt⟩
theorem Xx.next(h:Xx E base w)(k:M D w w'):Env E w'/\Sent E w':=⟨(h.tch k (λ_ e=>e.elim)).env,(h.tch k (λ_ e=>e.elim)).sent⟩
theorem Zv.more{lv':aG}(h:Zv wj base pn w lb F fl ch lg cb r bs lv)(hc:ch.length<134217728){hd:BA}{st:Option Tr}{q:Option Nat}{ext:List UInt8}(hx:ext.length<=1000100)
 (hR:JR w' cb wj fl r (bs++[(hd,wj,q)]) lv') (hS:StAt (dgW wj) (λj=>(F j/\¬Z j=lv.ownBlock)\/w.heap.size<=j) w' q st) (hk:StOk wj st) (hL:Xy base w' lv' (lg++ext)) (hT:M (λk=>k=cb\/k=r\/Z k=lv.ownBlock) w w') (hM:Jq w lv.ownBlock lv'.ownBlock) (hh:hd.size<=1000) (gX:base<=w.heap.size):
  ∃F':Nat->Prop,(∀j,F' j->F j\/w.heap.size<=j)/\Zv wj base pn w' lb F' fl (ch++[(hd,st)]) (lg++ext) cb r (bs++[(hd,wj,q)]) lv':=by
 have hTF:∀j,(j=cb\/j=r\/Z j=lv.ownBlock)->F j:=λj hj=>by
  rcases hj with rfl|rfl|e
  ·exact h.ownC
  ·exact h.ownR
  ·exact h.ownG j e.symm
 have hnew:∀k,lv'.ownBlock=Z k->F k\/w.heap.size<=k:=λk hk=>by
  rcases hM with e|⟨i,e,hi⟩
  ·exact aM (h.ownG k (by rw[<-e];exact hk))
  ·rw[hk]at e;cases e;exact aN hi
 have pG:lb ≠ cb/\lb ≠ r/\¬Z lb=lv.ownBlock:=by
  refine⟨λe=>?_,λe=>?_,λe=>?_⟩
  ·have:=h.led;rw[e,h.row.row]at this;simp at this
  ·have:=h.led;rw[e,h.row.map]at this;simp at this
  ·obtain⟨cu,mm,hr⟩:=h.log.kind lb e.symm;rw[h.led]at hr;simp at hr
 refine⟨λj=>(F j/\¬(Z j=lv.ownBlock/\¬lv'.ownBlock=Z j))\/(w.heap.size<=j/\((∃c,w'.heap[j]? =Z (T c 243))\/lv'.ownBlock=Z j)),λj hj=>hj.imp (λe=>e.1) (λe=>e.1),?_⟩;have hFF:∀j,F j->¬Z j=lv.ownBlock->(F j/\¬(Z j=lv.ownBlock/\¬lv'.ownBlock=Z j))\/(w.heap.size<=j/\((∃c,w'.heap[j]? =Z (T c 243))\/lv'.ownBlock=Z j)):=λj hj hn=>aM ⟨hj,λe=>hn e.1⟩;have Hd:=h.log.ne_row h.row;exact {
  led:=(hT.block _ (Jb h.led) (λe=>by rcases e with e|e|e;exact pG.1 e;exact pG.2.1 e;exact pG.2.2 e)).trans h.led
  row:=hR
  log:=hL
  len:=by rw[Qe,Qe,h.len];rfl
  pos:=by rw[Qe];have:=h.pos;omega
  most:=by rw[Qe];simp only[Qp,Qv];omega
  short:=by rw[Qe,Qe];simp only[Qp,Qv];have:=h.short;omega
  few:=h.few
  hdr:=λi b c h1 h2=>by
   by_cases hi:i<bs.length
   ·rw[QF hi]at h1;rw[QF (by have:=h.len;omega)]at h2;exact h.hdr i b c h1 h2
   ·rw[Qz (by omega)]at h1;rw[Qz (by have:=h.len;omega)]at h2;have e0:i-bs.length=0:=(by have:=(Qo.1 h1).1;simp at this;omega);rw[e0]at h1;rw[<-h.len,e0]at h2;simp only[List.getElem?_cons_zero,Qh]at h1 h2;subst h1 h2;exact⟨rfl,hh⟩
  st:=λi b c h1 h2 h3=>by
   by_cases hi:i<bs.length
   ·rw[QF hi]at h1;rw[QF (by have:=h.len;omega)]at h2;obtain⟨k1,k2,k3⟩:=h.st i b c h1 h2 h3;have k4:=k2.refine (G:=λj=>F j/\¬(j=cb\/j=r\/Z j=lv.ownBlock)) (λj hj hc=>⟨hj,λe=>by
     obtain⟨cc,hc⟩:=hc
     rcases e with rfl|rfl|e
     ·rw[h.row.row]at hc;simp at hc
     ·rw[h.row.map]at hc;simp at hc
     ·obtain⟨cu,mm,hr⟩:=h.log.kind j e.symm;rw[hc]at hr;simp at hr⟩)
    exact⟨k1,(k4.tch hT (λj hj hG=>hG.2 hj)).mono (λj hj=>hFF j hj.1 (λe=>hj.2 (aN (aN e)))),k3⟩
   ·rw[Qz (by omega)]at h1;rw[Qz (by have:=h.len;omega)]at h2;have e0:i-bs.length=0:=(by have:=(Qo.1 h1).1;simp at this;omega);rw[e0]at h1;rw[<-h.len,e0]at h2;simp only[List.getElem?_cons_zero,Qh]at h1 h2;subst h1 h2;exact⟨rfl,hS.refine (λj hj hc=>hj.imp (λe=>⟨e.1,λe2=>e.2 e2.1⟩) (λe=>⟨e,aM hc⟩)),hk⟩
  gone:=λi b h1 h2=>by
   rw[QF (by have:=h.pos;have:=h.len;omega)]at h1;exact h.gone i b h1 h2
  ownL:=hFF _ h.ownL pG.2.2
  ownC:=hFF _ h.ownC Hd.1
  ownR:=hFF _ h.ownR Hd.2
  ownG:=λk hk=>(hnew k hk).imp (λe=>⟨e,λe2=>e2.2 hk⟩) (λe=>⟨e,aN hk⟩)
  low:=λj hj=>by
   rcases hj with⟨hj,hjn⟩|⟨hj,hc|hc⟩
   ·exact⟨(h.low j hj).1,Qk (h.low j hj).2 hT.size⟩
   ·obtain⟨c,hc⟩:=hc;exact⟨by omega,(Jb hc)⟩
   ·exact⟨by omega,(hL.bs.own j hc).2⟩
  kind:=λj hj cur aY m hr=>by
   rcases hj with⟨hj,hjn⟩|⟨hj,hc|hc⟩
   ·by_cases e:j=cb\/j=r\/Z j=lv.ownBlock
    ·rcases e with rfl|rfl|e
     ·rw[hR.row]at hr;simp at hr;exact aN (aM hr.2.1.symm)
     ·rw[hR.map]at hr;simp at hr
     ·obtain⟨cu,mm,kj⟩:=h.log.kind j e.symm
      by_cases e2:lv'.ownBlock=Z j
      ·obtain⟨cu',mm',Hp⟩:=hL.kind j e2;rw[hr]at Hp;simp at Hp;exact aN (aN (aN Hp.2.1))
      ·exact absurd ⟨e,e2⟩ hjn
    ·exact h.kind j hj cur aY m ((hT.block j (h.low j hj).2 e).symm.trans hr)
   ·obtain⟨c,hc⟩:=hc;rw[hr]at hc;simp at hc;exact aN (aN (aM hc.2.1))
   ·obtain⟨cu',mm',Hp⟩:=hL.kind j hc;rw[hr]at Hp;simp at Hp;exact aN (aN (aN Hp.2.1)) }

theorem Jhe{h:HdL}(k:HdOk wj h):(Hn h).length=4+3*wj:=by
 unfold Hn;simp only[Qe,Jf,QA];have h1:h.2.1.data.size=wj:=k.a;have h2:h.2.2.1.data.size=wj:=k.b;have h3:h.2.2.2.data.size=wj:=k.c;omega
theorem JhE{lv:List Lv}(h:RfAt wj base w rb G ch vL lv b)(hl:ch.length<=1000000000):
  aB N 118 #[X (Z ⟨rb,0,Y⟩)] w λe w'=>e=aC (O I ((ch.length:Int)-1))/\M D w w':=by
 have Hd:lv ≠ []:=λe=>by have:=h.len;rw[e]at this;simp at this;omega
 obtain⟨g,cap,hv,hg,hc⟩:=h.lvs.at Hd;rw[h.len.1]at hv;subst hv;obtain⟨-,q1⟩:=rows h.row;have h1:=h.len.2;have Hf:I.wrap ((ch.length:Int)-1)=(ch.length:Int)-1:=w63 _ (by omega) (by omega);go_enter func118,ntmps118;go_wp2;go_ret;exact⟨rfl,Te _ _⟩
theorem Jca(hw:wj<=32){lv:List Lv}(h:RfAt wj base w rb G ch vL lv b)(hl:ch.length<=1000000000)(i:Nat)(c:BA×Option Tr)(hi:ch[i]? =Z c):
  aB N 183 #[X (Z ⟨rb,0,Y⟩),O I (i:Int)] w λe w'=>e=aC (L c.1)/\M D w w':=by
 have qm:=(Qo.1 hi).1;have Hd:lv ≠ []:=λe=>by have:=h.len;rw[e]at this;simp at this;omega
 obtain⟨g,cap,hv,hg,hc⟩:=h.lvs.at Hd;obtain⟨q0,q1,q2,q3⟩:=hc i (by rw[h.len.1];exact qm);obtain⟨Hb,(HH:J _)⟩:=h.hdr i _ c (Qd (by rw[h.len.1];exact qm)) hi;rw[h.len.1]at hv;subst hv;obtain⟨-,p1⟩:=rows h.row;generalize lv[i]'(by rw[h.len.1];exact qm)=x at *;obtain⟨⟨xa,xb,xc⟩,xs⟩:=x;have Hl:=Jhe Hb;have s1:xa.data.toList.length=wj:=by rw[QA];exact Hb.a
 have s2:xb.data.toList.length=wj:=by rw[QA];exact Hb.b
 have s3:xc.data.toList.length=wj:=by rw[QA];exact Hb.c
 have yH:J (∀V,_):=λV=>XU i 4 V (by omega);have yq:lH.wrap (i:Int)=(i:Int):=by simp[lF,lG,lE];omega
 have a1:=JO (beL i 4 4) xa.data.toList (by rw[Jf];omega);have a2:=JO (beL i 4 4++xa.data.toList) xb.data.toList (by simp only[Qe,Jf];omega);have a3:=JO (beL i 4 4++xa.data.toList++xb.data.toList) xc.data.toList (by simp only[Qe,Jf];omega);have HX:J ((⟨(beL i 4 4++xa.data.toList++xb.data.toList++xc.data.toList).toArray⟩:BA)=c.1):=by show _=c.1;rw[HH.o];simp[Hn,lvH]
 simp only[lM]at a1 a2 a3;have e1:∀y:BA,(⟨y.data⟩:BA)=y:=λy=>rfl;rw[e1]at a1 a2 a3;generalize (⟨(beL i 4 4++xa.data.toList++xb.data.toList++xc.data.toList).toArray⟩:BA)=X3 at *;generalize (⟨(beL i 4 4++xa.data.toList++xb.data.toList).toArray⟩:BA)=X2 at *;generalize (⟨(beL i 4 4++xa.data.toList).toArray⟩:BA)=X1 at *;generalize (⟨(beL i 4 4).toArray⟩:BA)=X0 at *;have hii:(i:Int)<(ch.length:Int):=by omega
 simp only at q0 q1 q2 q3;go_enter func183,ntmps183;go_wp2_with fail;have kF:J (∀V,M D (w.alloc (T #[L xa,L xb,L xc,R xs.1 xs.2.1 xs.2.2] 205)) V->V.cell? ⟨w.heap.size,0,Y⟩=Z (L xa)/\V.cell? ⟨w.heap.size,1,Y⟩=Z (L xb)/\V.cell? ⟨w.heap.size,2,Y⟩=Z (L xc)):=λV hV=>by
  have hr:=(hV.block _ (by simp) (λh=>h)).trans (Qf w (T #[L xa,L xb,L xc,R xs.1 xs.2.1 xs.2.2] 205));exact⟨Ja hr,Ja hr,Ja hr⟩
 have mD:J (M D w (w.alloc (T #[L xa,L xb,L xc,R xs.1 xs.2.1 xs.2.2] 205))):=Ta _ _ _;obtain⟨wA,gH⟩:∃wA,wA=w.alloc (T #[L xa,L xb,L xc,R xs.1 xs.2.1 xs.2.2] 205):=⟨_,rfl⟩
 rw[<-gH]at kF mD;rw[<-gH];clear gH q0 q1 q2 q3 p1;obtain⟨z0,z1,z2⟩:=kF wA (Te _ _);go_region_held3 (λV=>V.cell? ⟨w.heap.size,0,Y⟩=Z (L xa)/\V.cell? ⟨w.heap.size,1,Y⟩=Z (L xb)/\V.cell? ⟨w.heap.size,2,Y⟩=Z (L xc)) (go_keep) ((go_at_call 171;refine(yH _).mono ?_;rintro _ w1⟨rfl,H6⟩;have H3:J _:=(Td D wA 1).trans H6 (λ_ h=>aM h);obtain⟨y0,y1,y2⟩:=kF w1 H3.o;clear H6))
 all_goals go_wp2;go_ret;exact⟨by rw[<-HX.o];rfl,mD.trans H3 noE⟩
theorem r_id(hD:DgC)(Hf:1<=wj)(hw:wj<=32){lv:List Lv}(h:RfAt wj base w rb G ch vL lv b)(hl:ch.length<=1000000000)(i:Nat)(c:BA×Option Tr)(hi:ch[i]? =Z c):
  aB N 172 #[X (Z ⟨rb,0,Y⟩),O I (i:Int)] w λe w'=>e=aC (L (dgW wj (72::c.1.data.toList)))/\M D w w':=by
 have qm:i<lv.length:=by rw[h.len.1];exact(Qo.1 hi).1
 obtain⟨Hb,hh⟩:=h.hdr i _ c (Qd qm) hi;have Hl:=Jhe Hb;have uD:c.1.data.toList.length=4+3*wj:=by rw[hh];simpa using Hl
 have HHT:J (∀V,M D w V->_):=λV hV=>Jca hw (h.tch hV (λ_ e=>e.elim)) hl i c hi;have HP:J (∀V,M D w V->V.cell? ⟨rb,0,Y⟩=Z (O I (wj:Int))):=λV hV=>Ja (h.tch hV (λ_ e=>e.elim)).row;have a1:=JO [72] c.1.data.toList (by rw[uD];simp;omega);simp only[lM]at a1;have e1:∀y:BA,(⟨y.data⟩:BA)=y:=λy=>rfl;rw[e1]at a1;have a1':∀W,(Op.stringOp .add (⟨#[72]⟩:BA) c.1).run N W=.ok (L ⟨(72::c.1.data.toList).toArray⟩) W:=a1;have gd:J (∀V,_):=λV=>hD wj ⟨(72::c.1.data.toList).toArray⟩ V Hf hw (by rw[Jh,Qp,uD];omega);obtain⟨aV,hDD⟩:∃aV,aV=dgW wj (72::c.1.data.toList):=⟨_,rfl⟩
 rw[<-hDD]at gd;rw[<-hDD];clear hDD;generalize (⟨(72::c.1.data.toList).toArray⟩:BA)=aX at *;have z0:=HP w (Te _ _);clear h Hb hh Hl uD a1 e1;generalize c.1=c1 at *;go_enter func172,ntmps172;go_wp2_with fail;go_region_held3 (λV=>V.cell? ⟨rb,0,Y⟩=Z (O I (wj:Int))) (go_keep) ((first|(go_at_call 183;refine(HHT _ (Td _ _ 1)).mono ?_;rintro _ w1⟨rfl,H6⟩;have H3:J _:=(Td D w 1).trans H6 (λ_ h=>aM h);have y0:=HP w1 H3.o;clear H6)|(go_at_call 103;refine(gd _).mono ?_;rintro _ w2⟨rfl,H7⟩;have H4:J _:=H3.trans H7 (λ_ h=>aM h);have x0:=HP w2 H4.o;clear H7)))
 all_goals go_wp2;go_ret;exact⟨rfl,H4⟩
theorem JhA(hw:wj<=32){lv:List Lv}(h:RfAt wj base w rb G ch vL lv b)(hl:ch.length<=1000000000)(n:Int)(qu: -9223372036854775808<=n)(jT:n<9223372036854775808):
  aB N 119 #[X (Z ⟨rb,0,Y⟩),O I n] w λe w'=>e=aC (aI #[L (ZD ch n),O I (if 0<=n/\n<(ch.length:Int) then 0 else 7)])/\M D w w':=by
 have zl:J (∀V,M D w V->_):=λV hV=>JhE (h.tch hV (λ_ e=>e.elim)) hl;have h1:=h.len.2
 by_cases hneg:n<0
 ·have HX:J (ZD ch n=⟨#[]⟩/\(if 0<=n/\n<(ch.length:Int) then (0:Int) else 7)=7):=⟨by unfold ZD;rw[if_neg (by omega)],if_neg (by omega)⟩
  go_enter func119,ntmps119;go_wp2;go_ret2;refine⟨?_,Te _ _⟩
  first|rw[HX.o.1,HX.o.2]|rw[HX.o.1]
  rfl
 ·by_cases hgt:(ch.length:Int)-1<n
  ·have HX:J (ZD ch n=⟨#[]⟩/\(if 0<=n/\n<(ch.length:Int) then (0:Int) else 7)=7):=by
    refine⟨?_,if_neg (by omega)⟩;unfold ZD;rw[if_pos (by omega),Qn,lK (by omega)];rfl
   go_enter func119,ntmps119;go_wp2_with (go_at_call 118;refine(zl _ (Te _ _)).mono ?_;rintro _ w1⟨rfl,(H3:J _)⟩);go_ret2;refine⟨?_,H3⟩
   first|rw[HX.o.1,HX.o.2]|rw[HX.o.1]
   rfl
  ·obtain⟨i,rfl⟩:∃i:Nat,n=(i:Int):=⟨n.toNat,by omega⟩
   have hic:i<ch.length:=(by omega);have hi:=Qd hic;have HHT:J (∀V,M D w V->_):=λV hV=>Jca hw (h.tch hV (λ_ e=>e.elim)) hl i ch[i] hi;have HX:J (ZD ch (i:Int)=ch[i].1/\(if 0<=(i:Int)/\(i:Int)<(ch.length:Int) then (0:Int) else 7)=0):=(by refine⟨?_,if_pos (by omega)⟩;unfold ZD;rw[if_pos (by omega),Int.toNat_natCast,Qn,hi];rfl);generalize ch[i].1=c1 at *;clear h qu jT hi;go_enter func119,ntmps119;go_wp2_with (first|(go_at_call 118;refine(zl _ (Te _ _)).mono ?_;rintro _ w1⟨rfl,(H3:J _)⟩)|(go_at_call 183;refine(HHT _ H3).mono ?_;rintro _ w2⟨rfl,H7⟩;have H4:J _:=H3.trans H7 (λ_ h=>aM h);clear H7));go_ret2;refine⟨?_,H4⟩
   first|rw[HX.o.1,HX.o.2]|rw[HX.o.1]
   rfl

theorem JlZ{n:Nat}(h:n<=32)(l:List UInt8):(dgW n l).data.toList.length=n:=by rw[QA];exact Jj n h l

theorem JmW(hD:DgC)(k c:List UInt8)(hk:k.length=1)(hc:c.length<=100000)(w:aA):
  aB N 169 #[L ⟨k.toArray⟩,L ⟨c.toArray⟩] w λe w'=>e=aC (L ⟨(recB k c).toArray⟩)/\M D w w':=by
 have yH:J (∀V,_):=λV=>XU c.length 2 V (by omega);have yq:lH.wrap (c.length:Int)=(c.length:Int):=by simp[lF,lG,lE];omega
 have Hi:=Jh c;have a1:=JO k (beL c.length 2 2) (by rw[Jf];omega);have a2:=JO (k++beL c.length 2 2) c (by rw[Qe,Jf];omega);have e1:k++beL c.length 2 2++c=recA k c:=by unfold recA;simp
 rw[e1]at a2;have hra:(recA k c).length=3+c.length:=by rw[<-e1];simp[Jf];omega
 obtain⟨aV,mE,hDs⟩:∃aV:BA,dgW 4 (recA k c)=aV/\aV.data.toList.length=4:=⟨_,rfl,JlZ (by omega) _⟩
 have a3:=JO (recA k c) aV.data.toList (by omega);simp only[lM]at a3;have e2:∀y:BA,(⟨y.data⟩:BA)=y:=λy=>rfl;rw[e2]at a3;have gd:J (∀V,aB N 103 #[O I 4,L ⟨(recA k c).toArray⟩] V λe w'=>e=aC (L aV)/\M D V w'):=λV=>by
  have:=hD 4 ⟨(recA k c).toArray⟩ V (by omega) (by omega) (by rw[Jh];omega);rw[show (⟨(recA k c).toArray⟩:BA).data.toList=recA k c from rfl,mE]at this;exact this
 have HX:J ((⟨(recA k c++aV.data.toList).toArray⟩:BA)=⟨(recB k c).toArray⟩):=by show _=_;unfold recB;rw[mE]
 generalize (⟨(recA k c++aV.data.toList).toArray⟩:BA)=X3 at *;generalize (⟨(recA k c).toArray⟩:BA)=X2 at *;generalize (⟨(k++beL c.length 2 2).toArray⟩:BA)=X1 at *;generalize (⟨(beL c.length 2 2).toArray⟩:BA)=X0 at *;generalize (⟨c.toArray⟩:BA)=cb at *;generalize (⟨k.toArray⟩:BA)=kb at *;go_enter func169,ntmps169;go_wp2_with (first|(go_at_call 171;refine(yH _).mono ?_;rintro _ w1⟨rfl,(H3:J _)⟩)|(go_at_call 103;refine(gd _).mono ?_;rintro _ w2⟨rfl,H7⟩;have H4:J _:=H3.trans H7 (λ_ h=>aM h)));go_ret;exact⟨by rw[<-HX.o];rfl,H4⟩
theorem Jei(k c:List UInt8)(hk:k.length=1):(recB k c).length=7+c.length:=by
 unfold recB;obtain⟨aV,mE,hDs⟩:∃aV:BA,dgW 4 (recA k c)=aV/\aV.data.toList.length=4:=⟨_,rfl,JlZ (by omega) _⟩
 rw[mE,Qe,hDs];unfold recA;rw[Qe,Qe,Jf];omega
theorem JjP(hD:DgC)(k c:List UInt8)(hk:k.length=1)(hc:c.length<=100000)(w:aA)(rb:Nat)(x y z:aG)(b:BA)(hb:b.size<=1100000000)(hZ:w.heap[rb]? =Z (T #[x,y,z,L b] 208)):
  aB N 107 #[X (Z ⟨rb,0,Y⟩),L ⟨k.toArray⟩,L ⟨c.toArray⟩] w λe w'=>e=aC (aI #[])/\M (λj=>j=rb) w w'/\w'.heap[rb]? =Z (T #[x,y,z,L (b++⟨(recB k c).toArray⟩)] 208):=by
 have qi:J (∀V,_):=λV=>JmW hD k c hk hc V;have hl:=Jei k c hk;have gW:∀W,_:=λW=>run_string_add_sum (P:=N) W b _ (by
  have h2:(⟨(recB k c).toArray⟩:BA).size=7+c.length:=by rw[Jh,hl]
  rw[h2];omega)
 have sY:J _:=hZ;have HV:J (∀V,M D w V->_):=λV hV=>(hV.block _ (Jb sY) (λh=>h)).trans sY.o;obtain⟨-, -, -,q3⟩:=rows hZ;generalize (⟨(recB k c).toArray⟩:BA)=aW at *;generalize (⟨c.toArray⟩:BA)=cb at *;generalize (⟨k.toArray⟩:BA)=kb at *;generalize hBR:b++aW=BR at *;go_enter func107,ntmps107;go_wp2_with fail;refine Xn (S:=λV=>V.cell? ⟨rb,3,Y⟩=Z (L b)/\J (M D w V)) 20 (by simp) (by kernel_rfl) (by kernel_rfl) ⟨q3,Td _ _ 1⟩ ?_;intro hHeld l o hl ho;simp only[List.dropLast_cons_cons,List.dropLast_singleton]at hl;simp only[List.getLast_cons_cons,List.getLast_singleton]at ho;subst hl;subst ho;simp only[Qp,Qv,Nat.reduceAdd];refine Ja6 (i:=0) (v:=?vc0) rfl (by kernel_rfl) (by kernel_rfl) (by kernel_rfl) (λ_ _ _ h=>h) rfl ?hc0 (by assumption) ?rc0
 case hc0=>(intro W qv;(try dsimp only at qv);go_simp;(try with_reducible rfl))
 simp only[lJ,Qa,Qb,Qc];refine Ja6 (i:=1) (v:=?vc1) rfl (by kernel_rfl) (by kernel_rfl) (by kernel_rfl) (λ_ _ _ h=>h) rfl ?hc1 (by assumption) ?rc1
 case hc1=>(intro W qv;(try dsimp only at qv);go_simp;(try with_reducible rfl))
 simp only[lJ,Qa,Qb,Qc];refine Ja6 (i:=2) (v:=?vc2) rfl (by kernel_rfl) (by kernel_rfl) (by kernel_rfl) (λ_ _ _ h=>h) rfl ?hc2 (by assumption) ?rc2
 case hc2=>(intro W qv;(try dsimp only at qv);go_simp;(try with_reducible rfl))
 simp only[lJ,Qa,Qb,Qc];refine Ja6 (i:=3) (v:=?vc3) rfl (by kernel_rfl) (by kernel_rfl) (by kernel_rfl) (λ_ _ _ h=>h) rfl ?hc3 (by assumption) ?rc3
 case hc3=>(intro W qv;(try dsimp only at qv);go_simp;(try with_reducible rfl))
 simp only[lJ,Qa,Qb,Qc];refine Ja6 (i:=4) (v:=?vc4) rfl (by kernel_rfl) (by kernel_rfl) (by kernel_rfl) (λ_ _ _ h=>h) rfl ?hc4 (by assumption) ?rc4
 case hc4=>(intro W qv;(try dsimp only at qv);go_simp;(try with_reducible rfl))
 simp only[lJ,Qa,Qb,Qc];refine Ja6 (i:=5) (v:=?vc5) rfl (by kernel_rfl) (by kernel_rfl) (by kernel_rfl) (λ_ _ _ h=>h) rfl ?hc5 (by assumption) ?rc5
 case hc5=>(intro W qv;(try dsimp only at qv);go_simp;(try with_reducible rfl))
 simp only[lJ,Qa,Qb,Qc];refine Ja6 (i:=6) (v:=?vc6) rfl (by kernel_rfl) (by kernel_rfl) (by kernel_rfl) (λ_ _ _ h=>h) rfl ?hc6 (by assumption) ?rc6
 case hc6=>(intro W qv;(try dsimp only at qv);go_simp;(try with_reducible rfl))
 simp only[lJ,Qa,Qb,Qc];refine JaI (i:=7) rfl (by kernel_rfl) (λK hK=>?_);go_simp;go_at_call 169;refine(qi _).mono ?_;rintro _ w1⟨rfl,H6⟩;have H3:J (M D w w1):=(hHeld.2.out.trans H6 (λ_ h=>aM h));have kD:=HV w1 H3.o;have q1:w1.cell? ⟨rb,3,Y⟩=Z (L b):=Ja kD;have z1:w1.frozen? ⟨rb,3,Y⟩=false:=(by simp[World.frozen?,kD]);have ki:J (w1.setCell ⟨rb,3,Y⟩ (L BR)=w1.setRow rb #[x,y,z,L BR]):=Qj w1 rb 3 _ _ _ _ kD;have jl:J (w1.heap[rb]? =_):=kD;refine hK _ _ ⟨q1,H3⟩ (λ_=>?_)
 try simp only[lJ,Qa,Qb,Qc]
 refine Ja6 (i:=8) (v:=?vc8) rfl (by kernel_rfl) (by kernel_rfl) (by kernel_rfl) (λ_ _ _ h=>h) rfl ?hc8 (by assumption) ?rc8
 case hc8=>(intro W qv;(try dsimp only at qv);go_simp;(try with_reducible rfl))
 simp only[lJ,Qa,Qb,Qc];refine Ja6 (i:=9) (v:=?vc9) rfl (by kernel_rfl) (by kernel_rfl) (by kernel_rfl) (λ_ _ _ h=>h) rfl ?hc9 (by assumption) ?rc9
 case hc9=>(intro W qv;(try dsimp only at qv);go_simp;(try with_reducible rfl))
 simp only[lJ,Qa,Qb,Qc];refine Ja6 (i:=10) (v:=?vc10) rfl (by kernel_rfl) (by kernel_rfl) (by kernel_rfl) (λ_ _ _ h=>h) rfl ?hc10 (by assumption) ?rc10
 case hc10=>(intro W qv;(try dsimp only at qv);go_simp;(try with_reducible rfl))
 simp only[lJ,Qa,Qb,Qc];refine wpAnyH_done (by kernel_rfl) ?_ _;show wpList _ _ _ [_] _ _;go_wp2;refine bodyPost_end (v:=aI #[]) (results_none results107 _ _ _) rfl ?_;refine⟨rfl,?_,?_⟩
 ·rw[ki.o];exact(H3.mono noE).trans (Ts _ _ _) (λ_ h=>aM h)
 ·rw[ki.o];exact Qi _ _ _ _ _ _ jl.o

def RLv(wj:Nat)(ch:Ch)(ts:List TxL)(G:Nat->Prop)(w:aA)(e:Ending)(w':aA):Prop:=
 M D w w'/\match JH (dgW wj) ch.last.2 ts with
 | .error er=>e=aC (aI #[aH #[L ⟨#[]⟩,L ⟨#[]⟩,L ⟨#[]⟩,R Y 0 0],O I (Xr er)])
 | .ok st=>∃(s:Sl)(l:List H9),e=aC (aI #[aH #[L (dgW wj (72::ch.last.1.data.toList)),L (dgW wj (66::JL ts)),L (Xh (dgW wj) st),R s.1 s.2.1 s.2.2],O I 0])/\RhAt w' (R s.1 s.2.1 s.2.2) l/\Book wj st l/\l.length<=9*(ch.length+1)/\∀j,(lT s.1 s.2.1 s.2.2).ownBlock=Z j->G j\/w.heap.size<=j
theorem Jmt{g:Nat}{a b c d:aG}{aY:TypeId}(h:w.heap[g]? =Z (T #[a,b,c,d] aY))(x0 x1 x2 x3:aG):
  ((((w.setCell ⟨g,0,Y⟩ x0).setCell ⟨g,1,Y⟩ x1).setCell ⟨g,2,Y⟩ x2).setCell ⟨g,3,Y⟩ x3).heap[g]? =Z (T #[x0,x1,x2,x3] aY)/\M (λx=>x=g) w ((((w.setCell ⟨g,0,Y⟩ x0).setCell ⟨g,1,Y⟩ x1).setCell ⟨g,2,Y⟩ x2).setCell ⟨g,3,Y⟩ x3):=by
 have h0:=Qi w g _ #[x0,b,c,d] aY _ h;have e0:w.setCell ⟨g,0,Y⟩ x0=w.setRow g #[x0,b,c,d]:=Qj w g 0 _ _ _ _ h;rw[<-e0]at h0;have t0:M (λx=>x=g) w (w.setCell ⟨g,0,Y⟩ x0):=by rw[e0];exact Ts _ _ _
 generalize w.setCell ⟨g,0,Y⟩ x0=w0 at *;have h1:=Qi w0 g _ #[x0,x1,c,d] aY _ h0;have e1:w0.setCell ⟨g,1,Y⟩ x1=w0.setRow g #[x0,x1,c,d]:=Qj w0 g 1 _ _ _ _ h0;rw[<-e1]at h1;have t1:M (λx=>x=g) w (w0.setCell ⟨g,1,Y⟩ x1):=by rw[e1];exact t0.trans (Ts _ _ _) (λ_ h=>aM h)
 generalize w0.setCell ⟨g,1,Y⟩ x1=w1 at *;have h2:=Qi w1 g _ #[x0,x1,x2,d] aY _ h1;have e2:w1.setCell ⟨g,2,Y⟩ x2=w1.setRow g #[x0,x1,x2,d]:=Qj w1 g 2 _ _ _ _ h1;rw[<-e2]at h2;have t2:M (λx=>x=g) w (w1.setCell ⟨g,2,Y⟩ x2):=by rw[e2];exact t1.trans (Ts _ _ _) (λ_ h=>aM h)
 generalize w1.setCell ⟨g,2,Y⟩ x2=w2 at *;have h3:=Qi w2 g _ #[x0,x1,x2,x3] aY _ h2;have e3:w2.setCell ⟨g,3,Y⟩ x3=w2.setRow g #[x0,x1,x2,x3]:=Qj w2 g 3 _ _ _ _ h2;rw[<-e3]at h3;exact⟨h3,by rw[e3];exact t2.trans (Ts _ _ _) (λ_ h=>aM h)⟩
theorem Jhk(ch:Ch)(h:1<=ch.length):ch[ch.length-1]? =Z ch.last:=by
 unfold Ch.last;rw[List.getLastD_eq_getLast?,List.getLast?_eq_getElem?,Qd (by omega)];rfl
theorem Je7(wj:Nat)(hw:wj<=32)(ts:List TxL)(h:∀t∈ts,TxOk wj t)(h3:ts.length<=3):(JL ts).length<=601:=by
 have:=Jcy wj hw ts h ts.length;rw[Jcx]at this;omega
theorem JjO(hD:DgC)(Hf:1<=wj)(hw:wj<=32){lv:List Lv}(h:RfAt wj base w rb G ch vL lv b)(hl:ch.length<=10000000)(B:Nat)(v:aG)(ts:List TxL)(sl:List (Sl×Sl))(h3:ts.length<=3)(ho:∀t∈ts,TxOk wj t)(hv:TxsR B w v sl)(hs:TxIs B w ts sl):
  aB N 173 #[X (Z ⟨rb,0,Y⟩),v] w (RLv wj ch ts G w):=by
 have h1:=h.len.2;have yU:=Jhk ch h1;have qm:ch.length-1<lv.length:=by rw[h.len.1];omega
 obtain⟨l0,s6,(j6:J _),hL0⟩:=h.coins (ch.length-1) _ _ (Qd qm) yU;have hcG:=h.cG _ (Qx qm);have Hd:lv ≠ []:=λe=>by have:=h.len;rw[e]at this;simp at this;omega
 obtain⟨g,cap,vO,hg,hc⟩:=h.lvs.at Hd;rw[h.len.1]at vO;subst vO;have q3:=(hc (ch.length-1) qm).2.2.2;obtain⟨m,hm⟩:∃m:Nat,ch.length=m+1:=⟨ch.length-1,by omega⟩
 have js:ch.length-1=m:=by omega
 obtain⟨s0,hs0⟩:∃s0:Sl,(lv[ch.length-1]'qm).2=s0:=⟨_,rfl⟩
 rw[hs0]at s6 hcG q3;rw[js]at yU q3;obtain⟨a0,c0,qW⟩:=s6.shape;simp only[Qy]at qW;obtain⟨sa,sb,sc⟩:=s0;simp only at s6 hcG q3 qW;obtain⟨rfl,rfl,rfl⟩:=qW;have qA:J (∀V,M D w V->_):=λV hV=>h.tch hV (λ_ e=>e.elim);have zl:J (∀V,M D w V->aB N 118 #[X (Z ⟨rb,0,Y⟩)] V λe w'=>e=aC (O I (m:Int))/\M D V w'):=λV hV=>by
  have:=JhE (qA V hV) (by omega);rw[show (ch.length:Int)-1=(m:Int) by omega]at this;exact this
 have yz:J (∀V,M D w V->_):=λV hV=>r_id hD Hf hw (qA V hV) (by omega) m ch.last yU;have HP:J (∀V,M D w V->V.cell? ⟨rb,0,Y⟩=Z (O I (wj:Int))/\V.cell? ⟨rb,1,Y⟩=Z (R (Z ⟨g,0,Y⟩) ch.length cap)/\V.cell? ⟨g,m*4+3,Y⟩=Z (R sa l0.length sc)):=λV hV=>by
  have hr:=(qA V hV).row;exact⟨Ja hr,Ja hr,(hV.cell (p:=⟨g,m*4+3,Y⟩) hg (λe=>e)).trans q3⟩
 have xY:J (∀V,M D w V->_):=λV hV=>Jd8 wj hw B v ts sl h3 ho V (hv.tch hV (λ_ e=>e.elim)) ⟨hs.1,λi h1 h2=>⟨(hs.2 i h1 h2).1.tch hV (λ_ e=>e.elim),(hs.2 i h1 h2).2.tch hV (λ_ e=>e.elim)⟩⟩;have HV:J _:=hv;have ul:J _:=hs;have pg:=hs.1;have HO:J _:=ho;have ke:J (RhAt w (R sa l0.length sc) l0):=s6;have HCG:J _:=hcG;have hL0':l0.length<=9*ch.length:=by omega
 obtain⟨va,vc,qx⟩:=hv.shape;subst qx;have rM:(m:Int)<(ch.length:Int):=by omega
 have qQ:=Je7 wj hw ts ho h3;have HM:J (ch.length=m+1/\ts.length=sl.length):=⟨hm,pg⟩
 clear hm js pg;clear h hc s6 hL0 hcG hv hs ho q3 hs0 qm Hd;obtain⟨z0,z1,z2⟩:=HP w (Te _ _);go_enter func173,ntmps173;go_wp2_with fail;obtain⟨wA,gH⟩:∃wA,wA=w.alloc (T #[L ⟨#[]⟩,L ⟨#[]⟩,L ⟨#[]⟩,R Y 0 0] 205):=⟨_,rfl⟩
 have Hz:J (M D w wA):=by rw[gH];exact Ta _ _ _
 have zm:J (wA.heap[w.heap.size]? =Z (T #[L ⟨#[]⟩,L ⟨#[]⟩,L ⟨#[]⟩,R Y 0 0] 205)):=by rw[gH];exact Qf _ _
 rw[<-gH];clear gH z0 z1 z2;obtain⟨z0,z1,z2⟩:=HP.o wA Hz.o;go_cut [6] (λv wx=>v=R sa l0.length sc/\J (M D wA wx))
 case first=>
  go_region_held3 (λV=>V.cell? ⟨rb,1,Y⟩=Z (R (Z ⟨g,0,Y⟩) ch.length cap)/\V.cell? ⟨g,m*4+3,Y⟩=Z (R sa l0.length sc)) (go_keep) ((go_at_call 118;refine(zl _ (Hz.trans (Td _ _ 1) (λ_ h=>aM h))).mono ?_;rintro _ w1⟨rfl,H6⟩;have H3:J _:=(Td D wA 1).trans H6 (λ_ h=>aM h);have y:=HP w1 (Hz.trans H3 (λ_ h=>aM h));obtain⟨y0,y1,y2⟩:=y;clear H6))
  all_goals go_wp2;go_meet;exact⟨rfl,H3⟩
 case rest=>
 obtain⟨rfl,gE⟩:=hcut;obtain⟨wB,xq⟩:∃wB,wB=wc:=⟨wc,rfl⟩
 subst xq;clear z0 z1 z2;have jl:J _:=ke.tch0 (Hz.trans gE (λ_ h=>aM h));go_wp2;go_loopw [6,7] (λvn i wr=>∃(k:Nat)(lk:List H9)(sk:Option Tr)(na:Option Addr)(nc:Nat),k<=ts.length/\i=O I k/\vn=R na lk.length nc/\J (RhAt wr (R na lk.length nc) lk)/\J (Book wj sk lk)/\J (JH (dgW wj) ch.last.2 ts=JH (dgW wj) sk (ts.drop k))/\lk.length<=l0.length+3*k/\J (∀j,(lT na lk.length nc).ownBlock=Z j->G j\/w.heap.size<j)/\J (M D wA wr)) (λ_ i _=>ts.length-(intOf i).toNat)
 case atStart=>exact⟨0,l0,ch.last.2,sa,sc,by omega,rfl,rfl,jl,j6,rfl,by omega,λj hj=>aM (HCG j hj),gE⟩
 case round=>
  clear jl gE ke j6 HCG;obtain⟨k,lk,sk,na,nc,hk,rfl,rfl,qJ,qz,fb,xJ,HGK,rC⟩:=hrel
  by_cases H5:k<ts.length
  ·have gY:k<sl.length:=by have:=HM.o.2;omega
   rcases HV with⟨e,e2⟩|⟨gi,oi,cc,e,_,kV,Hg⟩
   ·rw[e2]at gY;simp at gY
   simp only[Qy,true_and]at e;obtain⟨rfl,rfl⟩:=e;obtain⟨f0,f1⟩:=Hg k gY;have gF:J _:=Hz.trans rC (λ_ h=>aM h);have q0:=(gF.cell (p:=⟨gi,oi+k*2,Y⟩) kV (λh=>h)).trans f0;have q1:=(gF.cell (p:=⟨gi,oi+k*2+1,Y⟩) kV (λh=>h)).trans f1;have kT:(k:Int)<(sl.length:Int):=(by omega);obtain⟨p1,p2⟩:=ul.2 k H5 gY;have Hb:=HO _ (Qx H5);have qR:J (∀V,M D wr V->_):=λV hV=>JkV hD wj Hf hw _ lk sk B _ _ ts[k] V (qJ.tch0 hV) qz Hb (p1.tch (gF.trans hV (λ_ h=>aM h)) (λ_ e=>e.elim)) (p2.tch (gF.trans hV (λ_ h=>aM h)) (λ_ e=>e.elim)) (by omega);have xy:J _:=List.drop_eq_getElem_cons H5;clear Hg f0 f1 p1 p2 Hb;generalize sl[k].1.1=y1 at *;generalize sl[k].1.2.1=y2 at *;generalize sl[k].1.2.2=y3 at *;generalize sl[k].2.1=y4 at *;generalize sl[k].2.2.1=y5 at *;generalize sl[k].2.2.2=y6 at *;generalize ts[k]=t at *;obtain⟨z0,z1,z2⟩:=HP wr gF.o
   cases hap:JI (dgW wj) sk t with
   | error er=>
    have mp:J (∀V,M D wr V->aB N 255 #[O I (wj:Int),R na lk.length nc,aH #[R y1 y2 y3,R y4 y5 y6]] V λe w'=>e=aC (aI #[R Y 0 0,O I (Xr er)])/\M D V w'):=λV hV=>(qR V hV).mono (by
     rintro e w'⟨h1,h2⟩;rw[hap]at h2;exact⟨h2,h1⟩)
    have gK:J (JH (dgW wj) ch.last.2 ts=.error er):=(by show JH _ _ _=_;rw[fb.o,xy.o];simp only[JH,hap]);have Hd:¬Xr er=0:=(by cases er<;>decide);clear qR hap xy fb;go_upto_region 5 with fail;go_cut [8,9] (λv8 v9 wx=>v8=R Y 0 0/\v9=O I (Xr er)/\J (M D wA wx))
    case first=>
     go_region_held3 (λV=>V.cell? ⟨rb,0,Y⟩=Z (O I (wj:Int))/\V.cell? ⟨gi,oi+k*2,Y⟩=Z (R y1 y2 y3)/\V.cell? ⟨gi,oi+k*2+1,Y⟩=Z (R y4 y5 y6)) (go_keep) ((go_at_call 255;refine(mp _ (Td _ _ 1)).mono ?_;rintro _ w1⟨rfl,H6⟩;have H3:J _:=(Td D wr 1).trans H6 (λ_ h=>aM h);have x0:=(H3.cell (p:=⟨gi,oi+k*2,Y⟩) (Qr _ _ q0) (λh=>h)).trans q0;have x1:=(H3.cell (p:=⟨gi,oi+k*2+1,Y⟩) (Qr _ _ q1) (λh=>h)).trans q1;have x2:=(HP w1 (gF.trans H3 (λ_ h=>aM h))).1;clear H6))
     all_goals go_wp2;go_meet;exact⟨rfl,rfl,rC.trans H3 (λ_ h=>aM h)⟩
    case rest=>
    obtain⟨rfl,rfl,jz⟩:=hcut;obtain⟨wC,rD⟩:∃wC,wC=wc:=⟨wc,rfl⟩
    subst rD;clear z0 z1 z2 q0 q1;have gu:=(jz.o.block _ (Jb zm.o) (λh=>h)).trans zm.o;have HBC:J (_=_):=gu;obtain⟨b0,b1,b2,b3⟩:=rows gu;have fR:∀j,wC.frozen? ⟨w.heap.size,j,Y⟩=false:=λj=>Qg _ _ _ _ _ gu;clear gu;go_wp2;obtain⟨p1,p2⟩:=Jmt HBC (L ⟨#[]⟩) (L ⟨#[]⟩) (L ⟨#[]⟩) (R Y 0 0);refine QK (v:=aI #[aH #[L ⟨#[]⟩,L ⟨#[]⟩,L ⟨#[]⟩,R Y 0 0],O I (Xr er)]) (Je results173 _ _ w.heap.size _ _ (0,0) _ rfl p1 underlying205 rfl (by kernel_rfl)) rfl ⟨?_,?_⟩
    ·exact(Hz.trans jz (λ_ h=>aM h)).trans p2 (λx hx=>aN (by rw[hx];exact Ql _))
    ·rw[gK.o]
   | ok st1=>
    have mp:J (∀V,M D wr V->aB N 255 #[O I (wj:Int),R na lk.length nc,aH #[R y1 y2 y3,R y4 y5 y6]] V λe w'=>∃v',e=aC (aI #[v',O I 0])/\M D V w'/\∃na' nc' l',v'=R na' l'.length nc'/\RhAt w' v' l'/\Book wj st1 l'/\l'.length<=lk.length+3/\∀j,v'.ownBlock=Z j->w.heap.size<j):=λV hV=>(qR V hV).mono (by
     rintro e w'⟨h1,h2⟩;rw[hap]at h2;obtain⟨v',l',he,ho,hb,zj⟩:=h2;obtain⟨na',nc',qW⟩:=ho.shape;exact⟨v',he,h1,na',nc',l',qW,ho.at,hb,zj,λj hj=>Qk (Qk (Jb zm) (Qm rC.size hV.size)) (ho.own j hj).1⟩)
    have yj:J (JH (dgW wj) ch.last.2 ts=JH (dgW wj) st1 (ts.drop (k+1))):=(by show JH _ _ _=_;rw[fb.o,xy.o];simp only[JH,hap]);clear qR hap xy fb;go_upto_region 5 with fail;go_cut [8,9] (λv8 v9 wx=>v9=O I 0/\J (M D wA wx)/\∃na' nc' l',v8=R na' l'.length nc'/\J (RhAt wx (R na' l'.length nc') l')/\J (Book wj st1 l')/\l'.length<=lk.length+3/\J (∀j,(lT na' l'.length nc').ownBlock=Z j->w.heap.size<j))
    case first=>
     go_region_held3 (λV=>V.cell? ⟨rb,0,Y⟩=Z (O I (wj:Int))/\V.cell? ⟨gi,oi+k*2,Y⟩=Z (R y1 y2 y3)/\V.cell? ⟨gi,oi+k*2+1,Y⟩=Z (R y4 y5 y6)) (go_keep) ((go_at_call 255;refine(mp _ (Td _ _ 1)).mono ?_;rintro _ w1⟨v',rfl,H6,kG⟩;have jB:J (_:Prop):=kG;have H3:J (M D wr w1):=(Td D wr 1).trans H6 (λ_ h=>aM h);have x0:=(H3.cell (p:=⟨gi,oi+k*2,Y⟩) (Qr _ _ q0) (λh=>h)).trans q0;have x1:=(H3.cell (p:=⟨gi,oi+k*2+1,Y⟩) (Qr _ _ q1) (λh=>h)).trans q1;have x2:=(HP w1 (gF.trans H3 (λ_ h=>aM h))).1;clear H6 kG))
     all_goals
      go_wp2;go_meet;obtain⟨na',nc',l',e1,r1,r2,r3,r4⟩:=jB.o;refine⟨rfl,rC.trans H3 (λ_ h=>aM h),na',nc',l',e1,?_,r2,r3,?_⟩
      ·rw[<-e1];exact r1
      ·rw[<-e1];exact r4
    case rest=>
    obtain⟨rfl,jz,na',nc',l',rfl,gU,jM,zj,tI⟩:=hcut;obtain⟨wC,rD⟩:∃wC,wC=wc:=⟨wc,rfl⟩
    subst rD;clear z0 z1 z2 q0 q1;go_wp2;go_roundw
    case rel=>exact⟨k+1,l',st1,na',nc',by omega,by go_num,rfl,gU,jM,yj,by omega,λj hj=>aN (tI j hj),jz⟩
    case measure=>simp[intOf];omega
  ·have HKK:J (k=ts.length):=(by omega:k=ts.length)
   have gI:¬(k:Int)<(sl.length:Int):=(by have:=HM.o.2;omega);have gy:J (JH (dgW wj) ch.last.2 ts=.ok sk):=(by show JH _ _ _=_;rw[fb.o,HKK.o,List.drop_length];rfl);have gF:J (M D w wr):=Hz.trans rC (λ_ h=>aM h);have um:J (∀V,M D wr V->aB N 106 #[O I (wj:Int),R na lk.length nc] V λe w'=>∃S,e=aC (L S)/\(dgW wj S.data.toList=Xh (dgW wj) sk/\S.size<=1000)/\M D V w'):=λV hV=>(JiR hD wj Hf hw lk.length lk V _ (Ql _) qz.ok qz.nodup (qJ.tch0 hV) (by omega)).mono (by
    rintro e w'⟨s,he,hr,ht⟩;refine⟨⟨s.toArray⟩,he,⟨?_,by rw[Jh];exact hr.rlen hw (λx hx=>(qz.ok x hx).1)⟩,ht⟩;rw[Jev,<-JcO qz.o hr])
   have bl:J (∀(S:BA)(V:aA),S.size<=1000->aB N 103 #[O I (wj:Int),L S] V λe w'=>∃aV,e=aC (L aV)/\aV=dgW wj S.data.toList/\M D V w'):=λS V hs=>(hD wj S V Hf hw (by omega)).mono (by rintro _ _⟨rfl,h⟩;exact⟨_,rfl,rfl,h⟩);have a1:=JO [66] (JL ts) (by simp;omega);have a1':∀W,(Op.stringOp .add (⟨#[66]⟩:BA) ⟨(JL ts).toArray⟩).run N W=.ok (L ⟨(66::JL ts).toArray⟩) W:=a1;have xB:J ((⟨(66::JL ts).toArray⟩:BA).data.toList=66::JL ts/\(⟨(66::JL ts).toArray⟩:BA).size<=1000):=⟨rfl,by rw[Jh,Qp];omega⟩
   generalize (⟨(66::JL ts).toArray⟩:BA)=XB at *;generalize (⟨(JL ts).toArray⟩:BA)=X0 at *;obtain⟨D1,nC⟩:∃D1,D1=dgW wj (72::ch.last.1.data.toList):=⟨_,rfl⟩
   rw[<-nC]at yz;have mT:J (D1=_):=nC;clear a1 nC;have cK:rb<w.heap.size:=(QJ.1 (qA w (Te _ _)).row).1;have qu:¬rb=w.heap.size:=(by omega);have jT:¬w.heap.size=rb:=(by omega);have kF:J (∀V,M D wr V->V.heap[w.heap.size]? =Z (T #[L ⟨#[]⟩,L ⟨#[]⟩,L ⟨#[]⟩,R Y 0 0] 205)):=λV hV=>by
    have ht:=rC.o.trans hV (λ_ h=>aM h);exact(ht.block _ (Jb zm.o) (λh=>h)).trans zm.o
   obtain⟨z0,z1,z2⟩:=HP wr gF.o;go_upto_region 9 with fail;go_region_held3 (λV=>V.cell? ⟨rb,0,Y⟩=Z (O I (wj:Int))) (go_keep) ((first
    | (go_at_call 118;refine(zl _ (gF.trans (Td _ _ 1) (λ_ h=>aM h))).mono ?_;rintro _ w1⟨rfl,H6⟩;have H3:J (M D wr w1):=(Td D wr 1).trans H6 (λ_ h=>aM h);have x1:=(HP w1 (gF.trans H3 (λ_ h=>aM h))).1;clear H6)
    | (go_at_call 172;refine(yz _ (gF.trans H3 (λ_ h=>aM h))).mono ?_;rintro _ w2⟨rfl,H7⟩;have H4:J (M D wr w2):=H3.trans H7 (λ_ h=>aM h);have x2:=(HP w2 (gF.trans H4 (λ_ h=>aM h))).1;clear H7)
    | (go_at_call 256;refine(xY _ (gF.trans H4 (λ_ h=>aM h))).mono ?_;rintro _ w3⟨rfl,Hm⟩;have H8:J (M D wr w3):=H4.trans Hm (λ_ h=>aM h);have x3:=(HP w3 (gF.trans H8 (λ_ h=>aM h))).1;clear Hm)
    | (go_at_call_of 103 (Value.string XB);refine(bl XB _ xB.2).mono ?_;rintro _ w4⟨D2,rfl,qj,Ho⟩;have fe:J (D2=_):=qj;have He:J (M D wr w4):=H8.trans Ho (λ_ h=>aM h);have x4:=(HP w4 (gF.trans He (λ_ h=>aM h))).1;clear Ho qj)
    | (go_at_call 106;refine(um _ He).mono ?_;rintro _ w5⟨S,rfl,uX,kI⟩;have yC:J (_/\_):=uX;have Hu:J (M D wr w5):=He.trans kI (λ_ h=>aM h);have x5:=(HP w5 (gF.trans Hu (λ_ h=>aM h))).1;clear kI uX)
    | (go_at_call_of 103 (Value.string S);refine(bl S _ yC.2).mono ?_;rintro _ w6⟨D3,rfl,rE,gV⟩;have HD3:J (D3=_):=rE;have k8:J (M D wr w6):=Hu.trans gV (λ_ h=>aM h);have x6:=(HP w6 (gF.trans k8 (λ_ h=>aM h))).1;have gu:=kF w6 k8.o;have b0:w6.cell? ⟨w.heap.size,0,Y⟩=Z (L ⟨#[]⟩):=Ja gu;have b1:w6.cell? ⟨w.heap.size,1,Y⟩=Z (L ⟨#[]⟩):=Ja gu;have b2:w6.cell? ⟨w.heap.size,2,Y⟩=Z (L ⟨#[]⟩):=Ja gu;have b3:w6.cell? ⟨w.heap.size,3,Y⟩=Z (R Y 0 0):=Ja gu;have fR:∀j,w6.frozen? ⟨w.heap.size,j,Y⟩=false:=(λj=>Qg _ _ _ _ _ gu);have nj:J (_=_):=gu;clear gV rE gu)))
   all_goals
    go_wp2;obtain⟨p1,p2⟩:=Jmt nj (L D1) (L D2) (L D3) (R na lk.length nc);refine QK (v:=aI #[aH #[L D1,L D2,L D3,R na lk.length nc],O I 0]) (Je results173 _ _ w.heap.size _ _ (0,0) _ rfl p1 underlying205 rfl (by kernel_rfl)) rfl ⟨?_,?_⟩
    ·exact(gF.trans k8 (λ_ h=>aM h)).trans p2 (λx hx=>aN (by rw[hx];exact Ql _))
    ·rw[gy.o];refine⟨(na,lk.length,nc),lk,?_,?_,qz,by have:=HM.o.1;omega,λj hj=>(HGK j hj).imp id (λh=>Nat.le_of_lt h)⟩
     ·rw[mT.o,fe.o,HD3.o,xB.o.1,yC.o.1]
     ·have hrk:=qJ.o.tch0 k8.o;refine hrk.tch p2 (λj hj e=>?_)
      rcases HGK j hj with h|h
      ·have:=((qA w (Te _ _)).own j h).2;omega
      ·omega

theorem Zj(s:BA)(i:Nat)(h:i<s.size):Js s.data.toList i=s[i].toNat:=by
 unfold Js;rw[Qn,Qd (by rw[QA];exact h)];rfl
theorem JaZ(s:BA)(k:Nat)(hk:k<=8)(hs:k<=s.size)(w:aA):
  aB N 112 #[L s,O I (k:Int)] w λe w'=>e=aC (O aD ((numL (s.data.toList.take k):Nat):Int))/\M D w w':=by
 go_enter func112,ntmps112;go_wp2;go_loopw [5,6] (λn i wr=>∃j:Nat,j<=k/\i=O I (j:Int)/\n=O aD ((numL (s.data.toList.take j):Nat):Int)/\J (M D w wr)) (λ_ i _=>k-(intOf i).toNat)
 case atStart=>exact⟨0,by omega,rfl,rfl,Te _ _⟩
 case round=>
  obtain⟨j,hj,rfl,rfl,HT⟩:=hrel
  by_cases H5:j<k
  ·have uL:(j:Int)<(k:Int):=(by omega);have hjs:j<s.size:=(by omega);have ru:(j:Int)<(s.size:Int):=(by omega);have hN:=Ys (s.data.toList.take j);have hlj:(s.data.toList.take j).length=j:=(by rw[QB,QA];have:s.data.size=s.size:=rfl;omega);rw[hlj]at hN;have h7:256 ^ j<=256 ^ 7:=Nat.pow_le_pow_right (by omega) (by omega);have HS:J (numL (s.data.toList.take (j+1))=numL (s.data.toList.take j)*256+s[j].toNat):=by
    show numL _=_;rw[QR (by rw[QA];exact hjs),Jag];rfl
   have hb:=lP s[j];obtain⟨x,hx⟩:∃x:Nat,s[j].toNat=x:=⟨_,rfl⟩
   rw[hx]at HS hb;obtain⟨aZ,hNe⟩:∃aZ,numL (s.data.toList.take j)=aZ:=⟨_,rfl⟩
   rw[hNe]at HS hN;rw[hNe];have hN8:aZ<72057594037927936:=(by omega);have w1:lH.wrap ((aZ:Int)*256)=(aZ:Int)*256:=(by simp[lF,lG,lE];omega);have w2:lH.wrap (x:Int)=(x:Int):=(by simp[lF,lG,lE];omega);have w3:lH.wrap ((aZ:Int)*256+(x:Int))=(aZ:Int)*256+(x:Int):=(by simp[lF,lG,lE];omega);go_wp2;go_roundw
   case rel=>exact⟨j+1,by omega,by go_num,by rw[HS.o];congr 1,HT⟩
   case measure=>simp[intOf];omega
  ·obtain rfl:j=k:=(by omega);have gI:¬(j:Int)<(j:Int):=(by omega);obtain⟨aZ,(HN:J _)⟩:∃aZ,numL (s.data.toList.take j)=aZ:=⟨_,rfl⟩
   rw[HN];go_wp2;go_ret;exact⟨by rw[HN.o];rfl,HT⟩
def Jo8(s:List UInt8)(i:Nat)(w:aA)(e:Ending)(w':aA):Prop:=
 M D w w'/\match Xc s i with
 | none=>e=aC (aI #[R Y 0 0,O I (-1)])
 | some (l,n)=>∃v,e=aC (aI #[v,O I (n:Int)])/\OOwn w.heap.size w' v l
theorem JpX(s:BA)(i:Nat)(hi:i<=s.size)(hs:s.size<=10000000)(w:aA):
  aB N 109 #[L s,O I (i:Int)] w (Jo8 s.data.toList i w):=by
 have Hi:s.data.toList.length=s.size:=by rw[QA];rfl
 by_cases h1:i<s.size
 ·have bd:(i:Int)<(s.size:Int):=by omega
  have h1n:¬(s.size:Int)<=(i:Int):=by omega
  have xe:=Zj s i h1;obtain⟨c,hc⟩:∃c:Nat,s[i].toNat=c:=⟨_,rfl⟩
  have yD:=lP s[i];rw[hc]at xe yD;have wc:I.wrap (c:Int)=(c:Int):=w63 _ (by omega) (by omega)
  by_cases h2:c<=3
  ·have mq:¬3<(c:Int):=(by omega);have w9:I.wrap (9*(c:Int))=9*(c:Int):=w63 _ (by omega) (by omega);have wi:I.wrap ((i:Int)+1)=(i:Int)+1:=w63 _ (by omega) (by omega);have wt:I.wrap ((i:Int)+1+9*(c:Int))=(i:Int)+1+9*(c:Int):=w63 _ (by omega) (by omega)
   by_cases h3:i+1+9*c<=s.size
   ·have rk:¬(s.size:Int)<(i:Int)+1+9*(c:Int):=(by omega);have HE:J (Xc s.data.toList i=Z (YV s.data.toList (i+1) c,i+1+9*c)):=by
     show Xc _ _=_;unfold Xc;rw[xe,Hi,if_pos ⟨h1,h2,h3⟩]
    go_enter func109,ntmps109;go_wp2;go_loopw [6,7] (λvl j wr=>∃m:Nat,m<=c/\j=O I (m:Int)/\J (OOwn w.heap.size wr vl (YV s.data.toList (i+1) m))/\J (M D w wr)) (λ_ j _=>c-(intOf j).toNat)
    case atStart=>exact⟨0,by omega,rfl,OOwn.nil _ _,Te _ _⟩
    case round=>
     obtain⟨m,hm,rfl,kQ,HT⟩:=hrel
     by_cases H5:m<c
     ·have uL:(m:Int)<(c:Int):=(by omega);have w5:I.wrap (9*(m:Int))=9*(m:Int):=w63 _ (by omega) (by omega);have w6:I.wrap ((i:Int)+1+9*(m:Int))=(i:Int)+1+9*(m:Int):=w63 _ (by omega) (by omega);have p1:(0:Int)<=(i:Int)+1+9*(m:Int):=(by omega);have p2:(i:Int)+1+9*(m:Int)<=(s.size:Int):=(by omega);have p3:((i:Int)+1+9*(m:Int)).toNat=i+1+9*m:=(by omega);obtain⟨P,hP⟩:∃P:BA,s.extract (i+1+9*m) s.size=P:=⟨_,rfl⟩
      have mr:P.data.toList=s.data.toList.drop (i+1+9*m):=(by rw[<-hP,ByteArray.data_extract,Array.toList_extract,List.extract_eq_take_drop,QS];rw[lC,QA];show s.size-_<=_;omega);have hPs:P.size=s.size-(i+1+9*m):=(by rw[<-hP,ByteArray.size_extract];omega);have hP8:8<P.size:=(by omega);have hP8i:(8:Int)<(P.size:Int):=(by omega);have yx:J (∀V,aB N 112 #[L P,O I 8] V λe w'=>e=aC (O aD (((outP s.data.toList (i+1+9*m)).1:Nat):Int))/\M D V w'):=λV=>by
       have:=JaZ P 8 (by omega) (by omega) V;rw[mr]at this;exact this
      obtain⟨o8,ho8⟩:∃o8:Nat,P[8].toNat=o8:=⟨_,rfl⟩
      have ms:J ((outP s.data.toList (i+1+9*m)).2=o8):=(by show Js _ _=_;rw[<-ho8,<-Zj P 8 hP8,mr];unfold Js;rw[Qn,Qn,lR]);have p7:J (YV s.data.toList (i+1) (m+1)=YV s.data.toList (i+1) m++[outP s.data.toList (i+1+9*m)]):=JiM _ _ _;have mt:J (∃a,outP s.data.toList (i+1+9*m)=(a,o8)/\(outP s.data.toList (i+1+9*m)).1=a):=⟨_,by rw[<-ms.o],rfl⟩
      obtain⟨a8,uN,hpa⟩:=mt.o;rw[uN]at p7;rw[hpa]at yx;have HOL:J ((YV s.data.toList (i+1) m).length+1<=1000000000):=(by show List.length _+1<=_;simp[YV];omega);obtain⟨na,nm,nc,uF⟩:∃na nm nc,u6=R na nm nc:=(by obtain⟨a,c,e⟩:=kQ.shape;exact⟨_,_,_,e⟩);subst uF;go_upto_region 8 with fail;go_region_held3 (λ_=>True) (trivial) ((first
       | (go_at_call 112;refine(yx _).mono ?_;rintro _ w1⟨rfl,H6⟩;have H3:J _:=(Td D wr 1).trans H6 (λ_ h=>aM h))
       | (refine Jdl rfl _ _ rfl rfl (kQ.tch (H3.trans (Ta D w1 _) (λ_ h=>aM h)) (λ_ _ h=>h)) _ _ [(a8,o8)] rfl (JjK w1 (a8,o8)) HOL (Qm HT.size (Qm H3.size (Ta D w1 _).size)) ?_;intro v3 w3 (gS:J _) xt;have H8:J _:=((HT.trans (H3.trans (Ta D w1 _) (λ_ h=>aM h)) (λ_ h=>aM h)).trans (Tg xt) (λj hj=>aN (kQ.own j hj.symm).1));clear xt)))
      all_goals
       go_wp2;go_roundw
       case rel=>exact⟨m+1,by omega,by go_num,by rw[p7.o];exact gS,H8⟩
       case measure=>simp[intOf];omega
     ·obtain rfl:m=c:=(by omega);have gI:¬(m:Int)<(m:Int):=(by omega);go_wp2_with fail;go_region_held3 (λ_=>True) (trivial) (fail)
      all_goals go_wp2;go_ret2;refine⟨HT.trans (Td D _ 1) (λ_ h=>aM h),?_⟩;rw[HE.o];exact⟨_,by first|rfl|simp,kQ.o.tch (Td D _ 1) (λ_ _ h=>h)⟩
   ·have rk:(s.size:Int)<(i:Int)+1+9*(c:Int):=(by omega);have HE:J (Xc s.data.toList i=Y):=by
     show Xc _ _=_;unfold Xc;rw[xe,Hi,if_neg (λh=>h3 h.2.2)]
    go_enter func109,ntmps109;go_wp2;go_ret2;exact⟨Te _ _,by rw[HE.o];rfl⟩
  ·have mq:3<(c:Int):=(by omega);have HE:J (Xc s.data.toList i=Y):=by
    show Xc _ _=_;unfold Xc;rw[xe,if_neg (λh=>h2 h.2.1)]
   go_enter func109,ntmps109;go_wp2;go_ret2;exact⟨Te _ _,by rw[HE.o];rfl⟩
 ·have h1n:(s.size:Int)<=(i:Int):=by omega
  have HE:J (Xc s.data.toList i=Y):=by show Xc _ _=_;unfold Xc;rw[Hi,if_neg (λh=>h1 h.1)]
  go_enter func109,ntmps109;go_wp2;go_ret2;exact⟨Te _ _,by rw[HE.o];rfl⟩

theorem Jjg(l:List UInt8):(⟨l.toArray⟩:BA).data.toList=l:=rfl
theorem JmC{x:Nat×Nat}(h:outB o=outB x)(hx:JC x)(ho:JC o):x=o:=by
 unfold outB at h;have h1:=congrArg (λl=>numL (l.take 8)) h;have h2:=congrArg (λl=>numL (l.drop 8)) h;simp only[lD (Jf _ 8 8),lI (Jf _ 8 8)]at h1 h2;rw[YH _ 8 ho.1 8 (Ql _),YH _ 8 hx.1 8 (Ql _)]at h1;rw[YH _ 1 ho.2 1 (Ql _),YH _ 1 hx.2 1 (Ql _)]at h2;simp at h1 h2;exact Prod.ext h1.symm h2.symm
def numP(s:List UInt8):Nat:=numL (s.take 2)
def endP(wj:Nat)(s:List UInt8):Nat:=2+numP s*(2+wj)
def stpP(wj:Nat)(s:List UInt8)(i:Nat):Stp:=(numL ((s.drop (2+i*(2+wj))).take 2),⟨((s.drop (4+i*(2+wj))).take wj).toArray⟩)
def keyP(wj:Nat)(s:List UInt8):List UInt8:=(s.drop (endP wj s)).take (wj+1)
def wyP(wj:Nat)(s:List UInt8):Wy:=((List.range (numP s)).map (stpP wj s),Z (keyP wj s,outP s (endP wj s+wj+1)))
def JcU(wj:Nat)(s:List UInt8):Prop:=s.length=endP wj s+wj+10/\Js s (endP wj s+wj)<3
def YG(wj:Nat)(s:List UInt8)(j:Nat):Nat:=if j<numP s then (stpP wj s j).1 else 8*(wj+1)
def RunP(wj:Nat)(key:Key)(s:List UInt8)(j:Nat):Prop:=∀i,j<=i->i<numP s->(stpP wj s i).1<YG wj s (i+1)/\bt (keyP wj s) (stpP wj s i).1=bt key (stpP wj s i).1
theorem RunP.down{j:Nat}(h:RunP wj key s (j+1))(h1:(stpP wj s j).1<YG wj s (j+1))(h2:bt (keyP wj s) (stpP wj s j).1=bt key (stpP wj s j).1):RunP wj key s j:=λi hi hn=>by
 by_cases e:i=j
 ·rw[e];exact⟨h1,h2⟩
 ·exact h i (by omega) hn
open Classical in
noncomputable def refW(wj:Nat)(key:Key)(s:List UInt8):Option Wy:=if s=[0,0] then Z ([],Y) else if JcU wj s/\RunP wj key s 0 then Z (wyP wj s) else Y
theorem Jl4(wj:Nat)(s:List UInt8):∀n,2+n*(2+wj)<=s.length->((List.range n).map (stpP wj s)).flatMap Xe=(s.drop 2).take (n*(2+wj))
 | 0,_=>by simp
 | n+1,h=>by
  have h1:2+n*(2+wj)+(2+wj)<=s.length:=by rw[Nat.add_mul]at h;omega
  rw[List.range_succ,List.map_append,List.flatMap_append,Jl4 wj s n (by omega)];simp only[List.map_cons,List.map_nil,QG,List.flatMap_nil,QC];unfold Xe stpP;rw[ZB _ 2 (by rw[QB,lC];omega),Jjg,show 4+n*(2+wj)=(2+n*(2+wj))+2 by omega,XM,XM,Nat.add_mul,Nat.one_mul]
theorem Jqb(h:s.length=endP wj s+wj+10):wayB (wyP wj s)=s:=by
 have h2:2+numP s*(2+wj)=endP wj s:=rfl;unfold wayB wyP endB;simp only[QM,List.length_range];rw[Jl4 wj s _ (by omega),Jgf s _ (by omega)];unfold keyP;have e1:beL (numP s) 2 2=(s.drop 0).take 2:=by rw[List.drop_zero];exact ZB _ 2 (by rw[QB];omega)
 rw[e1,show endP wj s+wj+1=endP wj s+(wj+1) by omega,XM,<-h2,XM];have e2:=XM s 0 2 (numP s*(2+wj)+(wj+1+9));rw[Nat.zero_add]at e2;rw[e2,List.drop_zero,QS (by omega)]
theorem JjV(h:RunP wj key s 0):∀k i,numP s=i+k->i<numP s->(stpP wj s i).1<8*(wj+1)
 | 0,i,e,hi=>by omega
 | k+1,i,e,hi=>by
  have h1:=(h i (Nat.zero_le _) hi).1;unfold YG at h1
  split at h1
  ·rename_i hj;exact Nat.lt_trans h1 (JjV h k (i+1) (by omega) hj)
  ·exact h1
theorem Jqf(h:JcU wj s)(hr:RunP wj key s 0):WyOk wj (wyP wj s):=by
 have h2:2+numP s*(2+wj)=endP wj s:=rfl;have hl:=h.1;have kE:∀x∈(wyP wj s).1,Zt wj x:=λx hx=>by
  obtain⟨i,hi,rfl⟩:=QL.1 hx;have hi:=List.mem_range.1 hi;have h3:(i+1)*(2+wj)<=numP s*(2+wj):=Nat.mul_le_mul_right _ hi;rw[Nat.add_mul]at h3;refine⟨JjV hr (numP s-i) i (by omega) hi,?_⟩;unfold stpP;rw[Jh,QB,lC];omega
 have nD:YY (wyP wj s).1 (wyP wj s).1.length:=λi h1 hi x y hx hy=>by
  unfold wyP at hi hx hy;simp only[QM,List.length_range]at hi;simp only at hx hy;rw[List.getElem?_map,List.getElem?_range (by omega)]at hx hy;simp only[lN,Qh]at hx hy;subst hx;subst hy;have:=(hr (i-1) (Nat.zero_le _) (by omega)).1;rw[show i-1+1=i by omega]at this;unfold YG at this;rw[if_pos hi]at this;exact this
 refine⟨kE,nD,JhK _ _ nD (λx hx=>(kE x hx).1),(λe=>by cases e),λx hx=>?_⟩
 cases hx
 refine⟨?_,?_,?_,?_⟩
 ·unfold keyP;rw[QB,lC];omega
 ·have h3:=h.2;unfold Js at h3;unfold keyP;rw[Qn,List.getElem?_take_of_lt (by omega),lR,<-Qn];exact h3
 ·have:=Ys ((s.drop (endP wj s+wj+1)).take 8);rw[QB,lC,Nat.min_eq_left (by omega)]at this;exact this
 ·exact lP _
theorem Jfb(e:List UInt8):∀(l:List Stp)(i:Nat),(∀s∈l,Zt wj s)->i<=l.length->(l.flatMap Xe++e).drop (i*(2+wj))=(l.drop i).flatMap Xe++e
 | l,0,_,_=>by simp
 | [],i+1,_,h=>by simp at h
 | x::r,i+1,hs,h=>by
  have hx:(Xe x).length=2+wj:=by have:=(hs x (by simp)).2;unfold Xe;rw[Qe,Jf,QA];have e:x.2.data.size=wj:=this;omega
  rw[List.drop_succ_cons,<-Jfb e r i (λs hs'=>hs s (by simp[hs'])) (by simpa using h),QG,Qs,Nat.add_mul,Nat.one_mul,Nat.add_comm (i*_),<-hx,<-lQ,lI];rfl
theorem JnJ(Hb:WyOk wj wy)(hw:wj<=32)(x:KO)(hx:wy.2=Z x):wyP wj (wayB wy)=wy/\JcU wj (wayB wy):=by
 obtain⟨steps,e⟩:=wy;simp only at hx;subst hx;obtain⟨k,o⟩:=x;obtain⟨h1,h2,h3⟩:=Hb.key (k,o) rfl;have hl:=Hb.len;have hs:=Hb.steps;simp only at h1 h2 h3 hl hs;obtain⟨S,hS⟩:∃S,S=wayB (steps,Z (k,o)):=⟨_,rfl⟩
 have eS:S=beL steps.length 2 2++(steps.flatMap Xe++(k++outB o)):=hS;have hn:numP S=steps.length:=by unfold numP;rw[eS,lD (Jf _ _ _),YH _ 2 (by omega) 2 (Ql _)];simp
 have hd:∀i,i<=steps.length->S.drop (2+i*(2+wj))=(steps.drop i).flatMap Xe++(k++outB o):=λi hi=>by
  rw[<-lQ,eS,lI (Jf _ _ _),Jfb _ _ _ hs hi]
 have he:S.drop (endP wj S)=k++outB o:=by unfold endP;rw[hn,hd _ (Ql _),List.drop_length];rfl
 have rL:(outB o).length=9:=by unfold outB;rw[Qe,Jf,Jf]
 have Hl:S.length=endP wj S+wj+10:=by have h5:=congrArg List.length he;rw[lC,Qe,rL]at h5;omega
 rw[<-hS];have hk:keyP wj S=k:=by unfold keyP;rw[he,lD h1]
 refine⟨?_,Hl,?_⟩
 ·unfold wyP;rw[hn,hk];refine Prod.ext ?_ ?_
  ·show (List.range steps.length).map (stpP wj S)=steps;apply List.ext_getElem?;intro i;rw[List.getElem?_map]
   by_cases hi:i<steps.length
   ·rw[List.getElem?_range hi,Qd hi];have h6:=hd i (by omega);rw[List.drop_eq_getElem_cons hi,QG]at h6;have h7:S.drop (4+i*(2+wj))=steps[i].2.data.toList++((steps.drop (i+1)).flatMap Xe++(k++outB o)):=by
     rw[show 4+i*(2+wj)=(2+i*(2+wj))+2 by omega,<-lQ,h6];unfold Xe;rw[Qs,Qs,lI (Jf _ _ _)]
    obtain⟨g1,g2⟩:=hs _ (Qx hi);have g3:steps[i].2.data.toList.length=wj:=(by rw[QA];exact g2);simp only[lN,Qh];unfold stpP;rw[h7,lD g3,h6];unfold Xe;rw[Qs,Qs,lD (Jf _ _ _),YH _ 2 (by omega) 2 (Ql _),Zw];simp
   ·rw[lK (by simp;omega),lK (by omega)];rfl
  ·show Z (k,outP S (endP wj S+wj+1))=Z (k,o);have h8:S.drop (endP wj S+wj+1)=outB o:=(by rw[Nat.add_assoc,<-lQ,he,lI h1]);have h9:=Jgf S (endP wj S+wj+1) (by omega);rw[h8,QS (by omega)]at h9
   congr 2
   exact JmC h9.symm (by
    constructor
    ·have:=Ys ((S.drop (endP wj S+wj+1)).take 8);rw[QB,lC,Nat.min_eq_left (by omega)]at this;exact this
    ·exact lP _) h3
 ·unfold Js;rw[Qn,<-lR,he,QF (by omega),<-Qn];exact h2
