import Derived.Test.YtighkdnooglfjaaGreatDoorQyOpC
import Derived.Laws.AppendOwnNone
open Go renaming Calls->aB,Value->aG,World->aA
open Go.Ending renaming returned->aC
open Go.IntKind renaming i64->I,u64->aD,u8->aE,signed->lM,wrap->lQ,bits->lR,u8->ld
open Go.Obj renaming cells->T
open Go.Proofs.Tryz renaming prog->N
open Go.RowKit renaming Hid->J
open Go.Value renaming agg->aH,bool->aL,iface->aJ,int->O,nilIface->aK,pointer->X,slice->R,string->L,tuple->aI,string->lP,slice->l8,int->lf
open Option renaming none->Y,some->Z,map_eq_some_iff->lE
open Or renaming inl->aM,inr->aN
open Array renaming getElem?_toList->lI
open Go.Builtin renaming append_->lV
open Classical renaming byContradiction->lK
open List renaming getElem?_cons_zero->lC,getElem?_take_of_lt->lF,flatMap_nil->lH,take_length->lN,mem_cons->lO,mem_flatMap->lS,drop_eq_getElem_cons->lU,length_set->lW,getElem?_cons_succ->lX,set_eq_take_append_cons_drop->lY,length_replicate->lZ,take_append_drop->l6,flatMap_append->l9
open Nat renaming add_zero->lD,zero_add->lJ
open Go.Region renaming wanted->lT
open UInt8 renaming ofNat->lG
open Go.World renaming grownBy->l5
set_option maxRecDepth 100000
set_option maxHeartbeats 4000000
namespace Go.Proofs.YtighkdnooglfjaaGreatDoor
open Go.Proofs.Tryz
open Go.RowKit

variable {a:Act}{K:Act->aA->Prop}{ops:Array Oper}{b hd:BA}{c:BA×Int}{ch:Ch}{Q:Exit->Act->aA->Prop}{bs:List BV}{l:List Hd}{rest:List Oper}{lg s:List UInt8}{d:List UInt8->BA}{base cb fl g k lb pn r wj:Nat}{E:Nat->Addr}{F S:Nat->Prop}{o:Oper}{st:Option Tr}{lv v:aG}{w w':aA}
theorem JkA(wj:Nat)(w:aA):aB N 127 #[O I (wj:Int)] w λe w'=>e=aC (aH #[O I (wj:Int),X Y])/\M D w w':=by
 go_enter func127,ntmps127;go_wp2;exact QK (v:=aH #[O I (wj:Int),X Y]) (Qq results127 _ _ w.heap.size _ _ (0,0) _ rfl (Qf _ _) underlying146 rfl (by kernel_rfl)) rfl ⟨rfl,Ta _ _ _⟩
theorem JkW(W:aA):(Instr.makeMap 141 Y).run N W=.ok (.map (Z W.heap.size)) (W.alloc (.map #[] 0)):=by
 simp[Instr.makeMap,Result.andThen]
theorem outsB?_ok{outs:List (Nat×Nat)}(ho:∀o∈outs,Jy o)(h1:1<=outs.length)(h3:outs.length<=3):outsB? outs=Z (Jz outs):=by
 unfold outsB?;rw[(Jes 1 3 outs ho h1 h3 (by omega)).wr];rfl
def Zh(n:Nat):BA:=⟨(List.replicate n (0:UInt8)).toArray⟩
def Yi(wj:Nat)(outs:List (Nat×Nat))(st:Option Tr):HdL:=(0,Zh wj,H3 wj (71::Jz outs),Xh (H3 wj) st)
def Jpk(wj base:Nat)(outs:List (Nat×Nat))(st:Option Tr)(w:aA)(e:Ending)(w':aA):Prop:=
 M D w w'/\∃cb r q lv,e=aC (aI #[X (Z ⟨cb,0,Y⟩),aK])/\w.heap.size<=cb/\w.heap.size<=r/\JR w' cb wj 0 r [(⟨(Ht (Yi wj outs st)).toArray⟩,wj,q)] lv/\StAt (H3 wj) (λj=>w.heap.size<=j) w' q st/\StOk wj st/\Xy base w' lv (ke [71] (XN wj outs))/\∀k,lv.ownBlock=Z k->w.heap.size<=k
theorem Jkn(E:Nat->Addr)(wj:Nat)(Hn:1<=wj)(hw:wj<=32)(v:aG)(outs:List (Nat×Nat))(ho:∀o∈outs,Jy o)(h1:1<=outs.length)(h3:outs.length<=3)(w:aA)(hE:Env E w)(hv:Jr w.heap.size w v outs)(base:Nat)(He:base<=w.heap.size)(st:Option Tr)(xh:JA (H3 wj (71::Jz outs)) 0 outs Y=.ok st):
  aB N 72 #[O I (wj:Int),v] w λe w'=>Jpk wj base outs st w e w':=by
 obtain⟨ia,ic,kG⟩:=hv.shape;subst kG;obtain⟨id,qn⟩:∃id,id=H3 wj (71::Jz outs):=⟨_,rfl⟩
 have zx:id.size=wj:=by rw[qn];exact Jk wj hw _
 obtain⟨hd,rZ⟩:∃hd:BA,hd=⟨(Ht (Yi wj outs st)).toArray⟩:=⟨_,rfl⟩
 obtain⟨zs,xH⟩:∃zs,zs=Zh wj:=⟨_,rfl⟩
 obtain⟨sd,ye⟩:∃sd,sd=Xh (H3 wj) st:=⟨_,rfl⟩
 have HE:J (Env E w):=hE;have HV:J _:=hv;have tj:J (aB N 124 #[O I (wj:Int)] w λe w'=>e=aC aK/\w=w'):=Yn wj w Hn hw;have zy:J (aB N 125 #[O I (wj:Int),R ia outs.length ic] w λe w'=>M D w w'/\e=aC (aI #[L id,aK])):=by have:=Jc0 E wj Hn hw _ outs w hE hv (by omega) (λx hx=>(ho x hx).2);rw[outsB?_ok ho h1 h3]at this;rw[qn];exact this
 have jy:J (∀W,M D w W->aB N 126 #[aH #[O I (wj:Int),X Y],L id,R ia outs.length ic] W λe w'=>M D W w'/\∃(q:Option Nat)(rv:Option Addr),Jl q=X rv/\e=aC (aI #[aH #[O I (wj:Int),X rv],aK])/\StAt (H3 wj) (λj=>w.heap.size<=j) w' q st/\StOk wj st):=λW hT=>by
  have:=Jc9 E wj Hn hw (λj=>w.heap.size<=j) Y Y id zx _ outs ho h3 W (hE.tch hT noE) (λj hj=>Qm hT.size hj) ((hv.tch hT noE).up hT.size) trivial trivial;rw[qn,xh,<-qn]at this;refine this.mono λe w' k=>⟨k.1,?_⟩
  obtain⟨q,k1,k2,k3⟩:=k.2;exact⟨q,_,rfl,k1,k2,k3⟩
 have HRP:J (∀W,aB N 128 #[L ⟨#[0]⟩,O I (wj:Int)] W λe w'=>e=aC (L zs)/\M D W w'):=λW=>by rw[xH];exact Ji7 wj Hn hw W
 have jR:J (∀W q,M D w W->StAt (H3 wj) (λj=>w.heap.size<=j) W q st->aB N 83 #[JB wj q] W λe w'=>e=aC (L sd)/\M D W w'):=λW q hT k=>by rw[ye];exact ZP E wj Hn hw _ q st W (hE.tch hT noE) k
 have pP:J (∀W,M D w W->aB N 84 #[O I (wj:Int),aH #[O aD 0,L zs,L id,L sd]] W λe w'=>e=aC (aI #[L hd,aK])/\M D W w'):=λW hT=>by
  have:=JaJ E wj (by omega) 0 zs id sd W (hE.tch hT noE);refine this.mono λe w' k=>?_;obtain⟨k1,k2⟩:=k;have hz:zs.size=wj:=by rw[xH];unfold Zh;rw[Ji,lZ]
  rw[Jmp ⟨by show 0<2 ^ 32;omega,hz,zx,by show sd.size=wj;rw[ye];exact Xx _ wj (Jk wj hw) st⟩]at k2;rw[rZ];unfold Yi;rw[<-xH,<-qn,<-ye];exact⟨k2,k1⟩
 have uy:J (∀W cb r q,M D w W->JR W cb wj 0 r [(hd,wj,q)] (R Y 0 0)->aB N 129 #[X (Z ⟨cb,0,Y⟩),R ia outs.length ic] W λe w'=>e=aC aK/\∃kq,JR w' cb wj 0 r [(hd,wj,q)] kq/\Xy base w' kq (ke [71] (XN wj outs))/\M (λk=>k=cb) W w'/\(∀k,kq.ownBlock=Z k->W.heap.size<=k)):=λW cb r q hT hR=>by
  refine(Jdk E (hE.tch hT noE) hw hR base (Qm He hT.size) [] ⟨Bs.nil _ _,λk hk=>by cases hk⟩ (by simp) _ outs ho h1 h3 ((hv.tch hT noE).up hT.size)).mono ?_;rintro e w'⟨k0,kq,k1,k2,k3,k4⟩;refine⟨k0,kq,k1,k2,k3.mono (λj hj=>?_),λk hk=>?_⟩
  ·rcases hj with h|h
   ·exact aM h
   ·cases h
  ·rcases k4 with h|⟨j,h,hj⟩
   ·rw[hk]at h;cases h
   ·rw[hk]at h;cases h;exact hj
 have qZ:=JkW;unfold Jpk;rw[<-rZ];clear hE hv xh qn rZ xH ye zx ho h1 h3 He;go_enter func72,ntmps72;go_wp2_with fail;refine tj.o.mono ?_;rintro _ _⟨rfl,rfl⟩;go_wp2_with fail;refine zy.o.mono ?_;rintro _ w1⟨H9,rfl⟩;have H5:J _:=H9;clear H9 zy tj;go_wp2_with fail;refine(JkA wj w1).mono ?_;rintro _ w2⟨rfl,Ha⟩;have H6:J (M D w w2):=H5.o.go Ha;clear Ha H5;go_wp2_with fail;refine(jy.o w2 H6.o).mono ?_;rintro _ w3⟨Hs,q,rv,hq,rfl,au,zg⟩;have hA:=Ta D w3 (T #[O I (wj:Int),X rv] 146);obtain⟨w4,qy⟩:∃w4,w4=w3.alloc (T #[O I (wj:Int),X rv] 146):=⟨_,rfl⟩
 obtain⟨k4,bF⟩:∃k4,k4=w3.heap.size:=⟨_,rfl⟩
 have Hm:J (M D w w4):=by rw[qy];exact(H6.o.go Hs).go hA
 have r9:J (StAt (H3 wj) (λj=>w.heap.size<=j) w4 q st/\StOk wj st):=by rw[qy];exact⟨au.next hA,zg⟩
 have jS:w4.heap[k4]? =Z (T #[O I (wj:Int),X rv] 146):=by rw[qy,bF];exact Qf _ _
 have HQ:J _:=hq;go_upto_region 8 with fail;rw[<-qy,<-bF];have s0:w4.cell? ⟨k4,0,Y⟩=Z (O I (wj:Int)):=Ja jS;have s1:w4.cell? ⟨k4,1,Y⟩=Z (X rv):=Ja jS;have hz4:k4<w4.heap.size:=(Jb jS)
 have qz:J _:=jS;have uz:J (∀W,M D w4 W->aB N 83 #[aH #[O I (wj:Int),X rv]] W λe w'=>e=aC (L sd)/\M D W w'):=λW hT=>by
  have:=jR.o W q (Hm.o.go hT) (r9.o.1.next hT);unfold JB at this;rw[HQ.o]at this;exact this
 have pQ:J (M D w4 w4.drew):=Td _ w4 1;have kX:J (∀W,M D w4 W->W.cell? ⟨k4,0,Y⟩=Z (O I (wj:Int))/\W.cell? ⟨k4,1,Y⟩=Z (X rv)):=λW hT=>⟨(hT.cell (p:=⟨k4,0,Y⟩) hz4 (λh=>h)).trans s0,(hT.cell (p:=⟨k4,1,Y⟩) hz4 (λh=>h)).trans s1⟩
 clear hA qy bF au zg hq Hs jS jR jy H6;go_upto_region 10 with fail;go_cut [10,8] (λvh ve wx=>vh=L hd/\ve=aK/\J (M D w4 wx))
 case first=>
  go_region_held3 (λW=>W.cell? ⟨k4,0,Y⟩=Z (O I (wj:Int))/\W.cell? ⟨k4,1,Y⟩=Z (X rv)) (go_keep) ((first|(go_at_call 128;refine(HRP.o _).mono ?_;rintro _ wA⟨rfl,htA⟩;have kI:J (M D w4 wA):=(by first|exact pQ.o.go htA|exact gZ.o.go htA);obtain⟨xa0,xa1⟩:=kX.o wA kI.o;clear htA)|(go_at_call 83;refine(uz.o _ (by first|exact pQ.o|exact kI.o)).mono ?_;rintro _ wB⟨rfl,htB⟩;have gZ:J (M D w4 wB):=(by first|exact pQ.o.go htB|exact kI.o.go htB);obtain⟨xb0,xb1⟩:=kX.o wB gZ.o;clear htB)|(go_at_call 84;refine(pP.o _ (Hm.o.go (by first|exact kI.o|exact gZ.o))).mono ?_;rintro _ wC⟨rfl,htC⟩;have qo:J (M D w4 wC):=(by first|exact kI.o.go htC|exact gZ.o.go htC);obtain⟨xc0,xc1⟩:=kX.o wC qo.o;clear htC)))
  all_goals go_wp2;go_meet;exact⟨rfl,rfl,qo⟩
 case rest=>
 obtain⟨rfl,rfl,mj⟩:=hcut;obtain⟨w5,xi⟩:∃w5,w5=wc:=⟨wc,rfl⟩
 subst xi;have HM5:J (M D w4 (w5.alloc (.map #[] 0))):=mj.o.go (Ta _ _ _);obtain⟨m0,m1⟩:=kX.o _ HM5.o;have hmz:(w5.alloc (.map #[] 0)).heap[w5.heap.size]? =Z (.map (JT 0 []).toArray ([]:List BV).length):=Qf _ _;have pR:=Jd7 hmz (hd,wj,q);unfold bV at pR;rw[HQ.o]at pR;have av:(Instr.mapUpdate 141 (.map (Z w5.heap.size)) (O I 0) (aH #[L hd,O I (wj:Int),X rv])).run N (w5.alloc (.map #[] 0))=.ok () ((w5.alloc (.map #[] 0)).setBlocks w5.heap.size [(hd,wj,q)]):=pR;have HMZ:J _:=hmz;clear pR hmz HRP pP uz pQ s0 s1;go_upto_region 14 with fail;obtain⟨r,hr⟩:∃r,r=w5.heap.size:=⟨_,rfl⟩
 obtain⟨w6,re⟩:∃w6,w6=(w5.alloc (.map #[] 0)).setBlocks w5.heap.size [(hd,wj,q)]:=⟨_,rfl⟩
 obtain⟨cb,yv⟩:∃cb,cb=w6.heap.size:=⟨_,rfl⟩
 obtain⟨w7,tl⟩:∃w7,w7=w6.alloc (T #[O I (wj:Int),O I 0,.map (Z r),R Y 0 0] 143):=⟨_,rfl⟩
 have aw:=mj.o.size;have qy:=Hm.o.size;have t6:M D w4 w6:=by rw[re];exact HM5.o.trans (M.setBlocks _ _ _) (λj hj=>aN (by omega))
 have t67:M D w6 w7:=by rw[tl];exact Ta _ _ _
 have bG:JR w7 cb wj 0 r [(hd,wj,q)] (R Y 0 0):=by
  refine⟨by rw[tl,yv];exact Qf _ _,?_⟩;have h6:w6.heap[r]? =Z (.map (JT 0 [(hd,wj,q)]).toArray [(hd,wj,q)].length):=by rw[re,hr];exact Ja6 HMZ.o _
  exact(t67.block r (Jb h6) (λh=>h)).trans h6
 have gx:J (M D w w7):=(Hm.o.go t6).go t67;have uM:J _:=bG;have HS7:J (StAt (H3 wj) (λj=>w.heap.size<=j) w7 q st/\StOk wj st):=⟨(r9.o.1.next t6).next t67,r9.o.2⟩
 have HCR:J (w.heap.size<=cb/\w.heap.size<=r):=⟨by rw[yv];exact Qm qy t6.size,by rw[hr];exact Qm qy aw⟩
 rw[<-hr]at re ⊢;rw[<-re,<-yv,<-tl];clear hr re yv tl aw qy t6 t67 bG HMZ HM5 mj av m0 m1 qZ r9 Hm kX qz;go_wp2_with fail;refine(uy.o w7 cb r q gx.o uM.o).mono ?_;rintro _ w8⟨rfl,kq,k1,k2,k3,k4⟩;have HK:J (JR w8 cb wj 0 r [(hd,wj,q)] kq/\Xy base w8 kq (ke [71] (XN wj outs))/\M (λk=>k=cb) w7 w8/\(∀k,kq.ownBlock=Z k->w7.heap.size<=k)):=⟨k1,k2,k3,k4⟩
 clear k1 k2 k3 k4 uy;go_wp2;go_ret2;obtain⟨k1,k2,k3,k4⟩:=HK.o;have kL:=HS7.o.1.refine (G:=λj=>w.heap.size<=j/\¬j=cb) (λj hj hc=>⟨hj,λe=>(by obtain⟨c,hc⟩:=hc;subst e;rw[uM.o.row]at hc;simp at hc)⟩);exact⟨gx.o.trans k3 (λj hj=>aN (by have:=HCR.o;omega)),cb,r,q,kq,rfl,HCR.o.1,HCR.o.2,k1,(kL.tch k3 (λj hS hG=>hG.2 hS)).mono (λj h=>h.1),HS7.o.2,k2,λk hk=>Qm gx.o.size (k4 k hk)⟩

theorem JkG(wj:Nat)(l:List (BA×Int))(h:∀x∈l,Jj wj x):(l.flatMap Jc).length=l.length*(wj+1):=by
 induction l with
 | nil=>simp
 | cons x r ih=>rw[QG,Qe,Xg (h x QN),ih (λy hy=>h y (QQ _ hy)),Qp,Nat.succ_mul];omega
theorem Jb8(o:Nat×Nat):(outB o).length=9:=by simp[outB,Jf]
theorem Jfi(l:List (Nat×Nat)):(l.flatMap outB).length=l.length*9:=by
 induction l with
 | nil=>simp
 | cons x r ih=>rw[QG,Qe,Jb8,ih,Qp,Nat.succ_mul];omega
def txA1(t:TxL)(i:Nat):List UInt8:=Hf t.1.length 1 1++(t.1.take i).flatMap Jc
def txA2(t:TxL)(i:Nat):List UInt8:=txA1 t t.1.length++(Hf t.2.length 1 1++(t.2.take i).flatMap outB)
theorem Jlw(t:TxL)(i:Nat)(h:i<t.1.length):txA1 t (i+1)=txA1 t i++Jc t.1[i]:=by
 unfold txA1;rw[QR h];simp only[l9,QG,lH,QC,Qs]
theorem JnG(t:TxL):txA2 t t.2.length=txB t:=by
 unfold txA2 txA1 txB JdX Jz;rw[lN,lN]
theorem JeJ(wj:Nat)(t:TxL)(h:TxOk wj t)(hw:wj<=32)(i:Nat):(txA1 t i).length<=100:=by
 unfold txA1;rw[Qe,Jf,JkG wj _ (λx hx=>h.coins x (List.mem_of_mem_take hx)),QB];have:=h.ins;have:min i t.1.length<=3:=by omega
 have:min i t.1.length*(wj+1)<=3*(32+1):=Nat.mul_le_mul this (by omega);omega
theorem JnH(wj:Nat)(t:TxL)(h:TxOk wj t)(hw:wj<=32)(i:Nat):(txA2 t i).length<=200:=by
 unfold txA2;rw[Qe,Qe,Jf,Jfi,QB];have:=JeJ wj t h hw t.1.length;have:=h.made;omega
theorem JO(a b:List UInt8)(h:a.length+b.length<=1000000000)(W:aA):(Op.stringOp .add (⟨a.toArray⟩:BA) ⟨b.toArray⟩).run Tryz.prog W=.ok (L ⟨(a++b).toArray⟩) W:=by
 rw[run_string_add_sum (P:=Tryz.prog) W (⟨a.toArray⟩:BA) ⟨b.toArray⟩ (by show a.toArray.size+b.toArray.size<=_;simp;omega)];exact congrArg (λx=>Result.ok (lP x) W) (YN (by simp))
theorem beL1(n:Nat):Hf n 1 1=[lG n]:=by simp[Hf]

theorem Jhf(hk:k<l.length)(he:l[k].1=c)(hn:∀j (hj:j<l.length),j<k->l[j].1 ≠ c):XX l c=Z k:=by
 unfold XX;rw[List.findIdx?_eq_some_iff_getElem];exact⟨hk,by simpa using he,λj hj=>by simpa using hn j (by omega) hj⟩
theorem Jmh(hn:∀j (hj:j<l.length),l[j].1 ≠ c):XX l c=Y:=by
 unfold XX;rw[List.findIdx?_eq_none_iff];intro x hx;obtain⟨j,hj,rfl⟩:=List.getElem_of_mem hx;simpa using hn j hj
def Yy(l:List Hd)(c:BA×Int):Int:=match XX l c with|some k=>(k:Int)|none=> -1


def JdJ(h:BA×Int):List aG:=[L h.1,O I h.2]
def YF(l:List (BA×Int)):List aG:=l.flatMap JdJ
theorem JbX(l:List (BA×Int)):(YF l).length=l.length*2:=by
 induction l with
 | nil=>rfl
 | cons x r ih=>simp only[YF,QG,Qe]at ih ⊢;rw[ih];simp[JdJ];omega
theorem Jkr(l:List (BA×Int)):∀u∈YF l,u.oneCell'=true:=by
 intro u hu;simp only[YF,lS,JdJ]at hu;obtain⟨x,_,hu⟩:=hu;simp only[lO,QD,or_false]at hu
 rcases hu with rfl|rfl<;>rfl
theorem Jf5(l l':List (BA×Int)):YF (l++l')=YF l++YF l':=by simp[YF]
theorem Jfd(l:List (BA×Int)):∀(i:Nat)(h:i<l.length),(YF l)[i*2]? =Z (L l[i].1)/\(YF l)[i*2+1]? =Z (O I l[i].2):=by
 induction l with
 | nil=>intro i h;simp at h
 | cons x r ih=>
  intro i h
  cases i with
  | zero=>simp[YF,JdJ]
  | succ i=>
   have e:∀j,(YF (x::r))[(i+1)*2+j]? =(YF r)[i*2+j]? :=by
    intro j;show (JdJ x++YF r)[(i+1)*2+j]? =_;rw[Qz (by simp[JdJ];omega)]
    congr 1;simp[JdJ];omega
   refine⟨?_,?_⟩
   ·have:=e 0;rw[lD,lD]at this;rw[this];simpa using (ih i (by simpa using h)).1
   ·rw[e 1];simpa using (ih i (by simpa using h)).2
theorem JG.cells{o:Nat}{l:List (BA×Int)}(h:∀i (h:i<l.length),w.cell? ⟨g,o+i*2,Y⟩=Z (L l[i].1)/\w.cell? ⟨g,o+i*2+1,Y⟩=Z (O I l[i].2)):
  ∀j u,(YF l)[j]? =Z u->w.cell? (Addr.add ⟨g,o,Y⟩ j)=Z u:=by
 intro j u hu;have hj:j<l.length*2:=by have:=(Qo.1 hu).1;rw[JbX]at this;exact this
 obtain⟨e0,e1⟩:=Jfd l (j/2) (by omega);obtain⟨f0,f1⟩:=h (j/2) (by omega);rw[Addr.add_lit];obtain hm|hm:j % 2=0\/j % 2=1:=by omega
 ·rw[show j/2*2=j by omega]at e0;rw[show o+j/2*2=o+j by omega]at f0;rw[f0,<-e0,hu]
 ·rw[show j/2*2+1=j by omega]at e1;rw[show o+j/2*2+1=o+j by omega]at f1;rw[f1,<-e1,hu]
def COwn(base:Nat)(w:aA)(v:aG)(l:List (BA×Int)):Prop:=w.ownsRow base 49 2 v l.length (YF l)
theorem COwn.nil(base:Nat)(w:aA):COwn base w (R Y 0 0) []:=⟨rfl,aM ⟨rfl,rfl⟩⟩
theorem COwn.at{l:List (BA×Int)}(h:COwn base w v l):JG w.heap.size w v l:=by
 obtain⟨_,⟨rfl,h0⟩|⟨g,cap,cur,rfl,_,hZ,_,_,Hp,kU⟩⟩:=h
 ·exact aM ⟨rfl,QP h0⟩
 ·have H7:=(Jb hZ)
  refine aN ⟨g,0,cap,rfl,H7,H7,λi hi=>?_⟩;obtain⟨e0,e1⟩:=Jfd l i hi;have hc:∀j u,(YF l)[j]? =Z u->w.cell? ⟨g,0+j,Y⟩=Z u:=by intro j u hu;rw[<-kU]at hu;have hj:=(Qo.1 hu).1;rw[lF (by rw[QB]at hj;omega)]at hu;rw[Ja hZ,lJ,<-lI];exact hu
  exact⟨hc _ _ e0,hc _ _ e1⟩
theorem COwn.own{l:List (BA×Int)}(h:COwn base w v l):∀k,v.ownBlock=Z k->base<=k/\k<w.heap.size:=by
 obtain⟨_,⟨rfl,h0⟩|⟨g,cap,cur,rfl,hb,hZ,_⟩⟩:=h
 ·intro k hk;cases hk
 ·intro k hk;cases hk;exact⟨hb,(Jb hZ)⟩
theorem COwn.tch{l:List (BA×Int)}(h:COwn base w v l)(k:M S w w')(hs:∀j,v.ownBlock=Z j->¬S j):COwn base w' v l:=by
 obtain⟨h1,⟨rfl,h0⟩|⟨g,cap,cur,rfl,hb,hZ,h2⟩⟩:=h
 ·exact⟨h1,aM ⟨rfl,h0⟩⟩
 ·exact⟨h1,aN ⟨g,cap,cur,rfl,hb,(k.block g (Jb hZ) (hs g rfl)).trans hZ,h2⟩⟩
theorem COwn.shape{l:List (BA×Int)}(h:COwn base w v l):∃a c,v=R a l.length c:=h.at.shape
theorem COwn.shape3{l:List (BA×Int)}(h:COwn base w v l):∃a m c,v=R a m c:=by
 obtain⟨a,c,h⟩:=h.shape;exact⟨a,_,c,h⟩
theorem JkJ:(prog.info? 49).map (λi=>(i.zero,i.size,i.bytes))=Z (Z (aH #[L ⟨#[]⟩,O I 0]),2,24):=by kernel_rfl
theorem Jdl{l:List (BA×Int)}(h:COwn base w v l)(x:aG)(B:Nat)(l2:List (BA×Int))(hx:JG B w x l2)(ty:TypeId)(hb:l.length+l2.length<=1000000000)(He:base<=w.heap.size):
  ∃v' w',(lV #[96,96] ty #[v,x]).run N w=.ok v' w'/\COwn base w' v' (l++l2)/\w.grownBy w' v.ownBlock:=by
 obtain⟨i,hi,hp⟩:=lE.1 JkJ;simp only[Qw]at hp;obtain⟨hz,Hp,gy⟩:=hp
 rcases hx with⟨rfl,rfl⟩|⟨g,o,c,rfl,_,hg,Ho⟩
 ·exact⟨v,w,run_append_owned_none (P:=N) (w:=w) base 96 ty 49 i 2 underlying96 hi v l.length (YF l) h,by rw[QC];exact h,l5.refl _ _⟩
 ·obtain⟨v',w',hr,h2,h3,h4⟩:=run_append_own (P:=N) w base 96 ty 49 i _ 2 24 underlying96 hi hz Hp gy rfl (by omega) v l.length (YF l) h ⟨g,o,Y⟩ l2.length c (YF l2) (JbX l2) (JG.cells Ho) (Jkr l2) (by simp only[maxLen];omega) (by omega) He;exact⟨v',w',hr,by unfold COwn;rw[Qe,Jf5];exact h2,h3⟩
theorem JmN(W:aA)(c:BA×Int):JG (W.heap.size+1) (W.alloc (T #[L c.1,O I c.2] 49)) (R (Z ⟨W.heap.size,0,Y⟩) 1 1) [c]:=by
 refine aN ⟨W.heap.size,0,1,rfl,by omega,by simp,λi hi=>?_⟩;obtain rfl:i=0:=by simpa using hi
 have hZ:=Qf W (T #[L c.1,O I c.2] 49);exact⟨Ja hZ,Ja hZ⟩

def outC(h:Nat×Nat):List aG:=[O aD ((h.1:Nat):Int),O aE ((h.2:Nat):Int)]
def outV(l:List (Nat×Nat)):List aG:=l.flatMap outC
theorem Jc6(l:List (Nat×Nat)):(outV l).length=l.length*2:=by
 induction l with
 | nil=>rfl
 | cons x r ih=>simp only[outV,QG,Qe]at ih ⊢;rw[ih];simp[outC];omega
theorem JmT(l:List (Nat×Nat)):∀u∈outV l,u.oneCell'=true:=by
 intro u hu;simp only[outV,lS,outC]at hu;obtain⟨x,_,hu⟩:=hu;simp only[lO,QD,or_false]at hu
 rcases hu with rfl|rfl<;>rfl
theorem Jhz(l l':List (Nat×Nat)):outV (l++l')=outV l++outV l':=by simp[outV]
theorem JhA(l:List (Nat×Nat)):∀(i:Nat)(h:i<l.length),(outV l)[i*2]? =Z (O aD ((l[i].1:Nat):Int))/\(outV l)[i*2+1]? =Z (O aE ((l[i].2:Nat):Int)):=by
 induction l with
 | nil=>intro i h;simp at h
 | cons x r ih=>
  intro i h
  cases i with
  | zero=>simp[outV,outC]
  | succ i=>
   have e:∀j,(outV (x::r))[(i+1)*2+j]? =(outV r)[i*2+j]? :=by
    intro j;show (outC x++outV r)[(i+1)*2+j]? =_;rw[Qz (by simp[outC];omega)]
    congr 1;simp[outC];omega
   refine⟨?_,?_⟩
   ·have:=e 0;rw[lD,lD]at this;rw[this];simpa using (ih i (by simpa using h)).1
   ·rw[e 1];simpa using (ih i (by simpa using h)).2
theorem Jr.cells{o:Nat}{l:List (Nat×Nat)}(h:∀i (h:i<l.length),w.cell? ⟨g,o+i*2,Y⟩=Z (O aD ((l[i].1:Nat):Int))/\w.cell? ⟨g,o+i*2+1,Y⟩=Z (O aE ((l[i].2:Nat):Int))):
  ∀j u,(outV l)[j]? =Z u->w.cell? (Addr.add ⟨g,o,Y⟩ j)=Z u:=by
 intro j u hu;have hj:j<l.length*2:=by have:=(Qo.1 hu).1;rw[Jc6]at this;exact this
 obtain⟨e0,e1⟩:=JhA l (j/2) (by omega);obtain⟨f0,f1⟩:=h (j/2) (by omega);rw[Addr.add_lit];obtain hm|hm:j % 2=0\/j % 2=1:=by omega
 ·rw[show j/2*2=j by omega]at e0;rw[show o+j/2*2=o+j by omega]at f0;rw[f0,<-e0,hu]
 ·rw[show j/2*2+1=j by omega]at e1;rw[show o+j/2*2+1=o+j by omega]at f1;rw[f1,<-e1,hu]
def OOwn(base:Nat)(w:aA)(v:aG)(l:List (Nat×Nat)):Prop:=w.ownsRow base 80 2 v l.length (outV l)
theorem OOwn.nil(base:Nat)(w:aA):OOwn base w (R Y 0 0) []:=⟨rfl,aM ⟨rfl,rfl⟩⟩
theorem OOwn.at{l:List (Nat×Nat)}(h:OOwn base w v l):Jr w.heap.size w v l:=by
 obtain⟨_,⟨rfl,h0⟩|⟨g,cap,cur,rfl,_,hZ,_,_,Hp,kU⟩⟩:=h
 ·exact aM ⟨rfl,QP h0⟩
 ·have H7:=(Jb hZ)
  refine aN ⟨g,0,cap,rfl,H7,H7,λi hi=>?_⟩;obtain⟨e0,e1⟩:=JhA l i hi;have hc:∀j u,(outV l)[j]? =Z u->w.cell? ⟨g,0+j,Y⟩=Z u:=by intro j u hu;rw[<-kU]at hu;have hj:=(Qo.1 hu).1;rw[lF (by rw[QB]at hj;omega)]at hu;rw[Ja hZ,lJ,<-lI];exact hu
  exact⟨hc _ _ e0,hc _ _ e1⟩
theorem OOwn.own{l:List (Nat×Nat)}(h:OOwn base w v l):∀k,v.ownBlock=Z k->base<=k/\k<w.heap.size:=by
 obtain⟨_,⟨rfl,h0⟩|⟨g,cap,cur,rfl,hb,hZ,_⟩⟩:=h
 ·intro k hk;cases hk
 ·intro k hk;cases hk;exact⟨hb,(Jb hZ)⟩
theorem OOwn.tch{l:List (Nat×Nat)}(h:OOwn base w v l)(k:M S w w')(hs:∀j,v.ownBlock=Z j->¬S j):OOwn base w' v l:=by
 obtain⟨h1,⟨rfl,h0⟩|⟨g,cap,cur,rfl,hb,hZ,h2⟩⟩:=h
 ·exact⟨h1,aM ⟨rfl,h0⟩⟩
 ·exact⟨h1,aN ⟨g,cap,cur,rfl,hb,(k.block g (Jb hZ) (hs g rfl)).trans hZ,h2⟩⟩
theorem OOwn.shape{l:List (Nat×Nat)}(h:OOwn base w v l):∃a c,v=R a l.length c:=h.at.shape
theorem OOwn.shape3{l:List (Nat×Nat)}(h:OOwn base w v l):∃a m c,v=R a m c:=by
 obtain⟨a,c,h⟩:=h.shape;exact⟨a,_,c,h⟩
theorem Jmq:(prog.info? 80).map (λi=>(i.zero,i.size,i.bytes))=Z (Z (aH #[O aD 0,O aE 0]),2,16):=by kernel_rfl
theorem Ja5{l:List (Nat×Nat)}(h:OOwn base w v l)(x:aG)(B:Nat)(l2:List (Nat×Nat))(hx:Jr B w x l2)(ty:TypeId)(hb:l.length+l2.length<=1000000000)(He:base<=w.heap.size):
  ∃v' w',(lV #[22,22] ty #[v,x]).run N w=.ok v' w'/\OOwn base w' v' (l++l2)/\w.grownBy w' v.ownBlock:=by
 obtain⟨i,hi,hp⟩:=lE.1 Jmq;simp only[Qw]at hp;obtain⟨hz,Hp,gy⟩:=hp
 rcases hx with⟨rfl,rfl⟩|⟨g,o,c,rfl,_,hg,Ho⟩
 ·exact⟨v,w,run_append_owned_none (P:=N) (w:=w) base 22 ty 80 i 2 underlying22 hi v l.length (outV l) h,by rw[QC];exact h,l5.refl _ _⟩
 ·obtain⟨v',w',hr,h2,h3,h4⟩:=run_append_own (P:=N) w base 22 ty 80 i _ 2 16 underlying22 hi hz Hp gy rfl (by omega) v l.length (outV l) h ⟨g,o,Y⟩ l2.length c (outV l2) (Jc6 l2) (Jr.cells Ho) (JmT l2) (by simp only[maxLen];omega) (by omega) He;exact⟨v',w',hr,by unfold OOwn;rw[Qe,Jhz];exact h2,h3⟩
theorem Jcu(jz:o.guard=Y)(s x:Operand)
 (ho:o.op=.call { callee:=.builtin .append,args:= #[s,x],argTypes:= #[22,22] })
 {l:List (Nat×Nat)} (hv:a.eval s=v) (h:OOwn base w v l) (xv:aG) (B:Nat) (l2:List (Nat×Nat)) (hx:a.eval x=xv) (hs:Jr B w xv l2) (hb:l.length+l2.length<=1000000000) (He:base<=w.heap.size)
 (hK:∀v' w',OOwn base w' v' (l++l2)->w.grownBy w' v.ownBlock->wpList N ops Q rest (a.put o.dst v') w'):wpList N ops Q (o::rest) a w:=by
 refine wpList_plain jz λK vA=>?_;obtain⟨v',w',kH,r,r2⟩:=Ja5 h xv B l2 hs o.type hb He;unfold Oper.wp;simp[execOp,ho,resolve,invoke,builtin,hv,hx,kH,Result.andThen];exact vA _ _ (hK v' w' r r2)
theorem Jdm{E:Prop}
 (jz:o.guard=Y) (s x:Operand) (ho:o.op=.call { callee:=.builtin .append,args:= #[s,x],argTypes:= #[22,22] })
 {l:List (Nat×Nat)} (hv:a.eval s=v) (h:OOwn base w v l) (xv:aG) (B:Nat) (l2:List (Nat×Nat)) (hx:a.eval x=xv) (hs:Jr B w xv l2) (hb:l.length+l2.length<=1000000000) (He:base<=w.heap.size)
 (hK:∀v' w',OOwn base w' v' (l++l2)->w.grownBy w' v.ownBlock->K (a.put o.dst v') w'):
  if lT o (yielded ops a.tmps)=true then Oper.wp N o a w K Q else E:=by
 have hw:lT o (yielded ops a.tmps)=true:=by simp[lT,jz]
 rw[if_pos hw];obtain⟨v',w',kH,r,r2⟩:=Ja5 h xv B l2 hs o.type hb He;unfold Oper.wp;simp[execOp,ho,resolve,invoke,builtin,hv,hx,kH,Result.andThen];exact hK v' w' r r2
theorem JjW(W:aA)(c:Nat×Nat):Jr (W.heap.size+1) (W.alloc (T #[O aD ((c.1:Nat):Int),O aE ((c.2:Nat):Int)] 80)) (R (Z ⟨W.heap.size,0,Y⟩) 1 1) [c]:=by
 refine aN ⟨W.heap.size,0,1,rfl,by omega,by simp,λi hi=>?_⟩;obtain rfl:i=0:=by simpa using hi
 have hZ:=Qf W (T #[O aD ((c.1:Nat):Int),O aE ((c.2:Nat):Int)] 80);exact⟨Ja hZ,Ja hZ⟩

def txC(h:Sl×Sl):List aG:=[R h.1.1 h.1.2.1 h.1.2.2,R h.2.1 h.2.2.1 h.2.2.2]
def txV(l:List (Sl×Sl)):List aG:=l.flatMap txC
theorem JeL(l:List (Sl×Sl)):(txV l).length=l.length*2:=by
 induction l with
 | nil=>rfl
 | cons x r ih=>simp only[txV,QG,Qe]at ih ⊢;rw[ih];simp[txC];omega
theorem Jpc(l:List (Sl×Sl)):∀u∈txV l,u.oneCell'=true:=by
 intro u hu;simp only[txV,lS,txC]at hu;obtain⟨x,_,hu⟩:=hu;simp only[lO,QD,or_false]at hu
 rcases hu with rfl|rfl<;>rfl
theorem Jjv(l l':List (Sl×Sl)):txV (l++l')=txV l++txV l':=by simp[txV]
theorem Jkc(l:List (Sl×Sl)):∀(i:Nat)(h:i<l.length),(txV l)[i*2]? =Z (R l[i].1.1 l[i].1.2.1 l[i].1.2.2)/\(txV l)[i*2+1]? =Z (R l[i].2.1 l[i].2.2.1 l[i].2.2.2):=by
 induction l with
 | nil=>intro i h;simp at h
 | cons x r ih=>
  intro i h
  cases i with
  | zero=>simp[txV,txC]
  | succ i=>
   have e:∀j,(txV (x::r))[(i+1)*2+j]? =(txV r)[i*2+j]? :=by
    intro j;show (txC x++txV r)[(i+1)*2+j]? =_;rw[Qz (by simp[txC];omega)]
    congr 1;simp[txC];omega
   refine⟨?_,?_⟩
   ·have:=e 0;rw[lD,lD]at this;rw[this];simpa using (ih i (by simpa using h)).1
   ·rw[e 1];simpa using (ih i (by simpa using h)).2
theorem Xa.cells{o:Nat}{l:List (Sl×Sl)}(h:∀i (h:i<l.length),w.cell? ⟨g,o+i*2,Y⟩=Z (R l[i].1.1 l[i].1.2.1 l[i].1.2.2)/\w.cell? ⟨g,o+i*2+1,Y⟩=Z (R l[i].2.1 l[i].2.2.1 l[i].2.2.2)):
  ∀j u,(txV l)[j]? =Z u->w.cell? (Addr.add ⟨g,o,Y⟩ j)=Z u:=by
 intro j u hu;have hj:j<l.length*2:=by have:=(Qo.1 hu).1;rw[JeL]at this;exact this
 obtain⟨e0,e1⟩:=Jkc l (j/2) (by omega);obtain⟨f0,f1⟩:=h (j/2) (by omega);rw[Addr.add_lit];obtain hm|hm:j % 2=0\/j % 2=1:=by omega
 ·rw[show j/2*2=j by omega]at e0;rw[show o+j/2*2=o+j by omega]at f0;rw[f0,<-e0,hu]
 ·rw[show j/2*2+1=j by omega]at e1;rw[show o+j/2*2+1=o+j by omega]at f1;rw[f1,<-e1,hu]
def TOwn(base:Nat)(w:aA)(v:aG)(l:List (Sl×Sl)):Prop:=w.ownsRow base 98 2 v l.length (txV l)
theorem TOwn.nil(base:Nat)(w:aA):TOwn base w (R Y 0 0) []:=⟨rfl,aM ⟨rfl,rfl⟩⟩
theorem TOwn.at{l:List (Sl×Sl)}(h:TOwn base w v l):Xa w.heap.size w v l:=by
 obtain⟨_,⟨rfl,h0⟩|⟨g,cap,cur,rfl,_,hZ,_,_,Hp,kU⟩⟩:=h
 ·exact aM ⟨rfl,QP h0⟩
 ·have H7:=(Jb hZ)
  refine aN ⟨g,0,cap,rfl,H7,H7,λi hi=>?_⟩;obtain⟨e0,e1⟩:=Jkc l i hi;have hc:∀j u,(txV l)[j]? =Z u->w.cell? ⟨g,0+j,Y⟩=Z u:=by intro j u hu;rw[<-kU]at hu;have hj:=(Qo.1 hu).1;rw[lF (by rw[QB]at hj;omega)]at hu;rw[Ja hZ,lJ,<-lI];exact hu
  exact⟨hc _ _ e0,hc _ _ e1⟩
theorem TOwn.own{l:List (Sl×Sl)}(h:TOwn base w v l):∀k,v.ownBlock=Z k->base<=k/\k<w.heap.size:=by
 obtain⟨_,⟨rfl,h0⟩|⟨g,cap,cur,rfl,hb,hZ,_⟩⟩:=h
 ·intro k hk;cases hk
 ·intro k hk;cases hk;exact⟨hb,(Jb hZ)⟩
theorem TOwn.tch{l:List (Sl×Sl)}(h:TOwn base w v l)(k:M S w w')(hs:∀j,v.ownBlock=Z j->¬S j):TOwn base w' v l:=by
 obtain⟨h1,⟨rfl,h0⟩|⟨g,cap,cur,rfl,hb,hZ,h2⟩⟩:=h
 ·exact⟨h1,aM ⟨rfl,h0⟩⟩
 ·exact⟨h1,aN ⟨g,cap,cur,rfl,hb,(k.block g (Jb hZ) (hs g rfl)).trans hZ,h2⟩⟩
theorem TOwn.shape{l:List (Sl×Sl)}(h:TOwn base w v l):∃a c,v=R a l.length c:=h.at.shape
theorem TOwn.shape3{l:List (Sl×Sl)}(h:TOwn base w v l):∃a m c,v=R a m c:=by
 obtain⟨a,c,h⟩:=h.shape;exact⟨a,_,c,h⟩
theorem Jom:(prog.info? 98).map (λi=>(i.zero,i.size,i.bytes))=Z (Z (aH #[R Y 0 0,R Y 0 0]),2,48):=by kernel_rfl
theorem Je6{l:List (Sl×Sl)}(h:TOwn base w v l)(x:aG)(B:Nat)(l2:List (Sl×Sl))(hx:Xa B w x l2)(ty:TypeId)(hb:l.length+l2.length<=1000000000)(He:base<=w.heap.size):
  ∃v' w',(lV #[73,73] ty #[v,x]).run N w=.ok v' w'/\TOwn base w' v' (l++l2)/\w.grownBy w' v.ownBlock:=by
 obtain⟨i,hi,hp⟩:=lE.1 Jom;simp only[Qw]at hp;obtain⟨hz,Hp,gy⟩:=hp
 rcases hx with⟨rfl,rfl⟩|⟨g,o,c,rfl,_,hg,Ho⟩
 ·exact⟨v,w,run_append_owned_none (P:=N) (w:=w) base 73 ty 98 i 2 underlying73 hi v l.length (txV l) h,by rw[QC];exact h,l5.refl _ _⟩
 ·obtain⟨v',w',hr,h2,h3,h4⟩:=run_append_own (P:=N) w base 73 ty 98 i _ 2 48 underlying73 hi hz Hp gy rfl (by omega) v l.length (txV l) h ⟨g,o,Y⟩ l2.length c (txV l2) (JeL l2) (Xa.cells Ho) (Jpc l2) (by simp only[maxLen];omega) (by omega) He;exact⟨v',w',hr,by unfold TOwn;rw[Qe,Jjv];exact h2,h3⟩
theorem JcT(jz:o.guard=Y)(s x:Operand)
 (ho:o.op=.call { callee:=.builtin .append,args:= #[s,x],argTypes:= #[73,73] })
 {l:List (Sl×Sl)} (hv:a.eval s=v) (h:TOwn base w v l) (xv:aG) (B:Nat) (l2:List (Sl×Sl)) (hx:a.eval x=xv) (hs:Xa B w xv l2) (hb:l.length+l2.length<=1000000000) (He:base<=w.heap.size)
 (hK:∀v' w',TOwn base w' v' (l++l2)->w.grownBy w' v.ownBlock->wpList N ops Q rest (a.put o.dst v') w'):wpList N ops Q (o::rest) a w:=by
 refine wpList_plain jz λK vA=>?_;obtain⟨v',w',kH,r,r2⟩:=Je6 h xv B l2 hs o.type hb He;unfold Oper.wp;simp[execOp,ho,resolve,invoke,builtin,hv,hx,kH,Result.andThen];exact vA _ _ (hK v' w' r r2)
theorem Jp1(W:aA)(c:Sl×Sl):Xa (W.heap.size+1) (W.alloc (T #[R c.1.1 c.1.2.1 c.1.2.2,R c.2.1 c.2.2.1 c.2.2.2] 98)) (R (Z ⟨W.heap.size,0,Y⟩) 1 1) [c]:=by
 refine aN ⟨W.heap.size,0,1,rfl,by omega,by simp,λi hi=>?_⟩;obtain rfl:i=0:=by simpa using hi
 have hZ:=Qf W (T #[R c.1.1 c.1.2.1 c.1.2.2,R c.2.1 c.2.2.1 c.2.2.2] 98);exact⟨Ja hZ,Ja hZ⟩

def Xr:Er->Int
 | 0=>1
 | 1=>2
 | 2=>3
 | 3=>4
 | 4=>5
 | 5=>6
 | 6=>7

def JlK(w:aA)(v:aG)(ts:List TxL):Prop:=
 ∃l:List (Sl×Sl),Xa w.heap.size w v l/\l.length=ts.length/\∀(j:Nat) x t,l[j]? =Z x->ts[j]? =Z t->JG w.heap.size w (R x.1.1 x.1.2.1 x.1.2.2) t.1/\Jr w.heap.size w (R x.2.1 x.2.2.1 x.2.2.2) t.2
structure Xt(E:Nat->Addr)(base:Nat)(w:aA):Prop where
 env:Env E w
 sent:Sent E w
 vars:18<=base
 rows:∀g∈Ss,(E g).block<base
theorem Xt.tch(h:Xt E base w)(k:M S w w')(hs:∀j,S j->base<=j):Xt E base w':=
 ⟨h.env.tch k (λj hj=>Qm h.vars (hs j hj)),h.sent.tch k (λg hg hj=>by have:=hs _ hj;have:=h.rows g hg;omega),h.vars,h.rows⟩
def ZF(ch:Ch)(h:Int):BA:=if 0<=h then (ch.getD h.toNat (⟨#[]⟩,Y)).1 else ⟨#[]⟩

def XK(id:BA)(outs:List (Nat×Nat))(n:Nat):List Hd:=(List.range n).map λ(i:Nat)=>((id,(i:Int)),outs.getD i (0,0))
theorem Jc1(id:BA)(outs:List (Nat×Nat))(n:Nat):XK id outs (n+1)=XK id outs n++[((id,(n:Int)),outs.getD n (0,0))]:=by
 unfold XK;rw[List.range_succ,List.map_append];rfl
theorem Jhg(id:BA)(outs:List (Nat×Nat))(n:Nat):XX (XK id outs n) (id,(n:Int))=Y:=by
 unfold XX;rw[List.findIdx?_eq_none_iff];intro x hx;unfold XK at hx;rw[QL]at hx;obtain⟨i,hi,rfl⟩:=hx;rw[List.mem_range]at hi;simp only[decide_eq_false_iff_not];intro h;have:=congrArg Prod.snd h;simp only at this;omega
theorem Jbu(id:BA)(outs:List (Nat×Nat)):∀(r:List (Nat×Nat))(n:Nat),outs.drop n=r->n+r.length=outs.length->∀(o:Nat)(b:Bool),∃o' b',ZL id n r (XK id outs n,o,b)=Z (XK id outs outs.length,o',b'):=by
 intro r
 induction r with
 | nil=>intro n _ hn o b;simp only[Qv,lD]at hn;subst hn;exact⟨o,b,rfl⟩
 | cons x r ih=>
  intro n hd hn o b;simp only[ZL,Jhg];have H7:n<outs.length:=by simp only[Qp]at hn;omega
  have e:=lU H7;rw[hd]at e;simp only[QH]at e;have ex:outs.getD n (0,0)=x:=by simp[List.getD_eq_getElem?_getD,List.getElem?_eq_getElem H7,e.1]
  have:=ih (n+1) e.2.symm (by simp only[Qp]at hn;omega) ((o+x.1) % M64) (b || decide ((o+x.1) % M64<o));rw[Jc1,ex]at this;exact this
theorem JiE(wj:Nat)(outs:List (Nat×Nat))(ho:∀o∈outs,Jy o)(h3:outs.length<=3)(id:BA)(qn:id.size=wj)(st:Option Tr)(h:JA id 0 outs Y=.ok st):Book wj st (XK id outs outs.length):=by
 have B0:Book wj Y []:=by
  refine⟨?_,?_,?_,?_⟩
  ·intro t ht;cases ht
  ·intro h hh;exact(QD hh).elim
  ·exact List.nodup_nil
  ·intro k o;simp[JX]
 have:=Jce wj id qn outs ho 0 (by omega) Y [] 0 false B0;obtain⟨o',b',e⟩:=Jbu id outs outs 0 rfl (by omega) 0 false;have e0:XK id outs 0=[]:=rfl;rw[e0]at e;rw[show (0:Nat) % M64=0 from rfl,e]at this;obtain⟨st',e1,B,_⟩:=this;rw[h]at e1
 cases e1
 exact B

theorem Jkq(er:Er):Jl7 (erG er)=Xr er:=by cases er using Er.on<;>rfl
theorem JpN(er:Er):erG er∈Ss:=by cases er using Er.on<;>decide
theorem fTip(hl:w.cell? ⟨lb,0,Y⟩=Z (X (Z ⟨cb,0,Y⟩)))(n:Int)(h:aB N 40 #[X (Z ⟨cb,0,Y⟩)] w λe w'=>e=aC (O I n)/\w=w'):
  aB N 15 #[X (Z ⟨lb,0,Y⟩)] w λe w'=>e=aC (O I n)/\w=w':=by
 have H:J (aB _ _ _ _ _):=h;clear h;go_enter func15,ntmps15;go_wp2_with fail;refine H.out.mono ?_;rintro _ _⟨rfl,rfl⟩;go_wp2;go_ret;exact⟨rfl,rfl⟩
theorem Jag(er:Er)(hE:Env E w)(hS:Sent E w)(t:TypeId)(u:aG)(hv:Jn E (erG er) w (aJ t u)):
  aB N 42 #[aJ t u] w λe w'=>e=aC (O I (Xr er))/\M D w w':=by
 refine(JkB (erG er) (JpN er) hE hS _ hv).mono λe w' k=>?_;rw[Jkq]at k;exact⟨k.1,by rw[k.2];exact Te _ _⟩
theorem JiB(hl:w.cell? ⟨lb,0,Y⟩=Z (X (Z ⟨cb,0,Y⟩)))(k:Int)(s:BA)(h:aB N 41 #[X (Z ⟨cb,0,Y⟩),O I k] w λe w'=>M D w w'/\e=aC (aI #[L s,aK])):
  aB N 16 #[X (Z ⟨lb,0,Y⟩),O I k] w λe w'=>e=aC (aI #[L s,O I 0])/\M D w w':=by
 have H:J (aB _ _ _ _ _):=h;clear h;go_enter func16,ntmps16;go_wp2_with fail;refine H.out.mono ?_;rintro _ w1⟨ht,rfl⟩;have HT:J (M D w w1):=ht;clear ht H;go_wp2_with fail;refine(Jbd _).mono ?_;rintro _ _⟨rfl,rfl⟩;go_wp2;go_ret2;exact⟨rfl,HT.o⟩
theorem Jhd(hS:∀w',M D w w'->Env E w'/\Sent E w')(er:Er)(hl:w.cell? ⟨lb,0,Y⟩=Z (X (Z ⟨cb,0,Y⟩)))(k:Int)(h:aB N 41 #[X (Z ⟨cb,0,Y⟩),O I k] w λe w'=>M D w w'/\∃t u,e=aC (aI #[L ⟨#[]⟩,aJ t u])/\Jn E (erG er) w' (aJ t u)):
  aB N 16 #[X (Z ⟨lb,0,Y⟩),O I k] w λe w'=>e=aC (aI #[L ⟨#[]⟩,O I (Xr er)])/\M D w w':=by
 have H:J (aB _ _ _ _ _):=h;have HS:J _:=hS;go_enter func16,ntmps16;go_wp2_with fail;refine H.out.mono ?_;rintro _ w1⟨ht,t,u,rfl,he⟩;have HT:J _:=ht;have HR:J (aB _ _ _ _ _):=Jag er (HS w1 ht).1 (HS w1 ht).2 t u he;go_wp2_with fail;refine HR.o.mono ?_;rintro _ w2⟨rfl,Ha⟩;have H6:J _:=Ha;go_wp2;go_ret2;exact⟨rfl,HT.go H6⟩
theorem Jmg(hl:w.cell? ⟨lb,0,Y⟩=Z (X (Z ⟨cb,0,Y⟩)))(ia:Option Addr)(n ic:Nat)(s:BA)(h:aB N 45 #[X (Z ⟨cb,0,Y⟩),R ia n ic] w λe w'=>M D w w'/\e=aC (aI #[L s,aK])):
  aB N 18 #[X (Z ⟨lb,0,Y⟩),R ia n ic] w λe w'=>M D w w'/\e=aC (aI #[L s,O I 0]):=by
 have H:J (aB _ _ _ _ _):=h;clear h;go_enter func18,ntmps18;go_wp2_with fail;refine H.out.mono ?_;rintro _ w1⟨ht,rfl⟩;have HT:J (M D w w1):=ht;clear ht H;go_wp2_with fail;refine(Jbd _).mono ?_;rintro _ _⟨rfl,rfl⟩;go_wp2;go_ret2;exact⟨HT.o,rfl⟩
theorem Jfh(hS:∀w',M D w w'->Env E w'/\Sent E w')(er:Er)(hl:w.cell? ⟨lb,0,Y⟩=Z (X (Z ⟨cb,0,Y⟩)))(ia:Option Addr)(n ic:Nat)(h:aB N 45 #[X (Z ⟨cb,0,Y⟩),R ia n ic] w λe w'=>M D w w'/\∃t u,e=aC (aI #[L ⟨#[]⟩,aJ t u])/\Jn E (erG er) w' (aJ t u)):
  aB N 18 #[X (Z ⟨lb,0,Y⟩),R ia n ic] w λe w'=>M D w w'/\e=aC (aI #[L ⟨#[]⟩,O I (Xr er)]):=by
 have H:J (aB _ _ _ _ _):=h;have HS:J _:=hS;go_enter func18,ntmps18;go_wp2_with fail;refine H.out.mono ?_;rintro _ w1⟨ht,t,u,rfl,he⟩;have HT:J _:=ht;have HR:J (aB _ _ _ _ _):=Jag er (HS w1 ht).1 (HS w1 ht).2 t u he;go_wp2_with fail;refine HR.o.mono ?_;rintro _ w2⟨rfl,Ha⟩;have H6:J _:=Ha;go_wp2;go_ret2;exact⟨HT.go H6,rfl⟩
theorem JiC(hl:w.cell? ⟨lb,0,Y⟩=Z (X (Z ⟨cb,0,Y⟩)))(s:BA)(Q:aA->Prop)(h:aB N 46 #[X (Z ⟨cb,0,Y⟩),L s] w λe w'=>e=aC aK/\Q w'):
  aB N 19 #[X (Z ⟨lb,0,Y⟩),L s] w λe w'=>e=aC (O I 0)/\Q w':=by
 have H:J (aB _ _ _ _ _):=h;clear h;go_enter func19,ntmps19;go_wp2_with fail;refine H.out.mono ?_;rintro _ w1⟨rfl,hq⟩;have HQ:J (Q w1):=hq;clear hq H;go_wp2_with fail;refine(Jbd _).mono ?_;rintro _ _⟨rfl,rfl⟩;go_wp2;go_ret;exact⟨rfl,HQ.o⟩
theorem Jhe(hS:∀w',M D w w'->Env E w'/\Sent E w')(er:Er)(hl:w.cell? ⟨lb,0,Y⟩=Z (X (Z ⟨cb,0,Y⟩)))(s:BA)(h:aB N 46 #[X (Z ⟨cb,0,Y⟩),L s] w λe w'=>NoTo E (erG er) w e w'):
  aB N 19 #[X (Z ⟨lb,0,Y⟩),L s] w λe w'=>e=aC (O I (Xr er))/\M D w w':=by
 have H:J (aB _ _ _ _ _):=h;have HS:J _:=hS;go_enter func19,ntmps19;go_wp2_with fail;refine H.out.mono ?_;rintro _ w1⟨ht,t,u,rfl,he⟩;have HT:J _:=ht;have HR:J (aB _ _ _ _ _):=Jag er (HS w1 ht).1 (HS w1 ht).2 t u he;go_wp2_with fail;refine HR.o.mono ?_;rintro _ w2⟨rfl,Ha⟩;have H6:J _:=Ha;go_wp2;go_ret;exact⟨rfl,HT.go H6⟩
theorem fNew(wj:Int)(ia:Option Addr)(n ic:Nat)(Q:aA->Nat->Prop)(h:aB N 72 #[O I wj,R ia n ic] w λe w'=>∃cb,e=aC (aI #[X (Z ⟨cb,0,Y⟩),aK])/\Q w' cb):
  aB N 37 #[O I wj,R ia n ic] w λe w'=>∃w1 cb,Q w1 cb/\w'=w1.alloc (T #[X (Z ⟨cb,0,Y⟩)] 90)/\e=aC (aI #[X (Z ⟨w1.heap.size,0,Y⟩),O I 0]):=by
 have H:J (aB _ _ _ _ _):=h;clear h;go_enter func37,ntmps37;go_wp2_with fail;refine H.out.mono ?_;rintro _ w1⟨cb,rfl,hq⟩;have HQ:J (Q w1 cb):=hq;clear hq H;go_wp2;go_ret2;exact⟨w1,cb,HQ.o,rfl,rfl⟩

def Jn0(aY:TypeId):Prop:=aY=90\/aY=143\/aY=243\/aY=5
structure Zw(wj base pn:Nat)(w:aA)(lb:Nat)(F:Nat->Prop)(fl:Nat)(ch:Ch)(lg:List UInt8)(cb r:Nat)(bs:List BV)(lv:aG):Prop where
 led:w.heap[lb]? =Z (T #[X (Z ⟨cb,0,Y⟩)] 90)
 row:JR w cb wj fl r bs lv
 log:Xy base w lv lg
 len:bs.length=ch.length
 pos:fl<ch.length
 most:ch.length<=134217728
 short:lg.length<=1000100*ch.length+100*pn
 few:pn<=134217728
 hdr:∀(i:Nat) b c,bs[i]? =Z b->ch[i]? =Z c->b.1=c.1/\b.1.size<=1000
 st:∀(i:Nat) b c,bs[i]? =Z b->ch[i]? =Z c->fl<=i->b.2.1=wj/\StAt (H3 wj) F w b.2.2 c.2/\StOk wj c.2
 gone:∀(i:Nat) b,bs[i]? =Z b->i<fl->b.2=(0,Y)
 ownL:F lb
 ownC:F cb
 ownR:F r
 ownG:∀k,lv.ownBlock=Z k->F k
 low:∀j,F j->base<=j/\j<w.heap.size
 kind:∀j,F j->∀cur aY m,w.heap[j]? =Z (T cur aY m)->Jn0 aY
theorem JR.tch(h:JR w cb wj fl r bs v)(k:M S w w')(h1:¬S cb)(h2:¬S r):JR w' cb wj fl r bs v:=
 ⟨(k.block _ (Jb h.row) h1).trans h.row,(k.block _ (Jb h.map) h2).trans h.map⟩
theorem Zw.keep(h:Zw wj base pn w lb F fl ch lg cb r bs lv)(k:M S w w')(hs:∀j,S j->¬F j):Zw wj base pn w' lb F fl ch lg cb r bs lv where
 led:=(k.block _ (Jb h.led) (λe=>hs _ e h.ownL)).trans h.led
 row:=h.row.tch k (λe=>hs _ e h.ownC) (λe=>hs _ e h.ownR)
 log:=h.log.tch k (λj hj e=>hs _ e (h.ownG j hj))
 len:=h.len
 pos:=h.pos
 most:=h.most
 short:=h.short
 few:=h.few
 hdr:=h.hdr
 st:=λi b c h1 h2 h3=>⟨(h.st i b c h1 h2 h3).1,(h.st i b c h1 h2 h3).2.1.tch k hs,(h.st i b c h1 h2 h3).2.2⟩
 gone:=h.gone
 ownL:=h.ownL
 ownC:=h.ownC
 ownR:=h.ownR
 ownG:=h.ownG
 low:=λj hj=>⟨(h.low j hj).1,Qk (h.low j hj).2 k.size⟩
 kind:=λj hj cur aY m hr=>h.kind j hj cur aY m ((k.block j (h.low j hj).2 (λe=>hs j e hj)).symm.trans hr)
def Jqv(wj base pn:Nat)(w:aA)(lb:Nat)(F:Nat->Prop)(fl:Nat)(ch:Ch):Prop:=∃lg cb r bs lv,Zw wj base pn w lb F fl ch lg cb r bs lv
theorem Zw.last(h:Zw wj base pn w lb F fl ch lg cb r bs lv):
  ∃m bh q st,ch.length=m+1/\bs.length=m+1/\bs[m]? =Z (bh,wj,q)/\ch[m]? =Z (bh,st)/\bh.size<=1000/\StAt (H3 wj) F w q st/\StOk wj st/\ch.last=(bh,st):=by
 have hp:=h.pos;obtain⟨m,hm⟩:∃m,ch.length=m+1:=⟨ch.length-1,by omega⟩
 have ax:bs.length=m+1:=by rw[h.len,hm]
 have hb:bs[m]? =Z (bs[m]'(by omega)):=Qd (by omega);have hc:ch[m]? =Z (ch[m]'(by omega)):=Qd (by omega);generalize bs[m]'(by omega)=b at hb;obtain⟨e1,e2⟩:=h.hdr m _ _ hb hc;obtain⟨e3,e4,e5⟩:=h.st m _ _ hb hc (by omega);have q8:ch.last=ch[m]'(by omega):=by
  unfold Ch.last;rw[List.getLastD_eq_getLast?,List.getLast?_eq_getElem?];have e:ch.length-1=m:=by omega
  rw[e,hc];rfl
 generalize tp:ch[m]'(by omega)=c at *;obtain⟨b1,b2,b3⟩:=b;obtain⟨c1,c2⟩:=c;simp only at e1 e3 e4 e5;subst e1 e3;exact⟨m,b1,b3,c2,hm,ax,hb,hc,e2,e4,e5,q8⟩
theorem Xt.next(h:Xt E base w)(k:M D w w'):Env E w'/\Sent E w':=⟨(h.tch k (λ_ e=>e.elim)).env,(h.tch k (λ_ e=>e.elim)).sent⟩
theorem Zw.more{kq:aG}(h:Zw wj base pn w lb F fl ch lg cb r bs lv)(hc:ch.length<134217728){q:Option Nat}{ext:List UInt8}(hx:ext.length<=1000100)
 (hR:JR w' cb wj fl r (bs++[(hd,wj,q)]) kq) (hS:StAt (H3 wj) (λj=>(F j/\¬Z j=lv.ownBlock)\/w.heap.size<=j) w' q st) (hk:StOk wj st) (hL:Xy base w' kq (lg++ext)) (hT:M (λk=>k=cb\/k=r\/Z k=lv.ownBlock) w w') (hM:Jq w lv.ownBlock kq.ownBlock) (hh:hd.size<=1000) (jG:base<=w.heap.size):
  ∃F':Nat->Prop,(∀j,F' j->F j\/w.heap.size<=j)/\Zw wj base pn w' lb F' fl (ch++[(hd,st)]) (lg++ext) cb r (bs++[(hd,wj,q)]) kq:=by
 have hTF:∀j,(j=cb\/j=r\/Z j=lv.ownBlock)->F j:=λj hj=>by
  rcases hj with rfl|rfl|e
  ·exact h.ownC
  ·exact h.ownR
  ·exact h.ownG j e.symm
 have hnew:∀k,kq.ownBlock=Z k->F k\/w.heap.size<=k:=λk hk=>by
  rcases hM with e|⟨i,e,hi⟩
  ·exact aM (h.ownG k (by rw[<-e];exact hk))
  ·rw[hk]at e;cases e;exact aN hi
 have pS:lb ≠ cb/\lb ≠ r/\¬Z lb=lv.ownBlock:=by
  refine⟨λe=>?_,λe=>?_,λe=>?_⟩
  ·have:=h.led;rw[e,h.row.row]at this;simp at this
  ·have:=h.led;rw[e,h.row.map]at this;simp at this
  ·obtain⟨cu,mm,hr⟩:=h.log.kind lb e.symm;rw[h.led]at hr;simp at hr
 refine⟨λj=>(F j/\¬(Z j=lv.ownBlock/\¬kq.ownBlock=Z j))\/(w.heap.size<=j/\((∃c,w'.heap[j]? =Z (T c 243))\/kq.ownBlock=Z j)),λj hj=>hj.imp (λe=>e.1) (λe=>e.1),?_⟩;have hFF:∀j,F j->¬Z j=lv.ownBlock->(F j/\¬(Z j=lv.ownBlock/\¬kq.ownBlock=Z j))\/(w.heap.size<=j/\((∃c,w'.heap[j]? =Z (T c 243))\/kq.ownBlock=Z j)):=λj hj hn=>aM ⟨hj,λe=>hn e.1⟩;have Hl:=h.log.ne_row h.row;exact {
  led:=(hT.block _ (Jb h.led) (λe=>by rcases e with e|e|e;exact pS.1 e;exact pS.2.1 e;exact pS.2.2 e)).trans h.led
  row:=hR
  log:=hL
  len:=by rw[Qe,Qe,h.len];rfl
  pos:=by rw[Qe];have:=h.pos;omega
  most:=by rw[Qe];simp only[Qp,Qv];omega
  short:=by rw[Qe,Qe];simp only[Qp,Qv];have:=h.short;omega
  few:=h.few
  hdr:=λi b c h1 h2=>by
   by_cases hi:i<bs.length
   ·rw[QF hi]at h1;rw[QF (by have:=h.len;omega)]at h2;exact h.hdr i b c h1 h2
   ·rw[Qz (by omega)]at h1;rw[Qz (by have:=h.len;omega)]at h2;have e0:i-bs.length=0:=(by have:=(Qo.1 h1).1;simp at this;omega);rw[e0]at h1;rw[<-h.len,e0]at h2;simp only[lC,Qh]at h1 h2;subst h1 h2;exact⟨rfl,hh⟩
  st:=λi b c h1 h2 h3=>by
   by_cases hi:i<bs.length
   ·rw[QF hi]at h1;rw[QF (by have:=h.len;omega)]at h2;obtain⟨k1,k2,k3⟩:=h.st i b c h1 h2 h3;have k4:=k2.refine (G:=λj=>F j/\¬(j=cb\/j=r\/Z j=lv.ownBlock)) (λj hj hc=>⟨hj,λe=>by
     obtain⟨cc,hc⟩:=hc
     rcases e with rfl|rfl|e
     ·rw[h.row.row]at hc;simp at hc
     ·rw[h.row.map]at hc;simp at hc
     ·obtain⟨cu,mm,hr⟩:=h.log.kind j e.symm;rw[hc]at hr;simp at hr⟩)
    exact⟨k1,(k4.tch hT (λj hj hG=>hG.2 hj)).mono (λj hj=>hFF j hj.1 (λe=>hj.2 (aN (aN e)))),k3⟩
   ·rw[Qz (by omega)]at h1;rw[Qz (by have:=h.len;omega)]at h2;have e0:i-bs.length=0:=(by have:=(Qo.1 h1).1;simp at this;omega);rw[e0]at h1;rw[<-h.len,e0]at h2;simp only[lC,Qh]at h1 h2;subst h1 h2;exact⟨rfl,hS.refine (λj hj hc=>hj.imp (λe=>⟨e.1,λe2=>e.2 e2.1⟩) (λe=>⟨e,aM hc⟩)),hk⟩
  gone:=λi b h1 h2=>by
   rw[QF (by have:=h.pos;have:=h.len;omega)]at h1;exact h.gone i b h1 h2
  ownL:=hFF _ h.ownL pS.2.2
  ownC:=hFF _ h.ownC Hl.1
  ownR:=hFF _ h.ownR Hl.2
  ownG:=λk hk=>(hnew k hk).imp (λe=>⟨e,λe2=>e2.2 hk⟩) (λe=>⟨e,aN hk⟩)
  low:=λj hj=>by
   rcases hj with⟨hj,hjn⟩|⟨hj,hc|hc⟩
   ·exact⟨(h.low j hj).1,Qk (h.low j hj).2 hT.size⟩
   ·obtain⟨c,hc⟩:=hc;exact⟨by omega,(Jb hc)⟩
   ·exact⟨by omega,(hL.bs.own j hc).2⟩
  kind:=λj hj cur aY m hr=>by
   rcases hj with⟨hj,hjn⟩|⟨hj,hc|hc⟩
   ·by_cases e:j=cb\/j=r\/Z j=lv.ownBlock
    ·rcases e with rfl|rfl|e
     ·rw[hR.row]at hr;simp at hr;exact aN (aM hr.2.1.symm)
     ·rw[hR.map]at hr;simp at hr
     ·obtain⟨cu,mm,gG⟩:=h.log.kind j e.symm
      by_cases e2:kq.ownBlock=Z j
      ·obtain⟨cu',mm',Hw⟩:=hL.kind j e2;rw[hr]at Hw;simp at Hw;exact aN (aN (aN Hw.2.1))
      ·exact absurd ⟨e,e2⟩ hjn
    ·exact h.kind j hj cur aY m ((hT.block j (h.low j hj).2 e).symm.trans hr)
   ·obtain⟨c,hc⟩:=hc;rw[hr]at hc;simp at hc;exact aN (aN (aM hc.2.1))
   ·obtain⟨cu',mm',Hw⟩:=hL.kind j hc;rw[hr]at Hw;simp at Hw;exact aN (aN (aN Hw.2.1)) }

theorem JfK{m:Nat}{bh:BA}{text:List UInt8}(hw:wj<=32){st':Option Tr}(h:subP (H3 wj) wj m bh st text=.ok (hd,st')):hd.size<=1000/\text.length<=1000:=by
 unfold subP at h
 cases hh:(PS.rd [] text).hdr wj (0,⟨#[]⟩,⟨#[]⟩,⟨#[]⟩) with
 | none=>rw[hh]at h;cases h
 | some x=>
  obtain⟨y,p⟩:=x;obtain⟨H4,body,l1,e1,e2,_⟩:=JhP wj hw _ _ _ _ _ hh;rw[List.nil_append]at e2;subst e2;rw[hh]at h;dsimp only at h
  split at h
  ·rename_i hb;obtain⟨b,r',h1,h2,h3,_⟩:=Jam wj hw _ _ _ _ hb;have tC:=congrArg (λp=>match p with|⟨Sum.inl (_,r)⟩=>r|⟨Sum.inr r⟩=>r) h3;simp only at tC;subst tC
   split at h
   ·cases h
   ·split at h
    ·cases h
    ·split at h
     ·cases h
     ·simp only[Except.ok.injEq,Qw]at h;refine⟨?_,?_⟩
      ·rw[<-h.1,Ji,QB,e1,Qe];omega
      ·rw[e1,h2,QC,Qe];omega
  ·cases h
def LAt(wj base pn:Nat)(w:aA)(lb:Nat)(F:Nat->Prop)(fl:Nat)(ch:Ch):Prop:=(1<=wj/\wj<=32)/\Jqv wj base pn w lb F fl ch
theorem LAt.keep(h:LAt wj base pn w lb F fl ch)(k:M S w w')(hs:∀j,S j->¬F j):LAt wj base pn w' lb F fl ch:=by
 obtain⟨h0,lg,cb,r,bs,lv,h1⟩:=h;exact⟨h0,lg,cb,r,bs,lv,h1.keep k hs⟩
theorem JiM(E:Nat->Addr)(wj base:Nat)(h:Int)(hA:LAt wj base pn w lb F fl ch)(hF:Xt E base w):
  aB N 16 #[X (Z ⟨lb,0,Y⟩),O I h] w λe w'=>e=aC (aI #[L (ZF ch h),O I (if 0<=h/\h<(ch.length:Int) then 0 else 7)])/\M D w w':=by
 obtain⟨_,lg,cb,r,bs,lv,C⟩:=hA;have hl:=rows C.led;have H:=Jf3 E hF.env C.row h
 by_cases hh:0<=h/\h<(ch.length:Int)
 ·rw[if_pos hh];obtain⟨n,rfl⟩:=Int.eq_ofNat_of_zero_le hh.1;have hn:n<ch.length:=by omega
  have hb:bs[n]? =Z (bs[n]'(by rw[C.len];exact hn)):=Qd _;have hc:ch[n]? =Z (ch[n]'hn):=Qd _;refine JiB hl _ _ (H.mono λe w' k=>⟨k.1,?_⟩)
  rcases k.2 with⟨n',b,e1,e2,e3⟩|⟨e1,_⟩
  ·have:n=n':=(by omega);subst this;have hh1:=(C.hdr n _ _ e2 hc).1;rw[e3,hh1];unfold ZF;rw[if_pos (by omega),Int.toNat_natCast,Qn,hc];rfl
  ·exact absurd ⟨hh.1,by rw[C.len];exact hh.2⟩ e1
 ·rw[if_neg hh];have e0:ZF ch h=⟨#[]⟩:=by
   unfold ZF
   split
   ·rename_i h0;rw[Qn,List.getElem?_eq_none (by omega)];rfl
   ·rfl
  rw[e0];refine Jhd (λw' k=>hF.next k) .range hl _ (H.mono λe w' k=>⟨k.1,?_⟩)
  rcases k.2 with⟨n',b,e1,e2,e3⟩|⟨_,e2⟩
  ·exact absurd ⟨by omega,by have:=(Qo.1 e2).1;rw[C.len]at this;omega⟩ hh
  ·exact e2
theorem JkO(E:Nat->Addr)(wj base:Nat)(v:aG)(ts:List TxL)(hA:LAt wj base pn w lb F fl ch)(hF:Xt E base w)(hv:JlK w v ts)(xA:∀t∈ts,TxOk wj t)(h3:ts.length<=3)(hc:ch.length<2 ^ 27):
  aB N 18 #[X (Z ⟨lb,0,Y⟩),v] w λe w'=>M D w w'/\match Jnl (H3 wj) wj ch ts with
   | .ok b=>e=aC (aI #[L ⟨b.toArray⟩,O I 0])
   | .error er=>e=aC (aI #[L ⟨#[]⟩,O I (Xr er)]):=by
 obtain⟨⟨Hn,hw⟩,lg,cb,r,bs,lv,C⟩:=hA;have hl:=rows C.led;obtain⟨m,bh,q,st,hm,ax,hb,hcm,ko,kL,Hg,q8⟩:=C.last;obtain⟨l,k1,k2,k3⟩:=hv;obtain⟨ia,ic,kG⟩:=k1.shape;have H:=Jiz E hF.env Hn hw C.row m ax (by omega) bh q st hb ko (λj=>F j\/w.heap.size<=j) (λj hj=>aN hj) (kL.mono (λj hj=>aM hj)) Hg v l ts xA h3 k1 ⟨k2,k3⟩;rw[Jj9 (H3 wj) wj (Jk wj hw) ch (by omega) ts xA h3,q8];subst kG
 cases ha:JH (H3 wj) st ts with
 | error er=>
  rw[ha]at H;exact Jfh (λw' k=>hF.next k) er hl _ _ _ H
 | ok st'=>
  rw[ha]at H;dsimp only;have e:Jau (H3 wj) ch ts st'=Ht (m+1,H3 wj (72::bh.data.toList),H3 wj (66::JL ts),Xh (H3 wj) st')++JL ts:=by unfold Jau Jbt;rw[hm,q8]
  rw[e];exact Jmg hl _ _ _ _ H
theorem Jhr(E:Nat->Addr)(wj base:Nat)(s:BA)(hA:LAt wj base pn w lb F fl ch)(hF:Xt E base w)(hs:s.size<=1100000)(hc:ch.length<2 ^ 27):
  aB N 19 #[X (Z ⟨lb,0,Y⟩),L s] w λe w'=>M F w w'/\∃F':Nat->Prop,(∀j,F' j->F j\/w.heap.size<=j)/\match Jcm (H3 wj) wj ch s.data.toList with
   | .ok ch'=>e=aC (O I 0)/\LAt wj base pn w' lb F' fl ch'
   | .error er=>e=aC (O I (Xr er))/\LAt wj base pn w' lb F' fl ch:=by
 have qY:=hA;obtain⟨⟨Hn,hw⟩,lg,cb,r,bs,lv,C⟩:=hA;have hl:=rows C.led;obtain⟨m,bh,q,st,hm,ax,hb,hcm,ko,kL,Hg,q8⟩:=C.last;have jG:base<=w.heap.size:=by have:=C.low lb C.ownL;omega
 have hst2:StAt (H3 wj) (λj=>(F j/\¬Z j=lv.ownBlock)\/w.heap.size<=j) w q st:=kL.refine (λj hj hc=>aM ⟨hj,λe=>by
  obtain⟨cc,hc⟩:=hc;obtain⟨cu,mm,hr⟩:=C.log.kind j e.symm;rw[hc]at hr;simp at hr⟩)
 have xI:=C.short;have hfw:=C.few;have H:=Jf4 E hF.env Hn hw C.row m ax (by omega) bh q st hb ko (λj=>(F j/\¬Z j=lv.ownBlock)\/w.heap.size<=j) (λj hj=>aN hj) hst2 Hg base jG lg C.log (by omega) s hs;rw[Jjj (H3 wj) wj m bh st ch hm q8]
 cases hp:subP (H3 wj) wj m bh st s.data.toList with
 | error er=>
  rw[hp]at H;refine(Jhe (λw' k=>hF.next k) er hl s H).mono λe w' k=>⟨k.2.mono noE,F,λj hj=>aM hj,k.1,qY.keep k.2 noE⟩
 | ok x=>
  obtain⟨hd,st'⟩:=x;rw[hp]at H;refine(JiC hl s _ H).mono λe w' k=>?_;obtain⟨k0,q',kq,k1,k2,k3,k4,k5,k6⟩:=k;have hx:(ke [66] s.data.toList).length<=1000100:=by have:=(JfK hw hp).2;rw[Jei];simp only[Qp,Qv];omega
  obtain⟨F',bH,C'⟩:=C.more (by omega) hx k1 k2 k3 k4 k5 k6 (JfK hw hp).1 jG;refine⟨k5.mono (λj hj=>aM ?_),F',bH,k0,⟨Hn,hw⟩,_,cb,r,_,kq,C'⟩
  rcases hj with rfl|rfl|e
  ·exact C.ownC
  ·exact C.ownR
  ·exact C.ownG j e.symm
theorem Jot(wj base:Nat)(hA:LAt wj base pn w lb F fl ch):
  aB N 15 #[X (Z ⟨lb,0,Y⟩)] w λe w'=>e=aC (O I ((ch.length:Int)-1))/\M D w w':=by
 obtain⟨_,lg,cb,r,bs,lv,C⟩:=hA;have hl:=rows C.led;have hm:=C.most;refine(fTip hl _ (Jco C.row (by rw[C.len];omega))).mono λe w' k=>⟨?_,by rw[<-k.2];exact Te _ _⟩
 rw[k.1,C.len]
theorem Jan(id:BA)(outs:List (Nat×Nat))(ho:∀o∈outs,Jy o)(h3:outs.length<=3):∃st,JA id 0 outs Y=.ok st:=by
 have B0:Book id.size Y []:=by
  refine⟨?_,?_,?_,?_⟩
  ·intro t ht;cases ht
  ·intro h hh;exact(QD hh).elim
  ·exact List.nodup_nil
  ·intro k o;simp[JX]
 have:=Jce id.size id rfl outs ho 0 (by omega) Y [] 0 false B0;obtain⟨o',b',e⟩:=Jbu id outs outs 0 rfl (by omega) 0 false;have e0:XK id outs 0=[]:=rfl;rw[e0]at e;rw[show (0:Nat) % M64=0 from rfl,e]at this;obtain⟨st',e1,_,_⟩:=this;exact⟨st',e1⟩
def HdIs(wj:Nat)(c:BA×Option Tr):Prop:=∃h:HdL,c.1=⟨(Ht h).toArray⟩/\HdOk wj h/\h.2.2.2=Xh (H3 wj) c.2
theorem JkE(wj:Nat)(hw:wj<=32)(outs:List (Nat×Nat))(st:Option Tr):HdIs wj (⟨(Ht (Yi wj outs st)).toArray⟩,st):=by
 refine⟨Yi wj outs st,rfl,?_,rfl⟩;unfold Yi Zh;exact⟨by show (0:Nat)<_;decide,by show ByteArray.size _=_;rw[Ji,lZ],Jk wj hw _,Xx (H3 wj) wj (Jk wj hw) _⟩
theorem JkM(E:Nat->Addr)(base wj:Nat)(v:aG)(outs:List (Nat×Nat))(Hn:1<=wj)(hw:wj<=32)(hF:Xt E base w)(jG:base<=w.heap.size)(hv:Jr w.heap.size w v outs)(h1:1<=outs.length)(h3:outs.length<=3)(ho:∀o∈outs,Jy o):
  aB N 37 #[O I (wj:Int),v] w λe w'=>M D w w'/\∃lb F h st,e=aC (aI #[X (Z ⟨lb,0,Y⟩),O I 0])/\LAt wj base 0 w' lb F 0 [(h,st)]/\JA (H3 wj (71::Jz outs)) 0 outs Y=.ok st/\HdIs wj (h,st)/\h=⟨(Ht (Yi wj outs st)).toArray⟩/\∀j,F j->w.heap.size<=j:=by
 obtain⟨st,kL⟩:=Jan (H3 wj (71::Jz outs)) outs ho h3;have H:=Jkn E wj Hn hw v outs ho h1 h3 w hF.env hv base jG st kL;obtain⟨ia,ic,kG⟩:=hv.shape;subst kG;have H2:=fNew (wj:Int) ia outs.length ic (λw' cb=>M D w w'/\∃r q lv,w.heap.size<=cb/\w.heap.size<=r/\JR w' cb wj 0 r [(⟨(Ht (Yi wj outs st)).toArray⟩,wj,q)] lv/\StAt (H3 wj) (λj=>w.heap.size<=j) w' q st/\StOk wj st/\Xy base w' lv (ke [71] (XN wj outs))/\∀k,lv.ownBlock=Z k->w.heap.size<=k) (H.mono λe w' k=>by
  obtain⟨k0,cb,r,q,lv,k1,k2⟩:=k;exact⟨cb,k1,k0,r,q,lv,k2⟩)
 refine H2.mono λe w' k=>?_;obtain⟨w1,cb,⟨k0,r,q,lv,k1,k2,k3,k4,k5,k6,k7⟩,rfl,rfl⟩:=k;have tA:=Ta D w1 (T #[X (Z ⟨cb,0,Y⟩)] 90);have hs:=k0.size;have hlow:∀j,j=w1.heap.size\/(w.heap.size<=j/\(j=cb\/j=r\/(∃c,w1.heap[j]? =Z (T c 243))\/lv.ownBlock=Z j))->base<=j/\(j=w1.heap.size\/j<w1.heap.size):=λj hj=>by
  rcases hj with rfl|⟨hj,rfl|rfl|⟨c,hc⟩|hc⟩
  ·exact⟨by omega,aM rfl⟩
  ·exact⟨by omega,aN (Jb k3.row)⟩
  ·exact⟨by omega,aN (Jb k3.map)⟩
  ·exact⟨by omega,aN (Jb hc)⟩
  ·exact⟨by omega,aN (k6.bs.own j hc).2⟩
 refine⟨k0.go tA,w1.heap.size,λj=>j=w1.heap.size\/(w.heap.size<=j/\(j=cb\/j=r\/(∃c,w1.heap[j]? =Z (T c 243))\/lv.ownBlock=Z j)),⟨(Ht (Yi wj outs st)).toArray⟩,st,rfl,⟨⟨Hn,hw⟩,ke [71] (XN wj outs),cb,r,[(⟨(Ht (Yi wj outs st)).toArray⟩,wj,q)],lv,?_⟩,kL,JkE wj hw outs st,rfl,λj hj=>by
  rcases hj with rfl|hj
  ·omega
  ·exact hj.1⟩
 have hhl:(Ht (Yi wj outs st)).length<=1000:=by unfold Ht Yi;simp only[Qe,Jf,Yz,Jk wj hw,Xx (H3 wj) wj (Jk wj hw)];unfold Zh;rw[Ji,lZ];omega
 exact {
  led:=Qf _ _
  row:=k3.next tA
  log:=k6.next tA
  len:=rfl
  pos:=by simp
  most:=by simp
  short:=by
   have:∀l:List (Nat×Nat),(l.flatMap outB).length=l.length*9:=by
    intro l
    induction l with
    | nil=>rfl
    | cons x r ih=>rw[QG,Qe,ih];unfold outB;simp only[Qe,Jf,Qp];omega
   rw[Jei];unfold XN Jz;rw[Qe,Qe,Jf,Jf,this];simp only[Qp,Qv];omega
  few:=by omega
  hdr:=λi b c h1 h2=>by
   cases i with
   | zero=>
    simp only[lC,Qh]at h1 h2;subst h1 h2;exact⟨rfl,by rw[Ji];exact hhl⟩
   | succ i=>simp at h1
  st:=λi b c h1 h2 _=>by
   cases i with
   | zero=>
    simp only[lC,Qh]at h1 h2;subst h1 h2;exact⟨rfl,(k4.refine (λj hj hc=>aN ⟨hj,aN (aN (aM hc))⟩)).next tA,k5⟩
   | succ i=>simp at h1
  gone:=λi b _ h2=>absurd h2 (by omega)
  ownL:=aM rfl
  ownC:=aN ⟨k1,aM rfl⟩
  ownR:=aN ⟨k2,aN (aM rfl)⟩
  ownG:=λk hk=>aN ⟨k7 k hk,aN (aN (aN hk))⟩
  low:=λj hj=>by
   obtain⟨h1,h2⟩:=hlow j hj;exact⟨h1,by rw[World.size_alloc];omega⟩
  kind:=λj hj cur aY m hr=>by
   rcases hj with rfl|⟨hj,hk⟩
   ·rw[Qf]at hr;simp at hr;exact aM hr.2.1.symm
   ·have jk:j<w1.heap.size->w1.heap[j]? =Z (T cur aY m):=λH7=>(tA.block j H7 (λe=>e)).symm.trans hr
    rcases hk with rfl|rfl|⟨c,hc⟩|hc
    ·have:=jk (Jb k3.row);rw[k3.row]at this;simp at this;exact aN (aM this.2.1.symm)
    ·have:=jk (Jb k3.map);rw[k3.map]at this;simp at this
    ·have:=jk (Jb hc);rw[hc]at this;simp at this;exact aN (aN (aM this.2.1.symm))
    ·have:=jk (k6.bs.own j hc).2;obtain⟨cu,mm,Hw⟩:=k6.kind j hc;rw[Hw]at this;simp at this;exact aN (aN (aN this.2.1.symm)) }

theorem XU(n k:Nat)(w:aA)(hk:k<=8):
  aB N 171 #[O aD (n:Int),O I (k:Int)] w λe w'=>e=aC (L ⟨(Hf n k k).toArray⟩)/\M D w w':=by
 obtain⟨i0,hi,xV,jH,qQ⟩:=info_parts Jb0;have hki:(k:Int)<=8:=by omega
 go_enter func171,ntmps171;go_wp2;go_loopw [5,6] (λv i wr=>∃j:Nat,j<=k/\i=O I ((k:Int)-1-(j:Int))/\J (Bs w.heap.size wr v (bc (Hf n k j)))/\J (M D w wr)) (λ_ i _=>(intOf i+1).toNat)
 case atStart=>exact⟨0,by omega,congrArg (lf I) (by omega),Bs.nil _ _,Te _ _⟩
 case round=>
  obtain⟨j,hj,rfl,ko,bI⟩:=hrel
  by_cases nT:j<k
  ·obtain⟨m,tq,qZ⟩:∃m:Nat,(k:Int)-1-(j:Int)=(m:Int)/\k-1-j=m:=⟨k-1-j,by omega,rfl⟩
   have HM:J ((k:Int)-1-(j:Int)=(m:Int)/\k-1-j=m):=⟨tq,qZ⟩
   have hm7:m<=7:=(by omega);have HJ:J _:=nT;rw[tq];have uN:I.wrap (8*(m:Int))=8*(m:Int):=Jo _ (by omega) (by omega);have xI:Op.shift .shr aD (n:Int) I (8*(m:Int))=pure (O aD ((n:Int)/2 ^ (8*m))):=by
    rw[shift_shr_u64 _ _ _ (by omega) (by omega)]
    congr 3
   have ml:J ((bc (Hf n k j)).length=j):=(by rw[YE,Jf]:(bc (Hf n k j)).length=j)
   obtain⟨a0,m0,c0,rg⟩:=ko.shape3;subst rg;go_wp2_with (at_builtin;refine XH rfl _ _ 52 52 5 rfl i0 _ underlying52 hi xV jH qQ rfl rfl (ko.alloc _) _ 1 [_] rfl (Src.ofSlice _ underlying52 _ 1 1 _ rfl (cell_one_new _ _ _) (by simp[Value.oneCell'])) (by rw[ml.out];omega) (by have:=bI.out.size;simp;omega) ?_;intro v1 w1 (kf:J _) (mn:J _) hmv1;clear hmv1);have e2:[lf aE (ld.wrap ((n:Int)/2 ^ (8*(m:Int)).toNat))]=bc [lG (n/2 ^ (8*m))]:=(by rw[IntKind.wrap_u8',show (8*(m:Int)).toNat=8*m by omega];simp[bc]);have e3:bc (Hf n k (j+1))=bc (Hf n k j)++bc [lG (n/2 ^ (8*m))]:=(by rw[<-HM.o.2,<-Jac];rfl);have nT:=HJ.o;go_roundw
   case rel=>
    refine⟨j+1,by omega,?_,?_,?_⟩
    ·exact congrArg (lf I) (by have:=HM.o.1;omega)
    ·rw[e3,<-e2];exact kf
    ·exact Bs.tchOwn (ko.alloc _) mn (Ql _) (bI.trans (Ta D _ _) noE)
   case measure=>simp only[intOf];omega
  ·obtain rfl:j=k:=(by omega);have hneg:¬(0:Int)<=(j:Int)-1-(j:Int):=(by omega);have ay:=Ye (P:=N) (l:=Hf n j j) ko 52 9 5 underlying52 underlying5 underlying9;obtain⟨a0,m0,c0,rg⟩:=ko.shape3;subst rg;go_wp2;go_ret;exact⟨rfl,bI⟩
theorem Jca{a:BA}(h:a.data.toList=b.data.toList):a=b:=by
 cases a;cases b;simp only at h;rw[Array.toList_inj]at h;rw[h]
theorem Jea(b:Nat)(w:aA)(k:Nat)(hb:b<256)(hc:w.cell? ⟨k,0,Y⟩=Z (O aE (b:Int))):(convert 52 9 (R (Z ⟨k,0,Y⟩) 1 1)).run N w=.ok (L ⟨#[lG b]⟩) w:=by
 have:=run_convert_bytes_back (P:=N) w 52 9 5 ⟨k,0,Y⟩ 1 [lG b] underlying52 underlying5 underlying9 (λj hj=>by
  obtain rfl:j=0:=by simpa using hj
  rw[Addr.add_lit,lJ,hc];simp[Nat.mod_eq_of_lt hb])
 exact this
theorem Jqa(b:Nat)(w:aA)(hb:b<256):(convert 52 9 (R (Z ⟨w.heap.size,0,Y⟩) 1 1)).run N (w.alloc (T #[O aE (b:Int)] 5))=.ok (L ⟨#[lG b]⟩) (w.alloc (T #[O aE (b:Int)] 5)):=by
 have:=run_convert_bytes_back (P:=N) (w.alloc (T #[O aE (b:Int)] 5)) 52 9 5 ⟨w.heap.size,0,Y⟩ 1 [lG b] underlying52 underlying5 underlying9 (λj hj=>by
  obtain rfl:j=0:=by simpa using hj
  rw[Addr.add_lit,lJ,Ja (Qf _ _)];simp[Nat.mod_eq_of_lt hb])
 exact this
theorem JcN(a o:Nat)(w:aA)(ho:o<256):
  aB N 164 #[aH #[O aD (a:Int),O aE (o:Int)]] w λe w'=>e=aC (L ⟨(outB (a,o)).toArray⟩)/\M D w w':=by
 have HO:J _:=ho;have gV:=λW=>XU a 8 W (by omega);have gy:=λW=>Jqa o W ho;have jL:∀W,(Op.stringOp .add (⟨(Hf a 8 8).toArray⟩:BA) ⟨#[lG o]⟩).run N W=.ok (L ⟨(outB (a,o)).toArray⟩) W:=λW=>by
  have:=run_string_add_sum (P:=N) W (⟨(Hf a 8 8).toArray⟩:BA) ⟨#[lG o]⟩ (by show (Hf a 8 8).toArray.size+1<=_;simp[Jf]);rw[this];exact congrArg (λx=>Result.ok (lP x) W) (Jca (by simp[outB,Hf]))
 have vB:=Jea o ((w.alloc (T #[O aD (a:Int),O aE (o:Int)] 80)).alloc (T #[O aE (o:Int)] 5)).drew (w.heap.size+1) ho (Ja (heap_alloc2_new _ _ _));have yw:J _:=gV;clear gV ho;go_enter func164,ntmps164;go_wp2;go_region_with (go_at_call 171;refine(yw _).mono ?_;rintro _ w1⟨rfl,H9⟩;have r1:w1.heap[w.heap.size]? =Z (T #[O aD (a:Int),O aE (o:Int)] 80):=(H9.block _ (by first|(simp;done)|(simp;omega)) (λh=>h)).trans (by first|exact Qf _ _|exact heap_alloc2_old _ _ _);have c1:w1.cell? ⟨w.heap.size,1,Y⟩=Z (O aE (o:Int)):=Ja r1;(try (have q1:w1.heap[w.heap.size+1]? =Z (T #[O aE (o:Int)] 5):=(H9.block _ (by simp) (λh=>h)).trans (heap_alloc2_new _ _ _);have q2:=Jea o w1 (w.heap.size+1) HO (Ja q1)));have H5:J _:=H9;clear H9 r1)
 all_goals
  go_wp2;go_ret;refine⟨rfl,?_⟩
  first
   | exact(M.box w _).trans H5 noE
   | exact(M.box2 w _ _).trans H5 noE
   | exact((M.box w _).trans H5 noE).trans (Ta D w1 _) noE
theorem Zb(c:BA×Int)(w:aA)(h0:0<=c.2)(h3:c.2<256)(hz:c.1.size<=1000000):
  aB N 105 #[aH #[L c.1,O I c.2]] w λe w'=>e=aC (L ⟨(Jc c).toArray⟩)/\M D w w':=by
 obtain⟨s,n⟩:=c;simp only at h0 h3 hz;obtain⟨m,rfl⟩:=Int.eq_ofNat_of_zero_le h0;have hm:m<256:=by omega
 have zh:ld.wrap (m:Int)=(m:Int):=by simp[lQ,lR,lM];omega
 have gy:=Jea m ((w.alloc (T #[L s,O I (m:Int)] 49)).alloc (T #[O aE (m:Int)] 5)) (w.heap.size+1) hm (Ja (heap_alloc2_new _ _ _));have jL:∀W,(Op.stringOp .add s ⟨#[lG m]⟩).run N W=.ok (L ⟨(Jc (s,(m:Int))).toArray⟩) W:=λW=>by
  have:=run_string_add_sum (P:=N) W s ⟨#[lG m]⟩ (by show s.size+1<=_;omega);rw[this];have hx:JD (m:Int)=m:=by have:=Zl (m:Int) h0 (by omega);omega
  exact congrArg (λx=>Result.ok (lP x) W) (Jca (by simp[Jc,hx,Hf]))
 clear h0 h3 hz;go_enter func105,ntmps105;go_wp2;go_ret;exact⟨rfl,(Ta D w _).trans (Ta D _ _) (λ_ h=>aM h)⟩

def ZI(l:List (Nat×Nat))(i:Nat):List UInt8:=Hf l.length 1 1++(l.take i).flatMap outB
theorem JiU(l:List (Nat×Nat))(i:Nat)(h:i<l.length):ZI l (i+1)=ZI l i++outB l[i]:=by
 unfold ZI;rw[QR h,l9,QG,lH,QC,Qs]
theorem JcK(l:List (Nat×Nat)):ZI l l.length=Jz l:=by unfold ZI Jz;rw[lN]
theorem JcL(l:List (Nat×Nat))(h:l.length<=3)(i:Nat):(ZI l i).length<=28:=by
 unfold ZI;rw[Qe,Jf,Jfi,QB];omega
theorem Jed(B:Nat)(v:aG)(l:List (Nat×Nat))(hl:l.length<=3)(ho:∀o∈l,Jy o)(w:aA)(h:YD B w v l):
  aB N 104 #[v] w λe w'=>e=aC (L ⟨(Jz l).toArray⟩)/\M D w w':=by
 obtain⟨a1,c1,rfl⟩:=h.shape;have H:J _:=h;have HO:J _:=ho;have Hn:ld.wrap (l.length:Int)=(l.length:Int):=by simp[lQ,lR,lM];omega
 have gy:=JiK l.length w (by omega);go_enter func104,ntmps104;go_wp2;go_loopw [3,4] (λs i wr=>∃k:Nat,k<=l.length/\i=O I k/\s=L ⟨(ZI l k).toArray⟩/\J (M D w wr)) (λ_ i _=>l.length-(intOf i).toNat)
 case atStart=>exact⟨0,by omega,rfl,by rw[ZI,beL1];simp,Ta _ _ _⟩
 case round=>
  obtain⟨k,hk,rfl,rfl,hT⟩:=hrel
  by_cases H7:k<l.length
  ·rcases H with⟨e,e2⟩|⟨gi,oi,cc,e,_,kp,Ho⟩
   ·rw[e2]at H7;simp at H7
   simp only[Qy,true_and]at e;obtain⟨rfl,rfl⟩:=e;obtain⟨f0,f1⟩:=Ho k H7;have Hg:=HO _ (Qx H7);have q0:=(hT.cell (p:=⟨gi,oi+k*2,Y⟩) kp (λh=>h)).trans f0;have q1:=(hT.cell (p:=⟨gi,oi+k*2+1,Y⟩) kp (λh=>h)).trans f1;have kj:(k:Int)<(l.length:Int):=(by omega);have jL:=JO (ZI l k) (outB l[k]) (by have:=JcL l hl k;rw[Jb8];omega);rw[<-JiU l k H7]at jL;have js:J (∀V,_):=λV=>JcN l[k].1 l[k].2 V Hg.2;generalize hc:l[k]=c at *;obtain⟨ca,co⟩:=c;simp only at q0 q1;generalize hX1:ZI l (k+1)=X1 at *;generalize ZI l k=X0 at *;have yx:J _:=hX1;generalize outB (ca,co)=cb at *;go_wp2_with (go_at_call 164;refine(js _).mono ?_;rintro _ w1⟨rfl,(H5:J _)⟩);go_roundw
   case rel=>exact⟨k+1,by omega,by go_num,by rw[yx.o],hT.trans H5 noE⟩
   case measure=>simp[intOf];omega
  ·have vC:J (k=l.length):=(by omega:k=l.length)
   have jA:¬(k:Int)<(l.length:Int):=(by omega);have HE:J (ZI l k=Jz l):=(by rw[vC.o];exact JcK l:ZI l k=Jz l)
   generalize ZI l k=aX at *;go_wp2;go_ret;exact⟨by rw[<-HE.o];rfl,hT⟩
theorem JhN(wj:Nat)(hw:wj<=32)(B:Nat)(v1 v2:aG)(t:TxL)(hk:TxOk wj t)(w:aA)(h1:YH B w v1 t.1)(h2:YD B w v2 t.2):
  aB N 327 #[aH #[v1,v2]] w λe w'=>e=aC (L ⟨(txB t).toArray⟩)/\M D w w':=by
 have vj:J (∀V,M D w V->_):=λV hV=>Jed B v2 t.2 hk.made hk.outs V (h2.tch hV noE);obtain⟨a1,c1,rfl⟩:=h1.shape;obtain⟨a2,c2,rfl⟩:=h2.shape;have l1:=hk.ins;have l2:=hk.made;have HK:J _:=hk;have H1:J _:=h1;have Hn:ld.wrap (t.1.length:Int)=(t.1.length:Int):=by simp[lQ,lR,lM];omega
 have gy:=Jb1 t.1.length ((w.alloc (T #[R a1 t.1.length c1,R a2 t.2.length c2] 98)).alloc (T #[O aE (t.1.length:Int)] 5)) (w.heap.size+1) (by omega) (Ja (heap_alloc2_new _ _ _));have T2:J (M D w ((w.alloc (T #[R a1 t.1.length c1,R a2 t.2.length c2] 98)).alloc (T #[O aE (t.1.length:Int)] 5))):=(Ta D w _).trans (Ta D _ _) (λ_ h=>aM h);have R2:J (((w.alloc (T #[R a1 t.1.length c1,R a2 t.2.length c2] 98)).alloc (T #[O aE (t.1.length:Int)] 5)).heap[w.heap.size]? =Z (T #[R a1 t.1.length c1,R a2 t.2.length c2] 98)):=heap_alloc2_old _ _ _;go_enter func327,ntmps327;go_wp2;go_loopw [3,4] (λs i wr=>∃k:Nat,k<=t.1.length/\i=O I k/\s=L ⟨(txA1 t k).toArray⟩/\J (M D w wr)/\J (wr.heap[w.heap.size]? =Z (T #[R a1 t.1.length c1,R a2 t.2.length c2] 98))) (λ_ i _=>t.1.length-(intOf i).toNat)
 case atStart=>exact⟨0,by omega,rfl,by rw[txA1,beL1];simp,T2,R2⟩
 case round=>
  obtain⟨k,hk,rfl,rfl,hT,hR⟩:=hrel;obtain⟨d0, -⟩:=rows hR.out
  by_cases H7:k<t.1.length
  ·rcases H1 with⟨e,e2⟩|⟨gi,oi,cc,e,_,kp,Ho⟩
   ·rw[e2]at H7;simp at H7
   simp only[Qy,true_and]at e;obtain⟨rfl,rfl⟩:=e;obtain⟨f0,f1⟩:=Ho k H7;have q9:=HK.o.coins _ (Qx H7);have q0:=(hT.cell (p:=⟨gi,oi+k*2,Y⟩) kp (λh=>h)).trans f0;have q1:=(hT.cell (p:=⟨gi,oi+k*2+1,Y⟩) kp (λh=>h)).trans f1;have kj:(k:Int)<(t.1.length:Int):=(by omega);have yv:=Xg q9;have jL:=JO (txA1 t k) (Jc t.1[k]) (by have:=JeJ wj t HK hw k;omega);rw[<-Jlw t k H7]at jL;have js:J (aB _ _ _ wr _):=Zb t.1[k] wr q9.2.1 (by have:=q9.2.2;omega) (by rw[q9.1];omega);generalize t.1[k]=c at *;generalize hX1:txA1 t (k+1)=X1 at *;generalize txA1 t k=X0 at *;have yx:J (_=X1):=hX1;generalize Jc c=cb at *;go_wp2_with (go_at_call 105;refine js.mono ?_;rintro _ w1⟨rfl,H9⟩;have H5:J (M _ wr w1):=H9);go_roundw
   case rel=>exact⟨k+1,by omega,by go_num,by rw[yx.o],hT.out.trans H5.o noE,(H5.o.block _ (Jb hR.out) (λh=>h)).trans hR.out⟩
   case measure=>simp[intOf];omega
  ·have bJ:J (k=t.1.length):=(by omega:k=t.1.length)
   have jA:¬(k:Int)<(t.1.length:Int):=(by omega);obtain⟨-,d1⟩:=rows hR.out;have hadd0:=JO (txA1 t k) (Jz t.2) (by have:=JeJ wj t HK hw k;have h5:=JcL t.2 l2 t.2.length;rw[JcK]at h5;omega);have HX:J (txA1 t k++Jz t.2=txB t):=(by show txA1 t k++Jz t.2=txB t;rw[bJ.o,txA1,lN];rfl);have HOT2:=vj wr hT.out;have HOT3:J (aB _ _ _ wr _):=HOT2;generalize txA1 t k++Jz t.2=aX at *;generalize txA1 t k=X0 at *;go_wp2_with (go_at_call 104;refine HOT3.mono ?_;rintro _ w1⟨rfl,(H5:J _)⟩);go_ret;exact⟨by rw[<-HX.o];rfl,hT.trans H5 noE⟩
def TxIs(B:Nat)(w:aA)(ts:List TxL)(sl:List (Sl×Sl)):Prop:=
 ts.length=sl.length/\∀i (h:i<ts.length) (h':i<sl.length),YH B w (R sl[i].1.1 sl[i].1.2.1 sl[i].1.2.2) ts[i].1/\YD B w (R sl[i].2.1 sl[i].2.2.1 sl[i].2.2.2) ts[i].2
def YW(ts:List TxL)(i:Nat):List UInt8:=Hf ts.length 1 1++(ts.take i).flatMap txB
theorem JdE(l:List TxL)(i:Nat)(h:i<l.length):YW l (i+1)=YW l i++txB l[i]:=by
 unfold YW;rw[QR h,l9,QG,lH,QC,Qs]
theorem Jcy(l:List TxL):YW l l.length=JL l:=by unfold YW JL;rw[lN]
theorem JiO(l:List (Nat×Nat))(h:l.length<=3):(Jz l).length<=28:=by have:=JcL l h l.length;rw[JcK]at this;exact this
theorem JeK(wj:Nat)(hw:wj<=32)(t:TxL)(h:TxOk wj t):(txB t).length<=200:=by have:=JnH wj t h hw t.2.length;rw[JnG]at this;exact this
theorem Jcz(wj:Nat)(hw:wj<=32)(ts:List TxL)(h:∀t∈ts,TxOk wj t)(i:Nat):(YW ts i).length<=1+200*i:=by
 induction i with
 | zero=>simp[YW,Jf]
 | succ i ih=>
  by_cases hi:i<ts.length
  ·rw[JdE _ _ hi,Qe];have:=JeK wj hw _ (h _ (Qx hi));omega
  ·have e:YW ts (i+1)=YW ts i:=by
    unfold YW;rw[QS (by omega),QS (by omega)]
   rw[e];omega
theorem Jd9(wj:Nat)(hw:wj<=32)(B:Nat)(v:aG)(ts:List TxL)(sl:List (Sl×Sl))(hl:ts.length<=3)(ho:∀t∈ts,TxOk wj t)(w:aA)(h:TxsR B w v sl)(hs:TxIs B w ts sl):
  aB N 256 #[v] w λe w'=>e=aC (L ⟨(JL ts).toArray⟩)/\M D w w':=by
 obtain⟨a1,c1,rfl⟩:=h.shape;have H:J _:=h;have HO:J _:=ho;have HS:J _:=hs;have nU:=hs.1;have Hn:ld.wrap (sl.length:Int)=(sl.length:Int):=by simp[lQ,lR,lM];omega
 have gy:=JiK sl.length w (by omega);go_enter func256,ntmps256;go_wp2;go_loopw [3,4] (λs i wr=>∃k:Nat,k<=sl.length/\i=O I k/\s=L ⟨(YW ts k).toArray⟩/\J (M D w wr)) (λ_ i _=>sl.length-(intOf i).toNat)
 case atStart=>exact⟨0,by omega,rfl,by rw[YW,beL1,nU];simp,Ta _ _ _⟩
 case round=>
  obtain⟨k,hk,rfl,rfl,hT⟩:=hrel
  by_cases H7:k<sl.length
  ·have jM:k<ts.length:=by omega
   rcases H with⟨e,e2⟩|⟨gi,oi,cc,e,_,kp,Ho⟩
   ·rw[e2]at H7;simp at H7
   simp only[Qy,true_and]at e;obtain⟨rfl,rfl⟩:=e;obtain⟨f0,f1⟩:=Ho k H7;have Hg:=HO _ (Qx jM);have q0:=(hT.cell (p:=⟨gi,oi+k*2,Y⟩) kp (λh=>h)).trans f0;have q1:=(hT.cell (p:=⟨gi,oi+k*2+1,Y⟩) kp (λh=>h)).trans f1;have kj:(k:Int)<(sl.length:Int):=(by omega);have jL:=JO (YW ts k) (txB ts[k]) (by have:=Jcz wj hw ts HO k;have:=JeK wj hw _ Hg;omega);rw[<-JdE ts k jM]at jL;obtain⟨hc,hot⟩:=HS.2 k jM H7;have js:J (∀V,M D w V->_):=λV hV=>JhN wj hw B _ _ ts[k] Hg V (hc.tch hV noE) (hot.tch hV noE);have HKW:J (∀V,M D wr V->_):=λV hV=>hT.trans hV noE;generalize sl[k].1.1=y1 at *;generalize sl[k].1.2.1=y2 at *;generalize sl[k].1.2.2=y3 at *;generalize sl[k].2.1=y4 at *;generalize sl[k].2.2.1=y5 at *;generalize sl[k].2.2.2=y6 at *;generalize hX1:YW ts (k+1)=X1 at *;generalize YW ts k=X0 at *;have yx:J _:=hX1;generalize txB ts[k]=cb at *;go_wp2_with (go_at_call 327;refine(js _ (HKW _ (by first|exact Te _ _|exact Td _ _ 1))).mono ?_;rintro _ w1⟨rfl,(H5:J _)⟩);go_roundw
   case rel=>exact⟨k+1,by omega,by go_num,by rw[yx.o],hT.trans H5 noE⟩
   case measure=>simp[intOf];omega
  ·have vC:J (k=ts.length):=(by omega:k=ts.length)
   have jA:¬(k:Int)<(sl.length:Int):=(by omega);have HE:J (YW ts k=JL ts):=(by rw[vC.o];exact Jcy ts:YW ts k=JL ts)
   generalize YW ts k=aX at *;go_wp2;go_ret;exact⟨by rw[<-HE.o];rfl,hT⟩

def keyS(c:BA×Int):BA:=⟨(Jc c).toArray⟩
def rhC(h:Hd):List aG:=[L (keyS h.1),O aD ((h.2.1:Nat):Int),O aE ((h.2.2:Nat):Int)]
def rhA(l:List Hd):List aG:=l.flatMap rhC
def ZV(w:aA)(g k:Nat)(h:Hd):Prop:=w.cell? ⟨g,k,Y⟩=Z (L (keyS h.1))/\w.cell? ⟨g,k+1,Y⟩=Z (O aD ((h.2.1:Nat):Int))/\w.cell? ⟨g,k+2,Y⟩=Z (O aE ((h.2.2:Nat):Int))
theorem ZV.tch{h:Hd}(hc:ZV w g k h)(t:M S w w')(hg:g<w.heap.size)(hs:¬S g):ZV w' g k h:=by
 have e:∀o,w'.cell? ⟨g,o,Y⟩=w.cell? ⟨g,o,Y⟩:=λo=>t.cell (p:=⟨g,o,Y⟩) hg hs;unfold ZV;rw[e,e,e];exact hc
theorem Zc(l:List Hd):(rhA l).length=l.length*3:=by
 induction l with
 | nil=>rfl
 | cons x r ih=>simp only[rhA,QG,Qe]at ih ⊢;rw[ih];simp[rhC];omega
theorem Jj4(l:List Hd):∀u∈rhA l,u.oneCell'=true:=by
 intro u hu;simp only[rhA,lS,rhC]at hu;obtain⟨x,_,hu⟩:=hu;simp only[lO,QD,or_false]at hu
 rcases hu with rfl|rfl|rfl<;>rfl
theorem JaE(l l':List Hd):rhA (l++l')=rhA l++rhA l':=by simp[rhA]
theorem Jj3(l:List Hd):∀(i:Nat)(h:i<l.length),(rhA l)[i*3]? =Z (L (keyS l[i].1))/\(rhA l)[i*3+1]? =Z (O aD ((l[i].2.1:Nat):Int))/\(rhA l)[i*3+2]? =Z (O aE ((l[i].2.2:Nat):Int)):=by
 induction l with
 | nil=>intro i h;simp at h
 | cons x r ih=>
  intro i h
  cases i with
  | zero=>simp[rhA,rhC]
  | succ i=>
   have e:∀j,(rhA (x::r))[(i+1)*3+j]? =(rhA r)[i*3+j]? :=by
    intro j;show (rhC x++rhA r)[(i+1)*3+j]? =_;rw[Qz (by simp[rhC];omega)]
    congr 1;simp[rhC];omega
   refine⟨?_,?_,?_⟩
   ·have:=e 0;rw[lD,lD]at this;rw[this];simpa using (ih i (by simpa using h)).1
   ·rw[e 1];simpa using (ih i (by simpa using h)).2.1
   ·rw[e 2];simpa using (ih i (by simpa using h)).2.2
def RhAt(w:aA)(v:aG)(l:List Hd):Prop:=
 (v=R Y 0 0/\l=[])\/∃g o c,v=R (Z ⟨g,o,Y⟩) l.length c/\(g<w.heap.size/\∃cs m,w.heap[g]? =Z (T cs 202 m))/\∀i (h:i<l.length),ZV w g (o+i*3) l[i]
theorem RhAt.tch(h:RhAt w v l)(k:M S w w')(hs:∀j,v.ownBlock=Z j->¬S j):RhAt w' v l:=by
 rcases h with h|⟨gi,oi,c,rfl,⟨h2,cs,m,h4⟩,h3⟩
 ·exact aM h
 ·exact aN ⟨gi,oi,c,rfl,⟨Qk h2 k.size,cs,m,(k.block gi h2 (hs gi rfl)).trans h4⟩,λi hi=>(h3 i hi).tch k h2 (hs gi rfl)⟩
theorem RhAt.tch0(h:RhAt w v l)(k:M D w w'):RhAt w' v l:=h.tch k (λ_ _ h=>h)
theorem RhAt.own(h:RhAt w v l):∀j,v.ownBlock=Z j->j<w.heap.size/\∃cs m,w.heap[j]? =Z (T cs 202 m):=by
 rcases h with⟨rfl,_⟩|⟨g,o,c,rfl,hg,_⟩
 ·intro j hj;cases hj
 ·intro j hj;cases hj;exact hg
theorem RhAt.shape(h:RhAt w v l):∃a c,v=R a l.length c:=by
 rcases h with⟨rfl,rfl⟩|⟨gi,oi,c,rfl,_⟩
 ·exact⟨Y,0,rfl⟩
 ·exact⟨_,_,rfl⟩
theorem RhAt.cells{o:Nat}(h:∀i (h:i<l.length),ZV w g (o+i*3) l[i]):
  ∀j u,(rhA l)[j]? =Z u->w.cell? (Addr.add ⟨g,o,Y⟩ j)=Z u:=by
 intro j u hu;have hj:j<l.length*3:=by have:=(Qo.1 hu).1;rw[Zc]at this;exact this
 obtain⟨e0,e1,e2⟩:=Jj3 l (j/3) (by omega);obtain⟨f0,f1,f2⟩:=h (j/3) (by omega);rw[Addr.add_lit];obtain hm|hm|hm:j % 3=0\/j % 3=1\/j % 3=2:=by omega
 ·rw[show j/3*3=j by omega]at e0;rw[show o+j/3*3=o+j by omega]at f0;rw[f0,<-e0,hu]
 ·rw[show j/3*3+1=j by omega]at e1;rw[show o+j/3*3+1=o+j by omega]at f1;rw[f1,<-e1,hu]
 ·rw[show j/3*3+2=j by omega]at e2;rw[show o+j/3*3+2=o+j by omega]at f2;rw[f2,<-e2,hu]
def ROwn(base:Nat)(w:aA)(v:aG)(l:List Hd):Prop:=w.ownsRow base 202 3 v l.length (rhA l)
theorem ROwn.nil(base:Nat)(w:aA):ROwn base w (R Y 0 0) []:=⟨rfl,aM ⟨rfl,rfl⟩⟩
theorem ROwn.at(h:ROwn base w v l):RhAt w v l:=by
 obtain⟨_,⟨rfl,h0⟩|⟨g,cap,cur,rfl,_,hZ,_,_,Hp,kU⟩⟩:=h
 ·exact aM ⟨rfl,QP h0⟩
 ·refine aN ⟨g,0,cap,rfl,⟨(Jb hZ),_,_,hZ⟩,λi hi=>?_⟩;obtain⟨e0,e1,e2⟩:=Jj3 l i hi;have hc:∀j u,(rhA l)[j]? =Z u->w.cell? ⟨g,0+j,Y⟩=Z u:=by
   intro j u hu;rw[<-kU]at hu;have hj:=(Qo.1 hu).1;rw[lF (by rw[QB]at hj;omega)]at hu;rw[Ja hZ,lJ,<-lI];exact hu
  exact⟨hc _ _ e0,hc _ _ e1,hc _ _ e2⟩
theorem ROwn.own(h:ROwn base w v l):∀k,v.ownBlock=Z k->base<=k/\k<w.heap.size:=by
 obtain⟨_,⟨rfl,h0⟩|⟨g,cap,cur,rfl,hb,hZ,_⟩⟩:=h
 ·intro k hk;cases hk
 ·intro k hk;cases hk;exact⟨hb,(Jb hZ)⟩
theorem ROwn.tch(h:ROwn base w v l)(k:M S w w')(hs:∀j,v.ownBlock=Z j->¬S j):ROwn base w' v l:=by
 obtain⟨h1,⟨rfl,h0⟩|⟨g,cap,cur,rfl,hb,hZ,h2⟩⟩:=h
 ·exact⟨h1,aM ⟨rfl,h0⟩⟩
 ·exact⟨h1,aN ⟨g,cap,cur,rfl,hb,(k.block g (Jb hZ) (hs g rfl)).trans hZ,h2⟩⟩
theorem ROwn.grow{W:aA}(h:ROwn base w v l)(hg:w.grownBy w' v.ownBlock)(hW:W.heap.size<=base)(k:M D W w):M D W w':=
 k.trans (Tg hg) (λj hj=>by
  have:=(h.own j hj.symm).1;exact aN (by omega))
theorem ROwn.shape(h:ROwn base w v l):∃a c,v=R a l.length c:=h.at.shape
theorem JjP:(prog.info? 202).map (λi=>(i.zero,i.size,i.bytes))=Z (Z (aH #[L ⟨#[]⟩,O aD 0,O aE 0]),3,32):=by kernel_rfl
theorem Jbw(h:ROwn base w v l)(x:aG)(l2:List Hd)(hx:RhAt w x l2)(ty:TypeId)(hb:l.length+l2.length<=1000000000)(He:base<=w.heap.size):
  ∃v' w',(lV #[200,200] ty #[v,x]).run N w=.ok v' w'/\ROwn base w' v' (l++l2)/\w.grownBy w' v.ownBlock:=by
 obtain⟨i,hi,hp⟩:=lE.1 JjP;simp only[Qw]at hp;obtain⟨hz,Hp,gy⟩:=hp
 rcases hx with⟨rfl,rfl⟩|⟨g,o,c,rfl,⟨hg,_⟩,Ho⟩
 ·exact⟨v,w,run_append_owned_none (P:=N) (w:=w) base 200 ty 202 i 3 underlying200 hi v l.length (rhA l) h,by rw[QC];exact h,l5.refl _ _⟩
 ·obtain⟨v',w',hr,h2,h3,h4⟩:=run_append_own (P:=N) w base 200 ty 202 i _ 3 32 underlying200 hi hz Hp gy rfl (by omega) v l.length (rhA l) h ⟨g,o,Y⟩ l2.length c (rhA l2) (Zc l2) (RhAt.cells Ho) (Jj4 l2) (by simp only[maxLen];omega) (by omega) He;exact⟨v',w',hr,by unfold ROwn;rw[Qe,JaE];exact h2,h3⟩
theorem Zg(jz:o.guard=Y)(s x:Operand)
 (ho:o.op=.call { callee:=.builtin .append,args:= #[s,x],argTypes:= #[200,200] })
 (hv:a.eval s=v) (h:ROwn base w v l) (xv:aG) (l2:List Hd) (hx:a.eval x=xv) (hs:RhAt w xv l2) (hb:l.length+l2.length<=1000000000) (He:base<=w.heap.size)
 (hK:∀v' w',ROwn base w' v' (l++l2)->w.grownBy w' v.ownBlock->wpList N ops Q rest (a.put o.dst v') w'):wpList N ops Q (o::rest) a w:=by
 refine wpList_plain jz λK vA=>?_;obtain⟨v',w',kH,r,r2⟩:=Jbw h xv l2 hs o.type hb He;unfold Oper.wp;simp[execOp,ho,resolve,invoke,builtin,hv,hx,kH,Result.andThen];exact vA _ _ (hK v' w' r r2)
theorem JeF{E:Prop}
 (jz:o.guard=Y) (s x:Operand) (ho:o.op=.call { callee:=.builtin .append,args:= #[s,x],argTypes:= #[200,200] })
 (hv:a.eval s=v) (h:ROwn base w v l) (xv:aG) (l2:List Hd) (hx:a.eval x=xv) (hs:RhAt w xv l2) (hb:l.length+l2.length<=1000000000) (He:base<=w.heap.size)
 (hK:∀v' w',ROwn base w' v' (l++l2)->w.grownBy w' v.ownBlock->K (a.put o.dst v') w'):
  if lT o (yielded ops a.tmps)=true then Oper.wp N o a w K Q else E:=by
 have hw:lT o (yielded ops a.tmps)=true:=by simp[lT,jz]
 rw[if_pos hw];obtain⟨v',w',kH,r,r2⟩:=Jbw h xv l2 hs o.type hb He;unfold Oper.wp;simp[execOp,ho,resolve,invoke,builtin,hv,hx,kH,Result.andThen];exact hK v' w' r r2
theorem Ji8(W:aA)(h:Hd):RhAt (W.alloc (T #[L (keyS h.1),O aD ((h.2.1:Nat):Int),O aE ((h.2.2:Nat):Int)] 202)) (R (Z ⟨W.heap.size,0,Y⟩) 1 1) [h]:=by
 refine aN ⟨_,0,1,rfl,⟨by simp,_,_,Qf W _⟩,λi hi=>?_⟩;obtain rfl:i=0:=by simpa using hi
 have hr:=Qf W (T #[L (keyS h.1),O aD ((h.2.1:Nat):Int),O aE ((h.2.2:Nat):Int)] 202);exact⟨Ja hr,Ja hr,Ja hr⟩
theorem JhR(l:List Hd)(k:Nat)(hk:k<=l.length):rhA (l.take k)=(rhA l).take (k*3):=by
 conv=>rhs;rw[<-l6 k l,JaE]
 rw[List.take_left' (by rw[Zc,QB];omega)]
theorem Jni(l:List Hd)(k:Nat)(hk:k<=l.length):rhA (l.drop k)=(rhA l).drop (k*3):=by
 conv=>rhs;rw[<-l6 k l,JaE]
 rw[List.drop_left' (by rw[Zc,QB];omega)]
theorem JoU(l:List Hd)(j:Nat)(hj:j<l.length)(y:Hd):rhA (l.set j y)=(rhA l).take (j*3)++rhC y++(rhA l).drop (j*3+3):=by
 rw[lY,if_pos hj,JaE,JhR l j (by omega),show rhA (y::l.drop (j+1))=rhC y++rhA (l.drop (j+1)) from rfl,Jni l (j+1) (by omega),Qs,show (j+1)*3=j*3+3 by omega]
theorem ROwn.take{a:Option Addr}{n c:Nat}(h:ROwn base w (R a n c) l)(k:Nat)(hk:k<=n):ROwn base w (R a k c) (l.take k):=by
 obtain⟨h1,⟨hv,h0⟩|⟨g,cap,cur,hv,hb,hZ,yy,hm,Hp,kU⟩⟩:=h
 ·cases hv
  obtain rfl:k=0:=by omega
  exact⟨by simp[rhA],aM ⟨rfl,by simp⟩⟩
 ·cases hv
  have hl:(l.take k).length=k:=by rw[QB];omega
  refine⟨Zc _,aN ⟨g,c,cur,by rw[hl],hb,hZ,by rw[hl];omega,hm,Hp,?_⟩⟩;rw[hl,JhR l k hk,<-kU,List.take_take,Nat.min_eq_left (Nat.mul_le_mul_right _ hk)]
theorem Jdp{cap:Nat}{op:Oper}(jz:op.guard=Y)(x y:Operand)(ho:op.op=.store 202 x y)
 (h:ROwn base w (R (Z ⟨g,0,Y⟩) l.length cap) l) (j:Nat) (hj:j<l.length) (z:Hd) (hx:a.eval x=X (Z ⟨g,j*3,Y⟩)) (hy:a.eval y=aH #[L (keyS z.1),O aD ((z.2.1:Nat):Int),O aE ((z.2.2:Nat):Int)])
 (hK:∀w',ROwn base w' (R (Z ⟨g,0,Y⟩) l.length cap) (l.set j z)->M (λx=>x=g) w w'->wpList N ops Q rest (a.put op.dst undef) w'):wpList N ops Q (op::rest) a w:=by
 obtain⟨i,hi,hp⟩:=lE.1 JjP;simp only[Qw]at hp;obtain⟨_,jl,_⟩:=hp;obtain⟨h1,⟨hv,h0⟩|⟨g',cap',cur,hv,hb,hZ,yy,hm,Hp,kU⟩⟩:=h
 ·cases hv
 ·cases hv
  have kL:(storeCells ⟨g,j*3,Y⟩ [L (keyS z.1),O aD ((z.2.1:Nat):Int),O aE ((z.2.2:Nat):Int)]).run N w=_:=run_storeCells_at N g (j*3) 202 (rhC z) 0 cur w hZ (by simp[rhC];omega) (λu hu=>Jj4 [z] u (by simpa [rhA]using hu));refine wpList_plain jz λK vA=>?_;unfold Oper.wp execOp;simp[ho,hx,hy,Instr.storeAt,Instr.sureAddr,storeVar,sizeOf,typeInfo,hi,jl,Value.cells,kL];refine vA _ _ (hK _ ⟨?_,aN ⟨g,cap,_,by rw[lW],hb,Qi w g cur _ _ _ hZ,by rw[lW];exact yy,hm,?_,?_⟩⟩ (Ts _ _ _))
  ·rw[Zc]
  ·have:cap*3=cur.size:=Hp.symm;simp[rhC];omega
  ·rw[lW,JoU l j hj z,<-kU];simp only[List.take_take];rw[Nat.min_eq_left (by omega),List.drop_take,show (rhC z).length=3 from rfl];have Hq:(cur.toList.take (j*3)).length=j*3:=(by rw[QB,QA];omega);have e1:(cur.toList.take (j*3)).take (l.length*3)=cur.toList.take (j*3):=QS (by rw[Hq];omega);have e2:(rhC z).take (l.length*3-j*3)=rhC z:=QS (by show 3<=_;omega);rw[Qs,List.take_append,Hq,e1,List.take_append,e2,show (rhC z).length=3 from rfl,Nat.sub_sub]

theorem JfM(l:List (Nat×Nat))(k:Nat)(h:k<l.length):Jt l (k+1)=Jt l k+l[k].1:=by
 unfold Jt;rw[QR h];simp only[List.map_append,List.sum_append,List.map_cons,List.map_nil,List.sum_cons,List.sum_nil];omega
theorem Jo8(l:List (Nat×Nat))(k:Nat):Jt l k<=Jt l l.length:=by
 unfold Jt;rw[lN]
 conv=>rhs;rw[<-l6 k l]
 rw[List.map_append,List.sum_append];omega

theorem JhJ(k:List UInt8)(i:Nat)(hi:i<8*k.length)(hl:k.length<=1000000)(w:aA):
  aB N 253 #[L ⟨k.toArray⟩,O I (i:Int)] w λe w'=>e=aC (O I (bt k i:Int))/\M D w w':=by
 have Hp:=Ji k;have pT:i/8<(⟨k.toArray⟩:BA).size:=by omega
 have HB:J ((⟨k.toArray⟩:BA)[i/8].toNat=(k.getD (i/8) 0).toNat):=by
  show UInt8.toNat _=_
  congr 1
  simp[List.getD_eq_getElem?_getD,show i/8<k.length by omega];rfl
 have H7:=UInt8.toNat_lt (⟨k.toArray⟩:BA)[i/8];have yS:J (bt k i=(k.getD (i/8) 0).toNat/2 ^ (7-i % 8) % 2):=rfl;generalize (⟨k.toArray⟩:BA)=tb at *;have hq:((i:Int)/8).toNat=i/8:=by omega
 obtain⟨x,hx⟩:∃x:Nat,tb[i/8].toNat=x:=⟨_,rfl⟩
 rw[hx]at H7 HB;have hwx:I.wrap (x:Int)=(x:Int):=Jo _ (by omega) (by omega);go_enter func253,ntmps253;go_wp2;go_loopw [5,6] (λn j wr=>∃m:Nat,m<=7-i % 8/\n=O I ((x/2 ^ m:Nat):Int)/\j=O I ((i % 8+m:Nat):Int)/\J (M D w wr)) (λ_ j _=>7-(intOf j).toNat)
 case atStart=>exact⟨0,by omega,by simp,by simp,Te _ _⟩
 case round=>
  obtain⟨m,hm,rfl,rfl,HT⟩:=hrel;have tu:i % 8<8:=Nat.mod_lt _ (by omega);have vk:x/2 ^ m<=x:=Nat.div_le_self _ _;have HS:J (x/2 ^ (m+1)=x/2 ^ m/2):=by show x/2 ^ (m+1)=_;rw[Nat.pow_succ,Nat.div_div_eq_div_mul]
  by_cases jM:i % 8+m<7
  ·have tH:((i % 8+m:Nat):Int)<7:=(by omega);have HI:J _:=jM;generalize hy:x/2 ^ m=y at *;generalize hz:i % 8+m=z at *;have HZ:J _:=hz;go_wp2;go_roundw
   case rel=>exact⟨m+1,by have:=HI.o;have:=HZ.o;omega,by rw[HS.o];congr 1,by have:=HZ.o;go_num,HT⟩
   case measure=>have:=HI.o;simp[intOf];omega
  ·have tH:¬((i % 8+m:Nat):Int)<7:=(by omega);have HM:J (m=7-i % 8):=(by omega:m=7-i % 8)
   have HE:J (x/2 ^ m % 2=bt k i):=(by show x/2 ^ m % 2=bt k i;rw[yS.o,HM.o,<-HB.o]);generalize hy:x/2 ^ m=y at *;generalize i % 8+m=z at *;go_wp2;go_ret;exact⟨congrArg (λn=>Ending.returned (O I n)) (by rw[<-HE.o];omega),HT⟩
theorem Jmt{d:BA×Int}(h1:Jj wj c)(h2:Jj wj d)(h:(keyS c).toList=(keyS d).toList):c=d:=by
 rw[ByteArray.toList_eq,ByteArray.toList_eq]at h;exact Zy h1 h2 (by simpa [keyS]using h)
theorem Jj2(wj:Nat)(v:aG)(l:List Hd)(c:BA×Int)(w:aA)(h:RhAt w v l)(hl:l.length<1000000000)(Hg:∀h∈l,Jj wj h.1)(hc:Jj wj c):
  aB N 263 #[v,L (keyS c)] w λe w'=>e=aC (O I (Yy l c))/\M D w w':=by
 obtain⟨a,cc,rfl⟩:=h.shape;have H:J _:=h;have yF:J ((∀h∈l,Jj wj h.1)/\Jj wj c):=⟨Hg,hc⟩
 go_enter func263,ntmps263;go_wp2;go_loopw [5] (λi wr=>∃k:Nat,k<=l.length/\i=O I k/\J (M D w wr)/\J (∀j (hj:j<l.length),j<k->l[j].1 ≠ c)) (λi _=>l.length-(intOf i).toNat)
 case atStart=>exact⟨0,by omega,rfl,Te _ _,λj _ h=>absurd h (by omega)⟩
 case round=>
  obtain⟨k,hk,rfl,HT,HN⟩:=hrel
  by_cases H7:k<l.length
  ·rcases H with⟨e,e2⟩|⟨gi,oi,c2,e,⟨kp,_⟩,Ho⟩
   ·rw[e2]at H7;simp at H7
   simp only[Qy,true_and]at e;obtain⟨rfl,rfl⟩:=e;obtain⟨q0,_,_⟩:=(Ho k H7).tch HT kp (λh=>h);have kj:(k:Int)<(l.length:Int):=by omega
   by_cases he:l[k].1=c
   ·have hs:((keyS l[k].1).toList == (keyS c).toList)=true:=(by rw[he];simp);have HF:J _:=Jhf H7 he HN.o;generalize keyS l[k].1=y at *;generalize keyS c=z at *;go_wp2;go_ret;exact⟨by unfold Yy;rw[HF.o];rfl,HT⟩
   ·have hs:((keyS l[k].1).toList == (keyS c).toList)=false:=by
     rw[beq_eq_false_iff_ne];exact λe=>he (Jmt (yF.1 _ (Qx H7)) yF.2 e)
    have az:J (∀j (hj:j<l.length),j<k+1->l[j].1 ≠ c):=λj hj nT=>by
     rcases Nat.lt_succ_iff_lt_or_eq.1 nT with h|h
     ·exact HN j hj h
     ·subst h;exact he
    generalize keyS l[k].1=y at *;generalize keyS c=z at *;go_wp2;go_roundw
    case rel=>exact⟨k+1,by omega,by go_num,HT,az⟩
    case measure=>simp[intOf];omega
  ·have jA:¬(k:Int)<(l.length:Int):=(by omega);have HF:J _:=Jmh λj hj=>HN j hj (by omega);generalize keyS c=z at *;go_wp2;go_ret;exact⟨by unfold Yy;rw[HF.o];rfl,HT⟩
theorem Jm8(B:Nat)(v:aG)(l:List (Nat×Nat))(w:aA)(h:YD B w v l)(hl:l.length<1000000000):
  aB N 328 #[v] w λe w'=>e=aC (aL (decide (18446744073709551616<=Jt l l.length)))/\M D w w':=by
 obtain⟨a,cc,rfl⟩:=h.shape;have H:J _:=h;go_enter func328,ntmps328;go_wp2;go_loopw [3,4] (λs i wr=>∃k:Nat,k<=l.length/\i=O I k/\s=O aD ((18446744073709551615-Jt l k:Nat):Int)/\J (Jt l k<=18446744073709551615)/\J (M D w wr)) (λ_ i _=>l.length-(intOf i).toNat)
 case atStart=>exact⟨0,by omega,rfl,rfl,(by simp[Jt]:Jt l 0<=_),Te _ _⟩
 case round=>
  obtain⟨k,hk,rfl,rfl,HS,HT⟩:=hrel
  by_cases H7:k<l.length
  ·rcases H with⟨e,e2⟩|⟨gi,oi,c2,e,_,kp,Ho⟩
   ·rw[e2]at H7;simp at H7
   simp only[Qy,true_and]at e;obtain⟨rfl,rfl⟩:=e;have q0:=(HT.cell (p:=⟨gi,oi+k*2,Y⟩) kp (λh=>h)).trans (Ho k H7).1;have kj:(k:Int)<(l.length:Int):=(by omega);have HN:J _:=JfM l k H7;have HM:=Jo8 l (k+1);have HM':J _:=HM;generalize l[k].1=y at *;obtain⟨f,hf⟩:∃f:Nat,f=18446744073709551615-Jt l k:=⟨_,rfl⟩
   have HF:J _:=hf;rw[<-hf]
   by_cases hy:f<y
   ·have hyi:(f:Int)<(y:Int):=(by omega);have HY:J _:=hy;clear hf hy;go_wp2;go_ret;refine⟨?_,HT⟩;have h1:=HY.o;have h2:=HF.o;have h3:=HN.o;have h4:=HM'.out;have h5:=HS.o;rw[decide_eq_true (by omega)];rfl
   ·have hyi:¬(f:Int)<(y:Int):=(by omega);have zh:IntKind.u64.wrap ((f:Int)-(y:Int))=((f-y:Nat):Int):=by
     have:f<18446744073709551616:=(by omega);simp[lQ,lR,lM];omega
    have HY:J _:=hy;go_wp2;go_roundw
    case rel=>exact⟨k+1,by omega,by go_num,by have h1:=HY.o;have h2:=HF.o;have h3:=HN.o;have h5:=HS.o;congr 1;omega,by have h1:=HY.o;have h2:=HF.o;have h3:=HN.o;have h5:=HS.o;show Jt l (k+1)<=_;omega,HT⟩
    case measure=>simp[intOf];omega
  ·have jA:¬(k:Int)<(l.length:Int):=(by omega);have HK:J (k=l.length):=(by omega:k=l.length)
   obtain⟨f,hf⟩:∃f:Nat,f=18446744073709551615-Jt l k:=⟨_,rfl⟩
   rw[<-hf];go_wp2;go_ret;refine⟨?_,HT⟩;have h1:=HS.o;rw[HK.o]at h1;rw[decide_eq_false (by omega)];rfl
theorem JjZ(B:Nat)(v:aG)(l:List (Nat×Nat))(w:aA)(h:YD B w v l)(hl:l.length<1000000000):
  aB N 329 #[v] w λe w'=>e=aC (O aD ((Jt l l.length % 18446744073709551616:Nat):Int))/\M D w w':=by
 obtain⟨a,cc,rfl⟩:=h.shape;have H:J _:=h;go_enter func329,ntmps329;go_wp2;go_loopw [3,4] (λs i wr=>∃k:Nat,k<=l.length/\i=O I k/\s=O aD ((Jt l k % 18446744073709551616:Nat):Int)/\J (M D w wr)) (λ_ i _=>l.length-(intOf i).toNat)
 case atStart=>exact⟨0,by omega,rfl,rfl,Te _ _⟩
 case round=>
  obtain⟨k,hk,rfl,rfl,HT⟩:=hrel
  by_cases H7:k<l.length
  ·rcases H with⟨e,e2⟩|⟨gi,oi,c2,e,_,kp,Ho⟩
   ·rw[e2]at H7;simp at H7
   simp only[Qy,true_and]at e;obtain⟨rfl,rfl⟩:=e;have q0:=(HT.cell (p:=⟨gi,oi+k*2,Y⟩) kp (λh=>h)).trans (Ho k H7).1;have kj:(k:Int)<(l.length:Int):=(by omega);have HN:J _:=JfM l k H7;generalize l[k].1=y at *;obtain⟨f,(HF:J _)⟩:∃f:Nat,f=Jt l k % 18446744073709551616:=⟨_,rfl⟩
   rw[<-HF];have zh:IntKind.u64.wrap ((f:Int)+(y:Int))=(((f+y) % 18446744073709551616:Nat):Int):=(by simp[lQ,lR,lM]);go_wp2;go_roundw
   case rel=>exact⟨k+1,by omega,by go_num,by rw[HN.o,HF.o];congr 1;omega,HT⟩
   case measure=>simp[intOf];omega
  ·have jA:¬(k:Int)<(l.length:Int):=(by omega);have HK:J (k=l.length):=(by omega:k=l.length)
   obtain⟨f,(HF:J _)⟩:∃f:Nat,f=Jt l k % 18446744073709551616:=⟨_,rfl⟩
   rw[<-HF];go_wp2;go_ret;exact⟨by rw[HF.o,HK.o];rfl,HT⟩

theorem JiZ(h:Hd)(w:aA)(ho:h.2.2<256)(hk:(Jc h.1).length<=1000000):
  aB N 165 #[aH #[L (keyS h.1),O aD ((h.2.1:Nat):Int),O aE ((h.2.2:Nat):Int)]] w λe w'=>e=aC (L ⟨(76::(Jc h.1++outB h.2)).toArray⟩)/\M D w w':=by
 obtain⟨c,a,o⟩:=h;simp only at ho hk ⊢;have vj:J (∀V,aB N 164 #[aH #[O aD (a:Int),O aE (o:Int)]] V λe w'=>e=aC (L ⟨(outB (a,o)).toArray⟩)/\M D V w'):=λV=>JcN a o V ho;have h1:=JO [76] (Jc c) (by simp;omega);have h2:=JO ([76]++Jc c) (outB (a,o)) (by rw[Jb8];simp;omega);have HX:J ([76]++Jc c++outB (a,o)=76::(Jc c++outB (a,o))):=rfl;have h1':∀W,(Op.stringOp .add (⟨#[76]⟩:BA) (keyS c)).run N W=.ok (L ⟨([76]++Jc c).toArray⟩) W:=h1;generalize [76]++Jc c++outB (a,o)=aX at *;generalize [76]++Jc c=aP at *;generalize outB (a,o)=aO at *;generalize keyS c=ks at *;go_enter func165,ntmps165;go_wp2;go_region_with (go_at_call 164;refine(vj.o _).mono ?_;rintro _ w1⟨rfl,H9⟩;have r1:w1.heap[w.heap.size]? =Z (T #[L ks,O aD (a:Int),O aE (o:Int)] 202):=(H9.block _ (by first|(simp;done)|(simp;omega)) (λh=>h)).trans (Qf _ _);have c1:w1.cell? ⟨w.heap.size,0,Y⟩=Z (L ks):=Ja r1;have H5:J (M _ _ w1):=H9)
 all_goals go_wp2;go_ret;exact⟨by rw[<-HX.o];rfl,(M.box w _).trans H5 noE⟩
theorem Jeb(b:Nat)(x y:List UInt8)(w:aA)(hb:b<65536)(hx:x.length<=1000000)(hy:y.length<=1000000):
  aB N 168 #[O I (b:Int),L ⟨x.toArray⟩,L ⟨y.toArray⟩] w λe w'=>e=aC (L ⟨(78::(Hf b 2 2++(x++y))).toArray⟩)/\M D w w':=by
 have yw:J (∀V,_):=λV=>XU b 2 V (by omega);have zh:IntKind.u64.wrap (b:Int)=(b:Int):=by simp[lQ,lR,lM];omega
 have h1:=JO [78] (Hf b 2 2) (by simp[Jf]);have h2:=JO ([78]++Hf b 2 2) x (by simp[Jf];omega);have h3:=JO ([78]++Hf b 2 2++x) y (by simp[Jf];omega);have HX:J ([78]++Hf b 2 2++x++y=78::(Hf b 2 2++(x++y))):=by show _=_;simp
 have h1':=h1;generalize [78]++Hf b 2 2++x++y=aX at *;generalize [78]++Hf b 2 2++x=aP at *;generalize [78]++Hf b 2 2=aO at *;generalize Hf b 2 2=B at *;go_enter func168,ntmps168;go_wp2_with (go_at_call 171;refine(yw.o _).mono ?_;rintro _ w1⟨rfl,H9⟩;have H5:J _:=H9);go_ret;exact⟨by rw[<-HX.o];rfl,H5.o⟩

theorem Jno(l:List KO)(b:Nat):(side l b 0).length+(side l b 1).length=l.length:=by
 unfold side
 induction l with
 | nil=>rfl
 | cons x r ih=>
  have h2:bt x.1 b=0\/bt x.1 b=1:=by have:=Yx x.1 b;omega
  rcases h2 with h|h
  ·simp[h]at ih ⊢;omega
  ·simp[h]at ih ⊢;omega

def alkB(l:List Hd)(b:Nat):Bool:=match l with
 | []=>true
 | h::r=>r.all λx=>bt (Jc x.1) b == bt (Jc h.1) b
def koR(l:List Hd):List KO:=l.map λh=>(Jc h.1,h.2)
theorem Jab(h0:Hd)(r:List Hd)(b:Nat):alkB (h0::r) b=true↔∀x∈h0::r,bt (Jc x.1) b=bt (Jc h0.1) b:=by
 unfold alkB;simp only[List.all_eq_true,beq_iff_eq,lO,forall_eq_or_imp,true_and]
theorem Jhi(h0:Hd)(r:List Hd)(b:Nat)(kt:alkB (h0::r) b=false)(yz:∀i,i<b->alkB (h0::r) i=true):Fork (koR (h0::r)) b:=by
 constructor
 ·intro x hx y hy i hi;have h:=(Jab h0 r i).1 (yz i hi);obtain⟨u,hu,rfl⟩:=QL.1 hx;obtain⟨v,hv,rfl⟩:=QL.1 hy;exact(h u hu).trans (h v hv).symm
 ·apply lK;intro hc;have:alkB (h0::r) b=true:=(Jab h0 r b).2 λx hx=>by
   apply lK;intro Hl;exact hc ⟨_,QL.2 ⟨x,hx,rfl⟩,_,QL.2 ⟨h0,QN,rfl⟩,Hl⟩
  rw[kt]at this
  cases this
theorem Jmk(h0 x:Hd)(r:List Hd)(Hg:∀h∈h0::x::r,Jj wj h.1)(j9:((h0::x::r).map (·.1)).Nodup):∃b,b<8*(wj+1)/\alkB (h0::x::r) b=false:=by
 have k0:=Hg h0 (by simp);have kx:=Hg x (by simp);have Hl:Jc h0.1 ≠ Jc x.1:=λe=>by
  have:=Zy k0 kx e;simp[this]at j9
 obtain⟨h1,h2,_⟩:=JjN (Jc h0.1) (Jc x.1) (by rw[Xg k0,Xg kx]) Hl;rw[Xg k0]at h1;refine⟨_,h1,?_⟩
 cases ha:alkB (h0::x::r) (fd (Jc h0.1) (Jc x.1)) with
 | false=>rfl
 | true=>exact absurd ((Jab h0 (x::r) _).1 ha x (by simp)).symm h2
def sidL(l:List Hd)(b v:Nat):List Hd:=l.filter λh=>bt (Jc h.1) b=v
theorem JdS(l:List Hd)(b v:Nat):koR (sidL l b v)=side (koR l) b v:=by
 unfold koR sidL side;rw[List.filter_map];rfl
theorem Jlh(l:List Hd)(x:Hd)(b v:Nat):sidL (l++[x]) b v=if bt (Jc x.1) b=v then sidL l b v++[x] else sidL l b v:=by
 unfold sidL;rw[List.filter_append]
 by_cases h:bt (Jc x.1) b=v
 ·rw[if_pos h,List.filter_cons_of_pos (by simpa using h)];rfl
 ·rw[if_neg h,List.filter_cons_of_neg (by simpa using h)];simp
theorem JhX(l:List Hd)(b:Nat):(sidL l b 0).length+(sidL l b 1).length=l.length:=by
 have:=Jno (koR l) b;rw[<-JdS,<-JdS]at this;simpa [koR]using this
theorem Jo1(h0:Hd)(r:List Hd)(b:Nat)(kt:alkB (h0::r) b=false):(sidL (h0::r) b 0).length<(h0::r).length/\(sidL (h0::r) b 1).length<(h0::r).length:=by
 have hl:=JhX (h0::r) b;have hx:∃x∈h0::r,¬bt (Jc x.1) b=bt (Jc h0.1) b:=by
  apply lK;intro hc;have:alkB (h0::r) b=true:=(Jab h0 r b).2 λx hx=>by
   apply lK;intro Hl;exact hc ⟨x,hx,Hl⟩
  rw[kt]at this
  cases this
 obtain⟨x,hx,Hl⟩:=hx;have b0:=Yx (Jc h0.1) b;have bx:=Yx (Jc x.1) b;have m0:h0∈sidL (h0::r) b (bt (Jc h0.1) b):=QO.2 ⟨QN,by simp⟩;have mx:x∈sidL (h0::r) b (bt (Jc x.1) b):=QO.2 ⟨hx,by simp⟩;have p0:=List.length_pos_of_mem m0;have px:=List.length_pos_of_mem mx;have h2:(bt (Jc h0.1) b=0/\bt (Jc x.1) b=1)\/(bt (Jc h0.1) b=1/\bt (Jc x.1) b=0):=by omega
 rcases h2 with⟨e1,e2⟩|⟨e1,e2⟩
 ·rw[e1]at p0;rw[e2]at px;omega
 ·rw[e1]at p0;rw[e2]at px;omega
theorem Jc2(h0 x:Hd)(r:List Hd)(Hg:∀h∈h0::x::r,Jj wj h.1)(j9:((h0::x::r).map (·.1)).Nodup):∃b,b<8*(wj+1)/\alkB (h0::x::r) b=false/\∀i,i<b->alkB (h0::x::r) i=true:=by
 obtain⟨b,hb,hf⟩:=Jmk h0 x r Hg j9;generalize 8*(wj+1)=aU at *;generalize h0::x::r=l at *;clear Hg j9
 induction b using Nat.strongRecOn with
 | _ b ih=>
  by_cases xj:∀i,i<b->alkB l i=true
  ·exact⟨b,hb,hf,xj⟩
  ·obtain⟨i,hi⟩:=Classical.not_forall.1 xj;obtain⟨tz,hia⟩:=Classical.not_imp.1 hi;exact ih i tz (by omega) (by simpa using hia)
theorem Jle(h0:Hd)(r:List Hd)(b:Nat)(kt:alkB (h0::r) b=false)(yz:∀i,i<b->alkB (h0::r) i=true){t:List UInt8}(hs:Root d (koR (sidL (h0::r) b 0)) s)(ht:Root d (koR (sidL (h0::r) b 1)) t):
  Root d (koR (h0::r)) (78::(Hf b 2 2++((d s).data.toList++(d t).data.toList))):=by
 rw[JdS]at hs ht;exact .two _ b s t (Jhi h0 r b kt yz) hs ht
theorem Jdw{P:Hd->Prop}(l:List Hd)(b v:Nat)(h:∀x∈l,P x):∀x∈sidL l b v,P x:=λx hx=>h x (QO.1 hx).1
theorem JbM(l:List Hd)(b v:Nat)(h:(l.map (·.1)).Nodup):((sidL l b v).map (·.1)).Nodup:=h.sublist (List.Sublist.map _ List.filter_sublist)
theorem Root.rlen(hw:wj<=32)(Hg:∀h∈l,Jj wj h.1)(h:Root (H3 wj) (koR l) s):s.length<=1000:=by
 have hd:∀y,(H3 wj y).data.toList.length=wj:=λy=>by
  have:=Jk wj hw y;rw[QA];exact this
 generalize hk:koR l=kl at h
 cases h using Root.ri with
 | Y=>simp
 | one k o=>
  have hm:(k,o)∈koR l:=by rw[hk];simp
  obtain⟨x,hx,e⟩:=QL.1 hm;have hl:=Xg (Hg x hx);have e1:Jc x.1=k:=congrArg Prod.fst e;rw[e1]at hl;simp only[Qp,Qe,hl,outB,Jf];omega
 | two _ b x y hf _ _=>
  simp only[Qp,Qe,Jf,hd];omega
theorem Jfq:∀(l:List Hd),(∀h∈l,Jj wj h.1)->(l.map (·.1)).Nodup->((koR l).map (·.1)).Nodup
 | [],_,_=>by simp[koR]
 | x::r,Hg,j9=>by
  simp only[koR,List.map_cons,List.nodup_cons]at j9 ⊢;refine⟨λhm=>j9.1 ?_,Jfq r (λh hh=>Hg h (by simp[hh])) j9.2⟩;obtain⟨y,hy,e⟩:=QL.1 hm;obtain⟨z,hz,rfl⟩:=QL.1 hy;have:=Zy (Hg z (by simp[hz])) (Hg x (by simp)) e;exact QL.2 ⟨z,hz,this⟩
theorem JcP(B:Book wj st l)(h:Root d (koR l) s):s=Jjf d st:=by
 refine Root.of_state B.wf (λx=>?_) (Jfq l (λh hh=>(B.ok h hh).1) B.nodup) h;obtain⟨k,o⟩:=x;rw[B.mem k o];unfold koR;rw[QL];constructor
 ·rintro⟨y,hy,e⟩;exact⟨y,hy,congrArg Prod.fst e,congrArg Prod.snd e⟩
 ·rintro⟨y,hy,e1,e2⟩;exact⟨y,hy,by rw[e1,e2]⟩

theorem Jm6(wj b0:Nat)(hw:wj<=32)(v:aG)(h0:Hd)(r:List Hd)(w:aA)(hv:RhAt w v (h0::r))(yf:∀h∈h0::r,Jj wj h.1)(Hq:r.length<=900000000)(hb:b0<8*(wj+1))(kt:alkB (h0::r) b0=false)(yz:∀i,i<b0->alkB (h0::r) i=true):
  aB N 166 #[v] w λe w'=>e=aC (O I (b0:Int))/\M D w w':=by
 rcases hv with⟨_,e⟩|⟨g,o,c,rfl,⟨hg,_⟩,Ho⟩
 ·cases e
 have yS:J (∀V (c:BA×Int) (b:Nat),Jj wj c->b<8*(wj+1)->aB N 253 #[L (keyS c),O I (b:Int)] V λe w'=>e=aC (O I (bt (Jc c) b:Int))/\M D V w'):=λV c b hc hb=>by
  have hl:=Xg hc;exact JhJ (Jc c) b (by rw[hl];exact hb) (by rw[hl];omega) V
 have HC:J (∀(i:Nat)(h:i<(h0::r).length),Jj wj (h0::r)[i].1/\∀V,M D w V->V.cell? ⟨g,o+i*3,Y⟩=Z (L (keyS (h0::r)[i].1))):=λi h=>⟨yf _ (Qx h),λV hV=>((Ho i h).tch hV hg (λh=>h)).1⟩
 have yG:J ((keyS h0.1).size=wj+1):=by show ByteArray.size _=_;unfold keyS;rw[Ji,Xg (yf h0 (by simp))]
 have fA:J _:=kt;have pU:J _:=yz;have HK0:J (∀V,M D w V->V.cell? ⟨g,o,Y⟩=Z (L (keyS h0.1))):=λV hV=>by
  have:=(HC 0 (by simp)).2 V hV;simpa using this
 have nX:J _:=yf h0 (by simp);have hn:(h0::r).length=r.length+1:=rfl;rw[hn];go_enter func166,ntmps166;go_wp2;go_loopw [3] (λi wr=>∃k:Nat,k<=b0/\i=O I (k:Int)/\J (M D w wr)) (λi _=>b0+1-(intOf i).toNat)
 case atStart=>exact⟨0,Nat.zero_le _,rfl,Te _ _⟩
 case round=>
  obtain⟨k,hk,rfl,HT⟩:=hrel;have z0:=HK0 wr HT.o;have Hp:=yG.o;have uN:I.wrap (8*((keyS h0.1).size:Int))=8*((wj:Int)+1):=by rw[Hp,Jo _ (by omega) (by omega)];omega
  have H7:(k:Int)<8*((wj:Int)+1):=by omega
  go_upto_region 4 with fail;go_wp2;go_loopw [4] (λi wx=>∃m:Nat,m<=r.length/\i=O I ((m:Int)+1)/\J (∀j (hj:j<r.length),j<m->bt (Jc r[j].1) k=bt (Jc h0.1) k)/\J (M D w wx)) (λi _=>r.length+1-(intOf i).toNat)
  case atStart=>exact⟨0,Nat.zero_le _,rfl,λj _ h=>absurd h (by omega),HT⟩
  case round=>
   obtain⟨m,hm,rfl,HA,HT⟩:=hrel
   by_cases hgo:m<r.length
   ·have hki:(m:Int)+1<((r.length+1:Nat):Int):=(by omega);obtain⟨okk,ck⟩:=HC (m+1) (by simp;omega);have hxe:(h0::r)[m+1]'(by simp;omega)=r[m]:=rfl;rw[hxe]at okk ck;obtain⟨x,hx⟩:∃x:Hd,x=r[m]:=⟨_,rfl⟩
    rw[<-hx]at okk ck;have HO:J (Jj wj h0.1/\Jj wj x.1):=⟨nX,okk⟩
    have nY:k<8*(wj+1):=(by omega);have kN:J (∀V,_):=λV=>yS V x.1 k okk nY;have qA:J (∀V,_):=λV=>yS V h0.1 k nX nY;have qJ:J (∀V,M D w V->V.cell? ⟨g,o,Y⟩=Z (L (keyS h0.1))/\V.cell? ⟨g,o+(m+1)*3,Y⟩=Z (L (keyS x.1))):=λV hV=>⟨HK0 V hV,ck V hV⟩
    have zi:J (bt (Jc x.1) k=bt (Jc h0.1) k->∀j (hj:j<r.length),j<m+1->bt (Jc r[j].1) k=bt (Jc h0.1) k):=λe j hj fB=>by
     rcases Nat.lt_succ_iff_lt_or_eq.1 fB with h|h
     ·exact HA j hj h
     ·subst h;rw[<-hx];exact e
    have qp:J (¬bt (Jc x.1) k=bt (Jc h0.1) k->k=b0):=λe=>by
     rcases Nat.lt_or_eq_of_le hk with h|h
     ·exact absurd ((Jab h0 r k).1 (pU k h) x (by rw[hx];exact QQ _ (Qx hgo))) e
     ·exact h
    obtain⟨x0,xk⟩:=qJ wr HT.o;have hk0:(0:Int)<=(m:Int)+1:=(by omega);have fC:J _:=hgo;clear okk ck hxe hx hgo HA;go_upto_region 7 with fail;go_cut [34] (λv wx=>v=aL (decide (¬bt (Jc x.1) k=bt (Jc h0.1) k))/\J (M D w wx))
    case first=>
     have hkt:((m:Int)+1).toNat=m+1:=(by omega);have mo:J _:=HT.trans (Td _ wr 1) (λ_ h=>aM h);generalize keyS x.1=kx at *;generalize keyS h0.1=kh at *;go_region_held3 (λV=>V.cell? ⟨g,o,Y⟩=Z (L kh)/\V.cell? ⟨g,o+(m+1)*3,Y⟩=Z (L kx)) (go_keep) ((first|(go_at_call_of 253 (lP kx);refine(kN _).mono ?_;rintro _ w5⟨rfl,kR⟩;have kD:J _:=mo.trans kR (λ_ h=>aM h);obtain⟨y0,yk⟩:=qJ w5 kD.o)|(go_at_call_of 253 (lP kh);refine(qA _).mono ?_;rintro _ w6⟨rfl,jN⟩;have kz:J _:=kD.trans jN (λ_ h=>aM h);obtain⟨z0,zk⟩:=qJ w6 kz.o)))
     all_goals go_wp2;go_meet;refine⟨?_,kz⟩;rw[Value.bool.injEq,Bool.eq_iff_iff];simp only[bne_iff_ne,ne_eq,decide_eq_true_eq];omega
    case rest=>
    obtain⟨rfl,kz⟩:=hcut;obtain⟨w6,re⟩:∃w6,w6=wc:=⟨wc,rfl⟩
    subst re
    by_cases Hl:bt (Jc x.1) k=bt (Jc h0.1) k
    ·have hd:(decide (¬bt (Jc x.1) k=bt (Jc h0.1) k))=false:=(by simp[Hl]);rw[hd];have HN:=zi Hl;have az:J _:=HN;go_wp2;go_roundw
     case rel=>exact⟨m+1,fC,by have:=fC.o;go_num,az,kz⟩
     case measure=>have:=fC.o;simp[intOf];omega
    ·have hd:(decide (¬bt (Jc x.1) k=bt (Jc h0.1) k))=true:=(by simp[Hl]);rw[hd];have HN:J _:=qp Hl;go_wp2;go_ret;exact⟨by rw[<-HN.o];rfl,kz⟩
   ·have jA:¬(m:Int)+1<((r.length+1:Nat):Int):=(by omega);have tI:J (k<b0):=by
     rcases Nat.lt_or_eq_of_le hk with h|h
     ·exact h
     ·subst h;have h2:=(Jab h0 r k).2 λx hx=>by
       rcases lO.1 hx with rfl|hx
       ·rfl
       ·obtain⟨j,hj,rfl⟩:=List.getElem_of_mem hx;exact HA j hj (by omega)
      rw[fA.o]at h2
      cases h2
    go_wp2;go_roundw
    case rel=>exact⟨k+1,tI,by go_num,HT⟩
    case measure=>have:=tI.o;simp[intOf];omega
theorem Jnb(wj b u:Nat)(hw:wj<=32)(v:aG)(l:List Hd)(w:aA)(hv:RhAt w v l)(yf:∀h∈l,Jj wj h.1)(Hq:l.length<=900000000)(hb:b<8*(wj+1)):
  aB N 167 #[v,O I (b:Int),O I (u:Int)] w λe w'=>∃v',e=aC v'/\ROwn w.heap.size w' v' (sidL l b u)/\M D w w':=by
 obtain⟨a,cc,rfl⟩:=hv.shape;have H:J _:=hv;have yS:J (∀V (c:BA×Int),Jj wj c->aB N 253 #[L (keyS c),O I (b:Int)] V λe w'=>e=aC (O I (bt (Jc c) b:Int))/\M D V w'):=λV c hc=>by
  have hl:=Xg hc;exact JhJ (Jc c) b (by rw[hl];exact hb) (by rw[hl];omega) V
 have nX:J _:=yf;go_enter func167,ntmps167;go_wp2;go_loopw [7,8] (λvo i wr=>∃k:Nat,k<=l.length/\i=O I (k:Int)/\J (ROwn w.heap.size wr vo (sidL (l.take k) b u))/\J (M D w wr)) (λ_ i _=>l.length-(intOf i).toNat)
 case atStart=>exact⟨0,Nat.zero_le _,rfl,ROwn.nil _ _,Te _ _⟩
 case round=>
  obtain⟨k,hk,rfl,kY,HT⟩:=hrel
  by_cases H7:k<l.length
  ·rcases H with⟨e,e2⟩|⟨gi,oi,c2,e,⟨kp,_⟩,Ho⟩
   ·rw[e2]at H7;simp at H7
   simp only[Qy,true_and]at e;obtain⟨rfl,rfl⟩:=e;obtain⟨x,hx⟩:∃x:Hd,l[k]=x:=⟨_,rfl⟩
   have xl:J (∀V,M D w V->ZV V gi (oi+k*3) x):=λV hV=>by have:=(Ho k H7).tch hV kp (λh=>h);rw[hx]at this;exact this
   have kN:=λV=>yS V x.1 (nX x (by rw[<-hx];exact Qx H7));have fD:J _:=kN;have HS:J (sidL (l.take (k+1)) b u=if bt (Jc x.1) b=u then sidL (l.take k) b u++[x] else sidL (l.take k) b u):=(by show sidL _ _ _=_;rw[QR H7,hx,Jlh]);have gd:J ((sidL (l.take k) b u).length+1<=1000000000):=(by show List.length _+1<=_;have h1:(sidL (l.take k) b u).length<=(l.take k).length:=List.length_filter_le _ _;rw[QB]at h1;omega);have kj:(k:Int)<(l.length:Int):=(by omega);obtain⟨q0,q1,q2⟩:=xl wr HT.o;obtain⟨va,vm,vc,xm⟩:∃va vm vc,u7=R va vm vc:=(by obtain⟨a,c,e⟩:=kY.shape;exact⟨_,_,_,e⟩);subst xm;have zA:J (∀W:aA,_):=λW=>Ji8 W x
   by_cases hbu:bt (Jc x.1) b=u
   ·have hbi:(bt (Jc x.1) b:Int)=(u:Int):=(by omega);rw[if_pos hbu]at HS;generalize bt (Jc x.1) b=bx at *;go_wp2_with (first|(go_at_call 253;refine(fD _).mono ?_;rintro _ w1⟨rfl,H9⟩;have H5:J _:=H9;obtain⟨y0,y1,y2⟩:=xl w1 (HT.trans H9 (λ_ h=>aM h)))|(at_builtin;refine Zg rfl _ _ rfl rfl (kY.tch (H5.trans (Ta D w1 _) (λ_ h=>aM h)) (λ_ _ h=>h)) _ [x] rfl (zA w1) gd (Qm HT.size (Qm H5.size (Ta D w1 _).size)) ?_;intro v3 w3 kv (zj:J _);have jI:J _:=kv));go_roundw
    case rel=>exact⟨k+1,by omega,by go_num,by rw[HS.o];exact jI,kY.tch (H5.trans (Ta D w1 _) (λ_ h=>aM h)) (λ_ _ h=>h) |>.grow zj (Ql _) (HT.trans (H5.trans (Ta D w1 _) (λ_ h=>aM h)) (λ_ h=>aM h))⟩
    case measure=>simp[intOf];omega
   ·have hbi:¬(bt (Jc x.1) b:Int)=(u:Int):=(by omega);rw[if_neg hbu]at HS;generalize bt (Jc x.1) b=bx at *;go_wp2_with (first|(go_at_call 253;refine(fD _).mono ?_;rintro _ w1⟨rfl,(H5:J _)⟩));go_roundw
    case rel=>exact⟨k+1,by omega,by go_num,by rw[HS.o];exact kY.tch H5 (λ_ _ h=>h),HT.trans H5 (λ_ h=>aM h)⟩
    case measure=>simp[intOf];omega
  ·have jA:¬(k:Int)<(l.length:Int):=(by omega);have HE:J (l.take k=l):=QS (by omega);go_wp2;go_ret;exact⟨_,rfl,by have:=kY.o;rw[HE.o]at this;exact this,HT.o⟩

def DgC:Prop:=∀(n:Nat)(s:BA)(V:aA),1<=n->n<=32->s.size<1152921504606846976->aB N 103 #[O I (n:Int),L s] V λe w'=>e=aC (L (H3 n s.data.toList))/\M D V w'
def Jcn(l:List Hd)(j:Nat)(x:Hd):List Hd:=(l.set j x).dropLast
theorem JgA(l:List Hd)(j:Nat)(hj:j<l.length)(x:Hd)(hx:l.getLast? =Z x):(Jcn l j x).Perm (l.eraseIdx j):=by
 unfold Jcn;have Hl:l ≠ []:=by rintro rfl;simp at hj
 have hl:l=l.dropLast++[x]:=by rw[List.getLast?_eq_some_getLast Hl]at hx;have:=(List.dropLast_concat_getLast Hl).symm;rw[Option.some.inj hx]at this;exact this
 generalize l.dropLast=m at hl;subst hl
 by_cases fB:j<m.length
 ·rw[List.set_append_left _ _ fB,List.dropLast_concat,List.eraseIdx_append_of_lt_length fB,lY,if_pos fB,List.eraseIdx_eq_take_drop_succ,Qs];exact List.Perm.append_left _ (List.perm_append_singleton _ _).symm
 ·obtain rfl:j=m.length:=by simp at hj;omega
  rw[List.set_append_right _ _ (Ql _),Nat.sub_self,List.eraseIdx_append_of_length_le (Ql _),Nat.sub_self];simp
theorem Book.perm{l':List Hd}(B:Book wj st l)(h:l.Perm l'):Book wj st l':=
 ⟨B.wf,λx hx=>B.ok x (h.mem_iff.2 hx),(h.map _).nodup_iff.1 B.nodup,λk o=>by rw[B.mem];exact⟨λ⟨x,hx,h2⟩=>⟨x,h.mem_iff.1 hx,h2⟩,λ⟨x,hx,h2⟩=>⟨x,h.mem_iff.2 hx,h2⟩⟩⟩
def Jch(os:List (Nat×Nat)):Except Er (Option Tr×List (Nat×Nat))->Except Er (Option Tr×List (Nat×Nat))
 | .error e=>.error e
 | .ok (s,q)=>.ok (s,os++q)
theorem Jjc(os:List (Nat×Nat))(c:BA×Int)(r:List (BA×Int))(st st':Option Tr)(o:Nat×Nat)(h:JW st (Jc c)=.ok (st',o)):Jch os (Xd (c::r) st)=Jch (os++[o]) (Xd r st'):=by
 simp only[Xd,h]
 cases Xd r st' with
 | error e=>rfl
 | ok p=>simp[Jch]
theorem Jeq{b1 b2:Nat}{v':aG}{l':List (Nat×Nat)}(h:ROwn b1 w v l)(h':OOwn b2 w v' l'):∀j,v.ownBlock=Z j->v'.ownBlock ≠ Z j:=by
 intro j h1 h2;obtain⟨_,⟨rfl,_⟩|⟨g,cap,cur,rfl,_,hZ,_⟩⟩:=h
 ·cases h1
 obtain⟨_,⟨rfl,_⟩|⟨g',cap',cur',rfl,_,qi,_⟩⟩:=h'
 ·cases h2
 cases h1
 cases h2
 rw[hZ]at qi;simp at qi
def RAp(wj:Nat)(st:Option Tr)(l:List Hd)(t:TxL)(w:aA)(e:Ending)(w':aA):Prop:=
 M D w w'/\match JI (H3 wj) st t with
 | .error er=>e=aC (aI #[R Y 0 0,O I (Xr er)])
 | .ok st'=>∃v' l',e=aC (aI #[v',O I 0])/\ROwn w.heap.size w' v' l'/\Book wj st' l'/\l'.length<=l.length+3
theorem Jk7(hD:DgC)(wj:Nat)(Hn:1<=wj)(hw:wj<=32)(v:aG)(l:List Hd)(st:Option Tr)(B:Nat)(v1 v2:aG)(t:TxL)(w:aA)(h:RhAt w v l)(hB:Book wj st l)(hk:TxOk wj t)(h1:YH B w v1 t.1)(h2:YD B w v2 t.2)(hl:l.length<=900000000):
  aB N 255 #[O I (wj:Int),v,aH #[v1,v2]] w (RAp wj st l t w):=by
 obtain⟨a0,c0,rfl⟩:=h.shape;obtain⟨a1,c1,rfl⟩:=h1.shape;obtain⟨a2,c2,rfl⟩:=h2.shape;have l1:=hk.ins;have l2:=hk.made;have HK:J _:=hk;have H:J (RhAt _ _ _):=h;have H1:J (YH _ _ _ _):=h1;have H2:J (YD _ _ _ _):=h2;have xp:J _:=hB;have HD:J DgC:=hD;clear hk h1 h2 h hB hD;have TB:J (M D w (w.alloc (T #[R a1 t.1.length c1,R a2 t.2.length c2] 98))):=Ta D w _;go_enter func255,ntmps255;go_wp2_with (at_builtin;refine Zg rfl _ _ rfl rfl (ROwn.nil (w.heap.size+1) _) _ l rfl (H.tch0 TB) (by simp;omega) (by simp) ?_;intro vn w1 (kY:J _) hg;have HG:J (l5 _ w1 _):=hg;clear hg);have T1:J (M D w w1):=ROwn.grow (ROwn.nil (w.heap.size+1) _) HG (by omega) TB.out;have R1:J (w1.heap[w.heap.size]? =Z (T #[R a1 t.1.length c1,R a2 t.2.length c2] 98)):=(HG.block _ (by simp) (λe=>by cases e)).trans (Qf _ _);go_loopw [8,9,10] (λvn vi i wr=>∃(k:Nat)(lk:List Hd)(sk:Option Tr)(os:List (Nat×Nat)),k<=t.1.length/\i=O I k/\J (os.length=k)/\J (ROwn (w.heap.size+1) wr vn lk)/\J (OOwn (w.heap.size+1) wr vi os)/\J (Book wj sk lk)/\J (Xd t.1 st=Jch os (Xd (t.1.drop k) sk))/\lk.length<=l.length/\J (M D w wr)/\J (wr.heap[w.heap.size]? =Z (T #[R a1 t.1.length c1,R a2 t.2.length c2] 98))) (λ_ _ i _=>t.1.length-(intOf i).toNat)
 case atStart=>exact⟨0,l,st,[],by omega,rfl,rfl,kY,OOwn.nil _ _,xp,(by cases h:Xd t.1 st<;>simp[Jch,h]:Xd t.1 st=Jch [] (Xd (t.1.drop 0) st)),Ql _,T1,R1⟩
 case round=>
  clear kY HG T1 R1 TB;obtain⟨k,lk,sk,os,hk,rfl,mp,kY,vD,pV,HS,yH,HT,HR⟩:=hrel;obtain⟨d0, -⟩:=rows HR.o
  by_cases H7:k<t.1.length
  ·rcases H1 with⟨e,e2⟩|⟨gi,oi,cc,e,_,kp,Ho⟩
   ·rw[e2]at H7;simp at H7
   simp only[Qy,true_and]at e;obtain⟨rfl,rfl⟩:=e;obtain⟨f0,f1⟩:=Ho k H7;have q0:=(HT.cell (p:=⟨gi,oi+k*2,Y⟩) kp (λh=>h)).trans f0;have q1:=(HT.cell (p:=⟨gi,oi+k*2+1,Y⟩) kp (λh=>h)).trans f1;have kj:(k:Int)<(t.1.length:Int):=(by omega);have yg:J _:=lU H7;have q9:=HK.o.coins _ (Qx H7);have js:J (∀V,aB N 105 #[aH #[L t.1[k].1,O I t.1[k].2]] V λe w'=>e=aC (L (keyS t.1[k]))/\M D V w'):=λV=>Zb t.1[k] V q9.2.1 (by have:=q9.2.2;omega) (by rw[q9.1];omega);have HF:J (∀V,M D wr V->_):=λV hV=>Jj2 wj u8 lk t.1[k] V (kY.at.tch0 hV) (by omega) (λx hx=>(pV.ok x hx).1) q9;have zl:=pV.o.without q9;clear Ho f0 f1 q9
   cases hf:XX lk t.1[k] with
   | none=>
    rw[hf]at zl;simp only at zl;have HZ:J (Yy lk t.1[k]= -1):=(by show Yy _ _=_;unfold Yy;rw[hf]);have HN:J (JI (H3 wj) st t=.error .input):=by show JI _ _ _=_;unfold JI;rw[HS.o,yg.o];simp only[Xd,zl,Jch]
    clear zl hf yg HS;obtain⟨va,vc,rfl⟩:=kY.shape;obtain⟨vb,vd,xB⟩:=vD.shape;rw[mp.o]at xB;subst xB;rw[HZ.o]at HF;generalize keyS t.1[k]=ks at *;generalize t.1[k]=c at *;go_wp2_with (first|(go_at_call 105;refine(js _).mono ?_;rintro _ w1⟨rfl,(H5:J _)⟩)|(go_at_call 263;refine(HF _ H5).mono ?_;rintro _ w2⟨rfl,Ha⟩;have H6:J _:=H5.trans Ha noE;clear Ha));go_ret2;refine⟨HT.trans H6 noE,?_⟩;rw[HN.o];rfl
   | some j=>
    obtain⟨hj,_⟩:=JbD hf;have HZ:J (Yy lk t.1[k]=(j:Int)):=(by show Yy _ _=_;unfold Yy;rw[hf]);rw[hf]at zl;simp only at zl;obtain⟨sk1,mq,(kf:J _)⟩:=zl;rw[Qn,Qd hj,Option.getD_some]at mq;have HN:J (Xd t.1 st=Jch (os++[lk[j].2]) (Xd (t.1.drop (k+1)) sk1)):=(by show Xd t.1 st=_;rw[HS.o,yg.o];exact Jjc _ _ _ _ _ _ mq);clear mq hf yg HS;obtain⟨g,cap,hvn,yy⟩:∃g cap,u8=R (Z ⟨g,0,Y⟩) lk.length cap/\lk.length<=cap:=by
     obtain⟨_,⟨_,h0⟩|⟨g,cap,cur,rfl,_,_,hc,_⟩⟩:=kY.o
     ·omega
     ·exact⟨g,cap,rfl,hc⟩
    subst hvn;obtain⟨vb,vd,xB⟩:=vD.shape;rw[mp.o]at xB;subst xB;rw[HZ.o]at HF;generalize keyS t.1[k]=ks at *;generalize t.1[k]=c at *;have hj0:¬(j:Int)<0:=(by omega);have pW:(j:Int)<(lk.length:Int):=(by omega);obtain⟨m,hm⟩:∃m:Nat,lk.length=m+1:=⟨lk.length-1,by omega⟩
    have hll1:I.wrap ((lk.length:Int)-1)=(m:Int):=(by rw[w63 _ (by omega) (by omega)];omega);have pX:(m:Int)<(lk.length:Int):=(by omega);have HLM:J _:=hm;have hmc:(m:Int)<=(cap:Int):=(by omega);obtain⟨x,hx⟩:∃x:Hd,lk[j]=x:=⟨_,rfl⟩
    obtain⟨y,hy⟩:∃y:Hd,lk[m]=y:=⟨_,rfl⟩
    have HA:J (∀V,M D wr V->ZV V g (j*3) x/\ZV V g (m*3) y):=by
     intro V hV
     rcases kY.at.tch0 hV with⟨e,_⟩|⟨g',o,c',e,hg,hc⟩
     ·cases e
     ·cases e
      have h1:=hc j hj;have h2:=hc m (by omega);rw[lJ]at h1 h2;rw[hx]at h1;rw[hy]at h2;exact⟨h1,h2⟩
    rw[hx]at HN;have bK:J (lk[j]? =Z x/\lk[m]? =Z y):=⟨by rw[Qd hj,hx],by rw[Qd (by omega),hy]⟩
    clear hx hy hm;obtain⟨⟨xk⟩,xa,xo⟩:=x;have yG:J _:=(Jb HR)
    have tJ:J (os.length+1<=1000000000):=(by show os.length+1<=_;rw[mp.o];omega);go_upto_region 11 with(first|(go_at_call 105;refine(js _).mono ?_;rintro _ w1⟨rfl,(H5:J _)⟩)|(go_at_call 263;refine(HF _ H5).mono ?_;rintro _ w2⟨rfl,Ha⟩;have H6:J _:=H5.trans Ha noE;have cx:=(HA w2 H6).1;obtain⟨cx0,cx1,cx2⟩:=cx;clear Ha)|(at_builtin;refine Jcu rfl _ _ rfl rfl (vD.tch (H6.trans (Ta D w2 _) (λ_ h=>aM h)) (λ_ _ h=>h)) _ _ [(xa,xo)] rfl (JjW w2 (xa,xo)) tJ (Qm yG (Qm H6.size (Ta D w2 _).size)) ?_;intro v3 w3 kv (zj:J _);have fF:J (OOwn _ w3 v3 _):=kv;clear kv));have T23:J _:=((H6.trans (Ta D w2 _) (λ_ h=>aM h)).mono noE).trans (Tg zj) (λ_ h=>aM h);have jI:J (ROwn (w.heap.size+1) w3 (R (Z ⟨g,0,Y⟩) lk.length cap) lk):=kY.tch T23 (λj hj e=>Jeq kY vD j hj e.symm);have Hb:J _:=HT.trans T23 (λj hj=>aN (by have:=(vD.own j hj.symm).1;omega));have kw:J _:=(T23.block _ yG (λe=>by have:=(vD.own _ e.symm).1;omega)).trans HR.o;have HAP3:J (v3.ownBlock ≠ Z g):=Jeq jI fF g rfl;have HCY:J (ZV w3 g (m*3) y):=by
     rcases jI.at with⟨e,_⟩|⟨g',o,c',e,hg,hc⟩
     ·cases e
     ·cases e
      have h2:=hc m (by have:=HLM.o;omega);have h3:=bK.o.2;rw[Qd (by have:=HLM.o;omega),Qh]at h3;rw[lJ,h3]at h2;exact h2
    obtain⟨cy0,cy1,cy2⟩:=HCY.o;have HJ:J _:=hj;clear HT HR kY HF js T23 zj H5 H6 vD HA q0 q1 d0 cx0 cx1 cx2;go_wp2_with (first|(refine Jdp rfl _ _ rfl jI j HJ y rfl rfl ?_;intro w4 nZ Hu;have HOW4:J (ROwn _ w4 _ _):=nZ;have Hm:J (M _ w3 w4):=Hu;clear nZ Hu));have HBG:J (w.heap.size+1<=g):=(jI.own g rfl).1;go_roundw
    case rel=>
     refine⟨k+1,Jcn lk j y,sk1,os++[(xa,xo)],by omega,by go_num,(by simp[mp.o]:(os++[(xa,xo)]).length=k+1),?_,fF.tch Hm (λi hi e=>HAP3 (by rw[hi,e])),?_,HN,?_,?_,?_⟩
     ·have:=HOW4.o.take m (by omega);unfold Jcn;rw[List.dropLast_eq_take,lW,HLM.o];exact this
     ·have h3:=bK.o.2;refine kf.perm (JgA lk j HJ y ?_).symm;rw[List.getLast?_eq_getElem?,HLM.o];exact h3
     ·unfold Jcn;rw[List.length_dropLast,lW];omega
     ·exact Hb.trans Hm (λi hi=>aN (by have:=HBG.o;subst hi;omega))
     ·exact(Hm.block _ (Jb kw) (λe=>by have:=HBG.o;omega)).trans kw.o
    case measure=>simp[intOf];omega
  ·have bJ:J (k=t.1.length):=(by omega:k=t.1.length)
   have jA:¬(k:Int)<(t.1.length:Int):=(by omega);have rh:J (Xd t.1 st=.ok (sk,os)):=(by show Xd t.1 st=_;rw[HS.o,bJ.o,List.drop_length];simp[Xd,Jch]);have n4:J (∀W,M D wr W->_):=λW hW=>JhN wj hw B _ _ t HK W ((H1.tch HT noE).tch hW noE) ((H2.tch HT noE).tch hW noE);have pY:J _:=JeK wj hw t HK.o;obtain⟨-,d1⟩:=rows HR.o;generalize hX:txB t=aX at *;have HXX:J _:=hX;clear hX HS;have jL:=JO [84] aX (by have:=pY.o;simp;omega);have sA:∀W,(Op.stringOp .add (⟨#[84]⟩:BA) ⟨aX.toArray⟩).run N W=.ok (L ⟨(84::aX).toArray⟩) W:=jL;have jR:J (∀W,aB N 103 #[O I (wj:Int),L ⟨(84::aX).toArray⟩] W λe w'=>e=aC (L (H3 wj (84::aX)))/\M D W w'):=λW=>HD wj ⟨(84::aX).toArray⟩ W Hn hw (by rw[Ji];have:=pY.o;simp;omega);clear jL;obtain⟨S,hS⟩:∃S:BA,S=⟨(84::aX).toArray⟩:=⟨_,rfl⟩
   rw[<-hS]at sA jR;obtain⟨id,(yT:J _)⟩:∃id,H3 wj (84::aX)=id:=⟨_,rfl⟩
   have pZ:J (id.size=wj):=(by rw[<-yT];exact Jk wj hw _:id.size=wj)
   rw[yT]at jR;clear hS;obtain⟨vb,vd,xB⟩:=vD.shape;rw[mp.o]at xB;subst xB;have qR:J (∀W,M D wr W->_):=λW hW=>(hW.block _ (Jb HR) (λh=>h)).trans HR.o;go_upto_region 14 with(first|(go_at_call 327;refine(n4 _ (Te _ _)).mono ?_;rintro _ w1⟨rfl,(H5:J _)⟩)|(go_at_call 103;refine(jR _).mono ?_;rintro _ wA⟨rfl,Ha⟩;have H6:J _:=H5.trans Ha noE;clear Ha));have kI:J _:=HT.trans H6 noE;have HRA:J _:=qR wA H6.o;have fH:J _:=kY.tch H6 (λ_ _ h=>h);have fI:J _:=vD.tch H6 (λ_ _ h=>h);clear n4 jR sA pY HT H6 HR qR H5 kY vD d0 d1 jA;go_wp2;go_loopw [8,13] (λvn i wr=>∃(q:Nat)(lj:List Hd)(sj:Option Tr),q<=t.2.length/\i=O I q/\J (ROwn (w.heap.size+1) wr vn lj)/\J (OOwn (w.heap.size+1) wr (R vb k vd) os)/\J (Book wj sj lj)/\J (JA id 0 t.2 sk=JA id q (t.2.drop q) sj)/\lj.length<=lk.length+q/\J (M D w wr)/\J (wr.heap[w.heap.size]? =Z (T #[R a1 t.1.length c1,R a2 t.2.length c2] 98))) (λ_ i _=>t.2.length-(intOf i).toNat)
   case atStart=>exact⟨0,lk,sk,by omega,rfl,fH,fI,pV,rfl,by omega,kI,HRA⟩
   case round=>
    clear fH kI HRA fI pV;obtain⟨q,lj,sj,hq,rfl,kY,vD,HBJ,xW,hlj,HT,HR⟩:=hrel;obtain⟨-,d1⟩:=rows HR.o
    by_cases H7:q<t.2.length
    ·rcases H2 with⟨e,e2⟩|⟨gi,oi,cc,e,_,kp,Ho⟩
     ·rw[e2]at H7;simp at H7
     simp only[Qy,true_and]at e;obtain⟨rfl,rfl⟩:=e;obtain⟨f0,f1⟩:=Ho q H7;have yg:J _:=lU H7;have p5:=HK.o.outs _ (Qx H7);have kj:(q:Int)<(t.2.length:Int):=(by omega);have q9:Jj wj (id,(q:Int)):=⟨pZ,by omega,by show (q:Int)<3;omega⟩
     have js:J (∀V,aB N 105 #[aH #[L id,O I (q:Int)]] V λe w'=>e=aC (L (keyS (id,(q:Int))))/\M D V w'):=λV=>Zb (id,(q:Int)) V q9.2.1 (by have:=q9.2.2;omega) (by rw[q9.1];omega);have HF:J (∀V,M D wr V->_):=λV hV=>Jj2 wj u8 lj (id,(q:Int)) V (kY.at.tch0 hV) (by omega) (λx hx=>(HBJ.ok x hx).1) q9;have n5:=HBJ.o.with q9 p5;have n6:J (∀V,M D wr V->V.cell? ⟨w.heap.size,1,Y⟩=Z (R (Z ⟨gi,oi,Y⟩) t.2.length c2)/\V.cell? ⟨gi,oi+q*2,Y⟩=Z (O aD ((t.2[q].1:Nat):Int))/\V.cell? ⟨gi,oi+q*2+1,Y⟩=Z (O aE ((t.2[q].2:Nat):Int))):=λV hV=>by
      have hVw:=HT.trans hV noE;exact⟨Ja ((hV.block _ (Jb HR) (λh=>h)).trans HR),(hVw.cell (p:=⟨gi,oi+q*2,Y⟩) kp (λh=>h)).trans f0,(hVw.cell (p:=⟨gi,oi+q*2+1,Y⟩) kp (λh=>h)).trans f1⟩
     clear Ho f0 f1 p5 q9;obtain⟨⟨oa,oo⟩,ho⟩:∃o,t.2[q]=o:=⟨_,rfl⟩
     rw[ho]at n6 n5 yg;clear ho
     cases hf:XX lj (id,(q:Int)) with
     | some j=>
      rw[hf]at n5;simp only at n5;have HZ:J (Yy lj (id,(q:Int))=(j:Int)):=(by show Yy _ _=_;unfold Yy;rw[hf]);have HN:J (JI (H3 wj) st t=.error .exist):=by show JI _ _ _=_;unfold JI;rw[rh.o,HXX.o,yT.o];simp only[xW.o,yg.o,JA,n5]
      have hj0:(0:Int)<=(j:Int):=(by omega);clear n5 hf yg xW;obtain⟨va,vc,rfl⟩:=kY.shape;rw[HZ.o]at HF;generalize keyS (id,(q:Int))=ks at *;go_wp2_with (first|(go_at_call 105;refine(js _).mono ?_;rintro _ w1⟨rfl,(H5:J _)⟩)|(go_at_call 263;refine(HF _ H5).mono ?_;rintro _ w2⟨rfl,Ha⟩;have H6:J _:=H5.trans Ha noE;clear Ha));go_ret2;refine⟨HT.trans H6 noE,?_⟩;rw[HN.o];rfl
     | none=>
      rw[hf]at n5;simp only at n5;obtain⟨sj1,hwi,(kf:J _)⟩:=n5;have HZ:J (Yy lj (id,(q:Int))= -1):=(by show Yy _ _=_;unfold Yy;rw[hf]);have HN:J (JA id 0 t.2 sk=JA id (q+1) (t.2.drop (q+1)) sj1):=by show JA _ _ _ _=_;rw[xW.o,yg.o];simp only[JA,hwi]
      clear hwi hf yg xW;obtain⟨va,vc,xm⟩:=kY.shape;subst xm;rw[HZ.o]at HF;have yG:J _:=(Jb HR)
      have xJ:J (lj.length+1<=1000000000):=(by omega:lj.length+1<=1000000000)
      have mr:J (∀W:aA,_):=λW=>Ji8 W ((id,(q:Int)),(oa,oo));generalize keyS (id,(q:Int))=ks at *;go_wp2_with (first|(go_at_call 105;refine(js _).mono ?_;rintro _ w1⟨rfl,(H5:J _)⟩)|(go_at_call 263;refine(HF _ H5).mono ?_;rintro _ w2⟨rfl,Ha⟩;have H6:J _:=H5.trans Ha noE;obtain⟨y0,y1,y2⟩:=n6 w2 H6.o;clear Ha)|(at_builtin;refine Zg rfl _ _ rfl rfl (kY.tch (H6.trans (Ta D w2 _) (λ_ h=>aM h)) (λ_ _ h=>h)) _ [((id,(q:Int)),(oa,oo))] rfl (mr w2) xJ (Qm yG (Qm H6.size (Ta D w2 _).size)) ?_;intro v3 w3 (jI:J _) (zj:J _)));go_roundw
      case rel=>have T23:=((H6.trans (Ta D w2 _) (λ_ h=>aM h)).mono noE).trans (Tg zj) (λ_ h=>aM h);refine⟨q+1,lj++[((id,(q:Int)),(oa,oo))],sj1,by omega,by go_num,jI,vD.tch T23 (λi hi e=>Jeq kY vD i e.symm hi),kf,HN,by simp;omega,HT.trans T23 (λj hj=>aN (by have:=(kY.own j hj.symm).1;omega)),(T23.block _ yG (λe=>by have:=(kY.own _ e.symm).1;omega)).trans HR⟩
      case measure=>simp[intOf];omega
    ·have HQ:J (q=t.2.length):=(by omega:q=t.2.length)
     have jA:¬(q:Int)<(t.2.length:Int):=(by omega);have jy:J (JA id 0 t.2 sk=.ok sj):=(by show JA _ _ _ _=_;rw[xW.o,HQ.o,List.drop_length];rfl);have ms:J (JI (H3 wj) st t=haveI:=JdD os t.2;if Xo os t.2 then .error .sum else .ok sj):=(by show JI _ _ _=_;unfold JI;rw[rh.o,HXX.o,yT.o];simp only[jy.o]);have bL:J (∀V,M D wr V->_):=λV hV=>Jm8 _ _ os V (vD.tch hV (λ_ _ h=>h)).at.raw (by rw[mp.o];omega);have vj:J (∀V,M D wr V->_):=λV hV=>Jm8 _ _ t.2 V (H2.tch (HT.trans hV noE) noE) (by omega);have HAI:J (∀V,M D wr V->_):=λV hV=>JjZ _ _ os V (vD.tch hV (λ_ _ h=>h)).at.raw (by rw[mp.o];omega);have xq:J (∀V,M D wr V->_):=λV hV=>JjZ _ _ t.2 V (H2.tch (HT.trans hV noE) noE) (by omega);have n6:J (∀V,M D wr V->V.cell? ⟨w.heap.size,1,Y⟩=Z (R a2 t.2.length c2)):=λV hV=>Ja ((hV.block _ (Jb HR) (λh=>h)).trans HR);obtain⟨va,vc,xm⟩:=kY.shape;subst xm;have HBS:J (Xo os t.2↔(18446744073709551616<=Jt os os.length\/18446744073709551616<=Jt t.2 t.2.length\/Jt os os.length<Jt t.2 t.2.length)):=Iff.rfl;have jB:J (∀V,M D wr V->¬Xo os t.2->RAp wj st l t w (aC (aI #[R va lj.length vc,O I 0])) V):=λV hV hb=>by
      refine⟨HT.trans hV noE,?_⟩;rw[ms.o,if_neg hb];have h5:=kY.o.tch hV (λ_ _ h=>h);refine⟨_,lj,rfl,?_,HBJ,by omega⟩;obtain⟨p1,p2|⟨g,cap,cur,p2,p3,p4⟩⟩:=h5
      ·exact⟨p1,aM p2⟩
      ·exact⟨p1,aN ⟨g,cap,cur,p2,by omega,p4⟩⟩
     have mt:J (∀V,M D wr V->Xo os t.2->RAp wj st l t w (aC (aI #[R Y 0 0,O I 5])) V):=λV hV hb=>by
      refine⟨HT.trans hV noE,?_⟩;rw[ms.o,if_pos hb];rfl
     clear ms jy xW;generalize Jt os os.length=S1 at *;generalize Jt t.2 t.2.length=S2 at *
     by_cases b1:18446744073709551616<=S1
     ·rw[decide_eq_true b1]at bL;have HB:J _:=HBS.2 (aM b1);go_wp2_with (first|(go_at_call 328;refine(bL _ (Te _ _)).mono ?_;rintro _ w1⟨rfl,(H5:J _)⟩));go_ret2;exact mt _ H5 HB.o
     ·rw[decide_eq_false b1]at bL
      by_cases b2:18446744073709551616<=S2
      ·rw[decide_eq_true b2]at vj;have HB:J _:=HBS.2 (aN (aM b2));go_wp2_with (first|(go_at_call_of 328 (l8 vb k vd);refine(bL _ (Te _ _)).mono ?_;rintro _ w1⟨rfl,(H5:J _)⟩;have y1:=n6 w1 H5)|(go_at_call 328;refine(vj _ H5).mono ?_;rintro _ w2⟨rfl,Ha⟩;have H6:J _:=H5.trans Ha noE;clear Ha));go_ret2;exact mt _ H6 HB.o
      ·rw[decide_eq_false b2]at vj;rw[Nat.mod_eq_of_lt (by omega)]at HAI xq
       by_cases b3:S1<S2
       ·have b3i:(S1:Int)<(S2:Int):=(by omega);have HB:J _:=HBS.2 (aN (aN b3));go_wp2_with (first|(go_at_call_of 328 (l8 vb k vd);refine(bL _ (Te _ _)).mono ?_;rintro _ w1⟨rfl,(H5:J _)⟩;have y1:=n6 w1 H5)|(go_at_call 328;refine(vj _ H5).mono ?_;rintro _ w2⟨rfl,Ha⟩;have H6:J _:=H5.trans Ha noE;have y2:=n6 w2 H6.o;clear Ha)|(go_at_call_of 329 (l8 vb k vd);refine(HAI _ Hb).mono ?_;rintro _ w4⟨rfl,Hu⟩;have Hm:J _:=Hb.trans Hu noE;clear Hu)|(go_at_call 329;refine(xq _ H6).mono ?_;rintro _ w3⟨rfl,Hs⟩;have Hb:J _:=H6.trans Hs noE;clear Hs));go_ret2;exact mt _ Hm HB.o
       ·have b3i:¬(S1:Int)<(S2:Int):=(by omega);have HB:J (¬Xo os t.2):=λh=>by rcases HBS.1 h with h|h|h<;>omega
        go_wp2_with (first|(go_at_call_of 328 (l8 vb k vd);refine(bL _ (Te _ _)).mono ?_;rintro _ w1⟨rfl,(H5:J _)⟩;have y1:=n6 w1 H5)|(go_at_call 328;refine(vj _ H5).mono ?_;rintro _ w2⟨rfl,Ha⟩;have H6:J _:=H5.trans Ha noE;have y2:=n6 w2 H6.o;clear Ha)|(go_at_call_of 329 (l8 vb k vd);refine(HAI _ Hb).mono ?_;rintro _ w4⟨rfl,Hu⟩;have Hm:J _:=Hb.trans Hu noE;clear Hu)|(go_at_call 329;refine(xq _ H6).mono ?_;rintro _ w3⟨rfl,Hs⟩;have Hb:J _:=H6.trans Hs noE;clear Hs));go_ret2;exact jB _ Hm HB.o

theorem Ji0(hD:DgC)(wj:Nat)(Hn:1<=wj)(hw:wj<=32):∀(n:Nat)(l:List Hd)(w:aA)(v:aG),l.length<=n->(∀h∈l,Jj wj h.1/\Jy h.2)->(l.map (·.1)).Nodup->RhAt w v l->l.length<=900000000->
  aB N 106 #[O I (wj:Int),v] w λe w'=>∃s:List UInt8,e=aC (L ⟨s.toArray⟩)/\Root (H3 wj) (koR l) s/\M D w w':=by
 intro n
 induction n with
 | zero=>
  intro l w v hl Hg j9 hv Hq;obtain rfl:l=[]:=QP (by omega);obtain⟨a,c,kG⟩:=hv.shape;have kG:=kG;subst kG;go_enter func106,ntmps106;go_wp2;go_ret;exact⟨[69],rfl,.none,Te _ _⟩
 | succ n ih=>
  intro l w v hl Hg j9 hv Hq
  match l,hl,Hg,j9,hv,Hq with
  | [],hl,Hg,j9,hv,Hq=>
   obtain⟨a,c,kG⟩:=hv.shape;have kG:=kG;subst kG;go_enter func106,ntmps106;go_wp2;go_ret;exact⟨[69],rfl,.none,Te _ _⟩
  | [x],hl,Hg,j9,hv,Hq=>
   rcases hv with⟨_,e⟩|⟨g,o,c,kG,⟨hg,_⟩,Ho⟩
   ·cases e
   have kG:=kG;subst kG;obtain⟨f0,f1,f2⟩:=Ho 0 (by simp);simp only[Nat.zero_mul,lD,List.getElem_cons_zero]at f0 f1 f2;obtain⟨k1,k2⟩:=Hg x (by simp);have fJ:J (∀V,_):=λV=>JiZ x V k2.2 (by rw[Xg k1];omega);have HR:J (Root (H3 wj) (koR [x]) (76::(Jc x.1++outB x.2))):=Root.one _ _;generalize 76::(Jc x.1++outB x.2)=aX at *;generalize keyS x.1=kx at *;go_enter func106,ntmps106;go_wp2_with (go_at_call 165;refine(fJ _).mono ?_;rintro _ w1⟨rfl,(H5:J _)⟩);go_ret;exact⟨aX,rfl,HR,H5⟩
  | h0::x::r,hl,Hg,j9,hv,Hq=>
   obtain⟨b,hb,kt,yz⟩:=Jc2 h0 x r (λh hh=>(Hg h hh).1) j9;obtain⟨s1,s2⟩:=Jo1 h0 (x::r) b kt;obtain⟨a,c,kG⟩:=hv.shape;have hls:(h0::x::r).length=r.length+2:=rfl;rw[hls]at kG hl Hq s1 s2;subst kG;have HF:J (∀V,M D w V->_):=λV hV=>Jm6 wj b hw _ h0 (x::r) V (hv.tch0 hV) (λh hh=>(Hg h hh).1) (by simp;omega) hb kt yz;have uO:J (∀V (u:Nat),M D w V->_):=λV u hV=>Jnb wj b u hw _ (h0::x::r) V (hv.tch0 hV) (λh hh=>(Hg h hh).1) (by rw[hls];omega) hb;have HSD0:=λV hV=>uO V 0 hV;have HSD1:=λV hV=>uO V 1 hV;have p6:J _:=HSD0;have gF:J _:=HSD1;have bM:J (∀(u:Nat)(V:aA)(v:aG),(sidL (h0::x::r) b u).length<r.length+2->RhAt V v (sidL (h0::x::r) b u)->aB N 106 #[O I (wj:Int),v] V λe w'=>∃S:BA,e=aC (L S)/\(Root (H3 wj) (koR (sidL (h0::x::r) b u)) S.data.toList/\S.size<=1000)/\M D V w'):=λu V v H7 hv=>(ih (sidL (h0::x::r) b u) V v (by omega) (Jdw _ b u Hg) (JbM _ b u j9) hv (by omega)).mono (by
    rintro e w'⟨s,he,hr,ht⟩;exact⟨⟨s.toArray⟩,he,⟨hr,by rw[Ji];exact hr.rlen hw (λh hh=>(Jdw _ b u Hg h hh).1)⟩,ht⟩)
   have jR:J (∀(S:BA)(V:aA),S.size<=1000->aB N 103 #[O I (wj:Int),L S] V λe w'=>∃aV,e=aC (L aV)/\aV=H3 wj S.data.toList/\M D V w'):=λS V hs=>(hD wj S V Hn hw (by omega)).mono (by rintro _ _⟨rfl,h⟩;exact⟨_,rfl,rfl,h⟩);have HFT:J (∀(p q:BA)(V:aA),p.size=wj->q.size=wj->aB N 168 #[O I (b:Int),L p,L q] V λe w'=>e=aC (L ⟨(78::(Hf b 2 2++(p.data.toList++q.data.toList))).toArray⟩)/\M D V w'):=λp q V hp hq=>by
    have vF:p.data.toList.length=wj:=(by rw[QA];exact hp);have hq':q.data.toList.length=wj:=(by rw[QA];exact hq);have:=Jeb b p.data.toList q.data.toList V (by omega) (by omega) (by omega);simpa using this
   have jB:J (∀s t:List UInt8,Root (H3 wj) (koR (sidL (h0::x::r) b 0)) s->Root (H3 wj) (koR (sidL (h0::x::r) b 1)) t->_):=λs t hs ht=>Jle h0 (x::r) b kt yz hs ht;have hlen':r.length<=900000000:=(by omega);have HL:J ((sidL (h0::x::r) b 0).length<r.length+2/\(sidL (h0::x::r) b 1).length<r.length+2):=⟨s1,s2⟩
   have n0:¬((r.length+2:Nat):Int)=0:=(by omega);have n1:¬((r.length+2:Nat):Int)=1:=(by omega);go_enter func106,ntmps106;go_wp2_with (first
    | (go_at_call 166;refine(HF _ (Te _ _)).mono ?_;rintro _ w1⟨rfl,(H5:J _)⟩)
    | (go_at_call_of 167 (lf I 0);refine(p6 _ H5).mono ?_;rintro _ w2⟨va,rfl,hoa,Ha⟩;have H6:J _:=H5.trans Ha (λ_ h=>aM h);have HRA:J _:=hoa.at)
    | (go_at_call_of 167 (lf I 1);refine(gF _ Hb).mono ?_;rintro _ w4⟨vb,rfl,hob,Hu⟩;have Hm:J _:=Hb.trans Hu (λ_ h=>aM h);have rj:J _:=hob.at)
    | (go_at_call_of 106 va;refine(bM 0 _ va HL.1 HRA).mono ?_;rintro _ w3⟨p,rfl,(HP:J _),Hs⟩;have Hb:J _:=H6.trans Hs (λ_ h=>aM h))
    | (go_at_call_of 106 vb;refine(bM 1 _ vb HL.2 rj).mono ?_;rintro _ w5⟨q,rfl,(HQ:J _),kR⟩;have kD:J _:=Hm.trans kR (λ_ h=>aM h))
    | (go_at_call_of 103 (lP p);refine(jR p _ HP.2).mono ?_;rintro _ w6⟨dp,rfl,(yg:J _),jN⟩;have kz:J _:=kD.trans jN (λ_ h=>aM h))
    | (go_at_call_of 103 (lP q);refine(jR q _ HQ.2).mono ?_;rintro _ w7⟨dq,rfl,(HDQ:J _),gJ⟩;have gx:J _:=kz.trans gJ (λ_ h=>aM h))
    | (go_at_call 168;refine(HFT _ _ _ (by rw[yg.o];exact Jk wj hw _) (by rw[HDQ.o];exact Jk wj hw _)).mono ?_;rintro _ w8⟨rfl,jt⟩;have gW:J _:=gx.trans jt (λ_ h=>aM h)))
   go_ret;exact⟨_,rfl,by have:=jB _ _ HP.1 HQ.1;rw[<-yg.o,<-HDQ.o]at this;exact this,gW⟩

abbrev Lv:=(BA×BA×BA)×Sl
def lvC(x:Lv):List aG:=[L x.1.1,L x.1.2.1,L x.1.2.2,R x.2.1 x.2.2.1 x.2.2.2]
def lvA(l:List Lv):List aG:=l.flatMap lvC
theorem JoH(l:List Lv):∀u∈lvA l,u.oneCell'=true:=by
 intro u hu;simp only[lvA,lS,lvC]at hu;obtain⟨x,_,hu⟩:=hu;simp only[lO,QD,or_false]at hu
 rcases hu with rfl|rfl|rfl|rfl<;>rfl
theorem JiR(l l':List Lv):lvA (l++l')=lvA l++lvA l':=by simp[lvA]
theorem JoG(l:List Lv):∀(i:Nat)(h:i<l.length),(lvA l)[i*4]? =Z (L l[i].1.1)/\(lvA l)[i*4+1]? =Z (L l[i].1.2.1)/\(lvA l)[i*4+2]? =Z (L l[i].1.2.2)/\(lvA l)[i*4+3]? =Z (R l[i].2.1 l[i].2.2.1 l[i].2.2.2):=by
 induction l with
 | nil=>intro i h;simp at h
 | cons x r ih=>
  intro i h
  cases i with
  | zero=>simp[lvA,lvC]
  | succ i=>
   have e:∀j,(lvA (x::r))[(i+1)*4+j]? =(lvA r)[i*4+j]? :=by
    intro j;show (lvC x++lvA r)[(i+1)*4+j]? =_;rw[Qz (by simp[lvC];omega)]
    congr 1;simp[lvC];omega
   refine⟨?_,?_,?_,?_⟩
   ·have:=e 0;rw[lD,lD]at this;rw[this];simpa using (ih i (by simpa using h)).1
   ·rw[e 1];simpa using (ih i (by simpa using h)).2.1
   ·rw[e 2];simpa using (ih i (by simpa using h)).2.2.1
   ·rw[e 3];simpa using (ih i (by simpa using h)).2.2.2
def JlE(w:aA)(g k:Nat)(x:Lv):Prop:=w.cell? ⟨g,k,Y⟩=Z (L x.1.1)/\w.cell? ⟨g,k+1,Y⟩=Z (L x.1.2.1)/\w.cell? ⟨g,k+2,Y⟩=Z (L x.1.2.2)/\w.cell? ⟨g,k+3,Y⟩=Z (R x.2.1 x.2.2.1 x.2.2.2)
def Zs(base:Nat)(w:aA)(v:aG)(l:List Lv):Prop:=w.ownsRow base 205 4 v l.length (lvA l)
theorem Zs.own{l:List Lv}(h:Zs base w v l):∀k,v.ownBlock=Z k->base<=k/\k<w.heap.size:=by
 obtain⟨_,⟨rfl,h0⟩|⟨g,cap,cur,rfl,hb,hZ,_⟩⟩:=h
 ·intro k hk;cases hk
 ·intro k hk;cases hk;exact⟨hb,(Jb hZ)⟩
theorem Zs.tch{l:List Lv}(h:Zs base w v l)(k:M S w w')(hs:∀j,v.ownBlock=Z j->¬S j):Zs base w' v l:=by
 obtain⟨h1,⟨rfl,h0⟩|⟨g,cap,cur,rfl,hb,hZ,h2⟩⟩:=h
 ·exact⟨h1,aM ⟨rfl,h0⟩⟩
 ·exact⟨h1,aN ⟨g,cap,cur,rfl,hb,(k.block g (Jb hZ) (hs g rfl)).trans hZ,h2⟩⟩
theorem Zs.at{l:List Lv}(h:Zs base w v l)(hl:l ≠ []):∃g cap,v=R (Z ⟨g,0,Y⟩) l.length cap/\g<w.heap.size/\∀i (hi:i<l.length),JlE w g (i*4) l[i]:=by
 obtain⟨_,⟨rfl,h0⟩|⟨g,cap,cur,rfl,_,hZ,_,_,Hp,kU⟩⟩:=h
 ·exact absurd (QP h0) hl
 ·refine⟨g,cap,rfl,(Jb hZ),λi hi=>?_⟩;obtain⟨e0,e1,e2,e3⟩:=JoG l i hi;have hc:∀j u,(lvA l)[j]? =Z u->w.cell? ⟨g,j,Y⟩=Z u:=by
   intro j u hu;rw[<-kU]at hu;have hj:=(Qo.1 hu).1;rw[lF (by rw[QB]at hj;omega)]at hu;rw[Ja hZ,<-lI];exact hu
  exact⟨hc _ _ e0,hc _ _ e1,hc _ _ e2,hc _ _ e3⟩
theorem Jol:(prog.info? 205).map (λi=>(i.zero,i.size,i.bytes))=Z (Z (aH #[L ⟨#[]⟩,L ⟨#[]⟩,L ⟨#[]⟩,R Y 0 0]),4,72):=by kernel_rfl
theorem Jet{l:List Lv}(h:Zs base w v l)(k:Nat)(x:Lv)(hx:JlE w k 0 x)(ty:TypeId)(hb:l.length<=1000000000)(He:base<=w.heap.size):
  ∃v' w',(lV #[206,206] ty #[v,R (Z ⟨k,0,Y⟩) 1 1]).run N w=.ok v' w'/\Zs base w' v' (l++[x])/\w.grownBy w' v.ownBlock/\(v'.ownBlock=v.ownBlock\/v'.ownBlock=Z w.heap.size):=by
 obtain⟨i,hi,hp⟩:=lE.1 Jol;simp only[Qw]at hp;obtain⟨hz,Hp,gy⟩:=hp;obtain⟨v',w',hr,h2,h3,_,h4⟩:=run_append_own_at (P:=N) w base 206 ty 205 i _ 4 72 underlying206 hi hz Hp gy rfl (by omega) v l.length (lvA l) h ⟨k,0,Y⟩ 1 1 (lvA [x]) rfl (λj u hu=>by
  rw[Addr.add_lit,lJ];obtain⟨c0,c1,c2,c3⟩:=hx
  match j with
  | 0=>simp only[lvA,lvC,QG,lH,QC,lC,Qh]at hu;rw[<-hu];exact c0
  | 1=>simp only[lvA,lvC,QG,lH,QC,lC,lX,Qh]at hu;rw[<-hu];exact c1
  | 2=>simp only[lvA,lvC,QG,lH,QC,lC,lX,Qh]at hu;rw[<-hu];exact c2
  | 3=>simp only[lvA,lvC,QG,lH,QC,lC,lX,Qh]at hu;rw[<-hu];exact c3
  | j+4=>simp[lvA,lvC]at hu) (JoH _) (by simp only[maxLen];omega) (by omega) He
 exact⟨v',w',hr,by unfold Zs;rw[Qe,JiR];exact h2,h3,h4⟩
def lvH(i:Nat)(x:Lv):HdL:=(i,x.1.1,x.1.2.1,x.1.2.2)
structure RfAt(wj base:Nat)(w:aA)(rb:Nat)(G:Nat->Prop)(ch:Ch)(vL:aG)(lv:List Lv)(by':BA):Prop where
 row:w.heap[rb]? =Z (T #[O I (wj:Int),vL,O I 0,L by'] 208)
 lvs:Zs base w vL lv
 rbG:G rb
 vG:∀j,vL.ownBlock=Z j->G j
 cG:∀x∈lv,∀j,(l8 x.2.1 x.2.2.1 x.2.2.2).ownBlock=Z j->G j
 own:∀j,G j->base<=j/\j<w.heap.size
 len:lv.length=ch.length/\1<=ch.length
 hdr:∀(i:Nat) x c,lv[i]? =Z x->ch[i]? =Z c->HdOk wj (lvH i x)/\c.1=⟨(Ht (lvH i x)).toArray⟩
 coins:∀(i:Nat) x c,lv[i]? =Z x->ch[i]? =Z c->∃l:List Hd,RhAt w (R x.2.1 x.2.2.1 x.2.2.2) l/\Book wj c.2 l/\l.length<=9*(i+1)
 log:by'.size<=1000*ch.length
theorem RfAt.tch{rb:Nat}{G:Nat->Prop}{vL:aG}{lv:List Lv}(h:RfAt wj base w rb G ch vL lv b)(k:M S w w')(hs:∀j,S j->¬G j):RfAt wj base w' rb G ch vL lv b:=
 ⟨(k.block _ (Jb h.row) (λe=>hs _ e h.rbG)).trans h.row,h.lvs.tch k (λj hj e=>hs j e (h.vG j hj)),h.rbG,h.vG,h.cG,λj hj=>⟨(h.own j hj).1,Qk (h.own j hj).2 k.size⟩,h.len,h.hdr,λi x c h1 h2=>by
  obtain⟨l,p1,p2,p3⟩:=h.coins i x c h1 h2;exact⟨l,p1.tch k (λj hj e=>hs j e (h.cG x (QT h1) j hj)),p2,p3⟩,h.log⟩
