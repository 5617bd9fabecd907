import Derived.Test.YtighkdnooglfjaaGreatDoorLcRgC
namespace Go.Proofs.YtighkdnooglfjaaGreatDoor
open Tryz
set_option maxRecDepth 100000
set_option maxHeartbeats 2000000
open Go.RowKit

variable {n₀ wj xb:Nat}{E:Nat->Addr}{V W:World}
def XAt(wj xb:Nat)(V:World):Prop:=∃a b c,V.heap[xb]? =some (.cells #[a,.int .i64 (wj:Int),b,c] 35)
theorem XAt.cell(h:XAt wj xb V):V.cell? ⟨xb,1,none⟩=some (.int .i64 (wj:Int)):=by
 obtain⟨a,b,c,h⟩:=h;exact Ja h
theorem XAt.tch{V':World}{S:Nat->Prop}(h:XAt wj xb V)(k:Tch S V V')(hs:¬S xb):XAt wj xb V':=by
 obtain⟨a,b,c,h⟩:=h;exact⟨a,b,c,(k.block xb (Jb h) hs).trans h⟩
structure Jbp(n₀ sb:Nat)(W:World)(v0 v1:Value)(l0 l1:List Held):Prop where
 row:W.heap[sb]? =some (.cells #[v0,v1] 124)
 own0:HOwn n₀ W v0 l0
 own1:HOwn n₀ W v1 l1
 nil0:l0=[]->v0=.slice none 0 0
 nil1:l1=[]->v1=.slice none 0 0
theorem HOwn.first{v:Value}{l:List Held}(h:HOwn n₀ W v l)(hn:l=[]->v=.slice none 0 0){j:Nat}(e:v.ownBlock=some j):∃x∈l,W.cell? ⟨j,0,none⟩=some (.string x.1.1)/\W.cell? ⟨j,1,none⟩=some (.int .i64 x.1.2):=by
 have hl:l ≠ []:=λh0=>by rw[hn h0]at e;cases e
 have hat:=h.at;obtain⟨_,⟨rfl,h0⟩|⟨g,cap,cur,rfl,hb,hrow,_⟩⟩:=h
 ·cases e
 ·have hg:g=j:=by cases e;rfl
  subst hg
  rcases hat with⟨h1,_⟩|⟨g',o',c',h1,_,hc⟩
  ·cases h1
  ·simp only[Qy,Qh,Addr.mk.injEq]at h1;obtain⟨⟨rfl,rfl,_⟩,_⟩:=h1;have hp:=List.length_pos_iff.2 hl;have:=hc 0 hp;simp only[Nat.zero_mul,Nat.zero_add,Nat.add_zero]at this;exact⟨l[0],Qx hp,this.1,this.2.1⟩
theorem JdB{v0 v1:Value}{l0 l1:List Held}(h0:HOwn n₀ W v0 l0)(h1:HOwn n₀ W v1 l1)(n0:l0=[]->v0=.slice none 0 0)(n1:l1=[]->v1=.slice none 0 0)(b:Nat)(b0:∀x∈l0,bt (Je x.1) b=0)(b1:∀x∈l1,bt (Je x.1) b=1)(j:Nat)(e0:v0.ownBlock=some j):¬v1.ownBlock=some j:=λe1=>by
 obtain⟨x,hx,x1,x2⟩:=h0.first n0 e0
 obtain⟨y,hy,y1,y2⟩:=h1.first n1 e1
 rw[x1]at y1;rw[x2]at y2;simp only[Qh,Value.string.injEq,Value.int.injEq,true_and]at y1 y2;have e:x.1=y.1:=Prod.ext y1 y2;have a:=b0 x hx;have c:=b1 y hy;rw[e]at a;omega
theorem Jmr(wj base xb:Nat)(hw1:1<=wj)(hw:wj<=32)(w:World)(hE:Env E w)(hK:18<=base)(v va:Value)(h0 x:Held)(r:List Held)(al:List BA)(hv:JR w v (h0::x::r))(hok:∀h∈h0::x::r,Jk wj h.1/\Jy h.2)(hnd:((h0::x::r).map (·.1)).Nodup)(ha:NOwn base w va al)(hb:base<=w.heap.size)(hl:al.length+2*(h0::x::r).length<=1000000000)(hxw:XAt wj xb w)
 (IH:∀(l':List Held)(V:World)(v' va':Value)(al':List BA),l'.length<(h0::x::r).length->(∀h∈l',Jk wj h.1/\Jy h.2)->(l'.map (·.1)).Nodup->Env E V->JR V v' l'->NOwn base V va' al'->base<=V.heap.size->al'.length+2*l'.length<=1000000000->XAt wj xb V->
 Calls prog 30 #[.pointer (some ⟨xb,0,none⟩),v',va'] V λe w'=>ZY wj base l' V al' e w'):
  Calls prog 30 #[.pointer (some ⟨xb,0,none⟩),v,va] w λe w'=>ZY wj base (h0::x::r) w al e w':=by
 obtain⟨B,hB,hBno,hByes⟩:=Jhl h0 x r (λh hh=>(hok h hh).1) hnd;obtain⟨vp,vq,hvs⟩:=hv.shape;subst hvs;obtain⟨a1,c1,hva⟩:=ha.shape;subst hva;obtain⟨L,hL⟩:∃L,L=h0::x::r:=⟨_,rfl⟩
 have HAL:Hid (∀V k,Tch NoB w V->k<=B->Calls prog 58 #[.pointer (some ⟨xb,0,none⟩),.slice vp L.length vq,.int .i64 (k:Int)] V λe w'=>e=.returned (.bool (XB L k))/\Tch NoB V w'):=λV k hV hk=>by
  rw[hL];exact Jml xb wj k (by omega) hw _ h0 (x::r) V (hv.tch hV) (λh hh=>(hok h hh).1) (by omega)
 rw[<-hL]at hBno hByes hl hok hnd hv IH ⊢;have hn2:2<=L.length:=by rw[hL];simp
 have HB:Hid (B<8*(wj+1)/\XB L B=false/\∀i,i<B->XB L i=true):=⟨hB,hBno,hByes⟩
 have HL:Hid (L=h0::x::r/\2<=L.length):=⟨hL,hn2⟩
 have hne1:¬((L.length:Int)=1):=by omega
 have hgt1:(1:Int)<(L.length:Int):=by omega
 have hbe:((L.length:Int) == 1)=false:=by simp [hne1]
 clear hL hB hBno hByes hn2;go_enter func30,ntmps30;go_upto_region 6 with fail;go_loopw [9] (λb wr=>∃k:Nat,k<=B/\b=.int .i64 (k:Int)/\Hid (Tch NoB w wr)) (λb _=>B-(intOf b).toNat)
 case atStart=>exact⟨0,Nat.zero_le _,rfl,Te _ _⟩
 case round=>
  obtain⟨k,hk,rfl,HT⟩:=hrel
  by_cases hkB:k<B
  ·have e:XB L k=true:=HB.o.2.2 k hkB;go_wp2_with fail;refine(HAL.o wr k HT.o hk).mono ?_;rintro _ w1⟨rfl,ht1⟩;rw[e];have HT1:Hid (Tch NoB w w1):=HT.o.go ht1;have HK:Hid (k<B/\B<8*(wj+1)):=⟨hkB,HB.o.1⟩
   have HWR:Hid (wrap64 ((k:Int)+1)=((k+1:Nat):Int)):=(by have:=HB.o.1;unfold wrap64;omega:wrap64 ((k:Int)+1)=((k+1:Nat):Int))
   clear ht1 hkB;go_wp2;go_roundw
   case rel=>exact⟨k+1,by have:=HK.o;omega,by rw[HWR.o],HT1⟩
   case measure=>have:=HK.o;rw[HWR.o];simp[intOf];omega
  ·have hkB':k=B:=(by omega);subst hkB';have e:XB L k=false:=HB.o.2.1;go_wp2_with fail;refine(HAL.o wr k HT.o hk).mono ?_;rintro _ w1⟨rfl,ht1⟩;rw[e];have HT1:Hid (Tch NoB w w1):=HT.o.go ht1;clear ht1;go_upto_region 10 with fail;obtain⟨w2,hw2⟩:∃(w2:World),w2=w1.alloc (.cells #[.slice none 0 0,.slice none 0 0] 124):=⟨_,rfl⟩
   rw[<-hw2];have hr2:w2.heap[w1.heap.size]? =some (.cells #[.slice none 0 0,.slice none 0 0] 124):=(by rw[hw2];exact Qf _ _);have HT2:Hid (Tch NoB w w2):=HT1.o.go (by rw[hw2];exact Ta _ _ _);have HS2:Hid (Jbp w.heap.size w1.heap.size w2 (.slice none 0 0) (.slice none 0 0) [] []):=⟨hr2,HOwn.nil _ _,HOwn.nil _ _,λ_=>rfl,λ_=>rfl⟩
   have HSB:Hid (w.heap.size<=w1.heap.size):=HT1.o.size;have HLT:Hid (((JS L k 0).length<L.length/\(JS L k 1).length<L.length)/\(JS L k 0).length+(JS L k 1).length=L.length):=⟨by rw[HL.o.1]at e ⊢;exact JlB h0 (x::r) k e,JeE L k⟩
   clear hw2 hr2;generalize w1.heap.size=sb at *;go_loopw [11] (λi wr=>∃(k2:Nat)(v0 v1:Value),k2<=L.length/\i=.int .i64 (k2:Int)/\Hid (Jbp w.heap.size sb wr v0 v1 (JS (L.take k2) k 0) (JS (L.take k2) k 1))/\Hid (Tch NoB w wr)) (λi _=>L.length-(intOf i).toNat)
   case atStart=>exact⟨0,_,_,Nat.zero_le _,rfl,HS2,HT2⟩
   case round=>
    obtain⟨k2,v0,v1,hk2,rfl,HS,HT3⟩:=hrel
    by_cases hgo:k2<L.length
    ·have hki:(k2:Int)<(L.length:Int):=by omega
     rcases hv with⟨_,e0⟩|⟨g,o,c,hvp,hg,hcell⟩
     ·have:=HL.o.2;rw[e0]at this;simp at this
     simp only[Qy,true_and]at hvp;obtain⟨rfl,rfl⟩:=hvp;obtain⟨f0,f1,f2,f3⟩:=hcell k2 hgo;obtain⟨oky,_⟩:=hok _ (Qx hgo);have HTK:Hid (L.take (k2+1)=L.take k2++[L[k2]]):=(QQ hgo:L.take (k2+1)=L.take k2++[L[k2]])
     generalize L[k2]=y at *;obtain⟨⟨cs,cN⟩,oa,oo⟩:=y;simp only at f0 f1 f2 f3 oky;have HCC:Hid (∀V,Tch NoB w V->V.cell? ⟨g,o+k2*4,none⟩=some (.string cs)/\V.cell? ⟨g,o+k2*4+1,none⟩=some (.int .i64 cN)/\V.cell? ⟨g,o+k2*4+2,none⟩=some (.int .u64 (oa:Int))/\V.cell? ⟨g,o+k2*4+3,none⟩=some (.int .u8 (oo:Int))):=λV hV=>⟨(hV.cell (p:=⟨g,o+k2*4,none⟩) hg (λe=>e)).trans f0,(hV.cell (p:=⟨g,o+k2*4+1,none⟩) hg (λe=>e)).trans f1,(hV.cell (p:=⟨g,o+k2*4+2,none⟩) hg (λe=>e)).trans f2,(hV.cell (p:=⟨g,o+k2*4+3,none⟩) hg (λe=>e)).trans f3⟩
     obtain⟨x0,x1,x2,x3⟩:=HCC.o wr HT3.o;have HKT:Hid (∀V,Calls prog 54 #[.agg #[.string cs,.int .i64 cN]] V λe w'=>e=.returned (.string ⟨(Je (cs,cN)).toArray⟩)/\Tch NoB V w'):=λV=>ZQ (cs,cN) V oky.2.1 (by have:=oky.2.2;dsimp only at this;show cN<256;omega) (by have:=oky.1;dsimp only at this;show cs.size<=_;omega);have HBT:Hid (∀V,Calls prog 59 #[.string ⟨(Je (cs,cN)).toArray⟩,.int .i64 (k:Int)] V λe w'=>e=.returned (.int .i64 (bt (Je (cs,cN)) k:Int))/\w'=V):=λV=>by
      have hcl:=XY oky;exact Jng (Je (cs,cN)) k (by rw[hcl];exact HB.o.1) (by rw[hcl];omega) V
     have hb2:=Yf (Je (cs,cN)) k;have hk0:(0:Int)<=(k2:Int):=(by omega);have HGO:Hid (k2<L.length/\L.length<=1000000000):=⟨hgo,by omega⟩
     clear IH hcell f0 f1 f2 f3 oky hgo;go_wp2_with fail;refine(HKT.o _).mono ?_;rintro _ w3⟨rfl,ht3⟩;have HT4:Hid (Tch NoB w w3):=HT3.o.go ht3;have HS3:Hid (Jbp w.heap.size sb w3 v0 v1 (JS (L.take k2) k 0) (JS (L.take k2) k 1)):=⟨(ht3.block _ (Jb HS.o.row) (λe=>e)).trans HS.o.row,HS.o.own0.tch ht3 (λ_ _ e=>e),HS.o.own1.tch ht3 (λ_ _ e=>e),HS.o.nil0,HS.o.nil1⟩
     clear ht3 x0 x1 x2 x3;go_wp2_with fail;refine(HBT.o _).mono ?_;rintro _ w4⟨rfl,hw4⟩;have hw5:=hw4.symm;subst hw5;obtain⟨x0,x1,x2,x3⟩:=HCC.o w3 HT4.o;have hb3:(bt (Je (cs,cN)) k:Int)=0\/(bt (Je (cs,cN)) k:Int)=1:=by omega
     rcases hb3 with hbv|hbv
     case' inl=>
      rw[hbv];obtain⟨p0,q0,hv0⟩:=HS3.o.own0.shape;generalize hn0:(JS (L.take k2) k 0).length=n0 at hv0;subst hv0;have s0:w3.cell? ⟨sb,0,none⟩=some (.slice p0 n0 q0):=Ja HS3.o.row;have hkt:((k2:Int)).toNat=k2:=(by omega);obtain⟨WA,hWA⟩:∃(WA:World),WA=w3.drew.alloc (.cells #[.string cs,.int .i64 cN,.int .u64 (oa:Int),.int .u8 (oo:Int)] 87):=⟨_,rfl⟩
      have HWA2:Hid ((w3.alloc (.cells #[.string cs,.int .i64 cN,.int .u64 (oa:Int),.int .u8 (oo:Int)] 87)).drew=WA):=(by rw[hWA];rfl:(w3.alloc (.cells #[.string cs,.int .i64 cN,.int .u64 (oa:Int),.int .u8 (oo:Int)] 87)).drew=WA)
      have tWA:Tch NoB w3 WA:=(by rw[hWA];exact(Td NoB w3 1).go (Ta _ _ _));have hnA:WA.heap[w3.heap.size]? =some (.cells #[.string cs,.int .i64 cN,.int .u64 (oa:Int),.int .u8 (oo:Int)] 87):=(by rw[hWA];exact Qf w3.drew _);have hhA:JR WA (.slice (some ⟨w3.heap.size,0,none⟩) 1 1) [((cs,cN),(oa,oo))]:=.inr ⟨_,0,1,rfl,(Jb hnA),λi hi=>by
       obtain rfl:i=0:=(by simpa using hi);exact⟨Ja hnA,Ja hnA,Ja hnA,Ja hnA⟩⟩
      obtain⟨v',w6,hrun,hown6,hg6⟩:=Yn (HS3.o.own0.tch tWA (λ_ _ e=>e)) _ _ hhA 43 (by have:=HGO.o;have hle:(JS (L.take k2) k 0).length<=k2:=Qm (List.length_filter_le _ _) (by rw[QB];omega);simp only[Qp,Qv];omega) (Qm HT4.o.size tWA.size);have t6:=Tg hg6;have hlow:∀j,some j=(Value.slice p0 n0 q0).ownBlock->w.heap.size<=j:=λj hj=>(HS3.o.own0.own j hj.symm).1;have hrA:=(tWA.block sb (Jb HS3.o.row) (λe=>e)).trans HS3.o.row;have hkA:∀j,some j=(Value.slice p0 n0 q0).ownBlock->j ≠ sb:=λj hj e=>by
       obtain⟨cu,m,hr⟩:=(HS3.o.own0.tch tWA (λ_ _ e=>e)).t.2 j hj.symm;rw[e,hrA]at hr;simp only[Qh,Obj.cells.injEq]at hr;exact absurd hr.2.1 (by decide)
      have hr6:=(t6.block sb (Jb hrA) (λe=>hkA sb e rfl)).trans hrA;obtain⟨y0,y1,y2,y3⟩:=HCC.o WA (HT4.o.go tWA);have hgA:g<WA.heap.size:=Qk hg (Qm HT4.o.size tWA.size);have hgn:¬some g=(Value.slice p0 n0 q0).ownBlock:=λe=>by have:=hlow g e;omega
      have z0:=(t6.cell (p:=⟨g,o+k2*4,none⟩) hgA hgn).trans y0;have z1:=(t6.cell (p:=⟨g,o+k2*4+1,none⟩) hgA hgn).trans y1;have z2:=(t6.cell (p:=⟨g,o+k2*4+2,none⟩) hgA hgn).trans y2;have z3:=(t6.cell (p:=⟨g,o+k2*4+3,none⟩) hgA hgn).trans y3;have sA:WA.cell? ⟨sb,0,none⟩=some (.slice p0 n0 q0):=Ja hrA;have s6:w6.cell? ⟨sb,0,none⟩=some (.slice p0 n0 q0):=Ja hr6;have f6:w6.frozen? ⟨sb,0,none⟩=false:=Qg _ _ _ _ _ hr6;obtain⟨p6,q6,hv6⟩:=hown6.shape;generalize (JS (L.take k2) k 0++[((cs,cN),(oa,oo))]).length=n6 at hv6;subst hv6;have HEND:Hid (Jbp w.heap.size sb (w6.setCell ⟨sb,0,none⟩ (.slice p6 n6 q6)) (.slice p6 n6 q6) v1 (JS (L.take (k2+1)) k 0) (JS (L.take (k2+1)) k 1)/\Tch NoB w (w6.setCell ⟨sb,0,none⟩ (.slice p6 n6 q6))):=by
       have e7:=Qj w6 sb 0 _ _ _ (.slice p6 n6 q6) hr6;rw[e7,HTK.o,Jak,Jak,if_pos (by show bt (Je (cs,cN)) k=0;omega),if_neg (by show ¬bt (Je (cs,cN)) k=1;omega)];have t7:=Ts w6 sb (#[.slice p0 n0 q0,v1].setIfInBounds 0 (.slice p6 n6 q6));have hns:∀(vv:Value)(ll:List Held),HOwn w.heap.size w6 vv ll->∀j,vv.ownBlock=some j->¬j=sb:=λvv ll hh j hj e=>by
        obtain⟨cu,m,hr⟩:=hh.t.2 j hj;rw[e,hr6]at hr;simp only[Qh,Obj.cells.injEq]at hr;exact absurd hr.2.1 (by decide)
       have hb0:∀x∈JS (L.take k2) k 0,bt (Je x.1) k=0:=λx hx=>by simpa using (QN.1 hx).2
       have hb1:∀x∈JS (L.take k2) k 1,bt (Je x.1) k=1:=λx hx=>by simpa using (QN.1 hx).2
       have ho1:=(HS3.o.own1.tch tWA (λ_ _ e=>e)).tch t6 (λj hj e=>JdB HS3.o.own0 HS3.o.own1 HS3.o.nil0 HS3.o.nil1 k hb0 hb1 j e.symm hj);refine⟨⟨Qi _ _ _ _ _ _ hr6,hown6.tch t7 (λj hj=>hns _ _ hown6 j hj),ho1.tch t7 (λj hj=>hns _ _ ho1 j hj),λe=>by simp at e,HS3.o.nil1⟩,?_⟩;exact(((HT4.o.go tWA).trans t6 (λj hj=>.inr (hlow j hj))).trans t7 (λj hj=>.inr (by rw[hj];exact HSB.o)))
      clear hown6 hg6 t6 hr6 hrA hnA hhA hkA hlow hgn hgA hWA tWA;go_upto_region 13 with fail;go_wp2_with fail
     case' inr=>
      rw[hbv];obtain⟨p0,q0,hv0⟩:=HS3.o.own1.shape;generalize hn0:(JS (L.take k2) k 1).length=n0 at hv0;subst hv0;have s0:w3.cell? ⟨sb,1,none⟩=some (.slice p0 n0 q0):=Ja HS3.o.row;have hkt:((k2:Int)).toNat=k2:=(by omega);obtain⟨WA,hWA⟩:∃(WA:World),WA=w3.drew.alloc (.cells #[.string cs,.int .i64 cN,.int .u64 (oa:Int),.int .u8 (oo:Int)] 87):=⟨_,rfl⟩
      have HWA2:Hid ((w3.alloc (.cells #[.string cs,.int .i64 cN,.int .u64 (oa:Int),.int .u8 (oo:Int)] 87)).drew=WA):=(by rw[hWA];rfl:(w3.alloc (.cells #[.string cs,.int .i64 cN,.int .u64 (oa:Int),.int .u8 (oo:Int)] 87)).drew=WA)
      have tWA:Tch NoB w3 WA:=(by rw[hWA];exact(Td NoB w3 1).go (Ta _ _ _));have hnA:WA.heap[w3.heap.size]? =some (.cells #[.string cs,.int .i64 cN,.int .u64 (oa:Int),.int .u8 (oo:Int)] 87):=(by rw[hWA];exact Qf w3.drew _);have hhA:JR WA (.slice (some ⟨w3.heap.size,0,none⟩) 1 1) [((cs,cN),(oa,oo))]:=.inr ⟨_,0,1,rfl,(Jb hnA),λi hi=>by
       obtain rfl:i=0:=(by simpa using hi);exact⟨Ja hnA,Ja hnA,Ja hnA,Ja hnA⟩⟩
      obtain⟨v',w6,hrun,hown6,hg6⟩:=Yn (HS3.o.own1.tch tWA (λ_ _ e=>e)) _ _ hhA 43 (by have:=HGO.o;have hle:(JS (L.take k2) k 1).length<=k2:=Qm (List.length_filter_le _ _) (by rw[QB];omega);simp only[Qp,Qv];omega) (Qm HT4.o.size tWA.size);have t6:=Tg hg6;have hlow:∀j,some j=(Value.slice p0 n0 q0).ownBlock->w.heap.size<=j:=λj hj=>(HS3.o.own1.own j hj.symm).1;have hrA:=(tWA.block sb (Jb HS3.o.row) (λe=>e)).trans HS3.o.row;have hkA:∀j,some j=(Value.slice p0 n0 q0).ownBlock->j ≠ sb:=λj hj e=>by
       obtain⟨cu,m,hr⟩:=(HS3.o.own1.tch tWA (λ_ _ e=>e)).t.2 j hj.symm;rw[e,hrA]at hr;simp only[Qh,Obj.cells.injEq]at hr;exact absurd hr.2.1 (by decide)
      have hr6:=(t6.block sb (Jb hrA) (λe=>hkA sb e rfl)).trans hrA;obtain⟨y0,y1,y2,y3⟩:=HCC.o WA (HT4.o.go tWA);have hgA:g<WA.heap.size:=Qk hg (Qm HT4.o.size tWA.size);have hgn:¬some g=(Value.slice p0 n0 q0).ownBlock:=λe=>by have:=hlow g e;omega
      have z0:=(t6.cell (p:=⟨g,o+k2*4,none⟩) hgA hgn).trans y0;have z1:=(t6.cell (p:=⟨g,o+k2*4+1,none⟩) hgA hgn).trans y1;have z2:=(t6.cell (p:=⟨g,o+k2*4+2,none⟩) hgA hgn).trans y2;have z3:=(t6.cell (p:=⟨g,o+k2*4+3,none⟩) hgA hgn).trans y3;have sA:WA.cell? ⟨sb,1,none⟩=some (.slice p0 n0 q0):=Ja hrA;have s6:w6.cell? ⟨sb,1,none⟩=some (.slice p0 n0 q0):=Ja hr6;have f6:w6.frozen? ⟨sb,1,none⟩=false:=Qg _ _ _ _ _ hr6;obtain⟨p6,q6,hv6⟩:=hown6.shape;generalize (JS (L.take k2) k 1++[((cs,cN),(oa,oo))]).length=n6 at hv6;subst hv6;have HEND:Hid (Jbp w.heap.size sb (w6.setCell ⟨sb,1,none⟩ (.slice p6 n6 q6)) v0 (.slice p6 n6 q6) (JS (L.take (k2+1)) k 0) (JS (L.take (k2+1)) k 1)/\Tch NoB w (w6.setCell ⟨sb,1,none⟩ (.slice p6 n6 q6))):=by
       have e7:=Qj w6 sb 1 _ _ _ (.slice p6 n6 q6) hr6;rw[e7,HTK.o,Jak,Jak,if_neg (by show ¬bt (Je (cs,cN)) k=0;omega),if_pos (by show bt (Je (cs,cN)) k=1;omega)];have t7:=Ts w6 sb (#[v0,.slice p0 n0 q0].setIfInBounds 1 (.slice p6 n6 q6));have hns:∀(vv:Value)(ll:List Held),HOwn w.heap.size w6 vv ll->∀j,vv.ownBlock=some j->¬j=sb:=λvv ll hh j hj e=>by
        obtain⟨cu,m,hr⟩:=hh.t.2 j hj;rw[e,hr6]at hr;simp only[Qh,Obj.cells.injEq]at hr;exact absurd hr.2.1 (by decide)
       have hb0:∀x∈JS (L.take k2) k 0,bt (Je x.1) k=0:=λx hx=>by simpa using (QN.1 hx).2
       have hb1:∀x∈JS (L.take k2) k 1,bt (Je x.1) k=1:=λx hx=>by simpa using (QN.1 hx).2
       have ho1:=(HS3.o.own0.tch tWA (λ_ _ e=>e)).tch t6 (λj hj e=>JdB HS3.o.own0 HS3.o.own1 HS3.o.nil0 HS3.o.nil1 k hb0 hb1 j hj e.symm);refine⟨⟨Qi _ _ _ _ _ _ hr6,ho1.tch t7 (λj hj=>hns _ _ ho1 j hj),hown6.tch t7 (λj hj=>hns _ _ hown6 j hj),HS3.o.nil0,λe=>by simp at e⟩,?_⟩;exact(((HT4.o.go tWA).trans t6 (λj hj=>.inr (hlow j hj))).trans t7 (λj hj=>.inr (by rw[hj];exact HSB.o)))
      clear hown6 hg6 t6 hr6 hrA hnA hhA hkA hlow hgn hgA hWA tWA;go_upto_region 13 with fail;go_wp2_with fail
     all_goals
      as_aux_lemma=>
       first
        | refine JU (S:=λW=>W.cell? ⟨sb,0,none⟩=some (.slice p0 n0 q0)/\W.cell? ⟨g,o+k2*4,none⟩=some (.string cs)/\W.cell? ⟨g,o+k2*4+1,none⟩=some (.int .i64 cN)/\W.cell? ⟨g,o+k2*4+2,none⟩=some (.int .u64 (oa:Int))/\W.cell? ⟨g,o+k2*4+3,none⟩=some (.int .u8 (oo:Int))) 12 (by simp) (by kernel_rfl) (by kernel_rfl) ⟨s0,x0,x1,x2,x3⟩ ?_
        | refine JU (S:=λW=>W.cell? ⟨sb,1,none⟩=some (.slice p0 n0 q0)/\W.cell? ⟨g,o+k2*4,none⟩=some (.string cs)/\W.cell? ⟨g,o+k2*4+1,none⟩=some (.int .i64 cN)/\W.cell? ⟨g,o+k2*4+2,none⟩=some (.int .u64 (oa:Int))/\W.cell? ⟨g,o+k2*4+3,none⟩=some (.int .u8 (oo:Int))) 12 (by simp) (by kernel_rfl) (by kernel_rfl) ⟨s0,x0,x1,x2,x3⟩ ?_
       intro hHeld l o hl ho;simp only[List.dropLast_cons_cons,List.dropLast_singleton]at hl;simp only[List.getLast_cons_cons,List.getLast_singleton]at ho;subst hl;subst ho;simp only[Qp,Qv,Nat.reduceAdd];refine tkL 0 ?_;simp only[Act.put,Qa,Qb,Qc];refine tkL 1 ?_;simp only[Act.put,Qa,Qb,Qc];refine tkL 2 ?_;simp only[Act.put,Qa,Qb,Qc];refine tkL 3 ?_;simp only[Act.put,Qa,Qb,Qc];refine tkL 4 ?_;simp only[Act.put,Qa,Qb,Qc];refine tkL 5 ?_;simp only[Act.put,Qa,Qb,Qc];refine tkL 6 ?_;simp only[Act.put,Qa,Qb,Qc];refine tkL 7 ?_;simp only[Act.put,Qa,Qb,Qc];refine Zr (i:=8) rfl (by kernel_rfl) (λK hK=>?_);go_simp;rw[HWA2.o];refine hK.out _ _ ⟨sA,y0,y1,y2,y3⟩ (λhHeld8=>?_);clear hK K hHeld
       try simp only[Act.put,Qa,Qb,Qc]
       refine Zr (i:=9) rfl (by kernel_rfl) (λK hK=>?_);refine Yo rfl _ _ 43 rfl rfl rfl hrun ?_;refine hK.out _ _ ⟨s6,z0,z1,z2,z3⟩ (λhHeld9=>?_);clear hK K hHeld8
       try simp only[Act.put,Qa,Qb,Qc]
       refine tkL 10 ?_;simp only[Act.put,Qa,Qb,Qc];refine wpAnyH_done (by kernel_rfl) ?_ _;show wpList _ _ _ [_] _ _;go_wp2;go_roundw
       case rel=>exact⟨k2+1,_,_,HGO.o.1,by have:=HGO.o;go_num,HEND.o.1,HEND.o.2⟩
       case measure=>have:=HGO.o;simp[intOf];omega
    ·have hk2e:k2=L.length:=(by omega);subst hk2e;have hnlt:¬(L.length:Int)<(L.length:Int):=(by omega);rw[List.take_length]at HS;have hlt:=HLT.o.1;have hsum:=HLT.o.2;obtain⟨p0,q0,hv0⟩:=HS.o.own0.shape;obtain⟨p1,q1,hv1⟩:=HS.o.own1.shape;subst hv0;subst hv1;have ha3:=ha.tch HT3.o (λ_ _ h=>h);have HR0:Hid (Calls _ _ _ wr _):=IH (JS L k 0) wr _ _ al hlt.1 (JbL L k 0 hok) (Jcx L k 0 hnd) (hE.tch HT3.o noE) HS.o.own0.at ha3 (Qm hb HT3.o.size) (by omega) (hxw.tch HT3.o (λh=>h));have s0:wr.cell? ⟨sb,0,none⟩=some (.slice p0 (JS L k 0).length q0):=Ja HS.o.row;go_wp2_with fail;refine HR0.o.mono ?_;rintro _ w4⟨s,a,va4,rfl,hro4,hown4,ht4⟩;have hal:a.length+1<=2*(JS L k 0).length:=by
      have:=hro4.len (λe=>by
       have:(koL (JS L k 0)).length=0:=(by rw[e];rfl);rw[koL,QL]at this;omega)
      rw[koL,QL]at this;omega
     have hE3:=hE.tch HT3.o noE;have hE4:Env E w4:=hE3.tch ht4 (λj hj=>Qm hK hj.1);have hx4:XAt wj xb w4:=(by obtain⟨xa,xb',xc,hx⟩:=hxw.tch HT3.o (λh=>h);exact XAt.tch ⟨xa,xb',xc,hx⟩ ht4 (SRow.not hx (by decide)));have hr4:=(ht4.block sb (Jb HS.o.row) (SRow.not HS.o.row (by decide))).trans HS.o.row;have hh4:=HS.o.own1.tch ht4 (λj hj=>by
      obtain⟨cu,m,hr⟩:=HS.o.own1.t.2 j hj;exact SRow.not hr (by decide))
     have s1:w4.cell? ⟨sb,1,none⟩=some (.slice p1 (JS L k 1).length q1):=Ja hr4;have HR1:Hid (Calls _ _ _ w4 _):=IH (JS L k 1) w4 _ _ (al++strB a) hlt.2 (JbL L k 1 hok) (Jcx L k 1 hnd) hE4 hh4.at hown4 (Qm (Qm hb HT3.o.size) ht4.size) (by rw[Qe,strB,QL];omega) hx4;obtain⟨a4,c4,hva4⟩:=hown4.shape;generalize (al++strB a).length=n4 at hva4;subst hva4;have HX4:Hid (XAt wj xb w4/\Env E w4):=⟨hx4,hE4⟩
     have HO4:Hid (NOwn base w4 (.slice a4 n4 c4) (al++strB a)):=hown4;have HT4:Hid (Tch (SRow base w) w w4):=(HT3.o.mono noE).trans ht4 (λj hj=>SRow.back (HT3.o.mono noE) hj);have HRO4:Hid (Xa (dgW wj) (koL (JS L k 0)) s a):=hro4;clear hro4 hown4 ht4 hal hE3 hE4 hx4 hr4 hh4 HR0 s0;go_wp2_with fail;refine HR1.o.mono ?_;rintro _ w5⟨t,a',va5,rfl,hro5,hown5,ht5⟩;obtain⟨a5,c5,hva5⟩:=hown5.shape;generalize (al++strB a++strB a').length=n5 at hva5;subst hva5;have hE5:Env E w5:=HX4.o.2.tch ht5 (λj hj=>Qm hK hj.1);have hx5:XAt wj xb w5:=(by obtain⟨xa,xb',xc,hx⟩:=HX4.o.1;exact XAt.tch ⟨xa,xb',xc,hx⟩ ht5 (SRow.not hx (by decide)));have HT5:Hid (Tch (SRow base w) w w5):=HT4.o.trans ht5 (λj hj=>SRow.back HT4.o hj);have hsz5:base<=w5.heap.size:=Qm hb HT5.o.size;obtain⟨TX,hTX⟩:∃TX:List UInt8,TX=78::(beL k 2 2++((dgW wj s).data.toList++(dgW wj t).data.toList)):=⟨_,rfl⟩
     have hd:∀y,(dgW wj y).data.toList.length=wj:=λy=>by rw[JT,Jz wj hw]
     have hsl:=HRO4.o.tlen hw (λh hh=>(JbL L k 0 hok h hh).1);have htl:=hro5.tlen hw (λh hh=>(JbL L k 1 hok h hh).1);have hroL:Xa (dgW wj) (koL L) TX (a++a'++[TX]):=(by rw[hTX,HL.o.1];rw[HL.o.1]at e;exact JjL h0 (x::r) k e (λi hi=>by have:=HB.o.2.2 i hi;rw[HL.o.1]at this;exact this) (by rw[<-HL.o.1];exact HRO4.o) (by rw[<-HL.o.1];exact hro5));have HEND:Hid (∀V,Tch NoB w5 V->∃v' w3,(Builtin.append_ #[58,58] 58 #[.slice a5 n5 c5,.slice (some ⟨V.heap.size,0,none⟩) 1 1]).run prog (V.alloc (.cells #[.string ⟨TX.toArray⟩] 9))=.ok v' w3/\ZY wj base L w al (.returned (.tuple #[.string ⟨TX.toArray⟩,v'])) w3):=λV hV=>by
      have tA:=Ta NoB V (.cells #[.string ⟨TX.toArray⟩] 9);have hN:=hown5.tch (hV.go tA) (λ_ _ h=>h);obtain⟨v',w3,hrun,hown,hg⟩:=Xz hN V.heap.size ⟨TX.toArray⟩ (Ja (Qf V _)) 58 (by
       have h1:=hroL.len (λe=>by
        have h2:(koL L).length=0:=(by rw[e];rfl);rw[koL,QL]at h2;have:=HL.o.2;omega)
       simp only[koL,strB,Qe,QL,Qp,Qv]at h1 ⊢;omega) (Qm hsz5 (hV.go tA).size)
      refine⟨v',w3,hrun,TX,a++a'++[TX],v',rfl,hroL,by rw[strB,List.map_append,List.map_append,<-Qs,<-Qs];exact hown,?_⟩;have T2:Tch (SRow base w) w (V.alloc (.cells #[.string ⟨TX.toArray⟩] 9)):=HT5.o.trans (hV.go tA) noE;exact T2.trans (Tg hg) (λj hj=>SRow.back T2 (hN.own j hj.symm))
     obtain⟨iB,hiB⟩:∃iB:BA,iB=⟨(beL k 2 2).toArray⟩:=⟨_,rfl⟩
     obtain⟨d0,hd0⟩:∃d0:BA,d0=dgW wj s:=⟨_,rfl⟩
     obtain⟨d1,hd1⟩:∃d1:BA,d1=dgW wj t:=⟨_,rfl⟩
     obtain⟨m1,hm1⟩:∃m1:BA,m1=⟨([78]++beL k 2 2).toArray⟩:=⟨_,rfl⟩
     obtain⟨m2,hm2⟩:∃m2:BA,m2=⟨([78]++beL k 2 2++d0.data.toList).toArray⟩:=⟨_,rfl⟩
     obtain⟨tX,htX⟩:∃tX:BA,tX=⟨TX.toArray⟩:=⟨_,rfl⟩
     have hl0:d0.data.toList.length=wj:=(by rw[hd0];exact hd s);have hl1:d1.data.toList.length=wj:=(by rw[hd1];exact hd t);have hadd1:∀W,(Op.stringOp .add (⟨#[78]⟩:BA) iB).run prog W=.ok (.string m1) W:=λW=>by rw[hiB,hm1];exact YP [78] (beL k 2 2) (by rw[Jf];simp) W
     have hadd2:∀W,(Op.stringOp .add m1 d0).run prog W=.ok (.string m2) W:=λW=>by
      rw[hm1,hm2];have:=YP ([78]++beL k 2 2) d0.data.toList (by rw[Qe,Jf,hl0];simp;omega) W;rw[strL]at this;exact this
     have hadd3:∀W,(Op.stringOp .add m2 d1).run prog W=.ok (.string tX) W:=λW=>by
      rw[hm2,htX,hTX,<-hd0,<-hd1];have:=YP ([78]++beL k 2 2++d0.data.toList) d1.data.toList (by rw[Qe,Qe,Jf,hl0,hl1];simp;omega) W;rw[strL]at this;rw[this];simp
     have HIB:Hid (∀V,Calls prog 49 #[.int .u64 (k:Int),.int .i64 2] V λe w'=>e=.returned (.string iB)/\Tch NoB V w'):=λV=>by rw[hiB];exact Jeo k 2 V (by omega)
     have HDG:Hid (∀V y,y.length<=1000->Tch NoB w5 V->Calls prog 39 #[.int .i64 (wj:Int),.string ⟨y.toArray⟩] V λe w'=>e=.returned (.string (dgW wj y))/\Tch NoB V w'):=λV y hy hV=>by
      have hEV:=hE5.tch hV noE;refine(ZP wj ⟨y.toArray⟩ V hw1 hw (by rw[JA];omega) (Qk (by decide) hEV.size) hEV.table).mono ?_;rintro _ w'⟨rfl,ht⟩;exact⟨rfl,ht⟩
     have HXC:Hid (∀V,Tch NoB w5 V->V.cell? ⟨xb,1,none⟩=some (.int .i64 (wj:Int))):=λV hV=>(hx5.tch hV (λh=>h)).cell;have hkc:IntKind.u64.wrap (k:Int)=(k:Int):=JI _ (by omega) (by have:=HB.o.1;omega);rw[<-htX]at HEND;subst hd0;subst hd1;have HSL:Hid (s.length<=1000/\t.length<=1000):=⟨hsl,htl⟩
     have xw:=HXC.o w5 (Te _ _);clear IH hroL hro5 hown5 ht5 hE5 hx5 hTX hiB hm1 hm2 htX hsl htl hl0 hl1 hd;go_upto_region 17 with fail;have HTd:Hid (Tch NoB w5 w5.drew):=Td _ w5 1;go_region_held3 (λV=>V.cell? ⟨xb,1,none⟩=some (.int .i64 (wj:Int))) (go_keep) ((first|(go_at_call 49;refine(HIB.o _).mono ?_;rintro _ w6⟨rfl,ht6⟩;have HT6:Hid (Tch NoB w5 w6):=HTd.o.go ht6;have y1:=HXC.o w6 HT6.o;clear ht6)|(go_at_call 39;refine(HDG.o _ _ (by first|exact HSL.o.1|exact HSL.o.2) (by first|exact HT7.o|exact HT6.o)).mono ?_;rintro _ w7⟨rfl,ht7⟩;have HT7:Hid (Tch NoB w5 w7):=(by first|exact HT7.o.go ht7|exact HT6.o.go ht7);have z1:=HXC.o w7 HT7.o;clear ht7)))
     all_goals obtain⟨v',w8,hrun,hEn⟩:=HEND.o _ HT7.o;have HEN:Hid (ZY _ _ _ _ _ _ _):=hEn;clear hEn HEND;go_wp2_with (at_builtin;refine Xu rfl _ _ 58 rfl rfl rfl hrun ?_);go_ret2;exact HEN.o

theorem Jhq(wj base xb:Nat)(hw1:1<=wj)(hw:wj<=32)(hK:18<=base):∀(n:Nat)(l:List Held)(V:World)(v va:Value)(al:List BA),l.length<=n->(∀h∈l,Jk wj h.1/\Jy h.2)->(l.map (·.1)).Nodup->Env E V->JR V v l->NOwn base V va al->base<=V.heap.size->al.length+2*l.length<=1000000000->XAt wj xb V->
  Calls Tryz.prog 30 #[.pointer (some ⟨xb,0,none⟩),v,va] V λe w'=>ZY wj base l V al e w'
 | n,[],V,v,va,al,_,_,_,_,hv,ha,hb,hl,_=>Jmp wj base xb V v va al hv ha hb (by omega)
 | n,[x],V,v,va,al,_,hok,_,_,hv,ha,hb,hl,_=>Jmq wj base xb hw V v va x al hv (hok x (by simp)) ha hb (by omega)
 | 0,h0::x::r,V,v,va,al,hn,_,_,_,_,_,_,_,_=>by simp at hn
 | n+1,h0::x::r,V,v,va,al,hn,hok,hnd,hE,hv,ha,hb,hl,hx=>Jmr wj base xb hw1 hw V hE hK v va h0 x r al hv hok hnd ha hb hl hx
   (λl' V' v' va' al' hlt hok' hnd' hE' hv' ha' hb' hl' hx'=>Jhq wj base xb hw1 hw hK n l' V' v' va' al' (by omega) hok' hnd' hE' hv' ha' hb' hl' hx')
