import Derived.Test.YtighkdnooglfjaaGreatDoorQyIds2
import Derived.Deep.DeepCutAuto
open Go renaming Calls->aB,Value->aG,World->aA
open Go.Ending renaming returned->aC
open Go.IntKind renaming i64->I,u64->aD,u8->aE
open Go.Obj renaming cells->T
open Go.Proofs.Tryz renaming prog->N
open Go.RowKit renaming Hid->J
open Go.Value renaming agg->aH,bool->aL,iface->aJ,int->O,nilIface->aK,pointer->X,slice->R,string->L,tuple->aI
open Option renaming none->Y,some->Z,map_none->lJ
open Or renaming inl->aM,inr->aN
open Go.Instr renaming lookup->lD,makeFunc->lG
open List renaming replicate->lC,getD_eq_getElem?_getD->lE,drop_eq_getElem_cons->lF,getElem?_map->lH,drop_length->lI
set_option maxRecDepth 100000
set_option maxHeartbeats 2000000
namespace Go.Proofs.YtighkdnooglfjaaGreatDoor
open Go.Proofs.Tryz
open Go.RowKit

variable {id:BA}{c:BA×Int}{er:Er}{k:Key}{lg:List UInt8}{d:List UInt8->BA}{sp:List VV}{B G aU aZ b base cb fl g n r wj:Nat}{E:Nat->Addr}{F S:Nat->Prop}{o:Nat×Nat}{q:Option Nat}{st':Option Tr}{p':PS}{P:Program}{x:Sl×Sl}{t:Tr}{ty:TypeId}{lv v:aG}{W a w w' w0 wA:aA}
theorem YQ{fn:Func}{p p2 t:Tmp}{ty2:TypeId}(h:fn.results= #[.cell p ty,.cell p2 ty2,.tmp t])(tmps:Array aG)(w:aA)(g g2:Nat)(aY T2:TypeId)(cs cs2:Array aG)(fr fr2:Nat×Nat)(d d2:TypeDesc)
 (hp:tmps.getD p undef=X (Z ⟨g,0,Y⟩)) (hg:w.heap[g]? =Z (T cs aY fr))
 (hu:P.underlying ty=Z d) (hd:(match d with | .struct _ | .array _ _=>true|_=>false)=true) (hi:(P.info? ty).map (·.size)=Z cs.size)
 (kV:tmps.getD p2 undef=X (Z ⟨g2,0,Y⟩)) (sV:w.heap[g2]? =Z (T cs2 T2 fr2))
 (nH:P.underlying ty2=Z d2) (xe:(match d2 with | .struct _ | .array _ _=>true|_=>false)=true) (mL:(P.info? ty2).map (·.size)=Z cs2.size):
  (results fn tmps).run P w=.ok (aI #[aH cs,aH cs2,tmps.getD t undef]) w:=by
 have vF:tmps[p]?.getD undef=X (Z ⟨g,0,Y⟩):=by simpa using hp
 have rT:tmps[p2]?.getD undef=X (Z ⟨g2,0,Y⟩):=by simpa using kV
 simp[results,h,vF,rT,asAddr,run_loadVar_row w g aY ty cs fr d hg hu hd hi,run_loadVar_row w g2 T2 ty2 cs2 fr2 d2 sV nH xe mL]
structure Jcv(w W:aA)(wj:Nat)(q:Option Nat)(c:BA×Int):Prop where
 t:W.heap[w.heap.size]? =Z (T #[O I (wj:Int),Jl q] 146)
 c:W.heap[w.heap.size+1]? =Z (T #[L c.1,O I c.2] 49)
 r:W.heap[w.heap.size+2]? =Z (T #[O I 0,X Y] 146)
 oo:W.heap[w.heap.size+3]? =Z (T #[O aD 0,O aE 0] 80)
theorem Jcv.next{W':aA}(h:Jcv w W wj q c)(k:M D W W'):Jcv w W' wj q c:=
 ⟨(k.block _ (Jb h.t) (λh=>h)).trans h.t,(k.block _ (Jb h.c) (λh=>h)).trans h.c,(k.block _ (Jb h.r) (λh=>h)).trans h.r,(k.block _ (Jb h.oo) (λh=>h)).trans h.oo⟩
theorem JiT(w:aA)(wj:Nat)(q:Option Nat)(c:BA×Int):Jcv w ((((w.alloc (T #[O I (wj:Int),Jl q] 146)).alloc (T #[L c.1,O I c.2] 49)).alloc (T #[O I 0,X Y] 146)).alloc (T #[O aD 0,O aE 0] 80)) wj q c:=
 ⟨(Xs _ _ _ _ _ _ (by omega)).trans (JU _ _ _ _),(Xs _ _ _ _ _ _ (by omega)).trans (JQ _ _ _ _),(Xs _ _ _ _ _ _ (by omega)).trans (JE _ _ _ _),Jbs _ _ _ _ _⟩
theorem JbI(h:Jcv w W wj q c)(hT:M D w W)(v0 v1 u0 u1:aG):
  ((((W.setCell ⟨w.heap.size+2,0,Y⟩ v0).setCell ⟨w.heap.size+2,1,Y⟩ v1).setCell ⟨w.heap.size+3,0,Y⟩ u0).setCell ⟨w.heap.size+3,1,Y⟩ u1).heap[w.heap.size+2]? =Z (T #[v0,v1] 146)/\
  ((((W.setCell ⟨w.heap.size+2,0,Y⟩ v0).setCell ⟨w.heap.size+2,1,Y⟩ v1).setCell ⟨w.heap.size+3,0,Y⟩ u0).setCell ⟨w.heap.size+3,1,Y⟩ u1).heap[w.heap.size+3]? =Z (T #[u0,u1] 80)/\
  M D w ((((W.setCell ⟨w.heap.size+2,0,Y⟩ v0).setCell ⟨w.heap.size+2,1,Y⟩ v1).setCell ⟨w.heap.size+3,0,Y⟩ u0).setCell ⟨w.heap.size+3,1,Y⟩ u1)/\
  ∀q' st',StAt d F W q' st'->StAt d F ((((W.setCell ⟨w.heap.size+2,0,Y⟩ v0).setCell ⟨w.heap.size+2,1,Y⟩ v1).setCell ⟨w.heap.size+3,0,Y⟩ u0).setCell ⟨w.heap.size+3,1,Y⟩ u1) q' st':=by
 rw[set2 W (w.heap.size+2) _ _ _ _ _ h.r];have t1:=Ts W (w.heap.size+2) #[v0,v1];have o1:=(t1.block _ (Jb h.oo) (by omega)).trans h.oo;have r1:(W.setRow (w.heap.size+2) #[v0,v1]).heap[w.heap.size+2]? =Z (T #[v0,v1] 146):=Qi _ _ _ _ _ _ h.r;rw[set2 _ (w.heap.size+3) _ _ _ _ _ o1];have t2:=Ts (W.setRow (w.heap.size+2) #[v0,v1]) (w.heap.size+3) #[u0,u1];refine⟨(t2.block _ (Jb r1) (by omega)).trans r1,Qi _ _ _ _ _ _ o1,(hT.trans t1 (λj hj=>aN (by omega))).trans t2 (λj hj=>aN (by omega)),λq' st' hs=>?_⟩;exact(hs.row h.r (by decide)).row o1 (by decide)
def WoTo(E:Nat->Addr)(wj:Nat)(F:Nat->Prop)(r:Except Er (Option Tr×(Nat×Nat)))(e:Ending)(w':aA):Prop:=match r with
 | .ok (st',o)=>∃q',e=aC (aI #[JB wj q',aH #[O aD (o.1:Int),O aE (o.2:Int)],aK])/\StAt (H3 wj) F w' q' st'
 | .error _=>e=aC (aI #[aH #[O I 0,X Y],aH #[O aD 0,O aE 0],eV E 1])
theorem Jio(E:Nat->Addr)(wj:Nat)(Hn:1<=wj)(hw:wj<=32)(F:Nat->Prop)(q:Option Nat)(st:Option Tr)(c:BA×Int)(hc:Jj wj c)(w:aA)(hE:Env E w)(hF:∀j,w.heap.size<=j->F j)(hs:StAt (H3 wj) F w q st)(Hg:StOk wj st):
  aB N 284 #[JB wj q,aH #[L c.1,O I c.2]] w λe w'=>M D w w'/\WoTo E wj F (JW st (Jc c)) e w':=by
 have ju:=Xg hc;have bR:J (∀W,M D w W->_):=λW hT=>Jbg E wj hw c hc W (hE.tch hT noE);have HS:J (StAt (H3 wj) F w q st):=hs;have HE:J _:=hE;have HF:J _:=hF;have yF:J _:=Hg;have kN:=JiT w wj q c;obtain⟨rv,kE⟩:∃rv,rv=(q.map λn=>(⟨n,0,Y⟩:Addr)):=⟨_,rfl⟩
 have mz:Jl q=X rv:=by rw[kE]
 clear hs hE hF Hg hc;obtain⟨cs,cn⟩:=c;dsimp only at bR kN ⊢;show aB _ _ #[aH #[_,Jl q],_] _ _;rw[mz];have zF:J _:=mz;clear mz kE;have bS:J (M D w ((((w.alloc (T #[O I (wj:Int),X rv] 146)).alloc (T #[L cs,O I cn] 49)).alloc (T #[O I 0,X Y] 146)).alloc (T #[O aD 0,O aE 0] 80))):=(M.allocs3 D w _ _ _).trans (Ta _ _ _) (λ_ h=>aM h);have qA:J (Jcv w ((((w.alloc (T #[O I (wj:Int),X rv] 146)).alloc (T #[L cs,O I cn] 49)).alloc (T #[O I 0,X Y] 146)).alloc (T #[O aD 0,O aE 0] 80)) wj q (cs,cn)):=by rw[<-zF.o];exact kN
 clear kN;go_enter func284,ntmps284;go_wp2_with fail;refine(bR _ bS).mono ?_;rintro _ w2⟨rfl,H9⟩;have H6:J _:=bS.trans H9 noE;have b2:=qA.o.next H9;have jo:J _:=b2;obtain⟨d0, -⟩:=rows b2.t;have d1:w2.cell? ⟨w.heap.size,1,Y⟩=Z (X rv):=by rw[<-zF.o];exact Ja b2.t
 generalize yI:(⟨(Jc (cs,cn)).toArray⟩:BA)=kb at *;have qp:J _:=yI;clear yI H9 b2 bR qA bS
 cases st with
 | none=>
  obtain rfl:=HS.of_none;obtain rfl:rv=Y:=by have:=zF.o;simpa [Jl]using this.symm
  have HN:J (aB N 269 #[aH #[O I (wj:Int),X Y],L kb] w2 λe w'=>e=aC (X Y)/\M D w2 w'):=by have:=Jb6 (wj:Int) (Jc (cs,cn)) (by omega) (by omega) w2;rw[qp.o]at this;exact this
  go_wp2_with fail;refine HN.mono ?_;rintro _ w3⟨rfl,Hs⟩;have b3:=jo.o.next Hs;have Hb:J _:=H6.trans Hs noE;have gV:=(HE.tch Hb noE).input;obtain⟨r0,r1⟩:=rows b3.r;have fR:∀j,w3.frozen? ⟨w.heap.size+1+1,j,Y⟩=false:=λj=>Qg _ _ _ _ _ b3.r;obtain⟨o0,o1⟩:=rows b3.oo;have fO:∀j,w3.frozen? ⟨w.heap.size+1+1+1,j,Y⟩=false:=λj=>Qg _ _ _ _ _ b3.oo;have yi:J _:=b3;clear Hs b3 HN d0 d1;go_wp2;go_region
  all_goals go_wp2;obtain⟨q1,q2,q3,_⟩:=JbI (d:=H3 wj) (F:=F) (W:=w3.drew) (yi.next (Td D w3 1)) (Hb.trans (Td D w3 1) noE) (O I 0) (X Y) (O aD 0) (O aE 0);refine QK (v:=aI #[aH #[O I 0,X Y],aH #[O aD 0,O aE 0],eV E 1]) (YQ results284 _ _ (w.heap.size+1+1) (w.heap.size+1+1+1) _ _ _ _ (0,0) (0,0) _ _ rfl q1 underlying146 rfl (by kernel_rfl) rfl q2 underlying80 rfl (by kernel_rfl)) rfl ⟨q3,?_⟩;rfl
 | some t=>
  obtain⟨n,rfl,hn⟩:=HS.of_some;obtain rfl:rv=Z ⟨n,0,Y⟩:=by have:=zF.o;simpa [Jl]using this.symm
  have rl:J _:=yF.o;have rp:J _:=hn.next H6.o;have HN:J (aB N 269 #[aH #[O I (wj:Int),X (Z ⟨n,0,Y⟩)],L kb] w2 λe w'=>∃m,e=aC (X (Z ⟨m,0,Y⟩))/\Jh (H3 wj) F w' m (.leaf (t.near (Jc (cs,cn))).1 (t.near (Jc (cs,cn))).2)/\M D w2 w'):=by have:=Jb7 wj (by omega) (H3 wj) F n t (Jc (cs,cn)) ju w2 rp rl.o;rw[qp.o]at this;exact this
  clear hn;go_wp2_with fail;refine HN.mono ?_;rintro _ w3⟨m,rfl,hm,Hs⟩;have b3:=jo.o.next Hs;obtain⟨e0,e1⟩:=rows b3.t;obtain⟨r0,r1⟩:=rows b3.r;have fR:∀j,w3.frozen? ⟨w.heap.size+1+1,j,Y⟩=false:=λj=>Qg _ _ _ _ _ b3.r;obtain⟨o0,o1⟩:=rows b3.oo;have fO:∀j,w3.frozen? ⟨w.heap.size+1+1+1,j,Y⟩=false:=λj=>Qg _ _ _ _ _ b3.oo;have qZ:w3.cell? ⟨m,1,Y⟩=Z (L ⟨(t.near (Jc (cs,cn))).1.toArray⟩):=Ja hm.a.2;have gK:w3.cell? ⟨m,2,Y⟩=Z (O aD ((t.near (Jc (cs,cn))).2.1:Int)):=Ja hm.a.2;have xM:w3.cell? ⟨m,3,Y⟩=Z (O aE ((t.near (Jc (cs,cn))).2.2:Int)):=Ja hm.a.2;have xy:=hm.own.2;have Hb:J _:=H6.trans Hs noE;have dA:J _:=rp.next Hs;have yi:J _:=b3;have gV:=(HE.tch Hb noE).input;clear Hs b3 HN d0 d1 hm rp jo;generalize hNB:(⟨(t.near (Jc (cs,cn))).1.toArray⟩:BA)=nb at *;have zo:J _:=hNB;clear hNB;have jb:nb.data.toList=(t.near (Jc (cs,cn))).1:=by rw[<-zo.o]
  have sG:kb.data.toList=Jc (cs,cn):=by rw[<-qp.o]
  by_cases qD:(t.near (Jc (cs,cn))).1=Jc (cs,cn)
  ·have rq:nb=kb:=(by rw[<-zo.o,qD];exact qp.o);have zl:J (JW (Z t) (Jc (cs,cn))=.ok (t.cut (Jc (cs,cn)),(t.near (Jc (cs,cn))).2)):=if_pos qD;have HCU:J (∀W,M D w3 W->aB N 339 #[aH #[O I (wj:Int),X (Z ⟨n,0,Y⟩)],X (Z ⟨n,0,Y⟩),L kb] W λe w'=>JgI wj F (t.cut (Jc (cs,cn))) W e w'):=λW hT=>by
    have:=Jof E wj Hn hw F (Z ⟨n,0,Y⟩) (Jc (cs,cn)) ju t n W rl (HE.tch (Hb.trans hT noE) noE) (λj hj=>HF j (Qm (Hb.trans hT noE).size hj)) (dA.next hT);rw[qp.o]at this;exact this
   subst rq;clear qD jb sG;have hz3:=(Jb yi.oo)
   obtain⟨xa,hXA⟩:∃x,(t.near (Jc (cs,cn))).2.1=x:=⟨_,rfl⟩
   obtain⟨xo,hXO⟩:∃x,(t.near (Jc (cs,cn))).2.2=x:=⟨_,rfl⟩
   rw[hXA]at gK;rw[hXO]at xM;have HX:J ((t.near (Jc (cs,cn))).2=(xa,xo)):=Prod.ext hXA hXO;clear hXA hXO;go_wp2_with fail;refine(HCU _ (Te _ _)).mono ?_;rintro _ w4⟨q4,rfl,(HQ4:J _),Hu⟩;have b4:=yi.o.next Hu;have mZ:J _:=b4;have Hm:J (M D w w4):=Hb.trans Hu noE;obtain⟨s0,s1⟩:=rows b4.r;have gR:∀j,w4.frozen? ⟨w.heap.size+1+1,j,Y⟩=false:=λj=>Qg _ _ _ _ _ b4.r;have p0:w4.cell? ⟨w.heap.size+1+1+1,0,Y⟩=Z (O aD 0):=Ja b4.oo;have p1:w4.cell? ⟨w.heap.size+1+1+1,1,Y⟩=Z (O aE 0):=Ja b4.oo;have gO:∀j,w4.frozen? ⟨w.heap.size+1+1+1,j,Y⟩=false:=λj=>Qg _ _ _ _ _ b4.oo;have f0:w4.cell? ⟨w.heap.size,0,Y⟩=Z (O I (wj:Int)):=Ja b4.t;have n2:w4.cell? ⟨m,2,Y⟩=Z (O aD (xa:Int)):=(Hu.cell (p:=⟨m,2,Y⟩) xy (λh=>h)).trans gK;have n3:w4.cell? ⟨m,3,Y⟩=Z (O aE (xo:Int)):=(Hu.cell (p:=⟨m,3,Y⟩) xy (λh=>h)).trans xM;clear Hu b4 e0 e1 r0 r1 fR o0 o1 fO gK xM qZ HCU;obtain⟨v4,tP⟩:∃v,Jl q4=X v:=⟨_,rfl⟩
   rw[tP];have eG:J (Jl q4=X v4):=tP;clear tP;go_wp2;go_region
   all_goals go_wp2;obtain⟨q1,q2,q3,q5⟩:=JbI (d:=H3 wj) (F:=F) (W:=w4) mZ.o Hm.o (O I (wj:Int)) (X v4) (O aD (xa:Int)) (O aE (xo:Int));refine QK (v:=aI #[aH #[O I (wj:Int),X v4],aH #[O aD (xa:Int),O aE (xo:Int)],aK]) (YQ results284 _ _ (w.heap.size+1+1) (w.heap.size+1+1+1) _ _ _ _ (0,0) (0,0) _ _ rfl q1 underlying146 rfl (by kernel_rfl) rfl q2 underlying80 rfl (by kernel_rfl)) rfl ⟨q3.trans (Td D _ 1) noE,?_⟩;rw[zl.o,HX.o];refine⟨q4,?_,(q5 _ _ HQ4.o).next (Td D _ 1)⟩;rw[JB,eG.o]
  ·have Hl:(nb.toList == kb.toList)=false:=by
    rw[ByteArray.toList_eq,ByteArray.toList_eq,jb,sG];simpa using qD
   have zW:(nb.toList != kb.toList)=true:=(by rw[bne,Hl];rfl);have zl:J (JW (Z t) (Jc (cs,cn))=.error .input):=if_neg qD;clear jb sG qD gK xM;go_wp2;go_region
   all_goals go_wp2;obtain⟨q1,q2,q3,_⟩:=JbI (d:=H3 wj) (F:=F) (W:=w3.drew) (yi.o.next (Td D w3 1)) (Hb.o.trans (Td D w3 1) noE) (O I 0) (X Y) (O aD 0) (O aE 0);refine QK (v:=aI #[aH #[O I 0,X Y],aH #[O aD 0,O aE 0],eV E 1]) (YQ results284 _ _ (w.heap.size+1+1) (w.heap.size+1+1+1) _ _ _ _ (0,0) (0,0) _ _ rfl q1 underlying146 rfl (by kernel_rfl) rfl q2 underlying80 rfl (by kernel_rfl)) rfl ⟨q3,?_⟩;rw[zl.o];rfl

theorem M.go{b c:aA}(h:M S a b)(k:M D b c):M S a c:=h.trans k noE
theorem M.dr{b:aA}(h:M S a b)(n:Nat):M S a (b.drewN n):=h.go (Td _ _ _)
theorem TrOk.pair{n one:Tr}{a:Nat}(h1:TrOk wj n)(h2:TrOk wj one)(hb:b<8*(wj+1)):TrOk wj (Tr.pair n one b a):=by
 unfold Tr.pair
 split
 ·exact⟨hb,h2,h1⟩
 ·exact⟨hb,h1,h2⟩
theorem TrOk.graft{d:Nat}(h:TrOk wj t)(hl:TrOk wj (.leaf k o))(hd:d<8*(wj+1)):TrOk wj (t.graft k o d):=by
 induction t using Tr.ri with
 | leaf k' o'=>exact TrOk.pair h hl hd
 | br b l r ihl ihr=>
  unfold Tr.graft
  split
  ·exact TrOk.pair h hl hd
  ·split
   ·exact⟨h.1,ihl h.2.1,h.2.2⟩
   ·exact⟨h.1,h.2.1,ihr h.2.2⟩
theorem TrOk.cut(h:TrOk wj t):StOk wj (t.cut k):=by
 induction t using Tr.ri with
 | leaf k' o'=>exact trivial
 | br b l r ihl ihr=>
  unfold Tr.cut
  split
  ·have:=ihl h.2.1
   split
   ·exact h.2.2
   ·rename_i l' sD;rw[sD]at this;exact⟨h.1,this,h.2.2⟩
  ·have:=ihr h.2.2
   split
   ·exact h.2.1
   ·rename_i l' sD;rw[sD]at this;exact⟨h.1,h.2.1,this⟩
theorem TrOk.nearO(h:TrOk wj t):Jy (t.near k).2:=by
 induction t using Tr.ri with
 | leaf k' o=>exact h.2.2
 | br b l r ihl ihr=>
  unfold Tr.near
  split
  ·exact ihl h.2.1
  ·exact ihr h.2.2
theorem StOk.with{st:Option Tr}(h:StOk wj st)(hc:Jj wj c)(ho:Jy o)(e:Zo st (Jc c) o=.ok st'):StOk wj st':=by
 have ju:(Jc c).length=wj+1:=Xg hc;have ej:TrOk wj (.leaf (Jc c) o):=Jbc hc ho
 cases st with
 | none=>cases e;exact ej
 | some t=>
  unfold Zo at e;simp only at e
  split at e
  ·cases e
  ·rename_i Hl
   cases e
   have jb:(t.near (Jc c)).1.length=wj+1:=TrOk.near h;have:=(JjN (t.near (Jc c)).1 (Jc c) (by omega) Hl).1;exact TrOk.graft h ej (by omega)
theorem StOk.without{st:Option Tr}(h:StOk wj st)(e:JW st k=.ok (st',o)):StOk wj st'/\Jy o:=by
 cases st with
 | none=>cases e
 | some t=>
  unfold JW at e;simp only at e
  split at e
  ·cases e
   exact⟨TrOk.cut h,TrOk.nearO h⟩
  ·cases e
structure YI(w:aA)(aZ wj:Nat)(q:Option Nat)(id:BA):Prop where
 s:w.heap[aZ]? =Z (T #[O I (wj:Int),Jl q] 146)
 i:w.heap[aZ+1]? =Z (T #[L id] 9)
theorem YI.next(h:YI w aZ wj q id)(k:M D w w'):YI w' aZ wj q id:=
 ⟨(k.block _ (Jb h.s) (λh=>h)).trans h.s,(k.block _ (Jb h.i) (λh=>h)).trans h.i⟩
theorem YI.put(h:YI W aZ wj q id)(hT:M D w W)(Hc:Int)(q':Option Nat)(v':Option Addr)(hv:Jl q'=X v'):
  M (λk=>k=aZ) w ((W.setCell ⟨aZ,0,Y⟩ (O I Hc)).setCell ⟨aZ,1,Y⟩ (X v'))/\
  ((W.setCell ⟨aZ,0,Y⟩ (O I Hc)).setCell ⟨aZ,1,Y⟩ (X v')).heap[aZ]? =Z (T #[O I Hc,Jl q'] 146)/\
  ((W.setCell ⟨aZ,0,Y⟩ (O I Hc)).setCell ⟨aZ,1,Y⟩ (X v')).heap[aZ+1]? =Z (T #[L id] 9)/\
  ∀d F q' st',StAt d F W q' st'->StAt d F ((W.setCell ⟨aZ,0,Y⟩ (O I Hc)).setCell ⟨aZ,1,Y⟩ (X v')) q' st':=by
 rw[set2 W aZ _ _ _ _ _ h.s,hv];have t1:=Ts W aZ #[O I Hc,X v'];exact⟨(hT.mono (S':=λk=>k=aZ) noE).trans t1 (λj hj=>aM hj),Qi _ _ _ _ _ _ h.s,(t1.block _ (Jb h.i) (by omega)).trans h.i,λd F q' st' hs=>hs.row h.s (by decide)⟩
def Jqw(E:Nat->Addr)(wj:Nat)(F:Nat->Prop)(aZ:Nat)(id:BA)(r:Except Er (Option Tr))(e:Ending)(w':aA):Prop:=match r with
 | .ok st'=>∃q',e=aC aK/\YI w' aZ wj q' id/\StAt (H3 wj) F w' q' st'
 | .error _=>e=aC (eV E 2)/\YI w' aZ 0 Y id
theorem JhQ(E:Nat->Addr)(wj:Nat)(Hn:1<=wj)(hw:wj<=32)(F:Nat->Prop)(aZ:Nat)(q:Option Nat)(st:Option Tr)(id:BA)(i:Nat)(hc:Jj wj (id,(i:Int)))(o:Nat×Nat)(ho:Jy o)(w:aA)(hE:Env E w)(hF:∀j,w.heap.size<=j->F j)(hB:YI w aZ wj q id)(hs:StAt (H3 wj) F w q st)(Hg:StOk wj st):
  aB N 190 #[O I (i:Int),aH #[O aD (o.1:Int),O aE (o.2:Int)],X (Z ⟨aZ,0,Y⟩),X (Z ⟨aZ+1,0,Y⟩)] w λe w'=>M (λk=>k=aZ) w w'/\Jqw E wj F aZ id (Zo st (Jc (id,(i:Int))) o) e w':=by
 have HW:J (∀W,M D w W->aB N 191 #[JB wj q,aH #[L id,O I (i:Int)],aH #[O aD (o.1:Int),O aE (o.2:Int)]] W λe w'=>M D W w'/\JlP E wj F (Zo st (Jc (id,(i:Int))) o) e w'):=λW hT=>
  JnT E wj Hn hw F q st (id,(i:Int)) hc o ho W (hE.tch hT noE) (λj hj=>hF j (Qm hT.size hj)) (hs.next hT) Hg
 have kN:J (YI w aZ wj q id):=hB;obtain⟨rv,kE⟩:∃rv,Jl q=X rv:=⟨_,rfl⟩
 have hNb:aZ+1<w.heap.size:=(Jb hB.i)
 have hNs:aZ<w.heap.size:=by omega
 have a0:w.cell? ⟨aZ,0,Y⟩=Z (O I (wj:Int)):=Ja hB.s;have a1:w.cell? ⟨aZ,1,Y⟩=Z (X rv):=by rw[<-kE];exact Ja hB.s
 have a2:w.cell? ⟨aZ+1,0,Y⟩=Z (L id):=Ja hB.i;have jy:J (Jl q=X rv):=kE;unfold JB at HW;rw[kE]at HW;generalize hR:Zo st (Jc (id,(i:Int))) o=aW at *;clear hE hF hB hs Hg kE hc ho;obtain⟨oa,oo⟩:=o;dsimp only at HW ⊢;have kI:J (∀k,M D w ((w.alloc (T #[O aD (oa:Int),O aE (oo:Int)] 80)).drewN k)):=λk=>(Ta _ _ _).dr k;go_enter func190,ntmps190;go_wp2_with fail;refine(HW.o _ (kI.o 0)).mono ?_;have HR:J (_=aW):=hR;clear hR HW a0 a1 a2
 cases aW with
 | ok st'=>
  rintro _ w2⟨Ha,q2,rfl,kZ⟩;have hT:M D w w2:=(kI.o 0).go Ha;have b2:=kN.o.next hT;have jo:J (YI w2 aZ wj q id):=b2;have c0:w2.cell? ⟨aZ,0,Y⟩=Z (O I (wj:Int)):=Ja b2.s;have c1:w2.cell? ⟨aZ,1,Y⟩=Z (X rv):=by rw[<-jy.o];exact Ja b2.s
  have fN:∀j,w2.frozen? ⟨aZ,j,Y⟩=false:=λj=>Qg _ _ _ _ _ b2.s;have HT:J (M D w w2):=hT;have jm:J (StAt (H3 wj) F w2 q2 st'):=kZ;clear hT Ha kZ b2 kI;unfold JB;obtain⟨v2,kn⟩:∃v,Jl q2=X v:=⟨_,rfl⟩
  rw[kn];have gq:J (Jl q2=X v2):=kn;clear kn;go_wp2;go_ret;obtain⟨p1,p2,p3,p4⟩:=jo.o.put HT.o wj q2 v2 gq.o;exact⟨p1,q2,rfl,⟨p2,p3⟩,p4 _ _ _ _ jm.o⟩
 | error er=>
  rintro _ w2⟨Ha,rfl⟩;have hT:M D w w2:=(kI.o 0).go Ha;have b2:=kN.o.next hT;have jo:J (YI w2 aZ wj q id):=b2;have c0:w2.cell? ⟨aZ,0,Y⟩=Z (O I (wj:Int)):=Ja b2.s;have c1:w2.cell? ⟨aZ,1,Y⟩=Z (X rv):=by rw[<-jy.o];exact Ja b2.s
  have fN:∀j,w2.frozen? ⟨aZ,j,Y⟩=false:=λj=>Qg _ _ _ _ _ b2.s;have HT:J (M D w w2):=hT;clear hT Ha b2 kI;go_wp2;go_ret;obtain⟨p1,p2,p3,p4⟩:=jo.o.put HT.o 0 Y Y rfl;exact⟨p1,rfl,p2,p3⟩

theorem Je9(x y:Nat)(w:aA):(callFunc 340 #[O aD (x:Int),O aD (y:Int),O aD 0]).run N w =
  .ok (.value (aI #[O aD (((x+y) % 18446744073709551616:Nat):Int),O aD (((x+y)/18446744073709551616:Nat):Int)])) w:=by
 rw[run_callFunc_extern func340 (by kernel_rfl) (by kernel_rfl) (by kernel_rfl) (e:=add64Entry) (by kernel_rfl),run_add64 x y 0 (by omega) (by omega) (by omega) (by omega)];simp only[Result.andThen]
 congr 5<;>omega
theorem Jjl(l:List (Nat×Nat))(k:Nat)(h:k<l.length):Jt l (k+1)=Jt l k+l[k].1:=by
 unfold Jt;rw[QR h];simp only[List.map_append,List.sum_append,List.map_cons,List.map_nil,List.sum_cons,List.sum_nil];omega
theorem JnD(l:List (Nat×Nat))(k:Nat):Jt l k<=Jt l l.length:=by
 unfold Jt;rw[List.take_length]
 conv=>rhs;rw[<-List.take_append_drop k l]
 simp only[List.map_append,List.sum_append];omega
theorem JgM(x y:Nat)(h:x+y<18446744073709551616)(w:aA):(callFunc 340 #[O aD (x:Int),O aD (y:Int),O aD 0]).run N w =
  .ok (.value (aI #[O aD ((x+y:Nat):Int),O aD 0])) w:=by
 rw[Je9,Nat.mod_eq_of_lt h,Nat.div_eq_of_lt h];rfl
theorem Jki(x y:Nat)(hx:x<18446744073709551616)(hy:y<18446744073709551616)(h:18446744073709551616<=x+y):∃z:Int,∀w:aA,(callFunc 340 #[O aD (x:Int),O aD (y:Int),O aD 0]).run N w =
  .ok (.value (aI #[O aD z,O aD 1])) w:=by
 refine⟨(((x+y) % 18446744073709551616:Nat):Int),λw=>?_⟩;rw[Je9,show (x+y)/18446744073709551616=1 by omega];rfl
theorem Jlt(E:Nat->Addr)(gi oi c:Nat)(l:List (Nat×Nat))(hc:l.length<1000000)(uJ:∀x∈l,x.1<18446744073709551616)(w:aA)(hE:Env E w)(kp:gi<w.heap.size)(h1:∀i (h:i<l.length),w.cell? ⟨gi,oi+i*2,Y⟩=Z (O aD ((l[i].1:Nat):Int))/\w.cell? ⟨gi,oi+i*2+1,Y⟩=Z (O aE ((l[i].2:Nat):Int))):
  aB N 285 #[R (Z ⟨gi,oi,Y⟩) l.length c] w λe w'=>M D w w'/\((Jt l l.length<18446744073709551616/\e=aC (aI #[O aD ((Jt l l.length:Nat):Int),aK]))\/(18446744073709551616<=Jt l l.length/\e=aC (aI #[O aD 0,eV E 3]))):=by
 have HSM:J _:=uJ;have HE:J _:=hE;have H1:J _:=h1;have HQ:J (Jt l l.length<18446744073709551616\/18446744073709551616<=Jt l l.length):=Nat.lt_or_ge _ _;go_enter func285,ntmps285;go_wp2;go_loopw [4,10] (λs i wr=>∃k:Nat,k<=l.length/\s=O aD ((Jt l k:Nat):Int)/\i=O I k/\J (Jt l k<18446744073709551616)/\J (M D w wr)) (λ_ i _=>l.length-(intOf i).toNat)
 case atStart=>exact⟨0,by omega,rfl,rfl,(by decide:(0:Nat)<18446744073709551616),Te _ w⟩
 case round=>
  obtain⟨k,hk,rfl,rfl,hS,hT⟩:=hrel
  by_cases H7:k<l.length
  ·obtain⟨f0,f1⟩:=H1 k H7;have c0:=(hT.cell (p:=⟨gi,oi+k*2,Y⟩) kp (λh=>h)).trans f0;have c1:=(hT.cell (p:=⟨gi,oi+k*2+1,Y⟩) kp (λh=>h)).trans f1;have kj:(k:Int)<(l.length:Int):=(by omega);have hy:J _:=HSM _ (Qx H7);have HN:J (Jt l (k+1)=Jt l k+l[k].1):=Jjl l k H7;have HFK:J (Jt l k+l[k].1<18446744073709551616\/18446744073709551616<=Jt l k+l[k].1):=Nat.lt_or_ge _ _;generalize l[k].1=y at *;generalize (l[k].2)=z at *
   rcases HFK.o with hs|hs
   ·have ha:=JgM (Jt l k) y hs;have sv:J _:=hs;generalize Jt l k=S at *;go_wp2;go_roundw
    case rel=>exact⟨k+1,by omega,by rw[HN.o,Int.natCast_add],by go_num,by rw[HN.o];exact sv,hT.trans (Ta D _ _) noE⟩
    case measure=>simp[intOf];omega
   ·obtain⟨zz,ha⟩:=Jki (Jt l k) y hS.out hy.out hs;have sv:J (18446744073709551616<=Jt l (k+1)):=(by rw[HN.o];exact hs:18446744073709551616<=Jt l (k+1))
    have fk:=(HE.tch (hT.trans (Ta D _ (T #[O aD (y:Int),O aE (z:Int)] 80)) noE) noE).sum;generalize Jt l k=S at *;have TL:J _:=hT.trans (Ta D wr (T #[O aD (y:Int),O aE (z:Int)] 80)) noE;go_wp2;go_region
    all_goals go_wp2
    all_goals go_ret2
    all_goals exact⟨TL.trans (Td D _ 1) noE,aN ⟨Qm sv (JnD l (k+1)),rfl⟩⟩
  ·have HK:J (k=l.length):=(by omega:k=l.length)
   have jA:¬(k:Int)<(l.length:Int):=(by omega);generalize hSS:Jt l k=S at *;have nO:J _:=hSS;go_wp2;go_ret2;have e:Jt l l.length=S:=(by rw[<-HK.o];exact nO.o);exact⟨hT,aM ⟨by rw[e];exact hS,by rw[e];rfl⟩⟩
theorem Jls(w:aA):
  aB N 285 #[R Y 0 0] w λe w'=>e=aC (aI #[O aD 0,aK])/\w=w':=by
 go_enter func285,ntmps285;go_wp2;go_loopw [4,10] (λs i wr=>s=O aD 0/\i=O I 0/\wr=w) (λ_ _ _=>0)
 case atStart=>exact⟨rfl,rfl,rfl⟩
 case round=>obtain⟨rfl,rfl,rfl⟩:=hrel;go_wp2;go_ret2;exact⟨rfl,rfl⟩
theorem JfO(E:Nat->Addr)(B:Nat)(v:aG)(l:List (Nat×Nat))(hc:l.length<1000000)(uJ:∀x∈l,x.1<18446744073709551616)(w:aA)(hE:Env E w)(h:Jr B w v l):
  aB N 285 #[v] w λe w'=>M D w w'/\((Jt l l.length<18446744073709551616/\e=aC (aI #[O aD ((Jt l l.length:Nat):Int),aK]))\/(18446744073709551616<=Jt l l.length/\e=aC (aI #[O aD 0,eV E 3]))):=by
 rcases h with⟨rfl,rfl⟩|⟨gi,oi,c,rfl,_,h2,h3⟩
 ·refine(Jls w).mono ?_;rintro _ _⟨rfl,rfl⟩;exact⟨Te _ _,aM ⟨by decide,rfl⟩⟩
 ·exact Jlt E gi oi c l hc uJ w hE h2 h3

theorem JeS(E:Nat->Addr)(B:Nat)(v1 v2:aG)(l1 l2:List (Nat×Nat))(hc1:l1.length<1000000)(hc2:l2.length<1000000)(xt:∀x∈l1,x.1<18446744073709551616)(kZ:∀x∈l2,x.1<18446744073709551616)(w:aA)(hE:Env E w)(h1:Jr B w v1 l1)(h2:Jr B w v2 l2):
  aB Tryz.prog 208 #[v1,v2] w λe w'=>M D w w'/\((¬Xo l1 l2/\e=aC aK)\/(Xo l1 l2/\∃v,e=aC v/\Jn E 3 w' v)):=by
 obtain⟨ia1,ic1,qM⟩:=h1.shape;obtain⟨ia2,ic2,kn⟩:=h2.shape;have H5:J (aB _ _ _ _ _):=JfO E B v1 l1 hc1 xt w hE h1;have H6:J (∀W,M D w W->_):=λW hW=>JfO E B v2 l2 hc2 kZ W (hE.tch hW noE) (h2.tch hW noE);have HE:J _:=hE;subst qM kn;go_enter Tryz.func208,Tryz.ntmps208;go_wp2_with fail;refine H5.o.mono ?_;rintro _ w1⟨H9,⟨ha,rfl⟩|⟨ha,rfl⟩⟩
 ·have K1:J _:=H9;have HA:J _:=ha;generalize sO:Jt l1 l1.length=S1 at *;have gF:J _:=sO;go_wp2_with fail;refine(H6 w1 K1).mono ?_;rintro _ w2⟨Ha,⟨hb,rfl⟩|⟨hb,rfl⟩⟩
  ·have K2:J _:=K1.trans Ha noE;have HB:J _:=hb;generalize sP:Jt l2 l2.length=S2 at *;have jm:J _:=sP;have fk:=(HE.tch K2 noE).sum
   by_cases H7:S1<S2
   ·have kj:(S1:Int)<(S2:Int):=(by omega);go_wp2_with fail;refine(Xk _ _ _ _).mono ?_;rintro _ _⟨rfl,rfl⟩;go_wp2;go_ret;exact⟨K2.trans (Ta D _ _) noE,aN ⟨aN (aN (by rw[gF.o,jm.o];exact H7)),_,rfl,.wrap _ _ _ (Qf _ _) .base⟩⟩
   ·have kj:¬(S1:Int)<(S2:Int):=(by omega);go_wp2;go_ret;have q1:=HA.o;have q2:=HB.o;exact⟨K2,aM ⟨by unfold Xo;rw[gF.o,jm.o];omega,rfl⟩⟩
  ·have K2:J _:=K1.trans Ha noE;have HB:J _:=hb;go_wp2_with fail;refine(Xk _ _ _ _).mono ?_;rintro _ _⟨rfl,rfl⟩;go_wp2;go_ret;exact⟨K2.trans (Ta D _ _) noE,aN ⟨aN (aM HB),_,rfl,.wrap _ _ _ (Qf _ _) .base⟩⟩
 ·have K1:J _:=H9;have HA:J _:=ha;go_wp2_with fail;refine(Xk _ _ _ _).mono ?_;rintro _ _⟨rfl,rfl⟩;go_wp2;go_ret;exact⟨K1.trans (Ta D _ _) noE,aN ⟨aM HA,_,rfl,.wrap _ _ _ (Qf _ _) .base⟩⟩

def erG:Er->Nat
 | 0=>7
 | 1=>0
 | 2=>1
 | 3=>2
 | 4=>3
 | 5=>4
 | 6=>5
theorem Jlz{st:Option Tr}(h:Zo st k o=.error er):er=.exist:=by
 unfold Zo at h
 split at h
 ·cases h
 ·split at h
  ·cases h;rfl
  ·cases h
theorem JgF{st:Option Tr}(h:JW st k=.error er):er=.input:=by
 unfold JW at h
 split at h
 ·cases h;rfl
 ·split at h
  ·cases h
  ·cases h;rfl
theorem Jkx(fv:aG)(what:BA)(w:aA):aB N 189 #[L what,R Y 0 0,fv] w λe w'=>e=aC aK/\w=w':=by
 go_enter func189,ntmps189;go_wp2;go_loopw [12] (λi wr=>i=O I 0/\w=wr) (λi _=>0)
 case atStart=>exact⟨rfl,rfl⟩
 case round=>obtain⟨rfl,rfl⟩:=hrel;go_wp2;go_ret;exact⟨rfl,rfl⟩
theorem Je4(id:BA)(i:Nat)(outs:List (Nat×Nat))(h:i<outs.length)(st:Option Tr):JA id i (outs.drop i) st=match Zo st (Jc (id,(i:Int))) outs[i] with
  | .error e=>.error e
  | .ok kW=>JA id (i+1) (outs.drop (i+1)) kW:=by
 rw[lF h];rfl
theorem XF{a b:aG}(h:W.heap[g]? =Z (T #[a,b] 146))(hT:M S w W)(hg:w.heap.size<=g)(v0 v1:aG):
  ((W.setCell ⟨g,0,Y⟩ v0).setCell ⟨g,1,Y⟩ v1).heap[g]? =Z (T #[v0,v1] 146)/\M S w ((W.setCell ⟨g,0,Y⟩ v0).setCell ⟨g,1,Y⟩ v1)/\
  (∀d F q' st',StAt d F W q' st'->StAt d F ((W.setCell ⟨g,0,Y⟩ v0).setCell ⟨g,1,Y⟩ v1) q' st')/\∀E k v,Jn E k W v->Jn E k ((W.setCell ⟨g,0,Y⟩ v0).setCell ⟨g,1,Y⟩ v1) v:=by
 rw[set2 W g _ _ _ _ _ h];have t1:=Ts W g #[v0,v1];refine⟨Qi _ _ _ _ _ _ h,hT.trans t1 (λj hj=>aN (by omega)),λd F q' st' hs=>hs.row h (by decide),λE k v he=>he.tch t1 ?_⟩;rintro p s u hp rfl;rw[h]at hp
 injection hp with hp
 injection hp with _ h2
 exact absurd h2 (by decide)
structure JfT(wj:Nat)(F:Nat->Prop)(id:BA)(outs:List (Nat×Nat))(aW:Except Er (Option Tr))(w0:aA)(aZ:Nat)(i:Nat)(w:aA)(q:Option Nat)(st:Option Tr):Prop where
 box:YI w aZ wj q id
 at_:StAt (H3 wj) F w q st
 ok:StOk wj st
 eq:JA id i (outs.drop i) st=aW
 tch:M (λk=>k=aZ) w0 w
def JlG(E:Nat->Addr)(id:BA)(aW:Except Er (Option Tr))(w0:aA)(aZ:Nat)(v:aG)(w:aA):Prop:=v=eV E 2/\aW=.error .exist/\YI w aZ 0 Y id/\M (λk=>k=aZ) w0 w
theorem Je5(E:Nat->Addr)(wj:Nat)(Hn:1<=wj)(hw:wj<=32)(F:Nat->Prop)(id:BA)(qn:id.size=wj)(outs:List (Nat×Nat))(ho:∀o∈outs,Jy o)(h3:outs.length<=3)(aW:Except Er (Option Tr))(w0:aA)(hE:Env E w0)(hF:∀j,w0.heap.size<=j->F j)(aZ:Nat)(hN:18<=aZ)(g off:Nat)(hg:g<aZ)(hz:g<w0.heap.size)
 (hr:∀i (h:i<outs.length),w0.cell? ⟨g,off+i*2,Y⟩=Z (O aD ((outs[i].1:Nat):Int))/\w0.cell? ⟨g,off+i*2+1,Y⟩=Z (O aE ((outs[i].2:Nat):Int))):
  JcW 190 #[X (Z ⟨aZ,0,Y⟩),X (Z ⟨aZ+1,0,Y⟩)] g off outs.length (λi=>(outs.map encO).getD i zO) (λi w=>∃q st,JfT wj F id outs aW w0 aZ i w q st) (JlG E id aW w0 aZ):=by
 have hx:∀i (h:i<outs.length),(outs.map encO).getD i zO=encO outs[i]:=λi h=>by simp[lE,h]
 refine⟨λ_ _=>rfl,?_,?_,?_⟩
 ·rintro i w hi⟨q,st,aT⟩;rw[hx i hi];have hc:∀o,w.cell? ⟨g,o,Y⟩=w0.cell? ⟨g,o,Y⟩:=λo=>aT.tch.cell (p:=⟨g,o,Y⟩) hz (by show ¬g=aZ;omega);rw[hc,hc];exact hr i hi
 ·rintro i w o⟨q,st,aT⟩;have ha:=Ta D w o;exact⟨q,st,aT.box.next ha,aT.at_.next ha,aT.ok,aT.eq,aT.tch.go ha⟩
 ·rintro i w hi⟨q,st,aT⟩;rw[hx i hi];have yf:Jj wj (id,(i:Int)):=⟨qn,by omega,by show (i:Int)<3;omega⟩
  have ii:Jy outs[i]:=ho _ (Qx hi);refine(JhQ E wj Hn hw F aZ q st id i yf outs[i] ii w (hE.tch aT.tch (λj hj=>by subst hj;exact hN)) (λj hj=>hF j (Qm aT.tch.size hj)) aT.box aT.at_ aT.ok).mono ?_;rintro e w'⟨ht,hr⟩;have e1:=aT.eq;rw[Je4 id i outs hi]at e1;have hT:M (λk=>k=aZ) w0 w':=aT.tch.trans ht (λj hj=>aM hj)
  cases kP:Zo st (Jc (id,(i:Int))) outs[i] with
  | ok st'=>
   rw[kP]at hr e1;obtain⟨q',rfl,hb,hs⟩:=hr;exact aM ⟨rfl,q',st',hb,hs,aT.ok.with yf ii kP,e1,hT⟩
  | error er=>
   rw[kP]at hr e1;obtain⟨rfl,hb⟩:=hr;have:=Jlz kP;subst this;exact aN ⟨_,_,rfl,rfl,e1.symm,hb,hT⟩
def Jpn(E:Nat->Addr)(wj:Nat)(F:Nat->Prop)(r:Except Er (Option Tr))(e:Ending)(w':aA):Prop:=match r with
 | .ok st'=>∃q',e=aC (aI #[JB wj q',aK])/\StAt (H3 wj) F w' q' st'/\StOk wj st'
 | .error er=>∃v,e=aC (aI #[JB 0 Y,v])/\Jn E (erG er) w' v/\er=.exist
theorem Jc9(E:Nat->Addr)(wj:Nat)(Hn:1<=wj)(hw:wj<=32)(F:Nat->Prop)(q:Option Nat)(st:Option Tr)(id:BA)(qn:id.size=wj)(v:aG)(outs:List (Nat×Nat))(ho:∀o∈outs,Jy o)(h3:outs.length<=3)(w:aA)(hE:Env E w)(hF:∀j,w.heap.size<=j->F j)(hv:Jr w.heap.size w v outs)(hs:StAt (H3 wj) F w q st)(Hg:StOk wj st):
  aB N 126 #[JB wj q,L id,v] w λe w'=>M D w w'/\Jpn E wj F (JA id 0 outs st) e w':=by
 obtain⟨rv,kE⟩:∃rv,Jl q=X rv:=⟨_,rfl⟩
 obtain⟨W,hW⟩:∃W,W=((w.alloc (T #[O I (wj:Int),X rv] 146)).alloc (T #[L id] 9)).alloc (T #[O I 0,X Y] 146):=⟨_,rfl⟩
 have hA:M D w W:=by rw[hW];exact M.allocs3 _ _ _ _ _
 have jZ:YI W w.heap.size wj q id:=by rw[hW,kE.symm];exact⟨JU _ _ _ _,JQ _ _ _ _⟩
 have yJ:W.heap[w.heap.size+1+1]? =Z (T #[O I 0,X Y] 146):=by rw[hW];exact JE _ _ _ _
 generalize hR:JA id 0 outs st=aW;have yq:=hE.tch hA noE;have uw:JfT wj F id outs aW W w.heap.size 0 W q st:=⟨jZ,hs.next hA,Hg,hR,Te _ _⟩
 have yM:J (∀what:BA,what.size<=1000->aB N 189 #[L what,v,.func (.func 190) #[] #[X (Z ⟨w.heap.size,0,Y⟩),X (Z ⟨w.heap.size+1,0,Y⟩)]] W λe w'=>ToE (λi w'=>∃q st,JfT wj F id outs aW W w.heap.size i w' q st) (JlG E id aW W w.heap.size) outs.length e w'):=λwhat gU=>by
  rcases hv with⟨rfl,rfl⟩|⟨gi,oi,c,rfl,h1,h2,tC⟩
  ·refine(Jkx _ _ _).mono ?_;rintro _ _⟨rfl,rfl⟩;exact aM ⟨rfl,q,st,uw⟩
  ·refine JqB _ _ _ _ _ _ _ _ (λi hi=>?_) _ _ (Je5 E wj Hn hw F id qn outs ho h3 aW W yq (λj hj=>hF j (Qm hA.size hj)) w.heap.size hE.size gi oi h1 (Qk h2 hA.size) (λi hi=>?_)) h3 gU W ⟨q,st,uw⟩
   ·simp only[Qn,lH,Qd hi];exact⟨_,_,rfl⟩
   ·have hc:∀o,W.cell? ⟨gi,o,Y⟩=w.cell? ⟨gi,o,Y⟩:=λo=>hA.cell (p:=⟨gi,o,Y⟩) h2 (λh=>h);rw[hc,hc];exact tC i hi
 obtain⟨ia,ic,kG⟩:=hv.shape;have jy:J (Jl q=X rv):=kE;have yl:J (W.heap[w.heap.size+1+1]? =_):=yJ;have HA:J (M D w W):=hA;have uQ:∀(fn:Fn)(first cap:Array aG)(w:aA),(lG fn first cap).run N w=.ok (.func fn first cap) w:=λ_ _ _ _=>rfl;have HW:J (W=_):=hW;subst kG;unfold JB;rw[kE];clear hE hF hv hs Hg kE yJ hA uw yq jZ hW ho h3 qn hR;go_enter func126,ntmps126;go_wp2_with fail;rw[<-HW.o];refine(yM.o _ (by decide)).mono ?_;rintro e w2 (⟨rfl,q2,jU,aT⟩|⟨p,sx,vx,w1,rfl,hp,⟨rfl,hR,hb,ht⟩,xU⟩)
 ·have ze:=(Jb yl.o)
  have Hw:w2.heap[w.heap.size+1+1]? =Z (T #[O I 0,X Y] 146):=(aT.tch.block _ ze (by omega)).trans yl.o;obtain⟨v2,kn⟩:∃v,Jl q2=X v:=⟨_,rfl⟩
  have c0:w2.cell? ⟨w.heap.size,0,Y⟩=Z (O I (wj:Int)):=Ja aT.box.s;have c1:w2.cell? ⟨w.heap.size,1,Y⟩=Z (X v2):=by rw[<-kn];exact Ja aT.box.s
  have r0:w2.cell? ⟨w.heap.size+1+1,0,Y⟩=Z (O I 0):=Ja Hw;have r1:w2.cell? ⟨w.heap.size+1+1,1,Y⟩=Z (X Y):=Ja Hw;have fR:∀j,w2.frozen? ⟨w.heap.size+1+1,j,Y⟩=false:=λj=>Qg _ _ _ _ _ Hw;have jK:J (w2.heap[w.heap.size+1+1]? =_):=Hw;have HI:J (JfT wj F id outs aW W w.heap.size outs.length w2 q2 jU):=aT;have gq:J (Jl q2=X v2):=kn;have qQ:w.heap.size+1+1<w2.heap.size:=(Jb Hw)
  clear aT Hw kn yM ze;go_wp2;obtain⟨p1,p2,p3,_⟩:=XF jK.o ((HA.o.trans HI.o.tch (λj hj=>aN (by omega))):M D w w2) (by omega) (O I (wj:Int)) (X v2);refine QK (v:=aI #[aH #[O I (wj:Int),X v2],aK]) (Je results126 _ _ (w.heap.size+1+1) _ _ (0,0) _ rfl p1 underlying146 rfl (by kernel_rfl)) rfl ⟨p2,?_⟩;have e1:=HI.o.eq;rw[lI]at e1;rw[<-e1];exact⟨q2,by rw[JB,gq.o],p3 _ _ _ _ HI.o.at_,HI.o.ok⟩
 ·have ze:=(Jb yl.o)
  have kK:w1.heap[w.heap.size+1+1]? =Z (T #[O I 0,X Y] 146):=(ht.block _ ze (by omega)).trans yl.o;have jH:=(Jb kK)
  have Hw:w2.heap[w.heap.size+1+1]? =Z (T #[O I 0,X Y] 146):=(xU.block _ jH).trans kK;have kZ:w2.heap[w.heap.size]? =Z (T #[O I 0,X Y] 146):=(xU.block _ (Jb hb.s)).trans hb.s;have qQ:w.heap.size+1+1<w2.heap.size:=(Jb Hw)
  have c0:w2.cell? ⟨w.heap.size,0,Y⟩=Z (O I 0):=Ja kZ;have c1:w2.cell? ⟨w.heap.size,1,Y⟩=Z (X Y):=Ja kZ;have r0:w2.cell? ⟨w.heap.size+1+1,0,Y⟩=Z (O I 0):=Ja Hw;have r1:w2.cell? ⟨w.heap.size+1+1,1,Y⟩=Z (X Y):=Ja Hw;have fR:∀j,w2.frozen? ⟨w.heap.size+1+1,j,Y⟩=false:=λj=>Qg _ _ _ _ _ Hw;have jK:J (w2.heap[w.heap.size+1+1]? =_):=Hw;have H6:J (M (λk=>k=w.heap.size) W w2):=ht.trans (M.of_below xU) (λj hj=>aN (Qm ht.size hj));have HP:J (w2.heap[p]? =_):=hp;have HR:J (aW=_):=hR;clear kK Hw kZ xU ht hb hp hR yM ze jH;go_wp2;obtain⟨p1,p2,p3,p4⟩:=XF jK.o ((HA.o.trans H6.o (λj hj=>aN (by omega))):M D w w2) (by omega) (O I 0) (X Y);refine QK (v:=aI #[aH #[O I 0,X Y],aJ 235 (X (Z ⟨p,0,Y⟩))]) (Je results126 _ _ (w.heap.size+1+1) _ _ (0,0) _ rfl p1 underlying146 rfl (by kernel_rfl)) rfl ⟨p2,?_⟩;rw[HR.o];exact⟨_,rfl,p4 _ _ _ (.wrap p _ _ HP.o .base),rfl⟩

structure Zt(w:aA)(aZ wj:Nat)(q:Option Nat)(aU G n:Nat)(sp:List VV):Prop where
 s:w.heap[aZ]? =Z (T #[O I (wj:Int),Jl q] 146)
 m:w.heap[aU]? =Z (T #[R (Z ⟨G,0,Y⟩) n n] 22)
 g:w.heap[G]? =Z (T (Hv sp) 80)
 len:sp.length=n
theorem Zt.next(h:Zt w aZ wj q aU G n sp)(k:M D w w'):Zt w' aZ wj q aU G n sp:=
 ⟨(k.block _ (Jb h.s) (λh=>h)).trans h.s,(k.block _ (Jb h.m) (λh=>h)).trans h.m,(k.block _ (Jb h.g) (λh=>h)).trans h.g,h.len⟩
theorem Zt.cells(h:Zt w aZ wj q aU G n sp)(rv:Option Addr)(kE:Jl q=X rv)(i:Nat)(hi:i<n):w.cell? ⟨aZ,0,Y⟩=Z (O I (wj:Int))/\w.cell? ⟨aZ,1,Y⟩=Z (X rv)/\w.cell? ⟨aU,0,Y⟩=Z (R (Z ⟨G,0,Y⟩) n n)/\
  (∃x0 y0,w.cell? ⟨G,i*2,Y⟩=Z x0/\w.cell? ⟨G,i*2+1,Y⟩=Z y0)/\(∀j,w.frozen? ⟨aZ,j,Y⟩=false)/\(∀j,w.frozen? ⟨G,j,Y⟩=false):=by
 refine⟨Ja h.s,?_,Ja h.m,?_,λj=>Qg _ _ _ _ _ h.s,λj=>Qg _ _ _ _ _ h.g⟩
 ·rw[<-kE];exact Ja h.s
 ·obtain⟨e0,e1⟩:=Yu sp i (by rw[h.len];exact hi);exact⟨_,_,(Ja h.g).trans e0,(Ja h.g).trans e1⟩
theorem Zt.apart(h:Zt w aZ wj q aU G n sp):aZ ≠ G/\aU ≠ G/\aZ ≠ aU:=by
 have h1:=h.s;have h2:=h.m;have h3:=h.g;refine⟨?_,?_,?_⟩
 ·rintro rfl;rw[h1]at h3;simp at h3
 ·rintro rfl;rw[h2]at h3;simp at h3
 ·rintro rfl;rw[h1]at h2;simp at h2
theorem Zt.put(h:Zt W aZ wj q aU G n sp)(hT:M D w W)(i:Nat)(hi:i<n)(Hc:Nat)(q':Option Nat)(v':Option Addr)(hv:Jl q'=X v')(a o:aG):
  M (λk=>k=aZ\/k=G) w ((((W.setCell ⟨aZ,0,Y⟩ (O I (Hc:Int))).setCell ⟨aZ,1,Y⟩ (X v')).setCell ⟨G,i*2,Y⟩ a).setCell ⟨G,i*2+1,Y⟩ o)/\
  Zt ((((W.setCell ⟨aZ,0,Y⟩ (O I (Hc:Int))).setCell ⟨aZ,1,Y⟩ (X v')).setCell ⟨G,i*2,Y⟩ a).setCell ⟨G,i*2+1,Y⟩ o) aZ Hc q' aU G n (sp.set i (a,o))/\
  ∀d F q' st',StAt d F W q' st'->StAt d F ((((W.setCell ⟨aZ,0,Y⟩ (O I (Hc:Int))).setCell ⟨aZ,1,Y⟩ (X v')).setCell ⟨G,i*2,Y⟩ a).setCell ⟨G,i*2+1,Y⟩ o) q' st':=by
 obtain⟨hNG,hMG,hNM⟩:=h.apart;rw[set2 W aZ _ _ _ _ _ h.s];have t1:=Ts W aZ #[O I (Hc:Int),X v'];have g1:(W.setRow aZ #[O I (Hc:Int),X v']).heap[G]? =Z (T (Hv sp) 80):=(t1.block _ (Jb h.g) (by omega)).trans h.g;have m1:(W.setRow aZ #[O I (Hc:Int),X v']).heap[aU]? =Z (T #[R (Z ⟨G,0,Y⟩) n n] 22):=(t1.block _ (Jb h.m) (by omega)).trans h.m;have s1:(W.setRow aZ #[O I (Hc:Int),X v']).heap[aZ]? =Z (T #[O I (Hc:Int),X v'] 146):=Qi _ _ _ _ _ _ h.s;have k1:∀d F q' st',StAt d F W q' st'->StAt d F (W.setRow aZ #[O I (Hc:Int),X v']) q' st':=λd F q' st' hs=>hs.row h.s (by decide);have T1:M (λk=>k=aZ\/k=G) w (W.setRow aZ #[O I (Hc:Int),X v']):=(hT.mono noE).trans t1 (λj hj=>aM (aM hj));generalize W.setRow aZ #[O I (Hc:Int),X v']=W1 at *;rw[Qj W1 G (i*2) _ _ (0,0) _ g1,Qj _ G (i*2+1) _ _ (0,0) _ (Qi _ _ _ _ _ _ g1),QI,JgE sp i a o (by rw[h.len];exact hi)];have t2:=Ts W1 G (Hv (sp.set i (a,o)));refine⟨T1.trans t2 (λj hj=>aM (aN hj)),⟨?_,(t2.block _ (Jb m1) (by omega)).trans m1,Qi _ _ _ _ _ _ g1,by rw[List.length_set];exact h.len⟩,λd F q' st' hs=>(k1 _ _ _ _ hs).row g1 (by decide)⟩;rw[hv];exact(t2.block _ (Jb s1) (by omega)).trans s1
def SpTo(E:Nat->Addr)(wj:Nat)(F:Nat->Prop)(aZ aU G n i:Nat)(sp:List VV)(r:Except Er (Option Tr×(Nat×Nat)))(e:Ending)(w':aA):Prop:=match r with
 | .ok (st',o)=>∃q',e=aC aK/\Zt w' aZ wj q' aU G n (sp.set i (encO o))/\StAt (H3 wj) F w' q' st'
 | .error _=>e=aC (eV E 1)/\Zt w' aZ 0 Y aU G n (sp.set i zO)
theorem Jli(E:Nat->Addr)(wj:Nat)(Hn:1<=wj)(hw:wj<=32)(F:Nat->Prop)(aZ:Nat)(q:Option Nat)(st:Option Tr)(aU G n:Nat)(sp:List VV)(i:Nat)(hi:i<n)(c:BA×Int)(hc:Jj wj c)(w:aA)(hE:Env E w)(hF:∀j,w.heap.size<=j->F j)(hB:Zt w aZ wj q aU G n sp)(hs:StAt (H3 wj) F w q st)(Hg:StOk wj st):
  aB N 283 #[O I (i:Int),aH #[L c.1,O I c.2],X (Z ⟨aZ,0,Y⟩),X (Z ⟨aU,0,Y⟩)] w λe w'=>M (λk=>k=aZ\/k=G) w w'/\SpTo E wj F aZ aU G n i sp (JW st (Jc c)) e w':=by
 have HW:J (∀W,M D w W->aB N 284 #[JB wj q,aH #[L c.1,O I c.2]] W λe w'=>M D W w'/\WoTo E wj F (JW st (Jc c)) e w'):=λW hT=>
  Jio E wj Hn hw F q st c hc W (hE.tch hT noE) (λj hj=>hF j (Qm hT.size hj)) (hs.next hT) Hg
 have kN:J _:=hB;obtain⟨rv,kE⟩:∃rv,Jl q=X rv:=⟨_,rfl⟩
 have hNs:aZ<w.heap.size:=(Jb hB.s)
 have hMs:aU<w.heap.size:=(Jb hB.m)
 have hGs:G<w.heap.size:=(Jb hB.g)
 have a0:w.cell? ⟨aZ,0,Y⟩=Z (O I (wj:Int)):=Ja hB.s;have a1:w.cell? ⟨aZ,1,Y⟩=Z (X rv):=by rw[<-kE];exact Ja hB.s
 have a2:w.cell? ⟨aU,0,Y⟩=Z (R (Z ⟨G,0,Y⟩) n n):=Ja hB.m;obtain⟨hNG,hMG,hNM⟩:=hB.apart;have hGN:=hNG.symm;have hGM:=hMG.symm;have hMN:=hNM.symm;have hii:(i:Int)<(n:Int):=by omega
 have uw:(0:Int)<=(i:Int):=by omega
 have jy:J _:=kE;unfold JB at HW;rw[kE]at HW;generalize hR:JW st (Jc c)=aW at *;clear hE hF hB hs Hg kE hc;obtain⟨cs,cn⟩:=c;dsimp only at HW ⊢;have kI:J (∀k,M D w ((w.alloc (T #[L cs,O I cn] 49)).drewN k)):=λk=>(Ta _ _ _).dr k;go_enter func283,ntmps283;go_wp2_with fail
 cases aW with
 | ok r=>
  obtain⟨st',o⟩:=r;go_region_with (go_at_call 284;refine(HW.o _ (kI.o 1)).mono ?_;rintro _ w2⟨Ha,q2,rfl,kZ⟩;have hT:M D w w2:=(kI.o 1).go Ha;obtain⟨b0,b1,b2,⟨x0,y0,b3,b4⟩,fN,fG⟩:=(kN.o.next hT).cells rv jy.o i hi;obtain⟨v2,kn⟩:∃v,Jl q2=X v:=⟨_,rfl⟩;have gq:J _:=kn;unfold JB;rw[kn];have HT:J _:=hT;have jm:J _:=kZ;clear kn hT Ha kZ)
  all_goals go_wp2;go_ret;obtain⟨p1,p2,p3⟩:=(kN.o.next HT.o).put HT.o i hi wj q2 v2 gq.o (O aD (o.1:Int)) (O aE (o.2:Int));exact⟨p1,q2,rfl,p2,p3 _ _ _ _ jm.o⟩
 | error er=>
  go_region_with (go_at_call 284;refine(HW.o _ (kI.o 1)).mono ?_;rintro _ w2⟨Ha,rfl⟩;have hT:M D w w2:=(kI.o 1).go Ha;obtain⟨b0,b1,b2,⟨x0,y0,b3,b4⟩,fN,fG⟩:=(kN.o.next hT).cells rv jy.o i hi;have HT:J _:=hT;clear hT Ha)
  all_goals go_wp2;go_ret;obtain⟨p1,p2,p3⟩:=(kN.o.next HT.o).put HT.o i hi 0 Y Y rfl (O aD 0) (O aE 0);exact⟨p1,rfl,p2⟩

theorem Jkw(fv:aG)(what:BA)(w:aA):aB N 280 #[L what,R Y 0 0,fv] w λe w'=>e=aC aK/\w=w':=by
 go_enter func280,ntmps280;go_wp2;go_loopw [12] (λi wr=>i=O I 0/\w=wr) (λi _=>0)
 case atStart=>exact⟨rfl,rfl⟩
 case round=>obtain⟨rfl,rfl⟩:=hrel;go_wp2;go_ret;exact⟨rfl,rfl⟩
theorem ZS{fn:Func}{p t t2:Tmp}(h:fn.results= #[.cell p ty,.tmp t,.tmp t2])(tmps:Array aG)(w:aA)(g:Nat)(aY:TypeId)(cs:Array aG)(fr:Nat×Nat)(d:TypeDesc)
 (hp:tmps.getD p undef=X (Z ⟨g,0,Y⟩)) (hg:w.heap[g]? =Z (T cs aY fr))
 (hu:P.underlying ty=Z d) (hd:(match d with | .struct _ | .array _ _=>true|_=>false)=true) (hi:(P.info? ty).map (·.size)=Z cs.size):
  (results fn tmps).run P w=.ok (aI #[aH cs,tmps.getD t undef,tmps.getD t2 undef]) w:=by
 have vF:tmps[p]?.getD undef=X (Z ⟨g,0,Y⟩):=by simpa using hp
 simp[results,h,vF,asAddr,run_loadVar_row w g aY ty cs fr d hg hu hd hi]
theorem Jr.of_row{c:Nat}{H4:List (Nat×Nat)}(h:w.heap[G]? =Z (T (Hv (H4.map encO)) 80))(hB:G<B):Jr B w (R (Z ⟨G,0,Y⟩) H4.length c) H4:=by
 refine aN ⟨G,0,c,rfl,hB,(Jb h),λi hi=>?_⟩;obtain⟨e0,e1⟩:=Yu (H4.map encO) i (by simpa using hi);rw[List.getElem_map]at e0 e1;rw[Nat.zero_add];exact⟨(Ja h).trans e0,(Ja h).trans e1⟩
theorem JcR{a b:aG}(h:W.heap[g]? =Z (T #[a,b] 146))(v0 v1:aG):M (λk=>k=g) W ((W.setCell ⟨g,0,Y⟩ v0).setCell ⟨g,1,Y⟩ v1):=by
 rw[set2 W g _ _ _ _ _ h];exact Ts W g #[v0,v1]
def Jev(H4:List (Nat×Nat))(r:Except Er (Option Tr×List (Nat×Nat))):Except Er (Option Tr×List (Nat×Nat)):=match r with
 | .error e=>.error e
 | .ok (st,os)=>.ok (st,H4++os)
theorem JhY(coins:List (BA×Int))(i:Nat)(h:i<coins.length)(st:Option Tr)(H4:List (Nat×Nat)):Jev H4 (Xd (coins.drop i) st)=match JW st (Jc coins[i]) with
  | .error e=>.error e
  | .ok (kW,o)=>Jev (H4++[o]) (Xd (coins.drop (i+1)) kW):=by
 rw[lF h];show Jev H4 (match JW st (Jc coins[i]) with | .error e=>.error e | .ok (kW,o)=>match Xd (coins.drop (i+1)) kW with | .error e=>.error e | .ok (jU,os)=>.ok (jU,o::os))=_
 cases JW st (Jc coins[i]) with
 | error e=>rfl
 | ok r=>
  obtain⟨kW,o⟩:=r;simp only
  cases Xd (coins.drop (i+1)) kW with
  | error e=>rfl
  | ok r=>obtain⟨jU,os⟩:=r;simp[Jev]
structure JjE(wj:Nat)(F:Nat->Prop)(coins:List (BA×Int))(aW:Except Er (Option Tr×List (Nat×Nat)))(w0:aA)(aZ aU G:Nat)(i:Nat)(w:aA)(q:Option Nat)(st:Option Tr)(H4:List (Nat×Nat)):Prop where
 box:Zt w aZ wj q aU G coins.length (H4.map encO++lC (coins.length-i) zO)
 len:H4.length=i
 outs:∀o∈H4,Jy o
 at_:StAt (H3 wj) F w q st
 ok:StOk wj st
 eq:Jev H4 (Xd (coins.drop i) st)=aW
 tch:M (λk=>k=aZ\/k=G) w0 w
def Jpo(E:Nat->Addr)(n:Nat)(aW:Except Er (Option Tr×List (Nat×Nat)))(w0:aA)(aZ aU G:Nat)(v:aG)(w:aA):Prop:=v=eV E 1/\aW=.error .input/\(∃sp,Zt w aZ 0 Y aU G n sp)/\M (λk=>k=aZ\/k=G) w0 w
theorem JhZ(E:Nat->Addr)(wj:Nat)(Hn:1<=wj)(hw:wj<=32)(F:Nat->Prop)(coins:List (BA×Int))(yf:∀c∈coins,Jj wj c)(aW:Except Er (Option Tr×List (Nat×Nat)))(w0:aA)(hE:Env E w0)(hF:∀j,w0.heap.size<=j->F j)(aZ aU G:Nat)(hN:18<=aZ)(hG:aZ<=G)(g off:Nat)(hg:g<aZ)(hz:g<w0.heap.size)
 (hr:∀i (h:i<coins.length),w0.cell? ⟨g,off+i*2,Y⟩=Z (L coins[i].1)/\w0.cell? ⟨g,off+i*2+1,Y⟩=Z (O I coins[i].2)):
  JcW 283 #[X (Z ⟨aZ,0,Y⟩),X (Z ⟨aU,0,Y⟩)] g off coins.length (λi=>(coins.map encC).getD i zC) (λi w=>∃q st H4,JjE wj F coins aW w0 aZ aU G i w q st H4) (Jpo E coins.length aW w0 aZ aU G):=by
 have hx:∀i (h:i<coins.length),(coins.map encC).getD i zC=encC coins[i]:=λi h=>by simp[lE,h]
 refine⟨λ_ _=>rfl,?_,?_,?_⟩
 ·rintro i w hi⟨q,st,H4,aT⟩;rw[hx i hi];have hc:∀o,w.cell? ⟨g,o,Y⟩=w0.cell? ⟨g,o,Y⟩:=λo=>aT.tch.cell (p:=⟨g,o,Y⟩) hz (by show ¬(g=aZ\/g=G);omega);rw[hc,hc];exact hr i hi
 ·rintro i w o⟨q,st,H4,aT⟩;have ha:=Ta D w o;exact⟨q,st,H4,aT.box.next ha,aT.len,aT.outs,aT.at_.next ha,aT.ok,aT.eq,aT.tch.go ha⟩
 ·rintro i w hi⟨q,st,H4,aT⟩;rw[hx i hi];have tp:Jj wj coins[i]:=yf _ (Qx hi);refine(Jli E wj Hn hw F aZ q st aU G coins.length _ i hi coins[i] tp w (hE.tch aT.tch (λj hj=>by omega)) (λj hj=>hF j (Qm aT.tch.size hj)) aT.box aT.at_ aT.ok).mono ?_;rintro e w'⟨ht,hr⟩;have e1:=aT.eq;rw[JhY coins i hi]at e1;have hT:M (λk=>k=aZ\/k=G) w0 w':=aT.tch.trans ht (λj hj=>aM hj)
  cases kP:JW st (Jc coins[i]) with
  | ok r=>
   obtain⟨st',o⟩:=r;rw[kP]at hr e1;obtain⟨q',rfl,hb,hs⟩:=hr;obtain⟨k1,k2⟩:=aT.ok.without kP;refine aM ⟨rfl,q',st',H4++[o],?_,by simp[aT.len],λx hx=>?_,hs,k1,e1,hT⟩
   ·have:(H4.map encO++lC (coins.length-i) zO).set i (encO o)=(H4++[o]).map encO++lC (coins.length-(i+1)) zO:=by
     have hl:=aT.len;rw[List.set_append_right _ _ (by simp;omega),QM,hl,Nat.sub_self,show coins.length-i=(coins.length-(i+1))+1 by omega,List.replicate_succ];simp
    rw[<-this];exact hb
   ·rcases QE.1 hx with h|h
    ·exact aT.outs x h
    ·rw[Qt.1 h];exact k2
  | error er=>
   rw[kP]at hr e1;obtain⟨rfl,hb⟩:=hr;have:=JgF kP;subst this;exact aN ⟨_,_,rfl,rfl,e1.symm,⟨_,hb⟩,hT⟩
theorem JqJ(n:Nat)(h:n<=3)(w:aA):(Instr.makeSlice 22 (O I (n:Int)) (O I (n:Int))).run N w=.ok (R (Z ⟨w.heap.size,0,Y⟩) n n) (w.alloc (T (Hv (lC n zO)) 80)):=by
 obtain rfl|rfl|rfl|rfl:n=0\/n=1\/n=2\/n=3:=by omega
 all_goals kernel_rfl
def Jpp(E:Nat->Addr)(wj:Nat)(F:Nat->Prop)(r:Except Er (Option Tr×List (Nat×Nat)))(e:Ending)(w':aA):Prop:=match r with
 | .ok (st',os)=>∃q' G c,e=aC (aI #[JB wj q',R (Z ⟨G,0,Y⟩) os.length c,aK])/\StAt (H3 wj) F w' q' st'/\StOk wj st'/\w'.heap[G]? =Z (T (Hv (os.map encO)) 80)/\(∀o∈os,Jy o)/\os.length<=3
 | .error er=>∃x v,e=aC (aI #[JB 0 Y,x,v])/\Jn E (erG er) w' v/\er=.input
theorem Jlj(E:Nat->Addr)(wj:Nat)(Hn:1<=wj)(hw:wj<=32)(F:Nat->Prop)(q:Option Nat)(st:Option Tr)(v:aG)(coins:List (BA×Int))(yf:∀c∈coins,Jj wj c)(h3:coins.length<=3)(w:aA)(hE:Env E w)(hF:∀j,w.heap.size<=j->F j)(hv:JG w.heap.size w v coins)(hs:StAt (H3 wj) F w q st)(Hg:StOk wj st):
  aB N 207 #[JB wj q,v] w λe w'=>M D w w'/\Jpp E wj F (Xd coins st) e w':=by
 obtain⟨rv,kE⟩:∃rv,Jl q=X rv:=⟨_,rfl⟩
 obtain⟨n,hn⟩:∃n,n=coins.length:=⟨_,rfl⟩
 obtain⟨W0,cq⟩:∃W,W=((w.alloc (T #[O I (wj:Int),X rv] 146)).alloc (T #[O I 0,X Y] 146)).alloc (T (Hv (lC n zO)) 80):=⟨_,rfl⟩
 obtain⟨W,hW⟩:∃W,W=W0.alloc (T #[R (Z ⟨w.heap.size+2,0,Y⟩) n n] 22):=⟨_,rfl⟩
 have xV:W0.heap.size=w.heap.size+3:=by rw[cq];simp
 have qY:M D w W0:=by rw[cq];exact M.allocs3 _ _ _ _ _
 have zZ:M D W0 W:=by rw[hW];exact Ta _ _ _
 have hA:M D w W:=qY.go zZ;have f0:W0.heap[w.heap.size]? =Z (T #[O I (wj:Int),X rv] 146):=by rw[cq];exact JU _ _ _ _
 have f1:W0.heap[w.heap.size+1]? =Z (T #[O I 0,X Y] 146):=by rw[cq];exact JQ _ _ _ _
 have f2:W0.heap[w.heap.size+2]? =Z (T (Hv (lC n zO)) 80):=by rw[cq];exact JE _ _ _ _
 have jZ:Zt W w.heap.size wj q (w.heap.size+3) (w.heap.size+2) coins.length (lC (coins.length-0) zO):=by
  rw[<-hn,Nat.sub_zero];refine⟨?_,?_,?_,by simp⟩
  ·rw[kE];exact(zZ.block _ (by omega) (λh=>h)).trans f0
  ·rw[hW,<-xV];exact Qf _ _
  ·exact(zZ.block _ (by omega) (λh=>h)).trans f2
 have yJ:W.heap[w.heap.size+1]? =Z (T #[O I 0,X Y] 146):=(zZ.block _ (by omega) (λh=>h)).trans f1;generalize hR:Xd coins st=aW;have yq:=hE.tch hA noE;have uw:JjE wj F coins aW W w.heap.size (w.heap.size+3) (w.heap.size+2) 0 W q st []:=⟨jZ,rfl,(λ_ h=>by cases h),hs.next hA,Hg,by rw[List.drop_zero,hR];cases aW with|error e=>rfl|ok r=>rfl,Te _ _⟩
 have yM:J (∀what:BA,what.size<=1000->aB N 280 #[L what,v,.func (.func 283) #[] #[X (Z ⟨w.heap.size,0,Y⟩),X (Z ⟨w.heap.size+3,0,Y⟩)]] W λe w'=>ToE (λi w'=>∃q st H4,JjE wj F coins aW W w.heap.size (w.heap.size+3) (w.heap.size+2) i w' q st H4) (Jpo E coins.length aW W w.heap.size (w.heap.size+3) (w.heap.size+2)) coins.length e w'):=λwhat gU=>by
  rcases hv with⟨rfl,rfl⟩|⟨gi,oi,c,rfl,h1,h2,tC⟩
  ·refine(Jkw _ _ _).mono ?_;rintro _ _⟨rfl,rfl⟩;exact aM ⟨rfl,q,st,[],uw⟩
  ·refine JqA _ _ _ _ _ _ _ _ (λi hi=>?_) _ _ (JhZ E wj Hn hw F coins yf aW W yq (λj hj=>hF j (Qm hA.size hj)) w.heap.size (w.heap.size+3) (w.heap.size+2) hE.size (by omega) gi oi h1 (Qk h2 hA.size) (λi hi=>?_)) h3 gU W ⟨q,st,[],uw⟩
   ·simp only[Qn,lH,Qd hi];exact⟨_,_,rfl⟩
   ·have hc:∀o,W.cell? ⟨gi,o,Y⟩=w.cell? ⟨gi,o,Y⟩:=λo=>hA.cell (p:=⟨gi,o,Y⟩) h2 (λh=>h);rw[hc,hc];exact tC i hi
 obtain⟨ia,ic,kG⟩:=hv.shape;have jy:J _:=kE;have yl:J _:=yJ;have HA:J _:=hA;have uQ:∀(fn:Fn)(first cap:Array aG)(w:aA),(lG fn first cap).run N w=.ok (.func fn first cap) w:=λ_ _ _ _=>rfl;have HMK:J (∀w,(Instr.makeSlice 22 (O I (n:Int)) (O I (n:Int))).run N w=.ok (R (Z ⟨w.heap.size,0,Y⟩) n n) (w.alloc (T (Hv (lC n zO)) 80))):=λw=>JqJ n (by omega) w;have HW:J (W=(((w.alloc (T #[O I (wj:Int),X rv] 146)).alloc (T #[O I 0,X Y] 146)).alloc (T (Hv (lC n zO)) 80)).alloc (T #[R (Z ⟨w.heap.size+2,0,Y⟩) n n] 22)):=by rw[cq]at hW;exact hW
 have HN:J _:=hn;subst kG;unfold JB;rw[kE];rw[<-hn]at yM ⊢;have hn3:n<=3:=by omega
 clear hE hF hv hs Hg kE yJ hA uw yq jZ hW cq yf h3 hR qY zZ f0 f1 f2 xV hn;have qZ:=HMK.o;go_enter func207,ntmps207;go_wp2_with fail;rw[<-HW.o];refine(yM.o _ (by decide)).mono ?_;rintro e w2 (⟨rfl,q2,jU,H4,aT⟩|⟨p,sx,vx,w1,rfl,hp,⟨rfl,hR,⟨sp,hb⟩,ht⟩,xU⟩)
 ·have ze:=(Jb yl.o)
  have Hw:w2.heap[w.heap.size+1]? =Z (T #[O I 0,X Y] 146):=(aT.tch.block _ ze (by omega)).trans yl.o;obtain⟨v2,kn⟩:∃v,Jl q2=X v:=⟨_,rfl⟩
  have c0:w2.cell? ⟨w.heap.size,0,Y⟩=Z (O I (wj:Int)):=Ja aT.box.s;have c1:w2.cell? ⟨w.heap.size,1,Y⟩=Z (X v2):=by rw[<-kn];exact Ja aT.box.s
  have c2:w2.cell? ⟨w.heap.size+1+1+1,0,Y⟩=Z (R (Z ⟨w.heap.size+2,0,Y⟩) n n):=by rw[HN.o];exact Ja aT.box.m
  have r0:w2.cell? ⟨w.heap.size+1,0,Y⟩=Z (O I 0):=Ja Hw;have r1:w2.cell? ⟨w.heap.size+1,1,Y⟩=Z (X Y):=Ja Hw;have fR:∀j,w2.frozen? ⟨w.heap.size+1,j,Y⟩=false:=λj=>Qg _ _ _ _ _ Hw;have jK:J _:=Hw;have HI:J (JjE wj F coins aW W w.heap.size (w.heap.size+3) (w.heap.size+2) coins.length w2 q2 jU H4):=by rw[<-HN.o];exact aT
  have gq:J _:=kn;have qQ:w.heap.size+3<w2.heap.size:=(Jb aT.box.m)
  clear aT Hw kn yM ze qZ;go_wp2;go_region
  all_goals
   go_wp2;obtain⟨p1,p2,p3,_⟩:=XF jK.o ((HA.o.trans HI.o.tch (λj hj=>aN (by omega))):M D w w2) (by omega) (O I (wj:Int)) (X v2);refine QK (v:=aI #[aH #[O I (wj:Int),X v2],R (Z ⟨w.heap.size+2,0,Y⟩) n n,aK]) (ZS results207 _ _ (w.heap.size+1) _ _ (0,0) _ rfl p1 underlying146 rfl (by kernel_rfl)) rfl ⟨p2.dr 1,?_⟩;have e1:=HI.o.eq;rw[lI]at e1;rw[<-e1];have qq:H4.length=n:=(by rw[HN.o];exact HI.o.len);have hb:=HI.o.box;rw[Nat.sub_self,List.replicate_zero,QC]at hb;refine⟨q2,w.heap.size+2,n,?_,(p3 _ _ _ _ HI.o.at_).next (Td _ _ 1),HI.o.ok,?_,?_,?_⟩
   ·simp only[QC];rw[JB,gq.o,qq]
   ·have hg:=((JcR jK.o (O I (wj:Int)) (X v2)).dr 1).block (w.heap.size+2) (by omega) (by omega);simp only[QC];exact hg.trans hb.g
   ·simp only[QC];exact HI.o.outs
   ·simp only[QC];omega
 ·have ze:=(Jb yl.o)
  have kK:w1.heap[w.heap.size+1]? =Z (T #[O I 0,X Y] 146):=(ht.block _ ze (by omega)).trans yl.o;have jH:=(Jb kK)
  have Hw:w2.heap[w.heap.size+1]? =Z (T #[O I 0,X Y] 146):=(xU.block _ jH).trans kK;have kZ:w2.heap[w.heap.size]? =Z (T #[O I 0,X Y] 146):=(xU.block _ (Jb hb.s)).trans hb.s;have gK:w2.heap[w.heap.size+3]? =Z (T #[R (Z ⟨w.heap.size+2,0,Y⟩) n n] 22):=(xU.block _ (Jb hb.m)).trans hb.m;have c0:w2.cell? ⟨w.heap.size,0,Y⟩=Z (O I 0):=Ja kZ;have c1:w2.cell? ⟨w.heap.size,1,Y⟩=Z (X Y):=Ja kZ;have c2:w2.cell? ⟨w.heap.size+1+1+1,0,Y⟩=Z (R (Z ⟨w.heap.size+2,0,Y⟩) n n):=Ja gK;have r0:w2.cell? ⟨w.heap.size+1,0,Y⟩=Z (O I 0):=Ja Hw;have r1:w2.cell? ⟨w.heap.size+1,1,Y⟩=Z (X Y):=Ja Hw;have fR:∀j,w2.frozen? ⟨w.heap.size+1,j,Y⟩=false:=λj=>Qg _ _ _ _ _ Hw;have jK:J _:=Hw;have H6:J (M (λk=>k=w.heap.size\/k=w.heap.size+2) W w2):=ht.trans (M.of_below xU) (λj hj=>aN (Qm ht.size hj));have HP:J _:=hp;have HR:J (aW=_):=hR;have qQ:w.heap.size+3<w2.heap.size:=(Jb gK)
  clear kK Hw kZ xU ht hb hp hR yM ze jH gK qZ;go_wp2;go_region
  all_goals go_wp2;obtain⟨p1,p2,p3,p4⟩:=XF jK.o ((HA.o.trans H6.o (λj hj=>aN (by omega))):M D w w2) (by omega) (O I 0) (X Y);refine QK (v:=aI #[aH #[O I 0,X Y],R (Z ⟨w.heap.size+2,0,Y⟩) n n,aJ 235 (X (Z ⟨p,0,Y⟩))]) (ZS results207 _ _ (w.heap.size+1) _ _ (0,0) _ rfl p1 underlying146 rfl (by kernel_rfl)) rfl ⟨p2.dr 1,?_⟩;rw[HR.o];exact⟨_,_,rfl,Jn.tch (p4 _ _ _ (.wrap p _ _ HP.o .base)) (Td D _ 1) (λ_ _ _ _ h=>h),rfl⟩

theorem txB?_ok{wj:Nat}{t:TxL}(h:TxOk wj t):txB? wj t=Z (txB t):=by
 unfold txB?;rw[(Jpv wj t h).wr []];rfl
theorem JfW(dg:List UInt8->BA)(st:Option Tr)(t:TxL):JI dg st t=match Xd t.1 st with
  | .error e=>.error e
  | .ok (kW,os)=>match JA (dg (84::txB t)) 0 t.2 kW with
   | .error e=>.error e
   | .ok jU=>haveI:=JdD os t.2;if Xo os t.2 then .error .sum else .ok jU:=rfl
structure Yl(W:aA)(aZ wj:Nat)(q:Option Nat)(x:Sl×Sl):Prop where
 s:W.heap[aZ]? =Z (T #[O I (wj:Int),Jl q] 146)
 t:W.heap[aZ+1]? =Z (T #[R x.1.1 x.1.2.1 x.1.2.2,R x.2.1 x.2.2.1 x.2.2.2] 98)
 r:W.heap[aZ+1+1]? =Z (T #[O I 0,X Y] 146)
theorem Yl.next(h:Yl w aZ wj q x)(k:M D w w'):Yl w' aZ wj q x:=
 ⟨(k.block _ (Jb h.s) (λh=>h)).trans h.s,(k.block _ (Jb h.t) (λh=>h)).trans h.t,(k.block _ (Jb h.r) (λh=>h)).trans h.r⟩
theorem Yl.put(h:Yl W aZ wj q x)(Hc:Nat)(q':Option Nat)(v':Option Addr)(hv:Jl q'=X v'):Yl ((W.setCell ⟨aZ,0,Y⟩ (O I (Hc:Int))).setCell ⟨aZ,1,Y⟩ (X v')) aZ Hc q' x:=by
 have k:=JcR h.s (O I (Hc:Int)) (X v');refine⟨?_,(k.block _ (Jb h.t) (by omega)).trans h.t,(k.block _ (Jb h.r) (by omega)).trans h.r⟩;rw[set2 W aZ _ _ _ _ _ h.s,hv];exact Qi _ _ _ _ _ _ h.s
theorem Yl.cells(h:Yl W aZ wj q x)(rv:Option Addr)(kE:Jl q=X rv):(W.cell? ⟨aZ,0,Y⟩=Z (O I (wj:Int))/\W.cell? ⟨aZ,1,Y⟩=Z (X rv))/\(W.cell? ⟨aZ+1,0,Y⟩=Z (R x.1.1 x.1.2.1 x.1.2.2)/\W.cell? ⟨aZ+1,1,Y⟩=Z (R x.2.1 x.2.2.1 x.2.2.2))/\
  (W.cell? ⟨aZ+1+1,0,Y⟩=Z (O I 0)/\W.cell? ⟨aZ+1+1,1,Y⟩=Z (X Y))/\(∀j,W.frozen? ⟨aZ,j,Y⟩=false)/\(∀j,W.frozen? ⟨aZ+1+1,j,Y⟩=false)/\aZ+1+1<W.heap.size:=by
 refine⟨⟨Ja h.s,?_⟩,⟨Ja h.t,Ja h.t⟩,⟨Ja h.r,Ja h.r⟩,λj=>Qg _ _ _ _ _ h.s,λj=>Qg _ _ _ _ _ h.r,(Jb h.r)⟩;rw[<-kE];exact Ja h.s
theorem Yl.both(h:Yl W aZ wj q x)(hT:M D w W)(hN:w.heap.size<=aZ)(Hc:Nat)(q':Option Nat)(v':Option Addr)(hv:Jl q'=X v'):
  Yl ((W.setCell ⟨aZ,0,Y⟩ (O I (Hc:Int))).setCell ⟨aZ,1,Y⟩ (X v')) aZ Hc q' x/\M D w ((W.setCell ⟨aZ,0,Y⟩ (O I (Hc:Int))).setCell ⟨aZ,1,Y⟩ (X v'))/\
  (∀d F q' st',StAt d F W q' st'->StAt d F ((W.setCell ⟨aZ,0,Y⟩ (O I (Hc:Int))).setCell ⟨aZ,1,Y⟩ (X v')) q' st')/\(∀E k v,Jn E k W v->Jn E k ((W.setCell ⟨aZ,0,Y⟩ (O I (Hc:Int))).setCell ⟨aZ,1,Y⟩ (X v')) v)/\
  ∀(G:Nat)(c:Array aG),W.heap[G]? =Z (T c 80)->((W.setCell ⟨aZ,0,Y⟩ (O I (Hc:Int))).setCell ⟨aZ,1,Y⟩ (X v')).heap[G]? =Z (T c 80):=by
 obtain⟨_,p2,p3,p4⟩:=XF h.s hT hN (O I (Hc:Int)) (X v');refine⟨h.put Hc q' v' hv,p2,p3,p4,λG c hg=>?_⟩;refine((JcR h.s _ _).block G (Jb hg) ?_).trans hg;rintro rfl;rw[h.s]at hg;simp at hg
def ApTo(E:Nat->Addr)(wj:Nat)(F:Nat->Prop)(r:Except Er (Option Tr))(e:Ending)(w':aA):Prop:=match r with
 | .ok st'=>∃q',e=aC (aI #[JB wj q',aK])/\StAt (H3 wj) F w' q' st'/\StOk wj st'
 | .error er=>∃(u:Nat)(q':Option Nat)(t:TypeId)(v:aG),e=aC (aI #[JB u q',aJ t v])/\Jn E (erG er) w' (aJ t v)
theorem JfX(E:Nat->Addr)(wj:Nat)(Hn:1<=wj)(hw:wj<=32)(F:Nat->Prop)(q:Option Nat)(st:Option Tr)(x:Sl×Sl)(t:TxL)(ht:TxOk wj t)(w:aA)(hE:Env E w)(hF:∀j,w.heap.size<=j->F j)(h1:JG w.heap.size w (R x.1.1 x.1.2.1 x.1.2.2) t.1)(h2:Jr w.heap.size w (R x.2.1 x.2.2.1 x.2.2.2) t.2)(hs:StAt (H3 wj) F w q st)(Hg:StOk wj st):
  aB N 137 #[O I (wj:Int),JB wj q,aH #[R x.1.1 x.1.2.1 x.1.2.2,R x.2.1 x.2.2.1 x.2.2.2]] w λe w'=>M D w w'/\ApTo E wj F (JI (H3 wj) st t) e w':=by
 have hm:=ht.made;have hi3:=ht.ins;have zy:J (∀W,M D w W->aB N 206 #[O I (wj:Int),aH #[R x.1.1 x.1.2.1 x.1.2.2,R x.2.1 x.2.2.1 x.2.2.2]] W λe w'=>e=aC (aI #[L (H3 wj (84::txB t)),aK])/\M D W w'):=λW hT=>by
  refine(JnI E wj Hn hw x t W (hE.tch hT noE) ((h1.tch hT noE).up hT.size) ((h2.tch hT noE).up hT.size) (by omega) (by omega) (λo ho=>(ht.outs o ho).2)).mono ?_;rintro e w'⟨k1,k2⟩;rw[txB?_ok ht]at k2;exact⟨k2,k1⟩
 have rh:J (∀W,M D w W->aB N 207 #[JB wj q,R x.1.1 x.1.2.1 x.1.2.2] W λe w'=>M D W w'/\Jpp E wj F (Xd t.1 st) e w'):=λW hT=>
  Jlj E wj Hn hw F q st _ t.1 ht.coins hi3 W (hE.tch hT noE) (λj hj=>hF j (Qm hT.size hj)) ((h1.tch hT noE).up hT.size) (hs.next hT) Hg
 have xW:J (∀W q1 kW,M D w W->StAt (H3 wj) F W q1 kW->StOk wj kW->aB N 126 #[JB wj q1,L (H3 wj (84::txB t)),R x.2.1 x.2.2.1 x.2.2.2] W λe w'=>M D W w'/\Jpn E wj F (JA (H3 wj (84::txB t)) 0 t.2 kW) e w'):=λW q1 kW hT k1 k2=>
  Jc9 E wj Hn hw F q1 kW _ (Jk wj hw _) _ t.2 ht.outs hm W (hE.tch hT noE) (λj hj=>hF j (Qm hT.size hj)) ((h2.tch hT noE).up hT.size) k1 k2
 have pM:J (∀W G c os,M D w W->W.heap[G]? =Z (T (Hv (os.map encO)) 80)->(∀o∈os,Jy o)->os.length<=3->aB N 208 #[R (Z ⟨G,0,Y⟩) os.length c,R x.2.1 x.2.2.1 x.2.2.2] W λe w'=>M D W w'/\((¬Xo os t.2/\e=aC aK)\/(Xo os t.2/\∃v,e=aC v/\Jn E 3 w' v))):=λW G c os hT hr ho h3=>
  JeS E W.heap.size _ _ os t.2 (by omega) (by omega) (λo h=>(ho o h).1) (λo h=>(ht.outs o h).1) W (hE.tch hT noE) (Jr.of_row hr (Jb hr)) ((h2.tch hT noE).up hT.size)
 obtain⟨rv,kE⟩:∃rv,Jl q=X rv:=⟨_,rfl⟩
 obtain⟨W,hW⟩:∃W,W=((w.alloc (T #[O I (wj:Int),X rv] 146)).alloc (T #[R x.1.1 x.1.2.1 x.1.2.2,R x.2.1 x.2.2.1 x.2.2.2] 98)).alloc (T #[O I 0,X Y] 146):=⟨_,rfl⟩
 have hA:M D w W:=by rw[hW];exact M.allocs3 _ _ _ _ _
 have jZ:Yl W w.heap.size wj q x:=by rw[hW,kE.symm];exact⟨JU _ _ _ _,JQ _ _ _ _,JE _ _ _ _⟩
 have xN:J (JI (H3 wj) st t=match Xd t.1 st with
  | .error e=>.error e
  | .ok (kW,os)=>match JA (H3 wj (84::txB t)) 0 t.2 kW with
   | .error e=>.error e
   | .ok jU=>haveI:=JdD os t.2;if Xo os t.2 then .error .sum else .ok jU):=JfW (H3 wj) st t
 generalize JI (H3 wj) st t=AP at *;generalize H3 wj (84::txB t)=id at *;have HS:J (StAt (H3 wj) F W q st):=hs.next hA;have kN:J (Yl W w.heap.size wj q x):=jZ;have jy:J (Jl q=X rv):=kE;have HA:J (M D w W):=hA;have HW:J (W=_):=hW;obtain⟨⟨a0,a1⟩,⟨a2,a3⟩,⟨a4,a5⟩,fN,fR,hz⟩:=jZ.cells rv kE;obtain⟨⟨x1,x2,x3⟩,y1,y2,y3⟩:=x;dsimp only at zy rh xW pM a2 a3 ⊢;unfold JB at rh ⊢;rw[kE]at rh ⊢;clear hE hF h1 h2 hs Hg kE hA jZ ht hm hi3;go_enter func137,ntmps137;go_wp2_with fail;rw[<-HW.o];refine(zy.o _ HA.o).mono ?_;rintro _ w2⟨rfl,Ha⟩;have b2:=kN.o.next Ha;have jo:J (Yl w2 w.heap.size wj q ((x1,x2,x3),y1,y2,y3)):=b2;have H6:J (M D w w2):=HA.o.go Ha;have jm:J (StAt (H3 wj) F w2 q st):=HS.o.next Ha;clear a0 a1 a2 a3 a4 a5 fN fR hz;obtain⟨⟨a0,a1⟩,⟨a2,a3⟩,⟨a4,a5⟩,fN,fR,hz⟩:=b2.cells rv jy.o;clear b2 Ha kN HA HS HW zy;go_wp2_with fail;refine(rh.o _ H6.o).mono ?_;clear rh;generalize Xd t.1 st=SP at *
 cases SP with
 | error er=>
  rintro _ w3⟨Hs,xx,v,rfl,hv,hei⟩;obtain⟨tv,uv,rfl⟩:=hv.iface;have b3:=jo.o.next Hs;have yi:J (Yl w3 w.heap.size wj q ((x1,x2,x3),y1,y2,y3)):=b3;have Hb:J (M D w w3):=H6.o.go Hs;have HV:J (Jn E (erG er) w3 (aJ tv uv)):=hv;clear a0 a1 a2 a3 a4 a5 fN fR hz;obtain⟨⟨a0,a1⟩,⟨a2,a3⟩,⟨a4,a5⟩,fN,fR,hz⟩:=b3.cells rv jy.o;clear b3 Hs jo H6 hv xW pM jm;go_wp2;obtain⟨k1,k2,k3,k4,_⟩:=yi.o.both Hb.o (Ql _) 0 Y Y rfl;obtain⟨p1,p2,p3,p4⟩:=XF k1.r k2 (by omega) (O I 0) (X Y);refine QK (v:=aI #[aH #[O I 0,X Y],aJ tv uv]) (Je results137 _ _ (w.heap.size+1+1) _ _ (0,0) _ rfl p1 underlying146 rfl (by kernel_rfl)) rfl ⟨p2,?_⟩;rw[xN.o];exact⟨0,Y,_,_,rfl,p4 _ _ _ (k4 _ _ _ HV.o)⟩
 | ok r=>
  obtain⟨kW,os⟩:=r;rintro _ w3⟨Hs,q1,G,gc,rfl,xt,qL,hg,ho,h3⟩;have b3:=jo.o.next Hs;have yi:J (Yl w3 w.heap.size wj q ((x1,x2,x3),y1,y2,y3)):=b3;have Hb:J (M D w w3):=H6.o.go Hs;have zv:J (StAt (H3 wj) F w3 q1 kW):=xt;have bJ:J (StOk wj kW):=qL;have HG:J (w3.heap[G]? =Z (T (Hv (os.map encO)) 80)):=hg;have HO:J ((∀o∈os,Jy o)/\os.length<=3):=⟨ho,h3⟩
  clear a0 a1 a2 a3 a4 a5 fN fR hz;obtain⟨⟨a0,a1⟩,⟨a2,a3⟩,⟨a4,a5⟩,fN,fR,hz⟩:=b3.cells rv jy.o;clear b3 Hs jo H6 xt qL hg ho h3 jm;unfold JB;obtain⟨v1,qM⟩:∃v,Jl q1=X v:=⟨_,rfl⟩
  rw[qM];have vQ:J (Jl q1=X v1):=qM;clear qM;go_wp2_with fail;obtain⟨k1,k2,k3,k4,k5⟩:=yi.o.both Hb.o (Ql _) wj q1 v1 vQ.o;have r9:=k3 _ _ _ _ zv.o;have sH:=k5 _ _ HG.o;clear k3 k4 k5 a0 a1 a2 a3 a4 a5 fN fR hz;obtain⟨w4,qy⟩:∃w4,w4=((w3.setCell ⟨w.heap.size,0,Y⟩ (O I (wj:Int))).setCell ⟨w.heap.size,1,Y⟩ (X v1)):=⟨_,rfl⟩
  rw[<-qy]at k1 k2 r9 sH ⊢;clear qy zv HG yi Hb;have zq:=xW.o w4 q1 kW k2 r9 bJ.o;unfold JB at zq;rw[vQ.o]at zq;have mZ:J (Yl w4 w.heap.size wj q1 ((x1,x2,x3),y1,y2,y3)):=k1;have Hm:J (M D w w4):=k2;have cr:J (w4.heap[G]? =Z (T (Hv (os.map encO)) 80)):=sH;refine zq.mono ?_;clear zq k1 k2 r9 sH xW bJ;have HAP':J (AP=match JA id 0 t.2 kW with
   | .error e=>.error e
   | .ok jU=>haveI:=JdD os t.2;if Xo os t.2 then .error .sum else .ok jU):=xN.o
  clear xN;generalize JA id 0 t.2 kW=RC at *
  cases RC with
  | error er=>
   rintro _ w5⟨kR,v,rfl,hv,hei⟩;obtain⟨tv,uv,rfl⟩:=hv.iface;have b5:=mZ.o.next kR;have HB5:J (Yl w5 w.heap.size wj q1 ((x1,x2,x3),y1,y2,y3)):=b5;have kD:J (M D w w5):=Hm.o.go kR;have HV:J (Jn E (erG er) w5 (aJ tv uv)):=hv;obtain⟨⟨a0,a1⟩,⟨a2,a3⟩,⟨a4,a5⟩,fN,fR,hz⟩:=b5.cells v1 vQ.o;clear b5 kR mZ Hm hv pM;go_wp2;obtain⟨k1,k2,k3,k4,_⟩:=HB5.o.both kD.o (Ql _) 0 Y Y rfl;obtain⟨p1,p2,p3,p4⟩:=XF k1.r k2 (by omega) (O I 0) (X Y);refine QK (v:=aI #[aH #[O I 0,X Y],aJ tv uv]) (Je results137 _ _ (w.heap.size+1+1) _ _ (0,0) _ rfl p1 underlying146 rfl (by kernel_rfl)) rfl ⟨p2,?_⟩;rw[HAP'.out];exact⟨0,Y,_,_,rfl,p4 _ _ _ (k4 _ _ _ HV.o)⟩
  | ok jU=>
   rintro _ w5⟨kR,q2,rfl,kZ,gS⟩;have b5:=mZ.o.next kR;have HB5:J (Yl w5 w.heap.size wj q1 ((x1,x2,x3),y1,y2,y3)):=b5;have kD:J (M D w w5):=Hm.o.go kR;have zQ:J (StAt (H3 wj) F w5 q2 jU):=kZ;have vC:J (StOk wj jU):=gS;have HG5:J (w5.heap[G]? =Z (T (Hv (os.map encO)) 80)):=(kR.block _ (Jb cr.out) (λh=>h)).trans cr.out;obtain⟨⟨a0,a1⟩,⟨a2,a3⟩,⟨a4,a5⟩,fN,fR,hz⟩:=b5.cells v1 vQ.o;clear b5 kR mZ Hm cr kZ gS;unfold JB;obtain⟨v2,kn⟩:∃v,Jl q2=X v:=⟨_,rfl⟩
   rw[kn];have gq:J (Jl q2=X v2):=kn;clear kn;go_wp2_with fail;obtain⟨k1,k2,k3,k4,k5⟩:=HB5.o.both kD.o (Ql _) wj q2 v2 gq.o;have ak:=k3 _ _ _ _ zQ.o;have ie:=k5 _ _ HG5.o;clear k3 k4 k5 a0 a1 a2 a3 a4 a5 fN fR hz;obtain⟨w6,re⟩:∃w6,w6=((w5.setCell ⟨w.heap.size,0,Y⟩ (O I (wj:Int))).setCell ⟨w.heap.size,1,Y⟩ (X v2)):=⟨_,rfl⟩
   rw[<-re]at k1 k2 ak ie ⊢;clear re zQ HG5 HB5 kD;have cO:J (Yl w6 w.heap.size wj q2 ((x1,x2,x3),y1,y2,y3)):=k1;have kz:J (∀k,M D w (w6.drewN k)):=λk=>k2.dr k;have HS6':J (StAt (H3 wj) F w6 q2 jU):=ak;obtain⟨⟨a0,a1⟩,⟨a2,a3⟩,⟨a4,a5⟩,fN,fR,hz⟩:=k1.cells v2 gq.o;have zq:J (aB N 208 #[R (Z ⟨G,0,Y⟩) os.length gc,R y1 y2 y3] (w6.drewN 1) λe w'=>∃ev,e=aC ev/\M D w6 w'/\((¬Xo os t.2/\ev=aK)\/(Xo os t.2/\Jn E 3 w' ev))):=(pM.o (w6.drewN 1) G gc os (k2.dr 1) ie HO.o.1 HO.o.2).mono λe w' h=>by
    obtain⟨h1,⟨h2,rfl⟩|⟨h2,v,rfl,h3⟩⟩:=h
    ·exact⟨_,rfl,(Td D w6 1).go h1,aM ⟨h2,rfl⟩⟩
    ·exact⟨_,rfl,(Td D w6 1).go h1,aN ⟨h2,h3⟩⟩
   clear k1 k2 ak ie pM;go_region_with (go_at_call 208;refine zq.o.mono ?_;rintro _ w7⟨ev,rfl,gJ,sB⟩;have b7:=cO.o.next gJ;have HB7:J (Yl w7 w.heap.size wj q2 ((x1,x2,x3),y1,y2,y3)):=b7;have gx:J (M D w w7):=(kz.o 0).go gJ;have HS7:J (StAt (H3 wj) F w7 q2 jU):=HS6'.out.next gJ;have HEV:J (_\/_):=sB;obtain⟨⟨c0,c1⟩,⟨c2,c3⟩,⟨c4,c5⟩,gN,gR,hz7⟩:=b7.cells v2 gq.o;clear b7 gJ sB)
   all_goals
    go_wp2;obtain⟨p1,p2,p3,p4⟩:=XF HB7.o.r gx.o (by omega) (O I (wj:Int)) (X v2);refine QK (v:=aI #[aH #[O I (wj:Int),X v2],ev]) (Je results137 _ _ (w.heap.size+1+1) _ _ (0,0) _ rfl p1 underlying146 rfl (by kernel_rfl)) rfl ⟨p2,?_⟩;rw[HAP'.out]
    rcases HEV.o with⟨hb,rfl⟩|⟨hb,he⟩
    ·rw[if_neg hb];exact⟨q2,by rw[JB,gq.o],p3 _ _ _ _ HS7.o,vC.o⟩
    ·rw[if_pos hb];obtain⟨tv,uv,rfl⟩:=he.iface;exact⟨wj,q2,tv,uv,by rw[JB,gq.o],p4 _ _ _ he⟩

theorem Jkz(fv:aG)(what:BA)(w:aA):aB N 135 #[L what,R Y 0 0,fv] w λe w'=>e=aC aK/\w=w':=by
 go_enter func135,ntmps135;go_wp2;go_loopw [12] (λi wr=>i=O I 0/\w=wr) (λi _=>0)
 case atStart=>exact⟨rfl,rfl⟩
 case round=>obtain⟨rfl,rfl⟩:=hrel;go_wp2;go_ret;exact⟨rfl,rfl⟩
structure JaH(w:aA)(aZ wj Hc:Nat)(q:Option Nat):Prop where
 i:w.heap[aZ]? =Z (T #[O I (wj:Int)] 3)
 s:w.heap[aZ+1]? =Z (T #[O I (Hc:Int),Jl q] 146)
theorem JaH.next{Hc:Nat}(h:JaH w aZ wj Hc q)(k:M D w w'):JaH w' aZ wj Hc q:=
 ⟨(k.block _ (Jb h.i) (λh=>h)).trans h.i,(k.block _ (Jb h.s) (λh=>h)).trans h.s⟩
theorem JaH.put{width0:Nat}(h:JaH W aZ wj width0 q)(hT:M D w W)(Hc:Nat)(q':Option Nat)(v':Option Addr)(hv:Jl q'=X v'):
  M (λk=>k=aZ+1) w ((W.setCell ⟨aZ+1,0,Y⟩ (O I (Hc:Int))).setCell ⟨aZ+1,1,Y⟩ (X v'))/\
  JaH ((W.setCell ⟨aZ+1,0,Y⟩ (O I (Hc:Int))).setCell ⟨aZ+1,1,Y⟩ (X v')) aZ wj Hc q'/\
  (∀d F q' st',StAt d F W q' st'->StAt d F ((W.setCell ⟨aZ+1,0,Y⟩ (O I (Hc:Int))).setCell ⟨aZ+1,1,Y⟩ (X v')) q' st')/\∀E k v,Jn E k W v->Jn E k ((W.setCell ⟨aZ+1,0,Y⟩ (O I (Hc:Int))).setCell ⟨aZ+1,1,Y⟩ (X v')) v:=by
 rw[set2 W (aZ+1) _ _ _ _ _ h.s];have t1:=Ts W (aZ+1) #[O I (Hc:Int),X v'];refine⟨(hT.mono (S':=λk=>k=aZ+1) noE).trans t1 (λj hj=>aM hj),⟨(t1.block _ (Jb h.i) (by omega)).trans h.i,?_⟩,λd F q' st' hs=>hs.row h.s (by decide),λE k v he=>he.tch t1 ?_⟩
 ·rw[hv];exact Qi _ _ _ _ _ _ h.s
 ·rintro p s u hp rfl;rw[h.s]at hp
  injection hp with hp
  injection hp with _ h2
  exact absurd h2 (by decide)
def AyTo(E:Nat->Addr)(wj:Nat)(F:Nat->Prop)(aZ:Nat)(r:Except Er (Option Tr))(e:Ending)(w':aA):Prop:=match r with
 | .ok st'=>∃q',e=aC aK/\JaH w' aZ wj wj q'/\StAt (H3 wj) F w' q' st'/\StOk wj st'
 | .error er=>∃(u:Nat)(q':Option Nat)(t:TypeId)(v:aG),e=aC (aJ t v)/\JaH w' aZ wj u q'/\Jn E (erG er) w' (aJ t v)
theorem Jkj(E:Nat->Addr)(wj:Nat)(Hn:1<=wj)(hw:wj<=32)(F:Nat->Prop)(aZ:Nat)(q:Option Nat)(st:Option Tr)(i:Nat)(x:Sl×Sl)(t:TxL)(ht:TxOk wj t)(w:aA)(hE:Env E w)(hF:∀j,w.heap.size<=j->F j)(hB:JaH w aZ wj wj q)(h1:JG w.heap.size w (R x.1.1 x.1.2.1 x.1.2.2) t.1)(h2:Jr w.heap.size w (R x.2.1 x.2.2.1 x.2.2.2) t.2)(hs:StAt (H3 wj) F w q st)(Hg:StOk wj st):
  aB N 136 #[O I (i:Int),aH #[R x.1.1 x.1.2.1 x.1.2.2,R x.2.1 x.2.2.1 x.2.2.2],X (Z ⟨aZ,0,Y⟩),X (Z ⟨aZ+1,0,Y⟩)] w λe w'=>M (λk=>k=aZ+1) w w'/\AyTo E wj F aZ (JI (H3 wj) st t) e w':=by
 have HW:J (∀W,M D w W->aB N 137 #[O I (wj:Int),JB wj q,aH #[R x.1.1 x.1.2.1 x.1.2.2,R x.2.1 x.2.2.1 x.2.2.2]] W λe w'=>M D W w'/\ApTo E wj F (JI (H3 wj) st t) e w'):=λW hT=>
  JfX E wj Hn hw F q st x t ht W (hE.tch hT noE) (λj hj=>hF j (Qm hT.size hj)) ((h1.tch hT noE).up hT.size) ((h2.tch hT noE).up hT.size) (hs.next hT) Hg
 have kN:J _:=hB;obtain⟨rv,kE⟩:∃rv,Jl q=X rv:=⟨_,rfl⟩
 have hNb:aZ+1<w.heap.size:=(Jb hB.s)
 have hNs:aZ<w.heap.size:=by omega
 have a0:w.cell? ⟨aZ+1,0,Y⟩=Z (O I (wj:Int)):=Ja hB.s;have a1:w.cell? ⟨aZ+1,1,Y⟩=Z (X rv):=by rw[<-kE];exact Ja hB.s
 have a2:w.cell? ⟨aZ,0,Y⟩=Z (O I (wj:Int)):=Ja hB.i;have jy:J _:=kE;unfold JB at HW;rw[kE]at HW;generalize JI (H3 wj) st t=aW at *;clear hE hF hB hs Hg kE ht h1 h2;obtain⟨⟨x1,x2,x3⟩,y1,y2,y3⟩:=x;dsimp only at HW ⊢;have kI:J (∀k,M D w ((w.alloc (T #[R x1 x2 x3,R y1 y2 y3] 98)).drewN k)):=λk=>(Ta _ _ _).dr k;go_enter func136,ntmps136;go_wp2_with fail;refine(HW.o _ (kI.o 0)).mono ?_;clear HW a0 a1 a2
 cases aW with
 | ok st'=>
  rintro _ w2⟨Ha,q2,rfl,kZ,gS⟩;have hT:M D w w2:=(kI.o 0).go Ha;have b2:=kN.o.next hT;have jo:J _:=b2;have c0:w2.cell? ⟨aZ+1,0,Y⟩=Z (O I (wj:Int)):=Ja b2.s;have c1:w2.cell? ⟨aZ+1,1,Y⟩=Z (X rv):=by rw[<-jy.o];exact Ja b2.s
  have fN:∀j,w2.frozen? ⟨aZ+1,j,Y⟩=false:=λj=>Qg _ _ _ _ _ b2.s;have HT:J _:=hT;have jm:J _:=kZ;have vC:J _:=gS;clear hT Ha kZ b2 kI gS;unfold JB;obtain⟨v2,kn⟩:∃v,Jl q2=X v:=⟨_,rfl⟩
  rw[kn];have gq:J _:=kn;clear kn;go_wp2;go_ret;obtain⟨p1,p2,p3,_⟩:=jo.o.put HT.o wj q2 v2 gq.o;exact⟨p1,q2,rfl,p2,p3 _ _ _ _ jm.o,vC.o⟩
 | error er=>
  rintro _ w2⟨Ha,u2,q2,t2,e2,rfl,hv⟩;have hT:M D w w2:=(kI.o 0).go Ha;have b2:=kN.o.next hT;have jo:J _:=b2;have c0:w2.cell? ⟨aZ+1,0,Y⟩=Z (O I (wj:Int)):=Ja b2.s;have c1:w2.cell? ⟨aZ+1,1,Y⟩=Z (X rv):=by rw[<-jy.o];exact Ja b2.s
  have fN:∀j,w2.frozen? ⟨aZ+1,j,Y⟩=false:=λj=>Qg _ _ _ _ _ b2.s;have HT:J _:=hT;have HV:J _:=hv;clear hT Ha b2 kI hv;unfold JB;obtain⟨v2,kn⟩:∃v,Jl q2=X v:=⟨_,rfl⟩
  rw[kn];have gq:J _:=kn;clear kn;go_wp2;go_ret;obtain⟨p1,p2,_,p4⟩:=jo.o.put HT.o u2 q2 v2 gq.o;exact⟨p1,u2,q2,t2,e2,rfl,p2,p4 _ _ _ HV.o⟩
theorem JgO(dg:List UInt8->BA)(ts:List TxL)(i:Nat)(h:i<ts.length)(st:Option Tr):JH dg st (ts.drop i)=match JI dg st ts[i] with
  | .error e=>.error e
  | .ok kW=>JH dg kW (ts.drop (i+1)):=by
 rw[lF h];rfl
def TxIn(B:Nat)(w:aA)(l:List (Sl×Sl))(ts:List TxL):Prop:=l.length=ts.length/\∀(j:Nat) x t,l[j]? =Z x->ts[j]? =Z t->JG B w (R x.1.1 x.1.2.1 x.1.2.2) t.1/\Jr B w (R x.2.1 x.2.2.1 x.2.2.2) t.2
structure JjC(wj:Nat)(F:Nat->Prop)(ts:List TxL)(aW:Except Er (Option Tr))(w0:aA)(aZ:Nat)(i:Nat)(w:aA)(q:Option Nat)(st:Option Tr):Prop where
 box:JaH w aZ wj wj q
 at_:StAt (H3 wj) F w q st
 ok:StOk wj st
 eq:JH (H3 wj) st (ts.drop i)=aW
 tch:M (λk=>k=aZ+1) w0 w
def Jpj(E:Nat->Addr)(wj:Nat)(aW:Except Er (Option Tr))(w0:aA)(aZ:Nat)(v:aG)(w:aA):Prop:=∃(er:Er)(u:Nat)(q:Option Nat),aW=.error er/\Jn E (erG er) w v/\JaH w aZ wj u q/\M (λk=>k=aZ+1) w0 w
theorem JgP(E:Nat->Addr)(wj:Nat)(Hn:1<=wj)(hw:wj<=32)(F:Nat->Prop)(l:List (Sl×Sl))(ts:List TxL)(xA:∀t∈ts,TxOk wj t)(aW:Except Er (Option Tr))(w0:aA)(hE:Env E w0)(hF:∀j,w0.heap.size<=j->F j)(aZ:Nat)(hN:18<=aZ)(hN0:aZ<=w0.heap.size)(gV:TxIn aZ w0 l ts)(g off:Nat)(hg:g<aZ)(hz:g<w0.heap.size)
 (hr:∀i (h:i<l.length),w0.cell? ⟨g,off+i*2,Y⟩=Z (R l[i].1.1 l[i].1.2.1 l[i].1.2.2)/\w0.cell? ⟨g,off+i*2+1,Y⟩=Z (R l[i].2.1 l[i].2.2.1 l[i].2.2.2)):
  JcW 136 #[X (Z ⟨aZ,0,Y⟩),X (Z ⟨aZ+1,0,Y⟩)] g off l.length (λi=>(l.map encT).getD i zT) (λi w=>∃q st,JjC wj F ts aW w0 aZ i w q st) (Jpj E wj aW w0 aZ):=by
 have hx:∀i (h:i<l.length),(l.map encT).getD i zT=encT l[i]:=λi h=>by simp[lE,h]
 refine⟨λ_ _=>rfl,?_,?_,?_⟩
 ·rintro i w hi⟨q,st,aT⟩;rw[hx i hi];have hc:∀o,w.cell? ⟨g,o,Y⟩=w0.cell? ⟨g,o,Y⟩:=λo=>aT.tch.cell (p:=⟨g,o,Y⟩) hz (by show ¬g=aZ+1;omega);rw[hc,hc];exact hr i hi
 ·rintro i w o⟨q,st,aT⟩;have ha:=Ta D w o;exact⟨q,st,aT.box.next ha,aT.at_.next ha,aT.ok,aT.eq,aT.tch.go ha⟩
 ·rintro i w hi⟨q,st,aT⟩;rw[hx i hi];have yW:i<ts.length:=by rw[<-gV.1];exact hi
  obtain⟨k1,k2⟩:=gV.2 i l[i] ts[i] (Qd hi) (Qd yW);have hNw:aZ<=w.heap.size:=Qm hN0 aT.tch.size;refine(Jkj E wj Hn hw F aZ q st i l[i] ts[i] (xA _ (Qx yW)) w (hE.tch aT.tch (λj hj=>by omega)) (λj hj=>hF j (Qm aT.tch.size hj)) aT.box ((k1.tch aT.tch (λj hj=>by omega)).up hNw) ((k2.tch aT.tch (λj hj=>by omega)).up hNw) aT.at_ aT.ok).mono ?_;rintro e w'⟨ht,hr⟩;have e1:=aT.eq;rw[JgO (H3 wj) ts i yW]at e1;have hT:M (λk=>k=aZ+1) w0 w':=aT.tch.trans ht (λj hj=>aM hj)
  cases kP:JI (H3 wj) st ts[i] with
  | ok st'=>
   rw[kP]at hr e1;obtain⟨q',rfl,hb,hs,hk⟩:=hr;exact aM ⟨rfl,q',st',hb,hs,hk,e1,hT⟩
  | error er=>
   rw[kP]at hr e1;obtain⟨u,q',t',v',rfl,hb,hv⟩:=hr;exact aN ⟨t',v',rfl,er,u,q',e1.symm,hv,hb,hT⟩
theorem Jfa(E:Nat->Addr)(wj:Nat)(Hn:1<=wj)(hw:wj<=32)(F:Nat->Prop)(q:Option Nat)(st:Option Tr)(v:aG)(l:List (Sl×Sl))(ts:List TxL)(xA:∀t∈ts,TxOk wj t)(h3:ts.length<=3)(w:aA)(hE:Env E w)(hF:∀j,w.heap.size<=j->F j)(hv:Xa w.heap.size w v l)(gV:TxIn w.heap.size w l ts)(hs:StAt (H3 wj) F w q st)(Hg:StOk wj st):
  aB N 81 #[O I (wj:Int),JB wj q,v] w λe w'=>M D w w'/\ApTo E wj F (JH (H3 wj) st ts) e w':=by
 obtain⟨rv,kE⟩:∃rv,Jl q=X rv:=⟨_,rfl⟩
 obtain⟨W,hW⟩:∃W,W=((w.alloc (T #[O I (wj:Int)] 3)).alloc (T #[O I (wj:Int),X rv] 146)).alloc (T #[O I 0,X Y] 146):=⟨_,rfl⟩
 have hA:M D w W:=by rw[hW];exact M.allocs3 _ _ _ _ _
 have jZ:JaH W w.heap.size wj wj q:=by rw[hW,kE.symm];exact⟨JU _ _ _ _,JQ _ _ _ _⟩
 have yJ:W.heap[w.heap.size+1+1]? =Z (T #[O I 0,X Y] 146):=by rw[hW];exact JE _ _ _ _
 generalize hR:JH (H3 wj) st ts=aW;have yq:=hE.tch hA noE;have uw:JjC wj F ts aW W w.heap.size 0 W q st:=⟨jZ,hs.next hA,Hg,hR,Te _ _⟩
 have hinW:TxIn w.heap.size W l ts:=⟨gV.1,λj x t k1 k2=>⟨(gV.2 j x t k1 k2).1.tch hA noE,(gV.2 j x t k1 k2).2.tch hA noE⟩⟩
 have yM:J (∀what:BA,what.size<=1000->aB N 135 #[L what,v,.func (.func 136) #[] #[X (Z ⟨w.heap.size,0,Y⟩),X (Z ⟨w.heap.size+1,0,Y⟩)]] W λe w'=>ToE (λi w'=>∃q st,JjC wj F ts aW W w.heap.size i w' q st) (Jpj E wj aW W w.heap.size) l.length e w'):=λwhat gU=>by
  rcases hv with⟨rfl,rfl⟩|⟨gi,oi,c,rfl,h1,h2,tC⟩
  ·refine(Jkz _ _ _).mono ?_;rintro _ _⟨rfl,rfl⟩;exact aM ⟨rfl,q,st,uw⟩
  ·refine JqD _ _ _ _ _ _ _ _ (λi hi=>?_) _ _ (JgP E wj Hn hw F l ts xA aW W yq (λj hj=>hF j (Qm hA.size hj)) w.heap.size hE.size hA.size hinW gi oi h1 (Qk h2 hA.size) (λi hi=>?_)) (by rw[gV.1];exact h3) gU W ⟨q,st,uw⟩
   ·simp only[Qn,lH,Qd hi];exact⟨_,_,rfl⟩
   ·have hc:∀o,W.cell? ⟨gi,o,Y⟩=w.cell? ⟨gi,o,Y⟩:=λo=>hA.cell (p:=⟨gi,o,Y⟩) h2 (λh=>h);rw[hc,hc];exact tC i hi
 obtain⟨ia,ic,kG⟩:=hv.shape;have jy:J _:=kE;have yl:J _:=yJ;have HA:J _:=hA;have uQ:∀(fn:Fn)(first cap:Array aG)(w:aA),(lG fn first cap).run N w=.ok (.func fn first cap) w:=λ_ _ _ _=>rfl;have HW:J (W=_):=hW;have xJ:J (l.length=ts.length):=gV.1;subst kG;unfold JB;rw[kE];clear hE hF hv hs Hg kE yJ hA uw yq jZ hW xA h3 hR gV hinW;go_enter func81,ntmps81;go_wp2_with fail;rw[<-HW.o];refine(yM.o _ (by decide)).mono ?_;rintro e w2 (⟨rfl,q2,jU,aT⟩|⟨p,sx,vx,w1,rfl,hp,⟨er,u2,q2,hR,hv,hb,ht⟩,xU⟩)
 ·have ze:=(Jb yl.o)
  have Hw:w2.heap[w.heap.size+1+1]? =Z (T #[O I 0,X Y] 146):=(aT.tch.block _ ze (by omega)).trans yl.o;obtain⟨v2,kn⟩:∃v,Jl q2=X v:=⟨_,rfl⟩
  have c0:w2.cell? ⟨w.heap.size+1,0,Y⟩=Z (O I (wj:Int)):=Ja aT.box.s;have c1:w2.cell? ⟨w.heap.size+1,1,Y⟩=Z (X v2):=by rw[<-kn];exact Ja aT.box.s
  have r0:w2.cell? ⟨w.heap.size+1+1,0,Y⟩=Z (O I 0):=Ja Hw;have r1:w2.cell? ⟨w.heap.size+1+1,1,Y⟩=Z (X Y):=Ja Hw;have fR:∀j,w2.frozen? ⟨w.heap.size+1+1,j,Y⟩=false:=λj=>Qg _ _ _ _ _ Hw;have jK:J _:=Hw;have HI:J (JjC wj F ts aW W w.heap.size ts.length w2 q2 jU):=by rw[<-xJ.o];exact aT
  have gq:J _:=kn;have qQ:w.heap.size+1+1<w2.heap.size:=(Jb Hw)
  clear aT Hw kn yM ze;go_wp2;obtain⟨p1,p2,p3,_⟩:=XF jK.o ((HA.o.trans HI.o.tch (λj hj=>aN (by omega))):M D w w2) (by omega) (O I (wj:Int)) (X v2);refine QK (v:=aI #[aH #[O I (wj:Int),X v2],aK]) (Je results81 _ _ (w.heap.size+1+1) _ _ (0,0) _ rfl p1 underlying146 rfl (by kernel_rfl)) rfl ⟨p2,?_⟩;have e1:=HI.o.eq;rw[lI]at e1;rw[<-e1];exact⟨q2,by rw[JB,gq.o],p3 _ _ _ _ HI.o.at_,HI.o.ok⟩
 ·have ze:=(Jb yl.o)
  have kK:w1.heap[w.heap.size+1+1]? =Z (T #[O I 0,X Y] 146):=(ht.block _ ze (by omega)).trans yl.o;have jH:=(Jb kK)
  have Hw:w2.heap[w.heap.size+1+1]? =Z (T #[O I 0,X Y] 146):=(xU.block _ jH).trans kK;obtain⟨v2,kn⟩:∃v,Jl q2=X v:=⟨_,rfl⟩
  have kZ:w2.heap[w.heap.size+1]? =Z (T #[O I (u2:Int),Jl q2] 146):=(xU.block _ (Jb hb.s)).trans hb.s;have qQ:w.heap.size+1+1<w2.heap.size:=(Jb Hw)
  have c0:w2.cell? ⟨w.heap.size+1,0,Y⟩=Z (O I (u2:Int)):=Ja kZ;have c1:w2.cell? ⟨w.heap.size+1,1,Y⟩=Z (X v2):=by rw[<-kn];exact Ja kZ
  have r0:w2.cell? ⟨w.heap.size+1+1,0,Y⟩=Z (O I 0):=Ja Hw;have r1:w2.cell? ⟨w.heap.size+1+1,1,Y⟩=Z (X Y):=Ja Hw;have fR:∀j,w2.frozen? ⟨w.heap.size+1+1,j,Y⟩=false:=λj=>Qg _ _ _ _ _ Hw;have jK:J _:=Hw;have H6:J (M (λk=>k=w.heap.size+1) W w2):=ht.trans (M.of_below xU) (λj hj=>aN (Qm ht.size hj));have HP:J (Jn E (erG er) w2 (aJ 235 (X (Z ⟨p,0,Y⟩)))):=.wrap p _ _ hp (hv.later xU);have HR:J (aW=_):=hR;have gq:J _:=kn;clear kK Hw kZ xU ht hb hp hR yM ze jH hv kn;go_wp2;obtain⟨p1,p2,p3,p4⟩:=XF jK.o ((HA.o.trans H6.o (λj hj=>aN (by omega))):M D w w2) (by omega) (O I (u2:Int)) (X v2);refine QK (v:=aI #[aH #[O I (u2:Int),X v2],aJ 235 (X (Z ⟨p,0,Y⟩))]) (Je results81 _ _ (w.heap.size+1+1) _ _ (0,0) _ rfl p1 underlying146 rfl (by kernel_rfl)) rfl ⟨p2,?_⟩;rw[HR.o];exact⟨u2,q2,_,_,by rw[JB,gq.o],p4 _ _ _ HP.o⟩

abbrev BV:=BA×Nat×Option Nat
def bV(b:BV):aG:=aH #[L b.1,O I (b.2.1:Int),Jl b.2.2]
def JT:Nat->List BV->List MapEntry
 | _,[]=>[]
 | i,b::r=>⟨O I (i:Int),bV b,i⟩ :: JT (i+1) r
theorem Jdi(bs:List BV):∀i,(JT i bs).length=bs.length:=by
 induction bs with
 | nil=>intro i;rfl
 | cons b r ih=>intro i;simp[JT,ih]
theorem Jdh(bs:List BV)(b:BV):∀i,JT i (bs++[b])=JT i bs++[⟨O I ((i+bs.length:Nat):Int),bV b,i+bs.length⟩]:=by
 induction bs with
 | nil=>intro i;simp[JT]
 | cons x r ih=>
  intro i;rw[List.cons_append,JT,ih (i+1),JT,List.cons_append,Qp];have e:i+1+r.length=i+(r.length+1):=by omega
  rw[e]
theorem Jax(bs:List BV):∀(i j:Nat)(k:Int),Instr.findNow (.int I) (O I k) (JT i bs) j=Z (if (i:Int)<=k then (bs[k.toNat-i]?).map λb=>(j+(k.toNat-i),bV b) else Y):=by
 induction bs with
 | nil=>intro i j k;simp[JT,Instr.findNow]
 | cons b r ih=>
  intro i j k;rw[JT,Instr.findNow]
  by_cases h:k=(i:Int)
  ·subst h;simp[Instr.sameNow]
  ·have h1:Instr.sameNow (.int I) (O I k) (O I (i:Int))=Z false:=(by simp[Instr.sameNow,h]);rw[h1];simp only;rw[ih (i+1) (j+1) k]
   by_cases h2:(i:Int)<=k
   ·rw[if_pos h2,if_pos (by omega)];have e1:k.toNat-i=(k.toNat-(i+1))+1:=(by omega);rw[e1,List.getElem?_cons_succ]
    congr 2
    funext x
    congr 1
    omega
   ·rw[if_neg h2,if_neg (by omega)]
theorem JnL:prog.underlying 141=Z (.map 3 148):=underlying141
theorem JfQ:prog.underlying 3=Z (.int .i64):=underlying3
theorem JjU{bs:List BV}(h:w.heap[r]? =Z (.map (JT 0 bs).toArray bs.length))(k:Nat)(b:BV)(hk:bs[k]? =Z b)(c:Bool):
  (lD 141 (.map (Z r)) (O I (k:Int)) c).run N w=.ok (if c then aI #[bV b,aL true] else bV b) w:=by
 have h1:=Jax bs 0 0 (k:Int);rw[if_pos (by omega)]at h1;simp only[Int.toNat_natCast,Nat.sub_zero,Nat.zero_add,hk,Option.map_some]at h1;simp[lD,run_underlying JnL,Go.MapKept.run_getObj_map h,Go.MapKept.run_checkKey (d:=.int I) JfQ (k:=O I (k:Int)) (by simp[Go.MapKept.IsKey]),Go.MapKept.run_findKey JfQ h1,Result.andThen]
theorem JmF{bs:List BV}(h:w.heap[r]? =Z (.map (JT 0 bs).toArray bs.length))(k:Int)(hk:¬(0<=k/\k<bs.length))(c:Bool):
  (lD 141 (.map (Z r)) (O I k) c).run N w=.ok (if c then aI #[bV (⟨#[]⟩,0,Y),aL false] else bV (⟨#[]⟩,0,Y)) w:=by
 have h1:=Jax bs 0 0 k;have h2:(if ((0:Nat):Int)<=k then (bs[k.toNat-0]?).map λb=>(0+(k.toNat-0),bV b) else Y)=Y:=by
  by_cases h0:(0:Int)<=k
  ·rw[if_pos (by omega),List.getElem?_eq_none (by omega)];rfl
  ·rw[if_neg (by omega)]
 rw[h2]at h1;simp[lD,run_underlying JnL,Go.MapKept.run_getObj_map h,Go.MapKept.run_checkKey (d:=.int I) JfQ (k:=O I k) (by simp[Go.MapKept.IsKey]),Go.MapKept.run_findKey JfQ h1,Result.andThen];rfl
def _root_.Go.World.setBlocks(w:aA)(r:Nat)(bs:List BV):aA:={ w with heap:=w.heap.setIfInBounds r (.map (JT 0 bs).toArray bs.length) }
theorem Jd7{bs:List BV}(h:w.heap[r]? =Z (.map (JT 0 bs).toArray bs.length))(b:BV):
  (Instr.mapUpdate 141 (.map (Z r)) (O I (bs.length:Int)) (bV b)).run N w=.ok () (w.setBlocks r (bs++[b])):=by
 have h1:=Jax bs 0 0 (bs.length:Int);rw[if_pos (by omega)]at h1;simp only[Int.toNat_natCast,Nat.sub_zero,Nat.zero_add,show bs[bs.length]? =Y by simp,lJ]at h1;simp[Instr.mapUpdate,run_underlying JnL,Go.MapKept.run_getObj_map h,Go.MapKept.run_checkKey (d:=.int I) JfQ (k:=O I (bs.length:Int)) (by simp[Go.MapKept.IsKey]),Go.MapKept.run_findKey JfQ h1,Go.MapKept.run_setObj_map _ h,Result.andThen,World.setBlocks,Jdh]
theorem Ja6{o:Obj}(h:w.heap[r]? =Z o)(bs:List BV):(w.setBlocks r bs).heap[r]? =Z (.map (JT 0 bs).toArray bs.length):=(Go.MapKept.heap_set h).1
theorem M.setBlocks(w:aA)(r:Nat)(bs:List BV):M (λk=>k=r) w (w.setBlocks r bs):=⟨rfl,rfl,rfl,by simp[World.setBlocks],λk _ hn=>by simp[World.setBlocks,Ne.symm hn]⟩
theorem JiN{bs:List BV}(h:w.heap[r]? =Z (.map (JT 0 bs).toArray bs.length)):(Builtin.len_ #[141] 3 #[.map (Z r)]).run N w=.ok (O I (bs.length:Int)) w:=by
 simp[Builtin.len_,Go.MapKept.run_getObj_map h,Jdi];rfl
theorem Jh.refine{G:Nat->Prop}(h:Jh d F w n t)(hg:∀j,F j->(∃c,w.heap[j]? =Z (T c 243))->G j):Jh d G w n t:=by
 induction h using Jh.ri with
 | leaf n k o hF hr=>exact .leaf n k o (hg n hF ⟨_,hr⟩) hr
 | br n b nl nr l r hF hr _ _ ihl ihr=>exact .br n b nl nr l r (hg n hF ⟨_,hr⟩) hr ihl ihr
theorem StAt.refine{G:Nat->Prop}{st:Option Tr}(h:StAt d F w q st)(hg:∀j,F j->(∃c,w.heap[j]? =Z (T c 243))->G j):StAt d G w q st:=by
 cases q<;>cases st<;>first|exact h|exact Jh.refine h hg
structure JR(w:aA)(cb:Nat)(wj fl r:Nat)(bs:List BV)(v:aG):Prop where
 row:w.heap[cb]? =Z (T #[O I (wj:Int),O I (fl:Int),.map (Z r),v] 143)
 map:w.heap[r]? =Z (.map (JT 0 bs).toArray bs.length)
theorem JR.next{bs:List BV}(h:JR w cb wj fl r bs v)(k:M D w w'):JR w' cb wj fl r bs v:=
 ⟨(k.block _ (Jb h.row) (λh=>h)).trans h.row,(k.block _ (Jb h.map) (λh=>h)).trans h.map⟩
theorem Jco{bs:List BV}(h:JR w cb wj fl r bs v)(hb:bs.length<2 ^ 32):
  aB N 40 #[X (Z ⟨cb,0,Y⟩)] w λe w'=>e=aC (O I ((bs.length:Int)-1))/\w=w':=by
 have c2:w.cell? ⟨cb,2,Y⟩=Z (.map (Z r)):=Ja h.row;have Hq:=JiN h.map;clear h;generalize hn:bs.length=n at *;clear hn;go_enter func40,ntmps40;go_wp2;go_ret;exact⟨rfl,rfl⟩
theorem Jpq{bs:List BV}(h:JR w cb wj fl r bs v)(k:Nat)(b:BV)(hk:bs[k]? =Z b):
  aB N 74 #[X (Z ⟨cb,0,Y⟩),O I (k:Int)] w λe w'=>e=aC (aI #[bV b,aK])/\M D w w':=by
 obtain⟨bh,bu,bq⟩:=b;obtain⟨rv,kE⟩:∃rv,Jl bq=X rv:=⟨_,rfl⟩
 obtain⟨W,hW⟩:∃W,W=w.alloc (T #[L ⟨#[]⟩,O I 0,X Y] 148):=⟨_,rfl⟩
 have hA:M D w W:=by rw[hW];exact Ta _ _ _
 have c2:W.cell? ⟨cb,2,Y⟩=Z (.map (Z r)):=Ja (h.next hA).row;have yH:=JjU (h.next hA).map k (bh,bu,bq) hk true;have hZ:W.heap[w.heap.size]? =Z (T #[L ⟨#[]⟩,O I 0,X Y] 148):=by rw[hW];exact Qf _ _
 have r0:W.cell? ⟨w.heap.size,0,Y⟩=Z (L ⟨#[]⟩):=Ja hZ;have r1:W.cell? ⟨w.heap.size,1,Y⟩=Z (O I 0):=Ja hZ;have r2:W.cell? ⟨w.heap.size,2,Y⟩=Z (X Y):=Ja hZ;have fR:∀j,W.frozen? ⟨w.heap.size,j,Y⟩=false:=λj=>Qg _ _ _ _ _ hZ;have HW:J (W=w.alloc (T #[L ⟨#[]⟩,O I 0,X Y] 148)):=hW;have HR:J (W.heap[w.heap.size]? =_):=hZ;have HA:J (M _ w W):=hA;have hz:w.heap.size<W.heap.size:=(Jb hZ)
 simp only[bV]at yH ⊢;rw[kE]at yH ⊢;clear h hk hW hZ hA kE;go_enter func74,ntmps74;go_upto_region 1 with fail;rw[<-HW.o];go_wp2;rw[set3 _ _ _ _ _ _ _ _ _ HR.o];have t1:=Ts W w.heap.size #[L bh,O I (bu:Int),X rv];have hr:(W.setRow w.heap.size #[L bh,O I (bu:Int),X rv]).heap[w.heap.size]? =Z (T #[L bh,O I (bu:Int),X rv] 148):=Qi _ _ _ _ _ _ HR.o;have t2:=Ta D (W.setRow w.heap.size #[L bh,O I (bu:Int),X rv]) (T #[L bh,O I (bu:Int),X rv] 148);refine QK (v:=aI #[aH #[L bh,O I (bu:Int),X rv],aK]) (Je results74 _ _ w.heap.size _ _ (0,0) _ rfl ((t2.block _ (Jb hr) (λh=>h)).trans hr) underlying148 rfl (by kernel_rfl)) rfl ⟨rfl,?_⟩;exact(HA.o.trans t1 (λj hj=>aN (by omega))).go t2
theorem JlW(E:Nat->Addr)(hE:Env E w){bs:List BV}(h:JR w cb wj fl r bs v)(k:Int)(hk:¬(0<=k/\k<bs.length)):
  aB N 74 #[X (Z ⟨cb,0,Y⟩),O I k] w λe w'=>∃t u,e=aC (aI #[bV (⟨#[]⟩,0,Y),aJ t u])/\Jn E 5 w' (aJ t u)/\M D w w':=by
 obtain⟨W,hW⟩:∃W,W=w.alloc (T #[L ⟨#[]⟩,O I 0,X Y] 148):=⟨_,rfl⟩
 have hA:M D w W:=by rw[hW];exact Ta _ _ _
 have c2:W.cell? ⟨cb,2,Y⟩=Z (.map (Z r)):=Ja (h.next hA).row;have yH:=JmF (h.next hA).map k hk true;have hrg:=(hE.tch hA noE).range;have Hp:=(hE.tch hA noE).size;have hZ:W.heap[w.heap.size]? =Z (T #[L ⟨#[]⟩,O I 0,X Y] 148):=by rw[hW];exact Qf _ _
 have r0:W.cell? ⟨w.heap.size,0,Y⟩=Z (L ⟨#[]⟩):=Ja hZ;have r1:W.cell? ⟨w.heap.size,1,Y⟩=Z (O I 0):=Ja hZ;have r2:W.cell? ⟨w.heap.size,2,Y⟩=Z (X Y):=Ja hZ;have fR:∀j,W.frozen? ⟨w.heap.size,j,Y⟩=false:=λj=>Qg _ _ _ _ _ hZ;have HW:J (W=w.alloc (T #[L ⟨#[]⟩,O I 0,X Y] 148)):=hW;have HR:J (W.heap[w.heap.size]? =_):=hZ;have HA:J (M _ w W):=hA;have hz:w.heap.size<W.heap.size:=(Jb hZ)
 simp only[bV,Jl,lJ]at yH ⊢;clear h hk hW hZ hA hE;have hGs:5<W.heap.size:=Qk (by decide) Hp;clear Hp;go_enter func74,ntmps74;go_upto_region 1 with fail;rw[<-HW.o];go_wp2_with fail;refine(Xk _ _ _ _).mono ?_;rintro _ _⟨rfl,rfl⟩;go_wp2;rw[set3 _ _ _ _ _ _ _ _ _ HR.o];have t1:=Ts W w.heap.size #[L ⟨#[]⟩,O I 0,X Y];have hr:(W.setRow w.heap.size #[L ⟨#[]⟩,O I 0,X Y]).heap[w.heap.size]? =Z (T #[L ⟨#[]⟩,O I 0,X Y] 148):=Qi _ _ _ _ _ _ HR.o;have fQ:(W.setRow w.heap.size #[L ⟨#[]⟩,O I 0,X Y]).heap.size=W.heap.size:=by simp[World.setRow]
 generalize W.setRow w.heap.size #[L ⟨#[]⟩,O I 0,X Y]=W1 at *;have t2:=(Ta D W1 (T #[L ⟨#[]⟩,O I 0,X Y] 148))
 have t3:=Ta D (W1.alloc (T #[L ⟨#[]⟩,O I 0,X Y] 148)) (T #[L ⟨#[104,101,105,103,104,116]⟩,eV E 5] 237);refine QK (v:=aI #[aH #[L ⟨#[]⟩,O I 0,X Y],aJ 235 (X (Z ⟨W.heap.size+1,0,Y⟩))]) (Je results74 _ _ w.heap.size _ _ (0,0) _ rfl (((t2.go t3).block _ (Jb hr) (λh=>h)).trans hr) underlying148 rfl (by kernel_rfl)) rfl ⟨_,_,rfl,?_,?_⟩
 ·refine .wrap (W.heap.size+1) ⟨#[104,101,105,103,104,116]⟩ (eV E 5) ?_ .base;have:=Qf (W1.alloc (T #[L ⟨#[]⟩,O I 0,X Y] 148)) (T #[L ⟨#[104,101,105,103,104,116]⟩,eV E 5] 237);rw[World.size_alloc,fQ]at this;exact this
 ·exact((HA.o.trans t1 (λj hj=>aN (by omega))).go t2).go t3
theorem Jf3(E:Nat->Addr)(hE:Env E w){bs:List BV}(h:JR w cb wj fl r bs v)(k:Int):
  aB N 41 #[X (Z ⟨cb,0,Y⟩),O I k] w λe w'=>M D w w'/\((∃n b,k=(n:Nat)/\bs[n]? =Z b/\e=aC (aI #[L b.1,aK]))\/(¬(0<=k/\k<bs.length)/\∃t u,e=aC (aI #[L ⟨#[]⟩,aJ t u])/\Jn E 5 w' (aJ t u))):=by
 by_cases hk:0<=k/\k<bs.length
 ·obtain⟨n,rfl⟩:=Int.eq_ofNat_of_zero_le hk.1;have hb:bs[n]? =Z bs[n]:=Qd (by omega);have xq:J (aB _ _ _ _ _):=Jpq h n _ hb;have HB:J (bs[n]? =Z bs[n]):=hb;generalize bs[n]=b at *;obtain⟨bh,bu,bq⟩:=b;simp only[bV]at xq;obtain⟨rv,kE⟩:∃rv,Jl bq=X rv:=⟨_,rfl⟩
  rw[kE]at xq;clear hk hb hE h kE;go_enter func41,ntmps41;go_wp2_with fail;refine xq.o.mono ?_;rintro _ w2⟨rfl,ht⟩;have HT:J (M _ w w2):=ht;clear ht xq;go_wp2;go_ret2;exact⟨HT.o.go (Ta _ _ _),aM ⟨n,(bh,bu,bq),rfl,HB.o,rfl⟩⟩
 ·have xq:J (aB _ _ _ _ _):=JlW E hE h k hk;have HK:J (¬(0<=k/\k<bs.length)):=hk;simp only[bV,Jl,lJ]at xq;clear hk hE h;go_enter func41,ntmps41;go_wp2_with fail;refine xq.o.mono ?_;rintro _ w2⟨t,u,rfl,he,ht⟩;have HT:J (M _ w w2):=ht;have HV:J (Jn _ _ _ _):=he;clear ht xq he;go_wp2;go_ret2;exact⟨HT.o.go (Ta _ _ _),aN ⟨HK.o,t,u,rfl,HV.o.tch (Ta D _ _) (λ_ _ _ _ h=>h)⟩⟩

def ChS(cb wj r:Nat)(k:Int)(b:aG)(W:aA):Prop:=W.cell? ⟨cb,0,Y⟩=Z (O I (wj:Int))/\W.cell? ⟨cb,2,Y⟩=Z (.map (Z r))/\(lD 141 (.map (Z r)) (O I k) false).run N W=.ok b W
theorem JR.reads{bs:List BV}(h:JR w cb wj fl r bs v)(k:Nat)(b:BV)(hb:bs[k]? =Z b):ChS cb wj r (k:Int) (bV b) w:=
 ⟨Ja h.row,Ja h.row,JjU h.map k b hb false⟩
structure JlH(s:BA):Prop where
 le:s.size<=2000000
theorem JgN(a:List UInt8)(d:BA)(h:d.size<=1000000)(ha:a.length<=100):∃s:BA,s.size<=1000100/\s.data.toList=a++d.data.toList/\∀W,(Op.stringOp .add (⟨a.toArray⟩:BA) d).run N W=.ok (L s) W:=by
 have:=Jds a d.data.toList (by simpa using h) ha;simpa using this
theorem Jhw(E:Nat->Addr)(hE:Env E w)(Hn:1<=wj)(hw:wj<=32){bs:List BV}(h:JR w cb wj fl r bs v)(m:Nat)(hm:bs.length=m+1)(gK:m<2 ^ 31)(b:BV)(hb:bs[m]? =Z b)(ko:b.1.size<=1000)(body:BA)(hbo:body.size<=1000000):
  aB N 82 #[X (Z ⟨cb,0,Y⟩),L body] w λe w'=>e=aC (aH #[O aD ((m+1:Nat):Int),L (H3 wj (72::b.1.data.toList)),L (H3 wj (66::body.data.toList)),L ⟨#[]⟩])/\M D w w':=by
 obtain⟨bh,bu,bq⟩:=b;obtain⟨rv,kE⟩:∃rv,Jl bq=X rv:=⟨_,rfl⟩
 obtain⟨W,hW⟩:∃W,W=w.alloc (T #[O aD 0,L ⟨#[]⟩,L ⟨#[]⟩,L ⟨#[]⟩] 167):=⟨_,rfl⟩
 have hA:M D w W:=by rw[hW];exact Ta _ _ _
 have qt:J (aB N 40 #[X (Z ⟨cb,0,Y⟩)] W λe w'=>e=aC (O I (m:Int))/\W=w'):=(Jco (h.next hA) (by omega)).mono λe w' k=>⟨by rw[k.1,hm];congr 2;omega,k.2⟩
 have gu:J (∀W',M D w W'->ChS cb wj r (m:Int) (aH #[L bh,O I (bu:Int),X rv]) W'):=λW' hT=>by
  have:=(h.next hT).reads m _ hb;simp only[bV,kE]at this;exact this
 have hZ:W.heap[w.heap.size]? =Z (T #[O aD 0,L ⟨#[]⟩,L ⟨#[]⟩,L ⟨#[]⟩] 167):=by rw[hW];exact Qf _ _
 have HW:J _:=hW;have HA:J (∀k,M D w (W.drewN k)):=λk=>hA.dr k;have gL:J (∀W',M D W W'->W'.heap[w.heap.size]? =Z (T #[O aD 0,L ⟨#[]⟩,L ⟨#[]⟩,L ⟨#[]⟩] 167)):=λW' hT=>(hT.block _ (Jb hZ) (λh=>h)).trans hZ;obtain⟨c0,c2,yH⟩:=gu.o W.drew (hA.dr 1);have yv:cb<w.heap.size:=(Jb h.row)
 have hbs':bh.size<=1000:=ko;obtain⟨s1,xt,zr,m6⟩:=JgN [72] bh (by omega) (by decide);obtain⟨s2,kZ,xe,m7⟩:=JgN [66] body (by omega) (by decide);have hadd1':∀W,(Op.stringOp .add (⟨#[72]⟩:BA) bh).run N W=.ok (L s1) W:=m6;have hadd2':∀W,(Op.stringOp .add (⟨#[66]⟩:BA) body).run N W=.ok (L s2) W:=m7;clear m6 m7;have be:∀W,(Instr.field 148 (aH #[L bh,O I (bu:Int),X rv]) 0).run N W=.ok (L bh) W:=λW=>by kernel_rfl
 have hwm:IntKind.u64.wrap (m:Int)=(m:Int):=JK _ (by omega) (by omega);have hwm1:IntKind.u64.wrap ((m:Int)+1)=(m:Int)+1:=JK _ (by omega) (by omega);have yU:J (∀(s:BA) W',M D w W'->JlH s->aB N 130 #[O I (wj:Int),L s] W' λe w'=>e=aC (L (H3 wj s.data.toList))/\M D W' w'):=λs W' hT hs=>JaZ E wj s W' (hE.tch hT noE) Hn hw (by have:=hs.le;omega);have K1:JlH s1:=⟨by omega⟩
 have K2:JlH s2:=⟨by omega⟩
 have HD:J (s1.data.toList=72::bh.data.toList/\s2.data.toList=66::body.data.toList):=⟨zr,xe⟩
 dsimp only;clear hE h hb ko hbo kE hW hZ hA hbs' xt kZ zr xe;have pX:(m:Int)<9223372036854775807:=by omega
 have mE:(0:Int)<=m:=by omega
 go_enter func82,ntmps82;go_wp2_with fail;rw[<-HW.o];refine qt.o.mono ?_;rintro _ _⟨rfl,rfl⟩;go_wp2_with fail;have tok1:True:=trivial;go_region_held3 (λW=>W.cell? ⟨cb,0,Y⟩=Z (O I (wj:Int))/\W.cell? ⟨cb,2,Y⟩=Z (.map (Z r))/\(lD 141 (.map (Z r)) (O I (m:Int)) false).run N W=.ok (aH #[L bh,O I (bu:Int),X rv]) W) (go_keep) ((first|(go_at_call 130;have _t:=tok1;refine(yU.o _ _ (HA.o 1) (by assumption)).mono ?_;rintro _ w2⟨rfl,Ha⟩;have qm:M D W w2:=(Td D W 1).go Ha;have cv:M D w w2:=(HA.o 1).go Ha;obtain⟨d0,d2,hlk2⟩:=gu.o w2 cv;have H6:J (M D W w2/\M D w w2):=⟨qm,cv⟩;clear qm cv Ha tok1)|(go_at_call 130;refine(yU.o _ _ H6.o.2 (by assumption)).mono ?_;rintro _ w3⟨rfl,Hs⟩;have vq:M D W w3:=H6.o.1.go Hs;have nQ:M D w w3:=H6.o.2.go Hs;obtain⟨e0,e2,hlk3⟩:=gu.o w3 nQ;have Hb:J (M D W w3/\M D w w3):=⟨vq,nQ⟩;have k8:=gL.o w3 vq;have q0:w3.cell? ⟨w.heap.size,0,Y⟩=Z (O aD 0):=Ja k8;have q1:w3.cell? ⟨w.heap.size,1,Y⟩=Z (L ⟨#[]⟩):=Ja k8;have q2:w3.cell? ⟨w.heap.size,2,Y⟩=Z (L ⟨#[]⟩):=Ja k8;have q3:w3.cell? ⟨w.heap.size,3,Y⟩=Z (L ⟨#[]⟩):=Ja k8;have fq:∀j,w3.frozen? ⟨w.heap.size,j,Y⟩=false:=λj=>Qg _ _ _ _ _ k8;have kw:J _:=k8;have kL:=gu.o ((((w3.setCell ⟨w.heap.size,0,Y⟩ (O aD ((m:Int)+1))).setCell ⟨w.heap.size,1,Y⟩ (L (H3 wj s1.data.toList))).setCell ⟨w.heap.size,2,Y⟩ (L (H3 wj s2.data.toList))).setCell ⟨w.heap.size,3,Y⟩ (L ⟨#[]⟩)) (by rw[set4 _ _ _ _ _ _ _ _ _ _ _ k8];exact nQ.trans (Ts _ _ _) (λj hj=>aN (by omega)));obtain⟨g0,g2,uZ⟩:=kL;clear k8;clear vq nQ Hs)))
 all_goals
  go_wp2;rw[set4 _ _ _ _ _ _ _ _ _ _ _ kw.o];refine QK (v:=aH #[O aD ((m:Int)+1),L (H3 wj s1.data.toList),L (H3 wj s2.data.toList),L ⟨#[]⟩]) (Qq results82 _ _ w.heap.size _ _ (0,0) _ rfl (Qi _ _ _ _ _ _ kw.o) underlying167 rfl (by kernel_rfl)) rfl ⟨?_,?_⟩
  ·rw[HD.o.1,HD.o.2];rfl
  ·exact Hb.o.2.trans (Ts _ _ _) (λj hj=>aN (by omega))

def ZB(E:Nat->Addr)(wj:Nat)(F:Nat->Prop)(r:Except Er (Option Tr))(u:Nat)(rv:Option Addr)(ev:aG)(w':aA):Prop:=match r with
 | .ok st'=>∃q',u=wj/\Jl q'=X rv/\ev=aK/\StAt (H3 wj) F w' q' st'/\StOk wj st'
 | .error er=>∃t v,ev=aJ t v/\Jn E (erG er) w' (aJ t v)
theorem ApTo.res{r:Except Er (Option Tr)}{e:Ending}(h:ApTo E wj F r e w'):∃(u:Nat)(rv:Option Addr)(ev:aG),e=aC (aI #[aH #[O I (u:Int),X rv],ev])/\ZB E wj F r u rv ev w':=by
 cases r with
 | ok st'=>
  obtain⟨q',rfl,h1,h2⟩:=h;exact⟨wj,_,aK,rfl,q',rfl,rfl,rfl,h1,h2⟩
 | error er=>
  obtain⟨u,q',t,v,rfl,h1⟩:=h;exact⟨u,_,aJ t v,rfl,t,v,rfl,h1⟩
theorem ZB.kept{r:Except Er (Option Tr)}{u:Nat}{rv:Option Addr}{ev:aG}(h:ZB E wj F r u rv ev w)(h1:∀q st,StAt (H3 wj) F w q st->StAt (H3 wj) F w' q st)(h2:∀k v,Jn E k w v->Jn E k w' v):ZB E wj F r u rv ev w':=by
 cases r with
 | ok st'=>obtain⟨q',a,b,c,d,e⟩:=h;exact⟨q',a,b,c,h1 _ _ d,e⟩
 | error er=>obtain⟨t,v,a,b⟩:=h;exact⟨t,v,a,h2 _ _ b⟩
theorem Jn.next{k:Nat}(h:Jn E k w v)(ht:M D w w'):Jn E k w' v:=h.tch ht (λ_ _ _ _ h=>h)
theorem Jmp{h:HdL}(hh:HdOk wj h):JaN (ZM wj h (Z (.wr []))).2=Z (Ht h):=by
 have h1:=(Ji9 wj h h hh).wr [];rw[(JbN wj h _ _ _ h1).1];rfl
theorem Xa.up{B':Nat}{l:List (Sl×Sl)}(h:Xa B w v l)(hb:B<=B'):Xa B' w v l:=by
 rcases h with h|⟨gi,oi,c,h1,h2,h3⟩
 ·exact aM h
 ·exact aN ⟨gi,oi,c,h1,by omega,h3⟩
theorem Jqj(wj:Nat)(hw:wj<=32)(t:TxL)(h:TxOk wj t):(txB t).length<=200:=by
 have hc:∀(l:List (BA×Int)),(∀c∈l,Jj wj c)->(l.flatMap Jc).length=l.length*(wj+1):=by
  intro l
  induction l with
  | nil=>intro _;simp
  | cons x r ih=>
   intro hl;rw[QG,Qe,Qp,Nat.succ_mul,Xg (hl x QN),ih (λy hy=>hl y (QQ _ hy))];omega
 have ho:∀(l:List (Nat×Nat)),(l.flatMap outB).length=l.length*9:=by
  intro l
  induction l with
  | nil=>simp
  | cons x r ih=>
   rw[QG,Qe,Qp,Nat.succ_mul,ih];have:(outB x).length=9:=(by unfold outB;rw[Qe,Jf,Jf]);omega
 unfold txB JdX Jz;simp only[Qe,Jf,hc t.1 h.coins,ho t.2];have h1:=h.ins;have h2:=h.made;have:t.1.length*(wj+1)<=3*33:=Nat.mul_le_mul h1 (by omega);omega
theorem JgT(wj:Nat)(hw:wj<=32)(ts:List TxL)(h:∀t∈ts,TxOk wj t)(h3:ts.length<=3):(JL ts).length<=1000:=by
 have:∀(l:List TxL),(∀t∈l,TxOk wj t)->(l.flatMap txB).length<=l.length*200:=by
  intro l
  induction l with
  | nil=>intro _;simp
  | cons x r ih=>
   intro hl;have a:=Jqj wj hw x (hl x QN);have b:=ih (λy hy=>hl y (QQ _ hy));rw[QG,Qe,Qp,Nat.succ_mul];omega
 have:=this ts h;unfold JL;rw[Qe,Jf];omega
def JpC(E:Nat->Addr)(r:Except Er (List UInt8))(e:Ending)(w':aA):Prop:=match r with
 | .ok b=>e=aC (aI #[L ⟨b.toArray⟩,aK])
 | .error er=>∃t u,e=aC (aI #[L ⟨#[]⟩,aJ t u])/\Jn E (erG er) w' (aJ t u)
theorem Jiz(E:Nat->Addr)(hE:Env E w)(Hn:1<=wj)(hw:wj<=32){bs:List BV}(h:JR w cb wj fl r bs lv)(m:Nat)(hm:bs.length=m+1)(gK:m<2 ^ 31)(bh:BA)(q:Option Nat)(st:Option Tr)(hb:bs[m]? =Z (bh,wj,q))(ko:bh.size<=1000)(F:Nat->Prop)(hF:∀j,w.heap.size<=j->F j)(hs:StAt (H3 wj) F w q st)(Hg:StOk wj st)(v:aG)(l:List (Sl×Sl))(ts:List TxL)(xA:∀t∈ts,TxOk wj t)(h3:ts.length<=3)(hv:Xa w.heap.size w v l)(gV:TxIn w.heap.size w l ts):
  aB N 45 #[X (Z ⟨cb,0,Y⟩),v] w λe w'=>M D w w'/\JpC E (match JH (H3 wj) st ts with | .error e=>.error e | .ok st'=>.ok (Ht (m+1,H3 wj (72::bh.data.toList),H3 wj (66::JL ts),Xh (H3 wj) st')++JL ts)) e w':=by
 have Hp:=hE.size;obtain⟨rv,kE⟩:∃rv,Jl q=X rv:=⟨_,rfl⟩
 have HE:J (Env E w):=hE;have qt:J (∀W,M D w W->aB N 40 #[X (Z ⟨cb,0,Y⟩)] W λe w'=>e=aC (O I (m:Int))/\W=w'):=λW hT=>(Jco (h.next hT) (by omega)).mono λe w' k=>⟨by rw[k.1,hm];congr 2;omega,k.2⟩
 have gu:J (∀W',M D w W'->ChS cb wj r (m:Int) (aH #[L bh,O I (wj:Int),X rv]) W'):=λW' hT=>by
  have:=(h.next hT).reads m _ hb;simp only[bV,kE]at this;exact this
 have zu:J (∀W,M D w W->Jd W w.heap.size Y (wj:Int) aK (.wr [])->aB N 78 #[X (Z ⟨w.heap.size,0,Y⟩),v] W λe w'=>ToB E W w.heap.size Y wj (Z (ts,.wr (JL ts))) e w'):=λW hT hp=>by
  have hr:=(Jj5 wj ts xA h3).wr [];rw[List.nil_append]at hr;have:=JdF E w.heap.size Hp Y wj hw v l ts (.wr []) W (hE.tch hT noE) hp (hv.tch hT noE) gV.1 (by omega) (XS _ _) (λj x t h1 h2=>by
   obtain⟨k1,k2⟩:=gV.2 j x t h1 h2;have ht:=xA t (QT h2);have e1:=ht.ins;have e2:=ht.made;exact⟨k1.tch hT noE,k2.tch hT noE,by omega,by omega,XS _ _,XS _ _,λo ho=>(ht.outs o ho).2⟩) (by show 0<=_;omega)
  rw[hr]at this;exact this
 have xN:J (∀W,M D w W->aB N 81 #[O I (wj:Int),aH #[O I (wj:Int),X rv],v] W λe w'=>∃(u:Nat)(rv:Option Addr)(ev:aG),e=aC (aI #[aH #[O I (u:Int),X rv],ev])/\ZB E wj F (JH (H3 wj) st ts) u rv ev w'/\M D W w'):=λW hT=>by
  have:=Jfa E wj Hn hw F q st v l ts xA h3 W (hE.tch hT noE) (λj hj=>hF j (Qm hT.size hj)) ((hv.tch hT noE).up hT.size) ⟨gV.1,λj x t h1 h2=>⟨((gV.2 j x t h1 h2).1.tch hT noE).up hT.size,((gV.2 j x t h1 h2).2.tch hT noE).up hT.size⟩⟩ (hs.next hT) Hg;unfold JB at this;rw[kE]at this;refine this.mono λe w' h=>?_;obtain⟨u,rv',ev,h1,h2⟩:=h.2.res;exact⟨u,rv',ev,h1,h2,h.1⟩
 have zi:J (∀W,M D w W->aB N 82 #[X (Z ⟨cb,0,Y⟩),L ⟨(JL ts).toArray⟩] W λe w'=>e=aC (aH #[O aD ((m+1:Nat):Int),L (H3 wj (72::bh.data.toList)),L (H3 wj (66::JL ts)),L ⟨#[]⟩])/\M D W w'):=λW hT=>Jhw E (hE.tch hT noE) Hn hw (h.next hT) m hm gK _ hb ko ⟨(JL ts).toArray⟩ (by have:=JgT wj hw ts xA h3;show (JL ts).toArray.size<=_;simp;omega);have jR:J (∀W q1 kW,M D w W->StAt (H3 wj) F W q1 kW->aB N 83 #[JB wj q1] W λe w'=>e=aC (L (Xh (H3 wj) kW))/\M D W w'):=λW q1 kW hT k=>ZP E wj Hn hw F q1 kW W (hE.tch hT noE) k;have pP:J (∀W kW,M D w W->aB N 84 #[O I (wj:Int),aH #[O aD ((m+1:Nat):Int),L (H3 wj (72::bh.data.toList)),L (H3 wj (66::JL ts)),L (Xh (H3 wj) kW)]] W λe w'=>e=aC (aI #[L ⟨(Ht (m+1,H3 wj (72::bh.data.toList),H3 wj (66::JL ts),Xh (H3 wj) kW)).toArray⟩,aK])/\M D W w'):=λW kW hT=>by
  have:=JaJ E wj (by omega) (m+1) (H3 wj (72::bh.data.toList)) (H3 wj (66::JL ts)) (Xh (H3 wj) kW) W (hE.tch hT noE);refine this.mono λe w' k=>?_;obtain⟨k1,k2⟩:=k;rw[Jmp ⟨by show m+1<2 ^ 32;omega,Jk wj hw _,Jk wj hw _,Xx _ wj (Jk wj hw) kW⟩]at k2;exact⟨k2,k1⟩
 have gd:J ((JL ts).length<=1000):=JgT wj hw ts xA h3;have HHL:J (∀kW,(Ht (m+1,H3 wj (72::bh.data.toList),H3 wj (66::JL ts),Xh (H3 wj) kW)).length<=100):=λkW=>by
  have sz:∀x:BA,x.data.toList.length=x.size:=λx=>by simp only[QA];rfl
  unfold Ht;simp only[Qe,Jf,sz,Jk wj hw,Xx (H3 wj) wj (Jk wj hw)];omega
 obtain⟨c0,c2,yH⟩:=gu.o w (Te _ _);obtain⟨ia,ic,kG⟩:=hv.shape;generalize hAT:JH (H3 wj) st ts=AT at *;generalize H3 wj (72::bh.data.toList)=sa at *;generalize H3 wj (66::JL ts)=sb at *;have be:∀W,(Instr.field 148 (aH #[L bh,O I (wj:Int),X rv]) 1).run N W=.ok (aH #[O I (wj:Int),X rv]) W:=λW=>by kernel_rfl
 clear hE h hb ko hF hs Hg xA h3 hv gV kE hAT;subst kG;go_enter func45,ntmps45;go_wp2_with fail;refine(JY _ _).mono ?_;rintro _ w1⟨rfl,Hy,H9⟩;have H5:J (M D w w1):=H9;have Hx:J (Jd w1 w.heap.size Y (wj:Int) aK (.wr [])):=Hy;clear H9 Hy c0 c2 yH;obtain⟨c0,c2,yH⟩:=gu.o w1 H5.o;go_wp2_with fail;refine(zu.o w1 H5.o Hx.o).mono ?_;rintro _ w2⟨x2,g2,rfl,kV,cV,Ha,_⟩;have kF:J (Jg E w2 w.heap.size g2 wj (Z (.wr (JL ts)))):=kV;have H6:J (M D w w2):=XD (b:=w.heap.size) (Ql _) H5.o Ha;clear kV Ha c0 c2 yH Hx H5 cV zu;obtain⟨c0,c2,yH⟩:=gu.o w2 H6.o;go_wp2_with fail;refine(Jas E w.heap.size g2 wj (Z (.wr (JL ts))) (λp hp=>⟨_,(Option.some.inj hp).symm⟩) w2 kF.o).mono ?_;rintro _ w3⟨Hs,rfl⟩;have Hb:J (M D w w3):=H6.o.go Hs;have rU:J (M D w w3.drew):=Hb.o.dr 1;clear Hs kF H6 c0 c2 yH;have rV:J (M D w (w3.alloc (T #[O I 0,X Y] 146)).drew):=(Hb.o.go (Ta _ _ _)).dr 1;have dQ:J ((w3.alloc (T #[O I 0,X Y] 146)).drew.heap[w3.heap.size]? =Z (T #[O I 0,X Y] 146)):=Qf _ _;have HZ:J (w3.heap.size<(w3.alloc (T #[O I 0,X Y] 146)).drew.heap.size):=(Jb dQ.o)
 obtain⟨c0,c2,yH⟩:=gu.o w3.drew rU.o;obtain⟨a0,a2,pu⟩:=gu.o (w3.alloc (T #[O I 0,X Y] 146)).drew rV.o;go_wp2_with fail;go_region_held3 (λW=>W.cell? ⟨cb,0,Y⟩=Z (O I (wj:Int))/\W.cell? ⟨cb,2,Y⟩=Z (.map (Z r))/\(lD 141 (.map (Z r)) (O I (m:Int)) false).run N W=.ok (aH #[L bh,O I (wj:Int),X rv]) W) (go_keep) ((first|(go_at_call 40;refine(qt.o _ (by first|exact rU.o|exact rV.o)).mono ?_;rintro _ _⟨rfl,rfl⟩)|(go_at_call 81;refine(xN.o w3.drew rU.o).mono ?_;rintro _ w4⟨u4,ku,ev4,rfl,jS,Hu⟩;have gX:M D w w4:=rU.o.go Hu;obtain⟨d0,d2,uZ⟩:=gu.o w4 gX;obtain⟨f0,f2,zM⟩:=gu.o (w4.alloc (T #[O I (u4:Int),X ku] 146)) (gX.go (Ta _ _ _));obtain⟨_,_,dR⟩:=gu.o (w4.alloc (T #[O I 0,X Y] 146)) (gX.go (Ta _ _ _));have Hm:J (M D w w4):=gX;have qz:J (ZB _ _ _ _ _ _ _ _):=jS;have dS:J (w4.heap.size=w4.heap.size):=rfl;clear gX Hu jS)|(go_at_call 81;refine(xN.o (w3.alloc (T #[O I 0,X Y] 146)).drew rV.o).mono ?_;rintro _ w4⟨u4,ku,ev4,rfl,jS,Hu⟩;have gX:M D w w4:=rV.o.go Hu;obtain⟨d0,d2,uZ⟩:=gu.o w4 gX;have yX:w4.heap[w3.heap.size]? =Z (T #[O I 0,X Y] 146):=(Hu.block _ HZ.o (λh=>h)).trans dQ.o;have s0:w4.cell? ⟨w3.heap.size,0,Y⟩=Z (O I 0):=Ja yX;have s1:w4.cell? ⟨w3.heap.size,1,Y⟩=Z (X Y):=Ja yX;have sf:∀j,w4.frozen? ⟨w3.heap.size,j,Y⟩=false:=λj=>Qg _ _ _ _ _ yX;obtain⟨f0,f2,zM⟩:=gu.o ((w4.setCell ⟨w3.heap.size,0,Y⟩ (O I (u4:Int))).setCell ⟨w3.heap.size,1,Y⟩ (X ku)) (by rw[set2 _ _ _ _ _ _ _ yX];exact gX.trans (Ts _ _ _) (λj hj=>aN (by have:=Hb.o.size;omega)));have Hm:J (M D w w4):=gX;have qz:J (ZB _ _ _ _ _ _ _ _):=jS;have bj:J (w4.heap[w3.heap.size]? =Z _):=yX;clear gX Hu jS yX)))
 all_goals
  clear c0 c2 yH a0 a2 pu d0 d2 uZ
  first
  | (
   have tk:=dS;have xP:(w4.alloc (T #[O I (u4:Int),X ku] 146)).heap[w4.heap.size]? =Z (T #[O I (u4:Int),X ku] 146):=Qf _ _;have kD:J (M D w (w4.alloc (T #[O I (u4:Int),X ku] 146))):=Hm.o.go (Ta _ _ _);have qF:J (ZB E wj F AT u4 ku ev4 (w4.alloc (T #[O I (u4:Int),X ku] 146))):=qz.o.kept (λq st h=>h.next (Ta _ _ _)) (λk v h=>h.next (Ta _ _ _));clear qz Hm tk dS dR;obtain⟨w5,xi⟩:∃w5,w5=w4.alloc (T #[O I (u4:Int),X ku] 146):=⟨_,rfl⟩
   rw[<-xi]at xP kD qF f0 f2 zM ⊢;clear xi;obtain⟨k9,ui⟩:∃k9,k9=w4.heap.size:=⟨_,rfl⟩
   rw[<-ui]at xP ⊢;clear ui)
  | (
   obtain⟨xP,eL,p3,p4⟩:=XF bj.o Hm.o Hb.o.size (O I (u4:Int)) (X ku);have kD:J (M D w ((w4.setCell ⟨w3.heap.size,0,Y⟩ (O I (u4:Int))).setCell ⟨w3.heap.size,1,Y⟩ (X ku))):=eL;have qF:J (ZB E wj F AT u4 ku ev4 ((w4.setCell ⟨w3.heap.size,0,Y⟩ (O I (u4:Int))).setCell ⟨w3.heap.size,1,Y⟩ (X ku))):=qz.o.kept (λq st h=>p3 _ _ _ _ h) (λk v h=>p4 _ _ _ h);clear qz Hm bj p3 p4 eL s0 s1 sf;obtain⟨w5,xi⟩:∃w5,w5=((w4.setCell ⟨w3.heap.size,0,Y⟩ (O I (u4:Int))).setCell ⟨w3.heap.size,1,Y⟩ (X ku)):=⟨_,rfl⟩
   rw[<-xi]at xP kD qF f0 f2 zM ⊢;clear xi;obtain⟨k9,ui⟩:∃k9,k9=w3.heap.size:=⟨_,rfl⟩
   rw[<-ui]at xP ⊢;clear ui)
  clear Hb rU rV HZ dQ;have s0:w5.cell? ⟨k9,0,Y⟩=Z (O I (u4:Int)):=Ja xP;have s1:w5.cell? ⟨k9,1,Y⟩=Z (X ku):=Ja xP;have pv:k9<w5.heap.size:=(Jb xP)
  have xE:J (w5.heap[k9]? =Z (T #[O I (u4:Int),X ku] 146)):=xP;clear xP
  cases AT with
  | error er=>
   obtain⟨tv,uv,rfl,hv⟩:=qF.o;have HV:J (Jn E (erG er) w5 (aJ tv uv)):=hv;clear hv qF zi pP jR xN gu qt;go_wp2_with fail;refine(Xk _ _ _ _).mono ?_;rintro _ _⟨rfl,rfl⟩;go_wp2;go_ret2;exact⟨kD.o.go (Ta _ _ _),_,_,rfl,.wrap _ _ _ (Qf _ _) (HV.o.next (Ta _ _ _))⟩
  | ok st'=>
   obtain⟨q',rfl,hq,rfl,s5,pw⟩:=qF.o;have HQ:J (Jl q'=X ku):=hq;have zQ:J (StAt (H3 u4) F w5 q' st'):=s5;clear hq s5 pw qF xN;obtain⟨y0,y2,hly⟩:=gu.o w5 kD.o;clear f0 f2 zM;go_wp2_with fail;refine(zi.o w5 kD.o).mono ?_;rintro _ w6⟨rfl,jN⟩;have kz:J (M D w w6):=kD.o.go jN;have HT6a:J (M D w (w6.alloc (T #[O aD ((m+1:Nat):Int),L sa,L sb,L ⟨#[]⟩] 167))):=kz.o.go (Ta _ _ _);have ak:J (StAt (H3 u4) F (w6.alloc (T #[O aD ((m+1:Nat):Int),L sa,L sb,L ⟨#[]⟩] 167)) q' st'):=(zQ.o.next jN).next (Ta _ _ _);have t0:w6.cell? ⟨k9,0,Y⟩=Z (O I (u4:Int)):=(jN.cell (p:=⟨k9,0,Y⟩) pv (λh=>h)).trans s0;have t1:w6.cell? ⟨k9,1,Y⟩=Z (X ku):=(jN.cell (p:=⟨k9,1,Y⟩) pv (λh=>h)).trans s1;have bi:k9<w6.heap.size:=Qk pv jN.size;have uz:=jR.o _ q' st' HT6a.o ak.o;unfold JB at uz;rw[HQ.o]at uz;have vP:J (aB _ _ _ _ _):=uz;clear jN s0 s1 y0 y2 hly zi uz ak zQ;go_wp2_with fail;refine vP.out.mono ?_;rintro _ w7⟨rfl,gJ⟩;have gx:J (M D w w7):=HT6a.o.go gJ;have cy:w7.heap[w6.heap.size]? =Z (T #[O aD ((m+1:Nat):Int),L sa,L sb,L ⟨#[]⟩] 167):=(gJ.block _ (by simp) (λh=>h)).trans (Qf _ _);have r0:w7.cell? ⟨w6.heap.size,0,Y⟩=Z (O aD ((m+1:Nat):Int)):=Ja cy;have r1:w7.cell? ⟨w6.heap.size,1,Y⟩=Z (L sa):=Ja cy;have r2:w7.cell? ⟨w6.heap.size,2,Y⟩=Z (L sb):=Ja cy;have r3:w7.cell? ⟨w6.heap.size,3,Y⟩=Z (L ⟨#[]⟩):=Ja cy;have fr:∀j,w7.frozen? ⟨w6.heap.size,j,Y⟩=false:=λj=>Qg _ _ _ _ _ cy;have uM:J (w7.heap[w6.heap.size]? =Z _):=cy;obtain⟨y0,y2,hly⟩:=gu.o w7 gx.o;generalize ye:Xh (H3 u4) st'=sd at *;have uO:J (Xh (H3 u4) st'=sd):=ye;have HHC:=λW hT=>pP.o W st' hT;rw[ye]at HHC;have HHC':J (∀W,M D w W->aB _ _ _ W _):=HHC;clear gJ cy vP jR HHC pP ye t0 t1;go_wp2_with fail;have jg:w7.setCell ⟨w6.heap.size,3,Y⟩ (L sd)=w7.setRow w6.heap.size #[O aD ((m+1:Nat):Int),L sa,L sb,L sd]:=(by rw[Qj w7 w6.heap.size 3 _ _ (0,0) _ uM.o];rfl);have jh:(w7.setRow w6.heap.size #[O aD ((m+1:Nat):Int),L sa,L sb,L sd]).heap[w6.heap.size]? =Z (T #[O aD ((m+1:Nat):Int),L sa,L sb,L sd] 167):=Qi _ _ _ _ _ _ uM.o;have gW:J (M D w (w7.setRow w6.heap.size #[O aD ((m+1:Nat):Int),L sa,L sb,L sd])):=gx.o.trans (Ts _ _ _) (λj hj=>aN (by have:=kz.o.size;omega));rw[jg];clear jg r0 r1 r2 r3 fr y0 y2 hly uM;generalize w7.setRow w6.heap.size #[O aD ((m+1:Nat):Int),L sa,L sb,L sd]=w8 at *;have r0:w8.cell? ⟨w6.heap.size,0,Y⟩=Z (O aD ((m+1:Nat):Int)):=Ja jh;have r1:w8.cell? ⟨w6.heap.size,1,Y⟩=Z (L sa):=Ja jh;have r2:w8.cell? ⟨w6.heap.size,2,Y⟩=Z (L sb):=Ja jh;have r3:w8.cell? ⟨w6.heap.size,3,Y⟩=Z (L sd):=Ja jh;obtain⟨y0,_,_⟩:=gu.o w8 gW.o;have zL:J (M D w w8.drew):=gW.o.dr 1;have hz8:w6.heap.size<w8.heap.size:=(Jb jh)
   have HR8:J (w8.heap[w6.heap.size]? =Z _):=jh;clear jh;go_region_held3 (λW=>W.cell? ⟨cb,0,Y⟩=Z (O I (u4:Int))/\W.cell? ⟨w6.heap.size,0,Y⟩=Z (O aD ((m+1:Nat):Int))/\W.cell? ⟨w6.heap.size,1,Y⟩=Z (L sa)/\W.cell? ⟨w6.heap.size,2,Y⟩=Z (L sb)/\W.cell? ⟨w6.heap.size,3,Y⟩=Z (L sd)) (go_keep) ((go_at_call 84;refine(HHC'.out _ zL.o).mono ?_;rintro _ w9⟨rfl,jX⟩;have cz:M D w w9:=zL.o.go jX;have hT89:M D w8 w9:=(Td D w8 1).go jX;have yX:w9.heap[w6.heap.size]? =Z (T #[O aD ((m+1:Nat):Int),L sa,L sb,L sd] 167):=(hT89.block _ hz8 (λh=>h)).trans HR8.o;have q0:w9.cell? ⟨w6.heap.size,0,Y⟩=Z (O aD ((m+1:Nat):Int)):=Ja yX;have q1:w9.cell? ⟨w6.heap.size,1,Y⟩=Z (L sa):=Ja yX;have q2:w9.cell? ⟨w6.heap.size,2,Y⟩=Z (L sb):=Ja yX;have q3:w9.cell? ⟨w6.heap.size,3,Y⟩=Z (L sd):=Ja yX;obtain⟨x0,_,_⟩:=gu.o w9 cz;have j8:J (M D w w9):=cz;clear jX cz hT89 yX))
   all_goals have hl:=HHL.o st';rw[uO.o]at hl;obtain⟨ss,_,hss,jL⟩:=Jds (Ht (m+1,sa,sb,sd)) (JL ts) (by have:=gd.o;omega) hl;have nO:J (ss.data.toList=Ht (m+1,sa,sb,sd)++JL ts):=hss;clear hl hss HHL gd gu HHC' q0 q1 q2 q3 x0 r0 r1 r2 r3 y0;generalize (⟨(Ht (m+1,sa,sb,sd)).toArray⟩:BA)=hbz at *;generalize (⟨(JL ts).toArray⟩:BA)=bbz at *;go_wp2;go_ret2;refine⟨j8.o,?_⟩;show _=Ending.returned (aI #[L ⟨(Ht (m+1,sa,sb,Xh (H3 u4) st')++JL ts).toArray⟩,aK]);rw[uO.o,<-nO.o];rfl

theorem JeZ(a:Addr)(w:aA):(method 641 153 (X (Z a)) "trove/wire.place").run N w=.ok (379,X (Z a)) w:=by kernel_rfl
theorem Je0(a:Addr)(w:aA):(method 641 153 (X (Z a)) "trove/wire.since").run N w=.ok (380,X (Z a)) w:=by kernel_rfl
theorem JnW(b:Nat)(g:Option Nat)(wj:Int)(e:aG)(done:List UInt8)(w:aA)(hp:Jd w b g wj e (.wr done)):
  aB N 379 #[X (Z ⟨b,0,Y⟩)] w λe w'=>e=aC (O I (done.length:Int))/\w=w':=by
 obtain⟨v,hv,ko,hZ⟩:=hp;obtain⟨a,c,rfl⟩:=ko.shape;have c3:w.cell? ⟨b,3,Y⟩=Z (R a (bc done).length c):=Ja hZ;rw[YE]at c3;clear hv ko hZ;go_enter func379,ntmps379;go_wp2;go_ret;exact⟨rfl,rfl⟩
theorem JnX(b:Nat)(g:Option Nat)(wj:Int)(err:aG)(done:List UInt8)(w:aA)(hp:Jd w b g wj err (.wr done)):
  aB N 380 #[X (Z ⟨b,0,Y⟩),O I 0] w λe w'=>e=aC (L ⟨done.toArray⟩)/\M D w w':=by
 obtain⟨v,hv,ko,hZ⟩:=hp;have c3:w.cell? ⟨b,3,Y⟩=Z v:=Ja hZ;have sR:=Ye (P:=N) (w:=w) (l:=done) ko 52 9 5 underlying52 underlying5 underlying9;obtain⟨a,c,rfl⟩:=ko.shape;clear hv ko hZ;generalize (⟨done.toArray⟩:BA)=r at *;generalize (bc done).length=n at *;go_enter func380,ntmps380;go_wp2;go_ret;exact⟨rfl,Te _ _⟩
def gI(letter content:List UInt8):List UInt8:=letter++Hf content.length 2 2++content
def ke(letter content:List UInt8):List UInt8:=gI letter content++(H3 4 (gI letter content)).data.toList
theorem strL(s:BA):(⟨s.data.toList.toArray⟩:BA)=s:=by simp
theorem Jnp(b:Nat)(g:Option Nat)(wj:Int)(done:List UInt8)(s:BA)(hs:s.size<65536)(hd:done.length<=1000000000000)(w:aA)(hp:Jd w b g wj aK (.wr done)):
  aB N 210 #[X (Z ⟨b,0,Y⟩),L s] w λe w'=>e=aC (L s)/\XI w w' b g wj (.wr (done++Hf s.size 2 2++s.data.toList)):=by
 have s6:(PS.wr done).num s.size 2=Z (s.size,.wr (done++Hf s.size 2 2)):=by simp only[PS.num];rw[if_pos (by omega)]
 have zf:(PS.wr (done++Hf s.size 2 2)).txt s.data.toList s.size=Z (s.data.toList,.wr (done++Hf s.size 2 2++s.data.toList)):=by simp only[PS.txt];rw[if_pos (by simp only[QA];rfl)]
 have HN:J (aB N 138 #[X (Z ⟨b,0,Y⟩),O aD (s.size:Int),O I 2] w λe w'=>e=aC (O aD (s.size:Int))/\XI w w' b g wj (.wr (done++Hf s.size 2 2))):=Xv b g wj s.size 2 s.size (.wr done) _ w hp (by omega) (by simp only[PS.len];omega) s6;have HT:J (∀w1 g1,Jd w1 b g1 wj aK (.wr (done++Hf s.size 2 2))->aB N 209 #[X (Z ⟨b,0,Y⟩),L s,O I (s.size:Int)] w1 λe w'=>e=aC (L s)/\XI w1 w' b g1 wj (.wr (done++Hf s.size 2 2++s.data.toList))):=λw1 g1 h1=>
  (Jaq b g1 wj s s.size s.data.toList _ _ w1 h1 (by simp only[PS.len,Qe,Jf];omega) zf).mono λe w' k=>⟨by rw[k.1,strL],k.2⟩
 have h1:IntKind.u64.wrap (s.size:Int)=(s.size:Int):=JK _ (by omega) (by omega);have h2:I.wrap (s.size:Int)=(s.size:Int):=Jo _ (by omega) (by omega);clear hp s6 zf hs hd;go_enter func210,ntmps210;go_wp2_with fail;refine HN.o.mono ?_;rintro _ w1⟨rfl,g1,Hy,ql,H9⟩;have jn:J (Jq w g g1):=ql;have H5:J (M _ w w1):=H9;have Hx:J (Jd _ _ _ _ _ _):=Hy;clear Hy ql H9 HN;go_wp2_with fail;refine(HT.o w1 g1 Hx.o).mono ?_;rintro _ w2⟨rfl,hto⟩;have rl:J (XI w w2 b g wj _):=XI.trans jn.o H5.o hto;clear hto HT Hx;go_wp2;go_ret;exact⟨rfl,rl.o⟩
theorem Jqi(E:Nat->Addr)(b:Nat)(g:Option Nat)(wj:Int)(done:List UInt8)(hd:done.length<=1000000)(w:aA)(hE:Env E w)(hp:Jd w b g wj aK (.wr done)):
  aB N 211 #[X (Z ⟨b,0,Y⟩),O I 0] w λe w'=>e=aC (aI #[])/\XI w w' b g wj (.wr (done++(H3 4 done).data.toList)):=by
 have c0:w.cell? ⟨b,0,Y⟩=Z (aJ 153 (X (Z ⟨b,0,Y⟩))):=by obtain⟨v,_,_,hZ⟩:=hp;exact Ja hZ
 have hm:=Je0 ⟨b,0,Y⟩;have Hp:(H3 4 done).size=4:=Jk 4 (by omega) done;have zf:(PS.wr done).txt (H3 4 done).data.toList 4=Z ((H3 4 done).data.toList,.wr (done++(H3 4 done).data.toList)):=by simp only[PS.txt];rw[if_pos (by simp only[QA];exact Hp)]
 obtain⟨dz,hdz⟩:∃dz:BA,dz=⟨done.toArray⟩:=⟨_,rfl⟩
 obtain⟨sm,uJ⟩:∃sm:BA,sm=H3 4 done:=⟨_,rfl⟩
 have HSI:J (aB N 380 #[X (Z ⟨b,0,Y⟩),O I 0] w λe w'=>e=aC (L dz)/\M D w w'):=by rw[hdz];exact JnX b g wj aK done w hp
 have yU:J (∀w1,M D w w1->aB N 130 #[O I 4,L dz] w1 λe w'=>e=aC (L sm)/\M D w1 w'):=λw1 hT=>by
  rw[hdz,uJ];exact JaZ E 4 ⟨done.toArray⟩ w1 (hE.tch hT noE) (by omega) (by omega) (by show done.toArray.size<=_;simp;omega)
 have HT:J (∀w1,M D w w1->aB N 209 #[X (Z ⟨b,0,Y⟩),L sm,O I 4] w1 λe w'=>e=aC (L sm)/\XI w w' b g wj (.wr (done++(H3 4 done).data.toList))):=λw1 hT=>by
  rw[uJ];exact(Jaq b g wj (H3 4 done) 4 _ _ _ w1 (hp.tch hT (λh=>h) (λ_ _ h=>h)) (by simp only[PS.len];omega) zf).mono λe w' k=>⟨by rw[k.1,strL],by
   obtain⟨g',k1,k2,k3⟩:=k.2;exact⟨g',k1,k2.imp (λh=>h) (λ⟨j,h1,h2⟩=>⟨j,h1,Qm hT.size h2⟩),(hT.mono noE).trans k3 (λj hj=>aM hj)⟩⟩
 clear hE hp zf Hp uJ hdz hd;go_enter func211,ntmps211;go_wp2_with fail;refine HSI.o.mono ?_;rintro _ w1⟨rfl,H9⟩;have H5:J (M _ w w1):=H9;clear H9 HSI;go_wp2_with fail;refine(yU.o w1 H5.o).mono ?_;rintro _ w2⟨rfl,Ha⟩;have H6:J (M D w w2):=H5.o.go Ha;clear Ha yU H5;go_wp2_with fail;refine(HT.o w2 H6.o).mono ?_;rintro _ w3⟨rfl,hto⟩;have rl:J (XI _ _ _ _ _ _):=hto;clear hto HT;go_wp2;refine bodyPost_end (v:=aI #[]) (results_none results211 _ _ _) rfl ⟨rfl,rl.o⟩
theorem Jpw(w:aA)(g:Nat)(t:TypeId)(a b v0 v1:aG)(h:w.heap[g]? =Z (T #[a,b] t (0,0))):(w.setCell ⟨g,0,Y⟩ v0).setCell ⟨g,1,Y⟩ v1=w.setRow g #[v0,v1]:=set2 _ _ _ _ _ _ _ h
theorem Jlc(E:Nat->Addr)(b:Nat)(Hi:18<=b)(wj:Nat)(lt ct:BA)(hl:lt.size=1)(hc:ct.size<65536)(w:aA)(hE:Env E w)(hp:Jd w b Y (wj:Int) aK (.wr [])):
  aB N 141 #[X (Z ⟨b,0,Y⟩),aH #[L lt,L ct]] w λe w'=>e=aC (aH #[L lt,L ct])/\StTo E w w' b Y (wj:Int) (Z (.wr (ke lt.data.toList ct.data.toList))):=by
 have H7:=hp.lt;have gC:=Run.start Hi hE (show Jg E w b Y (wj:Int) (Z (.wr [])) from hp) (M.allocs D w (T #[L lt,L ct] 195) (T #[L ⟨#[]⟩,L ⟨#[]⟩] 195));have hL:lt.data.toList.length=1:=by simp only[QA];exact hl
 have zf:(PS.wr []).txt lt.data.toList 1=Z (lt.data.toList,.wr lt.data.toList):=by simp only[PS.txt];rw[if_pos hL];rfl
 have ki:J (∀w1 g1,Jd w1 b g1 (wj:Int) aK (.wr [])->aB N 209 #[X (Z ⟨b,0,Y⟩),L lt,O I 1] w1 λe w'=>e=aC (L lt)/\StTo E w1 w' b g1 (wj:Int) (Z (.wr lt.data.toList))):=λw1 g1 h1=>
  (Jaq b g1 wj lt 1 _ _ _ w1 h1 (by simp[PS.len]) zf).mono λe w' k=>⟨by rw[k.1,strL],k.2⟩
 have yG:J (∀w1 g1,Jd w1 b g1 (wj:Int) aK (.wr lt.data.toList)->aB N 210 #[X (Z ⟨b,0,Y⟩),L ct] w1 λe w'=>e=aC (L ct)/\StTo E w1 w' b g1 (wj:Int) (Z (.wr (gI lt.data.toList ct.data.toList)))):=λw1 g1 h1=>
  (Jnp b g1 wj lt.data.toList ct hc (by omega) w1 h1).mono λe w' k=>⟨k.1,by
   have e:ct.data.toList.length=ct.size:=(by simp only[QA];rfl);unfold gI;rw[e];exact k.2⟩
 have bW:(gI lt.data.toList ct.data.toList).length<=1000000:=by
  have e:ct.data.toList.length=ct.size:=by simp only[QA];rfl
  unfold gI;simp only[Qe,Jf,hL,e];omega
 have HSM:J (∀w1 g1,Env E w1->Jd w1 b g1 (wj:Int) aK (.wr (gI lt.data.toList ct.data.toList))->aB N 211 #[X (Z ⟨b,0,Y⟩),O I 0] w1 λe w'=>e=aC (aI #[])/\StTo E w1 w' b g1 (wj:Int) (Z (.wr (ke lt.data.toList ct.data.toList)))):=λw1 g1 h1 h2=>Jqi E b g1 wj _ bW w1 h1 h2;have hm:=JeZ ⟨b,0,Y⟩;have c0:=(show ∀W,Jd W b Y (wj:Int) aK (.wr [])->W.cell? ⟨b,0,Y⟩=Z (aJ 153 (X (Z ⟨b,0,Y⟩))) from λW h=>by obtain⟨v,_,_,hZ⟩:=h;exact Ja hZ) _ gC.port;have uj:J (∀W,Jd W b Y (wj:Int) aK (.wr [])->aB N 379 #[X (Z ⟨b,0,Y⟩)] W λe w'=>e=aC (O I 0)/\W=w'):=λW h=>JnW b Y wj .nilIface [] W h;have RUN:J (Run _ _ _ _ _ _ _ _ _):=gC;clear hE hp gC zf bW hL;generalize gI lt.data.toList ct.data.toList=rA at *;generalize ke lt.data.toList ct.data.toList=rB at *;generalize lt.data.toList=lL at *;go_enter func141,ntmps141;go_wp2_with fail;refine(uj.o _ RUN.out.port).mono ?_;rintro _ _⟨rfl,rfl⟩;go_wp2_with fail;refine(ki.o _ _ RUN.out.port).mono ?_;rintro _ w1⟨rfl,h⟩;obtain⟨g1,R1⟩:=RUN.out.step h;have qj:=(R1.box (k:=w.heap.size) (Ql _) (heap_alloc2_old _ _ _)).1;have c1:w1.cell? ⟨w.heap.size,1,Y⟩=Z (L ct):=Ja qj;have Hz:J (Run _ _ _ _ _ _ _ _ _):=R1;clear R1 qj h ki uj c0;go_wp2_with fail;refine(yG.o _ _ Hz.out.port).mono ?_;rintro _ w2⟨rfl,h⟩;obtain⟨g2,R2⟩:=Hz.out.step h;have kQ:J (Run _ _ _ _ _ _ _ _ _):=R2;clear R2 h yG c1;go_wp2_with fail;refine(HSM.o _ _ kQ.out.env kQ.out.port).mono ?_;rintro _ w4⟨rfl,h⟩;obtain⟨g4,R4⟩:=kQ.out.step h;have rR:=(R4.box (k:=w.heap.size+1) (by omega) (heap_alloc2_new _ _ _)).1;have e0:w4.cell? ⟨w.heap.size+1,0,Y⟩=Z (L ⟨#[]⟩):=Ja rR;have e1:w4.cell? ⟨w.heap.size+1,1,Y⟩=Z (L ⟨#[]⟩):=Ja rR;have fR:∀j,w4.frozen? ⟨w.heap.size+1,j,Y⟩=false:=λj=>Qg _ _ _ _ _ rR;have jp:J (Run _ _ _ _ _ _ _ _ _):=R4;have RR:J (_=_):=rR;clear R4 rR h HSM;go_wp2;rw[Jpw _ _ _ _ _ _ _ RR.out];exact QK (v:=aH #[L lt,L ct]) (Qq results141 _ _ (w.heap.size+1) _ _ (0,0) _ rfl (Qi _ _ _ _ _ _ RR.out) underlying195 rfl (by kernel_rfl)) rfl ⟨rfl,jp.out.done (k:=w.heap.size+1) (by omega) (heap_alloc2_new _ _ _) (by decide)⟩

theorem Yz(x:BA):x.data.toList.length=x.size:=by simp only[QA];rfl
theorem Jei(a b:List UInt8):(ke a b).length=a.length+b.length+6:=by
 unfold ke;rw[Qe,Yz,Jk 4 (by omega)];unfold gI;simp only[Qe,Jf];omega
structure Xy(base:Nat)(w:aA)(v:aG)(lg:List UInt8):Prop where
 bs:Bs base w v (bc lg)
 kind:RowT 5 w v
theorem Bs.tch{xs:List aG}(h:Bs base w v xs)(k:M S w w')(hs:∀j,v.ownBlock=Z j->¬S j):Bs base w' v xs:=by
 rcases h with h|⟨g,cap,hv,hb,H7,vk,hm,hc,tL⟩
 ·exact aM h
 ·have yr:w'.heap[g]? =w.heap[g]? :=k.block g H7 (hs g (by rw[hv];rfl));refine aN ⟨g,cap,hv,hb,Qk H7 k.size,vk,hm,λj u hu=>?_,λj hj=>?_⟩
  ·rw[World.cell?_of_block (a:=⟨g,j,Y⟩) yr];exact hc j u hu
  ·rw[World.cell?_of_block (a:=⟨g,j,Y⟩) yr,World.frozen?_of_block (a:=⟨g,j,Y⟩) yr];exact tL j hj
theorem Xy.tch(h:Xy base w v lg)(k:M S w w')(hs:∀j,v.ownBlock=Z j->¬S j):Xy base w' v lg:=
 ⟨h.bs.tch k hs,λj hj=>by
  obtain⟨cur,m,hr⟩:=h.kind j hj;exact⟨cur,m,(k.block j (Jb hr) (hs j hj)).trans hr⟩⟩
theorem Xy.next(h:Xy base w v lg)(k:M D w w'):Xy base w' v lg:=h.tch k (λ_ _ e=>e)
theorem Xy.ne_row{bs:List BV}(h:Xy base w v lg)(c:JR w cb wj fl r bs v):¬Z cb=v.ownBlock/\¬Z r=v.ownBlock:=by
 constructor
 ·intro e;obtain⟨cur,m,hr⟩:=h.kind cb e.symm;rw[c.row]at hr;simp at hr
 ·intro e;obtain⟨cur,m,hr⟩:=h.kind r e.symm;rw[c.map]at hr;simp at hr
theorem Jek(E:Nat->Addr)(hE:Env E w){bs:List BV}(h:JR w cb wj fl r bs lv)(base:Nat)(He:base<=w.heap.size)(lg:List UInt8)(hl:Xy base w lv lg)(vz:lg.length<=140737488000000)(lt ct:BA)(h1:lt.size=1)(h2:ct.size<65536):
  aB N 89 #[X (Z ⟨cb,0,Y⟩),L lt,L ct] w λe w'=>e=aC aK/\∃kq,JR w' cb wj fl r bs kq/\Xy base w' kq (lg++ke lt.data.toList ct.data.toList)/\M (λk=>k=cb\/Z k=lv.ownBlock) w w'/\Jq w lv.ownBlock kq.ownBlock:=by
 have Hp:=hE.size;have c0:w.cell? ⟨cb,0,Y⟩=Z (O I (wj:Int)):=Ja h.row;obtain⟨i0,hi,xV,jH,qQ⟩:=info_parts Jb0;obtain⟨rec,xh⟩:∃rec,rec=ke lt.data.toList ct.data.toList:=⟨_,rfl⟩
 have bW:rec.length<=70000:=by rw[xh,Jei,Yz,Yz];omega
 have xW:J (∀W,M D w W->Jd W w.heap.size Y (wj:Int) aK (.wr [])->aB N 141 #[X (Z ⟨w.heap.size,0,Y⟩),aH #[L lt,L ct]] W λe w'=>e=aC (aH #[L lt,L ct])/\StTo E W w' w.heap.size Y (wj:Int) (Z (.wr rec))):=λW hT hp=>by
  rw[xh];exact Jlc E w.heap.size Hp wj lt ct h1 h2 W (hE.tch hT noE) hp
 have gL:J _:=h;have HL:J _:=hl;have xJ:J (lg.length<=140737488000000/\rec.length<=70000/\base<=w.heap.size):=⟨vz,bW,He⟩
 rw[<-xh];obtain⟨sr,hsr⟩:∃sr:BA,sr=⟨rec.toArray⟩:=⟨_,rfl⟩
 have HSR:J (byteCells sr=bc rec/\sr.size=rec.length):=by rw[hsr];exact⟨by simp[byteCells,bc],Ji _⟩
 have nA:J (∀W g,Jg E W w.heap.size g (wj:Int) (Z (.wr rec))->aB N 79 #[X (Z ⟨w.heap.size,0,Y⟩)] W λe w'=>M D W w'/\e=aC (aI #[L sr,aK])):=λW g hp=>by
  rw[hsr];exact Jas E w.heap.size g wj (Z (.wr rec)) (λp hp=>⟨_,(Option.some.inj hp).symm⟩) W hp
 clear hE h hl vz bW He h1 h2 xh hsr;go_enter func89,ntmps89;go_wp2_with fail;refine(JY _ _).mono ?_;rintro _ w1⟨rfl,Hy,H9⟩;have H5:J _:=H9;have Hx:J _:=Hy;clear H9 Hy c0;go_wp2_with fail;refine(xW.o w1 H5.o Hx.o).mono ?_;rintro _ w2⟨rfl,g2,kV,gK,Ha⟩;have kF:J _:=kV;have H6:J (M D w w2):=XD (b:=w.heap.size) (Ql _) H5.o Ha;clear kV Ha gK Hx H5 xW;go_wp2_with fail;refine(nA.o w2 g2 kF.o).mono ?_;rintro _ w3⟨Hs,rfl⟩;have Hb:J (M D w w3):=H6.o.go Hs;have kw:J (JR w3 cb wj fl r bs lv):=gL.o.next Hb.o;have vN:J (Xy base w3 lv lg):=HL.o.next Hb.o;have c3:w3.cell? ⟨cb,3,Y⟩=Z lv:=Ja kw.o.row;have hbs3:J (Bs base w3 lv (bc lg)):=vN.o.bs;have ml:J ((bc lg).length=lg.length):=YE lg;clear Hs kF H6 nA;go_wp2_with (at_builtin;refine Jct rfl _ _ 52 9 5 rfl i0 _ underlying52 hi xV jH qQ rfl rfl hbs3.out _ sr.size (byteCells sr) rfl (Src.ofString _ underlying9 sr) (by rw[ml.out,HSR.o.2];have:=xJ.o;omega) (by have:=xJ.o;have:=Hb.o.size;omega) ?_;intro v4 w4 bA nw hmv4 bF;have mZ:J _:=bA;have sH:J _:=nw;have HM4:J (Jq w3 lv.ownBlock v4.ownBlock):=hmv4;have dS:J (RowT _ w4 v4):=bF vN.o.kind;have jS:w4.heap[cb]? =Z (T #[O I (wj:Int),O I (fl:Int),.map (Z r),lv] 143):=(nw.block cb (Jb kw.o.row) (vN.o.ne_row kw.o).1).trans kw.o.row;have d3:w4.cell? ⟨cb,3,Y⟩=Z lv:=Ja jS;have df:w4.frozen? ⟨cb,3,Y⟩=false:=Qg _ _ _ _ _ jS;have qz:J _:=jS;obtain⟨y1,y2,y3,tP⟩:=bA.shape3;clear bA nw hmv4 bF jS;subst tP);go_ret;have jg:=Qj w4 cb 3 _ _ (0,0) (R y1 y2 y3) qz.o;have hZ:(w4.setCell ⟨cb,3,Y⟩ (R y1 y2 y3)).heap[cb]? =Z (T #[O I (wj:Int),O I (fl:Int),.map (Z r),R y1 y2 y3] 143):=by rw[jg];exact Qi _ _ _ _ _ _ qz.o
 have Hl:=vN.o.ne_row kw.o;have hrlt:=(Jb kw.o.map)
 have nt:w4.heap[r]? =Z (.map (JT 0 bs).toArray bs.length):=(sH.o.block r hrlt Hl.2).trans kw.o.map;have hrc:r ≠ cb:=λe=>by have:=kw.o.row;rw[<-e,kw.o.map]at this;cases this
 have tS:M (λk=>k=cb) w4 (w4.setCell ⟨cb,3,Y⟩ (R y1 y2 y3)):=by rw[jg];exact Ts _ _ _
 have tG:M (λk=>Z k=lv.ownBlock) w3 w4:=Tg sH.o;have yv:=(Jb kw.o.row)
 have qT:∀j,(Value.slice y1 y2 y3).ownBlock=Z j->¬j=cb:=λj hj e=>by
  subst e
  rcases HM4.o with h|⟨k,h,hk⟩
  ·exact Hl.1 (by rw[<-h,hj])
  ·rw[hj]at h;cases h;omega
 refine⟨rfl,_,⟨hZ,(tS.block r (Jb nt) hrc).trans nt⟩,Xy.tch ⟨?_,dS.o⟩ tS qT,?_,?_⟩
 ·have e:=mZ.o;rw[HSR.o.1,<-Jac]at e;exact e
 ·exact((Hb.o.mono noE).trans tG (λj hj=>aM (aN hj))).trans tS (λj hj=>aM (aM hj))
 ·rcases HM4.o with h|⟨k,h,hk⟩
  ·exact aM h
  ·exact aN ⟨k,h,Qm Hb.o.size hk⟩

def RdSt(E:Nat->Addr)(w:aA)(b:Nat)(wj:Int):Option PS->Prop
 | some p=>Jd w b Y wj aK p/\∃q r,p=.rd q r
 | none=>∃q r t u,Jd w b Y wj (aJ t u) (.rd q r)/\Jn E 7 w (aJ t u)
def RdTo(E:Nat->Addr)(w w':aA)(b:Nat)(wj:Int)(st':Option PS):Prop:=RdSt E w' b wj st'/\M (λk=>k=b) w w'
theorem Jp2{x m:Nat}{q r:List UInt8}(h:(PS.rd q r).num x n=Z (m,p')):∃q' r',p'=.rd q' r':=by
 simp only[PS.num]at h
 split at h
 ·cases h;exact⟨_,_,rfl⟩
 ·cases h
theorem Jqm{s t:List UInt8}{q r:List UInt8}(h:(PS.rd q r).txt s n=Z (t,p')):∃q' r',p'=.rd q' r':=by
 simp only[PS.txt]at h
 split at h
 ·cases h;exact⟨_,_,rfl⟩
 ·cases h
theorem XI.rd{wj:Int}{q r:List UInt8}(E:Nat->Addr)(h:XI w w' b Y wj (.rd q r)):RdTo E w w' b wj (Z (.rd q r)):=by
 obtain⟨g',h1,_,h3⟩:=h;obtain rfl:=h1.1;exact⟨⟨h1,_,_,rfl⟩,h3.mono (λj hj=>by rcases hj with h|h;exact aM h;cases h)⟩
theorem JkZ(E:Nat->Addr)(b:Nat)(wj:Int)(x n:Nat)(st:Option PS)(w:aA)(hE:Env E w)(hp:RdSt E w b wj st)(h8:n<=8)(hd:JP st<=10000000000000):
  aB N 138 #[X (Z ⟨b,0,Y⟩),O aD (x:Int),O I (n:Int)] w λe w'=>e=aC (O aD ((JF x n st).1:Int))/\RdTo E w w' b wj (JF x n st).2:=by
 unfold JF
 cases st with
 | none=>
  obtain⟨q,r,t,u,h1,h2⟩:=hp;refine(JaB b Y wj _ _ _ t u w h1).mono ?_;rintro e w'⟨rfl,rfl⟩;exact⟨rfl,⟨q,r,t,u,h1,h2⟩,Te _ _⟩
 | some p=>
  obtain⟨hp,q,r,rfl⟩:=hp;simp only[Qu]
  cases h:(PS.rd q r).num x n with
  | none=>
   refine(Zn E b Y wj x n _ w hE hp h8 hd h).mono ?_;rintro e w'⟨rfl,h1,h2⟩;exact⟨rfl,⟨q,r,_,_,h1,.base⟩,h2⟩
  | some y=>
   obtain⟨m,p'⟩:=y;obtain⟨q',r',rfl⟩:=Jp2 h;exact(Xv b Y wj x n m _ _ w hp h8 hd h).mono λe w' ⟨h1,h2⟩=>⟨h1,h2.rd E⟩
theorem Jo9(E:Nat->Addr)(b:Nat)(wj:Int)(s:BA)(n:Nat)(st:Option PS)(w:aA)(hE:Env E w)(hp:RdSt E w b wj st)(hd:JP st+n<=10000000000000):
  aB N 209 #[X (Z ⟨b,0,Y⟩),L s,O I (n:Int)] w λe w'=>e=aC (L ⟨(Jm s.data.toList n st).1.toArray⟩)/\RdTo E w w' b wj (Jm s.data.toList n st).2:=by
 unfold Jm
 cases st with
 | none=>
  obtain⟨q,r,t,u,h1,h2⟩:=hp;refine(Jib b Y wj _ _ _ t u w h1).mono ?_;rintro e w'⟨rfl,rfl⟩;exact⟨rfl,⟨q,r,t,u,h1,h2⟩,Te _ _⟩
 | some p=>
  obtain⟨hp,q,r,rfl⟩:=hp;simp only[Qu]
  cases h:(PS.rd q r).txt s.data.toList n with
  | none=>
   refine(JfN E b Y wj s n _ w hE hp (by simp only[JP]at hd;omega) h).mono ?_;rintro e w'⟨rfl,h1,h2⟩;exact⟨rfl,⟨q,r,_,_,h1,.base⟩,h2⟩
  | some y=>
   obtain⟨m,p'⟩:=y;obtain⟨q',r',rfl⟩:=Jqm h;exact(Jaq b Y wj s n m _ _ w hp hd h).mono λe w' ⟨h1,h2⟩=>⟨h1,h2.rd E⟩
theorem RdSt.st{wj:Int}{st:Option PS}(h:RdSt E w b wj st):Jg E w b Y wj st:=by
 cases st with
 | none=>obtain⟨q,r,t,u,h1,h2⟩:=h;exact⟨_,t,u,h1,h2⟩
 | some p=>exact h.1
theorem RdSt.tch{wj:Int}{st:Option PS}(h:RdSt E w b wj st)(k:M S w w')(hb:¬S b)(hs:∀p s u,w.heap[p]? =Z (T #[L s,u] 237)->¬S p):RdSt E w' b wj st:=by
 cases st with
 | some p=>exact⟨h.1.tch k hb (λ_ h=>by cases h),h.2⟩
 | none=>obtain⟨q,r,t,u,h1,h2⟩:=h;exact⟨q,r,t,u,h1.tch k hb (λ_ h=>by cases h),h2.tch k hs⟩
theorem JcC(E:Nat->Addr)(b:Nat)(wj:Nat)(s:BA)(st:Option PS)(w:aA)(hE:Env E w)(hp:RdSt E w b wj st)(hd:JP st+wj<=10000000000000):
  aB N 139 #[X (Z ⟨b,0,Y⟩),L s] w λe w'=>e=aC (L ⟨(Jm s.data.toList wj st).1.toArray⟩)/\RdTo E w w' b wj (Jm s.data.toList wj st).2:=by
 have c1:=hp.st.width;have HC:J (aB N 209 _ w _):=Jo9 E b wj s wj st w hE hp hd;clear hp hE;go_enter func139,ntmps139;go_wp2_with fail;refine HC.o.mono ?_;rintro _ w1⟨rfl,h⟩;have HS:J _:=h;clear h HC;go_wp2;go_ret;exact⟨rfl,HS.o⟩
structure RRun(E:Nat->Addr)(w0 wA w:aA)(b:Nat)(wj:Int)(st:Option PS):Prop where
 env:Env E w
 port:RdSt E w b wj st
 tch:M (λk=>k=b) wA w
 a:M D w0 wA
 lo:18<=b
 lt:b<w0.heap.size
theorem RRun.step{wj:Int}{st st':Option PS}(h:RRun E w0 wA w b wj st)(k:RdTo E w w' b wj st'):RRun E w0 wA w' b wj st':=
 ⟨h.env.tch k.2 (λj hj=>by have:=h.lo;omega),k.1,h.tch.trans k.2 (λj hj=>aM hj),h.a,h.lo,h.lt⟩
theorem RRun.box{wj:Int}{st:Option PS}(h:RRun E w0 wA w b wj st){k:Nat}{o:Obj}(hk:w0.heap.size<=k)(hA:wA.heap[k]? =Z o):w.heap[k]? =Z o:=
 (h.tch.block k (Jb hA) (λe=>by have:=h.lt;omega)).trans hA
theorem Jfm(E:Nat->Addr)(b:Nat)(Hi:18<=b)(wj:Nat)(n:Nat)(s1 s2 s3:BA)(st:Option PS)(w:aA)(hE:Env E w)(hp:RdSt E w b wj st)(hd:JP st+4*wj<=90000000):
  aB N 86 #[X (Z ⟨b,0,Y⟩),aH #[O aD (n:Int),L s1,L s2,L s3]] w λe w'=>e=aC (hdV (ZM wj (n,s1,s2,s3) st).1)/\RdTo E w w' b wj (ZM wj (n,s1,s2,s3) st).2:=by
 have H7:=hp.st.lt;have hA:=M.allocs D w (T #[O aD (n:Int),L s1,L s2,L s3] 167) (T #[O aD 0,L ⟨#[]⟩,L ⟨#[]⟩,L ⟨#[]⟩] 167);have gC:RRun E w _ _ b wj st:=⟨hE.tch hA noE,hp.tch hA (λh=>h) (λ_ _ _ _ h=>h),Te _ _,hA,Hi,H7⟩
 have zm:=Jbn n 4 st;have qB:=YG s1.data.toList wj (JF n 4 st).2;have qS:=YG s2.data.toList wj (Jm s1.data.toList wj (JF n 4 st).2).2;have RUN:J _:=gC;clear hE hp gC hA;go_enter func86,ntmps86;go_wp2_with fail;refine(JkZ E b wj n 4 st _ RUN.out.env RUN.out.port (by omega) (by omega)).mono ?_;rintro _ w1⟨rfl,h⟩;have R1:=RUN.out.step h;have qj:=R1.box (k:=w.heap.size) (Ql _) (heap_alloc2_old _ _ _);have c1:w1.cell? ⟨w.heap.size,1,Y⟩=Z (L s1):=Ja qj;have Hz:J _:=R1;clear R1 qj h;go_wp2_with fail;refine(JcC E b wj s1 _ _ Hz.out.env Hz.out.port (by omega)).mono ?_;rintro _ w2⟨rfl,h⟩;have R2:=Hz.out.step h;have bx2:=R2.box (k:=w.heap.size) (Ql _) (heap_alloc2_old _ _ _);have c2:w2.cell? ⟨w.heap.size,2,Y⟩=Z (L s2):=Ja bx2;have kQ:J _:=R2;clear R2 bx2 h;go_wp2_with fail;refine(JcC E b wj s2 _ _ kQ.out.env kQ.out.port (by omega)).mono ?_;rintro _ w3⟨rfl,h⟩;have R3:=kQ.out.step h;have bx3:=R3.box (k:=w.heap.size) (Ql _) (heap_alloc2_old _ _ _);have c3:w3.cell? ⟨w.heap.size,3,Y⟩=Z (L s3):=Ja bx3;have gD:J _:=R3;clear R3 bx3 h;go_wp2_with fail;refine(JcC E b wj s3 _ _ gD.out.env gD.out.port (by omega)).mono ?_;rintro _ w4⟨rfl,h⟩;have R4:=gD.out.step h;have rR:=R4.box (k:=w.heap.size+1) (by omega) (heap_alloc2_new _ _ _);have e0:w4.cell? ⟨w.heap.size+1,0,Y⟩=Z (O aD 0):=Ja rR;have e1:w4.cell? ⟨w.heap.size+1,1,Y⟩=Z (L ⟨#[]⟩):=Ja rR;have e2:w4.cell? ⟨w.heap.size+1,2,Y⟩=Z (L ⟨#[]⟩):=Ja rR;have e3:w4.cell? ⟨w.heap.size+1,3,Y⟩=Z (L ⟨#[]⟩):=Ja rR;have fR:∀j,w4.frozen? ⟨w.heap.size+1,j,Y⟩=false:=λj=>Qg _ _ _ _ _ rR;have jp:J _:=R4;have RR:J (_=_):=rR;clear R4 rR h;go_wp2;rw[set4 _ _ _ _ _ _ _ _ _ _ _ RR.out];have hN:=jp.out.a.size;refine QK (v:=hdV (ZM wj (n,s1,s2,s3) st).1) (Qq results86 _ _ (w.heap.size+1) _ _ (0,0) _ rfl (Qi _ _ _ _ _ _ RR.out) underlying167 rfl (by kernel_rfl)) rfl ⟨rfl,jp.out.port.tch (Ts _ _ _) (by omega) (λp s u hp e=>by subst e;rw[RR.out]at hp;simp at hp),?_⟩;exact((jp.out.a.mono noE).trans jp.out.tch (λj hj=>aM hj)).trans (Ts _ _ _) (λj hj=>aN (by omega))
theorem Jl0(b:Nat)(g:Option Nat)(wj:Nat)(ia:Option Addr)(n ic:Nat)(p0:PS)(t:TypeId)(u:aG)(w:aA)(hp:Jd w b g wj (aJ t u) p0):
  aB N 78 #[X (Z ⟨b,0,Y⟩),R ia n ic] w λe w'=>e=aC (R Y 0 0)/\Jd w' b g wj (aJ t u) p0/\M D w w':=by
 have uQ:∀(fn:Fn)(first cap:Array aG)(w:aA),(lG fn first cap).run N w=.ok (.func fn first cap) w:=λ_ _ _ _=>rfl;have HL:J (∀what:BA,what.size<=1000->_):=λwhat gU=>JoD b g wj what gU 1 0 3 (R ia n ic) ia n ic rfl p0 t u w hp;clear hp;go_enter func78,ntmps78;go_wp2_with fail;refine(HL.o _ (by decide)).mono ?_;clear HL;rintro e w1⟨rfl,h⟩;have HH:J _:=h;clear h;go_wp2;go_ret;exact⟨rfl,HH.o⟩
