import Derived.Test.YtighkdnooglfjaaGreatDoorRows
import Derived.ProofKit
import Derived.OpenShut
import Derived.Deep.SlicePairs
import Derived.Test.YtighkdnooglfjaaGreatDoorQzWyU
import Derived.Test.YtighkdnooglfjaaGreatDoorQzChC
open Go renaming Calls->aB,Value->aG,World->aA
open Go.Ending renaming returned->aC
open Go.IntKind renaming i64->I
open Go.Obj renaming cells->T
open Go.Proofs.Tryz renaming prog->N
open Go.RowKit renaming Hid->J
open Go.Value renaming agg->aH,bool->aL,iface->aJ,int->O,nilIface->aK,pointer->X,slice->R,string->L,tuple->aI
open Option renaming none->Y,some->Z
open Or renaming inl->aM,inr->aN
open List renaming getElem?_cons_zero->lC,exists_mem_of_ne_nil->lD,length_range->lE,getElem?_range->lF,replicate->lG,getElem?_map->lH
open Nat renaming sub_self->lI
set_option maxRecDepth 100000
set_option maxHeartbeats 4000000
namespace Go.Proofs.YtighkdnooglfjaaGreatDoor
open Go.Proofs.Tryz
open Go.ChangeShapes Go.WideShapes Go.ChangeAt Go.RowKit Go.Deep

variable {bs:List BV}{l:List H9}{lv:List Lv}{ts:List TxL}{B b b' base cb fl r rb wj:Nat}{st:Option Tr}{lt rt t:Tr}{v v2 v3:aG}{w w3:aA}
theorem cOut:prog.cellsOf 80=2:=by kernel_rfl
theorem cU64:prog.cellsOf 78=1:=by kernel_rfl
theorem cU8:prog.cellsOf 5=1:=by kernel_rfl
theorem cInt:prog.cellsOf 3=1:=by kernel_rfl
section
variable {H:Type}{enc:TypeId×aG->H}{W:aA}
theorem JaM(d:DataW H):1<=Rows.uptoBulk d:=by
 cases d with
 | lit l=>cases l<;>simp[Rows.uptoBulk]
 | nil=>simp[Rows.uptoBulk]
 | ptr d=>simp[Rows.uptoBulk]
 | slice elems spare=>simp[Rows.uptoBulk]
 | agg parts=>simp[Rows.uptoBulk]
 | iface t d=>simp[Rows.uptoBulk]
 | map entries=>simp[Rows.uptoBulk]
 | held h=>simp[Rows.uptoBulk]
theorem JdG{d:DataW H}{l:List (DataW H)}(h:d∈l):Rows.uptoBulk d<=Rows.uptoBulkAll l:=by
 induction l with
 | nil=>cases h
 | cons x r ih=>
  simp only[Rows.uptoBulkAll]
  cases List.mem_cons.1 h with
  | inl e=>subst e;omega
  | inr e=>have:=ih e;omega
theorem Jil{a:Addr}(h:W.cell? a=Z v):a=⟨a.block,a.off,Y⟩/\a.block<W.heap.size:=by
 refine⟨?_,World.block_lt_of_cell? _ _ h⟩;obtain⟨b,o,s⟩:=a
 cases s with
 | none=>rfl
 | some k=>
  unfold World.cell? at h
  split at h
  ·simp at h
  ·cases h
set_option maxRecDepth 100000 in
theorem Jbl{t e:TypeId}(ht:prog.underlying t=Z (.slice e))(h:Value.okWide N W .any b t v):v=R Y 0 0\/∃g o len cap,v=R (Z ⟨g,o,Y⟩) len cap/\g<W.heap.size:=by
 unfold Value.okWide at h;rw[ht]at h;simp only at h;unfold Cell.okWide at h;rw[ht]at h
 cases v<;>simp only at h
 all_goals first
  | (unfold Cell.ok at h;rw[ht]at h;simp only at h;done)
  | skip
 rename_i ad len cap;unfold Cell.ok at h;rw[ht]at h
 cases ad with
 | none=>
  left
  cases len with
  | zero=>
   cases cap with
   | zero=>rfl
   | succ n=>simp at h
  | succ n=>simp at h
 | some a=>
  right;obtain⟨_,_,_,hs,row,cells,qW,_⟩:=h;obtain⟨g,o,s⟩:=a;simp only at hs;subst hs;refine⟨g,o,len,cap,rfl,?_⟩;unfold World.shape? at qW
  split at qW
  ·rename_i hh;exact(Array.getElem?_eq_some_iff.1 hh).1
  ·cases qW
end
open Go.RowKit

structure OpL where
 kind:Int
 a:Int
 b:Int
 which:Int
 s:BA
 t:BA
 u:BA
 cx:BA
 cn:Int
 os:Sl
 ts:Sl
abbrev opV(x:OpL):aG:=aH #[O I x.kind,O I x.a,O I x.b,O I x.which,L x.s,L x.t,L x.u,L x.cx,O I x.cn,R x.os.1 x.os.2.1 x.os.2.2,R x.ts.1 x.ts.2.1 x.ts.2.2]
abbrev opC(x:OpL):Array aG:= #[O I x.kind,O I x.a,O I x.b,O I x.which,L x.s,L x.t,L x.u,L x.cx,O I x.cn,R x.os.1 x.os.2.1 x.os.2.2,R x.ts.1 x.ts.2.1 x.ts.2.2]
theorem JdU(w:aA)(wb:Nat)(x:OpL)(log:BA)(hx:x.kind=2)(hB:B<=w.heap.size)(l:List VV)(hl:l.length<=1000000)(hv:VR B w (R x.os.1 x.os.2.1 x.os.2.2) l)(hs:∀x∈l,ShO x)(code:Int)(QL:Nat->Option Addr->aA->Prop)(QR:Nat->Option Addr->Option Addr->aA->Prop)(Fin:aA->Prop)
 (hL:∀V g,M D w V->w.heap.size<=g->V.heap[g]? =Z (T (vvA (l++YI)) 80)->aB N 37 #[O I x.a,R (Z ⟨g,0,Y⟩) l.length (l.length+8)] V λe V'=>∃pl,e=aC (aI #[X pl,O I code])/\M D V V'/\QL g pl V')
 (hR:∀V g pl,M D w V->QL g pl V->aB N 63 #[O I x.a,R x.os.1 x.os.2.1 x.os.2.2] V λe V'=>∃pr,e=aC (aI #[X pr,O I code])/\M D V V'/\QR g pl pr V')
 (hQ:∀V V' g pl pr,QR g pl pr V->M (λj=>j=g) V V'->QR g pl pr V')
 (hJ:∀V g pl pr,M D w V->QR g pl pr V->aB N 65 #[X (Z ⟨wb,0,Y⟩),X pl,X pr] V λe V'=>e=aC (aL true)/\Fin V'):
  aB N 33 #[X (Z ⟨wb,0,Y⟩),opV x,L log] w λe w'=>e=aC (aL true)/\Fin w':=by
 obtain⟨kind,a,b,which,s,t,u,cx,cn,⟨oa,on,oc⟩,⟨ta,tn,tc⟩⟩:=x;simp only at *;subst hx;obtain rfl:on=l.length:=by obtain⟨a',c',e⟩:=hv.shape;simp only[Qy]at e;exact e.2.1
 obtain⟨w0,(qM:J _)⟩:∃w0,w0=w.alloc (T #[O I 2,O I a,O I b,O I which,L s,L t,L u,L cx,O I cn,R oa l.length oc,R ta tn tc] 75):=⟨_,rfl⟩
 have t0:M D w w0:=by rw[qM];exact Ta _ _ _
 have r0:w0.heap[w.heap.size]? =Z (T #[O I 2,O I a,O I b,O I which,L s,L t,L u,L cx,O I cn,R oa l.length oc,R ta tn tc] 75):=by rw[qM];exact Qf _ _
 have kC:J _:=t0;have kN:J (∀V S,M S w0 V->(∀j,S j->w0.heap.size<=j)->V.cell? ⟨w.heap.size,0,Y⟩=Z (O I 2)/\V.cell? ⟨w.heap.size,1,Y⟩=Z (O I a)/\V.cell? ⟨w.heap.size,9,Y⟩=Z (R oa l.length oc)):=λV S hV hS=>by
  have hr:=(hV.block w.heap.size (Jb r0) (λe=>by have:=hS _ e;have:=(Jb r0);omega)).trans r0;exact⟨Ja hr,Ja hr,Ja hr⟩
 have uM:J (∀V,M D w V->_):=λV hV=>JdT V _ l hl (hv.tch hV (λ_ e=>e.elim)) hs;have yi:J (∀V g,M D w V->w.heap.size<=g->V.heap[g]? =Z (T (vvA (l++YI)) 80)->_):=λV g hV hg hr=>JdS V g _ l hl (hv.tch hV (λ_ e=>e.elim)) (by omega) hs hr;have HL:J _:=hL;have HR:J _:=hR;have HQ:J _:=hQ;have HJ:J _:=hJ;clear hL hR hQ hJ hv hs t0 r0;generalize l.length=n at *;generalize hn8:n+8=n8 at *;have hl8:(n:Int)<=(n8:Int):=by omega
 go_enter func33,ntmps33;go_upto_region 1 with fail;rw[<-qM.o];obtain⟨c0,c1,c9⟩:=kN w0 _ (Te D _) (λ_ e=>e.elim);go_wp2_with fail;refine(uM w0 kC).mono ?_;rintro _ w1⟨g,rfl,hg,(jl:J _),(H3:J _)⟩;have HG:J (w0.heap.size<=g/\w.heap.size<=g):=⟨hg,Qm kC.size hg⟩
 clear hg c0 c1 c9;obtain⟨c0,c1,c9⟩:=kN w1 _ H3 (λ_ e=>e.elim);go_upto_region 3 with fail;go_cut [8,9] (λv8 v9 wx=>∃pl,v8=X pl/\v9=O I code/\J (M D w1 wx)/\J (QL g pl wx))
 case first=>
  go_region_held3 (λV=>V.cell? ⟨w.heap.size,1,Y⟩=Z (O I a)/\V.cell? ⟨w.heap.size,9,Y⟩=Z (R oa n oc)) (go_keep) ((go_at_call 37;refine(HL _ g ((kC.go H3).go (Td _ w1 1)) HG.2 jl).mono ?_;rintro _ w2⟨pl,rfl,H7,(j8:J _)⟩;have H4:J _:=(Td D w1 1).go H7;obtain⟨d0,d1,d9⟩:=kN w2 _ (H3.go H4) (λ_ e=>e.elim);clear H7))
  all_goals go_wp2;go_meet;exact⟨pl,rfl,rfl,H4,j8⟩
 case rest=>
 obtain⟨pl,rfl,rfl,H4,j8⟩:=hcut;obtain⟨w2,ql⟩:∃w2,w2=wc:=⟨wc,rfl⟩
 subst ql;have Hz:J _:=H3.go H4.o;obtain⟨c0,c1,c9⟩:=kN w2 _ Hz (λ_ e=>e.elim);go_wp2_with fail;refine(HR w2 g pl (kC.go Hz) j8).mono ?_;rintro _ w3⟨pr,rfl,Hm,(HQ3:J _)⟩;have H8:J _:=Hz.go Hm;have kY:J _:=((H4.go Hm).block g (Jb jl) (λe=>e)).trans jl.o;clear c0 c1 c9 Hm;obtain⟨c0,c1,c9⟩:=kN w3 _ H8 (λ_ e=>e.elim);go_wp2_with fail;refine(yi w3 g (kC.go H8) HG.2 kY).mono ?_;rintro _ w4⟨rfl,_,Ho⟩;have He:J _:=(kC.go H8).trans Ho (λj hj=>aN (by rw[hj];exact HG.2));have HQ4:J _:=HQ _ _ _ _ _ HQ3 Ho;go_wp2_with fail;refine(HJ w4 g pl pr He HQ4).mono ?_;rintro _ w5⟨rfl,(HF:J _)⟩;go_wp2_with fail;refine(Jb1 _ _).mono ?_;rintro _ _⟨rfl,rfl⟩;go_wp2;go_ret;exact⟨rfl,HF⟩

section
variable {base:Nat}{w w':aA}{nb gt n:Nat}{vi vo:aG}{c o:Nat->List VV}{ga gb hb:Nat->Nat}{k:Nat}
theorem Xj.tch0{f:Nat}(h:Xj base w nb gt n vi vo c o ga gb hb f)(t:M D w w'):Xj base w' nb gt n vi vo c o ga gb hb f:=
 ⟨(t.block _ (Jb h.row) (λe=>e)).trans h.row,(t.block _ (Jb h.txs) (λe=>e)).trans h.txs,h.ins.tch t (λ_ _ e=>e),h.outs.tch t (λ_ _ e=>e),h.lc.tch t (λ_ _ _ _ e=>e),λi hi=>⟨(h.rm i hi).1,(t.block _ (QJ.1 (h.rm i hi).2.1).1 (λe=>e)).trans (h.rm i hi).2.1,(h.rm i hi).2.2⟩,h.low⟩
theorem Xj.step(h:Xj base w nb gt n vi vo c o ga gb hb k)(hk:k<n)(t:M (λj=>j=ga k\/j=gb k) w w'):Xj base w' nb gt n vi vo c o ga gb hb (k+1):=by
 have r1:=(h.lc.rowC k (Ql _) hk).2;have r2:=(h.lc.rowO k (Ql _) hk).2;have ne:∀{j:Nat} {cs:Array aG} {aY:TypeId} {m:Nat×Nat},w.heap[j]? =Z (T cs aY m)->aY ≠ 49->aY ≠ 80->¬(j=ga k\/j=gb k):=λhr h1 h2 e=>by
  rcases e with rfl|rfl
  ·rw[r1]at hr;simp at hr;exact h1 hr.2.1.symm
  ·rw[r2]at hr;simp at hr;exact h2 hr.2.1.symm
 have keep:∀{j:Nat} {cs:Array aG} {aY:TypeId} {m:Nat×Nat},w.heap[j]? =Z (T cs aY m)->¬(j=ga k\/j=gb k)->w'.heap[j]? =Z (T cs aY m):=λhr hn=>(t.block _ (Jb hr) hn).trans hr;refine⟨keep h.row (ne h.row (by decide) (by decide)),keep h.txs (ne h.txs (by decide) (by decide)),h.ins.tch t (λj hj=>?_),h.outs.tch t (λj hj=>?_),⟨λi h1 h2=>?_,λi h1 h2=>?_,h.lc.incC,h.lc.incO⟩,λi hi=>⟨(h.rm i hi).1,keep (h.rm i hi).2.1 (λe=>?_),(h.rm i hi).2.2⟩,h.low⟩
 ·obtain⟨_,_,cs,m,hr⟩:=h.ins.own j hj;exact ne hr (by decide) (by decide)
 ·obtain⟨_,_,cs,m,hr⟩:=h.outs.own j hj;exact ne hr (by decide) (by decide)
 ·obtain⟨g1,g2⟩:=h.lc.rowC i (by omega) h2;refine⟨g1,keep g2 (λe=>?_)⟩
  rcases e with e|e
  ·have:=h.lc.incC k i (by omega) h2;omega
  ·rw[e,r2]at g2;simp at g2
 ·obtain⟨g1,g2⟩:=h.lc.rowO i (by omega) h2;refine⟨g1,keep g2 (λe=>?_)⟩
  rcases e with e|e
  ·rw[e,r1]at g2;simp at g2
  ·have:=h.lc.incO k i (by omega) h2;omega
 ·rcases e with e|e
  ·have:=(h.rm i hi).2.2 k hk;omega
  ·have h3:=(h.rm i hi).2.1;rw[e,r2]at h3;simp at h3
end
theorem JpG{nb gt n:Nat}{vi vo:aG}{sl:Nat->Sl×Sl}{c o:Nat->List VV}{ga gb hb:Nat->Nat}(hA:Xj base w nb gt n vi vo c o ga gb hb 0)(hv:TxV B w v n sl c o)(hB:B<=base)(hn:n<=1000000):
  aB N 181 #[X (Z ⟨nb,0,Y⟩),v] w λe w'=>e=aC (aL true)/\M (λj=>base<=j) w w':=by
 obtain⟨ia,ic,Hx⟩:=hv.shape;subst Hx;have HV:J (TxV B w (R ia n ic) n sl c o):=hv;have HA:J (Xj base w nb gt n vi vo c o ga gb hb 0):=hA;have yI:J (B<=base):=hB;obtain⟨va,vc,hvi⟩:=hA.ins.shape;obtain⟨oa,oc,hvo⟩:=hA.outs.shape;rw[QM,lE]at hvi hvo;subst hvi;subst hvo;clear hv hA hB;obtain⟨m,hm⟩:∃m:Nat,n+8=m:=⟨_,rfl⟩
 have HM:J (n+8=m):=hm;have kp:J (∀V f,Xj base V nb gt n (R va n vc) (R oa n oc) c o ga gb hb f->V.cell? ⟨nb,0,Y⟩=Z (R (Z ⟨gt,0,Y⟩) m m)/\V.cell? ⟨nb,1,Y⟩=Z (R va n vc)/\V.cell? ⟨nb,2,Y⟩=Z (R oa n oc)):=λV f h=>by
  rw[<-hm];exact⟨Ja h.row,Ja h.row,Ja h.row⟩
 have cZ:(n:Int)+8=(m:Int):=by omega
 clear hm;go_enter func181,ntmps181;go_wp2;go_loopw [5,6,7,8,9,10,11] (λok i _ _ _ _ _ wr=>∃k:Nat,k<=n/\ok=aL true/\i=O I (k:Int)/\J (Xj base wr nb gt n (R va n vc) (R oa n oc) c o ga gb hb k)/\J (M (λj=>base<=j) w wr)) (λ_ i _ _ _ _ _ _=>n-(intOf i).toNat)
 case atStart=>exact⟨0,by omega,rfl,rfl,HA,Te _ _⟩
 case round=>
  obtain⟨k,hk,rfl,rfl,HL,HT⟩:=hrel
  by_cases H5:k<n
  ·have kT:(k:Int)<(n:Int):=(by omega);have hkm:(k:Int)<(m:Int):=(by omega);obtain⟨gi,oi,rfl,mX,kV,f0,f1⟩:=HV.cell k H5;obtain⟨l1,l2⟩:=HV.lens k H5;obtain⟨v1,s1,b1⟩:=HV.ins k H5;obtain⟨v2,s2,b2⟩:=HV.outs k H5;unfold sV1 at f0 f1 v1 v2;rw[l1]at f0 v1;rw[l2]at f1 v2;generalize (sl k).1.1=a1 at *;generalize (sl k).1.2.2=c1 at *;generalize (sl k).2.1=a2 at *;generalize (sl k).2.2.2=c2 at *;have kN:J (∀V,M (λj=>base<=j) w V->V.cell? ⟨gi,oi+k*2,Y⟩=Z (R a1 (c k).length c1)/\V.cell? ⟨gi,oi+k*2+1,Y⟩=Z (R a2 (o k).length c2)):=λV hV=>by
    have mj:¬base<=gi:=(by have:=yI.o;omega);exact⟨(hV.cell (p:=⟨gi,oi+k*2,Y⟩) kV mj).trans f0,(hV.cell (p:=⟨gi,oi+k*2+1,Y⟩) kV mj).trans f1⟩
   have HLK:J (∀V,Xj base V nb gt n (R va n vc) (R oa n oc) c o ga gb hb k->V.cell? ⟨gt,k*2,Y⟩=Z (R (Z ⟨ga k,0,Y⟩) (c k).length ((c k).length+8))/\V.cell? ⟨gt,k*2+1,Y⟩=Z (R (Z ⟨gb k,0,Y⟩) (o k).length ((o k).length+8))):=λV h=>Xp h.txs (txE c o ga gb k) (by
    rw[QF (by simp;exact H5),lH,lF H5];rfl)
   have re:J (∀V f,Xj base V nb gt n (R va n vc) (R oa n oc) c o ga gb hb f->(∃gv,va=Z ⟨gv,0,Y⟩/\V.cell? ⟨gv,k,Y⟩=Z (inV c ga k))/\(∃hu,oa=Z ⟨hu,0,Y⟩/\V.cell? ⟨hu,k,Y⟩=Z (inV o gb k))):=λV f h=>by
    obtain⟨gv,gc,ev,_,bi⟩:=h.ins.at k _ (by rw[lH,lF H5];rfl);obtain⟨hu,huc,eu,_,hcu⟩:=h.outs.at k _ (by rw[lH,lF H5];rfl);simp only[Qy,QM,lE]at ev eu;exact⟨⟨gv,ev.1,bi⟩,hu,eu.1,hcu⟩
   obtain⟨⟨gv,rfl,_⟩,hu,rfl,_⟩:=re wr _ HL.o;have qK:J (∀V f,Xj base V nb gt n (R (Z ⟨gv,0,Y⟩) n vc) (R (Z ⟨hu,0,Y⟩) n oc) c o ga gb hb f->V.cell? ⟨gv,k,Y⟩=Z (inV c ga k)/\V.cell? ⟨hu,k,Y⟩=Z (inV o gb k)):=λV f h=>by
    obtain⟨⟨g1,e1,h1⟩,g2,e2,h2⟩:=re V f h
    cases e1
    cases e2
    exact⟨h1,h2⟩
   have HBC:J (∀V,M (λj=>base<=j) w V->Xj base V nb gt n (R (Z ⟨gv,0,Y⟩) n vc) (R (Z ⟨hu,0,Y⟩) n oc) c o ga gb hb k->aB N 267 #[R (Z ⟨ga k,0,Y⟩) ((c k).length+8) ((c k).length+8),R a1 (c k).length c1] V λe w'=>e=aC (aL true)/\w'.heap[ga k]? =Z (T (vvA (lG ((c k).length+8) qC)) 49)/\M (λj=>j=ga k) V w'):=λV hV h=>Jhi V (ga k) _ (c k) b1 (v1.tch hV (λj hj=>Qm yI hj)) (Qm yI (h.lc.rowC k (Ql _) H5).1) s1 (h.lc.rowC k (Ql _) H5).2;have yi:J (∀V,M (λj=>base<=j) w V->V.heap[gb k]? =Z (T (vvA (o k++YI)) 80)->aB N 64 #[R (Z ⟨gb k,0,Y⟩) ((o k).length+8) ((o k).length+8),R a2 (o k).length c2] V λe w'=>e=aC (aL true)/\w'.heap[gb k]? =Z (T (vvA (lG ((o k).length+8) qO)) 80)/\M (λj=>j=gb k) V w'):=λV hV h=>JdS V (gb k) _ (o k) b2 (v2.tch hV (λj hj=>Qm yI hj)) (Qm yI (HL.lc.rowO k (Ql _) H5).1) s2 h;have xi:J (∀V,Xj base V nb gt n (R (Z ⟨gv,0,Y⟩) n vc) (R (Z ⟨hu,0,Y⟩) n oc) c o ga gb hb k->(∃cs,V.heap[ga k]? =Z (T cs 49))/\V.heap[gb k]? =Z (T (vvA (o k++YI)) 80)):=λV h=>⟨⟨_,(h.lc.rowC k (Ql _) H5).2⟩,(h.lc.rowO k (Ql _) H5).2⟩
   have uM:J (base<=ga k/\base<=gb k):=⟨(HL.lc.rowC k (Ql _) H5).1,(HL.lc.rowO k (Ql _) H5).1⟩
   have gy:J (∀V V',Xj base V nb gt n (R (Z ⟨gv,0,Y⟩) n vc) (R (Z ⟨hu,0,Y⟩) n oc) c o ga gb hb k->M (λj=>j=ga k\/j=gb k) V V'->Xj base V' nb gt n (R (Z ⟨gv,0,Y⟩) n vc) (R (Z ⟨hu,0,Y⟩) n oc) c o ga gb hb (k+1)):=λV V' h t=>h.step H5 t;unfold inV at qK;clear l1 l2 v1 s1 v2 s2 f0 f1 re kV mX;generalize (c k).length=lc at *;generalize (o k).length=lo at *;generalize j5:lc+8=lc8 at *;generalize jk:lo+8=lo8 at *;have hlc8:(lc:Int)<=(lc8:Int):=(by omega);have hlo8:(lo:Int)<=(lo8:Int):=(by omega);have hlc9:lc<=lc8:=(by omega);have hlo9:lo<=lo8:=(by omega);clear j5 jk;obtain⟨gA,hgA⟩:∃g,ga k=g:=⟨_,rfl⟩
   obtain⟨gB,mX⟩:∃g,gb k=g:=⟨_,rfl⟩
   rw[hgA]at HLK qK HBC xi uM gy;rw[mX]at HLK qK yi xi uM gy;clear hgA mX;obtain⟨r0,r1,r2⟩:=kp wr _ HL.o;obtain⟨t0,t1⟩:=HLK wr HL.o;go_upto_region 6 with fail;obtain⟨W1,pA⟩:∃W1,W1=wr.alloc (T #[R (Z ⟨gA,0,Y⟩) lc lc8,R (Z ⟨gB,0,Y⟩) lo lo8] 98):=⟨_,rfl⟩
   rw[<-pA];have tw:=xu pA;have yP:J (W1.heap[wr.heap.size]? =Z (T #[R (Z ⟨gA,0,Y⟩) lc lc8,R (Z ⟨gB,0,Y⟩) lo lo8] 98)):=(by show _=_;rw[pA];exact Qf _ _);have s8:J (Xj _ W1 _ _ _ _ _ _ _ _ _ _ _):=HL.tch0 tw;have H3:J (M (λj=>base<=j) w W1):=HT.go tw;have xB:J (base<=wr.heap.size):=Nat.le_of_lt (Nat.lt_of_le_of_lt HL.low.1 (Jb HL.row));clear pA tw r0 r1 r2 t0 t1;generalize wr.heap.size=xb at *;obtain⟨p0,p1⟩:=kN W1 H3.o;have x0:=cell_of_row W1 xb 0 _ _ _ yP.o;have x1:=cell_of_row W1 xb 1 _ _ _ yP.o;simp only[List.getElem?_toArray,lC,List.getElem?_cons_succ]at x0 x1;go_cut [5] (λv5 wy=>v5=aL true/\J (M D W1 wy))
   case first=>
    go_region_held3 (λV=>V.cell? ⟨xb,0,Y⟩=Z (R (Z ⟨gA,0,Y⟩) lc lc8)/\V.cell? ⟨xb,1,Y⟩=Z (R (Z ⟨gB,0,Y⟩) lo lo8)/\V.cell? ⟨gi,oi+k*2,Y⟩=Z (R a1 lc c1)/\V.cell? ⟨gi,oi+k*2+1,Y⟩=Z (R a2 lo c2)) (go_keep) (fail)
    all_goals go_wp2;go_meet;exact⟨rfl,Td _ _ 1⟩
   case rest=>
   obtain⟨rfl,su⟩:=hcut;obtain⟨w2,ql⟩:∃w2,w2=wc:=⟨wc,rfl⟩
   subst ql;have sw:J (Xj _ w2 _ _ _ _ _ _ _ _ _ _ _):=s8.tch0 su.o;have H4:J (M (λj=>base<=j) w w2):=H3.go su.o;have zu:J (w2.heap[xb]? =Z (T #[R (Z ⟨gA,0,Y⟩) lc lc8,R (Z ⟨gB,0,Y⟩) lo lo8] 98)):=(su.block _ (Jb yP) (λe=>e)).trans yP.o;clear p0 p1 x0 x1 su s8 H3 yP;obtain⟨p0,p1⟩:=kN w2 H4.o;obtain⟨r0,r1,r2⟩:=kp w2 _ sw.o;obtain⟨i1,i2⟩:=qK w2 _ sw.o;have jL:J (∀V,M (λj=>j=gA) w2 V->(V.cell? ⟨nb,1,Y⟩=Z (R (Z ⟨gv,0,Y⟩) n vc)/\V.cell? ⟨gv,k,Y⟩=Z (R (Z ⟨gA,0,Y⟩) lc8 lc8)/\V.cell? ⟨gi,oi+k*2,Y⟩=Z (R a1 lc c1))/\V.heap[xb]? =Z (T #[R (Z ⟨gA,0,Y⟩) lc lc8,R (Z ⟨gB,0,Y⟩) lo lo8] 98)/\V.heap[gB]? =Z (T (vvA (o k++YI)) 80)):=λV hV=>by
    have h1:=gy w2 V sw (hV.mono (λj hj=>aM (aM hj)));obtain⟨⟨cs,ra⟩,rb⟩:=xi w2 sw.o;have ne:∀{j:Nat} {cs:Array aG} {aY:TypeId} {m:Nat×Nat},w2.heap[j]? =Z (T cs aY m)->aY ≠ 49->¬j=gA:=λhr h1 e=>by
     rw[e,ra]at hr;simp at hr;exact h1 hr.2.1.symm
    exact⟨⟨(kp V _ h1).2.1,(qK V _ h1).1,(kN V (H4.trans hV (λj hj=>aM (by rw[hj];exact uM.1)))).1⟩,(hV.block _ (Jb zu) (ne zu (by decide))).trans zu,(hV.block _ (Jb rb) (ne rb (by decide))).trans rb⟩
   go_upto_region 7 with fail;go_cut [8] (λv8 wy=>v8=aL true/\J (M (λj=>j=gA) w2 wy)/\J (wy.heap[gA]? =Z (T (vvA (lG lc8 qC)) 49)))
   case first=>
    go_region_held3 (λV=>V.cell? ⟨nb,1,Y⟩=Z (R (Z ⟨gv,0,Y⟩) n vc)/\V.cell? ⟨gv,k,Y⟩=Z (R (Z ⟨gA,0,Y⟩) lc8 lc8)/\V.cell? ⟨gi,oi+k*2,Y⟩=Z (R a1 lc c1)) (go_keep) ((go_at_call 267;refine(HBC _ (H4.go (Td _ w2 1)) (sw.tch0 (Td _ w2 1))).mono ?_;rintro _ w3⟨rfl,kP,Hm⟩;have H8:J (M (λj=>j=gA) w2 w3):=((Td D w2 1).mono noE).trans Hm (λ_ h=>aM h);have kY:J (w3.heap[gA]? =_):=kP;obtain⟨⟨y0,y1,y2⟩,_⟩:=jL w3 H8.o;clear kP Hm))
    all_goals go_wp2;go_meet;exact⟨rfl,H8,kY⟩
   case rest=>
   obtain⟨rfl,H8,kY⟩:=hcut;obtain⟨w3,jX⟩:∃w3,w3=wc:=⟨wc,rfl⟩
   subst jX;clear p0 p1 r0 r1 r2 i1 i2;obtain⟨_,pw,xj⟩:_/\J _/\J _:=jL w3 H8.o;have zF:J (Xj _ w3 _ _ _ _ _ _ _ _ _ _ (k+1)):=gy w2 w3 sw (H8.mono (λj hj=>aM (aM hj)));have pB:J (M (λj=>base<=j) w w3):=H4.trans H8 (λj hj=>aM (by rw[hj];exact uM.1));obtain⟨p0,p1⟩:=kN w3 pB.o;obtain⟨r0,r1,r2⟩:=kp w3 _ zF.o;obtain⟨i1,i2⟩:=qK w3 _ zF.o;have yf:J (∀V,M (λj=>j=gB) w3 V->(V.cell? ⟨nb,2,Y⟩=Z (R (Z ⟨hu,0,Y⟩) n oc)/\V.cell? ⟨hu,k,Y⟩=Z (R (Z ⟨gB,0,Y⟩) lo8 lo8)/\V.cell? ⟨gi,oi+k*2+1,Y⟩=Z (R a2 lo c2))/\V.heap[xb]? =Z (T #[R (Z ⟨gA,0,Y⟩) lc lc8,R (Z ⟨gB,0,Y⟩) lo lo8] 98)/\V.heap[gA]? =Z (T (vvA (lG lc8 qC)) 49)/\Xj base V nb gt n (R (Z ⟨gv,0,Y⟩) n vc) (R (Z ⟨hu,0,Y⟩) n oc) c o ga gb hb (k+1)):=λV hV=>by
    have h1:=gy w2 V sw ((H8.mono (λj hj=>aM (aM hj))).trans hV (λj hj=>aM (aN hj)));have ne:∀{j:Nat} {cs:Array aG} {aY:TypeId} {m:Nat×Nat},w3.heap[j]? =Z (T cs aY m)->aY ≠ 80->¬j=gB:=λhr h1 e=>by
     rw[e,xj.o]at hr;simp at hr;exact h1 hr.2.1.symm
    exact⟨⟨(kp V _ h1).2.2,(qK V _ h1).2,(kN V (pB.trans hV (λj hj=>aM (by rw[hj];exact uM.2)))).2⟩,(hV.block _ (Jb pw) (ne pw (by decide))).trans pw,(hV.block _ (Jb kY) (ne kY (by decide))).trans kY,h1⟩
   go_upto_region 8 with fail;go_cut [9] (λv9 wy=>v9=aL true/\J (M (λj=>j=gB) w3 wy)/\J (wy.heap[gB]? =Z (T (vvA (lG lo8 qO)) 80)))
   case first=>
    go_region_held3 (λV=>V.cell? ⟨nb,2,Y⟩=Z (R (Z ⟨hu,0,Y⟩) n oc)/\V.cell? ⟨hu,k,Y⟩=Z (R (Z ⟨gB,0,Y⟩) lo8 lo8)/\V.cell? ⟨gi,oi+k*2+1,Y⟩=Z (R a2 lo c2)) (go_keep) ((go_at_call 64;refine(yi _ (pB.go (Td _ w3 1)) xj).mono ?_;rintro _ w4⟨rfl,ge,Ho⟩;have He:J (M (λj=>j=gB) w3 w4):=((Td D w3 1).mono noE).trans Ho (λ_ h=>aM h);have qI:J (w4.heap[gB]? =_):=ge;obtain⟨⟨y0,y1,y2⟩,_⟩:=yf w4 He.o;clear ge Ho))
    all_goals go_wp2;go_meet;exact⟨rfl,He,qI⟩
   case rest=>
   obtain⟨rfl,He,HO4⟩:=hcut;obtain⟨w4,qG⟩:∃w4,w4=wc:=⟨wc,rfl⟩
   subst qG;clear p0 p1 r0 r1 r2 i1 i2;obtain⟨_,fF,HC4,HL4⟩:_/\J _/\J _/\J _:=yf w4 He.o;have HTW4:J (M (λj=>base<=j) w w4):=pB.trans He (λj hj=>aM (by rw[hj];exact uM.2));have x0:=cell_of_row w4 xb 0 _ _ _ fF.o;have x1:=cell_of_row w4 xb 1 _ _ _ fF.o;simp only[List.getElem?_toArray,lC,List.getElem?_cons_succ]at x0 x1;go_wp2;go_loopw [5,10] (λok i wx=>∃q:Nat,q<=lc/\ok=aL true/\i=O I (q:Int)/\J (wx=w4)) (λ_ i _=>lc-(intOf i).toNat)
   case atStart=>exact⟨0,by omega,rfl,rfl,by show _=_;rfl⟩
   case round=>
    obtain⟨q,hq,rfl,rfl,HW⟩:=hrel;have hw:=HW.o;subst hw
    by_cases fH:q<lc
    ·have hq2:(q:Int)<(lc:Int):=(by omega);obtain⟨_,g1⟩:=Xp HC4 qC (i:=q) (by rw[List.getElem?_replicate,if_pos (by omega)]);go_wp2;go_roundw
     case rel=>exact⟨q+1,by omega,rfl,by go_num,trivial⟩
     case measure=>simp[intOf];omega
    ·obtain rfl:q=lc:=(by omega);have gI:¬(q:Int)<(q:Int):=(by omega);go_wp2;go_loopw [5,11] (λok i wx=>∃p:Nat,p<=lo/\ok=aL true/\i=O I (p:Int)/\J (wx=wr)) (λ_ i _=>lo-(intOf i).toNat)
     case atStart=>exact⟨0,by omega,rfl,rfl,by show _=_;rfl⟩
     case round=>
      obtain⟨p,hp,rfl,rfl,gM⟩:=hrel;have hw:=gM.o;subst hw
      by_cases Hs:p<lo
      ·have kJ:(p:Int)<(lo:Int):=(by omega);obtain⟨_,g1⟩:=Xp HO4 qO (i:=p) (by rw[List.getElem?_replicate,if_pos (by omega)]);go_wp2;go_roundw
       case rel=>exact⟨p+1,by omega,rfl,by go_num,trivial⟩
       case measure=>simp[intOf];omega
      ·obtain rfl:p=lo:=(by omega);have hgf:¬(p:Int)<(p:Int):=(by omega);go_wp2;go_roundw
       case rel=>exact⟨k+1,by omega,rfl,by go_num,HL4,HTW4⟩
       case measure=>simp[intOf];omega
  ·obtain rfl:k=n:=(by omega);have gI:¬(k:Int)<(k:Int):=(by omega);go_wp2;have HB:J (∀(i:Nat) V,i<8->aB N 265 #[O I (i:Int)] V λe w'=>e=aC (aH #[L behB,O I (-(i:Int)-1)])/\M D V w'):=λi V hk=>by
    have:=YM (i:Int) V;rw[show wrap64 (wrap64 (-(i:Int))-1)= -(i:Int)-1 by unfold wrap64;omega]at this;exact this
   go_loopw [5,12,13] (λok i _ wx=>∃q:Nat,q<=8/\ok=aL true/\i=O I (q:Int)/\J (Xj base wx nb gt k (R va k vc) (R oa k oc) c o ga gb hb k)/\J (M (λj=>base<=j) w wx)) (λ_ i _ _=>8-(intOf i).toNat)
   case atStart=>exact⟨0,by omega,rfl,rfl,HL,HT⟩
   case round=>
    clear HL HT;obtain⟨q,hq,rfl,rfl,HL,HT⟩:=hrel
    by_cases hq8:q<8
    ·have hqi:(q:Int)<8:=(by omega);obtain⟨p,hp⟩:∃p:Nat,k+q=p:=⟨_,rfl⟩
     have wq:I.wrap ((k:Int)+(q:Int))=(p:Int):=(by rw[w63 _ (by omega) (by omega)];omega);have cf:(p:Int)<(m:Int):=(by omega);have tM:J (∀V,aB N 265 #[O I (q:Int)] V λe w'=>e=aC (aH #[L behB,O I (-(q:Int)-1)])/\M D V w'):=λV=>HB q V hq8;obtain⟨z,hz⟩:∃z:Int, -(q:Int)-1=z:=⟨_,rfl⟩
     rw[hz]at tM;obtain⟨r0,_⟩:=kp.o wr _ HL.o;obtain⟨t0,t1⟩:=Xp HL.o.txs (Ja1 hb q) (i:=p) (by
      rw[Qz (by simp;omega),QM,lE,show p-k=q by omega,lH,lF hq8];rfl)
     unfold Ja1 at t0 t1;have rO:J (∀V,M D wr V->V.cell? ⟨hb q,0,Y⟩=Z (L behB)/\V.cell? ⟨hb q,1,Y⟩=Z (O I z)):=λV hV=>by
      have:=Xp ((HL.o.tch0 hV).rm q hq8).2.1 (i:=0) (behC q) rfl;unfold behC at this;rw[hz]at this;exact this
     generalize hb q=pC at *;clear hz hp;go_upto_region 22 with fail;obtain⟨W1,pA⟩:∃W1,W1=wr.alloc (T #[R (Z ⟨pC,0,Y⟩) 1 1,R Y 0 0] 98):=⟨_,rfl⟩
     rw[<-pA];have H3:J (M D wr W1):=(by show M _ _ _;rw[pA];exact Ta _ _ _);have HX:J (∀V,M D W1 V->V.cell? ⟨wr.heap.size,0,Y⟩=Z (R (Z ⟨pC,0,Y⟩) 1 1)/\V.cell? ⟨wr.heap.size,1,Y⟩=Z (R Y 0 0)):=λV hV=>by
      have h1:W1.heap[wr.heap.size]? =Z (T #[R (Z ⟨pC,0,Y⟩) 1 1,R Y 0 0] 98):=(by rw[pA];exact Qf _ _);have h2:=(hV.block _ (Jb h1) (λe=>e)).trans h1;exact⟨Ja h2,Ja h2⟩
     clear pA r0 t0 t1;obtain⟨x0,x1⟩:=HX.o W1 (Te _ _);obtain⟨x2,x3⟩:=rO.o W1 H3.o;generalize wr.heap.size=xb at *;go_region_held3 (λV=>V.cell? ⟨xb,0,Y⟩=Z (R (Z ⟨pC,0,Y⟩) 1 1)/\V.cell? ⟨xb,1,Y⟩=Z (R Y 0 0)/\V.cell? ⟨pC,0,Y⟩=Z (L behB)/\V.cell? ⟨pC,1,Y⟩=Z (O I z)) (go_keep) ((go_at_call 265;refine(tM.o _).mono ?_;rintro _ w2⟨rfl,H7⟩;have H4:J (M D W1 w2):=(Td D W1 1).go H7;obtain⟨y0,y1⟩:=HX.o w2 H4.o;obtain⟨y2,y3⟩:=rO.o w2 (H3.o.go H4.o);clear H7))
     all_goals
      go_wp2;go_roundw
      case rel=>exact⟨q+1,by omega,rfl,by go_num,HL.o.tch0 (H3.o.go H4.o),HT.o.go (H3.o.go H4.o)⟩
      case measure=>simp[intOf];omega
    ·obtain rfl:q=8:=(by omega);have hgf:¬((8:Nat):Int)<8:=(by omega);go_wp2;go_loopw [14] (λi wx=>∃(q:Nat)(aY:List VV),q<=m/\i=O I (q:Int)/\J (aY.length=m)/\J (wx.heap[gt]? =Z (T (vvA aY) 98))/\J (wx.heap[nb]? =Z (T #[R (Z ⟨gt,0,Y⟩) m m,R va k vc,R oa k oc] 311))/\J (M (λj=>base<=j) w wx)) (λi _=>m-(intOf i).toNat)
     case atStart=>have h1:=HL.o.row;rw[HM.o]at h1;exact⟨0,_,by omega,rfl,by show List.length _=_;rw[Qe,QM,QM,lE,lE];exact HM.o,HL.o.txs,h1,HT.o⟩
     case round=>
      have HGT:J (base<=gt):=HL.o.low.2;clear HL HT;obtain⟨q,aY,hq,rfl,HN,HG,HR,HT⟩:=hrel;have r0:wr.cell? ⟨nb,0,Y⟩=Z (R (Z ⟨gt,0,Y⟩) m m):=Ja HR.o
      by_cases hqm:q<m
      ·have hqi:(q:Int)<(m:Int):=(by omega);have HQ:J (q<aY.length):=(by show q<aY.length;rw[HN.o];exact hqm);obtain⟨f0,f1⟩:=Xp HG.o _ (Qd HQ.o);have fz:=Ze HG.o;obtain⟨p1,p2⟩:=JcR HG.o HQ.o (R Y 0 0) (R Y 0 0);have Hq:J (_=Z (Obj.cells _ _)):=p1;have Hw:J (M _ wr _):=p2;clear p1 p2;go_wp2;go_roundw
       case rel=>
        refine⟨q+1,_,by omega,by go_num,?_,Hq,(Hw.o.block _ (Jb HR.o) (λe=>?_)).trans HR.o,HT.o.trans Hw.o (λj hj=>aM (by rw[hj];exact HGT.o))⟩
        ·show List.length _=_;rw[List.length_set];exact HN.o
        ·have:=HR.o;rw[e,HG.o]at this;simp at this
       case measure=>simp[intOf];omega
      ·obtain rfl:q=m:=(by omega);have vT:¬(q:Int)<(q:Int):=(by omega);go_wp2;go_ret;exact⟨rfl,HT.o⟩

theorem Job(w:aA)(wb lb rb:Nat)(x:OpL)(hB:B<=w.heap.size)(n:Nat)(sl:Nat->Sl×Sl)(c o:Nat->List VV)(hn:n<=1000000)(hv:TxV B w (R x.ts.1 x.ts.2.1 x.ts.2.2) n sl c o)(xu: -9223372036854775808<=x.a)(zG:x.a<9223372036854775808)(S:BA)(hS:S.size<=1000000)(code:Int)(Q:BA->Int->aA->Prop)(Fin:aA->Prop)
 (hL:∀V B' nb gt vi vo ga gb hb,M D w V->Xj B' V nb gt n vi vo c o ga gb hb 0->aB N 18 #[X (Z ⟨lb,0,Y⟩),R (Z ⟨gt,0,Y⟩) n (n+8)] V λe V'=>e=aC (aI #[L S,O I code])/\M D V V')
 (hR:∀V,M D w V->aB N 180 #[X (Z ⟨rb,0,Y⟩),R x.ts.1 x.ts.2.1 x.ts.2.2] V λe V'=>e=aC (aI #[L S,O I code])/\M D V V')
 (hM:∀q:BA,q.size<=S.size->∀V,M D w V->aB N 19 #[X (Z ⟨lb,0,Y⟩),L q] V λe V'=>∃k:Int,e=aC (O I k)/\(∃S,(∀j,S j->j<w.heap.size)/\M S V V')/\Q q k V')
 (hQ:∀q k V V',Q q k V->M D V V'->Q q k V')
 (hU:∀q k V,Q q k V->aB N 110 #[X (Z ⟨rb,0,Y⟩),L q] V λe V'=>e=aC (O I k)/\Fin V')
 (hF:∀V,M D w V->Fin V):
  aB N 117 #[X (Z ⟨wb,0,Y⟩),X (Z ⟨lb,0,Y⟩),X (Z ⟨rb,0,Y⟩),opV x] w λe w'=>e=aC (aL true)/\Fin w':=by
 obtain⟨kind,a,b,which,s,t,u,cx,cn,⟨oa,on,oc⟩,⟨ta,tn,tc⟩⟩:=x;simp only at *;obtain rfl:tn=n:=by obtain⟨a',c',e⟩:=hv.shape;simp only[Qy]at e;exact e.2.1
 obtain⟨w0,(qM:J _)⟩:∃w0,w0=w.alloc (T #[O I kind,O I a,O I b,O I which,L s,L t,L u,L cx,O I cn,R oa on oc,R ta tn tc] 75):=⟨_,rfl⟩
 have t0:M D w w0:=by rw[qM];exact Ta _ _ _
 have r0:w0.heap[w.heap.size]? =Z (T #[O I kind,O I a,O I b,O I which,L s,L t,L u,L cx,O I cn,R oa on oc,R ta tn tc] 75):=by rw[qM];exact Qf _ _
 have kC:J _:=t0;have HZ0:J (w0.heap.size=w.heap.size+1):=by show _=_;rw[qM,World.size_alloc]
 have kN:J (∀V S,M S w0 V->(∀j,S j->j<w.heap.size\/w0.heap.size<=j)->V.cell? ⟨w.heap.size,0,Y⟩=Z (O I kind)/\V.cell? ⟨w.heap.size,1,Y⟩=Z (O I a)/\V.cell? ⟨w.heap.size,2,Y⟩=Z (O I b)/\V.cell? ⟨w.heap.size,10,Y⟩=Z (R ta tn tc)):=λV S hV hS=>by
  have hr:=(hV.block w.heap.size (Jb r0) (λe=>by have:=hS _ e;have:=(Jb r0);omega)).trans r0;exact⟨Ja hr,Ja hr,Ja hr,Ja hr⟩
 have fI:J (aB N 179 #[R ta tn tc] w0 λe w'=>∃nb gt vi vo ga gb hb,e=aC (X (Z ⟨nb,0,Y⟩))/\Xj w0.heap.size w' nb gt tn vi vo c o ga gb hb 0/\M D w0 w'):=JpH w0 _ tn sl c o hn (Qm hB t0.size) (hv.tch t0 (λ_ e=>e.elim));obtain⟨q,hq,(xY:J _)⟩:=Jmh S hS a b xu zG;have qz:J (∀V B' nb gt vi vo ga gb hb,M D w V->w.heap.size<=B'->Xj B' V nb gt tn vi vo c o ga gb hb 0->_):=λV B' nb gt vi vo ga gb hb hV hB' hA=>JpG hA (hv.tch hV (λ_ e=>e.elim)) (Qm hB hB') hn;have HL:J _:=hL;have HR:J _:=hR;have HM:J _:=hM q hq;have HQ:J _:=hQ q;have HU:J _:=hU q;have HF:J _:=hF;obtain⟨t8,jV⟩:∃t8:Nat,tn+8=t8:=⟨_,rfl⟩
 have hl8:(tn:Int)<=(t8:Int):=by omega
 rw[jV]at HL;have kw:J _:=jV;clear hL hR hM hQ hU hF hv t0 r0 hq hS;go_enter func117,ntmps117;go_upto_region 1 with fail;rw[<-qM.o];obtain⟨c0,c1,c2,c9⟩:=kN w0 _ (Te D _) (λ_ e=>e.elim);go_wp2_with fail;refine fI.mono ?_;rintro _ w1⟨nb,gt,vi,vo,ga,gb,hb,rfl,(gD:J _),(H3:J _)⟩;have n0:w1.cell? ⟨nb,0,Y⟩=Z (R (Z ⟨gt,0,Y⟩) t8 t8):=by rw[<-kw.o];exact Ja gD.row
 clear c0 c1 c2 c9 fI;obtain⟨c0,c1,c2,c9⟩:=kN w1 _ H3 (λ_ e=>e.elim);go_upto_region 2 with fail;go_cut [10,11] (λv8 v9 wx=>v8=L S/\v9=O I code/\J (M D w1 wx))
 case first=>
  go_region_held3 (λV=>V.cell? ⟨nb,0,Y⟩=Z (R (Z ⟨gt,0,Y⟩) t8 t8)/\V.cell? ⟨w.heap.size,10,Y⟩=Z (R ta tn tc)) (go_keep) ((go_at_call 18;refine(HL _ _ nb gt vi vo ga gb hb ((kC.go H3).go (Td _ w1 1)) (gD.tch0 (Td _ w1 1))).mono ?_;rintro _ w2⟨rfl,H7⟩;have H4:J _:=(Td D w1 1).go H7;obtain⟨d0,d1,d2,d9⟩:=kN w2 _ (H3.go H4) (λ_ e=>e.elim);have d10:w2.cell? ⟨nb,0,Y⟩=Z (R (Z ⟨gt,0,Y⟩) t8 t8):=(by rw[<-kw.o];exact Ja (gD.tch0 H4).row)))
  all_goals go_wp2;go_meet;exact⟨rfl,rfl,H4⟩
 case rest=>
 obtain⟨rfl,rfl,H4⟩:=hcut;obtain⟨w2,ql⟩:∃w2,w2=wc:=⟨wc,rfl⟩
 subst ql;have Hz:J _:=H3.go H4.o;obtain⟨c0,c1,c2,c9⟩:=kN w2 _ Hz (λ_ e=>e.elim);go_wp2_with fail;refine(HR w2 (kC.go Hz)).mono ?_;rintro _ w3⟨rfl,Hm⟩;have H8:J _:=Hz.go Hm;have tV:J _:=(gD.tch0 H4).tch0 Hm;obtain⟨c0,c1,c2,c9⟩:=kN w3 _ H8 (λ_ e=>e.elim);go_wp2_with fail;refine(qz w3 _ nb gt vi vo ga gb hb (kC.go H8) kC.size tV).mono ?_;rintro _ w4⟨rfl,Ho⟩;have He:J _:=H8.trans Ho (λj hj=>aN hj);obtain⟨c0,c1,c2,c9⟩:=kN w4 _ He (λ_ e=>e.elim);go_wp2_with fail;refine(Jb1 _ _).mono ?_;rintro _ _⟨rfl,rfl⟩
 by_cases hk:kind=3
 ·subst hk;go_wp2;go_ret;exact⟨rfl,HF _ (kC.go He)⟩
 ·by_cases hc:code=0
  ·subst hc;go_wp2_with fail;refine(xY _).mono ?_;rintro _ w5⟨rfl,kI⟩;have Hu:J _:=He.go kI;go_wp2_with fail;refine(HM w5 (kC.go Hu)).mono ?_;rintro _ w6⟨k,rfl,⟨S6,hS6,gV⟩,(HQ6:J _)⟩;obtain⟨c0,c1,c2,c9⟩:=kN w6 _ ((Hu.mono noE).trans gV (λj hj=>aM hj)) (λj hj=>aM (hS6 j hj));clear gV;go_wp2_with fail;refine(xY _).mono ?_;rintro _ w7⟨rfl,ko⟩;have HQ7:J _:=HQ _ _ _ HQ6 ko;go_wp2_with fail;refine(HU k w7 HQ7).mono ?_;rintro _ w8⟨rfl,(HF8:J _)⟩;go_wp2_with fail;refine(Jb1 _ _).mono ?_;rintro _ _⟨rfl,rfl⟩;go_wp2;go_ret;exact⟨rfl,HF8⟩
  ·have h1:(code != 0)=true:=(by simpa using hc);go_wp2;go_ret;exact⟨rfl,HF _ (kC.go He)⟩


def Zo(base:Nat)(w:aA)(v:aG)(ts:List TxL):Prop:=
 ∃l:List (Sl×Sl),TOwn base w v l/\l.length=ts.length/\∀(j:Nat) x t,l[j]? =Z x->ts[j]? =Z t->COwn base w (R x.1.1 x.1.2.1 x.1.2.2) t.1/\OOwn base w (R x.2.1 x.2.2.1 x.2.2.2) t.2
theorem JeQ{cs:List (BA×Int)}{l:List (Sl×Sl)}(h:COwn b w v cs)(h2:TOwn b' w v2 l):∀j,v.ownBlock=Z j->¬Z j=v2.ownBlock:=by
 intro j hj yS;obtain⟨_,⟨rfl,_⟩|⟨g,cap,cur,rfl,_,hZ,_⟩⟩:=h
 ·cases hj
 obtain⟨_,⟨rfl,_⟩|⟨g',cap',cur',rfl,_,jv,_⟩⟩:=h2
 ·cases yS
 cases hj
 cases yS
 rw[hZ]at jv;simp at jv
theorem Jgg{cs:List (Nat×Nat)}{l:List (Sl×Sl)}(h:OOwn b w v cs)(h2:TOwn b' w v2 l):∀j,v.ownBlock=Z j->¬Z j=v2.ownBlock:=by
 intro j hj yS;obtain⟨_,⟨rfl,_⟩|⟨g,cap,cur,rfl,_,hZ,_⟩⟩:=h
 ·cases hj
 obtain⟨_,⟨rfl,_⟩|⟨g',cap',cur',rfl,_,jv,_⟩⟩:=h2
 ·cases yS
 cases hj
 cases yS
 rw[hZ]at jv;simp at jv
theorem Zo.tch{w':aA}(h:Zo base w v ts)(k:M D w w'):Zo base w' v ts:=by
 obtain⟨l,h1,h2,h3⟩:=h;exact⟨l,h1.tch k (λ_ _ e=>e),h2,λj x t hx ht=>⟨(h3 j x t hx ht).1.tch k (λ_ _ e=>e),(h3 j x t hx ht).2.tch k (λ_ _ e=>e)⟩⟩
theorem Zo.push{W:aA}{lt:List (Sl×Sl)}{x:Sl×Sl}{t:TxL}(h1:TOwn base W v lt)(h2:lt.length=ts.length)(h3:∀(j:Nat) x t,lt[j]? =Z x->ts[j]? =Z t->COwn base W (R x.1.1 x.1.2.1 x.1.2.2) t.1/\OOwn base W (R x.2.1 x.2.2.1 x.2.2.2) t.2)
 (hc:COwn base W (R x.1.1 x.1.2.1 x.1.2.2) t.1) (ho:OOwn base W (R x.2.1 x.2.2.1 x.2.2.2) t.2) (hn:TOwn base w3 v3 (lt++[x])) (hg:World.grownBy W w3 v.ownBlock):Zo base w3 v3 (ts++[t]):=by
 refine⟨lt++[x],hn,by simp[h2],λj y u hy hu=>?_⟩;have jP:COwn base W (R y.1.1 y.1.2.1 y.1.2.2) u.1/\OOwn base W (R y.2.1 y.2.2.1 y.2.2.2) u.2:=by
  by_cases hj:j<lt.length
  ·rw[QF hj]at hy;rw[QF (by omega)]at hu;exact h3 j y u hy hu
  ·rw[Qz (by omega)]at hy;rw[Qz (by omega)]at hu;have e1:j-lt.length=0:=(by have:=(Qo.1 hy).1;simp at this;omega);rw[e1]at hy;rw[<-h2,e1]at hu;simp only[lC,Qh]at hy hu;subst hy;subst hu;exact⟨hc,ho⟩
 exact⟨jP.1.tch (Tg hg) (JeQ jP.1 h1),jP.2.tch (Tg hg) (Jgg jP.2 h1)⟩

theorem Zr.kind{l:List Lv}(h:Zr base w v l):∀j,v.ownBlock=Z j->∃cur m,w.heap[j]? =Z (T cur 205 m):=by
 obtain⟨_,⟨rfl,h0⟩|⟨g,cap,cur,rfl,hb,hZ,_⟩⟩:=h
 ·intro k hk;cases hk
 ·intro k hk;cases hk;exact⟨_,_,hZ⟩
theorem Jeo{cs:Array aG}{m:Nat×Nat}(h:w.heap[rb]? =Z (T cs 208 m))(h':Zr base w v lv):v.ownBlock ≠ Z rb:=by
 intro e;obtain⟨c,m,hr⟩:=h'.kind rb e;rw[h]at hr;simp at hr
theorem JoH{wD w5:aA}{g cap:Nat}{G:Nat->Prop}{ch:Ch}{b aW hd:BA}{x:Lv} 
 (h0:RfAt wj base w rb G ch (R (Z ⟨g,0,Y⟩) ch.length cap) lv b) (tD:M D w wD) (t3:M (λj=>j=g) wD w3) (t5:M (λj=>j=rb) w3 w5)
 (h3:Zr base w3 v3 (lv++[x])) (uJ:∀j,v3.ownBlock=Z j->j=g\/wD.heap.size<=j)
 (hR5:w5.heap[rb]? =Z (T #[O I (wj:Int),v3,O I 0,L aW] 208)) (cS:aW.size<=b.size+1000)
 (hl:∃l:List H9,RhAt wD (R x.2.1 x.2.2.1 x.2.2.2) l/\Book wj st l/\l.length<=9*(ch.length+1)/\∀j,(Value.slice x.2.1 x.2.2.1 x.2.2.2).ownBlock=Z j->G j\/w.heap.size<=j)
 (hh:HdOk wj (lvH ch.length x)/\hd=⟨(Hn (lvH ch.length x)).toArray⟩) (gX:base<=w.heap.size):
  M G w w5/\∃G' vL lv b,RfAt wj base w5 rb G' (ch++[(hd,st)]) vL lv b/\∀j,G' j->G j\/w.heap.size<=j:=by
 have hGg:G g:=h0.vG g rfl;have tD3:M (λj=>j=g\/j=rb) wD w3:=t3.mono (λ_ h=>aM (aM h));have tD5:=tD3.trans t5 (λj h=>aM (Or.inr h));have tG:M G w w5:=(tD.mono noE).trans tD5 (λj hj=>aM (by
  rcases hj with e|e
  ·rw[e];exact hGg
  ·rw[e];exact h0.rbG))
 obtain⟨cg,mg,kg⟩:=h0.lvs.kind g rfl;have tW:=h0.len.1;obtain⟨l,j5,jk,yL,hl4⟩:=hl;have s1:=tD.size;have s2:=t3.size;have s3:=t5.size;have s4:=tD5.size
 -- what holds coins is neither the ledger's block nor its heights' one
 have Hd:∀V,M D w V->∀(v:aG)(l:List H9),RhAt V v l->∀j,v.ownBlock=Z j->¬(j=g\/j=rb):=λV hV v l h j hj e=>by
  obtain⟨_,cs,m,hk⟩:=h.own j hj
  rcases e with e|e
  ·subst e;rw[(hV.block j (Jb kg) (λh=>h)).trans kg]at hk;simp at hk
  ·subst e;rw[(hV.block j (Jb h0.row) (λh=>h)).trans h0.row]at hk;simp at hk
 refine⟨tG,λj=>G j\/v3.ownBlock=Z j\/(Value.slice x.2.1 x.2.2.1 x.2.2.2).ownBlock=Z j,v3,lv++[x],aW,?_,?_⟩
 ·refine⟨hR5,?_,aM h0.rbG,λj hj=>aN (aM hj),?_,?_,?_,?_,?_,?_⟩
  ·have kP:w3.heap[rb]? =Z (T #[O I (wj:Int),R (Z ⟨g,0,Y⟩) ch.length cap,O I 0,L b] 208):=by
    have hrD:=(tD.block rb (Jb h0.row) (λh=>h)).trans h0.row;refine(t3.block rb (Jb hrD) (λe=>?_)).trans hrD;subst e;exact Jeo h0.row h0.lvs rfl
   exact h3.tch t5 (λj hj e=>by subst e;exact Jeo kP h3 hj)
  ·intro y hy j hj
   rcases QE.1 hy with hy|hy
   ·exact aM (h0.cG y hy j hj)
   ·obtain rfl:y=x:=(by simpa using hy);exact aN (aN hj)
  ·intro j hj
   rcases hj with hj|hj|hj
   ·have:=h0.own j hj;exact⟨this.1,by omega⟩
   ·have:=h3.own j hj;exact⟨this.1,by omega⟩
   ·have h8:=(j5.own j hj).1;refine⟨?_,by omega⟩
    rcases hl4 j hj with h|h
    ·exact(h0.own j h).1
    ·omega
  ·rw[Qe,Qe,tW];exact⟨rfl,by simp⟩
  ·intro i y c hy hc
   by_cases hi:i<ch.length
   ·rw[QF (by omega)]at hy hc;exact h0.hdr i y c hy hc
   ·rw[Qz (by omega)]at hy hc;obtain rfl:i=ch.length:=by
     have:=(Qo.1 hc).1;simp at this;omega
    rw[tW,lI]at hy;rw[lI]at hc;simp only[lC,Qh]at hy hc;subst hy;subst hc;exact hh
  ·intro i y c hy hc
   by_cases hi:i<ch.length
   ·rw[QF (by omega)]at hy hc;obtain⟨l',p1,p2,p3⟩:=h0.coins i y c hy hc;exact⟨l',(p1.tch0 tD).tch tD5 (Hd wD tD _ _ (p1.tch0 tD)),p2,p3⟩
   ·rw[Qz (by omega)]at hy hc;obtain rfl:i=ch.length:=by
     have:=(Qo.1 hc).1;simp at this;omega
    rw[tW,lI]at hy;rw[lI]at hc;simp only[lC,Qh]at hy hc;subst hy;subst hc;exact⟨l,j5.tch tD5 (Hd wD tD _ _ j5),jk,yL⟩
  ·rw[Qe];have:=h0.log;show aW.size<=1000*(ch.length+1);omega
 ·intro j hj
  rcases hj with hj|hj|hj
  ·exact aM hj
  ·rcases uJ j hj with h|h
   ·rw[h];exact aM hGg
   ·exact aN (by omega)
  ·exact hl4 j hj

theorem JeB(h:JR w cb wj fl r bs v)(k:Nat)(b:BV)(hk:bs[k]? =Z b)(hf:fl<=k):
  aB N 92 #[X (Z ⟨cb,0,Y⟩),O I (k:Int)] w λe w'=>e=aC (aI #[JA b.2.1 b.2.2,aK])/\M D w w':=by
 obtain⟨W,hW⟩:∃W,W=w.alloc (T #[O I 0,X Y] 146):=⟨_,rfl⟩
 have hA:M D w W:=by rw[hW];exact Ta _ _ _
 have c1:W.cell? ⟨cb,1,Y⟩=Z (O I (fl:Int)):=Ja (h.next hA).row;have qr:J (aB _ _ _ _ _):=Jpc (h.next hA) k b hk;have hZ:W.heap[w.heap.size]? =Z (T #[O I 0,X Y] 146):=by rw[hW];exact Qf _ _
 have HW:J _:=hW;have HR:J _:=hZ;have HA:J _:=hA;obtain⟨bh,bu,bq⟩:=b;obtain⟨rv,Hv⟩:∃rv,Jm bq=X rv:=⟨_,rfl⟩
 simp only[bV]at qr;show aB _ _ _ _ λe w'=>e=aC (aI #[aH #[_,Jm bq],aK])/\_;rw[Hv]at qr ⊢;have H5:¬(k:Int)<(fl:Int):=by omega
 clear h hk hW hZ hA Hv hf;go_enter func92,ntmps92;go_upto_region 1 with fail;rw[<-HW.o];go_wp2_with fail;refine qr.o.mono ?_;rintro _ w2⟨rfl,H7⟩;have Hp:w2.heap[w.heap.size]? =Z (T #[O I 0,X Y] 146):=(H7.block _ (Jb HR.o) (λh=>h)).trans HR.o;have jj:=(Jb Hp)
 obtain⟨W3,qp⟩:∃W3,W3=w2.alloc (T #[L bh,O I (bu:Int),X rv] 148):=⟨_,rfl⟩
 have t3:M D w2 W3:=by rw[qp];exact Ta _ _ _
 have kP:W3.heap[w.heap.size]? =Z (T #[O I 0,X Y] 146):=(t3.block _ jj (λh=>h)).trans Hp;have uo:W3.heap[w2.heap.size]? =Z (T #[L bh,O I (bu:Int),X rv] 148):=by rw[qp];exact Qf _ _
 have r0:W3.cell? ⟨w.heap.size,0,Y⟩=Z (O I 0):=Ja kP;have r1:W3.cell? ⟨w.heap.size,1,Y⟩=Z (X Y):=Ja kP;have fR:∀j,W3.frozen? ⟨w.heap.size,j,Y⟩=false:=λj=>Qg _ _ _ _ _ kP;have q1:W3.cell? ⟨w2.heap.size,1,Y⟩=Z (O I (bu:Int)):=Ja uo;have q2:W3.cell? ⟨w2.heap.size,2,Y⟩=Z (X rv):=Ja uo;have kY:J _:=kP;have jR:J (W3=_):=qp;have H8:J (M D w W3):=(HA.o.go H7).go t3;clear H7 Hp t3 kP uo qp qr HR HA HW c1;go_upto_region 4 with fail;rw[<-jR.o];go_wp2;rw[set2 _ _ _ _ _ _ _ kY.o];refine QK (v:=aI #[aH #[O I (bu:Int),X rv],aK]) (Je results92 _ _ w.heap.size _ _ (0,0) _ rfl (Qi _ _ _ _ _ _ kY.o) underlying146 rfl (by kernel_rfl)) rfl ⟨rfl,?_⟩;exact H8.o.trans (Ts _ _ _) (λj hj=>aN (by omega))
theorem JhX(E:Nat->Addr)(hE:Env E w)(h:JR w cb wj fl r bs v)(k:Int)(hk:k<(fl:Int)):
  aB N 92 #[X (Z ⟨cb,0,Y⟩),O I k] w λe w'=>∃t u,e=aC (aI #[JA 0 Y,aJ t u])/\Jn E 5 w' (aJ t u)/\M D w w':=by
 obtain⟨W,hW⟩:∃W,W=w.alloc (T #[O I 0,X Y] 146):=⟨_,rfl⟩
 have hA:M D w W:=by rw[hW];exact Ta _ _ _
 have c1:W.cell? ⟨cb,1,Y⟩=Z (O I (fl:Int)):=Ja (h.next hA).row;have hrg:=(hE.tch hA noE).range;have Hi:=(hE.tch hA noE).size;have hGs:5<W.heap.size:=Qk (by decide) Hi;have hZ:W.heap[w.heap.size]? =Z (T #[O I 0,X Y] 146):=by rw[hW];exact Qf _ _
 have r0:W.cell? ⟨w.heap.size,0,Y⟩=Z (O I 0):=Ja hZ;have r1:W.cell? ⟨w.heap.size,1,Y⟩=Z (X Y):=Ja hZ;have fR:∀j,W.frozen? ⟨w.heap.size,j,Y⟩=false:=λj=>Qg _ _ _ _ _ hZ;have HW:J _:=hW;have HR:J _:=hZ;have HA:J _:=hA;have hz:w.heap.size<W.heap.size:=(Jb hZ)
 show aB _ _ _ _ λe w'=>∃t u,e=aC (aI #[aH #[O I 0,X Y],aJ t u])/\_;clear h hW hZ hA hE Hi;go_enter func92,ntmps92;go_upto_region 1 with fail;rw[<-HW.o];go_wp2_with fail;refine(Xk _ _ _ _).mono ?_;rintro _ _⟨rfl,rfl⟩;have jf:(W.alloc (T #[L ⟨#[104,101,105,103,104,116]⟩,eV E 5] 237)).heap[w.heap.size]? =Z (T #[O I 0,X Y] 146):=(Below.heap_alloc W _ _ hz).trans HR.o;have jw:=Qf W (T #[L ⟨#[104,101,105,103,104,116]⟩,eV E 5] 237);have t2:=Ta D W (T #[L ⟨#[104,101,105,103,104,116]⟩,eV E 5] 237);have gU:J (_=_):=jf;have vM:J (_=_):=jw;have H4:J _:=t2;have r0:(W.alloc (T #[L ⟨#[104,101,105,103,104,116]⟩,eV E 5] 237)).cell? ⟨w.heap.size,0,Y⟩=Z (O I 0):=Ja jf;have r1:(W.alloc (T #[L ⟨#[104,101,105,103,104,116]⟩,eV E 5] 237)).cell? ⟨w.heap.size,1,Y⟩=Z (X Y):=Ja jf;have fR:∀j,(W.alloc (T #[L ⟨#[104,101,105,103,104,116]⟩,eV E 5] 237)).frozen? ⟨w.heap.size,j,Y⟩=false:=λj=>Qg _ _ _ _ _ jf;clear jf jw t2;generalize W.alloc (T #[L ⟨#[104,101,105,103,104,116]⟩,eV E 5] 237)=W2 at *;go_wp2;rw[set2 _ _ _ _ _ _ _ gU.o];refine QK (v:=aI #[aH #[O I 0,X Y],aJ 235 (X (Z ⟨W.heap.size,0,Y⟩))]) (Je results92 _ _ w.heap.size _ _ (0,0) _ rfl (Qi _ _ _ _ _ _ gU.o) underlying146 rfl (by kernel_rfl)) rfl ⟨_,_,rfl,?_,?_⟩
 ·exact .wrap W.heap.size ⟨#[104,101,105,103,104,116]⟩ (eV E 5) ((setRow_other _ _ _ _ (by omega)).trans vM.o) .base
 ·exact(HA.o.go H4.o).trans (Ts _ _ _) (λj hj=>aN (by omega))
theorem Jgt(E:Nat->Addr)(hE:Env E w)(h:JR w cb wj fl r bs v)(k:Int)(hf:(fl:Int)<=k)(hk:¬(0<=k/\k<bs.length)):
  aB N 92 #[X (Z ⟨cb,0,Y⟩),O I k] w λe w'=>∃t u,e=aC (aI #[JA 0 Y,aJ t u])/\Jn E 5 w' (aJ t u)/\M D w w':=by
 obtain⟨W,hW⟩:∃W,W=w.alloc (T #[O I 0,X Y] 146):=⟨_,rfl⟩
 have hA:M D w W:=by rw[hW];exact Ta _ _ _
 have c1:W.cell? ⟨cb,1,Y⟩=Z (O I (fl:Int)):=Ja (h.next hA).row;have qr:J (aB _ _ _ _ _):=JlJ E (hE.tch hA noE) (h.next hA) k hk;have hZ:W.heap[w.heap.size]? =Z (T #[O I 0,X Y] 146):=by rw[hW];exact Qf _ _
 have HW:J _:=hW;have HR:J _:=hZ;have HA:J _:=hA;simp only[bV,Jm,Option.map_none]at qr;show aB _ _ _ _ λe w'=>∃t u,e=aC (aI #[aH #[O I 0,X Y],aJ t u])/\_;have H5:¬k<(fl:Int):=by omega
 clear h hk hW hZ hA hf hE;go_enter func92,ntmps92;go_upto_region 1 with fail;rw[<-HW.o];go_wp2_with fail;refine qr.o.mono ?_;rintro _ w2⟨t,u,rfl,u9,H7⟩;have Hp:w2.heap[w.heap.size]? =Z (T #[O I 0,X Y] 146):=(H7.block _ (Jb HR.o) (λh=>h)).trans HR.o;have jj:=(Jb Hp)
 obtain⟨W3,qp⟩:∃W3,W3=w2.alloc (T #[L ⟨#[]⟩,O I 0,X Y] 148):=⟨_,rfl⟩
 have t3:M D w2 W3:=by rw[qp];exact Ta _ _ _
 have kP:W3.heap[w.heap.size]? =Z (T #[O I 0,X Y] 146):=(t3.block _ jj (λh=>h)).trans Hp;have uo:W3.heap[w2.heap.size]? =Z (T #[L ⟨#[]⟩,O I 0,X Y] 148):=by rw[qp];exact Qf _ _
 have r0:W3.cell? ⟨w.heap.size,0,Y⟩=Z (O I 0):=Ja kP;have r1:W3.cell? ⟨w.heap.size,1,Y⟩=Z (X Y):=Ja kP;have fR:∀j,W3.frozen? ⟨w.heap.size,j,Y⟩=false:=λj=>Qg _ _ _ _ _ kP;have q1:W3.cell? ⟨w2.heap.size,1,Y⟩=Z (O I 0):=Ja uo;have q2:W3.cell? ⟨w2.heap.size,2,Y⟩=Z (X Y):=Ja uo;have kY:J _:=kP;have jR:J (W3=_):=qp;have H8:J (M D w W3):=(HA.o.go H7).go t3;have im:J (Jn E 5 W3 (aJ t u)):=u9.tch t3 (λ_ _ _ _ h=>h);clear H7 Hp t3 kP uo qp qr HR HA HW c1 u9;go_upto_region 4 with fail;rw[<-jR.o];go_wp2;rw[set2 _ _ _ _ _ _ _ kY.o];refine QK (v:=aI #[aH #[O I 0,X Y],aJ t u]) (Je results92 _ _ w.heap.size _ _ (0,0) _ rfl (Qi _ _ _ _ _ _ kY.o) underlying146 rfl (by kernel_rfl)) rfl ⟨_,_,rfl,?_,?_⟩
 ·exact im.o.tch (Ts _ _ _) (λj c x hj e=>by rw[e,kY.o]at hj;simp at hj)
 ·exact H8.o.trans (Ts _ _ _) (λj hj=>aN (by omega))
theorem JhY(E:Nat->Addr)(hE:Env E w)(h:JR w cb wj fl r bs v)(k:Int)(hk:¬((fl:Int)<=k/\k<bs.length)):
  aB N 92 #[X (Z ⟨cb,0,Y⟩),O I k] w λe w'=>∃t u,e=aC (aI #[JA 0 Y,aJ t u])/\Jn E 5 w' (aJ t u)/\M D w w':=by
 by_cases hf:k<(fl:Int)
 ·exact JhX E hE h k hf
 ·exact Jgt E hE h k (by omega) (by omega)
theorem JkT(E:Nat->Addr)(hE:Env E w)(h:JR w cb wj fl r bs v)(k:Int)(hk:¬((fl:Int)<=k/\k<bs.length))(c:BA×Int):
  aB N 50 #[X (Z ⟨cb,0,Y⟩),O I k,aH #[L c.1,O I c.2]] w λe w'=>M D w w'/\∃t u,e=aC (aI #[L ⟨#[]⟩,aJ t u])/\Jn E 5 w' (aJ t u):=by
 obtain⟨s,aZ⟩:=c;have HS:J (∀W,M D w W->aB N 92 #[X (Z ⟨cb,0,Y⟩),O I k] W λe w'=>∃t u,e=aC (aI #[aH #[O I 0,X Y],aJ t u])/\Jn E 5 w' (aJ t u)/\M D W w'):=λW hT=>JhY E (hE.tch hT noE) (h.next hT) k hk;clear hE h hk;dsimp only;go_enter func50,ntmps50;go_wp2_with fail;refine(HS.o _ (Ta D w _)).mono ?_;rintro _ w1⟨t,u,rfl,he,ht⟩;have HT:J (M D w w1):=(Ta D w _).go ht;have HE:J _:=he;clear he ht HS;go_wp2;go_ret2;exact⟨HT.o.go (Ta _ _ _),_,_,rfl,HE.o.tch (Ta D w1 _) (λ_ _ _ _ h=>h)⟩
theorem JmN(E:Nat->Addr)(hE:Env E w)(h:JR w cb wj fl r bs v)(k:Nat)(b:BV)(hk:bs[k]? =Z b)(hf:fl<=k)(hw:wj<=32)(F:Nat->Prop)(st:Option Tr)(hb:b.2.1=wj)(hs:StAt (dgW wj) F w b.2.2 st)(Hb:∀t,st=Z t->t.Wf/\TrOk wj t)(c:BA×Int)(hc:Ji wj c):
  aB N 50 #[X (Z ⟨cb,0,Y⟩),O I (k:Int),aH #[L c.1,O I c.2]] w λe w'=>M D w w'/\e=aC (aI #[L ⟨(wayB (YQ (dgW wj) (Jc c) st)).toArray⟩,aK]):=by
 have HS:J (∀W,M D w W->aB N 92 _ W _):=λW hT=>JeB (h.next hT) k b hk hf;have HP:J (∀W,M D w W->aB N 93 _ W _):=λW hT=>JmM E wj hw F b.2.2 st c hc W (hE.tch hT noE) (hs.next hT) Hb;rw[hb]at HS;obtain⟨rv,Hv⟩:∃rv,JA wj b.2.2=aH #[O I (wj:Int),X rv]:=⟨_,rfl⟩
 rw[Hv]at HS HP;generalize (⟨(wayB (YQ (dgW wj) (Jc c) st)).toArray⟩:BA)=pf at *;obtain⟨s,aZ⟩:=c;clear hE h hk hs Hb hc Hv hb;dsimp only at HP ⊢;go_enter func50,ntmps50;go_wp2_with fail;refine(HS.o _ (Ta D w _)).mono ?_;rintro _ w1⟨rfl,ht⟩;have HT:J (M D w w1):=(Ta D w _).go ht;have r1:w1.heap[w.heap.size]? =Z (T #[L s,O I aZ] 49):=(ht.block _ (by simp) (λh=>h)).trans (Qf _ _);have c0:w1.cell? ⟨w.heap.size,0,Y⟩=Z (L s):=Ja r1;have c1:w1.cell? ⟨w.heap.size,1,Y⟩=Z (O I aZ):=Ja r1;have gQ:=(Jb r1)
 clear ht HS r1;go_wp2_with fail;refine(HP.o _ (HT.o.go (Ta _ _ _))).mono ?_;rintro _ w2⟨rfl,H7⟩;have H4:J (M D w w2):=(HT.o.go (Ta _ _ _)).go H7;clear H7 HP;go_wp2;go_ret2;exact⟨H4.o,rfl⟩

theorem Jds(B:Book wj (Z (.br b lt rt)) l):Fork (koR l) b/\Book wj (Z lt) (sidL l b 0)/\Book wj (Z rt) (sidL l b 1):=by
 obtain⟨w1,w2,h0,h1,hs⟩:=B.wf _ rfl;have hm:∀k o,(k,o)∈lt.coins++rt.coins↔∃h∈l,Jc h.1=k/\h.2=o:=B.mem;have hk:∀x,x∈koR l↔x∈lt.coins++rt.coins:=λx=>by
  obtain⟨k,o⟩:=x;rw[hm k o];unfold koR;rw[QL];constructor
  ·rintro⟨y,hy,e⟩;exact⟨y,hy,congrArg Prod.fst e,congrArg Prod.snd e⟩
  ·rintro⟨y,hy,e1,e2⟩;exact⟨y,hy,by rw[e1,e2]⟩
 refine⟨?_,⟨λt e=>by cases e;exact w1,Jdv l b 0 B.ok,JbK l b 0 B.nodup,λk o=>?_⟩,⟨λt e=>by cases e;exact w2,Jdv l b 1 B.ok,JbK l b 1 B.nodup,λk o=>?_⟩⟩
 ·obtain⟨x,hx⟩:=lD _ lt.coins_ne;obtain⟨y,hy⟩:=lD _ rt.coins_ne;refine⟨λx hx y hy i hi=>hs x ((hk x).1 hx) y ((hk y).1 hy) i hi,x,(hk x).2 (by simp[hx]),y,(hk y).2 (by simp[hy]),?_⟩;rw[h0 x hx,h1 y hy];decide
 ·show (k,o)∈lt.coins↔_;unfold sidL;constructor
  ·intro h;obtain⟨x,hx,e1,e2⟩:=(hm k o).1 (by simp[h]);exact⟨x,QO.2 ⟨hx,by rw[e1];simpa using h0 _ h⟩,e1,e2⟩
  ·rintro⟨x,hx,e1,e2⟩;obtain⟨hx,hb⟩:=QO.1 hx
   rcases QE.1 ((hm k o).2 ⟨x,hx,e1,e2⟩) with h|h
   ·exact h
   ·have h3:bt k b=1:=h1 _ h;rw[e1]at hb;have h4:bt k b=0:=(by simpa using hb);omega
 ·show (k,o)∈rt.coins↔_;unfold sidL;constructor
  ·intro h;obtain⟨x,hx,e1,e2⟩:=(hm k o).1 (by simp[h]);exact⟨x,QO.2 ⟨hx,by rw[e1];simpa using h1 _ h⟩,e1,e2⟩
  ·rintro⟨x,hx,e1,e2⟩;obtain⟨hx,hb⟩:=QO.1 hx
   rcases QE.1 ((hm k o).2 ⟨x,hx,e1,e2⟩) with h|h
   ·have h3:bt k b=0:=h0 _ h;rw[e1]at hb;have h4:bt k b=1:=(by simpa using hb);omega
   ·exact h
theorem Jcz{k:Key}{o:Nat×Nat}(B:Book wj (Z (.leaf k o)) l):∃h,l=[h]/\Jc h.1=k/\h.2=o:=by
 have hm:∀k' o',(k',o')∈[(k,o)]↔∃h∈l,Jc h.1=k'/\h.2=o':=B.mem;obtain⟨x,hx,e1,e2⟩:=(hm k o).1 (by simp);have all:∀y∈l,y.1=x.1:=λy hy=>by
  have:=(hm _ _).2 ⟨y,hy,rfl,rfl⟩;simp at this;exact Zx (B.ok y hy).1 (B.ok x hx).1 (this.1.trans e1.symm)
 match l,hx,all,B.nodup with
 | [h],hx,_,_=>
  simp at hx;subst hx;exact⟨_,rfl,e1,e2⟩
 | a::b::r,_,all,hn=>
  have h1:=all a (by simp);have h2:=all b (by simp);simp[h1,h2]at hn
theorem JlO(B:Book wj (Z t) l)(h:2<=l.length):∃b lt rt,t=.br b lt rt:=by
 cases t with
 | leaf k o=>
  obtain⟨x,rfl,_⟩:=Jcz B;simp at h
 | br b lt rt=>exact⟨b,lt,rt,rfl⟩
theorem Jj9(B:Book wj st l)(h:l ≠ []):∃t,st=Z t:=by
 cases st with
 | none=>
  obtain⟨x,hx⟩:=lD _ h;have:=(B.mem _ _).2 ⟨x,hx,rfl,rfl⟩;simp[JX]at this
 | some t=>exact⟨t,rfl⟩
theorem JbV(B:Book wj st []):st=Y:=by
 cases st with
 | none=>rfl
 | some t=>
  obtain⟨⟨k,o⟩,hx⟩:=lD _ t.coins_ne;obtain⟨h,hh,_⟩:=(B.mem k o).1 hx
  cases hh
theorem Je8{h0 x:H9}{r:List H9}(B:Book wj (Z (.br b lt rt)) (h0::x::r)):b<8*(wj+1)/\alkB (h0::x::r) b=false/\∀i,i<b->alkB (h0::x::r) i=true:=by
 obtain⟨b',hb,h1,h2⟩:=Jc2 h0 x r (λh hh=>(B.ok h hh).1) B.nodup;obtain rfl:=(Jds B).1.unique (Jhc h0 (x::r) b' h1 h2);exact⟨hb,h1,h2⟩
theorem Jac:∀(t:Tr)(l:List H9),Book wj (Z t) l->TrOk wj t
 | .leaf k o,l,B=>by
  obtain⟨h,rfl,rfl,rfl⟩:=Jcz B;obtain⟨h1,h2⟩:=B.ok h (by simp);exact Jba h1 h2
 | .br b lt rt,l,B=>by
  obtain⟨hf,B0,B1⟩:=Jds B;have h2:=hf.two;unfold koR at h2;rw[QM]at h2
  match l,h2,B with
  | h0::x::r,_,B=>exact⟨(Je8 B).1,Jac lt _ B0,Jac rt _ B1⟩
theorem Jnp(hw:wj<=32)(h:TrOk wj t):(t.text (dgW wj)).length<=1000:=by
 have hd:∀t:Tr,(t.dig (dgW wj)).data.toList.length=wj:=λt=>by rw[QA,Tr.dig_text];exact Jj wj hw _
 cases t with
 | leaf k o=>
  have h1:k.length=wj+1:=h.1;unfold Tr.text outB;simp only[Qp,Qe,Jf];omega
 | br b l r=>
  unfold Tr.text;simp only[Qp,Qe,Jf,hd];omega
