import Derived.Test.YtighkdnooglfjaaGreatDoorQzTree5
open Go renaming Calls->aB,Value->aG,World->aA
open Go.Ending renaming returned->aC
open Go.IntKind renaming i64->I,u64->aD,u8->aE
open Go.Obj renaming cells->T
open Go.Proofs.Tryz renaming prog->N
open Go.RowKit renaming Hid->J
open Go.Value renaming agg->aH,bool->aL,iface->aJ,int->O,nilIface->aK,pointer->X,slice->R,string->L,tuple->aI
open Option renaming none->Y,some->Z,map_none->lE
open Or renaming inl->aM,inr->aN
open Go.Instr renaming lookup->lD
open List renaming replicate->lC
set_option maxRecDepth 100000
set_option maxHeartbeats 2000000
namespace Go.Proofs.YtighkdnooglfjaaGreatDoor
open Tryz
open Go.RowKit

variable {d:List UInt8->BA}{sp:List VV}{B G aU aZ b cb fl k n r wj:Nat}{E:Nat->Addr}{F:Nat->Prop}{o:Obj}{q:Option Nat}{p':PS}{x:Sl×Sl}{v:aG}{W w w' w0 wA:aA}
structure Zs(w:aA)(aZ wj:Nat)(q:Option Nat)(aU G n:Nat)(sp:List VV):Prop where
 s:w.heap[aZ]? =Z (T #[O I (wj:Int),Jm q] 146)
 m:w.heap[aU]? =Z (T #[R (Z ⟨G,0,Y⟩) n n] 22)
 g:w.heap[G]? =Z (T (vvA sp) 80)
 len:sp.length=n
theorem Zs.next(h:Zs w aZ wj q aU G n sp)(k:M D w w'):Zs w' aZ wj q aU G n sp:=
 ⟨(k.block _ (Jb h.s) (λh=>h)).trans h.s,(k.block _ (Jb h.m) (λh=>h)).trans h.m,(k.block _ (Jb h.g) (λh=>h)).trans h.g,h.len⟩
theorem Zs.cells(h:Zs w aZ wj q aU G n sp)(rv:Option Addr)(Hv:Jm q=X rv)(i:Nat)(hi:i<n):w.cell? ⟨aZ,0,Y⟩=Z (O I (wj:Int))/\w.cell? ⟨aZ,1,Y⟩=Z (X rv)/\w.cell? ⟨aU,0,Y⟩=Z (R (Z ⟨G,0,Y⟩) n n)/\
  (∃x0 y0,w.cell? ⟨G,i*2,Y⟩=Z x0/\w.cell? ⟨G,i*2+1,Y⟩=Z y0)/\(∀j,w.frozen? ⟨aZ,j,Y⟩=false)/\(∀j,w.frozen? ⟨G,j,Y⟩=false):=by
 refine⟨Ja h.s,?_,Ja h.m,?_,λj=>Qg _ _ _ _ _ h.s,λj=>Qg _ _ _ _ _ h.g⟩
 ·rw[<-Hv];exact Ja h.s
 ·obtain⟨e0,e1⟩:=Yt sp i (by rw[h.len];exact hi);exact⟨_,_,(Ja h.g).trans e0,(Ja h.g).trans e1⟩
theorem Zs.apart(h:Zs w aZ wj q aU G n sp):aZ ≠ G/\aU ≠ G/\aZ ≠ aU:=by
 have h1:=h.s;have h2:=h.m;have h3:=h.g;refine⟨?_,?_,?_⟩
 ·rintro rfl;rw[h1]at h3;simp at h3
 ·rintro rfl;rw[h2]at h3;simp at h3
 ·rintro rfl;rw[h1]at h2;simp at h2
theorem Zs.put(h:Zs W aZ wj q aU G n sp)(hT:M D w W)(i:Nat)(hi:i<n)(width':Nat)(q':Option Nat)(v':Option Addr)(hv:Jm q'=X v')(a o:aG):
  M (λk=>k=aZ\/k=G) w ((((W.setCell ⟨aZ,0,Y⟩ (O I (width':Int))).setCell ⟨aZ,1,Y⟩ (X v')).setCell ⟨G,i*2,Y⟩ a).setCell ⟨G,i*2+1,Y⟩ o)/\
  Zs ((((W.setCell ⟨aZ,0,Y⟩ (O I (width':Int))).setCell ⟨aZ,1,Y⟩ (X v')).setCell ⟨G,i*2,Y⟩ a).setCell ⟨G,i*2+1,Y⟩ o) aZ width' q' aU G n (sp.set i (a,o))/\
  ∀d F q' st',StAt d F W q' st'->StAt d F ((((W.setCell ⟨aZ,0,Y⟩ (O I (width':Int))).setCell ⟨aZ,1,Y⟩ (X v')).setCell ⟨G,i*2,Y⟩ a).setCell ⟨G,i*2+1,Y⟩ o) q' st':=by
 obtain⟨hNG,hMG,hNM⟩:=h.apart;rw[set2 W aZ _ _ _ _ _ h.s];have t1:=Ts W aZ #[O I (width':Int),X v'];have g1:(W.setRow aZ #[O I (width':Int),X v']).heap[G]? =Z (T (vvA sp) 80):=(t1.block _ (Jb h.g) (by omega)).trans h.g;have m1:(W.setRow aZ #[O I (width':Int),X v']).heap[aU]? =Z (T #[R (Z ⟨G,0,Y⟩) n n] 22):=(t1.block _ (Jb h.m) (by omega)).trans h.m;have s1:(W.setRow aZ #[O I (width':Int),X v']).heap[aZ]? =Z (T #[O I (width':Int),X v'] 146):=Qi _ _ _ _ _ _ h.s;have k1:∀d F q' st',StAt d F W q' st'->StAt d F (W.setRow aZ #[O I (width':Int),X v']) q' st':=λd F q' st' hs=>hs.row h.s (by decide);have T1:M (λk=>k=aZ\/k=G) w (W.setRow aZ #[O I (width':Int),X v']):=(hT.mono noE).trans t1 (λj hj=>aM (aM hj));generalize W.setRow aZ #[O I (width':Int),X v']=W1 at *;rw[Qj W1 G (i*2) _ _ (0,0) _ g1,Qj _ G (i*2+1) _ _ (0,0) _ (Qi _ _ _ _ _ _ g1),QI,Jgy sp i a o (by rw[h.len];exact hi)];have t2:=Ts W1 G (vvA (sp.set i (a,o)));refine⟨T1.trans t2 (λj hj=>aM (aN hj)),⟨?_,(t2.block _ (Jb m1) (by omega)).trans m1,Qi _ _ _ _ _ _ g1,by rw[List.length_set];exact h.len⟩,λd F q' st' hs=>(k1 _ _ _ _ hs).row g1 (by decide)⟩;rw[hv];exact(t2.block _ (Jb s1) (by omega)).trans s1
def SpTo(E:Nat->Addr)(wj:Nat)(F:Nat->Prop)(aZ aU G n i:Nat)(sp:List VV)(r:Except Er (Option Tr×(Nat×Nat)))(e:Ending)(w':aA):Prop:=match r with
 | .ok (st',o)=>∃q',e=aC aK/\Zs w' aZ wj q' aU G n (sp.set i (encO o))/\StAt (dgW wj) F w' q' st'
 | .error _=>e=aC (eV E 1)/\Zs w' aZ 0 Y aU G n (sp.set i zO)
theorem Jk6(E:Nat->Addr)(wj:Nat)(Hf:1<=wj)(hw:wj<=32)(F:Nat->Prop)(aZ:Nat)(q:Option Nat)(st:Option Tr)(aU G n:Nat)(sp:List VV)(i:Nat)(hi:i<n)(c:BA×Int)(hc:Ji wj c)(w:aA)(hE:Env E w)(hF:∀j,w.heap.size<=j->F j)(hB:Zs w aZ wj q aU G n sp)(hs:StAt (dgW wj) F w q st)(Hb:StOk wj st):
  aB N 283 #[O I (i:Int),aH #[L c.1,O I c.2],X (Z ⟨aZ,0,Y⟩),X (Z ⟨aU,0,Y⟩)] w λe w'=>M (λk=>k=aZ\/k=G) w w'/\SpTo E wj F aZ aU G n i sp (JW st (Jc c)) e w':=by
 have HW:J (∀W,M D w W->aB N 284 #[JA wj q,aH #[L c.1,O I c.2]] W λe w'=>M D W w'/\WoTo E wj F (JW st (Jc c)) e w'):=λW hT=>
  Jig E wj Hf hw F q st c hc W (hE.tch hT noE) (λj hj=>hF j (Qm hT.size hj)) (hs.next hT) Hb
 have kF:J _:=hB;obtain⟨rv,Hv⟩:∃rv,Jm q=X rv:=⟨_,rfl⟩
 have hNs:aZ<w.heap.size:=(Jb hB.s)
 have hMs:aU<w.heap.size:=(Jb hB.m)
 have hGs:G<w.heap.size:=(Jb hB.g)
 have a0:w.cell? ⟨aZ,0,Y⟩=Z (O I (wj:Int)):=Ja hB.s;have a1:w.cell? ⟨aZ,1,Y⟩=Z (X rv):=by rw[<-Hv];exact Ja hB.s
 have a2:w.cell? ⟨aU,0,Y⟩=Z (R (Z ⟨G,0,Y⟩) n n):=Ja hB.m;obtain⟨hNG,hMG,hNM⟩:=hB.apart;have hGN:=hNG.symm;have hGM:=hMG.symm;have hMN:=hNM.symm;have hii:(i:Int)<(n:Int):=by omega
 have vD:(0:Int)<=(i:Int):=by omega
 have jY:J _:=Hv;unfold JA at HW;rw[Hv]at HW;generalize hR:JW st (Jc c)=aW at *;clear hE hF hB hs Hb Hv hc;obtain⟨cs,cn⟩:=c;dsimp only at HW ⊢;have Hz:J (∀k,M D w ((w.alloc (T #[L cs,O I cn] 49)).drewN k)):=λk=>(Ta _ _ _).dr k;go_enter func283,ntmps283;go_wp2_with fail
 cases aW with
 | ok r=>
  obtain⟨st',o⟩:=r;go_region_with (go_at_call 284;refine(HW.o _ (Hz.o 1)).mono ?_;rintro _ w2⟨H7,q2,rfl,kO⟩;have hT:M D w w2:=(Hz.o 1).go H7;obtain⟨b0,b1,b2,⟨x0,y0,b3,b4⟩,fN,fG⟩:=(kF.o.next hT).cells rv jY.o i hi;obtain⟨v2,kW⟩:∃v,Jm q2=X v:=⟨_,rfl⟩;have kz:J _:=kW;unfold JA;rw[kW];have HT:J _:=hT;have jL:J _:=kO;clear kW hT H7 kO)
  all_goals go_wp2;go_ret;obtain⟨p1,p2,p3⟩:=(kF.o.next HT.o).put HT.o i hi wj q2 v2 kz.o (O aD (o.1:Int)) (O aE (o.2:Int));exact⟨p1,q2,rfl,p2,p3 _ _ _ _ jL.o⟩
 | error er=>
  go_region_with (go_at_call 284;refine(HW.o _ (Hz.o 1)).mono ?_;rintro _ w2⟨H7,rfl⟩;have hT:M D w w2:=(Hz.o 1).go H7;obtain⟨b0,b1,b2,⟨x0,y0,b3,b4⟩,fN,fG⟩:=(kF.o.next hT).cells rv jY.o i hi;have HT:J _:=hT;clear hT H7)
  all_goals go_wp2;go_ret;obtain⟨p1,p2,p3⟩:=(kF.o.next HT.o).put HT.o i hi 0 Y Y rfl (O aD 0) (O aE 0);exact⟨p1,rfl,p2⟩

theorem Jkk(fv:aG)(what:BA)(w:aA):aB N 280 #[L what,R Y 0 0,fv] w λe w'=>e=aC aK/\w=w':=by
 go_enter func280,ntmps280;go_wp2;go_loopw [12] (λi wr=>i=O I 0/\w=wr) (λi _=>0)
 case atStart=>exact⟨rfl,rfl⟩
 case round=>obtain⟨rfl,rfl⟩:=hrel;go_wp2;go_ret;exact⟨rfl,rfl⟩
theorem ZQ{P:Program}{fn:Func}{p t t2:Tmp}{ty:TypeId}(h:fn.results= #[.cell p ty,.tmp t,.tmp t2])(tmps:Array aG)(w:aA)(g:Nat)(aY:TypeId)(cs:Array aG)(fr:Nat×Nat)(d:TypeDesc)
 (hp:tmps.getD p undef=X (Z ⟨g,0,Y⟩)) (hg:w.heap[g]? =Z (T cs aY fr))
 (hu:P.underlying ty=Z d) (hd:(match d with | .struct _ | .array _ _=>true|_=>false)=true) (hi:(P.info? ty).map (·.size)=Z cs.size):
  (results fn tmps).run P w=.ok (aI #[aH cs,tmps.getD t undef,tmps.getD t2 undef]) w:=by
 have yy:tmps[p]?.getD undef=X (Z ⟨g,0,Y⟩):=by simpa using hp
 simp[results,h,yy,asAddr,run_loadVar_row w g aY ty cs fr d hg hu hd hi]
theorem Jr.of_row{c:Nat}{pre:List (Nat×Nat)}(h:w.heap[G]? =Z (T (vvA (pre.map encO)) 80))(hB:G<B):Jr B w (R (Z ⟨G,0,Y⟩) pre.length c) pre:=by
 refine aN ⟨G,0,c,rfl,hB,(Jb h),λi hi=>?_⟩;obtain⟨e0,e1⟩:=Yt (pre.map encO) i (by simpa using hi);rw[List.getElem_map]at e0 e1;rw[Nat.zero_add];exact⟨(Ja h).trans e0,(Ja h).trans e1⟩
theorem JcQ{g:Nat}{a b:aG}(h:W.heap[g]? =Z (T #[a,b] 146))(v0 v1:aG):M (λk=>k=g) W ((W.setCell ⟨g,0,Y⟩ v0).setCell ⟨g,1,Y⟩ v1):=by
 rw[set2 W g _ _ _ _ _ h];exact Ts W g #[v0,v1]
def Jeu(pre:List (Nat×Nat))(r:Except Er (Option Tr×List (Nat×Nat))):Except Er (Option Tr×List (Nat×Nat)):=match r with
 | .error e=>.error e
 | .ok (st,os)=>.ok (st,pre++os)
theorem JhQ(coins:List (BA×Int))(i:Nat)(h:i<coins.length)(st:Option Tr)(pre:List (Nat×Nat)):Jeu pre (Xd (coins.drop i) st)=match JW st (Jc coins[i]) with
  | .error e=>.error e
  | .ok (st1,o)=>Jeu (pre++[o]) (Xd (coins.drop (i+1)) st1):=by
 rw[List.drop_eq_getElem_cons h];show Jeu pre (match JW st (Jc coins[i]) with | .error e=>.error e | .ok (st1,o)=>match Xd (coins.drop (i+1)) st1 with | .error e=>.error e | .ok (st2,os)=>.ok (st2,o::os))=_
 cases JW st (Jc coins[i]) with
 | error e=>rfl
 | ok r=>
  obtain⟨st1,o⟩:=r;simp only
  cases Xd (coins.drop (i+1)) st1 with
  | error e=>rfl
  | ok r=>obtain⟨st2,os⟩:=r;simp[Jeu]
structure Jju(wj:Nat)(F:Nat->Prop)(coins:List (BA×Int))(aW:Except Er (Option Tr×List (Nat×Nat)))(w0:aA)(aZ aU G:Nat)(i:Nat)(w:aA)(q:Option Nat)(st:Option Tr)(pre:List (Nat×Nat)):Prop where
 box:Zs w aZ wj q aU G coins.length (pre.map encO++lC (coins.length-i) zO)
 len:pre.length=i
 outs:∀o∈pre,JC o
 at_:StAt (dgW wj) F w q st
 ok:StOk wj st
 eq:Jeu pre (Xd (coins.drop i) st)=aW
 tch:M (λk=>k=aZ\/k=G) w0 w
def Jpa(E:Nat->Addr)(n:Nat)(aW:Except Er (Option Tr×List (Nat×Nat)))(w0:aA)(aZ aU G:Nat)(v:aG)(w:aA):Prop:=v=eV E 1/\aW=.error .input/\(∃sp,Zs w aZ 0 Y aU G n sp)/\M (λk=>k=aZ\/k=G) w0 w
theorem JhR(E:Nat->Addr)(wj:Nat)(Hf:1<=wj)(hw:wj<=32)(F:Nat->Prop)(coins:List (BA×Int))(xg:∀c∈coins,Ji wj c)(aW:Except Er (Option Tr×List (Nat×Nat)))(w0:aA)(hE:Env E w0)(hF:∀j,w0.heap.size<=j->F j)(aZ aU G:Nat)(hN:18<=aZ)(hG:aZ<=G)(g off:Nat)(hg:g<aZ)(hz:g<w0.heap.size)
 (hr:∀i (h:i<coins.length),w0.cell? ⟨g,off+i*2,Y⟩=Z (L coins[i].1)/\w0.cell? ⟨g,off+i*2+1,Y⟩=Z (O I coins[i].2)):
  JcW 283 #[X (Z ⟨aZ,0,Y⟩),X (Z ⟨aU,0,Y⟩)] g off coins.length (λi=>(coins.map encC).getD i zC) (λi w=>∃q st pre,Jju wj F coins aW w0 aZ aU G i w q st pre) (Jpa E coins.length aW w0 aZ aU G):=by
 have hx:∀i (h:i<coins.length),(coins.map encC).getD i zC=encC coins[i]:=λi h=>by simp[List.getD_eq_getElem?_getD,h]
 refine⟨λ_ _=>rfl,?_,?_,?_⟩
 ·rintro i w hi⟨q,st,pre,aT⟩;rw[hx i hi];have hc:∀o,w.cell? ⟨g,o,Y⟩=w0.cell? ⟨g,o,Y⟩:=λo=>aT.tch.cell (p:=⟨g,o,Y⟩) hz (by show ¬(g=aZ\/g=G);omega);rw[hc,hc];exact hr i hi
 ·rintro i w o⟨q,st,pre,aT⟩;have ha:=Ta D w o;exact⟨q,st,pre,aT.box.next ha,aT.len,aT.outs,aT.at_.next ha,aT.ok,aT.eq,aT.tch.go ha⟩
 ·rintro i w hi⟨q,st,pre,aT⟩;rw[hx i hi];have uR:Ji wj coins[i]:=xg _ (Qx hi);refine(Jk6 E wj Hf hw F aZ q st aU G coins.length _ i hi coins[i] uR w (hE.tch aT.tch (λj hj=>by omega)) (λj hj=>hF j (Qm aT.tch.size hj)) aT.box aT.at_ aT.ok).mono ?_;rintro e w'⟨ht,hr⟩;have e1:=aT.eq;rw[JhQ coins i hi]at e1;have hT:M (λk=>k=aZ\/k=G) w0 w':=aT.tch.trans ht (λj hj=>aM hj)
  cases kG:JW st (Jc coins[i]) with
  | ok r=>
   obtain⟨st',o⟩:=r;rw[kG]at hr e1;obtain⟨q',rfl,hb,hs⟩:=hr;obtain⟨k1,k2⟩:=aT.ok.without kG;refine aM ⟨rfl,q',st',pre++[o],?_,by simp[aT.len],λx hx=>?_,hs,k1,e1,hT⟩
   ·have:(pre.map encO++lC (coins.length-i) zO).set i (encO o)=(pre++[o]).map encO++lC (coins.length-(i+1)) zO:=by
     have hl:=aT.len;rw[List.set_append_right _ _ (by simp;omega),QM,hl,Nat.sub_self,show coins.length-i=(coins.length-(i+1))+1 by omega,List.replicate_succ];simp
    rw[<-this];exact hb
   ·rcases QE.1 hx with h|h
    ·exact aT.outs x h
    ·rw[Qt.1 h];exact k2
  | error er=>
   rw[kG]at hr e1;obtain⟨rfl,hb⟩:=hr;have:=Jgz kG;subst this;exact aN ⟨_,_,rfl,rfl,e1.symm,⟨_,hb⟩,hT⟩
theorem Jqw(n:Nat)(h:n<=3)(w:aA):(Instr.makeSlice 22 (O I (n:Int)) (O I (n:Int))).run N w=.ok (R (Z ⟨w.heap.size,0,Y⟩) n n) (w.alloc (T (vvA (lC n zO)) 80)):=by
 obtain rfl|rfl|rfl|rfl:n=0\/n=1\/n=2\/n=3:=by omega
 all_goals kernel_rfl
def Jpb(E:Nat->Addr)(wj:Nat)(F:Nat->Prop)(r:Except Er (Option Tr×List (Nat×Nat)))(e:Ending)(w':aA):Prop:=match r with
 | .ok (st',os)=>∃q' G c,e=aC (aI #[JA wj q',R (Z ⟨G,0,Y⟩) os.length c,aK])/\StAt (dgW wj) F w' q' st'/\StOk wj st'/\w'.heap[G]? =Z (T (vvA (os.map encO)) 80)/\(∀o∈os,JC o)/\os.length<=3
 | .error er=>∃x v,e=aC (aI #[JA 0 Y,x,v])/\Jn E (erG er) w' v/\er=.input
theorem Jk7(E:Nat->Addr)(wj:Nat)(Hf:1<=wj)(hw:wj<=32)(F:Nat->Prop)(q:Option Nat)(st:Option Tr)(v:aG)(coins:List (BA×Int))(xg:∀c∈coins,Ji wj c)(h3:coins.length<=3)(w:aA)(hE:Env E w)(hF:∀j,w.heap.size<=j->F j)(hv:JG w.heap.size w v coins)(hs:StAt (dgW wj) F w q st)(Hb:StOk wj st):
  aB N 207 #[JA wj q,v] w λe w'=>M D w w'/\Jpb E wj F (Xd coins st) e w':=by
 obtain⟨rv,Hv⟩:∃rv,Jm q=X rv:=⟨_,rfl⟩
 obtain⟨n,hn⟩:∃n,n=coins.length:=⟨_,rfl⟩
 obtain⟨W0,nh⟩:∃W,W=((w.alloc (T #[O I (wj:Int),X rv] 146)).alloc (T #[O I 0,X Y] 146)).alloc (T (vvA (lC n zO)) 80):=⟨_,rfl⟩
 obtain⟨W,hW⟩:∃W,W=W0.alloc (T #[R (Z ⟨w.heap.size+2,0,Y⟩) n n] 22):=⟨_,rfl⟩
 have q9:W0.heap.size=w.heap.size+3:=by rw[nh];simp
 have qP:M D w W0:=by rw[nh];exact M.allocs3 _ _ _ _ _
 have yA:M D W0 W:=by rw[hW];exact Ta _ _ _
 have hA:M D w W:=qP.go yA;have f0:W0.heap[w.heap.size]? =Z (T #[O I (wj:Int),X rv] 146):=by rw[nh];exact JU _ _ _ _
 have f1:W0.heap[w.heap.size+1]? =Z (T #[O I 0,X Y] 146):=by rw[nh];exact JQ _ _ _ _
 have f2:W0.heap[w.heap.size+2]? =Z (T (vvA (lC n zO)) 80):=by rw[nh];exact JE _ _ _ _
 have gu:Zs W w.heap.size wj q (w.heap.size+3) (w.heap.size+2) coins.length (lC (coins.length-0) zO):=by
  rw[<-hn,Nat.sub_zero];refine⟨?_,?_,?_,by simp⟩
  ·rw[Hv];exact(yA.block _ (by omega) (λh=>h)).trans f0
  ·rw[hW,<-q9];exact Qf _ _
  ·exact(yA.block _ (by omega) (λh=>h)).trans f2
 have xH:W.heap[w.heap.size+1]? =Z (T #[O I 0,X Y] 146):=(yA.block _ (by omega) (λh=>h)).trans f1;generalize hR:Xd coins st=aW;have xh:=hE.tch hA noE;have vD:Jju wj F coins aW W w.heap.size (w.heap.size+3) (w.heap.size+2) 0 W q st []:=⟨gu,rfl,(λ_ h=>by cases h),hs.next hA,Hb,by rw[List.drop_zero,hR];cases aW with|error e=>rfl|ok r=>rfl,Te _ _⟩
 have xI:J (∀what:BA,what.size<=1000->aB N 280 #[L what,v,.func (.func 283) #[] #[X (Z ⟨w.heap.size,0,Y⟩),X (Z ⟨w.heap.size+3,0,Y⟩)]] W λe w'=>ToE (λi w'=>∃q st pre,Jju wj F coins aW W w.heap.size (w.heap.size+3) (w.heap.size+2) i w' q st pre) (Jpa E coins.length aW W w.heap.size (w.heap.size+3) (w.heap.size+2)) coins.length e w'):=λwhat kq=>by
  rcases hv with⟨rfl,rfl⟩|⟨gi,oi,c,rfl,h1,h2,vu⟩
  ·refine(Jkk _ _ _).mono ?_;rintro _ _⟨rfl,rfl⟩;exact aM ⟨rfl,q,st,[],vD⟩
  ·refine Jqm _ _ _ _ _ _ _ _ (λi hi=>?_) _ _ (JhR E wj Hf hw F coins xg aW W xh (λj hj=>hF j (Qm hA.size hj)) w.heap.size (w.heap.size+3) (w.heap.size+2) hE.size (by omega) gi oi h1 (Qk h2 hA.size) (λi hi=>?_)) h3 kq W ⟨q,st,[],vD⟩
   ·simp only[Qn,List.getElem?_map,Qd hi];exact⟨_,_,rfl⟩
   ·have hc:∀o,W.cell? ⟨gi,o,Y⟩=w.cell? ⟨gi,o,Y⟩:=λo=>hA.cell (p:=⟨gi,o,Y⟩) h2 (λh=>h);rw[hc,hc];exact vu i hi
 obtain⟨ia,ic,Hx⟩:=hv.shape;have jY:J _:=Hv;have xi:J _:=xH;have HA:J _:=hA;have vF:∀(fn:Fn)(first cap:Array aG)(w:aA),(Instr.makeFunc fn first cap).run N w=.ok (.func fn first cap) w:=λ_ _ _ _=>rfl;have HMK:J (∀w,(Instr.makeSlice 22 (O I (n:Int)) (O I (n:Int))).run N w=.ok (R (Z ⟨w.heap.size,0,Y⟩) n n) (w.alloc (T (vvA (lC n zO)) 80))):=λw=>Jqw n (by omega) w;have HW:J (W=(((w.alloc (T #[O I (wj:Int),X rv] 146)).alloc (T #[O I 0,X Y] 146)).alloc (T (vvA (lC n zO)) 80)).alloc (T #[R (Z ⟨w.heap.size+2,0,Y⟩) n n] 22)):=by rw[nh]at hW;exact hW
 have HN:J _:=hn;subst Hx;unfold JA;rw[Hv];rw[<-hn]at xI ⊢;have hn3:n<=3:=by omega
 clear hE hF hv hs Hb Hv xH hA vD xh gu hW nh xg h3 hR qP yA f0 f1 f2 q9 hn;have jp:=HMK.o;go_enter func207,ntmps207;go_wp2_with fail;rw[<-HW.o];refine(xI.o _ (by decide)).mono ?_;rintro e w2 (⟨rfl,q2,st2,pre,aT⟩|⟨p,sx,vx,w1,rfl,hp,⟨rfl,hR,⟨sp,hb⟩,ht⟩,qQ⟩)
 ·have yB:=(Jb xi.o)
  have Hp:w2.heap[w.heap.size+1]? =Z (T #[O I 0,X Y] 146):=(aT.tch.block _ yB (by omega)).trans xi.o;obtain⟨v2,kW⟩:∃v,Jm q2=X v:=⟨_,rfl⟩
  have c0:w2.cell? ⟨w.heap.size,0,Y⟩=Z (O I (wj:Int)):=Ja aT.box.s;have c1:w2.cell? ⟨w.heap.size,1,Y⟩=Z (X v2):=by rw[<-kW];exact Ja aT.box.s
  have c2:w2.cell? ⟨w.heap.size+1+1+1,0,Y⟩=Z (R (Z ⟨w.heap.size+2,0,Y⟩) n n):=by rw[HN.o];exact Ja aT.box.m
  have r0:w2.cell? ⟨w.heap.size+1,0,Y⟩=Z (O I 0):=Ja Hp;have r1:w2.cell? ⟨w.heap.size+1,1,Y⟩=Z (X Y):=Ja Hp;have fR:∀j,w2.frozen? ⟨w.heap.size+1,j,Y⟩=false:=λj=>Qg _ _ _ _ _ Hp;have gU:J _:=Hp;have HI:J (Jju wj F coins aW W w.heap.size (w.heap.size+3) (w.heap.size+2) coins.length w2 q2 st2 pre):=by rw[<-HN.o];exact aT
  have kz:J _:=kW;have jj:w.heap.size+3<w2.heap.size:=(Jb aT.box.m)
  clear aT Hp kW xI yB jp;go_wp2;go_region
  all_goals
   go_wp2;obtain⟨p1,p2,p3,_⟩:=XF gU.o ((HA.o.trans HI.o.tch (λj hj=>aN (by omega))):M D w w2) (by omega) (O I (wj:Int)) (X v2);refine QK (v:=aI #[aH #[O I (wj:Int),X v2],R (Z ⟨w.heap.size+2,0,Y⟩) n n,aK]) (ZQ results207 _ _ (w.heap.size+1) _ _ (0,0) _ rfl p1 underlying146 rfl (by kernel_rfl)) rfl ⟨p2.dr 1,?_⟩;have e1:=HI.o.eq;rw[List.drop_length]at e1;rw[<-e1];have jw:pre.length=n:=(by rw[HN.o];exact HI.o.len);have hb:=HI.o.box;rw[Nat.sub_self,List.replicate_zero,QC]at hb;refine⟨q2,w.heap.size+2,n,?_,(p3 _ _ _ _ HI.o.at_).next (Td _ _ 1),HI.o.ok,?_,?_,?_⟩
   ·simp only[QC];rw[JA,kz.o,jw]
   ·have hg:=((JcQ gU.o (O I (wj:Int)) (X v2)).dr 1).block (w.heap.size+2) (by omega) (by omega);simp only[QC];exact hg.trans hb.g
   ·simp only[QC];exact HI.o.outs
   ·simp only[QC];omega
 ·have yB:=(Jb xi.o)
  have kD:w1.heap[w.heap.size+1]? =Z (T #[O I 0,X Y] 146):=(ht.block _ yB (by omega)).trans xi.o;have gQ:=(Jb kD)
  have Hp:w2.heap[w.heap.size+1]? =Z (T #[O I 0,X Y] 146):=(qQ.block _ gQ).trans kD;have kO:w2.heap[w.heap.size]? =Z (T #[O I 0,X Y] 146):=(qQ.block _ (Jb hb.s)).trans hb.s;have kn:w2.heap[w.heap.size+3]? =Z (T #[R (Z ⟨w.heap.size+2,0,Y⟩) n n] 22):=(qQ.block _ (Jb hb.m)).trans hb.m;have c0:w2.cell? ⟨w.heap.size,0,Y⟩=Z (O I 0):=Ja kO;have c1:w2.cell? ⟨w.heap.size,1,Y⟩=Z (X Y):=Ja kO;have c2:w2.cell? ⟨w.heap.size+1+1+1,0,Y⟩=Z (R (Z ⟨w.heap.size+2,0,Y⟩) n n):=Ja kn;have r0:w2.cell? ⟨w.heap.size+1,0,Y⟩=Z (O I 0):=Ja Hp;have r1:w2.cell? ⟨w.heap.size+1,1,Y⟩=Z (X Y):=Ja Hp;have fR:∀j,w2.frozen? ⟨w.heap.size+1,j,Y⟩=false:=λj=>Qg _ _ _ _ _ Hp;have gU:J _:=Hp;have H4:J (M (λk=>k=w.heap.size\/k=w.heap.size+2) W w2):=ht.trans (M.of_below qQ) (λj hj=>aN (Qm ht.size hj));have HP:J _:=hp;have HR:J (aW=_):=hR;have jj:w.heap.size+3<w2.heap.size:=(Jb kn)
  clear kD Hp kO qQ ht hb hp hR xI yB gQ kn jp;go_wp2;go_region
  all_goals go_wp2;obtain⟨p1,p2,p3,p4⟩:=XF gU.o ((HA.o.trans H4.o (λj hj=>aN (by omega))):M D w w2) (by omega) (O I 0) (X Y);refine QK (v:=aI #[aH #[O I 0,X Y],R (Z ⟨w.heap.size+2,0,Y⟩) n n,aJ 235 (X (Z ⟨p,0,Y⟩))]) (ZQ results207 _ _ (w.heap.size+1) _ _ (0,0) _ rfl p1 underlying146 rfl (by kernel_rfl)) rfl ⟨p2.dr 1,?_⟩;rw[HR.o];exact⟨_,_,rfl,Jn.tch (p4 _ _ _ (.wrap p _ _ HP.o .base)) (Td D _ 1) (λ_ _ _ _ h=>h),rfl⟩

theorem txB?_ok{wj:Nat}{t:TxL}(h:TxOk wj t):txB? wj t=Z (txB t):=by
 unfold txB?;rw[(Jph wj t h).wr []];rfl
theorem JfS(dg:List UInt8->BA)(st:Option Tr)(t:TxL):JI dg st t=match Xd t.1 st with
  | .error e=>.error e
  | .ok (st1,os)=>match Jz (dg (84::txB t)) 0 t.2 st1 with
   | .error e=>.error e
   | .ok st2=>if Xm os t.2 then .error .sum else .ok st2:=rfl
structure JaD(W:aA)(aZ wj:Nat)(q:Option Nat)(x:Sl×Sl):Prop where
 s:W.heap[aZ]? =Z (T #[O I (wj:Int),Jm q] 146)
 t:W.heap[aZ+1]? =Z (T #[R x.1.1 x.1.2.1 x.1.2.2,R x.2.1 x.2.2.1 x.2.2.2] 98)
 r:W.heap[aZ+1+1]? =Z (T #[O I 0,X Y] 146)
theorem JaD.next(h:JaD w aZ wj q x)(k:M D w w'):JaD w' aZ wj q x:=
 ⟨(k.block _ (Jb h.s) (λh=>h)).trans h.s,(k.block _ (Jb h.t) (λh=>h)).trans h.t,(k.block _ (Jb h.r) (λh=>h)).trans h.r⟩
theorem JaD.put(h:JaD W aZ wj q x)(width':Nat)(q':Option Nat)(v':Option Addr)(hv:Jm q'=X v'):JaD ((W.setCell ⟨aZ,0,Y⟩ (O I (width':Int))).setCell ⟨aZ,1,Y⟩ (X v')) aZ width' q' x:=by
 have k:=JcQ h.s (O I (width':Int)) (X v');refine⟨?_,(k.block _ (Jb h.t) (by omega)).trans h.t,(k.block _ (Jb h.r) (by omega)).trans h.r⟩;rw[set2 W aZ _ _ _ _ _ h.s,hv];exact Qi _ _ _ _ _ _ h.s
theorem JaD.cells(h:JaD W aZ wj q x)(rv:Option Addr)(Hv:Jm q=X rv):(W.cell? ⟨aZ,0,Y⟩=Z (O I (wj:Int))/\W.cell? ⟨aZ,1,Y⟩=Z (X rv))/\(W.cell? ⟨aZ+1,0,Y⟩=Z (R x.1.1 x.1.2.1 x.1.2.2)/\W.cell? ⟨aZ+1,1,Y⟩=Z (R x.2.1 x.2.2.1 x.2.2.2))/\
  (W.cell? ⟨aZ+1+1,0,Y⟩=Z (O I 0)/\W.cell? ⟨aZ+1+1,1,Y⟩=Z (X Y))/\(∀j,W.frozen? ⟨aZ,j,Y⟩=false)/\(∀j,W.frozen? ⟨aZ+1+1,j,Y⟩=false)/\aZ+1+1<W.heap.size:=by
 refine⟨⟨Ja h.s,?_⟩,⟨Ja h.t,Ja h.t⟩,⟨Ja h.r,Ja h.r⟩,λj=>Qg _ _ _ _ _ h.s,λj=>Qg _ _ _ _ _ h.r,(Jb h.r)⟩;rw[<-Hv];exact Ja h.s
theorem JaD.both(h:JaD W aZ wj q x)(hT:M D w W)(hN:w.heap.size<=aZ)(width':Nat)(q':Option Nat)(v':Option Addr)(hv:Jm q'=X v'):
  JaD ((W.setCell ⟨aZ,0,Y⟩ (O I (width':Int))).setCell ⟨aZ,1,Y⟩ (X v')) aZ width' q' x/\M D w ((W.setCell ⟨aZ,0,Y⟩ (O I (width':Int))).setCell ⟨aZ,1,Y⟩ (X v'))/\
  (∀d F q' st',StAt d F W q' st'->StAt d F ((W.setCell ⟨aZ,0,Y⟩ (O I (width':Int))).setCell ⟨aZ,1,Y⟩ (X v')) q' st')/\(∀E k v,Jn E k W v->Jn E k ((W.setCell ⟨aZ,0,Y⟩ (O I (width':Int))).setCell ⟨aZ,1,Y⟩ (X v')) v)/\
  ∀(G:Nat)(c:Array aG),W.heap[G]? =Z (T c 80)->((W.setCell ⟨aZ,0,Y⟩ (O I (width':Int))).setCell ⟨aZ,1,Y⟩ (X v')).heap[G]? =Z (T c 80):=by
 obtain⟨_,p2,p3,p4⟩:=XF h.s hT hN (O I (width':Int)) (X v');refine⟨h.put width' q' v' hv,p2,p3,p4,λG c hg=>?_⟩;refine((JcQ h.s _ _).block G (Jb hg) ?_).trans hg;rintro rfl;rw[h.s]at hg;simp at hg
def ApTo(E:Nat->Addr)(wj:Nat)(F:Nat->Prop)(r:Except Er (Option Tr))(e:Ending)(w':aA):Prop:=match r with
 | .ok st'=>∃q',e=aC (aI #[JA wj q',aK])/\StAt (dgW wj) F w' q' st'/\StOk wj st'
 | .error er=>∃(u:Nat)(q':Option Nat)(t:TypeId)(v:aG),e=aC (aI #[JA u q',aJ t v])/\Jn E (erG er) w' (aJ t v)
theorem JfT(E:Nat->Addr)(wj:Nat)(Hf:1<=wj)(hw:wj<=32)(F:Nat->Prop)(q:Option Nat)(st:Option Tr)(x:Sl×Sl)(t:TxL)(ht:TxOk wj t)(w:aA)(hE:Env E w)(hF:∀j,w.heap.size<=j->F j)(h1:JG w.heap.size w (R x.1.1 x.1.2.1 x.1.2.2) t.1)(h2:Jr w.heap.size w (R x.2.1 x.2.2.1 x.2.2.2) t.2)(hs:StAt (dgW wj) F w q st)(Hb:StOk wj st):
  aB N 137 #[O I (wj:Int),JA wj q,aH #[R x.1.1 x.1.2.1 x.1.2.2,R x.2.1 x.2.2.1 x.2.2.2]] w λe w'=>M D w w'/\ApTo E wj F (JI (dgW wj) st t) e w':=by
 have hm:=ht.made;have hi3:=ht.ins;have yz:J (∀W,M D w W->aB N 206 #[O I (wj:Int),aH #[R x.1.1 x.1.2.1 x.1.2.2,R x.2.1 x.2.2.1 x.2.2.2]] W λe w'=>e=aC (aI #[L (dgW wj (84::txB t)),aK])/\M D W w'):=λW hT=>by
  refine(Jnt E wj Hf hw x t W (hE.tch hT noE) ((h1.tch hT noE).up hT.size) ((h2.tch hT noE).up hT.size) (by omega) (by omega) (λo ho=>(ht.outs o ho).2)).mono ?_;rintro e w'⟨k1,k2⟩;rw[txB?_ok ht]at k2;exact⟨k2,k1⟩
 have sQ:J (∀W,M D w W->aB N 207 #[JA wj q,R x.1.1 x.1.2.1 x.1.2.2] W λe w'=>M D W w'/\Jpb E wj F (Xd t.1 st) e w'):=λW hT=>
  Jk7 E wj Hf hw F q st _ t.1 ht.coins hi3 W (hE.tch hT noE) (λj hj=>hF j (Qm hT.size hj)) ((h1.tch hT noE).up hT.size) (hs.next hT) Hb
 have qi:J (∀W q1 st1,M D w W->StAt (dgW wj) F W q1 st1->StOk wj st1->aB N 126 #[JA wj q1,L (dgW wj (84::txB t)),R x.2.1 x.2.2.1 x.2.2.2] W λe w'=>M D W w'/\Jo9 E wj F (Jz (dgW wj (84::txB t)) 0 t.2 st1) e w'):=λW q1 st1 hT k1 k2=>
  Jc9 E wj Hf hw F q1 st1 _ (Jj wj hw _) _ t.2 ht.outs hm W (hE.tch hT noE) (λj hj=>hF j (Qm hT.size hj)) ((h2.tch hT noE).up hT.size) k1 k2
 have sR:J (∀W G c os,M D w W->W.heap[G]? =Z (T (vvA (os.map encO)) 80)->(∀o∈os,JC o)->os.length<=3->aB N 208 #[R (Z ⟨G,0,Y⟩) os.length c,R x.2.1 x.2.2.1 x.2.2.2] W λe w'=>M D W w'/\((¬Xm os t.2/\e=aC aK)\/(Xm os t.2/\∃v,e=aC v/\Jn E 3 w' v))):=λW G c os hT hr ho h3=>
  JeP E W.heap.size _ _ os t.2 (by omega) (by omega) (λo h=>(ho o h).1) (λo h=>(ht.outs o h).1) W (hE.tch hT noE) (Jr.of_row hr (Jb hr)) ((h2.tch hT noE).up hT.size)
 obtain⟨rv,Hv⟩:∃rv,Jm q=X rv:=⟨_,rfl⟩
 obtain⟨W,hW⟩:∃W,W=((w.alloc (T #[O I (wj:Int),X rv] 146)).alloc (T #[R x.1.1 x.1.2.1 x.1.2.2,R x.2.1 x.2.2.1 x.2.2.2] 98)).alloc (T #[O I 0,X Y] 146):=⟨_,rfl⟩
 have hA:M D w W:=by rw[hW];exact M.allocs3 _ _ _ _ _
 have gu:JaD W w.heap.size wj q x:=by rw[hW,Hv.symm];exact⟨JU _ _ _ _,JQ _ _ _ _,JE _ _ _ _⟩
 have qR:J (JI (dgW wj) st t=match Xd t.1 st with
  | .error e=>.error e
  | .ok (st1,os)=>match Jz (dgW wj (84::txB t)) 0 t.2 st1 with
   | .error e=>.error e
   | .ok st2=>if Xm os t.2 then .error .sum else .ok st2):=JfS (dgW wj) st t
 generalize JI (dgW wj) st t=AP at *;generalize dgW wj (84::txB t)=id at *;have HS:J (StAt (dgW wj) F W q st):=hs.next hA;have kF:J _:=gu;have jY:J _:=Hv;have HA:J _:=hA;have HW:J (W=_):=hW;obtain⟨⟨a0,a1⟩,⟨a2,a3⟩,⟨a4,a5⟩,fN,fR,hz⟩:=gu.cells rv Hv;obtain⟨⟨x1,x2,x3⟩,y1,y2,y3⟩:=x;dsimp only at yz sQ qi sR a2 a3 ⊢;unfold JA at sQ ⊢;rw[Hv]at sQ ⊢;clear hE hF h1 h2 hs Hb Hv hA gu ht hm hi3;go_enter func137,ntmps137;go_wp2_with fail;rw[<-HW.o];refine(yz.o _ HA.o).mono ?_;rintro _ w2⟨rfl,H7⟩;have b2:=kF.o.next H7;have jM:J _:=b2;have H4:J (M D w w2):=HA.o.go H7;have jL:J (StAt (dgW wj) F w2 q st):=HS.o.next H7;clear a0 a1 a2 a3 a4 a5 fN fR hz;obtain⟨⟨a0,a1⟩,⟨a2,a3⟩,⟨a4,a5⟩,fN,fR,hz⟩:=b2.cells rv jY.o;clear b2 H7 kF HA HS HW yz;go_wp2_with fail;refine(sQ.o _ H4.o).mono ?_;clear sQ;generalize Xd t.1 st=SP at *
 cases SP with
 | error er=>
  rintro _ w3⟨Hm,xx,v,rfl,hv,i8⟩;obtain⟨tv,uv,rfl⟩:=hv.iface;have b3:=jM.o.next Hm;have xj:J _:=b3;have H8:J (M D w w3):=H4.o.go Hm;have HV:J _:=hv;clear a0 a1 a2 a3 a4 a5 fN fR hz;obtain⟨⟨a0,a1⟩,⟨a2,a3⟩,⟨a4,a5⟩,fN,fR,hz⟩:=b3.cells rv jY.o;clear b3 Hm jM H4 hv qi sR jL;go_wp2;obtain⟨k1,k2,k3,k4,_⟩:=xj.o.both H8.o (Ql _) 0 Y Y rfl;obtain⟨p1,p2,p3,p4⟩:=XF k1.r k2 (by omega) (O I 0) (X Y);refine QK (v:=aI #[aH #[O I 0,X Y],aJ tv uv]) (Je results137 _ _ (w.heap.size+1+1) _ _ (0,0) _ rfl p1 underlying146 rfl (by kernel_rfl)) rfl ⟨p2,?_⟩;rw[qR.o];exact⟨0,Y,_,_,rfl,p4 _ _ _ (k4 _ _ _ HV.o)⟩
 | ok r=>
  obtain⟨st1,os⟩:=r;rintro _ w3⟨Hm,q1,G,gc,rfl,qq,jg,hg,ho,h3⟩;have b3:=jM.o.next Hm;have xj:J _:=b3;have H8:J (M D w w3):=H4.o.go Hm;have yf:J _:=qq;have dm:J _:=jg;have HG:J _:=hg;have HO:J ((∀o∈os,JC o)/\os.length<=3):=⟨ho,h3⟩
  clear a0 a1 a2 a3 a4 a5 fN fR hz;obtain⟨⟨a0,a1⟩,⟨a2,a3⟩,⟨a4,a5⟩,fN,fR,hz⟩:=b3.cells rv jY.o;clear b3 Hm jM H4 qq jg hg ho h3 jL;unfold JA;obtain⟨v1,jq⟩:∃v,Jm q1=X v:=⟨_,rfl⟩
  rw[jq];have zA:J _:=jq;clear jq;go_wp2_with fail;obtain⟨k1,k2,k3,k4,k5⟩:=xj.o.both H8.o (Ql _) wj q1 v1 zA.o;have sS:=k3 _ _ _ _ yf.o;have uS:=k5 _ _ HG.o;clear k3 k4 k5 a0 a1 a2 a3 a4 a5 fN fR hz;obtain⟨w4,qG⟩:∃w4,w4=((w3.setCell ⟨w.heap.size,0,Y⟩ (O I (wj:Int))).setCell ⟨w.heap.size,1,Y⟩ (X v1)):=⟨_,rfl⟩
  rw[<-qG]at k1 k2 sS uS ⊢;clear qG yf HG xj H8;have yg:=qi.o w4 q1 st1 k2 sS dm.o;unfold JA at yg;rw[zA.o]at yg;have pU:J _:=k1;have He:J _:=k2;have ni:J (w4.heap[G]? =Z (T (vvA (os.map encO)) 80)):=uS;refine yg.mono ?_;clear yg k1 k2 sS uS qi dm;have bK:J (AP=match Jz id 0 t.2 st1 with
   | .error e=>.error e
   | .ok st2=>if Xm os t.2 then .error .sum else .ok st2):=qR.o
  clear qR;generalize Jz id 0 t.2 st1=RC at *
  cases RC with
  | error er=>
   rintro _ w5⟨kI,v,rfl,hv,i8⟩;obtain⟨tv,uv,rfl⟩:=hv.iface;have b5:=pU.o.next kI;have ib:J _:=b5;have Hu:J (M D w w5):=He.o.go kI;have HV:J _:=hv;obtain⟨⟨a0,a1⟩,⟨a2,a3⟩,⟨a4,a5⟩,fN,fR,hz⟩:=b5.cells v1 zA.o;clear b5 kI pU He hv sR;go_wp2;obtain⟨k1,k2,k3,k4,_⟩:=ib.o.both Hu.o (Ql _) 0 Y Y rfl;obtain⟨p1,p2,p3,p4⟩:=XF k1.r k2 (by omega) (O I 0) (X Y);refine QK (v:=aI #[aH #[O I 0,X Y],aJ tv uv]) (Je results137 _ _ (w.heap.size+1+1) _ _ (0,0) _ rfl p1 underlying146 rfl (by kernel_rfl)) rfl ⟨p2,?_⟩;rw[bK.out];exact⟨0,Y,_,_,rfl,p4 _ _ _ (k4 _ _ _ HV.o)⟩
  | ok st2=>
   rintro _ w5⟨kI,q2,rfl,kO,kt⟩;have b5:=pU.o.next kI;have ib:J _:=b5;have Hu:J (M D w w5):=He.o.go kI;have yC:J _:=kO;have zD:J _:=kt;have ie:J (w5.heap[G]? =Z (T (vvA (os.map encO)) 80)):=(kI.block _ (Jb ni.out) (λh=>h)).trans ni.out;obtain⟨⟨a0,a1⟩,⟨a2,a3⟩,⟨a4,a5⟩,fN,fR,hz⟩:=b5.cells v1 zA.o;clear b5 kI pU He ni kO kt;unfold JA;obtain⟨v2,kW⟩:∃v,Jm q2=X v:=⟨_,rfl⟩
   rw[kW];have kz:J _:=kW;clear kW;go_wp2_with fail;obtain⟨k1,k2,k3,k4,k5⟩:=ib.o.both Hu.o (Ql _) wj q2 v2 kz.o;have dn:=k3 _ _ _ _ yC.o;have bL:=k5 _ _ ie.o;clear k3 k4 k5 a0 a1 a2 a3 a4 a5 fN fR hz;obtain⟨w6,sU⟩:∃w6,w6=((w5.setCell ⟨w.heap.size,0,Y⟩ (O I (wj:Int))).setCell ⟨w.heap.size,1,Y⟩ (X v2)):=⟨_,rfl⟩
   rw[<-sU]at k1 k2 dn bL ⊢;clear sU yC ie ib Hu;have nj:J _:=k1;have k8:J (∀k,M D w (w6.drewN k)):=λk=>k2.dr k;have HS6':J (StAt (dgW wj) F w6 q2 st2):=dn;obtain⟨⟨a0,a1⟩,⟨a2,a3⟩,⟨a4,a5⟩,fN,fR,hz⟩:=k1.cells v2 kz.o;have yg:J (aB N 208 #[R (Z ⟨G,0,Y⟩) os.length gc,R y1 y2 y3] (w6.drewN 1) λe w'=>∃ev,e=aC ev/\M D w6 w'/\((¬Xm os t.2/\ev=aK)\/(Xm os t.2/\Jn E 3 w' ev))):=(sR.o (w6.drewN 1) G gc os (k2.dr 1) bL HO.o.1 HO.o.2).mono λe w' h=>by
    obtain⟨h1,⟨h2,rfl⟩|⟨h2,v,rfl,h3⟩⟩:=h
    ·exact⟨_,rfl,(Td D w6 1).go h1,aM ⟨h2,rfl⟩⟩
    ·exact⟨_,rfl,(Td D w6 1).go h1,aN ⟨h2,h3⟩⟩
   clear k1 k2 dn bL sR;go_region_with (go_at_call 208;refine yg.o.mono ?_;rintro _ w7⟨ev,rfl,ko,uT⟩;have b7:=nj.o.next ko;have HB7:J _:=b7;have gG:J (M D w w7):=(k8.o 0).go ko;have ig:J (StAt (dgW wj) F w7 q2 st2):=HS6'.out.next ko;have HEV:J (_\/_):=uT;obtain⟨⟨c0,c1⟩,⟨c2,c3⟩,⟨c4,c5⟩,gN,gR,hz7⟩:=b7.cells v2 kz.o;clear b7 ko uT)
   all_goals
    go_wp2;obtain⟨p1,p2,p3,p4⟩:=XF HB7.o.r gG.o (by omega) (O I (wj:Int)) (X v2);refine QK (v:=aI #[aH #[O I (wj:Int),X v2],ev]) (Je results137 _ _ (w.heap.size+1+1) _ _ (0,0) _ rfl p1 underlying146 rfl (by kernel_rfl)) rfl ⟨p2,?_⟩;rw[bK.out]
    rcases HEV.o with⟨hb,rfl⟩|⟨hb,he⟩
    ·rw[if_neg hb];exact⟨q2,by rw[JA,kz.o],p3 _ _ _ _ ig.o,zD.o⟩
    ·rw[if_pos hb];obtain⟨tv,uv,rfl⟩:=he.iface;exact⟨wj,q2,tv,uv,by rw[JA,kz.o],p4 _ _ _ he⟩

theorem Jkn(fv:aG)(what:BA)(w:aA):aB N 135 #[L what,R Y 0 0,fv] w λe w'=>e=aC aK/\w=w':=by
 go_enter func135,ntmps135;go_wp2;go_loopw [12] (λi wr=>i=O I 0/\w=wr) (λi _=>0)
 case atStart=>exact⟨rfl,rfl⟩
 case round=>obtain⟨rfl,rfl⟩:=hrel;go_wp2;go_ret;exact⟨rfl,rfl⟩
structure JaE(w:aA)(aZ wj width':Nat)(q:Option Nat):Prop where
 i:w.heap[aZ]? =Z (T #[O I (wj:Int)] 3)
 s:w.heap[aZ+1]? =Z (T #[O I (width':Int),Jm q] 146)
theorem JaE.next{width':Nat}(h:JaE w aZ wj width' q)(k:M D w w'):JaE w' aZ wj width' q:=
 ⟨(k.block _ (Jb h.i) (λh=>h)).trans h.i,(k.block _ (Jb h.s) (λh=>h)).trans h.s⟩
theorem JaE.put{width0:Nat}(h:JaE W aZ wj width0 q)(hT:M D w W)(width':Nat)(q':Option Nat)(v':Option Addr)(hv:Jm q'=X v'):
  M (λk=>k=aZ+1) w ((W.setCell ⟨aZ+1,0,Y⟩ (O I (width':Int))).setCell ⟨aZ+1,1,Y⟩ (X v'))/\
  JaE ((W.setCell ⟨aZ+1,0,Y⟩ (O I (width':Int))).setCell ⟨aZ+1,1,Y⟩ (X v')) aZ wj width' q'/\
  (∀d F q' st',StAt d F W q' st'->StAt d F ((W.setCell ⟨aZ+1,0,Y⟩ (O I (width':Int))).setCell ⟨aZ+1,1,Y⟩ (X v')) q' st')/\∀E k v,Jn E k W v->Jn E k ((W.setCell ⟨aZ+1,0,Y⟩ (O I (width':Int))).setCell ⟨aZ+1,1,Y⟩ (X v')) v:=by
 rw[set2 W (aZ+1) _ _ _ _ _ h.s];have t1:=Ts W (aZ+1) #[O I (width':Int),X v'];refine⟨(hT.mono (S':=λk=>k=aZ+1) noE).trans t1 (λj hj=>aM hj),⟨(t1.block _ (Jb h.i) (by omega)).trans h.i,?_⟩,λd F q' st' hs=>hs.row h.s (by decide),λE k v he=>he.tch t1 ?_⟩
 ·rw[hv];exact Qi _ _ _ _ _ _ h.s
 ·rintro p s u hp rfl;rw[h.s]at hp
  injection hp with hp
  injection hp with _ h2
  exact absurd h2 (by decide)
def AyTo(E:Nat->Addr)(wj:Nat)(F:Nat->Prop)(aZ:Nat)(r:Except Er (Option Tr))(e:Ending)(w':aA):Prop:=match r with
 | .ok st'=>∃q',e=aC aK/\JaE w' aZ wj wj q'/\StAt (dgW wj) F w' q' st'/\StOk wj st'
 | .error er=>∃(u:Nat)(q':Option Nat)(t:TypeId)(v:aG),e=aC (aJ t v)/\JaE w' aZ wj u q'/\Jn E (erG er) w' (aJ t v)
theorem Jj7(E:Nat->Addr)(wj:Nat)(Hf:1<=wj)(hw:wj<=32)(F:Nat->Prop)(aZ:Nat)(q:Option Nat)(st:Option Tr)(i:Nat)(x:Sl×Sl)(t:TxL)(ht:TxOk wj t)(w:aA)(hE:Env E w)(hF:∀j,w.heap.size<=j->F j)(hB:JaE w aZ wj wj q)(h1:JG w.heap.size w (R x.1.1 x.1.2.1 x.1.2.2) t.1)(h2:Jr w.heap.size w (R x.2.1 x.2.2.1 x.2.2.2) t.2)(hs:StAt (dgW wj) F w q st)(Hb:StOk wj st):
  aB N 136 #[O I (i:Int),aH #[R x.1.1 x.1.2.1 x.1.2.2,R x.2.1 x.2.2.1 x.2.2.2],X (Z ⟨aZ,0,Y⟩),X (Z ⟨aZ+1,0,Y⟩)] w λe w'=>M (λk=>k=aZ+1) w w'/\AyTo E wj F aZ (JI (dgW wj) st t) e w':=by
 have HW:J (∀W,M D w W->aB N 137 #[O I (wj:Int),JA wj q,aH #[R x.1.1 x.1.2.1 x.1.2.2,R x.2.1 x.2.2.1 x.2.2.2]] W λe w'=>M D W w'/\ApTo E wj F (JI (dgW wj) st t) e w'):=λW hT=>
  JfT E wj Hf hw F q st x t ht W (hE.tch hT noE) (λj hj=>hF j (Qm hT.size hj)) ((h1.tch hT noE).up hT.size) ((h2.tch hT noE).up hT.size) (hs.next hT) Hb
 have kF:J _:=hB;obtain⟨rv,Hv⟩:∃rv,Jm q=X rv:=⟨_,rfl⟩
 have hNb:aZ+1<w.heap.size:=(Jb hB.s)
 have hNs:aZ<w.heap.size:=by omega
 have a0:w.cell? ⟨aZ+1,0,Y⟩=Z (O I (wj:Int)):=Ja hB.s;have a1:w.cell? ⟨aZ+1,1,Y⟩=Z (X rv):=by rw[<-Hv];exact Ja hB.s
 have a2:w.cell? ⟨aZ,0,Y⟩=Z (O I (wj:Int)):=Ja hB.i;have jY:J _:=Hv;unfold JA at HW;rw[Hv]at HW;generalize JI (dgW wj) st t=aW at *;clear hE hF hB hs Hb Hv ht h1 h2;obtain⟨⟨x1,x2,x3⟩,y1,y2,y3⟩:=x;dsimp only at HW ⊢;have Hz:J (∀k,M D w ((w.alloc (T #[R x1 x2 x3,R y1 y2 y3] 98)).drewN k)):=λk=>(Ta _ _ _).dr k;go_enter func136,ntmps136;go_wp2_with fail;refine(HW.o _ (Hz.o 0)).mono ?_;clear HW a0 a1 a2
 cases aW with
 | ok st'=>
  rintro _ w2⟨H7,q2,rfl,kO,kt⟩;have hT:M D w w2:=(Hz.o 0).go H7;have b2:=kF.o.next hT;have jM:J _:=b2;have c0:w2.cell? ⟨aZ+1,0,Y⟩=Z (O I (wj:Int)):=Ja b2.s;have c1:w2.cell? ⟨aZ+1,1,Y⟩=Z (X rv):=by rw[<-jY.o];exact Ja b2.s
  have fN:∀j,w2.frozen? ⟨aZ+1,j,Y⟩=false:=λj=>Qg _ _ _ _ _ b2.s;have HT:J _:=hT;have jL:J _:=kO;have zD:J _:=kt;clear hT H7 kO b2 Hz kt;unfold JA;obtain⟨v2,kW⟩:∃v,Jm q2=X v:=⟨_,rfl⟩
  rw[kW];have kz:J _:=kW;clear kW;go_wp2;go_ret;obtain⟨p1,p2,p3,_⟩:=jM.o.put HT.o wj q2 v2 kz.o;exact⟨p1,q2,rfl,p2,p3 _ _ _ _ jL.o,zD.o⟩
 | error er=>
  rintro _ w2⟨H7,u2,q2,t2,e2,rfl,hv⟩;have hT:M D w w2:=(Hz.o 0).go H7;have b2:=kF.o.next hT;have jM:J _:=b2;have c0:w2.cell? ⟨aZ+1,0,Y⟩=Z (O I (wj:Int)):=Ja b2.s;have c1:w2.cell? ⟨aZ+1,1,Y⟩=Z (X rv):=by rw[<-jY.o];exact Ja b2.s
  have fN:∀j,w2.frozen? ⟨aZ+1,j,Y⟩=false:=λj=>Qg _ _ _ _ _ b2.s;have HT:J _:=hT;have HV:J _:=hv;clear hT H7 b2 Hz hv;unfold JA;obtain⟨v2,kW⟩:∃v,Jm q2=X v:=⟨_,rfl⟩
  rw[kW];have kz:J _:=kW;clear kW;go_wp2;go_ret;obtain⟨p1,p2,_,p4⟩:=jM.o.put HT.o u2 q2 v2 kz.o;exact⟨p1,u2,q2,t2,e2,rfl,p2,p4 _ _ _ HV.o⟩
theorem JgJ(dg:List UInt8->BA)(ts:List TxL)(i:Nat)(h:i<ts.length)(st:Option Tr):JH dg st (ts.drop i)=match JI dg st ts[i] with
  | .error e=>.error e
  | .ok st1=>JH dg st1 (ts.drop (i+1)):=by
 rw[List.drop_eq_getElem_cons h];rfl
def TxIn(B:Nat)(w:aA)(l:List (Sl×Sl))(ts:List TxL):Prop:=l.length=ts.length/\∀(j:Nat) x t,l[j]? =Z x->ts[j]? =Z t->JG B w (R x.1.1 x.1.2.1 x.1.2.2) t.1/\Jr B w (R x.2.1 x.2.2.1 x.2.2.2) t.2
structure Jjs(wj:Nat)(F:Nat->Prop)(ts:List TxL)(aW:Except Er (Option Tr))(w0:aA)(aZ:Nat)(i:Nat)(w:aA)(q:Option Nat)(st:Option Tr):Prop where
 box:JaE w aZ wj wj q
 at_:StAt (dgW wj) F w q st
 ok:StOk wj st
 eq:JH (dgW wj) st (ts.drop i)=aW
 tch:M (λk=>k=aZ+1) w0 w
def Jo5(E:Nat->Addr)(wj:Nat)(aW:Except Er (Option Tr))(w0:aA)(aZ:Nat)(v:aG)(w:aA):Prop:=∃(er:Er)(u:Nat)(q:Option Nat),aW=.error er/\Jn E (erG er) w v/\JaE w aZ wj u q/\M (λk=>k=aZ+1) w0 w
theorem JgK(E:Nat->Addr)(wj:Nat)(Hf:1<=wj)(hw:wj<=32)(F:Nat->Prop)(l:List (Sl×Sl))(ts:List TxL)(qH:∀t∈ts,TxOk wj t)(aW:Except Er (Option Tr))(w0:aA)(hE:Env E w0)(hF:∀j,w0.heap.size<=j->F j)(aZ:Nat)(hN:18<=aZ)(hN0:aZ<=w0.heap.size)(ku:TxIn aZ w0 l ts)(g off:Nat)(hg:g<aZ)(hz:g<w0.heap.size)
 (hr:∀i (h:i<l.length),w0.cell? ⟨g,off+i*2,Y⟩=Z (R l[i].1.1 l[i].1.2.1 l[i].1.2.2)/\w0.cell? ⟨g,off+i*2+1,Y⟩=Z (R l[i].2.1 l[i].2.2.1 l[i].2.2.2)):
  JcW 136 #[X (Z ⟨aZ,0,Y⟩),X (Z ⟨aZ+1,0,Y⟩)] g off l.length (λi=>(l.map encT).getD i zT) (λi w=>∃q st,Jjs wj F ts aW w0 aZ i w q st) (Jo5 E wj aW w0 aZ):=by
 have hx:∀i (h:i<l.length),(l.map encT).getD i zT=encT l[i]:=λi h=>by simp[List.getD_eq_getElem?_getD,h]
 refine⟨λ_ _=>rfl,?_,?_,?_⟩
 ·rintro i w hi⟨q,st,aT⟩;rw[hx i hi];have hc:∀o,w.cell? ⟨g,o,Y⟩=w0.cell? ⟨g,o,Y⟩:=λo=>aT.tch.cell (p:=⟨g,o,Y⟩) hz (by show ¬g=aZ+1;omega);rw[hc,hc];exact hr i hi
 ·rintro i w o⟨q,st,aT⟩;have ha:=Ta D w o;exact⟨q,st,aT.box.next ha,aT.at_.next ha,aT.ok,aT.eq,aT.tch.go ha⟩
 ·rintro i w hi⟨q,st,aT⟩;rw[hx i hi];have xV:i<ts.length:=by rw[<-ku.1];exact hi
  obtain⟨k1,k2⟩:=ku.2 i l[i] ts[i] (Qd hi) (Qd xV);have hNw:aZ<=w.heap.size:=Qm hN0 aT.tch.size;refine(Jj7 E wj Hf hw F aZ q st i l[i] ts[i] (qH _ (Qx xV)) w (hE.tch aT.tch (λj hj=>by omega)) (λj hj=>hF j (Qm aT.tch.size hj)) aT.box ((k1.tch aT.tch (λj hj=>by omega)).up hNw) ((k2.tch aT.tch (λj hj=>by omega)).up hNw) aT.at_ aT.ok).mono ?_;rintro e w'⟨ht,hr⟩;have e1:=aT.eq;rw[JgJ (dgW wj) ts i xV]at e1;have hT:M (λk=>k=aZ+1) w0 w':=aT.tch.trans ht (λj hj=>aM hj)
  cases kG:JI (dgW wj) st ts[i] with
  | ok st'=>
   rw[kG]at hr e1;obtain⟨q',rfl,hb,hs,hk⟩:=hr;exact aM ⟨rfl,q',st',hb,hs,hk,e1,hT⟩
  | error er=>
   rw[kG]at hr e1;obtain⟨u,q',t',v',rfl,hb,hv⟩:=hr;exact aN ⟨t',v',rfl,er,u,q',e1.symm,hv,hb,hT⟩
theorem Je6(E:Nat->Addr)(wj:Nat)(Hf:1<=wj)(hw:wj<=32)(F:Nat->Prop)(q:Option Nat)(st:Option Tr)(v:aG)(l:List (Sl×Sl))(ts:List TxL)(qH:∀t∈ts,TxOk wj t)(h3:ts.length<=3)(w:aA)(hE:Env E w)(hF:∀j,w.heap.size<=j->F j)(hv:Xa w.heap.size w v l)(ku:TxIn w.heap.size w l ts)(hs:StAt (dgW wj) F w q st)(Hb:StOk wj st):
  aB N 81 #[O I (wj:Int),JA wj q,v] w λe w'=>M D w w'/\ApTo E wj F (JH (dgW wj) st ts) e w':=by
 obtain⟨rv,Hv⟩:∃rv,Jm q=X rv:=⟨_,rfl⟩
 obtain⟨W,hW⟩:∃W,W=((w.alloc (T #[O I (wj:Int)] 3)).alloc (T #[O I (wj:Int),X rv] 146)).alloc (T #[O I 0,X Y] 146):=⟨_,rfl⟩
 have hA:M D w W:=by rw[hW];exact M.allocs3 _ _ _ _ _
 have gu:JaE W w.heap.size wj wj q:=by rw[hW,Hv.symm];exact⟨JU _ _ _ _,JQ _ _ _ _⟩
 have xH:W.heap[w.heap.size+1+1]? =Z (T #[O I 0,X Y] 146):=by rw[hW];exact JE _ _ _ _
 generalize hR:JH (dgW wj) st ts=aW;have xh:=hE.tch hA noE;have vD:Jjs wj F ts aW W w.heap.size 0 W q st:=⟨gu,hs.next hA,Hb,hR,Te _ _⟩
 have bM:TxIn w.heap.size W l ts:=⟨ku.1,λj x t k1 k2=>⟨(ku.2 j x t k1 k2).1.tch hA noE,(ku.2 j x t k1 k2).2.tch hA noE⟩⟩
 have xI:J (∀what:BA,what.size<=1000->aB N 135 #[L what,v,.func (.func 136) #[] #[X (Z ⟨w.heap.size,0,Y⟩),X (Z ⟨w.heap.size+1,0,Y⟩)]] W λe w'=>ToE (λi w'=>∃q st,Jjs wj F ts aW W w.heap.size i w' q st) (Jo5 E wj aW W w.heap.size) l.length e w'):=λwhat kq=>by
  rcases hv with⟨rfl,rfl⟩|⟨gi,oi,c,rfl,h1,h2,vu⟩
  ·refine(Jkn _ _ _).mono ?_;rintro _ _⟨rfl,rfl⟩;exact aM ⟨rfl,q,st,vD⟩
  ·refine Jqp _ _ _ _ _ _ _ _ (λi hi=>?_) _ _ (JgK E wj Hf hw F l ts qH aW W xh (λj hj=>hF j (Qm hA.size hj)) w.heap.size hE.size hA.size bM gi oi h1 (Qk h2 hA.size) (λi hi=>?_)) (by rw[ku.1];exact h3) kq W ⟨q,st,vD⟩
   ·simp only[Qn,List.getElem?_map,Qd hi];exact⟨_,_,rfl⟩
   ·have hc:∀o,W.cell? ⟨gi,o,Y⟩=w.cell? ⟨gi,o,Y⟩:=λo=>hA.cell (p:=⟨gi,o,Y⟩) h2 (λh=>h);rw[hc,hc];exact vu i hi
 obtain⟨ia,ic,Hx⟩:=hv.shape;have jY:J _:=Hv;have xi:J _:=xH;have HA:J _:=hA;have vF:∀(fn:Fn)(first cap:Array aG)(w:aA),(Instr.makeFunc fn first cap).run N w=.ok (.func fn first cap) w:=λ_ _ _ _=>rfl;have HW:J (W=_):=hW;have qS:J (l.length=ts.length):=ku.1;subst Hx;unfold JA;rw[Hv];clear hE hF hv hs Hb Hv xH hA vD xh gu hW qH h3 hR ku bM;go_enter func81,ntmps81;go_wp2_with fail;rw[<-HW.o];refine(xI.o _ (by decide)).mono ?_;rintro e w2 (⟨rfl,q2,st2,aT⟩|⟨p,sx,vx,w1,rfl,hp,⟨er,u2,q2,hR,hv,hb,ht⟩,qQ⟩)
 ·have yB:=(Jb xi.o)
  have Hp:w2.heap[w.heap.size+1+1]? =Z (T #[O I 0,X Y] 146):=(aT.tch.block _ yB (by omega)).trans xi.o;obtain⟨v2,kW⟩:∃v,Jm q2=X v:=⟨_,rfl⟩
  have c0:w2.cell? ⟨w.heap.size+1,0,Y⟩=Z (O I (wj:Int)):=Ja aT.box.s;have c1:w2.cell? ⟨w.heap.size+1,1,Y⟩=Z (X v2):=by rw[<-kW];exact Ja aT.box.s
  have r0:w2.cell? ⟨w.heap.size+1+1,0,Y⟩=Z (O I 0):=Ja Hp;have r1:w2.cell? ⟨w.heap.size+1+1,1,Y⟩=Z (X Y):=Ja Hp;have fR:∀j,w2.frozen? ⟨w.heap.size+1+1,j,Y⟩=false:=λj=>Qg _ _ _ _ _ Hp;have gU:J _:=Hp;have HI:J (Jjs wj F ts aW W w.heap.size ts.length w2 q2 st2):=by rw[<-qS.o];exact aT
  have kz:J _:=kW;have jj:w.heap.size+1+1<w2.heap.size:=(Jb Hp)
  clear aT Hp kW xI yB;go_wp2;obtain⟨p1,p2,p3,_⟩:=XF gU.o ((HA.o.trans HI.o.tch (λj hj=>aN (by omega))):M D w w2) (by omega) (O I (wj:Int)) (X v2);refine QK (v:=aI #[aH #[O I (wj:Int),X v2],aK]) (Je results81 _ _ (w.heap.size+1+1) _ _ (0,0) _ rfl p1 underlying146 rfl (by kernel_rfl)) rfl ⟨p2,?_⟩;have e1:=HI.o.eq;rw[List.drop_length]at e1;rw[<-e1];exact⟨q2,by rw[JA,kz.o],p3 _ _ _ _ HI.o.at_,HI.o.ok⟩
 ·have yB:=(Jb xi.o)
  have kD:w1.heap[w.heap.size+1+1]? =Z (T #[O I 0,X Y] 146):=(ht.block _ yB (by omega)).trans xi.o;have gQ:=(Jb kD)
  have Hp:w2.heap[w.heap.size+1+1]? =Z (T #[O I 0,X Y] 146):=(qQ.block _ gQ).trans kD;obtain⟨v2,kW⟩:∃v,Jm q2=X v:=⟨_,rfl⟩
  have kO:w2.heap[w.heap.size+1]? =Z (T #[O I (u2:Int),Jm q2] 146):=(qQ.block _ (Jb hb.s)).trans hb.s;have jj:w.heap.size+1+1<w2.heap.size:=(Jb Hp)
  have c0:w2.cell? ⟨w.heap.size+1,0,Y⟩=Z (O I (u2:Int)):=Ja kO;have c1:w2.cell? ⟨w.heap.size+1,1,Y⟩=Z (X v2):=by rw[<-kW];exact Ja kO
  have r0:w2.cell? ⟨w.heap.size+1+1,0,Y⟩=Z (O I 0):=Ja Hp;have r1:w2.cell? ⟨w.heap.size+1+1,1,Y⟩=Z (X Y):=Ja Hp;have fR:∀j,w2.frozen? ⟨w.heap.size+1+1,j,Y⟩=false:=λj=>Qg _ _ _ _ _ Hp;have gU:J _:=Hp;have H4:J (M (λk=>k=w.heap.size+1) W w2):=ht.trans (M.of_below qQ) (λj hj=>aN (Qm ht.size hj));have HP:J (Jn E (erG er) w2 (aJ 235 (X (Z ⟨p,0,Y⟩)))):=.wrap p _ _ hp (hv.later qQ);have HR:J (aW=_):=hR;have kz:J _:=kW;clear kD Hp kO qQ ht hb hp hR xI yB gQ hv kW;go_wp2;obtain⟨p1,p2,p3,p4⟩:=XF gU.o ((HA.o.trans H4.o (λj hj=>aN (by omega))):M D w w2) (by omega) (O I (u2:Int)) (X v2);refine QK (v:=aI #[aH #[O I (u2:Int),X v2],aJ 235 (X (Z ⟨p,0,Y⟩))]) (Je results81 _ _ (w.heap.size+1+1) _ _ (0,0) _ rfl p1 underlying146 rfl (by kernel_rfl)) rfl ⟨p2,?_⟩;rw[HR.o];exact⟨u2,q2,_,_,by rw[JA,kz.o],p4 _ _ _ HP.o⟩

abbrev BV:=BA×Nat×Option Nat
def bV(b:BV):aG:=aH #[L b.1,O I (b.2.1:Int),Jm b.2.2]
def JT:Nat->List BV->List MapEntry
 | _,[]=>[]
 | i,b::r=>⟨O I (i:Int),bV b,i⟩ :: JT (i+1) r
theorem Jdh(bs:List BV):∀i,(JT i bs).length=bs.length:=by
 induction bs with
 | nil=>intro i;rfl
 | cons b r ih=>intro i;simp[JT,ih]
theorem Jdg(bs:List BV)(b:BV):∀i,JT i (bs++[b])=JT i bs++[⟨O I ((i+bs.length:Nat):Int),bV b,i+bs.length⟩]:=by
 induction bs with
 | nil=>intro i;simp[JT]
 | cons x r ih=>
  intro i;rw[List.cons_append,JT,ih (i+1),JT,List.cons_append,Qp];have e:i+1+r.length=i+(r.length+1):=by omega
  rw[e]
theorem Jau(bs:List BV):∀(i j:Nat)(k:Int),Instr.findNow (.int I) (O I k) (JT i bs) j=Z (if (i:Int)<=k then (bs[k.toNat-i]?).map λb=>(j+(k.toNat-i),bV b) else Y):=by
 induction bs with
 | nil=>intro i j k;simp[JT,Instr.findNow]
 | cons b r ih=>
  intro i j k;rw[JT,Instr.findNow]
  by_cases h:k=(i:Int)
  ·subst h;simp[Instr.sameNow]
  ·have h1:Instr.sameNow (.int I) (O I k) (O I (i:Int))=Z false:=(by simp[Instr.sameNow,h]);rw[h1];simp only;rw[ih (i+1) (j+1) k]
   by_cases h2:(i:Int)<=k
   ·rw[if_pos h2,if_pos (by omega)];have e1:k.toNat-i=(k.toNat-(i+1))+1:=(by omega);rw[e1,List.getElem?_cons_succ]
    congr 2
    funext x
    congr 1
    omega
   ·rw[if_neg h2,if_neg (by omega)]
theorem Jnw:prog.underlying 141=Z (.map 3 148):=underlying141
theorem JfN:prog.underlying 3=Z (.int .i64):=underlying3
theorem JjI{bs:List BV}(h:w.heap[r]? =Z (.map (JT 0 bs).toArray bs.length))(k:Nat)(b:BV)(hk:bs[k]? =Z b)(c:Bool):
  (lD 141 (.map (Z r)) (O I (k:Int)) c).run N w=.ok (if c then aI #[bV b,aL true] else bV b) w:=by
 have h1:=Jau bs 0 0 (k:Int);rw[if_pos (by omega)]at h1;simp only[Int.toNat_natCast,Nat.sub_zero,Nat.zero_add,hk,Option.map_some]at h1;simp[lD,run_underlying Jnw,Go.MapKept.run_getObj_map h,Go.MapKept.run_checkKey (d:=.int I) JfN (k:=O I (k:Int)) (by simp[Go.MapKept.IsKey]),Go.MapKept.run_findKey JfN h1,Result.andThen]
theorem Jmq{bs:List BV}(h:w.heap[r]? =Z (.map (JT 0 bs).toArray bs.length))(k:Int)(hk:¬(0<=k/\k<bs.length))(c:Bool):
  (lD 141 (.map (Z r)) (O I k) c).run N w=.ok (if c then aI #[bV (⟨#[]⟩,0,Y),aL false] else bV (⟨#[]⟩,0,Y)) w:=by
 have h1:=Jau bs 0 0 k;have h2:(if ((0:Nat):Int)<=k then (bs[k.toNat-0]?).map λb=>(0+(k.toNat-0),bV b) else Y)=Y:=by
  by_cases h0:(0:Int)<=k
  ·rw[if_pos (by omega),List.getElem?_eq_none (by omega)];rfl
  ·rw[if_neg (by omega)]
 rw[h2]at h1;simp[lD,run_underlying Jnw,Go.MapKept.run_getObj_map h,Go.MapKept.run_checkKey (d:=.int I) JfN (k:=O I k) (by simp[Go.MapKept.IsKey]),Go.MapKept.run_findKey JfN h1,Result.andThen];rfl
def _root_.Go.World.setBlocks(w:aA)(r:Nat)(bs:List BV):aA:={ w with heap:=w.heap.setIfInBounds r (.map (JT 0 bs).toArray bs.length) }
theorem Jd6{bs:List BV}(h:w.heap[r]? =Z (.map (JT 0 bs).toArray bs.length))(b:BV):
  (Instr.mapUpdate 141 (.map (Z r)) (O I (bs.length:Int)) (bV b)).run N w=.ok () (w.setBlocks r (bs++[b])):=by
 have h1:=Jau bs 0 0 (bs.length:Int);rw[if_pos (by omega)]at h1;simp only[Int.toNat_natCast,Nat.sub_zero,Nat.zero_add,show bs[bs.length]? =Y by simp,lE]at h1;simp[Instr.mapUpdate,run_underlying Jnw,Go.MapKept.run_getObj_map h,Go.MapKept.run_checkKey (d:=.int I) JfN (k:=O I (bs.length:Int)) (by simp[Go.MapKept.IsKey]),Go.MapKept.run_findKey JfN h1,Go.MapKept.run_setObj_map _ h,Result.andThen,World.setBlocks,Jdg]
theorem Ja4(h:w.heap[r]? =Z o)(bs:List BV):(w.setBlocks r bs).heap[r]? =Z (.map (JT 0 bs).toArray bs.length):=(Go.MapKept.heap_set h).1
theorem M.setBlocks(w:aA)(r:Nat)(bs:List BV):M (λk=>k=r) w (w.setBlocks r bs):=⟨rfl,rfl,rfl,by simp[World.setBlocks],λk _ hn=>by simp[World.setBlocks,Ne.symm hn]⟩
theorem JiF{bs:List BV}(h:w.heap[r]? =Z (.map (JT 0 bs).toArray bs.length)):(Builtin.len_ #[141] 3 #[.map (Z r)]).run N w=.ok (O I (bs.length:Int)) w:=by
 simp[Builtin.len_,Go.MapKept.run_getObj_map h,Jdh];rfl
theorem Jl.refine{G:Nat->Prop}{t:Tr}(h:Jl d F w n t)(hg:∀j,F j->(∃c,w.heap[j]? =Z (T c 243))->G j):Jl d G w n t:=by
 induction h with
 | leaf n k o hF hr=>exact .leaf n k o (hg n hF ⟨_,hr⟩) hr
 | br n b nl nr l r hF hr _ _ ihl ihr=>exact .br n b nl nr l r (hg n hF ⟨_,hr⟩) hr ihl ihr
theorem StAt.refine{G:Nat->Prop}{st:Option Tr}(h:StAt d F w q st)(hg:∀j,F j->(∃c,w.heap[j]? =Z (T c 243))->G j):StAt d G w q st:=by
 cases q<;>cases st<;>first|exact h|exact Jl.refine h hg
structure JR(w:aA)(cb:Nat)(wj fl r:Nat)(bs:List BV)(v:aG):Prop where
 row:w.heap[cb]? =Z (T #[O I (wj:Int),O I (fl:Int),.map (Z r),v] 143)
 map:w.heap[r]? =Z (.map (JT 0 bs).toArray bs.length)
theorem JR.next{bs:List BV}(h:JR w cb wj fl r bs v)(k:M D w w'):JR w' cb wj fl r bs v:=
 ⟨(k.block _ (Jb h.row) (λh=>h)).trans h.row,(k.block _ (Jb h.map) (λh=>h)).trans h.map⟩
theorem Jcn{bs:List BV}(h:JR w cb wj fl r bs v)(hb:bs.length<2 ^ 32):
  aB N 40 #[X (Z ⟨cb,0,Y⟩)] w λe w'=>e=aC (O I ((bs.length:Int)-1))/\w=w':=by
 have c2:w.cell? ⟨cb,2,Y⟩=Z (.map (Z r)):=Ja h.row;have Hl:=JiF h.map;clear h;generalize hn:bs.length=n at *;clear hn;go_enter func40,ntmps40;go_wp2;go_ret;exact⟨rfl,rfl⟩
theorem Jpc{bs:List BV}(h:JR w cb wj fl r bs v)(k:Nat)(b:BV)(hk:bs[k]? =Z b):
  aB N 74 #[X (Z ⟨cb,0,Y⟩),O I (k:Int)] w λe w'=>e=aC (aI #[bV b,aK])/\M D w w':=by
 obtain⟨bh,bu,bq⟩:=b;obtain⟨rv,Hv⟩:∃rv,Jm bq=X rv:=⟨_,rfl⟩
 obtain⟨W,hW⟩:∃W,W=w.alloc (T #[L ⟨#[]⟩,O I 0,X Y] 148):=⟨_,rfl⟩
 have hA:M D w W:=by rw[hW];exact Ta _ _ _
 have c2:W.cell? ⟨cb,2,Y⟩=Z (.map (Z r)):=Ja (h.next hA).row;have xJ:=JjI (h.next hA).map k (bh,bu,bq) hk true;have hZ:W.heap[w.heap.size]? =Z (T #[L ⟨#[]⟩,O I 0,X Y] 148):=by rw[hW];exact Qf _ _
 have r0:W.cell? ⟨w.heap.size,0,Y⟩=Z (L ⟨#[]⟩):=Ja hZ;have r1:W.cell? ⟨w.heap.size,1,Y⟩=Z (O I 0):=Ja hZ;have r2:W.cell? ⟨w.heap.size,2,Y⟩=Z (X Y):=Ja hZ;have fR:∀j,W.frozen? ⟨w.heap.size,j,Y⟩=false:=λj=>Qg _ _ _ _ _ hZ;have HW:J _:=hW;have HR:J _:=hZ;have HA:J _:=hA;have hz:w.heap.size<W.heap.size:=(Jb hZ)
 simp only[bV]at xJ ⊢;rw[Hv]at xJ ⊢;clear h hk hW hZ hA Hv;go_enter func74,ntmps74;go_upto_region 1 with fail;rw[<-HW.o];go_wp2;rw[set3 _ _ _ _ _ _ _ _ _ HR.o];have t1:=Ts W w.heap.size #[L bh,O I (bu:Int),X rv];have hr:(W.setRow w.heap.size #[L bh,O I (bu:Int),X rv]).heap[w.heap.size]? =Z (T #[L bh,O I (bu:Int),X rv] 148):=Qi _ _ _ _ _ _ HR.o;have t2:=Ta D (W.setRow w.heap.size #[L bh,O I (bu:Int),X rv]) (T #[L bh,O I (bu:Int),X rv] 148);refine QK (v:=aI #[aH #[L bh,O I (bu:Int),X rv],aK]) (Je results74 _ _ w.heap.size _ _ (0,0) _ rfl ((t2.block _ (Jb hr) (λh=>h)).trans hr) underlying148 rfl (by kernel_rfl)) rfl ⟨rfl,?_⟩;exact(HA.o.trans t1 (λj hj=>aN (by omega))).go t2
theorem JlJ(E:Nat->Addr)(hE:Env E w){bs:List BV}(h:JR w cb wj fl r bs v)(k:Int)(hk:¬(0<=k/\k<bs.length)):
  aB N 74 #[X (Z ⟨cb,0,Y⟩),O I k] w λe w'=>∃t u,e=aC (aI #[bV (⟨#[]⟩,0,Y),aJ t u])/\Jn E 5 w' (aJ t u)/\M D w w':=by
 obtain⟨W,hW⟩:∃W,W=w.alloc (T #[L ⟨#[]⟩,O I 0,X Y] 148):=⟨_,rfl⟩
 have hA:M D w W:=by rw[hW];exact Ta _ _ _
 have c2:W.cell? ⟨cb,2,Y⟩=Z (.map (Z r)):=Ja (h.next hA).row;have xJ:=Jmq (h.next hA).map k hk true;have hrg:=(hE.tch hA noE).range;have Hi:=(hE.tch hA noE).size;have hZ:W.heap[w.heap.size]? =Z (T #[L ⟨#[]⟩,O I 0,X Y] 148):=by rw[hW];exact Qf _ _
 have r0:W.cell? ⟨w.heap.size,0,Y⟩=Z (L ⟨#[]⟩):=Ja hZ;have r1:W.cell? ⟨w.heap.size,1,Y⟩=Z (O I 0):=Ja hZ;have r2:W.cell? ⟨w.heap.size,2,Y⟩=Z (X Y):=Ja hZ;have fR:∀j,W.frozen? ⟨w.heap.size,j,Y⟩=false:=λj=>Qg _ _ _ _ _ hZ;have HW:J _:=hW;have HR:J _:=hZ;have HA:J _:=hA;have hz:w.heap.size<W.heap.size:=(Jb hZ)
 simp only[bV,Jm,lE]at xJ ⊢;clear h hk hW hZ hA hE;have hGs:5<W.heap.size:=Qk (by decide) Hi;clear Hi;go_enter func74,ntmps74;go_upto_region 1 with fail;rw[<-HW.o];go_wp2_with fail;refine(Xk _ _ _ _).mono ?_;rintro _ _⟨rfl,rfl⟩;go_wp2;rw[set3 _ _ _ _ _ _ _ _ _ HR.o];have t1:=Ts W w.heap.size #[L ⟨#[]⟩,O I 0,X Y];have hr:(W.setRow w.heap.size #[L ⟨#[]⟩,O I 0,X Y]).heap[w.heap.size]? =Z (T #[L ⟨#[]⟩,O I 0,X Y] 148):=Qi _ _ _ _ _ _ HR.o;have bN:(W.setRow w.heap.size #[L ⟨#[]⟩,O I 0,X Y]).heap.size=W.heap.size:=by simp[World.setRow]
 generalize W.setRow w.heap.size #[L ⟨#[]⟩,O I 0,X Y]=W1 at *;have t2:=(Ta D W1 (T #[L ⟨#[]⟩,O I 0,X Y] 148))
 have t3:=Ta D (W1.alloc (T #[L ⟨#[]⟩,O I 0,X Y] 148)) (T #[L ⟨#[104,101,105,103,104,116]⟩,eV E 5] 237);refine QK (v:=aI #[aH #[L ⟨#[]⟩,O I 0,X Y],aJ 235 (X (Z ⟨W.heap.size+1,0,Y⟩))]) (Je results74 _ _ w.heap.size _ _ (0,0) _ rfl (((t2.go t3).block _ (Jb hr) (λh=>h)).trans hr) underlying148 rfl (by kernel_rfl)) rfl ⟨_,_,rfl,?_,?_⟩
 ·refine .wrap (W.heap.size+1) ⟨#[104,101,105,103,104,116]⟩ (eV E 5) ?_ .base;have:=Qf (W1.alloc (T #[L ⟨#[]⟩,O I 0,X Y] 148)) (T #[L ⟨#[104,101,105,103,104,116]⟩,eV E 5] 237);rw[World.size_alloc,bN]at this;exact this
 ·exact((HA.o.trans t1 (λj hj=>aN (by omega))).go t2).go t3
theorem JfX(E:Nat->Addr)(hE:Env E w){bs:List BV}(h:JR w cb wj fl r bs v)(k:Int):
  aB N 41 #[X (Z ⟨cb,0,Y⟩),O I k] w λe w'=>M D w w'/\((∃n b,k=(n:Nat)/\bs[n]? =Z b/\e=aC (aI #[L b.1,aK]))\/(¬(0<=k/\k<bs.length)/\∃t u,e=aC (aI #[L ⟨#[]⟩,aJ t u])/\Jn E 5 w' (aJ t u))):=by
 by_cases hk:0<=k/\k<bs.length
 ·obtain⟨n,rfl⟩:=Int.eq_ofNat_of_zero_le hk.1;have hb:bs[n]? =Z bs[n]:=Qd (by omega);have qr:J (aB _ _ _ _ _):=Jpc h n _ hb;have HB:J _:=hb;generalize bs[n]=b at *;obtain⟨bh,bu,bq⟩:=b;simp only[bV]at qr;obtain⟨rv,Hv⟩:∃rv,Jm bq=X rv:=⟨_,rfl⟩
  rw[Hv]at qr;clear hk hb hE h Hv;go_enter func41,ntmps41;go_wp2_with fail;refine qr.o.mono ?_;rintro _ w2⟨rfl,ht⟩;have HT:J _:=ht;clear ht qr;go_wp2;go_ret2;exact⟨HT.o.go (Ta _ _ _),aM ⟨n,(bh,bu,bq),rfl,HB.o,rfl⟩⟩
 ·have qr:J (aB _ _ _ _ _):=JlJ E hE h k hk;have HK:J _:=hk;simp only[bV,Jm,lE]at qr;clear hk hE h;go_enter func41,ntmps41;go_wp2_with fail;refine qr.o.mono ?_;rintro _ w2⟨t,u,rfl,he,ht⟩;have HT:J _:=ht;have HV:J _:=he;clear ht qr he;go_wp2;go_ret2;exact⟨HT.o.go (Ta _ _ _),aN ⟨HK.o,t,u,rfl,HV.o.tch (Ta D _ _) (λ_ _ _ _ h=>h)⟩⟩

def ChS(cb wj r:Nat)(k:Int)(b:aG)(W:aA):Prop:=W.cell? ⟨cb,0,Y⟩=Z (O I (wj:Int))/\W.cell? ⟨cb,2,Y⟩=Z (.map (Z r))/\(lD 141 (.map (Z r)) (O I k) false).run N W=.ok b W
theorem JR.reads{bs:List BV}(h:JR w cb wj fl r bs v)(k:Nat)(b:BV)(hb:bs[k]? =Z b):ChS cb wj r (k:Int) (bV b) w:=
 ⟨Ja h.row,Ja h.row,JjI h.map k b hb false⟩
structure Jlu(s:BA):Prop where
 le:s.size<=2000000
theorem JgI(a:List UInt8)(d:BA)(h:d.size<=1000000)(ha:a.length<=100):∃s:BA,s.size<=1000100/\s.data.toList=a++d.data.toList/\∀W,(Op.stringOp .add (⟨a.toArray⟩:BA) d).run N W=.ok (L s) W:=by
 have:=Jdr a d.data.toList (by simpa using h) ha;simpa using this
theorem Jhq(E:Nat->Addr)(hE:Env E w)(Hf:1<=wj)(hw:wj<=32){bs:List BV}(h:JR w cb wj fl r bs v)(m:Nat)(hm:bs.length=m+1)(kn:m<2 ^ 31)(b:BV)(hb:bs[m]? =Z b)(kU:b.1.size<=1000)(body:BA)(hbo:body.size<=1000000):
  aB N 82 #[X (Z ⟨cb,0,Y⟩),L body] w λe w'=>e=aC (aH #[O aD ((m+1:Nat):Int),L (dgW wj (72::b.1.data.toList)),L (dgW wj (66::body.data.toList)),L ⟨#[]⟩])/\M D w w':=by
 obtain⟨bh,bu,bq⟩:=b;obtain⟨rv,Hv⟩:∃rv,Jm bq=X rv:=⟨_,rfl⟩
 obtain⟨W,hW⟩:∃W,W=w.alloc (T #[O aD 0,L ⟨#[]⟩,L ⟨#[]⟩,L ⟨#[]⟩] 167):=⟨_,rfl⟩
 have hA:M D w W:=by rw[hW];exact Ta _ _ _
 have jx:J (aB N 40 #[X (Z ⟨cb,0,Y⟩)] W λe w'=>e=aC (O I (m:Int))/\W=w'):=(Jcn (h.next hA) (by omega)).mono λe w' k=>⟨by rw[k.1,hm];congr 2;omega,k.2⟩
 have gC:J (∀W',M D w W'->ChS cb wj r (m:Int) (aH #[L bh,O I (bu:Int),X rv]) W'):=λW' hT=>by
  have:=(h.next hT).reads m _ hb;simp only[bV,Hv]at this;exact this
 have hZ:W.heap[w.heap.size]? =Z (T #[O aD 0,L ⟨#[]⟩,L ⟨#[]⟩,L ⟨#[]⟩] 167):=by rw[hW];exact Qf _ _
 have HW:J _:=hW;have HA:J (∀k,M D w (W.drewN k)):=λk=>hA.dr k;have kp:J (∀W',M D W W'->W'.heap[w.heap.size]? =Z (T #[O aD 0,L ⟨#[]⟩,L ⟨#[]⟩,L ⟨#[]⟩] 167)):=λW' hT=>(hT.block _ (Jb hZ) (λh=>h)).trans hZ;obtain⟨c0,c2,xJ⟩:=gC.o W.drew (hA.dr 1);have yD:cb<w.heap.size:=(Jb h.row)
 have hbs':bh.size<=1000:=kU;obtain⟨s1,qq,yh,pV⟩:=JgI [72] bh (by omega) (by decide);obtain⟨s2,kO,qj,pW⟩:=JgI [66] body (by omega) (by decide);have hadd1':∀W,(Op.stringOp .add (⟨#[72]⟩:BA) bh).run N W=.ok (L s1) W:=pV;have hadd2':∀W,(Op.stringOp .add (⟨#[66]⟩:BA) body).run N W=.ok (L s2) W:=pW;clear pV pW;have dt:∀W,(Instr.field 148 (aH #[L bh,O I (bu:Int),X rv]) 0).run N W=.ok (L bh) W:=λW=>by kernel_rfl
 have ii:IntKind.u64.wrap (m:Int)=(m:Int):=JK _ (by omega) (by omega);have hwm1:IntKind.u64.wrap ((m:Int)+1)=(m:Int)+1:=JK _ (by omega) (by omega);have xW:J (∀(s:BA) W',M D w W'->Jlu s->aB N 130 #[O I (wj:Int),L s] W' λe w'=>e=aC (L (dgW wj s.data.toList))/\M D W' w'):=λs W' hT hs=>JaX E wj s W' (hE.tch hT noE) Hf hw (by have:=hs.le;omega);have K1:Jlu s1:=⟨by omega⟩
 have K2:Jlu s2:=⟨by omega⟩
 have HD:J (s1.data.toList=72::bh.data.toList/\s2.data.toList=66::body.data.toList):=⟨yh,qj⟩
 dsimp only;clear hE h hb kU hbo Hv hW hZ hA hbs' qq kO yh qj;have rM:(m:Int)<9223372036854775807:=by omega
 have pX:(0:Int)<=m:=by omega
 go_enter func82,ntmps82;go_wp2_with fail;rw[<-HW.o];refine jx.o.mono ?_;rintro _ _⟨rfl,rfl⟩;go_wp2_with fail;have tok1:True:=trivial;go_region_held3 (λW=>W.cell? ⟨cb,0,Y⟩=Z (O I (wj:Int))/\W.cell? ⟨cb,2,Y⟩=Z (.map (Z r))/\(lD 141 (.map (Z r)) (O I (m:Int)) false).run N W=.ok (aH #[L bh,O I (bu:Int),X rv]) W) (go_keep) ((first|(go_at_call 130;have _t:=tok1;refine(xW.o _ _ (HA.o 1) (by assumption)).mono ?_;rintro _ w2⟨rfl,H7⟩;have jr:M D W w2:=(Td D W 1).go H7;have np:M D w w2:=(HA.o 1).go H7;obtain⟨d0,d2,hlk2⟩:=gC.o w2 np;have H4:J (M D W w2/\M D w w2):=⟨jr,np⟩;clear jr np H7 tok1)|(go_at_call 130;refine(xW.o _ _ H4.o.2 (by assumption)).mono ?_;rintro _ w3⟨rfl,Hm⟩;have zg:M D W w3:=H4.o.1.go Hm;have rN:M D w w3:=H4.o.2.go Hm;obtain⟨e0,e2,hlk3⟩:=gC.o w3 rN;have H8:J (M D W w3/\M D w w3):=⟨zg,rN⟩;have kP:=kp.o w3 zg;have q0:w3.cell? ⟨w.heap.size,0,Y⟩=Z (O aD 0):=Ja kP;have q1:w3.cell? ⟨w.heap.size,1,Y⟩=Z (L ⟨#[]⟩):=Ja kP;have q2:w3.cell? ⟨w.heap.size,2,Y⟩=Z (L ⟨#[]⟩):=Ja kP;have q3:w3.cell? ⟨w.heap.size,3,Y⟩=Z (L ⟨#[]⟩):=Ja kP;have fq:∀j,w3.frozen? ⟨w.heap.size,j,Y⟩=false:=λj=>Qg _ _ _ _ _ kP;have kY:J _:=kP;have kE:=gC.o ((((w3.setCell ⟨w.heap.size,0,Y⟩ (O aD ((m:Int)+1))).setCell ⟨w.heap.size,1,Y⟩ (L (dgW wj s1.data.toList))).setCell ⟨w.heap.size,2,Y⟩ (L (dgW wj s2.data.toList))).setCell ⟨w.heap.size,3,Y⟩ (L ⟨#[]⟩)) (by rw[set4 _ _ _ _ _ _ _ _ _ _ _ kP];exact rN.trans (Ts _ _ _) (λj hj=>aN (by omega)));obtain⟨g0,g2,vH⟩:=kE;clear kP;clear zg rN Hm)))
 all_goals
  go_wp2;rw[set4 _ _ _ _ _ _ _ _ _ _ _ kY.o];refine QK (v:=aH #[O aD ((m:Int)+1),L (dgW wj s1.data.toList),L (dgW wj s2.data.toList),L ⟨#[]⟩]) (Qq results82 _ _ w.heap.size _ _ (0,0) _ rfl (Qi _ _ _ _ _ _ kY.o) underlying167 rfl (by kernel_rfl)) rfl ⟨?_,?_⟩
  ·rw[HD.o.1,HD.o.2];rfl
  ·exact H8.o.2.trans (Ts _ _ _) (λj hj=>aN (by omega))

def Zz(E:Nat->Addr)(wj:Nat)(F:Nat->Prop)(r:Except Er (Option Tr))(u:Nat)(rv:Option Addr)(ev:aG)(w':aA):Prop:=match r with
 | .ok st'=>∃q',u=wj/\Jm q'=X rv/\ev=aK/\StAt (dgW wj) F w' q' st'/\StOk wj st'
 | .error er=>∃t v,ev=aJ t v/\Jn E (erG er) w' (aJ t v)
theorem ApTo.res{r:Except Er (Option Tr)}{e:Ending}(h:ApTo E wj F r e w'):∃(u:Nat)(rv:Option Addr)(ev:aG),e=aC (aI #[aH #[O I (u:Int),X rv],ev])/\Zz E wj F r u rv ev w':=by
 cases r with
 | ok st'=>
  obtain⟨q',rfl,h1,h2⟩:=h;exact⟨wj,_,aK,rfl,q',rfl,rfl,rfl,h1,h2⟩
 | error er=>
  obtain⟨u,q',t,v,rfl,h1⟩:=h;exact⟨u,_,aJ t v,rfl,t,v,rfl,h1⟩
theorem Zz.kept{r:Except Er (Option Tr)}{u:Nat}{rv:Option Addr}{ev:aG}(h:Zz E wj F r u rv ev w)(h1:∀q st,StAt (dgW wj) F w q st->StAt (dgW wj) F w' q st)(h2:∀k v,Jn E k w v->Jn E k w' v):Zz E wj F r u rv ev w':=by
 cases r with
 | ok st'=>obtain⟨q',a,b,c,d,e⟩:=h;exact⟨q',a,b,c,h1 _ _ d,e⟩
 | error er=>obtain⟨t,v,a,b⟩:=h;exact⟨t,v,a,h2 _ _ b⟩
theorem Jn.next(h:Jn E k w v)(ht:M D w w'):Jn E k w' v:=h.tch ht (λ_ _ _ _ h=>h)
theorem Jmb{h:HdL}(hh:HdOk wj h):JaL (ZK wj h (Z (.wr []))).2=Z (Hn h):=by
 have h1:=(JiZ wj h h hh).wr [];rw[(JbL wj h _ _ _ h1).1];rfl
theorem Xa.up{B':Nat}{l:List (Sl×Sl)}(h:Xa B w v l)(hb:B<=B'):Xa B' w v l:=by
 rcases h with h|⟨gi,oi,c,h1,h2,h3⟩
 ·exact aM h
 ·exact aN ⟨gi,oi,c,h1,by omega,h3⟩
theorem Jp5(wj:Nat)(hw:wj<=32)(t:TxL)(h:TxOk wj t):(txB t).length<=200:=by
 have hc:∀(l:List (BA×Int)),(∀c∈l,Ji wj c)->(l.flatMap Jc).length=l.length*(wj+1):=by
  intro l
  induction l with
  | nil=>intro _;simp
  | cons x r ih=>
   intro hl;rw[QG,Qe,Qp,Nat.succ_mul,Xg (hl x QN),ih (λy hy=>hl y (QQ _ hy))];omega
 have ho:∀(l:List (Nat×Nat)),(l.flatMap outB).length=l.length*9:=by
  intro l
  induction l with
  | nil=>simp
  | cons x r ih=>
   rw[QG,Qe,Qp,Nat.succ_mul,ih];have:(outB x).length=9:=(by unfold outB;rw[Qe,Jf,Jf]);omega
 unfold txB JdW Jy;simp only[Qe,Jf,hc t.1 h.coins,ho t.2];have h1:=h.ins;have h2:=h.made;have:t.1.length*(wj+1)<=3*33:=Nat.mul_le_mul h1 (by omega);omega
theorem JgN(wj:Nat)(hw:wj<=32)(ts:List TxL)(h:∀t∈ts,TxOk wj t)(h3:ts.length<=3):(JL ts).length<=1000:=by
 have:∀(l:List TxL),(∀t∈l,TxOk wj t)->(l.flatMap txB).length<=l.length*200:=by
  intro l
  induction l with
  | nil=>intro _;simp
  | cons x r ih=>
   intro hl;have a:=Jp5 wj hw x (hl x QN);have b:=ih (λy hy=>hl y (QQ _ hy));rw[QG,Qe,Qp,Nat.succ_mul];omega
 have:=this ts h;unfold JL;rw[Qe,Jf];omega
def Jpo(E:Nat->Addr)(r:Except Er (List UInt8))(e:Ending)(w':aA):Prop:=match r with
 | .ok b=>e=aC (aI #[L ⟨b.toArray⟩,aK])
 | .error er=>∃t u,e=aC (aI #[L ⟨#[]⟩,aJ t u])/\Jn E (erG er) w' (aJ t u)
theorem Jir(E:Nat->Addr)(hE:Env E w)(Hf:1<=wj)(hw:wj<=32){bs:List BV}{lv:aG}(h:JR w cb wj fl r bs lv)(m:Nat)(hm:bs.length=m+1)(kn:m<2 ^ 31)(bh:BA)(q:Option Nat)(st:Option Tr)(hb:bs[m]? =Z (bh,wj,q))(kU:bh.size<=1000)(F:Nat->Prop)(hF:∀j,w.heap.size<=j->F j)(hs:StAt (dgW wj) F w q st)(Hb:StOk wj st)(v:aG)(l:List (Sl×Sl))(ts:List TxL)(qH:∀t∈ts,TxOk wj t)(h3:ts.length<=3)(hv:Xa w.heap.size w v l)(ku:TxIn w.heap.size w l ts):
  aB N 45 #[X (Z ⟨cb,0,Y⟩),v] w λe w'=>M D w w'/\Jpo E (match JH (dgW wj) st ts with | .error e=>.error e | .ok st'=>.ok (Hn (m+1,dgW wj (72::bh.data.toList),dgW wj (66::JL ts),Xh (dgW wj) st')++JL ts)) e w':=by
 have Hi:=hE.size;obtain⟨rv,Hv⟩:∃rv,Jm q=X rv:=⟨_,rfl⟩
 have HE:J (Env E w):=hE;have jx:J (∀W,M D w W->aB N 40 #[X (Z ⟨cb,0,Y⟩)] W λe w'=>e=aC (O I (m:Int))/\W=w'):=λW hT=>(Jcn (h.next hT) (by omega)).mono λe w' k=>⟨by rw[k.1,hm];congr 2;omega,k.2⟩
 have gC:J (∀W',M D w W'->ChS cb wj r (m:Int) (aH #[L bh,O I (wj:Int),X rv]) W'):=λW' hT=>by
  have:=(h.next hT).reads m _ hb;simp only[bV,Hv]at this;exact this
 have yi:J (∀W,M D w W->Jd W w.heap.size Y (wj:Int) aK (.wr [])->aB N 78 #[X (Z ⟨w.heap.size,0,Y⟩),v] W λe w'=>ToB E W w.heap.size Y wj (Z (ts,.wr (JL ts))) e w'):=λW hT hp=>by
  have hr:=(JjT wj ts qH h3).wr [];rw[List.nil_append]at hr;have:=JdE E w.heap.size Hi Y wj hw v l ts (.wr []) W (hE.tch hT noE) hp (hv.tch hT noE) ku.1 (by omega) (XS _ _) (λj x t h1 h2=>by
   obtain⟨k1,k2⟩:=ku.2 j x t h1 h2;have ht:=qH t (QT h2);have e1:=ht.ins;have e2:=ht.made;exact⟨k1.tch hT noE,k2.tch hT noE,by omega,by omega,XS _ _,XS _ _,λo ho=>(ht.outs o ho).2⟩) (by show 0<=_;omega)
  rw[hr]at this;exact this
 have qR:J (∀W,M D w W->aB N 81 #[O I (wj:Int),aH #[O I (wj:Int),X rv],v] W λe w'=>∃(u:Nat)(rv:Option Addr)(ev:aG),e=aC (aI #[aH #[O I (u:Int),X rv],ev])/\Zz E wj F (JH (dgW wj) st ts) u rv ev w'/\M D W w'):=λW hT=>by
  have:=Je6 E wj Hf hw F q st v l ts qH h3 W (hE.tch hT noE) (λj hj=>hF j (Qm hT.size hj)) ((hv.tch hT noE).up hT.size) ⟨ku.1,λj x t h1 h2=>⟨((ku.2 j x t h1 h2).1.tch hT noE).up hT.size,((ku.2 j x t h1 h2).2.tch hT noE).up hT.size⟩⟩ (hs.next hT) Hb;unfold JA at this;rw[Hv]at this;refine this.mono λe w' h=>?_;obtain⟨u,rv',ev,h1,h2⟩:=h.2.res;exact⟨u,rv',ev,h1,h2,h.1⟩
 have yj:J (∀W,M D w W->aB N 82 #[X (Z ⟨cb,0,Y⟩),L ⟨(JL ts).toArray⟩] W λe w'=>e=aC (aH #[O aD ((m+1:Nat):Int),L (dgW wj (72::bh.data.toList)),L (dgW wj (66::JL ts)),L ⟨#[]⟩])/\M D W w'):=λW hT=>Jhq E (hE.tch hT noE) Hf hw (h.next hT) m hm kn _ hb kU ⟨(JL ts).toArray⟩ (by have:=JgN wj hw ts qH h3;show (JL ts).toArray.size<=_;simp;omega);have gd:J (∀W q1 st1,M D w W->StAt (dgW wj) F W q1 st1->aB N 83 #[JA wj q1] W λe w'=>e=aC (L (Xh (dgW wj) st1))/\M D W w'):=λW q1 st1 hT k=>ZN E wj Hf hw F q1 st1 W (hE.tch hT noE) k;have rO:J (∀W st1,M D w W->aB N 84 #[O I (wj:Int),aH #[O aD ((m+1:Nat):Int),L (dgW wj (72::bh.data.toList)),L (dgW wj (66::JL ts)),L (Xh (dgW wj) st1)]] W λe w'=>e=aC (aI #[L ⟨(Hn (m+1,dgW wj (72::bh.data.toList),dgW wj (66::JL ts),Xh (dgW wj) st1)).toArray⟩,aK])/\M D W w'):=λW st1 hT=>by
  have:=JaG E wj (by omega) (m+1) (dgW wj (72::bh.data.toList)) (dgW wj (66::JL ts)) (Xh (dgW wj) st1) W (hE.tch hT noE);refine this.mono λe w' k=>?_;obtain⟨k1,k2⟩:=k;rw[Jmb ⟨by show m+1<2 ^ 32;omega,Jj wj hw _,Jj wj hw _,Xw _ wj (Jj wj hw) st1⟩]at k2;exact⟨k2,k1⟩
 have gD:J ((JL ts).length<=1000):=JgN wj hw ts qH h3;have HHL:J (∀st1,(Hn (m+1,dgW wj (72::bh.data.toList),dgW wj (66::JL ts),Xh (dgW wj) st1)).length<=100):=λst1=>by
  have sz:∀x:BA,x.data.toList.length=x.size:=λx=>by simp only[QA];rfl
  unfold Hn;simp only[Qe,Jf,sz,Jj wj hw,Xw (dgW wj) wj (Jj wj hw)];omega
 obtain⟨c0,c2,xJ⟩:=gC.o w (Te _ _);obtain⟨ia,ic,Hx⟩:=hv.shape;generalize hAT:JH (dgW wj) st ts=AT at *;generalize dgW wj (72::bh.data.toList)=sa at *;generalize dgW wj (66::JL ts)=sb at *;have dt:∀W,(Instr.field 148 (aH #[L bh,O I (wj:Int),X rv]) 1).run N W=.ok (aH #[O I (wj:Int),X rv]) W:=λW=>by kernel_rfl
 clear hE h hb kU hF hs Hb qH h3 hv ku Hv hAT;subst Hx;go_enter func45,ntmps45;go_wp2_with fail;refine(JY _ _).mono ?_;rintro _ w1⟨rfl,Hs,H6⟩;have H3:J (M D w w1):=H6;have Hq:J (Jd w1 w.heap.size Y (wj:Int) aK (.wr [])):=Hs;clear H6 Hs c0 c2 xJ;obtain⟨c0,c2,xJ⟩:=gC.o w1 H3.o;go_wp2_with fail;refine(yi.o w1 H3.o Hq.o).mono ?_;rintro _ w2⟨x2,g2,rfl,kJ,nq,H7,_⟩;have Hw:J (Jg E w2 w.heap.size g2 wj (Z (.wr (JL ts)))):=kJ;have H4:J (M D w w2):=XD (b:=w.heap.size) (Ql _) H3.o H7;clear kJ H7 c0 c2 xJ Hq H3 nq yi;obtain⟨c0,c2,xJ⟩:=gC.o w2 H4.o;go_wp2_with fail;refine(Jap E w.heap.size g2 wj (Z (.wr (JL ts))) (λp hp=>⟨_,(Option.some.inj hp).symm⟩) w2 Hw.o).mono ?_;rintro _ w3⟨Hm,rfl⟩;have H8:J (M D w w3):=H4.o.go Hm;have uU:J (M D w w3.drew):=H8.o.dr 1;clear Hm Hw H4 c0 c2 xJ;have uV:J (M D w (w3.alloc (T #[O I 0,X Y] 146)).drew):=(H8.o.go (Ta _ _ _)).dr 1;have ns:J ((w3.alloc (T #[O I 0,X Y] 146)).drew.heap[w3.heap.size]? =Z (T #[O I 0,X Y] 146)):=Qf _ _;have HZ:J (w3.heap.size<(w3.alloc (T #[O I 0,X Y] 146)).drew.heap.size):=(Jb ns.o)
 obtain⟨c0,c2,xJ⟩:=gC.o w3.drew uU.o;obtain⟨a0,a2,rP⟩:=gC.o (w3.alloc (T #[O I 0,X Y] 146)).drew uV.o;go_wp2_with fail;go_region_held3 (λW=>W.cell? ⟨cb,0,Y⟩=Z (O I (wj:Int))/\W.cell? ⟨cb,2,Y⟩=Z (.map (Z r))/\(lD 141 (.map (Z r)) (O I (m:Int)) false).run N W=.ok (aH #[L bh,O I (wj:Int),X rv]) W) (go_keep) ((first|(go_at_call 40;refine(jx.o _ (by first|exact uU.o|exact uV.o)).mono ?_;rintro _ _⟨rfl,rfl⟩)|(go_at_call 81;refine(qR.o w3.drew uU.o).mono ?_;rintro _ w4⟨u4,rv4,ev4,rfl,ge,Ho⟩;have kv:M D w w4:=uU.o.go Ho;obtain⟨d0,d2,vH⟩:=gC.o w4 kv;obtain⟨f0,f2,yE⟩:=gC.o (w4.alloc (T #[O I (u4:Int),X rv4] 146)) (kv.go (Ta _ _ _));obtain⟨_,_,nt⟩:=gC.o (w4.alloc (T #[O I 0,X Y] 146)) (kv.go (Ta _ _ _));have He:J (M D w w4):=kv;have qI:J (Zz _ _ _ _ _ _ _ _):=ge;have nu:J (w4.heap.size=w4.heap.size):=rfl;clear kv Ho ge)|(go_at_call 81;refine(qR.o (w3.alloc (T #[O I 0,X Y] 146)).drew uV.o).mono ?_;rintro _ w4⟨u4,rv4,ev4,rfl,ge,Ho⟩;have kv:M D w w4:=uV.o.go Ho;obtain⟨d0,d2,vH⟩:=gC.o w4 kv;have xX:w4.heap[w3.heap.size]? =Z (T #[O I 0,X Y] 146):=(Ho.block _ HZ.o (λh=>h)).trans ns.o;have s0:w4.cell? ⟨w3.heap.size,0,Y⟩=Z (O I 0):=Ja xX;have s1:w4.cell? ⟨w3.heap.size,1,Y⟩=Z (X Y):=Ja xX;have sf:∀j,w4.frozen? ⟨w3.heap.size,j,Y⟩=false:=λj=>Qg _ _ _ _ _ xX;obtain⟨f0,f2,yE⟩:=gC.o ((w4.setCell ⟨w3.heap.size,0,Y⟩ (O I (u4:Int))).setCell ⟨w3.heap.size,1,Y⟩ (X rv4)) (by rw[set2 _ _ _ _ _ _ _ xX];exact kv.trans (Ts _ _ _) (λj hj=>aN (by have:=H8.o.size;omega)));have He:J (M D w w4):=kv;have qI:J (Zz _ _ _ _ _ _ _ _):=ge;have du:J (w4.heap[w3.heap.size]? =Z _):=xX;clear kv Ho ge xX)))
 all_goals
  clear c0 c2 xJ a0 a2 rP d0 d2 vH
  first
  | (
   have tk:=nu;have qT:(w4.alloc (T #[O I (u4:Int),X rv4] 146)).heap[w4.heap.size]? =Z (T #[O I (u4:Int),X rv4] 146):=Qf _ _;have Hu:J (M D w (w4.alloc (T #[O I (u4:Int),X rv4] 146))):=He.o.go (Ta _ _ _);have jZ:J (Zz E wj F AT u4 rv4 ev4 (w4.alloc (T #[O I (u4:Int),X rv4] 146))):=qI.o.kept (λq st h=>h.next (Ta _ _ _)) (λk v h=>h.next (Ta _ _ _));clear qI He tk nu nt;obtain⟨w5,qs⟩:∃w5,w5=w4.alloc (T #[O I (u4:Int),X rv4] 146):=⟨_,rfl⟩
   rw[<-qs]at qT Hu jZ f0 f2 yE ⊢;clear qs;obtain⟨k9,vI⟩:∃k9,k9=w4.heap.size:=⟨_,rfl⟩
   rw[<-vI]at qT ⊢;clear vI)
  | (
   obtain⟨qT,bO,p3,p4⟩:=XF du.o He.o H8.o.size (O I (u4:Int)) (X rv4);have Hu:J (M D w ((w4.setCell ⟨w3.heap.size,0,Y⟩ (O I (u4:Int))).setCell ⟨w3.heap.size,1,Y⟩ (X rv4))):=bO;have jZ:J (Zz E wj F AT u4 rv4 ev4 ((w4.setCell ⟨w3.heap.size,0,Y⟩ (O I (u4:Int))).setCell ⟨w3.heap.size,1,Y⟩ (X rv4))):=qI.o.kept (λq st h=>p3 _ _ _ _ h) (λk v h=>p4 _ _ _ h);clear qI He du p3 p4 bO s0 s1 sf;obtain⟨w5,qs⟩:∃w5,w5=((w4.setCell ⟨w3.heap.size,0,Y⟩ (O I (u4:Int))).setCell ⟨w3.heap.size,1,Y⟩ (X rv4)):=⟨_,rfl⟩
   rw[<-qs]at qT Hu jZ f0 f2 yE ⊢;clear qs;obtain⟨k9,vI⟩:∃k9,k9=w3.heap.size:=⟨_,rfl⟩
   rw[<-vI]at qT ⊢;clear vI)
  clear H8 uU uV HZ ns;have s0:w5.cell? ⟨k9,0,Y⟩=Z (O I (u4:Int)):=Ja qT;have s1:w5.cell? ⟨k9,1,Y⟩=Z (X rv4):=Ja qT;have rQ:k9<w5.heap.size:=(Jb qT)
  have qJ:J (w5.heap[k9]? =Z (T #[O I (u4:Int),X rv4] 146)):=qT;clear qT
  cases AT with
  | error er=>
   obtain⟨tv,uv,rfl,hv⟩:=jZ.o;have HV:J (Jn E (erG er) w5 (aJ tv uv)):=hv;clear hv jZ yj rO gd qR gC jx;go_wp2_with fail;refine(Xk _ _ _ _).mono ?_;rintro _ _⟨rfl,rfl⟩;go_wp2;go_ret2;exact⟨Hu.o.go (Ta _ _ _),_,_,rfl,.wrap _ _ _ (Qf _ _) (HV.o.next (Ta _ _ _))⟩
  | ok st'=>
   obtain⟨q',rfl,hq,rfl,uX,rS⟩:=jZ.o;have HQ:J (Jm q'=X rv4):=hq;have yC:J (StAt (dgW u4) F w5 q' st'):=uX;clear hq uX rS jZ qR;obtain⟨y0,y2,hly⟩:=gC.o w5 Hu.o;clear f0 f2 yE;go_wp2_with fail;refine(yj.o w5 Hu.o).mono ?_;rintro _ w6⟨rfl,gV⟩;have k8:J (M D w w6):=Hu.o.go gV;have bP:J (M D w (w6.alloc (T #[O aD ((m+1:Nat):Int),L sa,L sb,L ⟨#[]⟩] 167))):=k8.o.go (Ta _ _ _);have dn:J (StAt (dgW u4) F (w6.alloc (T #[O aD ((m+1:Nat):Int),L sa,L sb,L ⟨#[]⟩] 167)) q' st'):=(yC.o.next gV).next (Ta _ _ _);have t0:w6.cell? ⟨k9,0,Y⟩=Z (O I (u4:Int)):=(gV.cell (p:=⟨k9,0,Y⟩) rQ (λh=>h)).trans s0;have t1:w6.cell? ⟨k9,1,Y⟩=Z (X rv4):=(gV.cell (p:=⟨k9,1,Y⟩) rQ (λh=>h)).trans s1;have dv:k9<w6.heap.size:=Qk rQ gV.size;have vy:=gd.o _ q' st' bP.o dn.o;unfold JA at vy;rw[HQ.o]at vy;have zE:J (aB _ _ _ _ _):=vy;clear gV s0 s1 y0 y2 hly yj vy dn yC;go_wp2_with fail;refine zE.out.mono ?_;rintro _ w7⟨rfl,ko⟩;have gG:J (M D w w7):=bP.o.go ko;have nv:w7.heap[w6.heap.size]? =Z (T #[O aD ((m+1:Nat):Int),L sa,L sb,L ⟨#[]⟩] 167):=(ko.block _ (by simp) (λh=>h)).trans (Qf _ _);have r0:w7.cell? ⟨w6.heap.size,0,Y⟩=Z (O aD ((m+1:Nat):Int)):=Ja nv;have r1:w7.cell? ⟨w6.heap.size,1,Y⟩=Z (L sa):=Ja nv;have r2:w7.cell? ⟨w6.heap.size,2,Y⟩=Z (L sb):=Ja nv;have r3:w7.cell? ⟨w6.heap.size,3,Y⟩=Z (L ⟨#[]⟩):=Ja nv;have fr:∀j,w7.frozen? ⟨w6.heap.size,j,Y⟩=false:=λj=>Qg _ _ _ _ _ nv;have vJ:J (w7.heap[w6.heap.size]? =Z _):=nv;obtain⟨y0,y2,hly⟩:=gC.o w7 gG.o;generalize xl:Xh (dgW u4) st'=sd at *;have vK:J (Xh (dgW u4) st'=sd):=xl;have HHC:=λW hT=>rO.o W st' hT;rw[xl]at HHC;have bQ:J (∀W,M D w W->aB _ _ _ W _):=HHC;clear ko nv zE gd HHC rO xl t0 t1;go_wp2_with fail;have jE:w7.setCell ⟨w6.heap.size,3,Y⟩ (L sd)=w7.setRow w6.heap.size #[O aD ((m+1:Nat):Int),L sa,L sb,L sd]:=(by rw[Qj w7 w6.heap.size 3 _ _ (0,0) _ vJ.o];rfl);have jF:(w7.setRow w6.heap.size #[O aD ((m+1:Nat):Int),L sa,L sb,L sd]).heap[w6.heap.size]? =Z (T #[O aD ((m+1:Nat):Int),L sa,L sb,L sd] 167):=Qi _ _ _ _ _ _ vJ.o;have kw:J (M D w (w7.setRow w6.heap.size #[O aD ((m+1:Nat):Int),L sa,L sb,L sd])):=gG.o.trans (Ts _ _ _) (λj hj=>aN (by have:=k8.o.size;omega));rw[jE];clear jE r0 r1 r2 r3 fr y0 y2 hly vJ;generalize w7.setRow w6.heap.size #[O aD ((m+1:Nat):Int),L sa,L sb,L sd]=w8 at *;have r0:w8.cell? ⟨w6.heap.size,0,Y⟩=Z (O aD ((m+1:Nat):Int)):=Ja jF;have r1:w8.cell? ⟨w6.heap.size,1,Y⟩=Z (L sa):=Ja jF;have r2:w8.cell? ⟨w6.heap.size,2,Y⟩=Z (L sb):=Ja jF;have r3:w8.cell? ⟨w6.heap.size,3,Y⟩=Z (L sd):=Ja jF;obtain⟨y0,_,_⟩:=gC.o w8 kw.o;have yF:J (M D w w8.drew):=kw.o.dr 1;have hz8:w6.heap.size<w8.heap.size:=(Jb jF)
   have ij:J (w8.heap[w6.heap.size]? =Z _):=jF;clear jF;go_region_held3 (λW=>W.cell? ⟨cb,0,Y⟩=Z (O I (u4:Int))/\W.cell? ⟨w6.heap.size,0,Y⟩=Z (O aD ((m+1:Nat):Int))/\W.cell? ⟨w6.heap.size,1,Y⟩=Z (L sa)/\W.cell? ⟨w6.heap.size,2,Y⟩=Z (L sb)/\W.cell? ⟨w6.heap.size,3,Y⟩=Z (L sd)) (go_keep) ((go_at_call 84;refine(bQ.out _ yF.o).mono ?_;rintro _ w9⟨rfl,gx⟩;have nw:M D w w9:=yF.o.go gx;have bR:M D w8 w9:=(Td D w8 1).go gx;have xX:w9.heap[w6.heap.size]? =Z (T #[O aD ((m+1:Nat):Int),L sa,L sb,L sd] 167):=(bR.block _ hz8 (λh=>h)).trans ij.o;have q0:w9.cell? ⟨w6.heap.size,0,Y⟩=Z (O aD ((m+1:Nat):Int)):=Ja xX;have q1:w9.cell? ⟨w6.heap.size,1,Y⟩=Z (L sa):=Ja xX;have q2:w9.cell? ⟨w6.heap.size,2,Y⟩=Z (L sb):=Ja xX;have q3:w9.cell? ⟨w6.heap.size,3,Y⟩=Z (L sd):=Ja xX;obtain⟨x0,_,_⟩:=gC.o w9 nw;have jD:J (M D w w9):=nw;clear gx nw bR xX))
   all_goals have hl:=HHL.o st';rw[vK.o]at hl;obtain⟨ss,_,hss,gW⟩:=Jdr (Hn (m+1,sa,sb,sd)) (JL ts) (by have:=gD.o;omega) hl;have rT:J (ss.data.toList=Hn (m+1,sa,sb,sd)++JL ts):=hss;clear hl hss HHL gD gC bQ q0 q1 q2 q3 x0 r0 r1 r2 r3 y0;generalize (⟨(Hn (m+1,sa,sb,sd)).toArray⟩:BA)=hbz at *;generalize (⟨(JL ts).toArray⟩:BA)=bbz at *;go_wp2;go_ret2;refine⟨jD.o,?_⟩;show _=Ending.returned (aI #[L ⟨(Hn (m+1,sa,sb,Xh (dgW u4) st')++JL ts).toArray⟩,aK]);rw[vK.o,<-rT.o];rfl

def RdSt(E:Nat->Addr)(w:aA)(b:Nat)(wj:Int):Option PS->Prop
 | some p=>Jd w b Y wj aK p/\∃q r,p=.rd q r
 | none=>∃q r t u,Jd w b Y wj (aJ t u) (.rd q r)/\Jn E 7 w (aJ t u)
def RdTo(E:Nat->Addr)(w w':aA)(b:Nat)(wj:Int)(st':Option PS):Prop:=RdSt E w' b wj st'/\M (λk=>k=b) w w'
theorem JpO{x m:Nat}{q r:List UInt8}(h:(PS.rd q r).num x n=Z (m,p')):∃q' r',p'=.rd q' r':=by
 simp only[PS.num]at h
 split at h
 ·cases h;exact⟨_,_,rfl⟩
 ·cases h
theorem Jp8{s t:List UInt8}{q r:List UInt8}(h:(PS.rd q r).txt s n=Z (t,p')):∃q' r',p'=.rd q' r':=by
 simp only[PS.txt]at h
 split at h
 ·cases h;exact⟨_,_,rfl⟩
 ·cases h
theorem XI.rd{wj:Int}{q r:List UInt8}(E:Nat->Addr)(h:XI w w' b Y wj (.rd q r)):RdTo E w w' b wj (Z (.rd q r)):=by
 obtain⟨g',h1,_,h3⟩:=h;obtain rfl:=h1.1;exact⟨⟨h1,_,_,rfl⟩,h3.mono (λj hj=>by rcases hj with h|h;exact aM h;cases h)⟩
theorem JkN(E:Nat->Addr)(b:Nat)(wj:Int)(x n:Nat)(st:Option PS)(w:aA)(hE:Env E w)(hp:RdSt E w b wj st)(h8:n<=8)(hd:JP st<=10000000000000):
  aB N 138 #[X (Z ⟨b,0,Y⟩),O aD (x:Int),O I (n:Int)] w λe w'=>e=aC (O aD ((JF x n st).1:Int))/\RdTo E w w' b wj (JF x n st).2:=by
 unfold JF
 cases st with
 | none=>
  obtain⟨q,r,t,u,h1,h2⟩:=hp;refine(Jax b Y wj _ _ _ t u w h1).mono ?_;rintro e w'⟨rfl,rfl⟩;exact⟨rfl,⟨q,r,t,u,h1,h2⟩,Te _ _⟩
 | some p=>
  obtain⟨hp,q,r,rfl⟩:=hp;simp only[Qu]
  cases h:(PS.rd q r).num x n with
  | none=>
   refine(Zm E b Y wj x n _ w hE hp h8 hd h).mono ?_;rintro e w'⟨rfl,h1,h2⟩;exact⟨rfl,⟨q,r,_,_,h1,.base⟩,h2⟩
  | some y=>
   obtain⟨m,p'⟩:=y;obtain⟨q',r',rfl⟩:=JpO h;exact(Xu b Y wj x n m _ _ w hp h8 hd h).mono λe w' ⟨h1,h2⟩=>⟨h1,h2.rd E⟩
theorem JoW(E:Nat->Addr)(b:Nat)(wj:Int)(s:BA)(n:Nat)(st:Option PS)(w:aA)(hE:Env E w)(hp:RdSt E w b wj st)(hd:JP st+n<=10000000000000):
  aB N 209 #[X (Z ⟨b,0,Y⟩),L s,O I (n:Int)] w λe w'=>e=aC (L ⟨(Jk s.data.toList n st).1.toArray⟩)/\RdTo E w w' b wj (Jk s.data.toList n st).2:=by
 unfold Jk
 cases st with
 | none=>
  obtain⟨q,r,t,u,h1,h2⟩:=hp;refine(Jh3 b Y wj _ _ _ t u w h1).mono ?_;rintro e w'⟨rfl,rfl⟩;exact⟨rfl,⟨q,r,t,u,h1,h2⟩,Te _ _⟩
 | some p=>
  obtain⟨hp,q,r,rfl⟩:=hp;simp only[Qu]
  cases h:(PS.rd q r).txt s.data.toList n with
  | none=>
   refine(JfK E b Y wj s n _ w hE hp (by simp only[JP]at hd;omega) h).mono ?_;rintro e w'⟨rfl,h1,h2⟩;exact⟨rfl,⟨q,r,_,_,h1,.base⟩,h2⟩
  | some y=>
   obtain⟨m,p'⟩:=y;obtain⟨q',r',rfl⟩:=Jp8 h;exact(Jan b Y wj s n m _ _ w hp hd h).mono λe w' ⟨h1,h2⟩=>⟨h1,h2.rd E⟩
theorem RdSt.st{wj:Int}{st:Option PS}(h:RdSt E w b wj st):Jg E w b Y wj st:=by
 cases st with
 | none=>obtain⟨q,r,t,u,h1,h2⟩:=h;exact⟨_,t,u,h1,h2⟩
 | some p=>exact h.1
theorem RdSt.tch{S:Nat->Prop}{wj:Int}{st:Option PS}(h:RdSt E w b wj st)(k:M S w w')(hb:¬S b)(hs:∀p s u,w.heap[p]? =Z (T #[L s,u] 237)->¬S p):RdSt E w' b wj st:=by
 cases st with
 | some p=>exact⟨h.1.tch k hb (λ_ h=>by cases h),h.2⟩
 | none=>obtain⟨q,r,t,u,h1,h2⟩:=h;exact⟨q,r,t,u,h1.tch k hb (λ_ h=>by cases h),h2.tch k hs⟩
theorem JcB(E:Nat->Addr)(b:Nat)(wj:Nat)(s:BA)(st:Option PS)(w:aA)(hE:Env E w)(hp:RdSt E w b wj st)(hd:JP st+wj<=10000000000000):
  aB N 139 #[X (Z ⟨b,0,Y⟩),L s] w λe w'=>e=aC (L ⟨(Jk s.data.toList wj st).1.toArray⟩)/\RdTo E w w' b wj (Jk s.data.toList wj st).2:=by
 have c1:=hp.st.width;have HC:J (aB N 209 _ w _):=JoW E b wj s wj st w hE hp hd;clear hp hE;go_enter func139,ntmps139;go_wp2_with fail;refine HC.o.mono ?_;rintro _ w1⟨rfl,h⟩;have HS:J _:=h;clear h HC;go_wp2;go_ret;exact⟨rfl,HS.o⟩
structure RRun(E:Nat->Addr)(w0 wA w:aA)(b:Nat)(wj:Int)(st:Option PS):Prop where
 env:Env E w
 port:RdSt E w b wj st
 tch:M (λk=>k=b) wA w
 a:M D w0 wA
 lo:18<=b
 lt:b<w0.heap.size
theorem RRun.step{wj:Int}{st st':Option PS}(h:RRun E w0 wA w b wj st)(k:RdTo E w w' b wj st'):RRun E w0 wA w' b wj st':=
 ⟨h.env.tch k.2 (λj hj=>by have:=h.lo;omega),k.1,h.tch.trans k.2 (λj hj=>aM hj),h.a,h.lo,h.lt⟩
theorem RRun.box{wj:Int}{st:Option PS}(h:RRun E w0 wA w b wj st)(hk:w0.heap.size<=k)(hA:wA.heap[k]? =Z o):w.heap[k]? =Z o:=
 (h.tch.block k (Jb hA) (λe=>by have:=h.lt;omega)).trans hA
theorem Jfj(E:Nat->Addr)(b:Nat)(Hc:18<=b)(wj:Nat)(n:Nat)(s1 s2 s3:BA)(st:Option PS)(w:aA)(hE:Env E w)(hp:RdSt E w b wj st)(hd:JP st+4*wj<=90000000):
  aB N 86 #[X (Z ⟨b,0,Y⟩),aH #[O aD (n:Int),L s1,L s2,L s3]] w λe w'=>e=aC (hdV (ZK wj (n,s1,s2,s3) st).1)/\RdTo E w w' b wj (ZK wj (n,s1,s2,s3) st).2:=by
 have H5:=hp.st.lt;have hA:=M.allocs D w (T #[O aD (n:Int),L s1,L s2,L s3] 167) (T #[O aD 0,L ⟨#[]⟩,L ⟨#[]⟩,L ⟨#[]⟩] 167);have ke:RRun E w _ _ b wj st:=⟨hE.tch hA noE,hp.tch hA (λh=>h) (λ_ _ _ _ h=>h),Te _ _,hA,Hc,H5⟩
 have yl:=Jbm n 4 st;have j5:=YD s1.data.toList wj (JF n 4 st).2;have jk:=YD s2.data.toList wj (Jk s1.data.toList wj (JF n 4 st).2).2;have RUN:J _:=ke;clear hE hp ke hA;go_enter func86,ntmps86;go_wp2_with fail;refine(JkN E b wj n 4 st _ RUN.out.env RUN.out.port (by omega) (by omega)).mono ?_;rintro _ w1⟨rfl,h⟩;have R1:=RUN.out.step h;have bx1:=R1.box (k:=w.heap.size) (Ql _) (heap_alloc2_old _ _ _);have c1:w1.cell? ⟨w.heap.size,1,Y⟩=Z (L s1):=Ja bx1;have Ht:J _:=R1;clear R1 bx1 h;go_wp2_with fail;refine(JcB E b wj s1 _ _ Ht.out.env Ht.out.port (by omega)).mono ?_;rintro _ w2⟨rfl,h⟩;have R2:=Ht.out.step h;have bx2:=R2.box (k:=w.heap.size) (Ql _) (heap_alloc2_old _ _ _);have c2:w2.cell? ⟨w.heap.size,2,Y⟩=Z (L s2):=Ja bx2;have kH:J _:=R2;clear R2 bx2 h;go_wp2_with fail;refine(JcB E b wj s2 _ _ kH.out.env kH.out.port (by omega)).mono ?_;rintro _ w3⟨rfl,h⟩;have R3:=kH.out.step h;have bx3:=R3.box (k:=w.heap.size) (Ql _) (heap_alloc2_old _ _ _);have c3:w3.cell? ⟨w.heap.size,3,Y⟩=Z (L s3):=Ja bx3;have kf:J _:=R3;clear R3 bx3 h;go_wp2_with fail;refine(JcB E b wj s3 _ _ kf.out.env kf.out.port (by omega)).mono ?_;rintro _ w4⟨rfl,h⟩;have R4:=kf.out.step h;have rR:=R4.box (k:=w.heap.size+1) (by omega) (heap_alloc2_new _ _ _);have e0:w4.cell? ⟨w.heap.size+1,0,Y⟩=Z (O aD 0):=Ja rR;have e1:w4.cell? ⟨w.heap.size+1,1,Y⟩=Z (L ⟨#[]⟩):=Ja rR;have e2:w4.cell? ⟨w.heap.size+1,2,Y⟩=Z (L ⟨#[]⟩):=Ja rR;have e3:w4.cell? ⟨w.heap.size+1,3,Y⟩=Z (L ⟨#[]⟩):=Ja rR;have fR:∀j,w4.frozen? ⟨w.heap.size+1,j,Y⟩=false:=λj=>Qg _ _ _ _ _ rR;have jN:J _:=R4;have RR:J (_=_):=rR;clear R4 rR h;go_wp2;rw[set4 _ _ _ _ _ _ _ _ _ _ _ RR.out];have hN:=jN.out.a.size;refine QK (v:=hdV (ZK wj (n,s1,s2,s3) st).1) (Qq results86 _ _ (w.heap.size+1) _ _ (0,0) _ rfl (Qi _ _ _ _ _ _ RR.out) underlying167 rfl (by kernel_rfl)) rfl ⟨rfl,jN.out.port.tch (Ts _ _ _) (by omega) (λp s u hp e=>by subst e;rw[RR.out]at hp;simp at hp),?_⟩;exact((jN.out.a.mono noE).trans jN.out.tch (λj hj=>aM hj)).trans (Ts _ _ _) (λj hj=>aN (by omega))
theorem JlN(b:Nat)(g:Option Nat)(wj:Nat)(ia:Option Addr)(n ic:Nat)(p0:PS)(t:TypeId)(u:aG)(w:aA)(hp:Jd w b g wj (aJ t u) p0):
  aB N 78 #[X (Z ⟨b,0,Y⟩),R ia n ic] w λe w'=>e=aC (R Y 0 0)/\Jd w' b g wj (aJ t u) p0/\M D w w':=by
 have vF:∀(fn:Fn)(first cap:Array aG)(w:aA),(Instr.makeFunc fn first cap).run N w=.ok (.func fn first cap) w:=λ_ _ _ _=>rfl;have HL:J (∀what:BA,what.size<=1000->_):=λwhat kq=>Jop b g wj what kq 1 0 3 (R ia n ic) ia n ic rfl p0 t u w hp;clear hp;go_enter func78,ntmps78;go_wp2_with fail;refine(HL.o _ (by decide)).mono ?_;clear HL;rintro e w1⟨rfl,h⟩;have HH:J _:=h;clear h;go_wp2;go_ret;exact⟨rfl,HH.o⟩
