import Derived.LaidMore
import Derived.Stop.LaidErr
import Derived.Test.YtighkdnooglfjaaGreatDoorQzVfF
open Go renaming Calls->aB,Value->aG,World->aA
open Go.Ending renaming returned->aC
open Go.IntKind renaming i64->I,u32->aF,u64->aD,u8->aE
open Go.Obj renaming cells->T
open Go.Proofs.Tryz renaming prog->N
open Go.RowKit renaming Hid->J
open Go.Value renaming agg->aH,bool->aL,iface->aJ,int->O,nilIface->aK,pointer->X,slice->R,string->L,tuple->aI,string->lE
open Option renaming none->Y,some->Z,some->lM
open Or renaming inl->aM,inr->aN
open Array renaming toList_extract->lH
open ByteArray renaming data_extract->lG
open List renaming length_drop->lC,getElem?_map->lD,extract_eq_take_drop->lF,getElem_map->lI,getElem?_range->lJ,take_append_drop->lK
open Nat renaming zero_le->lN
set_option maxRecDepth 100000
set_option maxHeartbeats 4000000
namespace Go.Proofs.YtighkdnooglfjaaGreatDoor
open Go.Proofs.Tryz
open Go.ChangeShapes Go.WideShapes Go.ChangeAt Go.RowKit

variable {state:BA}{ch:Ch}{key:Key}{os:List (Nat×Nat)}{sl:List (Sl×Sl)}{ls rs:List Nat}{ts:List TxL}{s t:List UInt8}{aS aW:List aG}{B N1 base fl g i j lb m n pn rb wb wj:Nat}{NT:Nat->List UInt8}{F G S:Nat->Prop}{x:OpL}{a b c d v v' vl vls vm vrs:aG}{V V' W W' w w' w3:aA}{wy:Wy}
theorem JqN(u:TypeId)(h:prog.typeName? 3 u=Z "*errors.errorString"):u=509:=
 have star: "*" ++ "errors.errorString" = "*errors.errorString" :=by decide
 typeName_ptr_named (nm:= "errors.errorString") (by rw[star];kernel_rfl) (by kernel_rfl) (by decide) u (by rw[star];exact h)
theorem JlQ:prog.cellsOf 531=1:=by kernel_rfl
theorem JlR:prog.cellsOf 9=1:=by kernel_rfl
def JdA(W:aA)(g:Nat)(text:List UInt8):Prop:=∃(a:Addr)(s:BA)(ca:Array aG)(ta:TypeId),W.cell? ⟨g,0,Y⟩=Z (aJ 509 (X (Z a)))/\W.cell? a=Z (L s)/\s.data.toList=text/\W.heap[a.block]? =Z (T ca ta (0,0))
theorem XV{n:String}{text:List UInt8}{r:List (String×DataW Unit)}(h:laidMet N ((n,.iface "*errors.errorString" (.ptr (.agg [.lit (.string text)])))::r) W) (hg:prog.globalNamed n=Z g) (ht:(prog.globals[g]?).map (·.type)=Z 92):JdA W g text:=by
 obtain⟨ps,⟨g0,t0,cs0,f0,p0,q0,hg0,ht0,sg,hd0,_,e0⟩,_,pd⟩:=h;obtain rfl:=lM.inj (hg.symm.trans hg0);obtain rfl:=lM.inj (ht.symm.trans ht0);subst e0;obtain⟨l0⟩:=cs0;have ok0:∀u v,l0=[aJ u v]->Value.okWide N W .any 0 u v:=λu v e=>by
  subst e;exact(pd g 0 (by simp[MemPlace.row])).2 u v ((World.var?_cell hg0 sg 0).trans rfl)
 obtain⟨a0,s0,rfl,hc0,hs0,q9,rfl⟩:=errorString_of_trod underlying92 JqN underlying509 underlying531 rfl rfl underlying9 JlQ JlR hd0 ok0;obtain⟨ca,ta,hb⟩:=(pd a0.block a0.off (by simp[MemPlace.row])).1;exact⟨a0,s0,ca,ta,(World.var?_cell hg0 sg 0).trans rfl,hc0,hs0,hb⟩
def txOf:DataW Unit->List UInt8
 | .iface _ (.ptr (.agg [.lit (.string t)]))=>t
 | _=>[]
def tx(g:Nat):List UInt8:=txOf (if g=0 then Rows.laid_trove_fault_Tip else if g=1 then Rows.laid_trove_fault_Input else if g=2 then Rows.laid_trove_fault_Exists else if g=3 then Rows.laid_trove_fault_Sum else if g=4 then Rows.laid_trove_fault_Root else if g=5 then Rows.laid_trove_fault_Range else if g=6 then Rows.laid_trove_fault_Torn else Rows.laid_trove_fault_Form)
theorem Jp6:∀g∈Ss,∀h∈Ss,tx g=tx h->g=h:=by decide
theorem Jpy(hS:∀g∈Ss,JdA W g (tx g))(Hi:18<=W.heap.size)(uz:Lib.TabIs N W "internal/strconv.uint64pow10" aD Lib.pow10Tab) (tC:∀i,i<64->W.cell? ⟨13,i,Y⟩=Z (O aF (Ks.getD i 0))):
  ∃E:Nat->Addr,Env E W/\Sent E W/\∀g∈Ss,(E g).block<W.heap.size:=by
 classical
 let E:Nat->Addr:=λg=>if h:g∈Ss then Classical.choose (hS g h) else ⟨0,0,Y⟩
 have hE:∀g (h:g∈Ss),∃(s:BA)(ca:Array aG)(ta:TypeId),W.cell? ⟨g,0,Y⟩=Z (aJ 509 (X (Z (E g))))/\W.cell? (E g)=Z (L s)/\s.data.toList=tx g/\W.heap[(E g).block]? =Z (T ca ta (0,0)):=λg h=>by
  have e:E g=Classical.choose (hS g h):=dif_pos h;rw[e];exact Classical.choose_spec (hS g h)
 have hc:∀g,g∈Ss->W.cell? ⟨g,0,Y⟩=Z (aJ 509 (X (Z (E g)))):=λg h=>by obtain⟨_,_,_,h1,_⟩:=hE g h;exact h1
 refine⟨E,⟨Hi,hc _ (by decide),hc _ (by decide),hc _ (by decide),hc _ (by decide),hc _ (by decide),hc _ (by decide),hc _ (by decide),hc _ (by decide),uz,tC⟩,⟨λg hg=>?_,λg hg h hh e=>?_⟩,λg hg=>?_⟩
 ·obtain⟨_,ca,ta,_,_,_,h4⟩:=hE g hg;exact⟨ca,ta,h4⟩
 ·obtain⟨s,_,_,_,h2,h3,_⟩:=hE g hg;obtain⟨s',_,_,_,h2',vu,_⟩:=hE h hh;rw[e,h2']at h2
  cases h2
  exact Jp6 g hg h hh (h3.symm.trans vu)
 ·obtain⟨_,ca,ta,_,_,_,h4⟩:=hE g hg;exact(Jb h4)
theorem gTab:prog.globalNamed "trove/digest.roundConstants" =Z 13:=by kernel_rfl
theorem Jl8:(prog.globals[13]?).map (·.type)=Z 486:=by kernel_rfl
theorem Jpv:prog.cellsOf 486=64:=by kernel_rfl
theorem Jpw:prog.cellsOf 429=1:=by kernel_rfl
theorem Jl7:(prog.globals[15]?).map (·.type)=Z 503:=by kernel_rfl
theorem Jpu:prog.cellsOf 503=20:=by kernel_rfl
theorem JlS:prog.cellsOf 78=1:=by kernel_rfl
open Go.RowKit

def Alk(w:aA):Prop:=∃t u,w.cell? ⟨8,0,Y⟩=Z (aJ t u)
theorem Alk.tch(h:Alk w)(k:M S w w')(hs:¬S 8):Alk w':=by
 obtain⟨t,u,h⟩:=h;exact⟨t,u,(k.cell (Qr _ _ h) hs).trans h⟩
def JbP(e:Ending)(x:Int)(y z:Nat)(ga:Option Addr)(gl gc:Nat)(ev:aG):Prop:=e=aC (aI #[aH #[O I x,O aD (y:Int),O aE (z:Int),R ga gl gc],ev])
def XTwo(same:Prop)(aW:Ending->aA->Prop)(e:Ending)(w':aA):Prop:=(same->∃t u,e=aC (aI #[L ⟨#[]⟩,L ⟨#[]⟩,aJ t u]))/\(¬same->aW e w')
def XBad(w:aA)(e:Ending)(w':aA):Prop:=M D w w'/\∃t u,e=aC (aI #[L ⟨#[]⟩,L ⟨#[]⟩,aJ t u])
theorem Jg3(E:Nat->Addr)(wj:Nat)(Hf:1<=wj)(hw:wj<=32)(h:HdL)(hh:HdOk wj h)(c:BA×Int)(hc:Ji wj c)(s1 s2:BA)(w:aA)(hE:Env E w)
 (h1:∀W,M D w W->aB N 144 #[qV wj h.2.2.2 ⟨(Jc c).toArray⟩,L s1] W λe w'=>M D W w'/\∃x y z ga gl gc t u,JbP e x y z ga gl gc (aJ t u)):
  aB N 94 #[O I (wj:Int),L ⟨(Hn h).toArray⟩,aH #[L c.1,O I c.2],L s1,L s2] w (XBad w):=by
 have ky:J (∀W,M D w W->_):=λW hT=>JfU E wj Hf hw h hh c hc W (hE.tch hT noE);have xZ:J _:=h1;generalize h.2.2.2=st at *;generalize (⟨(Hn h).toArray⟩:BA)=hb at *;obtain⟨s,aZ⟩:=c;dsimp only at ky xZ ⊢;generalize (⟨(Jc (s,aZ)).toArray⟩:BA)=kb at *;go_enter func94,ntmps94;go_wp2_with fail;refine(ky _ (Ta _ _ _)).mono ?_;rintro _ w1⟨rfl,H6⟩;have H3:J _:=(Ta D w _).go H6;go_wp2_with fail;refine(xZ _ (H3.go (Ta _ _ _))).mono ?_;rintro _ w2⟨H7,x,y,z,ga,gl,gc,t,u,rfl⟩;have H4:J _:=(H3.go (Ta _ _ _)).go H7;go_wp2_with fail;refine(Xk _ _ _ _).mono ?_;rintro _ w3⟨rfl,jX⟩;have H8:J (M D w w3):=by rw[jX];exact(H4.go (Ta _ _ _)).go (Ta _ _ _)
 clear jX;go_wp2;refine QK (v:=aI #[L ⟨#[]⟩,L ⟨#[]⟩,_]) (results_tmp3 results94 _ _ _) rfl ?_;exact⟨H8,_,_,rfl⟩
theorem Jg4(E:Nat->Addr)(wj:Nat)(Hf:1<=wj)(hw:wj<=32)(h:HdL)(hh:HdOk wj h)(c:BA×Int)(hc:Ji wj c)(s1 s2:BA)(w:aA)(hE:Env E w)
 (h1:∀W,M D w W->aB N 144 #[qV wj h.2.2.2 ⟨(Jc c).toArray⟩,L s1] W λe w'=>M D W w'/\∃x y z ga gl gc,JbP e x y z ga gl gc aK)
 (h2:∀W,M D w W->aB N 144 #[qV wj h.2.2.2 ⟨(Jc c).toArray⟩,L s2] W λe w'=>M D W w'/\∃x y z ga gl gc t u,JbP e x y z ga gl gc (aJ t u)):
  aB N 94 #[O I (wj:Int),L ⟨(Hn h).toArray⟩,aH #[L c.1,O I c.2],L s1,L s2] w (XBad w):=by
 have ky:J (∀W,M D w W->_):=λW hT=>JfU E wj Hf hw h hh c hc W (hE.tch hT noE);have xZ:J _:=h1;have vS:J _:=h2;generalize h.2.2.2=st at *;generalize (⟨(Hn h).toArray⟩:BA)=hb at *;obtain⟨s,aZ⟩:=c;dsimp only at ky xZ vS ⊢;generalize (⟨(Jc (s,aZ)).toArray⟩:BA)=kb at *;go_enter func94,ntmps94;go_wp2_with fail;refine(ky _ (Ta _ _ _)).mono ?_;rintro _ w1⟨rfl,H6⟩;obtain⟨W2,(gM:J _)⟩:∃W2,W2=w1.alloc (T #[O I (wj:Int),L st,L kb] 248):=⟨_,rfl⟩
 have t2:M D w1 W2:=by rw[gM];exact Ta _ _ _
 have Hp:W2.heap[w1.heap.size]? =Z (T #[O I (wj:Int),L st,L kb] 248):=by rw[gM];exact Qf _ _
 have si:J (∀V,M D W2 V->V.cell? ⟨w1.heap.size,0,Y⟩=Z (O I (wj:Int))/\V.cell? ⟨w1.heap.size,1,Y⟩=Z (L st)/\V.cell? ⟨w1.heap.size,2,Y⟩=Z (L kb)):=λV hT=>by
  have:=(hT.block _ (Jb Hp) (λh=>h)).trans Hp;exact⟨Ja this,Ja this,Ja this⟩
 have H4:J _:=((Ta D w _).go H6).go t2;obtain⟨q0,q1,q2⟩:=si W2 (Te _ _);clear H6 ky t2 Hp;go_upto_region 2 with fail;rw[<-gM.o];go_wp2_with fail;refine(xZ _ H4).mono ?_;rintro _ w3⟨Hm,x,y,z,ga,gl,gc,rfl⟩;have H8:J (M D W2 (w3.alloc (T #[O I x,O aD (y:Int),O aE (z:Int),R ga gl gc] 252))):=Hm.go (Ta _ _ _);obtain⟨q0,q1,q2⟩:=si _ H8.o;go_wp2_with fail;refine(vS _ (H4.go H8)).mono ?_;rintro _ w4⟨Ho,x',y',z',ga',gl',gc',t,u,rfl⟩;have He:J _:=(H4.go H8).go Ho;go_wp2_with fail;refine(Xk _ _ _ _).mono ?_;rintro _ w5⟨rfl,qs⟩;have Hu:J (M D w w5):=by rw[qs];exact(He.go (Ta _ _ _)).go (Ta _ _ _)
 clear qs;go_wp2;refine QK (v:=aI #[L ⟨#[]⟩,L ⟨#[]⟩,_]) (results_tmp3 results94 _ _ _) rfl ?_;exact⟨Hu,_,_,rfl⟩
theorem Jg5(E:Nat->Addr)(wj:Nat)(Hf:1<=wj)(hw:wj<=32)(h:HdL)(hh:HdOk wj h)(c:BA×Int)(hc:Ji wj c)(s1 s2:BA)(w:aA)(hE:Env E w)
 (x:Int) (y z:Nat) (gl:Nat) (x':Int) (y' z':Nat) (gl':Nat) (P1 P2:Nat->aA->Prop) (aW:Ending->aA->Prop)
 (hP1:∀g V V',P1 g V->M D V V'->P1 g V')
 (h1:∀W,M D w W->aB N 144 #[qV wj h.2.2.2 ⟨(Jc c).toArray⟩,L s1] W λe w'=>M D W w'/\∃g cap,JbP e x y z (Z ⟨g,0,Y⟩) gl cap aK/\P1 g w')
 (h2:∀W,M D w W->aB N 144 #[qV wj h.2.2.2 ⟨(Jc c).toArray⟩,L s2] W λe w'=>M D W w'/\∃g cap,JbP e x' y' z' (Z ⟨g,0,Y⟩) gl' cap aK/\P2 g w')
 (gq:∀W,M D w W->Alk W)
 (al:¬(x=x'/\y=y'/\z=z')->∀W g g' cap cap',M D w W->P1 g W->P2 g' W->aB N 148 #[R (Z ⟨g,0,Y⟩) gl cap,R (Z ⟨g',0,Y⟩) gl' cap'] W λe w'=>M D W w'/\∃sx sy:BA,aW (aC (aI #[L sx,L sy,aK])) w'/\e=aC (aI #[L sx,L sy,aK]))
 (am:∀g V V',P2 g V->M D V V'->P2 g V'):
  aB N 94 #[O I (wj:Int),L ⟨(Hn h).toArray⟩,aH #[L c.1,O I c.2],L s1,L s2] w λe w'=>M D w w'/\XTwo (x=x'/\y=y'/\z=z') aW e w':=by
 have ky:J (∀W,M D w W->_):=λW hT=>JfU E wj Hf hw h hh c hc W (hE.tch hT noE);have xZ:J _:=h1;have vS:J _:=h2;have mD:J _:=gq;have HPA:J _:=al;have Hq:J _:=hP1;have Hw:J _:=am;generalize h.2.2.2=st at *;generalize (⟨(Hn h).toArray⟩:BA)=hb at *;obtain⟨s,aZ⟩:=c;dsimp only at ky xZ vS ⊢;generalize (⟨(Jc (s,aZ)).toArray⟩:BA)=kb at *;go_enter func94,ntmps94;go_wp2_with fail;refine(ky _ (Ta _ _ _)).mono ?_;rintro _ w1⟨rfl,H6⟩;obtain⟨W2,(gM:J _)⟩:∃W2,W2=w1.alloc (T #[O I (wj:Int),L st,L kb] 248):=⟨_,rfl⟩
 have t2:=xu gM;have Hp:=qu gM;have si:J (∀V,M D W2 V->V.cell? ⟨w1.heap.size,0,Y⟩=Z (O I (wj:Int))/\V.cell? ⟨w1.heap.size,1,Y⟩=Z (L st)/\V.cell? ⟨w1.heap.size,2,Y⟩=Z (L kb)):=λV hT=>by
  have:=(hT.block _ (Jb Hp) (λh=>h)).trans Hp;exact⟨Ja this,Ja this,Ja this⟩
 have H4:J _:=((Ta D w _).go H6).go t2;obtain⟨q0,q1,q2⟩:=si W2 (Te _ _);clear H6 ky t2 Hp;go_upto_region 2 with fail;rw[<-gM.o];go_wp2_with fail;refine(xZ _ H4).mono ?_;rintro _ w3⟨Hm,g,cap,rfl,mP⟩;obtain⟨W3,(jR:J _)⟩:∃W3,W3=w3.alloc (T #[O I x,O aD (y:Int),O aE (z:Int),R (Z ⟨g,0,Y⟩) gl cap] 252):=⟨_,rfl⟩
 have t3:=xu jR;have kP:=qu jR;have pe:J (∀V,M D W3 V->V.cell? ⟨w3.heap.size,0,Y⟩=Z (O I x)/\V.cell? ⟨w3.heap.size,1,Y⟩=Z (O aD (y:Int))/\V.cell? ⟨w3.heap.size,2,Y⟩=Z (O aE (z:Int))/\V.cell? ⟨w3.heap.size,3,Y⟩=Z (R (Z ⟨g,0,Y⟩) gl cap)):=λV hT=>by
  have:=(hT.block _ (Jb kP) (λh=>h)).trans kP;exact⟨Ja this,Ja this,Ja this,Ja this⟩
 have H8:J _:=Hm.go t3;have cQ:J _:=Hq _ _ _ mP t3;clear Hm xZ q0 q1 q2 mP t3 kP;obtain⟨q0,q1,q2⟩:=si _ H8.o;go_upto_region 5 with fail;rw[<-jR.o];go_wp2_with fail;refine(vS _ (H4.go H8)).mono ?_;rintro _ w4⟨Ho,g',cap',rfl,xp⟩;obtain⟨W4,(tH:J _)⟩:∃W4,W4=w4.alloc (T #[O I x',O aD (y':Int),O aE (z':Int),R (Z ⟨g',0,Y⟩) gl' cap'] 252):=⟨_,rfl⟩
 have t4:=xu tH;have ge:=qu tH;have He:J _:=((H4.go H8).go Ho).go t4;have tI:J _:=Hw _ _ _ xp t4;have yu:J _:=Hq _ _ _ cQ (Ho.go t4);obtain⟨a0,a1,a2,a3⟩:=pe W4 (Ho.go t4);obtain⟨b0,b1,b2,b3⟩:=rows ge;obtain⟨t,u,gq⟩:=mD W4 He.o;clear Ho xp t4 ge vS q0 q1 q2 H8 cQ pe si;go_upto_region 8 with fail;rw[<-tH.o]
 by_cases jb:x=x'/\y=y'/\z=z'
 ·obtain⟨rfl,rfl,rfl⟩:=jb;go_wp2_with fail;refine(Xk _ _ _ _).mono ?_;rintro _ w5⟨rfl,qs⟩;have Hu:J (M D w w5):=by rw[qs];exact He.go (Ta _ _ _)
  clear qs;go_wp2;refine QK (v:=aI #[L ⟨#[]⟩,L ⟨#[]⟩,_]) (results_tmp3 results94 _ _ _) rfl ?_;exact⟨Hu,λ_=>⟨_,_,rfl⟩,λh=>(h (by simp)).elim⟩
 ·have cR:J _:=HPA jb;have xw:J _:=jb
  by_cases hx:x=x'
  ·by_cases hy:y=y'
   ·have hz:¬(z:Int)=(z':Int):=λh=>jb ⟨hx,hy,by omega⟩;subst hx hy;go_wp2_with fail;refine(cR _ _ _ _ _ He yu tI).mono ?_;rintro _ w5⟨kI,sx,sy,(HR:J _),rfl⟩;have Hu:J _:=He.go kI;clear kI cR;go_wp2;refine QK (v:=aI #[L sx,L sy,aK]) (results_tmp3 results94 _ _ _) rfl ?_;exact⟨Hu.o,λh=>absurd h (by simpa using xw.o),λ_=>HR.o⟩
   ·have hy2:¬(y:Int)=(y':Int):=λh=>hy (by omega);subst hx;clear jb hy;go_wp2_with fail;refine(cR _ _ _ _ _ He yu tI).mono ?_;rintro _ w5⟨kI,sx,sy,(HR:J _),rfl⟩;have Hu:J _:=He.go kI;clear kI cR;go_wp2;refine QK (v:=aI #[L sx,L sy,aK]) (results_tmp3 results94 _ _ _) rfl ?_;exact⟨Hu.o,λh=>absurd h (by simpa using xw.o),λ_=>HR.o⟩
  ·clear jb;go_wp2_with fail;refine(cR _ _ _ _ _ He yu tI).mono ?_;rintro _ w5⟨kI,sx,sy,(HR:J _),rfl⟩;have Hu:J _:=He.go kI;clear kI cR;go_wp2;refine QK (v:=aI #[L sx,L sy,aK]) (results_tmp3 results94 _ _ _) rfl ?_;exact⟨Hu.o,λh=>absurd h (by simpa using xw.o),λ_=>HR.o⟩
theorem Jg6(wj:Int)(hb s1 s2:BA)(c:BA×Int)(P:BA->BA->Bool->Prop)(h:∀W,M D w W->aB N 94 #[O I (wj:Int),L hb,aH #[L c.1,O I c.2],L s1,L s2] W λe w'=>M D W w'/\∃sx sy ev,e=aC (aI #[L sx,L sy,ev])/\((ev=aK/\P sx sy true)\/(∃t u,ev=aJ t u)/\P sx sy false)):
  aB N 51 #[O I (wj:Int),L hb,aH #[L c.1,O I c.2],L s1,L s2] w λe w'=>M D w w'/\∃sx sy b,P sx sy b/\e=aC (aI #[L sx,L sy,aL b]):=by
 obtain⟨s,aZ⟩:=c;have H:J _:=h;dsimp only at H ⊢;go_enter func51,ntmps51;go_wp2_with fail;refine(H _ (Ta _ _ _)).mono ?_;rintro _ w1⟨H6,sx,sy,ev,rfl,uT⟩;have H3:J _:=(Ta D w _).go H6
 rcases uT with⟨rfl,hP⟩|⟨⟨t,u,rfl⟩,hP⟩
 ·have HP:J _:=hP;go_upto_region 2 with fail;go_quiet (fail);go_wp2;refine QK (v:=aI #[L sx,L sy,aL true]) (results_tmp3 results51 _ _ _) rfl ?_;exact⟨H3.go (Td _ _ _),sx,sy,true,HP,rfl⟩
 ·have HP:J _:=hP;go_upto_region 2 with fail;go_quiet (fail);go_wp2;refine QK (v:=aI #[L sx,L sy,aL false]) (results_tmp3 results51 _ _ _) rfl ?_;exact⟨H3.go (Td _ _ _),sx,sy,false,HP,rfl⟩

theorem Joc(h:laidMetH N Rows.blocksUptoRow.laid W):(∃E:Nat->Addr,Env E W/\Sent E W/\∀g∈Ss,(E g).block<W.heap.size)/\Ast W/\Alk W:=by
 rw[MakeChecks.laidMetH_plain _ _ _ (by kernel_rfl)]at h;have h3:=h.tail.tail.tail;have hs:∀g∈Ss,JdA W g (tx g):=by
  intro g hg;simp only[Ss,List.mem_cons,QD,or_false]at hg
  rcases hg with rfl|rfl|rfl|rfl|rfl|rfl|rfl|rfl
  ·exact XV h3.tail (by kernel_rfl) (by kernel_rfl)
  ·exact XV h3.tail.tail (by kernel_rfl) (by kernel_rfl)
  ·exact XV h3.tail.tail.tail (by kernel_rfl) (by kernel_rfl)
  ·exact XV h3.tail.tail.tail.tail (by kernel_rfl) (by kernel_rfl)
  ·exact XV h3.tail.tail.tail.tail.tail (by kernel_rfl) (by kernel_rfl)
  ·exact XV h3.tail.tail.tail.tail.tail.tail (by kernel_rfl) (by kernel_rfl)
  ·exact XV h3.tail.tail.tail.tail.tail.tail.tail (by kernel_rfl) (by kernel_rfl)
  ·exact XV h3 (by kernel_rfl) (by kernel_rfl)
 have ht:laidMet N [("trove/digest.roundConstants",Lib.tabData aF Ks)] W:=h3.tail.tail.tail.tail.tail.tail.tail.tail.tail.tail.tail.tail.tail;have hast:JdA W 11 (txOf Rows.laid_trove_fault_Astray):=XV h3.tail.tail.tail.tail.tail.tail.tail.tail (by kernel_rfl) (by kernel_rfl);have halk:JdA W 8 (txOf Rows.laid_trove_fault_Alike):=XV h3.tail.tail.tail.tail.tail.tail.tail.tail.tail (by kernel_rfl) (by kernel_rfl);have tC:=Lib.tabIs_of_head gTab Jl8 underlying486 underlying429 Jpw Jpv ht;have hp:laidMet N (("internal/strconv.uint64pow10",Lib.tabData aD Lib.pow10Tab)::_) W:=h.tail.tail;have uz:=Lib.tabIs_of_head gPow Jl7 underlying503 underlying78 JlS Jpu hp;refine⟨Jpy hs ?_ uz (λi hi=>tC.cell gTab i hi),by obtain⟨a,_,_,_,h1,_⟩:=hast;exact⟨_,_,h1⟩,by obtain⟨a,_,_,_,h1,_⟩:=halk;exact⟨_,_,h1⟩⟩;obtain⟨ps,hv,_⟩:=h.tail;obtain⟨g,t,cs,fuel,p,q,hg,_,an,_⟩:=hv;obtain rfl:g=17:=lM.inj (hg.symm.trans (show prog.globalNamed "math/bits.deBruijn64tab" =Z 17 by kernel_rfl));unfold World.var? at an;rw[hg]at an;simp only[Qu]at an
 split at an
 ·rename_i hh;exact(Jb hh)
 ·cases an

theorem Ji1(wj:Nat)(hw:wj<=32)(ch:Ch)(ts:List TxL)(ho:∀t∈ts,∀o∈t.2,JC o):(XQ wj ch ts).1.size<=1000:=by
 unfold XQ
 split
 ·rename_i hm;obtain⟨h3,qH⟩:=(Jb2 wj ts ho).1 hm
  split
  ·rename_i st _;rw[Jh];have h1:=Jcy wj hw ts qH ts.length;rw[Jcx]at h1;unfold Jar Jbr Hn;simp only[Qe,Jf,Yw,Jj wj hw,Xw (dgW wj) wj (Jj wj hw)];omega
  ·exact lN _
 ·exact lN _
theorem Jh2{ch':Ch}(h:Xv wj ch t=.ok ch'):ch'.length=ch.length+1:=by
 unfold Xv at h
 split at h
 ·cases h
 ·split at h
  ·cases h
  ·split at h
   ·cases h
   ·split at h
    ·cases h
    ·split at h
     ·cases h
     ·cases h
      simp
theorem JkI{α β:Type}(f:α->β)(l:List α)(d:α):l.map f=(List.range l.length).map λi=>f (l.getD i d):=by
 apply List.ext_getElem?;intro i;rw[lD,lD]
 by_cases h:i<l.length
 ·rw[lJ h,Qd h];simp[h]
 ·rw[List.getElem?_eq_none (by omega),List.getElem?_eq_none (by simp;omega)];rfl
abbrev dSl:Sl×Sl:=((Y,0,0),Y,0,0)
def cOf(ts:List TxL)(i:Nat):List VV:=(ts.getD i ([],[])).1.map encC
def oOf(ts:List TxL)(i:Nat):List VV:=(ts.getD i ([],[])).2.map encO
theorem TxsR.vr{l:List (Sl×Sl)}(h:TxsR B w v l):VR B w v (l.map encT):=by
 rcases h with⟨h,rfl⟩|⟨gi,oi,c,h1,h2,h3,h4⟩
 ·exact aM ⟨h,rfl⟩
 ·exact aN ⟨gi,oi,c,by rw[QM];exact h1,h2,h3,λi hi=>by rw[QM]at hi;rw[lI];exact h4 i hi⟩
theorem YE.vr{l:List (BA×Int)}(h:YE B w v l):VR B w v (l.map encC):=by
 rcases h with⟨h,rfl⟩|⟨gi,oi,c,h1,h2,h3,h4⟩
 ·exact aM ⟨h,rfl⟩
 ·exact aN ⟨gi,oi,c,by rw[QM];exact h1,h2,h3,λi hi=>by rw[QM]at hi;rw[lI];exact h4 i hi⟩
theorem Yz.vr{l:List (Nat×Nat)}(h:Yz B w v l):VR B w v (l.map encO):=by
 rcases h with⟨h,rfl⟩|⟨gi,oi,c,h1,h2,h3,h4⟩
 ·exact aM ⟨h,rfl⟩
 ·exact aN ⟨gi,oi,c,by rw[QM];exact h1,h2,h3,λi hi=>by rw[QM]at hi;rw[lI];exact h4 i hi⟩
theorem Jgr(l:List (Nat×Nat)):∀x∈l.map encO,ShO x:=λx hx=>by
 obtain⟨y,_,rfl⟩:=QL.1 hx;exact⟨_,_,rfl⟩
theorem JoM(l:List (BA×Int)):∀x∈l.map encC,ShC x:=λx hx=>by
 obtain⟨y,_,rfl⟩:=QL.1 hx;exact⟨_,_,rfl⟩
theorem Jp9(h:TxsR B w v sl)(hs:TxIs B w ts sl)(hb:∀t∈ts,t.1.length<=1000000/\t.2.length<=1000000):
  TxV B w v ts.length (λi=>sl.getD i dSl) (cOf ts) (oOf ts):=by
 have e:∀i (hi:i<ts.length),ts.getD i ([],[])=ts[i]:=λi hi=>by simp[hi]
 have e':∀i (hi:i<sl.length),sl.getD i dSl=sl[i]:=λi hi=>by simp[hi]
 refine⟨?_,λi hi=>?_,λi hi=>?_⟩
 ·have:=h.vr;rw[JkI encT sl dSl,<-hs.1]at this;exact this
 ·have xV:i<sl.length:=by rw[<-hs.1];exact hi
  unfold cOf sV1;rw[e i hi,e' i xV];exact⟨(hs.2 i hi xV).1.vr,JoM _,by rw[QM];exact(hb _ (Qx hi)).1⟩
 ·have xV:i<sl.length:=by rw[<-hs.1];exact hi
  unfold oOf sV1;rw[e i hi,e' i xV];exact⟨(hs.2 i hi xV).2.vr,Jgr _,by rw[QM];exact(hb _ (Qx hi)).2⟩
theorem Jmp{B':Nat}{nb gt:Nat}{vi vo:aG}{ga gb hb:Nat->Nat}(h:Xj B' V nb gt ts.length vi vo (cOf ts) (oOf ts) ga gb hb 0):Jlx V (R (Z ⟨gt,0,Y⟩) ts.length (ts.length+8)) ts:=by
 refine⟨(List.range ts.length).map λi=>((Z ⟨ga i,0,Y⟩,(cOf ts i).length,(cOf ts i).length+8),(Z ⟨gb i,0,Y⟩,(oOf ts i).length,(oOf ts i).length+8)),aN ⟨gt,0,ts.length+8,by simp,(Jb h.txs),(Jb h.txs),λi hi=>?_⟩,by simp,λj x t hx ht=>?_⟩
 ·simp only[QM,List.length_range]at hi;have:=Xp h.txs (i:=i) (txE (cOf ts) (oOf ts) ga gb i) (by
   rw[QF (by simpa using hi),lD,lJ hi];rfl)
  simp only[lI,List.getElem_range,Nat.zero_add];exact this
 ·obtain⟨hj,rfl⟩:=Qo.1 ht;rw[lD,lJ hj]at hx;simp only[Option.map_some,Qh]at hx;subst hx;have r1:=(h.lc.rowC j (by omega) hj).2;have r2:=(h.lc.rowO j (by omega) hj).2;have e:ts.getD j ([],[])=ts[j]:=by simp[hj]
  unfold cOf at r1 ⊢;unfold oOf at r2 ⊢;rw[e]at r1 r2;simp only[e,QM];refine⟨aN ⟨ga j,0,_,rfl,(Jb r1),(Jb r1),λi hi=>?_⟩,aN ⟨gb j,0,_,rfl,(Jb r2),(Jb r2),λi hi=>?_⟩⟩
  ·have:=Xp r1 (i:=i) (encC (ts[j].1)[i]) (by
    rw[QF (by simpa using hi),lD,Qd hi];rfl)
   rw[Nat.zero_add];exact this
  ·have:=Xp r2 (i:=i) (encO (ts[j].2)[i]) (by
    rw[QF (by simpa using hi),lD,Qd hi];rfl)
   rw[Nat.zero_add];exact this

def Duo(base:Nat)(w:aA)(n lb rb:Nat)(F G:Nat->Prop):Prop:=
 ∃wj ch vL lv b,LAt wj base 0 w lb F 0 ch/\RfAt wj base w rb G ch vL lv b/\ch.length<=n/\∀j,F j->¬G j
def Jdy(base:Nat)(w:aA)(n lb rb:Nat)(F G:Nat->Prop)(w':aA):Prop:=
 M (λj=>F j\/G j) w w'/\∃F' G',Duo base w' (n+1) lb rb F' G'/\(∀j,F' j->F j\/w.heap.size<=j)/\∀j,G' j->G j\/w.heap.size<=j
theorem Duo.tch(h:Duo base w n lb rb F G)(k:M S w w')(hs:∀j,S j->¬F j/\¬G j):Duo base w' n lb rb F G:=by
 obtain⟨wj,ch,vL,lv,b,h1,h2,h3,h4⟩:=h;exact⟨wj,ch,vL,lv,b,h1.keep k (λj hj=>(hs j hj).1),h2.tch k (λj hj=>(hs j hj).2),h3,h4⟩
theorem Duo.up(h:Duo base w n lb rb F G)(hm:n<=m):Duo base w m lb rb F G:=by
 obtain⟨wj,ch,vL,lv,b,h1,h2,h3,h4⟩:=h;exact⟨wj,ch,vL,lv,b,h1,h2,Qm h3 hm,h4⟩
theorem LAt.low(h:LAt wj base pn w lb F fl ch):∀j,F j->base<=j/\j<w.heap.size:=by
 obtain⟨_,lg,cb,r,bs,lv,C⟩:=h;exact C.low
theorem Duo.own(h:Duo base w n lb rb F G):∀j,F j\/G j->base<=j/\j<w.heap.size:=by
 obtain⟨wj,ch,vL,lv,b,h1,h2,h3,h4⟩:=h;intro j hj
 rcases hj with hj|hj
 ·exact h1.low j hj
 ·exact h2.own j hj
theorem Duo.to(h:Duo base w n lb rb F G)(k:M D w w'):Jdy base w n lb rb F G w':=
 ⟨k.mono (λ_ e=>e.elim),F,G,(h.tch k (λ_ e=>e.elim)).up (by omega),λ_ e=>aM e,λ_ e=>aM e⟩
def SubQ(base:Nat)(w:aA)(lb rb:Nat)(F G:Nat->Prop)(wj:Nat)(ch:Ch)(q:BA)(k:Int)(V:aA):Prop:=
 q.size<=1100000/\M F w V/\∃F' ch' vL lv b,(∀j,F' j->F j\/w.heap.size<=j)/\LAt wj base 0 V lb F' 0 ch'/\RfAt wj base V rb G ch vL lv b/\match Xv wj ch q.data.toList with
  | .ok c=>k=0/\ch'=c
  | .error er=>k=Xr er/\ch'=ch
theorem SubQ.next{q:BA}{k:Int}(h:SubQ base w lb rb F G wj ch q k V)(t:M D V V'):SubQ base w lb rb F G wj ch q k V':=by
 obtain⟨h0,h1,F',ch',vL,lv,b,h2,h3,h4,h5⟩:=h;exact⟨h0,h1.go t,F',ch',vL,lv,b,h2,h3.keep t (λ_ e=>e.elim),h4.tch t (λ_ e=>e.elim),h5⟩
theorem JfI(E:Nat->Addr){vL:aG}{lv:List Lv}{b:BA}(hF:Xx E base w)(hA:LAt wj base 0 w lb F 0 ch)(hR:RfAt wj base w rb G ch vL lv b)(hd:∀j,F j->¬G j)(hc:ch.length<=900000)(q:BA)(hq:q.size<=1100000)(V:aA)(hV:M D w V):
  aB Tryz.prog 19 #[X (Z ⟨lb,0,Y⟩),L q] V λe V'=>∃k:Int,e=aC (O I k)/\(∃S,(∀j,S j->j<w.heap.size)/\M S V V')/\SubQ base w lb rb F G wj ch q k V':=by
 refine(Jhl E wj base q (hA.keep hV (λ_ e=>e.elim)) (hF.tch hV (λ_ e=>e.elim)) hq (by omega)).mono λe V' k=>?_;obtain⟨t,F',cF,k⟩:=k;have hw:=hA.1.2;rw[Jja wj hw ch (by omega)]at k;have hT:M F w V':=(hV.mono (λ_ e=>e.elim)).trans t (λ_ e=>aM e);have h1:∀j,F' j->F j\/w.heap.size<=j:=λj hj=>(cF j hj).imp id (λh=>Qm hV.size h);have h2:=(hR.tch hV (λ_ e=>e.elim)).tch t hd
 cases hs:Xv wj ch q.data.toList with
 | ok c=>
  rw[hs]at k;exact⟨0,k.1,⟨F,λj hj=>(hA.low j hj).2,t⟩,hq,hT,F',c,vL,lv,b,h1,k.2,h2,by rw[hs];exact⟨rfl,rfl⟩⟩
 | error er=>
  rw[hs]at k;exact⟨_,k.1,⟨F,λj hj=>(hA.low j hj).2,t⟩,hq,hT,F',ch,vL,lv,b,h1,k.2,h2,by rw[hs];exact⟨rfl,rfl⟩⟩
theorem JeG(hd:∀j,F j->¬G j)(hG:∀j,G j->j<w.heap.size)(hn:ch.length<=n)(hc:ch.length<=900000)(gX:base<=w.heap.size)(q:BA)(k:Int)(V:aA)(h:SubQ base w lb rb F G wj ch q k V):
  aB Tryz.prog 110 #[X (Z ⟨rb,0,Y⟩),L q] V λe V'=>e=aC (O I k)/\Jdy base w n lb rb F G V':=by
 obtain⟨hq,hT,F',ch',vL,lv,b,h1,hA,hR,hk⟩:=h;have hs:=hT.size;have hFG:∀j,F' j->¬G j:=λj hj hg=>by
  rcases h1 j hj with h|h
  ·exact hd j h hg
  ·have:=hG j hg;omega
 refine(JmR dgC hA.1.1 hA.1.2 hR (by omega) (by omega) q (by omega)).mono λe V' r=>?_;unfold RSub at r
 cases qZ:Xv wj ch q.data.toList with
 | ok c=>
  rw[qZ]at hk r;dsimp only at hk r;obtain⟨rfl,rfl⟩:=hk;obtain⟨r1,r2,G',vL',lv',b',r3,r4⟩:=r;have hl:=Jh2 qZ;refine⟨r1,(hT.mono (λ_ e=>aM (aM e))).trans r2 (λ_ e=>aM (aN e)),F',G',⟨wj,ch',vL',lv',b',hA.keep r2 (λj hj hf=>hFG j hf hj),r3,by omega,λj hj hg=>?_⟩,h1,λj hj=>(r4 j hj).imp id (λh=>Qm hs h)⟩
  rcases r4 j hg with h|h
  ·exact hFG j hj h
  ·have:=(hA.low j hj).2;omega
 | error er=>
  rw[qZ]at hk r;dsimp only at hk r;obtain⟨rfl,rfl⟩:=hk;exact⟨r.1,(hT.mono (λ_ e=>aM (aM e))).trans r.2 (λ_ e=>e.elim),F',G,⟨wj,ch',vL,lv,b,hA.keep r.2 (λ_ e=>e.elim),hR.tch r.2 (λ_ e=>e.elim),by omega,hFG⟩,h1,λ_ e=>aM e⟩
structure OpOk(base:Nat)(w:aA)(x:OpL)(os:List (Nat×Nat))(ts:List TxL)(sl:List (Sl×Sl)):Prop where
 ra: -9223372036854775808<=x.a/\x.a<9223372036854775808
 rw': -9223372036854775808<=x.which/\x.which<9223372036854775808
 s:x.s.size<=1100000
 rb: -9223372036854775808<=x.b/\x.b<9223372036854775808
 rc: -9223372036854775808<=x.cn/\x.cn<9223372036854775808
 cx:x.cx.size<=9223372036854775807
 t:x.t.size<=1100000
 u:x.u.size<=1100000
 outs:Yz base w (R x.os.1 x.os.2.1 x.os.2.2) os
 oOk:∀o∈os,JC o
 oLen:os.length<1000000
 txs:TxsR base w (R x.ts.1 x.ts.2.1 x.ts.2.2) sl
 tIs:TxIs base w ts sl
 tR:∀t∈ts,InR t
 tLen:ts.length<1000000
 tFew:∀t∈ts,t.1.length<1000000/\t.2.length<1000000/\∀c∈t.1,c.1.size<=9223372036854775807
theorem OpOk.tch(h:OpOk base w x os ts sl)(k:M S w w')(hs:∀j,S j->base<=j):OpOk base w' x os ts sl:=
 { h with outs:=h.outs.tch k hs,txs:=h.txs.tch k hs,tIs:=⟨h.tIs.1,λi h1 h2=>⟨(h.tIs.2 i h1 h2).1.tch k hs,(h.tIs.2 i h1 h2).2.tch k hs⟩⟩ }
theorem Jkj(E:Nat->Addr)(hF:Xx E base w)(h:Duo base w n lb rb F G)(hn:n<=900000)(gX:base<=w.heap.size)(wb:Nat)(x:OpL)(hx:OpOk base w x os ts sl):
  aB Tryz.prog 117 #[X (Z ⟨wb,0,Y⟩),X (Z ⟨lb,0,Y⟩),X (Z ⟨rb,0,Y⟩),opV x] w λe w'=>e=aC (aL true)/\Jdy base w n lb rb F G w':=by
 have hD:=h;obtain⟨wj,ch,vL,lv,b,h1,h2,h3,h4⟩:=h;have Hi:=Ji1 wj h1.1.2 ch ts (λt ht=>(hx.tR t ht).2);have hc:ch.length<=900000:=by omega
 refine Job w wb lb rb x gX ts.length _ _ _ (by have:=hx.tLen;omega) (Jp9 hx.txs hx.tIs (λt ht=>by have:=hx.tFew t ht;omega)) hx.ra.1 hx.ra.2 (XQ wj ch ts).1 (by omega) (XQ wj ch ts).2 (SubQ base w lb rb F G wj ch) _ (λV B' nb gt vi vo ga gb hb hV hA=>?_) (λV hV=>?_) (λq hq V hV=>JfI E hF h1 h2 h4 hc q (by omega) V hV) (λq k V V' hq ht=>hq.next ht) (λq k V hq=>?_) (λV hV=>hD.to hV)
 ·exact(JkB E wj base _ ts (h1.keep hV (λ_ e=>e.elim)) (hF.tch hV (λ_ e=>e.elim)) (Jmp hA) (by omega) hx.tLen (λt ht=>⟨(hx.tFew t ht).1,(hx.tFew t ht).2.1⟩) hx.tR).mono λe V' k=>⟨k.2,k.1⟩
 ·exact JpU dgC h1.1.1 h1.1.2 (h2.tch hV (λ_ e=>e.elim)) (by omega) base _ ts sl (hx.txs.tch hV (λ_ e=>e.elim)) ((hx.tch hV (λ_ e=>e.elim)).tIs) (by have:=hx.tLen;omega) (λt ht=>by have:=hx.tFew t ht;exact⟨by omega,by omega,this.2.2⟩) (λt ht=>(hx.tR t ht).2)
 ·exact JeG h4 (λj hj=>(h2.own j hj).2) h3 hc gX q k V hq

def BoxC(V:aA)(xb:Nat)(x:OpL):Prop:=V.cell? ⟨xb,0,Y⟩=Z (O I x.kind)/\V.cell? ⟨xb,1,Y⟩=Z (O I x.a)/\V.cell? ⟨xb,2,Y⟩=Z (O I x.b)/\V.cell? ⟨xb,3,Y⟩=Z (O I x.which)/\V.cell? ⟨xb,4,Y⟩=Z (L x.s)/\V.cell? ⟨xb,5,Y⟩=Z (L x.t)/\V.cell? ⟨xb,6,Y⟩=Z (L x.u)/\V.cell? ⟨xb,7,Y⟩=Z (L x.cx)/\V.cell? ⟨xb,8,Y⟩=Z (O I x.cn)/\V.cell? ⟨xb,9,Y⟩=Z (R x.os.1 x.os.2.1 x.os.2.2)/\V.cell? ⟨xb,10,Y⟩=Z (R x.ts.1 x.ts.2.1 x.ts.2.2)
theorem JnU{xb:Nat}(h:V.heap[xb]? =Z (T (opC x) 75)):BoxC V xb x:=
 ⟨Ja h,Ja h,Ja h,Ja h,Ja h,Ja h,Ja h,Ja h,Ja h,Ja h,Ja h⟩
theorem Ja8(w:aA)(x:OpL):∃w0,w0=w.alloc (T (opC x) 75)/\M D w w0/\∀V S,M S w0 V->(∀j,S j->j<w.heap.size\/w0.heap.size<=j)->BoxC V w.heap.size x:=by
 have h:=Qf w (T (opC x) 75);refine⟨_,rfl,Ta _ _ _,λV S hV hS=>JnU ((hV.block _ (Jb h) (λe=>?_)).trans h)⟩;have:=hS _ e;rw[World.size_alloc]at this;omega
theorem Jis(E:Nat->Addr)(hF:Xx E base w)(h:Duo base w n lb rb F G)(hn:n<=900000)(gX:base<=w.heap.size)(wb:Nat)(x:OpL)(hx:OpOk base w x os ts sl):
  aB N 70 #[X (Z ⟨wb,0,Y⟩),X (Z ⟨lb,0,Y⟩),X (Z ⟨rb,0,Y⟩),opV x] w λe w'=>e=aC (aL true)/\Jdy base w n lb rb F G w':=by
 obtain⟨w0,(qM:J _),t0,(kF:J _)⟩:=Ja8 w x;have HDT:J (∀V,M D w V->_):=λV hV=>h.to hV;have HSE:J (aB N 117 #[X (Z ⟨wb,0,Y⟩),X (Z ⟨lb,0,Y⟩),X (Z ⟨rb,0,Y⟩),opV x] w0 λe w'=>e=aC (aL true)/\Jdy base w n lb rb F G w'):=(Jkj E (hF.tch t0 (λ_ e=>e.elim)) (h.tch t0 (λ_ e=>e.elim)) hn (Qm gX t0.size) wb x (hx.tch t0 (λ_ e=>e.elim))).mono λe w' k=>⟨k.1,by
  obtain⟨k1,F',G',k2,k3,k4⟩:=k.2;exact⟨(t0.mono (λ_ e=>e.elim)).trans k1 (λ_ e=>aM e),F',G',k2,λj hj=>(k3 j hj).imp id (λe=>Qm t0.size e),λj hj=>(k4 j hj).imp id (λe=>Qm t0.size e)⟩⟩
 obtain⟨wj,ch,vL,lv,b,h1,h2,h3,h4⟩:=h;have hc:ch.length<=900000:=by omega
 have ki:J (∀V,M D w V->_):=λV hV=>JfI E hF h1 h2 h4 hc x.s hx.s V hV;have jL:J (∀k V,SubQ base w lb rb F G wj ch x.s k V->_):=λk V hq=>JeG (n:=n) h4 (λj hj=>(h2.own j hj).2) h3 hc gX x.s k V hq;have H3:J (∀V,M D w V->_):=λV hV=>Jof wj base (h1.keep hV (λ_ e=>e.elim));have H4:J (∀V,M D w V->_):=λV hV=>JhE (h2.tch hV (λ_ e=>e.elim)) (by omega);have HH1:J (∀V,M D w V->_):=λV hV=>JiE E wj base x.a (h1.keep hV (λ_ e=>e.elim)) (hF.tch hV (λ_ e=>e.elim));have HH2:J (∀V,M D w V->_):=λV hV=>JhA h1.1.2 (h2.tch hV (λ_ e=>e.elim)) (by omega) x.a hx.ra.1 hx.ra.2;have kC:J _:=t0;generalize ZD ch x.a=HD at *;generalize (if 0<=x.a/\x.a<(ch.length:Int) then (0:Int) else 7)=HC at *;generalize (ch.length:Int)-1=TP at *;clear hF gX hx t0 h1 h2 h3 h4 hc;obtain⟨kind,a,b',which,s,t,u,cx,cn,⟨oa,on,oc⟩,⟨ta,tn,tc⟩⟩:=x;simp only[BoxC]at *;go_enter func70,ntmps70;go_upto_region 1 with fail;rw[<-qM.o];obtain⟨c0,c1,c2,c3,c4,c5,c6,c7,c8,c9,c10⟩:=kF w0 _ (Te D _) (λ_ e=>e.elim)
 by_cases k34:kind=3\/kind=4
 ·rcases k34 with rfl|rfl
  all_goals go_wp2_with fail;refine HSE.mono ?_;rintro _ w1⟨rfl,(mT:J _)⟩;go_wp2;go_ret;exact⟨rfl,mT⟩
 ·have k3:¬kind=3:=λe=>k34 (aM e);have k4:¬kind=4:=λe=>k34 (aN e)
  by_cases k5:kind=5
  ·subst k5;go_wp2_with fail;refine(ki w0 kC).mono ?_;rintro _ w1⟨k,rfl,⟨S,hS,ht⟩,(HQ:J _)⟩;clear c0 c1 c2 c3 c4 c5 c6 c7 c8 c9 c10;obtain⟨_,_,_,_,c4,_⟩:=kF w1 _ ht (λj hj=>aM (hS j hj));go_wp2_with fail;refine(jL k w1 HQ).mono ?_;rintro _ w2⟨rfl,(mT:J _)⟩;clear c4;go_wp2_with fail;refine(Jb1 _ _).mono ?_;rintro _ _⟨rfl,rfl⟩;go_wp2;go_ret;exact⟨rfl,mT⟩
  ·by_cases k6:kind=6
   ·subst k6;go_wp2_with fail;refine(H3 w0 kC).mono ?_;rintro _ w1⟨rfl,H6⟩;have H8:J _:=kC.go H6;go_wp2_with fail;refine(H4 w1 H8).mono ?_;rintro _ w2⟨rfl,H7⟩;have He:J _:=H8.go H7;go_wp2;go_ret;exact⟨rfl,HDT _ He⟩
   ·go_wp2_with fail;refine(HH1 w0 kC).mono ?_;rintro _ w1⟨rfl,(H8:J _)⟩;clear c0 c1 c2 c3 c4 c5 c6 c7 c8 c9 c10;obtain⟨_,c1,_⟩:=kF w1 _ H8 (λ_ e=>e.elim);go_wp2_with fail;refine(HH2 w1 (kC.go H8)).mono ?_;rintro _ w2⟨rfl,H7⟩;have He:J _:=(kC.go H8).go H7;go_wp2_with fail;refine(Jb1 _ _).mono ?_;rintro _ _⟨rfl,rfl⟩;go_wp2;go_ret;exact⟨rfl,HDT _ He⟩

structure WAt(base:Nat)(w:aA)(wb:Nat)(vls vrs vl vm:aG)(aS aW:List aG):Prop where
 row:w.heap[wb]? =Z (T #[vls,vrs,vl,vm] 71)
 ls:VOwn 32 base w vls aS
 rs:VOwn 129 base w vrs aW
def WOwn(wb:Nat)(vls vrs:aG)(j:Nat):Prop:=j=wb\/vls.ownBlock=Z j\/vrs.ownBlock=Z j
theorem WAt.tch(h:WAt base w wb vls vrs vl vm aS aW)(k:M S w w')(hs:∀j,S j->¬WOwn wb vls vrs j):WAt base w' wb vls vrs vl vm aS aW:=
 ⟨(k.block _ (Jb h.row) (λe=>hs _ e (aM rfl))).trans h.row,h.ls.tch k (λ_ hj e=>hs _ e (aN (aM hj))),h.rs.tch k (λ_ hj e=>hs _ e (aN (aN hj)))⟩
theorem WAt.app1{L':List aG}(h:WAt base w wb vls vrs vl vm aS aW)(hv:VOwn 32 base w3 v' L')(hg:w.grownBy w3 vls.ownBlock):
  w3.cell? ⟨wb,0,Y⟩=Z vls/\(∀j,w3.frozen? ⟨wb,j,Y⟩=false)/\WAt base (w3.setCell ⟨wb,0,Y⟩ v') wb v' vrs vl vm L' aW/\M (WOwn wb vls vrs) w (w3.setCell ⟨wb,0,Y⟩ v'):=by
 have t3:M (λj=>vls.ownBlock=Z j) w w3:=(Tg hg).mono (λj hj=>aM hj.symm);have r3:=(t3.block wb (Jb h.row) (h.ls.apart h.row (by decide))).trans h.row;have e4:=Qj w3 wb 0 _ _ _ v' r3;have t4:=Ts w3 wb #[v',vrs,vl,vm];have kP:VOwn 129 base w3 vrs aW:=h.rs.tch t3 (λj hj e=>by
  obtain⟨_,_,cs,m,hr⟩:=h.rs.own j hj;exact h.ls.apart hr (by decide) e)
 refine⟨Ja r3,λj=>Qg _ _ _ _ _ r3,?_,?_⟩
 ·rw[e4];exact⟨Qi _ _ _ _ _ _ r3,hv.tch t4 (λj hj e=>by rw[e]at hj;exact hv.apart r3 (by decide) hj),kP.tch t4 (λj hj e=>by rw[e]at hj;exact kP.apart r3 (by decide) hj)⟩
 ·rw[e4];exact(t3.mono (λj hj=>aM (aN (aM hj)))).trans t4 (λj hj=>aM (aM hj))
theorem WAt.app2{R':List aG}(h:WAt base w wb vls vrs vl vm aS aW)(hv:VOwn 129 base w3 v' R')(hg:w.grownBy w3 vrs.ownBlock):
  w3.cell? ⟨wb,1,Y⟩=Z vrs/\(∀j,w3.frozen? ⟨wb,j,Y⟩=false)/\WAt base (w3.setCell ⟨wb,1,Y⟩ v') wb vls v' vl vm aS R'/\M (WOwn wb vls vrs) w (w3.setCell ⟨wb,1,Y⟩ v'):=by
 have t3:M (λj=>vrs.ownBlock=Z j) w w3:=(Tg hg).mono (λj hj=>aM hj.symm);have r3:=(t3.block wb (Jb h.row) (h.rs.apart h.row (by decide))).trans h.row;have e4:=Qj w3 wb 1 _ _ _ v' r3;have t4:=Ts w3 wb #[vls,v',vl,vm];have kP:VOwn 32 base w3 vls aS:=h.ls.tch t3 (λj hj e=>by
  obtain⟨_,_,cs,m,hr⟩:=h.ls.own j hj;exact h.rs.apart hr (by decide) e)
 refine⟨Ja r3,λj=>Qg _ _ _ _ _ r3,?_,?_⟩
 ·rw[e4];exact⟨Qi _ _ _ _ _ _ r3,kP.tch t4 (λj hj e=>by rw[e]at hj;exact kP.apart r3 (by decide) hj),hv.tch t4 (λj hj e=>by rw[e]at hj;exact hv.apart r3 (by decide) hj)⟩
 ·rw[e4];exact(t3.mono (λj hj=>aM (aN (aN hj)))).trans t4 (λj hj=>aM (aM hj))
theorem JiD(wb:Nat)(w:aA):aB N 65 #[X (Z ⟨wb,0,Y⟩),X Y,X Y] w λe w'=>e=aC (aL true)/\w'=w:=by
 go_enter func65,ntmps65;go_wp2;go_ret;exact⟨rfl,rfl⟩
theorem Jn8(h:WAt base w wb vls vrs vl vm aS aW)(a b:Addr)(hL:aS.length<=1000000000)(hR:aW.length<=1000000000)(Ha:base<=w.heap.size):
  aB N 65 #[X (Z ⟨wb,0,Y⟩),X (Z a),X (Z b)] w λe w'=>e=aC (aL true)/\∃vls' vrs',WAt base w' wb vls' vrs' vl vm (aS++[X (Z a)]) (aW++[X (Z b)])/\M (WOwn wb vls vrs) w w'/\∀j,WOwn wb vls' vrs' j->WOwn wb vls vrs j\/w.heap.size<=j:=by
 obtain⟨ia,ic,rfl⟩:=h.ls.shape;obtain⟨ja,jc,rfl⟩:=h.rs.shape;generalize jh:aS.length=ln at *;generalize hrn:aW.length=rn at *;have gD:J (aS.length=ln/\aW.length=rn):=⟨jh,hrn⟩
 obtain⟨W1,(sq:J _)⟩:∃W1,W1=w.alloc (T #[X (Z a)] 32):=⟨_,rfl⟩
 have t1:M D w W1:=by rw[sq];exact Ta _ _ _
 have mV:J _:=h.tch t1 (λ_ e=>e.elim);have xZ:J (W1.cell? ⟨w.heap.size,0,Y⟩=Z (X (Z a))):=by show _=_;rw[sq];exact Ja (Qf _ _)
 have H3:J _:=t1;have HH1:J (W1.heap.size=w.heap.size+1):=by show _=_;rw[sq,World.size_alloc]
 obtain⟨q0, -⟩:=rows h.row;have HBW:J _:=Ha;clear h t1 Ha;go_enter func65,ntmps65;go_upto_region 5 with(at_builtin;rw[<-sq.o];refine Yu JpQ rfl _ _ rfl rfl mV.ls _ (X (Z a)) rfl xZ rfl (by rw[gD.o.1];exact hL) (by have:=HBW.o;have:=HH1.o;omega) ?_;intro v3 w3 uJ xt (HO3:J _);obtain⟨xa,xn,xc,rfl⟩:=uJ.shape3;obtain⟨r0,r1,(jR:J _),(H8:J _)⟩:=mV.app1 uJ xt;clear uJ xt);generalize w3.setCell ⟨wb,0,Y⟩ (R xa xn xc)=w4 at *;obtain⟨W5,(tJ:J _)⟩:∃W5,W5=w4.alloc (T #[X (Z b)] 129):=⟨_,rfl⟩
 have t5:M D w4 W5:=by rw[tJ];exact Ta _ _ _
 have HW5:J _:=jR.tch t5 (λ_ e=>e.elim);have HC5:J (W5.cell? ⟨w4.heap.size,0,Y⟩=Z (X (Z b))):=by show _=_;rw[tJ];exact Ja (Qf _ _)
 have Hu:J _:=t5;obtain⟨-,q0⟩:=rows jR.o.row;clear t5;go_wp2_with (at_builtin;rw[<-tJ.o];refine Yu JpS rfl _ _ rfl rfl HW5.rs _ (X (Z b)) rfl HC5 rfl (by rw[gD.o.2];exact hR) (by have:=HBW.o;have:=HH1.o;have:=H8.o.size;have:=Hu.o.size;omega) ?_;intro v6 w6 hv6 hg6 (HO6:J _);obtain⟨ya,yn,yc,rfl⟩:=hv6.shape3;obtain⟨r0,r1,(HW6:J _),(k8:J _)⟩:=HW5.app2 hv6 hg6;clear hv6 hg6);go_ret;have hs:w.heap.size<=W1.heap.size/\W1.heap.size<=W5.heap.size:=⟨H3.size,Qm H8.size Hu.size⟩
 have ho:∀j,WOwn wb (R xa xn xc) (R ja rn jc) j->WOwn wb (R ia ln ic) (R ja rn jc) j\/w.heap.size<=j:=λj hj=>by
  rcases hj with h|h|h
  ·exact aM (aM h)
  ·rcases HO3 with e|e
   ·rw[e]at h;exact aM (aN (aM h))
   ·rw[e]at h;cases h;exact aN hs.1
  ·exact aM (aN (aN h))
 refine⟨rfl,_,_,HW6,?_,λj hj=>?_⟩
 ·exact(((H3.mono noE).trans H8 (λ_ h=>aM h)).go Hu).trans k8 ho
 ·rcases hj with h|h|h
  ·exact aM (aM h)
  ·exact ho j (aN (aM h))
  ·rcases HO6 with e|e
   ·rw[e]at h;exact ho j (aN (aN h))
   ·rw[e]at h;cases h;exact aN (Qm hs.1 hs.2)

def ptrV(b:Nat):aG:=X (Z ⟨b,0,Y⟩)
structure WOk(base:Nat)(w:aA)(wb n:Nat)(vls vrs vl vm:aG)(ls rs:List Nat)(c:Nat->Nat):Prop where
 at':WAt base w wb vls vrs vl vm (ls.map ptrV) (rs.map ptrV)
 len:ls.length=rs.length
 few:ls.length<=n
 own:∀j,WOwn wb vls vrs j->c j=1/\base<=j/\j<w.heap.size
 duo:∀i lb rb,ls[i]? =Z lb->rs[i]? =Z rb->∃F G,Duo base w n lb rb F G/\(∀j,F j->c j=2*i+2)/\∀j,G j->c j=2*i+3
def WSt(base:Nat)(w:aA)(wb n:Nat)(vl vm:aG):Prop:=∃vls vrs ls rs c,WOk base w wb n vls vrs vl vm ls rs c
theorem WOk.tch{c:Nat->Nat}(h:WOk base w wb n vls vrs vl vm ls rs c)(k:M S w w')(hs:∀j,S j->c j=0):WOk base w' wb n vls vrs vl vm ls rs c:=
 ⟨h.at'.tch k (λj e o=>by have:=(h.own j o).1;rw[hs j e]at this;cases this),h.len,h.few,λj hj=>⟨(h.own j hj).1,(h.own j hj).2.1,Qk (h.own j hj).2.2 k.size⟩,λi lb rb h1 h2=>by
  obtain⟨F,G,d1,d2,d3⟩:=h.duo i lb rb h1 h2;exact⟨F,G,d1.tch k (λj e=>⟨λf=>by have:=d2 j f;rw[hs j e]at this;omega,λf=>by have:=d3 j f;rw[hs j e]at this;omega⟩),d2,d3⟩⟩
theorem WSt.tch0(h:WSt base w wb n vl vm)(k:M D w w'):WSt base w' wb n vl vm:=by
 obtain⟨vls,vrs,ls,rs,c,h⟩:=h;exact⟨vls,vrs,ls,rs,c,h.tch k (λ_ e=>e.elim)⟩
theorem WOk.up{c:Nat->Nat}(h:WOk base w wb n vls vrs vl vm ls rs c)(hm:n<=m):WOk base w wb m vls vrs vl vm ls rs c:=
 ⟨h.at',h.len,Qm h.few hm,h.own,λi lb rb h1 h2=>by
  obtain⟨F,G,d1,d2,d3⟩:=h.duo i lb rb h1 h2;exact⟨F,G,d1.up hm,d2,d3⟩⟩
theorem WSt.up(h:WSt base w wb n vl vm)(hm:n<=m):WSt base w wb m vl vm:=by
 obtain⟨vls,vrs,ls,rs,c,h⟩:=h;exact⟨vls,vrs,ls,rs,c,h.up hm⟩
open Classical in
theorem WOk.led{c:Nat->Nat}(h:WOk base w wb n vls vrs vl vm ls rs c)(h1:ls[i]? =Z lb)(h2:rs[i]? =Z rb)(hd:Duo base w n lb rb F G)(hF:∀j,F j->c j=2*i+2)(hG:∀j,G j->c j=2*i+3)(t:Jdy base w n lb rb F G w'):WSt base w' wb (n+1) vl vm/\M (λj=>base<=j) w w':=by
 obtain⟨t1,F',G',t2,t3,t4⟩:=t;have H5:=hd.own;refine⟨⟨vls,vrs,ls,rs,λj=>if j<w.heap.size then c j else if F' j then 2*i+2 else if G' j then 2*i+3 else 0,h.at'.tch t1 (λj e o=>?_),h.len,by have:=h.few;omega,λj hj=>?_,λk lb' rb' k1 k2=>?_⟩,t1.mono (λj hj=>aM (H5 j hj).1)⟩
 ·have h3:=(h.own j o).1
  rcases e with e|e
  ·have:=hF j e;omega
  ·have:=hG j e;omega
 ·obtain⟨o1,o2,o3⟩:=h.own j hj;exact⟨by rw[if_pos o3];exact o1,o2,Qk o3 t1.size⟩
 ·by_cases hk:k=i
  ·subst hk;rw[h1]at k1;rw[h2]at k2
   cases k1
   cases k2
   refine⟨F',G',t2,λj hj=>?_,λj hj=>?_⟩
   ·by_cases hs:j<w.heap.size
    ·rw[if_pos hs]
     rcases t3 j hj with e|e
     ·exact hF j e
     ·omega
    ·rw[if_neg hs,if_pos hj]
   ·by_cases hs:j<w.heap.size
    ·rw[if_pos hs]
     rcases t4 j hj with e|e
     ·exact hG j e
     ·omega
    ·have:¬F' j:=λhf=>by
      obtain⟨_,_,_,_,_,_,_,_,q⟩:=t2;exact q j hf hj
     rw[if_neg hs,if_neg this,if_pos hj]
  ·obtain⟨F2,G2,d1,d2,d3⟩:=h.duo k lb' rb' k1 k2;refine⟨F2,G2,(d1.tch t1 (λj e=>⟨λf=>?_,λf=>?_⟩)).up (by omega),λj hj=>?_,λj hj=>?_⟩
   ·have:=d2 j f
    rcases e with e|e
    ·have:=hF j e;omega
    ·have:=hG j e;omega
   ·have:=d3 j f
    rcases e with e|e
    ·have:=hF j e;omega
    ·have:=hG j e;omega
   ·rw[if_pos (d1.own j (aM hj)).2];exact d2 j hj
   ·rw[if_pos (d1.own j (aN hj)).2];exact d3 j hj
open Classical in
theorem WOk.join{vls' vrs':aG}{c:Nat->Nat}(h:WOk base w wb n vls vrs vl vm ls rs c)(k:M D w V)(hd:Duo base V 1 lb rb F G)(hF:∀j,F j\/G j->w.heap.size<=j)(hA:WAt base V' wb vls' vrs' vl vm (ls.map ptrV++[ptrV lb]) (rs.map ptrV++[ptrV rb]))(t:M (WOwn wb vls vrs) V V')(hO:∀j,WOwn wb vls' vrs' j->WOwn wb vls vrs j\/V.heap.size<=j)(gX:base<=w.heap.size)(hn:ls.length<n+1):WSt base V' wb (n+1) vl vm/\M (λj=>base<=j) w V':=by
 have hs:=k.size;have H5:=hd.own;have hV:=h.tch k (λ_ e=>e.elim);refine⟨⟨vls',vrs',ls++[lb],rs++[rb],λj=>if j<w.heap.size then c j else if F j then 2*ls.length+2 else if G j then 2*ls.length+3 else 1,?_,by rw[Qe,Qe,h.len];rfl,by rw[Qe];simp;omega,λj hj=>?_,λi lb' rb' k1 k2=>?_⟩,(k.mono (λ_ e=>e.elim)).trans t (λj hj=>aM (h.own j hj).2.1)⟩
 ·rw[List.map_append,List.map_append];exact hA
 ·have Hi:j<V'.heap.size:=by
   rcases hj with e|e|e
   ·rw[e];exact(Jb hA.row)
   ·exact(hA.ls.own j e).2.1
   ·exact(hA.rs.own j e).2.1
  rcases hO j hj with o|o
  ·obtain⟨o1,o2,o3⟩:=h.own j o;exact⟨by rw[if_pos o3];exact o1,o2,Hi⟩
  ·have h1:¬F j:=λe=>by have:=(H5 j (aM e)).2;omega
   have h2:¬G j:=λe=>by have:=(H5 j (aN e)).2;omega
   exact⟨by rw[if_neg (by omega),if_neg h1,if_neg h2],by omega,Hi⟩
 ·have apart:∀j,WOwn wb vls vrs j->j<w.heap.size:=λj hj=>(h.own j hj).2.2
  by_cases hi:i<ls.length
  ·rw[QF hi]at k1;rw[QF (by rw[<-h.len];exact hi)]at k2;obtain⟨F2,G2,d1,d2,d3⟩:=h.duo i lb' rb' k1 k2;refine⟨F2,G2,((d1.tch k (λ_ e=>e.elim)).tch t (λj o=>⟨λf=>?_,λf=>?_⟩)).up (by omega),λj hj=>?_,λj hj=>?_⟩
   ·have:=d2 j f;have:=(h.own j o).1;omega
   ·have:=d3 j f;have:=(h.own j o).1;omega
   ·rw[if_pos (d1.own j (aM hj)).2];exact d2 j hj
   ·rw[if_pos (d1.own j (aN hj)).2];exact d3 j hj
  ·rw[Qz (by omega)]at k1;rw[Qz (by rw[<-h.len];omega)]at k2;obtain rfl:i=ls.length:=by
    have:=(Qo.1 k1).1;simp at this;omega
   rw[Nat.sub_self]at k1;rw[<-h.len,Nat.sub_self]at k2;simp only[List.getElem?_cons_zero,Qh]at k1 k2;subst k1;subst k2;refine⟨F,G,(hd.tch t (λj o=>⟨λf=>?_,λf=>?_⟩)).up (by omega),λj hj=>?_,λj hj=>?_⟩
   ·have:=hF j (aM f);have:=apart j o;omega
   ·have:=hF j (aN f);have:=apart j o;omega
   ·rw[if_neg (by have:=hF j (aM hj);omega),if_pos hj]
   ·have:¬F j:=λhf=>by
     obtain⟨_,_,_,_,_,_,_,_,q⟩:=hd;exact q j hf hj
    rw[if_neg (by have:=hF j (aN hj);omega),if_neg this,if_pos hj]

theorem Two.low(h:Two w W a b c d):JaF W (w.heap.size+1) a b c d/\(∀j,W.frozen? ⟨w.heap.size+1,j,Y⟩=false)/\w.heap.size+2<=W.heap.size:=⟨Jad h.r1,λ_=>Qg _ _ _ _ _ h.r1,(Jb h.r1)⟩
theorem Two.row{a' b' c' d':aG}(h:Two w W a b c d):Two w (W.setRow (w.heap.size+1) #[a',b',c',d']) a' b' c' d':=
 ⟨((Ts W (w.heap.size+1) #[a',b',c',d']).block _ (Jb h.r0) (λe=>by omega)).trans h.r0,Qi _ _ _ _ _ _ h.r1,h.tc.trans (Ts _ _ _) (λj hj=>aN (by omega))⟩
theorem Two.p0(h:Two w W a b c d)(x:aG):Two w (W.setCell ⟨w.heap.size+1,0,Y⟩ x) x b c d:=by
 rw[Qj W _ 0 _ _ (0,0) _ h.r1];exact h.row
theorem Two.p1(h:Two w W a b c d)(x:aG):Two w (W.setCell ⟨w.heap.size+1,1,Y⟩ x) a x c d:=by
 rw[Qj W _ 1 _ _ (0,0) _ h.r1];exact h.row
theorem Two.p23(h:Two w W a b c d)(x y:aG):Two w ((W.setCell ⟨w.heap.size+1,2,Y⟩ x).setCell ⟨w.heap.size+1,3,Y⟩ y) a b x y:=by
 rw[Qj W _ 2 _ _ (0,0) _ h.r1,Qj _ _ 3 _ _ (0,0) _ (Qi _ _ _ _ _ _ h.r1),QI];exact h.row
theorem Two.far(h:Two w W a b c d)(hg:w.heap.size+2<=g)(t:M (λj=>j=g) W W'):Two w W' a b c d:=
 ⟨(t.block _ (Jb h.r0) (λe=>by omega)).trans h.r0,(t.block _ (Jb h.r1) (λe=>by omega)).trans h.r1,h.tc.trans t (λj hj=>aN (by omega))⟩
theorem Two.ends(h:Two w V a b c d):∀aX,((((V.setCell ⟨w.heap.size,0,Y⟩ a).setCell ⟨w.heap.size,1,Y⟩ b).setCell ⟨w.heap.size,2,Y⟩ c).setCell ⟨w.heap.size,3,Y⟩ d)=aX->JaF V w.heap.size (R Y 0 0) (L ⟨#[]⟩) (O aD 0) (O aE 0)/\JaF V (w.heap.size+1) a b c d/\(∀j,V.frozen? ⟨w.heap.size,j,Y⟩=false)/\J (aX.heap[w.heap.size]? =Z (T #[a,b,c,d] 302))/\J (M D w aX)/\J (M (λj=>j=w.heap.size) V aX):=λaX hX=>by
 obtain⟨p1,p2⟩:=Jeq h.r0 a b c d;rw[hX]at p1 p2;exact⟨Jad h.r0,Jad h.r1,λj=>Qg _ _ _ _ _ h.r0,p1,h.tc.trans p2 (λj hj=>aN (by rw[hj];exact Ql _)),p2⟩
def Nds(W:aA)(g N1 n j:Nat)(NT:Nat->List UInt8):Prop:=∃cur:Array aG,W.heap[g]? =Z (T cur 9)/\cur.size=N1/\∀i,j<=i->i<=n->cur[i]? =Z (L ⟨(NT i).toArray⟩)
theorem Nds.tch(h:Nds W g N1 n j NT)(t:M S W W')(hs:¬S g):Nds W' g N1 n j NT:=by
 obtain⟨cur,h1,h2⟩:=h;exact⟨cur,(t.block _ (Jb h1) hs).trans h1,h2⟩
theorem Nds.get(h:Nds W g N1 n j NT):(∀i,j<=i->i<=n->W.cell? ⟨g,i,Y⟩=Z (L ⟨(NT i).toArray⟩))/\(∀i,i<N1->∃v,W.cell? ⟨g,i,Y⟩=Z v)/\(∀i,W.frozen? ⟨g,i,Y⟩=false)/\g<W.heap.size:=by
 obtain⟨cur,h1,h2,h3⟩:=h;exact⟨λi a b=>(Ja h1).trans (h3 i a b),λi hi=>⟨cur[i],by rw[Ja h1];exact Array.getElem?_eq_getElem (by omega)⟩,λi=>Qg _ _ _ _ _ h1,(Jb h1)⟩
theorem Nds.put(h:Nds W g N1 n (i+1) NT)(hi:i<N1)(v:aG)(hv:v=L ⟨(NT i).toArray⟩):Nds (W.setCell ⟨g,i,Y⟩ v) g N1 n i NT/\M (λj=>j=g) W (W.setCell ⟨g,i,Y⟩ v):=by
 obtain⟨cur,h1,h2,h3⟩:=h;rw[Qj W g i _ _ (0,0) _ h1];refine⟨⟨_,Qi _ _ _ _ _ _ h1,by simpa using h2,λk a b=>?_⟩,Ts _ _ _⟩
 by_cases e:k=i
 ·subst e;rw[Array.getElem?_setIfInBounds_self_of_lt (by omega),hv]
 ·rw[Array.getElem?_setIfInBounds_ne (λe'=>e e'.symm)];exact h3 k (by omega) b
theorem JhD(hD:DgC)(wj:Nat)(Hf:1<=wj)(hw:wj<=32)(K:List UInt8)(hK:K.length=wj+1)(aY:BA)(S:List UInt8)(xf:aY.data.toList=S)(hS:aY.size<=2000000)(Hd:S ≠ [0,0])(zy:JcU wj S)(w:aA):
  aB N 258 #[O I (wj:Int),L ⟨K.toArray⟩,L aY] w (Jaq wj (refW wj K S) w):=by
 have Hi:S.length=aY.size:=by rw[<-xf,QA];rfl
 have zK:(aY.toList == [0,0])=false:=by rw[beq_eq_false_iff_ne,ByteArray.toList_eq,xf];exact Hd
 obtain⟨W2,jm⟩:∃W2,W2=(w.alloc (T zP 302)).alloc (T zP 302):=⟨_,rfl⟩
 have gF:J (Two w W2 (R Y 0 0) (L ⟨#[]⟩) (O aD 0) (O aE 0)):=⟨by rw[jm];exact heap_alloc2_old _ _ _,by rw[jm];exact heap_alloc2_new _ _ _,by rw[jm];exact M.allocs _ _ _ _⟩
 have gM:J (W2=_):=jm;obtain⟨n,hn⟩:∃n,numP S=n:=⟨_,rfl⟩
 obtain⟨sz,jQ⟩:∃sz,2+wj=sz:=⟨_,rfl⟩
 obtain⟨E,hE⟩:∃E,2+n*sz=E:=⟨_,rfl⟩
 have tl:endP wj S=E:=by unfold endP;rw[hn,jQ,hE]
 have Hl:aY.size=E+wj+10:=by have:=zy.1;omega
 have jT:n<65536:=by have:=Ys (S.take 2);rw[QB,Nat.min_eq_left (by omega)]at this;rw[<-hn];exact this
 have hnE:n*sz<=65536*34:=Nat.mul_le_mul (by omega) (by omega);have HNU:J (∀V,aB N 112 #[L aY,O I 2] V λe w'=>e=aC (O aD (n:Int))/\M D V w'):=λV=>by
  have:=JaZ aY 2 (by omega) (by omega) V;rw[xf]at this;rw[<-hn];exact this
 obtain⟨EW,xh⟩:∃EW:Nat,E+wj=EW:=⟨_,rfl⟩
 obtain⟨E1,p6⟩:∃E1:Nat,EW+1=E1:=⟨_,rfl⟩
 -- the key, the output, the leaf's text
 obtain⟨KP,nJ⟩:∃KP,keyP wj S=KP:=⟨_,rfl⟩
 obtain⟨oa,oo,hO⟩:∃oa oo,outP S (endP wj S+wj+1)=(oa,oo):=⟨_,_,rfl⟩
 obtain⟨KB,xR⟩:∃KB:BA,KB=⟨KP.toArray⟩:=⟨_,rfl⟩
 obtain⟨kB,hkB⟩:∃kB:BA,kB=⟨K.toArray⟩:=⟨_,rfl⟩
 have hx1:aY.extract E E1=KB:=by
  rw[xR];apply YK;rw[lG,lH,xf,lF,<-nJ];unfold keyP;rw[tl]
  congr 1
  omega
 obtain⟨P8,hP8⟩:∃P8:BA,aY.extract E1 aY.size=P8:=⟨_,rfl⟩
 have eD:P8.data.toList=S.drop E1:=by rw[<-hP8,lG,lH,xf,lF,QS];rw[lC];omega
 have HN8:J (∀V,aB N 112 #[L P8,O I 8] V λe w'=>e=aC (O aD (oa:Int))/\M D V w'):=λV=>by
  have:=JaZ P8 8 (by omega) (by rw[<-hP8,ByteArray.size_extract];omega) V;rw[eD]at this;have e:oa=numL ((S.drop E1).take 8):=by have:=congrArg Prod.fst hO;unfold outP at this;rw[tl,xh,p6]at this;exact this.symm
  rw[e];exact this
 obtain⟨LZ,hLZ⟩:∃LZ,aY.size-1=LZ:=⟨_,rfl⟩
 have hLT:LZ<aY.size:=by omega
 have hLTi:(LZ:Int)<(aY.size:Int):=by omega
 have wLZ:I.wrap ((aY.size:Int)-1)=(LZ:Int):=by rw[w63 _ (by omega) (by omega)];omega
 have be:(aY[LZ]'hLT).toNat=oo:=by
  have h1:=Zj aY LZ hLT;have h2:=congrArg Prod.snd hO;unfold outP at h2;rw[xf]at h1;rw[<-h1];simp only at h2;rw[<-h2,tl]
  congr 1
  omega
 obtain⟨TE,hTE⟩:∃TE:BA,aY.extract E aY.size=TE:=⟨_,rfl⟩
 have eE:TE.data.toList=S.drop E:=by rw[<-hTE,lG,lH,xf,lF,QS];rw[lC];omega
 obtain⟨ET,hET⟩:∃ET,Xb (Z (KP,(oa,oo)))=ET:=⟨_,rfl⟩
 have my:ET=76::S.drop E:=by rw[<-hET];unfold Xb;have h1:=Jgf S (E+wj+1) (by omega);rw[<-tl,hO]at h1;simp only[QH,true_and];rw[h1,<-nJ];unfold keyP;rw[tl,show E+wj+1=E+(wj+1) by omega,XM,QS (by rw[lC];omega)]
 have gW:∀W,(Op.stringOp .add (⟨#[76]⟩:BA) TE).run N W=.ok (L ⟨ET.toArray⟩) W:=λW=>by
  have h1:=JO [76] (S.drop E) (by simp;omega) W;rw[my];have h2:TE=⟨(S.drop E).toArray⟩:=YK (by rw[eE]);rw[h2];exact h1
 -- the steps
 obtain⟨B,aQ,kE⟩:∃(B:Nat->Nat)(aQ:Nat->BA),∀i,stpP wj S i=(B i,aQ i):=⟨λi=>(stpP wj S i).1,λi=>(stpP wj S i).2,λi=>rfl⟩
 obtain⟨aS,hL⟩:∃aS,(List.range n).map (stpP wj S)=aS:=⟨_,rfl⟩
 have hLl:aS.length=n:=by rw[<-hL];simp
 have hLi:∀i (hi:i<n),aS[i]'(by omega)=(B i,aQ i):=λi hi=>by subst hL;rw[lI,List.getElem_range,kE]
 have qX:∀i,i<n->2+i*sz+sz<=E:=λi hi=>by
  have h3:(i+1)*sz<=n*sz:=Nat.mul_le_mul_right _ hi;rw[Nat.add_mul]at h3;omega
 have nj:J (∀i,i<n->B i<65536):=λi hi=>by
  have h1:B i=numL ((S.drop (2+i*(2+wj))).take 2):=(congrArg Prod.fst (kE i)).symm;have h2:=Ys ((S.drop (2+i*(2+wj))).take 2);have h3:=qX i hi;rw[QB,lC,jQ,Nat.min_eq_left (by omega)]at h2;rw[h1,jQ];exact h2
 have HOs:J (∀i,i<n->(aQ i).data.toList.length=wj):=λi hi=>by
  have h1:aQ i=⟨((S.drop (4+i*(2+wj))).take wj).toArray⟩:=(congrArg Prod.snd (kE i)).symm;have h3:=qX i hi;rw[h1,Jjg,QB,lC,jQ];omega
 have yx:J (∀i,i<n->∃P:BA,aY.extract (2+i*sz) aY.size=P/\∀V,aB N 112 #[L P,O I 2] V λe w'=>e=aC (O aD (B i:Int))/\M D V w'):=λi hi=>by
  refine⟨_,rfl,λV=>?_⟩;have h3:=qX i hi;have:=JaZ (aY.extract (2+i*sz) aY.size) 2 (by omega) (by rw[ByteArray.size_extract];omega) V;have h4:(aY.extract (2+i*sz) aY.size).data.toList=S.drop (2+i*sz):=by rw[lG,lH,xf,lF,QS];rw[lC];omega
  rw[h4]at this;have h1:B i=numL ((S.drop (2+i*(2+wj))).take 2):=(congrArg Prod.fst (kE i)).symm;rw[h1,jQ];exact this
 have HOX:J (∀i,i<n->aY.extract (4+i*sz) (2+(i+1)*sz)=aQ i):=λi hi=>by
  have h1:aQ i=⟨((S.drop (4+i*(2+wj))).take wj).toArray⟩:=(congrArg Prod.snd (kE i)).symm;rw[h1];apply YK;rw[lG,lH,xf,lF,jQ,Jjg]
  congr 1
  rw[Nat.add_mul];omega
 obtain⟨NT,eF⟩:∃NT:Nat->List UInt8,∀j,Zu (dgW wj) KP ET aS j=NT j:=⟨_,λ_=>rfl⟩
 have hNn:NT n=ET:=by rw[<-eF,<-hLl];exact JcH _ _ _ _
 have HNS:J (∀i,i<n->NT i=78::(beL (B i) 2 2++(if bt KP (B i)=0 then (dgW wj (NT (i+1))).data.toList++(aQ i).data.toList else (aQ i).data.toList++(dgW wj (NT (i+1))).data.toList))):=λi hi=>by
  have:=JbF (dgW wj) KP ET aS i (by omega);rw[hLi i hi,eF,eF]at this;exact this
 have nK:J (∀j,j<=n->(NT j).length<=1000):=λj hj=>by
  by_cases e:j=n
  ·rw[e,hNn,my,Qp,lC];omega
  ·have h1:=HOs j (by omega);have h2:(dgW wj (NT (j+1))).data.toList.length=wj:=(by rw[QA];exact Jj wj hw _);rw[HNS.o j (by omega)]
   split<;>(simp only[Qp,Qe,Jf,h1,h2];omega)
 have HN:J (numP S=n):=hn;have qA:=Jn4 (key:=K) Hd zy;have hRL:∀i,i<n->(YG wj S i=B i):=λi hi=>by unfold YG;rw[hn,if_pos hi,kE]
 have hRN:YG wj S n=8*(wj+1):=by unfold YG;rw[hn,if_neg (by omega)]
 have aw:J (∀i,i<n->RunP wj K S (i+1)->B i<YG wj S (i+1)->bt KP (B i)=bt K (B i)->RunP wj K S i):=λi hi h1 h2 h3=>RunP.down h1 (by rw[kE];exact h2) (by rw[kE,nJ];exact h3);have au:J (∀i,i<n->¬(B i<YG wj S (i+1)/\bt KP (B i)=bt K (B i))->refW wj K S=Y):=λi hi h=>qA.2 (λhr=>h (by have:=hr i (lN _) (by omega);rw[kE,nJ]at this;exact this));have rp:J (RunP wj K S 0->refW wj K S=Z (wyP wj S)):=qA.1;have zq:J ((wyP wj S).1.length=n/\wyK (wyP wj S)=KB/\wyO (wyP wj S)=(oa,oo)/\∀j t,((wyP wj S).nodes (dgW wj))[j]? =Z t->j<=n/\t=NT j):=by
  refine⟨by unfold wyP;rw[hn];simp,?_,?_,λj t ht=>?_⟩
  ·rw[xR,<-nJ];rfl
  ·exact hO
  ·have e:(wyP wj S).nodes (dgW wj)=JM (dgW wj) KP ET aS:=by
    unfold Wy.nodes;rw[<-hET,<-hL,<-nJ,<-hO,<-hn];rfl
   rw[e]at ht;have h1:=(Qo.1 ht).1;rw[JZ,hLl]at h1;rw[ZF _ _ _ _ _ (by omega)]at ht;refine⟨by omega,?_⟩;rw[<-eF];exact(lM.inj ht).symm
 have qz:J (∀b V,b<8*(wj+1)->aB N 253 #[L KB,O I (b:Int)] V λe w'=>e=aC (O I (bt KP b:Int))/\M D V w'):=λb V hb=>by
  have jW:KP.length=wj+1:=by rw[<-nJ];unfold keyP;rw[QB,lC];omega
  rw[xR];exact JhB KP b (by omega) (by omega) V
 have zm:J (∀b V,b<8*(wj+1)->aB N 253 #[L kB,O I (b:Int)] V λe w'=>e=aC (O I (bt K b:Int))/\M D V w'):=λb V hb=>by
  rw[hkB];exact JhB K b (by omega) (by omega) V
 have gd:J (∀j V,j<=n->aB N 103 #[O I (wj:Int),L ⟨(NT j).toArray⟩] V λe w'=>e=aC (L (dgW wj (NT j)))/\M D V w'):=λj V hj=>hD wj ⟨(NT j).toArray⟩ V Hf hw (by rw[Jh];have:=nK j hj;omega);have HFT:J (∀(b:Nat)(p q:BA)(V:aA),b<65536->p.data.toList.length<=1000->q.data.toList.length<=1000->aB N 168 #[O I (b:Int),L p,L q] V λe w'=>e=aC (L ⟨(78::(beL b 2 2++(p.data.toList++q.data.toList))).toArray⟩)/\M D V w'):=λb p q V hb hp hq=>by
  have:=Jea b p.data.toList q.data.toList V hb (by omega) (by omega);simpa using this
 have HCM:J (∀i,i<n->4+i*sz+wj=2+(i+1)*sz/\2+(i+1)*sz<=aY.size):=λi hi=>by
  have:=qX i hi;rw[Nat.add_mul];omega
 obtain⟨RW,hRW⟩:∃RW,refW wj K S=RW:=⟨_,rfl⟩
 rw[hRW]at au rp ⊢;rw[<-hkB];have mq:¬(aY.size:Int)<2:=by omega
 have w0:I.wrap (n:Int)=(n:Int):=w63 _ (by omega) (by omega);have w1:I.wrap (2+(wj:Int))=(sz:Int):=by rw[w63 _ (by omega) (by omega)];omega
 have w2:I.wrap ((n:Int)*(sz:Int))=(n:Int)*(sz:Int):=by
  have:(n:Int)*(sz:Int)=((n*sz:Nat):Int):=by simp
  rw[this];exact w63 _ (by omega) (by omega)
 have w3:I.wrap (2+(n:Int)*(sz:Int))=(E:Int):=by
  have:2+(n:Int)*(sz:Int)=((2+n*sz:Nat):Int):=by simp
  rw[this,hE];exact w63 _ (by omega) (by omega)
 have w4:I.wrap ((E:Int)+(wj:Int))=(EW:Int):=by rw[w63 _ (by omega) (by omega)];omega
 have w5:I.wrap ((EW:Int)+1)=(E1:Int):=by rw[w63 _ (by omega) (by omega)];omega
 have w6:I.wrap ((E1:Int)+9)=(aY.size:Int):=by rw[w63 _ (by omega) (by omega)];omega
 have rl:EW<aY.size:=by omega
 have hixi:(EW:Int)<(aY.size:Int):=by omega
 obtain⟨c,hc⟩:∃c:Nat,(aY[EW]'rl).toNat=c:=⟨_,rfl⟩
 have hc3:¬3<=(c:Int):=by have h1:=zy.2;have h2:=Zj aY EW rl;rw[xf,hc]at h2;rw[tl,xh,h2]at h1;omega
 have e1:E<=E1:=by omega
 have e1i:(E:Int)<=(E1:Int):=by omega
 have e2:E1<=aY.size:=by omega
 have e2i:(E1:Int)<=(aY.size:Int):=by omega
 have e3:E<=aY.size:=by omega
 have e3i:(E:Int)<=(aY.size:Int):=by omega
 have wn1:I.wrap ((n:Int)+1)=((n+1:Nat):Int):=by rw[w63 _ (by omega) (by omega)];rfl
 have ww1:I.wrap ((wj:Int)+1)=(wj:Int)+1:=w63 _ (by omega) (by omega);have ww8:I.wrap (8*((wj:Int)+1))=((8*(wj+1):Nat):Int):=by rw[w63 _ (by omega) (by omega)];omega
 have wnm:I.wrap ((n:Int)-1)=(n:Int)-1:=by simp[IntKind.wrap,IntKind.bits,IntKind.signed];omega
 clear zy Hd jm hn hE hnE tl jQ xf xh p6 nJ hO xR hkB eD eE hET my kE hL hLl hLi qX eF qA hRW Hl Hi hLZ;go_enter func258,ntmps258;go_upto_region 2 with fail;rw[<-gM.o];go_upto_region 12 with(go_at_call 112;refine(HNU _).mono ?_;rintro _ w7⟨rfl,ko⟩;have gG:J (Two w w7 _ _ _ _):=gF.tch ko;clear ko);obtain⟨⟨y0,y1,y2,y3⟩,fz,_⟩:=gG.low;go_upto_region 13 with fail;have kw:J (Two w _ _ _ _ _):=gG.p1 (L KB);generalize w7.setCell ⟨w.heap.size+1,1,Y⟩ (L KB)=w8 at *;clear y0 y1 y2 y3 fz;go_cut [] (λwx=>J (Two w wx (R Y 0 0) (L KB) (O aD (oa:Int)) (O aE (oo:Int))))
 case first=>
  go_region_held3 (λ_=>True) (trivial) ((go_at_call 112;refine(HN8 _).mono ?_;rintro _ w9⟨rfl,gx⟩;have jD:J (Two w w9 _ _ _ _):=kw.tch ((Td D w8 1).go gx);obtain⟨⟨y0,y1,y2,y3⟩,fz,_⟩:=jD.low;clear gx))
  all_goals go_wp2;go_meet;exact jD.p23 _ _
 case rest=>
 have Hz:J (Two w _ _ _ _ _):=hcut.out;obtain⟨wA,gH⟩:∃wA,wA=wc:=⟨wc,rfl⟩
 subst gH;clear kw gG hcut;obtain⟨N1,mz⟩:∃N1,n+1=N1:=⟨_,rfl⟩
 rw[mz]at wn1;have jp:=Jov N1 (by omega) wA;have hnN:(n:Int)<(N1:Int):=by omega
 obtain⟨⟨y0,y1,y2,y3⟩,fz,_⟩:=Hz.low;obtain⟨wB,xq⟩:∃wB,wB=wA.alloc (T (List.replicate N1 (lE ⟨#[]⟩)).toArray 9):=⟨_,rfl⟩
 rw[<-xq]at jp;have gE:J (Two w wB _ _ _ _):=Hz.tch (by rw[xq];exact Ta _ _ _);have pI:J (wB.heap[wA.heap.size]? =Z (T (List.replicate N1 (lE ⟨#[]⟩)).toArray 9)):=by show _=_;rw[xq];exact Qf _ _
 have tp:J (w.heap.size+2<=wA.heap.size):=Hz.low.2.2;obtain⟨g,hg⟩:∃g,wA.heap.size=g:=⟨_,rfl⟩
 rw[hg]at jp pI tp;obtain⟨⟨z0,z1,z2,z3⟩,fzB,_⟩:=gE.low;clear xq hg;go_upto_region 15 with fail;have jz:J (Two w _ _ _ _ _):=gE.p0 (R (Z ⟨g,0,Y⟩) N1 N1);have HNC:J (Nds (wB.setCell ⟨w.heap.size+1,0,Y⟩ (R (Z ⟨g,0,Y⟩) N1 N1)) g N1 n (n+1) NT):=by refine⟨(List.replicate N1 (lE ⟨#[]⟩)).toArray,?_,by simp,λi h1 h2=>absurd h1 (by omega)⟩;rw[Qj wB _ 0 _ _ (0,0) _ gE.o.r1];exact((Ts _ _ _).block _ (Jb pI) (by have:=tp.o;omega)).trans pI.o
 generalize wB.setCell ⟨w.heap.size+1,0,Y⟩ (R (Z ⟨g,0,Y⟩) N1 N1)=wC at *;clear y0 y1 y2 y3 fz z0 z1 z2 z3 fzB jp;obtain⟨⟨y0,y1,y2,y3⟩,fz,_⟩:=jz.low;obtain⟨old,jP⟩:=HNC.get.2.1 n (by omega);have fzg:=HNC.o.get.2.2.1;obtain⟨q1,q2⟩:=HNC.put (by omega) (L ⟨ET.toArray⟩) (by rw[hNn]);have nL:J (Nds _ _ _ _ _ _):=q1;have j8:J (Two w _ _ _ _ _):=jz.far tp q2;obtain⟨⟨x0,_,_,_⟩,_,_⟩:=j8.low;clear q1 q2;go_cut [] (λwx=>J (Two w wx (R (Z ⟨g,0,Y⟩) N1 N1) (L KB) (O aD (oa:Int)) (O aE (oo:Int)))/\J (Nds wx g N1 n n NT))
 case first=>
  go_region_held3 (λV=>V.cell? ⟨w.heap.size+1,0,Y⟩=Z (R (Z ⟨g,0,Y⟩) N1 N1)) (go_keep) (fail)
  all_goals go_wp2;go_meet;exact⟨j8.tch (Td _ _ 1),nL.tch (Td D _ 1) (λe=>e)⟩
 case rest=>
 obtain⟨pH,HND⟩:=hcut;obtain⟨wD,ft⟩:∃wD,wD=wc:=⟨wc,rfl⟩
 subst ft;clear y0 y1 y2 y3 fz x0 jP fzg nL j8 jz HNC;go_wp2;go_loopw [12,13,14,15,16] (λv12 v13 _ _ _ wr=>∃(j:Nat)(z:Int)(ab:Nat),v12=O I (ab:Int)/\v13=O I z/\j<=n/\z=(j:Int)-1/\J (ab=YG wj S j/\ab<=8*(wj+1))/\J (RunP wj K S j)/\J (Two w wr (R (Z ⟨g,0,Y⟩) N1 N1) (L KB) (O aD (oa:Int)) (O aE (oo:Int)))/\J (Nds wr g N1 n j NT)) (λ_ v13 _ _ _ _=>(intOf v13+1).toNat)
 case atStart=>exact⟨n,(n:Int)-1,8*(wj+1),rfl,rfl,Ql _,rfl,⟨hRN.symm,Ql _⟩,λi h1 h2=>absurd h2 (by rw[HN.o];omega),pH,HND⟩
 case round=>
  obtain⟨j,z,ab,rfl,rfl,hj,hz,HAB,HRU,rF,zx⟩:=hrel
  rcases j with _|i
  ·have q9:¬0<=z:=(by omega);obtain⟨aX,hX⟩:∃aX,aX=_:=⟨_,rfl⟩
   obtain⟨⟨x0,x1,x2,x3⟩,⟨y0,y1,y2,y3⟩,fz,Hq,Hw,jy⟩:=rF.ends aX hX.symm;go_wp2;rw[<-hX];have nF:¬g=w.heap.size:=(by have:=tp.o;omega);refine QK (v:=aI #[aH #[R (Z ⟨g,0,Y⟩) N1 N1,L KB,O aD (oa:Int),O aE (oo:Int)],aL true]) (Je results258 _ _ w.heap.size _ _ (0,0) _ rfl Hq underlying302 rfl (by kernel_rfl)) rfl ?_;rw[rp.o HRU.o];obtain⟨q1,q2,q3,q4⟩:=zq.o;have hN:=(zx.tch jy nF).get;refine⟨Hw,g,N1,by rw[q2,q3],by rw[q1];exact mz,hN.2.2.2,λj t ht=>?_⟩;obtain⟨k1,rfl⟩:=q4 j t ht;exact hN.1 j (lN _) k1
  ·obtain rfl:z=(i:Int):=(by omega);have hi:i<n:=(by omega);have h0i:(0:Int)<=(i:Int):=(by omega);clear hz;obtain⟨b,hb⟩:∃b,B i=b:=⟨_,rfl⟩
   obtain⟨Q,hQ⟩:∃Q,aQ i=Q:=⟨_,rfl⟩
   obtain⟨IS,nM⟩:∃IS,i*sz=IS:=⟨_,rfl⟩
   obtain⟨aU,hM⟩:∃aU,2+IS=aU:=⟨_,rfl⟩
   obtain⟨M4,cv⟩:∃M4,4+IS=M4:=⟨_,rfl⟩
   obtain⟨I1,uq⟩:∃I1,i+1=I1:=⟨_,rfl⟩
   obtain⟨IS1,zX⟩:∃x,I1*sz=x:=⟨_,rfl⟩
   obtain⟨M2,cy⟩:∃x,2+IS1=x:=⟨_,rfl⟩
   have c1:=HCM i hi;rw[nM,uq,zX,cy,cv]at c1;obtain⟨P,hP,uH⟩:=yx i hi;rw[nM,hM]at hP;rw[hb]at uH;have pJ:J _:=uH;have hox:=HOX i hi;rw[nM,uq,zX,cy,cv,hQ]at hox;have dA:=nj i hi;have eG:=HOs i hi;have tq:=HNS i hi;rw[hb]at dA;rw[hQ]at eG;rw[hb,hQ,uq]at tq;have wm1:I.wrap ((i:Int)*(sz:Int))=(IS:Int):=(by rw[show (i:Int)*(sz:Int)=((i*sz:Nat):Int) by simp,nM];exact w63 _ (by omega) (by omega));have wm2:I.wrap (2+(IS:Int))=(aU:Int):=(by rw[w63 _ (by omega) (by omega)];omega);have wm3:I.wrap (4+(IS:Int))=(M4:Int):=(by rw[w63 _ (by omega) (by omega)];omega);have wm4:I.wrap ((i:Int)+1)=(I1:Int):=(by rw[w63 _ (by omega) (by omega)];omega);have wm5:I.wrap ((I1:Int)*(sz:Int))=(IS1:Int):=(by rw[show (I1:Int)*(sz:Int)=((I1*sz:Nat):Int) by simp,zX];exact w63 _ (by omega) (by omega));have wm6:I.wrap (2+(IS1:Int))=(M2:Int):=(by rw[w63 _ (by omega) (by omega)];omega);have wmb:I.wrap (b:Int)=(b:Int):=w63 _ (by omega) (by omega);have wmz:I.wrap ((i:Int)-1)=(i:Int)-1:=(by simp[IntKind.wrap,IntKind.bits,IntKind.signed];omega);have m1:aU<=aY.size:=(by omega);have m1i:(aU:Int)<=(aY.size:Int):=(by omega);have m2:M2<=aY.size:=(by omega);have m2i:(M2:Int)<=(aY.size:Int):=(by omega);have m4:M4<=M2:=(by omega);have m4i:(M4:Int)<=(M2:Int):=(by omega);have n1:(I1:Int)<(N1:Int):=(by omega);have n0:(i:Int)<(N1:Int):=(by omega);have hIn:I1<=n:=(by omega);have hiN:i<N1:=(by omega);rw[uq]at zx;have eH:J (ab=YG wj S (i+1)):=HAB.1;have zL:=HAB.o.2
   by_cases gI:ab<=b
   ·have kV:(ab:Int)<=(b:Int):=(by omega);have kX:RW=Y:=au i hi (λh=>by rw[hb,<-eH.o]at h;omega);clear c1 uH hb hQ nM hM cv uq zX cy eG tq dA zL;go_wp2_with (go_at_call 112;refine(pJ _).mono ?_;rintro _ w7⟨rfl,ko⟩;obtain⟨aX,hX⟩:∃aX,aX=_:=⟨_,rfl⟩;obtain⟨⟨x0,x1,x2,x3⟩,⟨y0,y1,y2,y3⟩,fz,Hq,Hw,jy⟩:=(rF.tch ko).ends aX hX.symm;clear ko);rw[<-hX];refine QK (v:=aI #[aH #[R (Z ⟨g,0,Y⟩) N1 N1,L KB,O aD (oa:Int),O aE (oo:Int)],aL false]) (Je results258 _ _ w.heap.size _ _ (0,0) _ rfl Hq underlying302 rfl (by kernel_rfl)) rfl ?_;rw[kX];exact⟨Hw,_,_,_,_,_,_,rfl⟩
   ·have kV:¬(ab:Int)<=(b:Int):=(by omega);have tN:b<8*(wj+1):=(by omega);obtain⟨x,hx⟩:∃x,bt KP b=x:=⟨_,rfl⟩
    obtain⟨y,hy⟩:∃y,bt K b=y:=⟨_,rfl⟩
    have xm:=qz b;have hba:=zm b;rw[hx]at xm tq;rw[hy]at hba;have dB:J (∀V,_):=λV=>xm V tN;have tu:J (∀V,_):=λV=>hba V tN;clear xm hba
    by_cases hxy:x=y
    ·subst hxy;have HRN:J (RunP wj K S i):=aw i hi HRU (by rw[hb,<-eH.o];omega) (by rw[hb,hx,hy]);have HBN:J (b=YG wj S i/\b<=8*(wj+1)):=⟨by rw[hRL i hi,hb],by omega⟩
     obtain⟨aV,dC⟩:∃aV,dgW wj (NT I1)=aV:=⟨_,rfl⟩
     have hDl:aV.data.toList.length=wj:=(by rw[<-dC,QA];exact Jj wj hw _);have nN:=λV=>gd I1 V hIn;rw[dC]at nN tq;have eI:J _:=nN;have cz:=λV=>HFT b aV Q V dA (by omega) (by omega);have hf2:=λV=>HFT b Q aV V dA (by omega) (by omega);have bA:J (∀V v,Nds V g N1 n I1 NT->v=L ⟨(NT i).toArray⟩->Nds (V.setCell ⟨g,i,Y⟩ v) g N1 n i NT/\M (λj=>j=g) V (V.setCell ⟨g,i,Y⟩ v)):=λV v h1 h2=>Nds.put (by rw[uq];exact h1) hiN v h2
     by_cases sv:x=0
     ·rw[if_pos sv]at tq;rw[<-tq]at cz;have HF:J _:=cz;have dD:(x:Int)=0:=(by omega);clear c1 uH hb hQ nM hM cv uq zX cy eG tq dA zL hx hy dC hDl nN cz hf2 tN;go_upto_region 24 with(first
       | (go_at_call 112;refine(pJ _).mono ?_;rintro _ w7⟨rfl,ko⟩;have dE:J (Two w w7 _ _ _ _/\Nds w7 g N1 n I1 NT):=⟨rF.tch ko,zx.tch ko (λe=>e)⟩;have y1:=dE.out.1.low.1.2.1;clear ko)
       | (go_at_call_of 253 (lE KB);refine(dB _).mono ?_;rintro _ w8⟨rfl,jV⟩;have eJ:J (Two w w8 _ _ _ _/\Nds w8 g N1 n I1 NT):=⟨dE.1.tch jV,dE.2.tch jV (λe=>e)⟩;clear jV y1)
       | (go_at_call_of 253 (lE kB);refine(tu _).mono ?_;rintro _ w9⟨rfl,gx⟩;have pK:J (Two w w9 _ _ _ _/\Nds w9 g N1 n I1 NT):=⟨eJ.1.tch gx,eJ.2.tch gx (λe=>e)⟩;clear gx))
      have y0:=pK.out.1.low.1.1;have yt:=pK.out.2.get.1 I1 (Ql _) hIn;go_upto_region 27 with(first
       | (go_at_call 103;refine(eI _).mono ?_;rintro _ w10⟨rfl,j9⟩;have tz:J (Two w w10 _ _ _ _/\Nds w10 g N1 n I1 NT):=⟨pK.1.tch j9,pK.2.tch j9 (λe=>e)⟩;clear j9 y0 yt)
       | (go_at_call_of 253 (lE kB);refine(tu _).mono ?_;rintro _ w11⟨rfl,xE⟩;have zY:J (Two w w11 _ _ _ _/\Nds w11 g N1 n I1 NT):=⟨tz.1.tch xE,tz.2.tch xE (λe=>e)⟩;have y3:=zY.out.1.low.1.1;clear xE))
      go_region_held3 (λV=>V.cell? ⟨w.heap.size+1,0,Y⟩=Z (R (Z ⟨g,0,Y⟩) N1 N1)) (go_keep) ((go_at_call 168;refine(HF _).mono ?_;rintro _ w12⟨rfl,zZ⟩;have jC:J (Two w w12 _ _ _ _/\Nds w12 g N1 n I1 NT):=⟨zY.1.tch ((Td D w11 1).go zZ),zY.2.tch ((Td D w11 1).go zZ) (λe=>e)⟩;have y4:=jC.out.1.low.1.1;obtain⟨old,jP⟩:=jC.2.get.2.1 i hiN;have fzg:=jC.out.2.get.2.2.1;have y5:=(jC.1.far tp (bA _ _ jC.2 rfl).2).low.1.1;clear zZ))
      all_goals
       go_wp2;go_roundw
       case rel=>exact⟨i,(i:Int)-1,b,rfl,rfl,by omega,rfl,HBN,HRN,jC.1.far tp (bA _ _ jC.2 rfl).2,(bA _ _ jC.2 rfl).1⟩
       case measure=>simp[intOf]
     ·rw[if_neg sv]at tq;rw[<-tq]at hf2;have HF:J _:=hf2;have dD:¬(x:Int)=0:=(by omega);clear c1 uH hb hQ nM hM cv uq zX cy eG tq dA zL hx hy dC hDl nN cz hf2 tN;go_upto_region 24 with(first
       | (go_at_call 112;refine(pJ _).mono ?_;rintro _ w7⟨rfl,ko⟩;have dE:J (Two w w7 _ _ _ _/\Nds w7 g N1 n I1 NT):=⟨rF.tch ko,zx.tch ko (λe=>e)⟩;have y1:=dE.out.1.low.1.2.1;clear ko)
       | (go_at_call_of 253 (lE KB);refine(dB _).mono ?_;rintro _ w8⟨rfl,jV⟩;have eJ:J (Two w w8 _ _ _ _/\Nds w8 g N1 n I1 NT):=⟨dE.1.tch jV,dE.2.tch jV (λe=>e)⟩;clear jV y1)
       | (go_at_call_of 253 (lE kB);refine(tu _).mono ?_;rintro _ w9⟨rfl,gx⟩;have pK:J (Two w w9 _ _ _ _/\Nds w9 g N1 n I1 NT):=⟨eJ.1.tch gx,eJ.2.tch gx (λe=>e)⟩;clear gx))
      have y0:=pK.out.1.low.1.1;have yt:=pK.out.2.get.1 I1 (Ql _) hIn;go_upto_region 28 with(first
       | (go_at_call 103;refine(eI _).mono ?_;rintro _ w10⟨rfl,j9⟩;have tz:J (Two w w10 _ _ _ _/\Nds w10 g N1 n I1 NT):=⟨pK.1.tch j9,pK.2.tch j9 (λe=>e)⟩;clear j9 y0 yt)
       | (go_at_call_of 253 (lE kB);refine(tu _).mono ?_;rintro _ w11⟨rfl,xE⟩;have zY:J (Two w w11 _ _ _ _/\Nds w11 g N1 n I1 NT):=⟨tz.1.tch xE,tz.2.tch xE (λe=>e)⟩;have y3:=zY.out.1.low.1.1;clear xE))
      go_region_held3 (λV=>V.cell? ⟨w.heap.size+1,0,Y⟩=Z (R (Z ⟨g,0,Y⟩) N1 N1)) (go_keep) ((go_at_call 168;refine(HF _).mono ?_;rintro _ w12⟨rfl,zZ⟩;have jC:J (Two w w12 _ _ _ _/\Nds w12 g N1 n I1 NT):=⟨zY.1.tch ((Td D w11 1).go zZ),zY.2.tch ((Td D w11 1).go zZ) (λe=>e)⟩;have y4:=jC.out.1.low.1.1;obtain⟨old,jP⟩:=jC.2.get.2.1 i hiN;have fzg:=jC.out.2.get.2.2.1;have y5:=(jC.1.far tp (bA _ _ jC.2 rfl).2).low.1.1;clear zZ))
      all_goals
       go_wp2;go_roundw
       case rel=>exact⟨i,(i:Int)-1,b,rfl,rfl,by omega,rfl,HBN,HRN,jC.1.far tp (bA _ _ jC.2 rfl).2,(bA _ _ jC.2 rfl).1⟩
       case measure=>simp[intOf]
    ·have hxi:¬(x:Int)=(y:Int):=(by omega);have kX:RW=Y:=au i hi (λh=>by rw[hb,hx,hy]at h;exact hxy h.2);clear c1 uH hb hQ nM hM cv uq zX cy eG tq dA zL hx hy tN;go_wp2_with (first
      | (go_at_call 112;refine(pJ _).mono ?_;rintro _ w7⟨rfl,ko⟩;have gG:J (Two w w7 _ _ _ _):=rF.tch ko;have y1:=gG.o.low.1.2.1;clear ko)
      | (go_at_call_of 253 (lE KB);refine(dB _).mono ?_;rintro _ w8⟨rfl,jV⟩;have kw:J (Two w w8 _ _ _ _):=gG.tch jV;clear jV y1)
      | (go_at_call_of 253 (lE kB);refine(tu _).mono ?_;rintro _ w9⟨rfl,gx⟩;obtain⟨aX,hX⟩:∃aX,aX=_:=⟨_,rfl⟩;obtain⟨⟨x0,x1,x2,x3⟩,⟨y0,y1,y2,y3⟩,fz,Hq,Hw,jy⟩:=(kw.tch gx).ends aX hX.symm;clear gx))
     rw[<-hX];refine QK (v:=aI #[aH #[R (Z ⟨g,0,Y⟩) N1 N1,L KB,O aD (oa:Int),O aE (oo:Int)],aL false]) (Je results258 _ _ w.heap.size _ _ (0,0) _ rfl Hq underlying302 rfl (by kernel_rfl)) rfl ?_;rw[kX];exact⟨Hw,_,_,_,_,_,_,rfl⟩

theorem JkW(wj:Nat)(k:BA)(w:aA):
  aB N 258 #[O I (wj:Int),L k,L ⟨#[0,0]⟩] w (Jaq wj (Z ([],Y)) w):=by
 obtain⟨W2,(gM:J _)⟩:∃W2,W2=(w.alloc (T zP 302)).alloc (T zP 302):=⟨_,rfl⟩
 have gF:J (Two w W2 (R Y 0 0) (L ⟨#[]⟩) (O aD 0) (O aE 0)):=⟨by rw[gM];exact heap_alloc2_old _ _ _,by rw[gM];exact heap_alloc2_new _ _ _,by rw[gM];exact M.allocs _ _ _ _⟩
 have zK:((⟨#[0,0]⟩:BA).toList == [0,0])=true:=by rw[ByteArray.toList_eq];rfl
 go_enter func258,ntmps258;go_upto_region 2 with fail;rw[<-gM.o];obtain⟨g,hg⟩:∃g,W2.heap.size=g:=⟨_,rfl⟩
 have tp:J (w.heap.size+2<=g):=by rw[<-hg];exact gF.low.2.2
 obtain⟨W3,qp⟩:∃W3,W3=W2.alloc (T #[L ⟨#[69]⟩] 9):=⟨_,rfl⟩
 have H8:J (Two w W3 _ _ _ _):=gF.tch (by rw[qp];exact Ta _ _ _);have yu:J (W3.heap[g]? =Z (T #[L ⟨#[69]⟩] 9)):=by show _=_;rw[qp,<-hg];exact Qf _ _
 have jR:J _:=qp;obtain⟨⟨y0,y1,y2,y3⟩,fz,_⟩:=H8.low;rw[qp]at y0 y1 y2 y3 fz;go_upto_region 4 with fail;rw[<-jR.o];have He:J _:=H8.p0 (R (Z ⟨g,0,Y⟩) 1 1);have uS:J ((W3.setCell ⟨w.heap.size+1,0,Y⟩ (R (Z ⟨g,0,Y⟩) 1 1)).heap[g]? =Z (T #[L ⟨#[69]⟩] 9)):=by show _=_;rw[Qj W3 _ 0 _ _ (0,0) _ H8.o.r1];exact((Ts _ _ _).block _ (Jb yu) (by have:=tp.o;omega)).trans yu.o
 generalize W3.setCell ⟨w.heap.size+1,0,Y⟩ (R (Z ⟨g,0,Y⟩) 1 1)=W4 at *;obtain⟨aX,hX⟩:∃aX,aX=_:=⟨_,rfl⟩
 obtain⟨⟨x0,x1,x2,x3⟩,⟨y0,y1,y2,y3⟩,fz,Hq,Hw,jy⟩:=He.ends aX hX.symm;go_wp2;rw[<-hX];have nF:¬g=w.heap.size:=by have:=tp.o;omega
 have pY:=(Jb uS)
 have hgX:=(jy.block _ pY nF).trans uS.o;refine QK (v:=aI #[aH #[R (Z ⟨g,0,Y⟩) 1 1,L ⟨#[]⟩,O aD 0,O aE 0],aL true]) (Je results258 _ _ w.heap.size _ _ (0,0) _ rfl Hq underlying302 rfl (by kernel_rfl)) rfl ⟨Hw,g,1,rfl,rfl,(Jb hgX),λj t ht=>?_⟩
 rcases j with _|j
 ·cases ht
  exact Ja hgX
 ·cases ht
theorem JpY(hD:DgC)(wj:Nat)(Hf:1<=wj)(hw:wj<=32)(K:List UInt8)(hK:K.length=wj+1)(aY:BA)(hS:aY.size<=2000000)(w:aA):
  aB N 258 #[O I (wj:Int),L ⟨K.toArray⟩,L aY] w (Jaq wj (refW wj K aY.data.toList) w):=by
 by_cases h0:aY.data.toList=[0,0]
 ·have e:aY=⟨#[0,0]⟩:=YK h0;unfold refW;rw[if_pos h0,e];exact JkW wj _ w
 ·by_cases h1:JcU wj aY.data.toList
  ·exact JhD hD wj Hf hw K hK aY _ rfl hS h0 h1 w
  ·refine(JkX wj hw ⟨K.toArray⟩ aY _ rfl hS h0 (aN h1) w).mono ?_;unfold refW;rw[if_neg h0,if_neg (λh=>h1 h.1)];exact λe w' h=>h

theorem Ja9(hk:key.length=wj+1)(hw:wj<=32)(h:chk wj key state s=Z wy):wy.Holds (dgW wj) key state/\WyOk wj wy:=by
 unfold chk at h
 cases hR:(PS.rd [] s).way wj [] false ⟨#[]⟩ (0,0) with
 | none=>rw[hR]at h;cases h
 | some x=>
  obtain⟨wy',p⟩:=x;obtain⟨Hb,q,r,rfl⟩:=Jie hR;rw[hR]at h
  cases r with
  | cons a r=>cases h
  | nil=>
   dsimp only at h
   split at h
   ·rename_i hc
    cases h
    refine⟨⟨hc.1,λx hx=>by have:=(Hb.steps x hx).1;omega,λx hx l=>by rw[(Hb.steps x hx).2,Jj wj hw],Hb.bare,λHd=>?_,hc.2⟩,Hb⟩
    cases h2:wy.2 with
    | none=>exact absurd h2 Hd
    | some x=>simp only[Xo,h2];rw[hk];exact(Hb.key x h2).1
   ·cases h
theorem Jfx:∀(A B:List (List UInt8))(x y:List UInt8),Ya A B=Z (x,y)->∃q post,(A.map (λt=>(⟨t.toArray⟩:BA))).zip (B.map (λt=>(⟨t.toArray⟩:BA)))=q++((⟨x.toArray⟩:BA),(⟨y.toArray⟩:BA))::post/\∀z∈q,z.1=z.2
 | [],_,_,_,h=>by simp[Ya]at h
 | _::_,[],_,_,h=>by simp[Ya]at h
 | a::A,b::B,x,y,h=>by
  unfold Ya at h
  split at h
  ·rename_i he;obtain⟨q,post,e1,e2⟩:=Jfx A B x y h;refine⟨((⟨a.toArray⟩:BA),(⟨b.toArray⟩:BA))::q,post,by simp only[List.map_cons,List.zip_cons_cons,e1,List.cons_append],λz hz=>?_⟩
   rcases List.mem_cons.1 hz with rfl|hz
   ·rw[he]
   ·exact e2 z hz
  ·cases h
   exact⟨[],_,rfl,λz hz=>by cases hz⟩
theorem JcL:∀(A B:List (List UInt8))(x y:List UInt8),Ya A B=Z (x,y)->x∈A/\y∈B
 | [],_,_,_,h=>by simp[Ya]at h
 | _::_,[],_,_,h=>by simp[Ya]at h
 | a::A,b::B,x,y,h=>by
  unfold Ya at h
  split at h
  ·obtain⟨h1,h2⟩:=JcL A B x y h;exact⟨by simp[h1],by simp[h2]⟩
  ·cases h
   exact⟨by simp,by simp⟩
theorem JdZ(hw:wj<=32)(Hb:WyOk wj wy)(h:t∈wy.nodes (dgW wj)):t.length<=1000:=by
 obtain⟨i,hi,rfl⟩:=List.getElem_of_mem h;have hl:(wy.nodes (dgW wj)).length=wy.1.length+1:=JZ _ _ _ _;have h1:(wy.nodes (dgW wj))[i]? =Z (Zu (dgW wj) (Xo wy) (Xb wy.2) wy.1 i):=ZF (dgW wj) (Xo wy) (Xb wy.2) wy.1 i (by omega);rw[Qd hi]at h1;rw[lM.inj h1];exact JcI wj hw _ _ (JaQ hw Hb) _ Hb.steps i (by omega)
theorem JnV(hw:wj<=32)(Hb:WyOk wj wy)(hb:∀s∈wy.1,bt key s.1=bt (Xo wy) s.1)(hr:dgW wj ((wy.nodes (dgW wj)).headD [])=state):chk wj key state (wayB wy)=Z wy:=by
 unfold chk;rw[Jqc (by omega) Hb];exact if_pos ⟨hb,hr⟩
def XP(wj:Nat)(wy:Wy)(g:Nat)(W:aA):Prop:=g<W.heap.size/\∀(j:Nat) t,((wy.nodes (dgW wj)).map (λt=>(⟨t.toArray⟩:BA)))[j]? =Z t->W.cell? ⟨g,j,Y⟩=Z (L t)
theorem XP.tch(h:XP wj wy g V)(k:M D V V'):XP wj wy g V':=
 ⟨Qk h.1 k.size,λj t ht=>(k.cell (p:=⟨g,j,Y⟩) h.1 (λh=>h)).trans (h.2 j t ht)⟩
def JdK(wj:Nat)(k:Key)(r1 r2:Option Wy)(sx sy:BA)(b:Bool):Prop:=match r1,r2 with
 | some w1,Z w2=>if w1.said k=w2.said k then b=false/\sx=⟨#[]⟩/\sy=⟨#[]⟩ else b=true/\sx.size<=1000/\sy.size<=1000/\sx ≠ sy/\dgW wj sx.data.toList=dgW wj sy.data.toList/\Ya (w1.nodes (dgW wj)) (w2.nodes (dgW wj))=Z (sx.data.toList,sy.data.toList)
 | _,_=>b=false/\sx=⟨#[]⟩/\sy=⟨#[]⟩
theorem Jg2(E:Nat->Addr)(wj:Nat)(Hf:1<=wj)(hw:wj<=32)(h:HdL)(hh:HdOk wj h)(c:BA×Int)(hc:Ji wj c)(s1 s2:BA)(qq:s1.size<=2000000)(kO:s2.size<=2000000)(w:aA)(hE:Env E w)(hA:Ast w)(hL:Alk w):
  aB Tryz.prog 51 #[O I (wj:Int),L ⟨(Hn h).toArray⟩,aH #[L c.1,O I c.2],L s1,L s2] w λe w'=>M D w w'/\∃sx sy b,JdK wj (Jc c) (chk wj (Jc c) h.2.2.2 s1.data.toList) (chk wj (Jc c) h.2.2.2 s2.data.toList) sx sy b/\e=aC (aI #[L sx,L sy,aL b]):=by
 have hk:=Xt hc;have H1:=λW (hT:M D w W)=>JcA E wj Hf hw h.2.2.2 (Jc c) hk s1 qq W (hE.tch hT noE) (hA.tch hT (λh=>h));have H2:=λW (hT:M D w W)=>JcA E wj Hf hw h.2.2.2 (Jc c) hk s2 kO W (hE.tch hT noE) (hA.tch hT (λh=>h));refine Jg6 wj _ s1 s2 c _ (λW hT=>?_)
 cases kD:chk wj (Jc c) h.2.2.2 s1.data.toList with
 | none=>
  rw[kD]at H1;refine(Jg3 E wj Hf hw h hh c hc s1 s2 W (hE.tch hT noE) (λV hV=>?_)).mono ?_
  ·refine(H1 V (hT.go hV)).mono ?_;rintro e w'⟨ht,t,u,he⟩;exact⟨ht,0,0,0,Y,0,0,t,u,he⟩
  ·rintro e w'⟨ht,t,u,he⟩;exact⟨ht,_,_,_,he,aN ⟨⟨t,u,rfl⟩,rfl,rfl,rfl⟩⟩
 | some w1=>
  rw[kD]at H1;have xZ:∀(x:Int)(y z:Nat),ZR (w1.said (Jc c))=aH #[O I x,O aD (y:Int),O aE (z:Int)]->∀V,M D W V->aB Tryz.prog 144 #[qV wj h.2.2.2 ⟨(Jc c).toArray⟩,L s1] V λe w'=>M D V w'/\∃g cap,JbP e x y z (Z ⟨g,0,Y⟩) (w1.1.length+1) cap aK/\XP wj w1 g w':=λx y z tK V hV=>by
   refine(H1 V (hT.go hV)).mono ?_;rintro e w'⟨ht,x',y',z',g,cap,qB,he,hg,uD⟩;rw[tK]at qB;simp only[Value.agg.injEq,Array.mk.injEq,QH,Value.int.injEq,true_and,and_true]at qB;obtain⟨rfl,hy,hz⟩:=qB;refine⟨ht,g,cap,?_,hg,λj t ht=>?_⟩
   ·unfold JbP;rw[he,hy,hz]
   ·rw[lD]at ht;obtain⟨t',h1,rfl⟩:=Option.map_eq_some_iff.1 ht;exact uD j t' h1
  cases Hp:chk wj (Jc c) h.2.2.2 s2.data.toList with
  | none=>
   rw[Hp]at H2;refine(Jg4 E wj Hf hw h hh c hc s1 s2 W (hE.tch hT noE) (λV hV=>?_) (λV hV=>?_)).mono ?_
   ·obtain⟨x,y,z,tK,_⟩:=Jbk (w1.said (Jc c));refine(xZ x y z tK V hV).mono ?_;rintro e w'⟨ht,g,cap,he,_⟩;exact⟨ht,x,y,z,_,_,_,he⟩
   ·refine(H2 V (hT.go hV)).mono ?_;rintro e w'⟨ht,t,u,he⟩;exact⟨ht,0,0,0,Y,0,0,t,u,he⟩
   ·rintro e w'⟨ht,t,u,he⟩;exact⟨ht,_,_,_,he,aN ⟨⟨t,u,rfl⟩,rfl,rfl,rfl⟩⟩
  | some w2=>
   rw[Hp]at H2;obtain⟨x,y,z,tK,hx⟩:=Jbk (w1.said (Jc c));obtain⟨x',y',z',ao,mQ⟩:=Jbk (w2.said (Jc c));have xN:(x=x'/\y=y'/\z=z')↔w1.said (Jc c)=w2.said (Jc c):=by
    rcases hx with⟨e,rfl,rfl,rfl⟩|⟨e,rfl⟩<;>rcases mQ with⟨e',rfl,rfl,rfl⟩|⟨e',rfl⟩<;>rw[e,e']<;>simp
   obtain⟨hh1,ok1⟩:=Ja9 hk hw kD;obtain⟨hh2,ok2⟩:=Ja9 hk hw Hp;have vS:∀V,M D W V->aB Tryz.prog 144 #[qV wj h.2.2.2 ⟨(Jc c).toArray⟩,L s2] V λe w'=>M D V w'/\∃g cap,JbP e x' y' z' (Z ⟨g,0,Y⟩) (w2.1.length+1) cap aK/\XP wj w2 g w':=λV hV=>by
    refine(H2 V (hT.go hV)).mono ?_;rintro e w'⟨ht,a,b,d,g,cap,qB,he,hg,uD⟩;rw[ao]at qB;simp only[Value.agg.injEq,Array.mk.injEq,QH,Value.int.injEq,true_and,and_true]at qB;obtain⟨rfl,hy,hz⟩:=qB;refine⟨ht,g,cap,?_,hg,λj t ht=>?_⟩
    ·unfold JbP;rw[he,hy,hz]
    ·rw[lD]at ht;obtain⟨t',h1,rfl⟩:=Option.map_eq_some_iff.1 ht;exact uD j t' h1
   refine(Jg5 E wj Hf hw h hh c hc s1 s2 W (hE.tch hT noE) x y z (w1.1.length+1) x' y' z' (w2.1.length+1) (XP wj w1) (XP wj w2) (λe _=>∃sx sy,e=aC (aI #[L sx,L sy,aK])/\sx.size<=1000/\sy.size<=1000/\sx ≠ sy/\dgW wj sx.data.toList=dgW wj sy.data.toList/\Ya (w1.nodes (dgW wj)) (w2.nodes (dgW wj))=Z (sx.data.toList,sy.data.toList)) (λg V V' h k=>h.tch k) (xZ x y z tK) vS (λV hV=>hL.tch (hT.go hV) (λh=>h)) (λHd V g g' cap cap' hV p1 p2=>?_) (λg V V' h k=>h.tch k)).mono ?_
   ·obtain⟨a,b,hp,zL,hd⟩:=Wy.sound (dgW wj) wj (Jj wj hw) (Jc c) h.2.2.2 w1 w2 hh1 hh2 (λx hx=>(ok1.key x hx).2.2) (λx hx=>(ok2.key x hx).2.2) (λh=>Hd (xN.2 h));obtain⟨q,post,hz,hq⟩:=Jfx _ _ a b hp;have j5:((w1.nodes (dgW wj)).map (λt=>(⟨t.toArray⟩:BA))).length=w1.1.length+1:=(by rw[QM];exact JZ _ _ _ _);have jk:((w2.nodes (dgW wj)).map (λt=>(⟨t.toArray⟩:BA))).length=w2.1.length+1:=(by rw[QM];exact JZ _ _ _ _);have yM:(⟨a.toArray⟩:BA) ≠ ⟨b.toArray⟩:=λh=>zL (by simpa using h);have hpi:=JiN g cap g' cap' _ _ (by rw[j5];have:=ok1.len;omega) q post _ hz hq yM V p1.1 p2.1 p1.2 p2.2;rw[j5,jk]at hpi;refine(callsIn_wide.1 hpi).mono ?_;rintro e w'⟨rfl,hB⟩;exact⟨(M.of_below hB).mono (λ_ hj=>aN hj),_,_,⟨_,_,rfl,by rw[Jh];exact JdZ hw ok1 (JcL _ _ _ _ hp).1,by rw[Jh];exact JdZ hw ok2 (JcL _ _ _ _ hp).2,yM,by simpa using hd,by simpa using hp⟩,rfl⟩
   ·rintro e w'⟨ht,hs,hd⟩
    by_cases zh:w1.said (Jc c)=w2.said (Jc c)
    ·obtain⟨t,u,he⟩:=hs (xN.2 zh);refine⟨ht,_,_,_,he,aN ⟨⟨t,u,rfl⟩,?_⟩⟩;show JdK _ _ _ _ _ _ _;simp only[JdK,if_pos zh];exact⟨trivial,trivial,trivial⟩
    ·obtain⟨sx,sy,he,h1,h2,h3,h4⟩:=hd (λh=>zh (xN.1 h));refine⟨ht,_,_,_,he,aM ⟨rfl,?_⟩⟩;show JdK _ _ _ _ _ _ _;simp only[JdK,if_neg zh];exact⟨trivial,h1,h2,h3,h4⟩

def Jps(key:Key)(wy:Wy):Prop:=∀x∈wy.1,bt key x.1=bt (Xo wy) x.1
theorem JfD(hw:wj<=32) :refW wj key s=Z wy↔WyOk wj wy/\s=wayB wy/\Jps key wy:=by
 unfold refW;constructor
 ·intro h
  split at h
  ·rename_i e
   cases h
   exact⟨⟨λs hs=>(by cases hs),λi h1 h2=>(by simp at h2),by simp,λ_=>rfl,λx hx=>(by cases hx)⟩,by rw[e];decide,λx hx=>(by cases hx)⟩
  ·split at h
   ·rename_i hg
    cases h
    refine⟨Jqf hg.1 hg.2,(Jqb hg.1.1).symm,λx hx=>?_⟩;obtain⟨i,hi,rfl⟩:=QL.1 hx;exact((hg.2 i (lN _) (List.mem_range.1 hi)).2).symm
   ·cases h
 ·rintro⟨Hb,rfl,hb⟩;obtain⟨steps,e⟩:=wy
  cases e with
  | none=>
   obtain rfl:steps=[]:=Hb.bare rfl;rw[if_pos (by decide)]
  | some x=>
   obtain⟨h1,h2⟩:=JnJ Hb hw x rfl;have Hd:wayB (steps,Z x) ≠ [0,0]:=λe=>by
    have h3:=h2.1;rw[e]at h3;unfold endP at h3;simp at h3
    try omega
   have hn:numP (wayB (steps,Z x))=steps.length:=(by have:=congrArg (λw:Wy=>w.1.length) h1;unfold wyP at this;simpa using this);have kE:∀i (hi:i<steps.length),stpP wj (wayB (steps,Z x)) i=steps[i]:=λi hi=>by
    have:=congrArg (λw:Wy=>w.1[i]?) h1;unfold wyP at this;simp only[lD]at this;rw[hn,lJ hi,Qd hi]at this;simpa using this
   have hkp:keyP wj (wayB (steps,Z x))=x.1:=(by have:=congrArg (λw:Wy=>w.2) h1;unfold wyP at this;simp only[Qh]at this;exact congrArg Prod.fst this);have Hy:RunP wj key (wayB (steps,Z x)) 0:=λi _ hi=>by
    rw[hn]at hi;rw[kE i hi,hkp];refine⟨?_,(hb _ (Qx hi)).symm⟩;unfold YG;rw[hn]
    split
    ·rename_i hj;rw[kE _ hj];exact Hb.rise (i+1) (by omega) hj _ _ (by rw[Nat.add_sub_cancel];exact Qd hi) (Qd hj)
    ·exact(Hb.steps _ (Qx hi)).1
   rw[if_neg Hd,if_pos ⟨h2,Hy⟩,h1]
theorem JaO(hw:wj<=32) :chk wj key state s=Z wy↔refW wj key s=Z wy/\dgW wj ((wy.nodes (dgW wj)).headD [])=state:=by
 rw[JfD hw];constructor
 ·intro h;unfold chk at h
  cases hR:(PS.rd [] s).way wj [] false ⟨#[]⟩ (0,0) with
  | none=>rw[hR]at h;cases h
  | some x=>
   obtain⟨wy',p⟩:=x;obtain⟨Hb,q,r,rfl,hs⟩:=Jid hR;rw[hR]at h
   cases r with
   | cons a r=>cases h
   | nil=>
    dsimp only at h
    split at h
    ·rename_i hc
     cases h
     exact⟨⟨Hb,by rw[hs,QC],hc.1⟩,hc.2⟩
    ·cases h
 ·rintro⟨⟨Hb,rfl,hb⟩,hr⟩;exact JnV hw Hb hb hr

theorem Jma(H:List UInt8)(hl:H.length=4+3*wj):∃h:HdL,HdOk wj h/\Hn h=H/\h.2.2.2=⟨(H.drop (4+2*wj)).toArray⟩:=by
 refine⟨(numL (H.take 4),⟨((H.drop 4).take wj).toArray⟩,⟨((H.drop (4+wj)).take wj).toArray⟩,⟨(H.drop (4+2*wj)).toArray⟩),⟨?_,?_,?_,?_⟩,?_,rfl⟩
 ·have:=Ys (H.take 4);rw[QB,Nat.min_eq_left (by omega)]at this;exact this
 ·show (⟨((H.drop 4).take wj).toArray⟩:BA).size=_;rw[Jh,QB,lC];omega
 ·show (⟨((H.drop (4+wj)).take wj).toArray⟩:BA).size=_;rw[Jh,QB,lC];omega
 ·show (⟨(H.drop (4+2*wj)).toArray⟩:BA).size=_;rw[Jh,lC];omega
 ·unfold Hn;simp only;rw[ZB _ 4 (by rw[QB];omega)];have e1:H.drop (4+2*wj)=(H.drop (4+wj)).drop wj:=by rw[List.drop_drop];congr 1;omega
  have e2:H.drop (4+wj)=(H.drop 4).drop wj:=by rw[List.drop_drop]
  rw[e1,lK,e2,lK,lK]
theorem JpA{z y:HdL}{q r:List UInt8}{p:PS}(h:(PS.rd q r).hdr wj z=Z (y,p)):∃q',p=.rd q' (r.drop (4+3*wj))/\4+3*wj<=r.length:=by
 unfold PS.hdr at h;simp only[PS.num]at h
 split at h
 ·cases h
 ·rename_i n p1 h1
  split at h1
  ·rename_i k1;simp only[Qh,Qw]at h1;obtain⟨rfl,rfl⟩:=h1;simp only[PS.txt]at h
   split at h
   ·cases h
   ·rename_i t1 p2 h2
    split at h2
    ·rename_i k2;simp only[Qh,Qw]at h2;obtain⟨rfl,rfl⟩:=h2;dsimp only at h
     split at h
     ·cases h
     ·rename_i t2 p3 h3
      split at h3
      ·rename_i k3;simp only[Qh,Qw]at h3;obtain⟨rfl,rfl⟩:=h3;dsimp only at h
       split at h
       ·cases h
       ·rename_i t3 p4 h4
        split at h4
        ·rename_i k4;simp only[Qh,Qw]at h4;obtain⟨rfl,rfl⟩:=h4;simp only[Qh,Qw]at h;obtain⟨-,rfl⟩:=h;simp only[lC]at k4;have e:(((r.drop 4).drop wj).drop wj).drop wj=r.drop (4+3*wj):=by
          simp only[List.drop_drop]
          congr 1
          omega
         rw[<-e];exact⟨_,rfl,by omega⟩
        ·cases h4
      ·cases h3
    ·cases h2
  ·cases h1
theorem JhZ(E:Nat->Addr)(wj:Nat)(hw:wj<=32)(H:BA)(hH:H.size<=1100000)(hl:H.size ≠ 4+3*wj)(w:aA)(hE:Env E w):
  aB N 212 #[O I (wj:Int),L H] w λe w'=>M D w w'/\∃sx t u,e=aC (aI #[L sx,aJ t u]):=by
 have Hi:=hE.size;obtain⟨aW,hR⟩:∃aW,aW=(ZK wj (0,⟨#[]⟩,⟨#[]⟩,⟨#[]⟩) (Z (.rd [] H.data.toList))).2:=⟨_,rfl⟩
 have hLn:H.data.toList.length=H.size:=by rw[QA];rfl
 have cS:∀p,aW=Z p->∃q,p=.rd q (H.data.toList.drop (4+3*wj))/\4+3*wj<=H.data.toList.length:=λp hp=>by
  cases hh:(PS.rd [] H.data.toList).hdr wj (0,⟨#[]⟩,⟨#[]⟩,⟨#[]⟩) with
  | none=>rw[hR,Jew _ _ _ hh]at hp;cases hp
  | some x=>
   obtain⟨y,p2⟩:=x;rw[hR,(JbL _ _ _ _ _ hh).1]at hp
   cases hp
   exact JpA hh
 have Hd:∀q,aW ≠ Z (.rd q []):=λq hq=>by
  obtain⟨q',e1,e2⟩:=cS _ hq;have e3:H.data.toList.drop (4+3*wj)=[]:=by injection e1 with _ e;exact e.symm
  have:=congrArg List.length e3;rw[lC]at this;simp only[Qv]at this;omega
 have ym:J (∀W,M D w W->Jd W w.heap.size Y (wj:Int) aK (.rd [] H.data.toList)->aB N 86 #[X (Z ⟨w.heap.size,0,Y⟩),aH #[O aD 0,L ⟨#[]⟩,L ⟨#[]⟩,L ⟨#[]⟩]] W λe w'=>∃n s1 s2 s3 g',e=aC (aH #[O aD n,L s1,L s2,L s3])/\Jg E w' w.heap.size g' (wj:Int) aW/\M (λk=>k=w.heap.size) W w'):=λW hT hp=>by
  refine(Jfk E w.heap.size (by omega) Y wj 0 ⟨#[]⟩ ⟨#[]⟩ ⟨#[]⟩ (Z (.rd [] H.data.toList)) W (hE.tch hT noE) hp (by simp only[JP,PS.len,Qv];omega)).mono ?_;rintro e w'⟨rfl,g',h1,_,h3⟩;rw[<-hR]at h1;exact⟨_,_,_,_,g',rfl,h1,h3.mono (λj hj=>aM (by rcases hj with h|h;exact h;cases h))⟩
 have uB:J (∀W g',M D w W->Jg E W w.heap.size g' (wj:Int) aW->aB N 88 #[X (Z ⟨w.heap.size,0,Y⟩)] W λe w'=>M D W w'/\∃t u,e=aC (aJ t u)):=λW g' hT hp=>
  JfB E w.heap.size wj aW (λp hp=>by obtain⟨q,e,_⟩:=cS p hp;exact⟨_,_,e⟩) Hd W (hE.tch hT noE) g' hp
 clear hE cS Hd hLn hR Hi hl;go_enter func212,ntmps212;go_wp2_with fail;refine(XT _ _ _).mono ?_;rintro _ w1⟨rfl,Hs,H6⟩;have H3:J (M D w w1):=H6;have Hq:J (Jd w1 w.heap.size Y (wj:Int) aK (.rd [] H.data.toList)):=Hs;clear H6 Hs;go_wp2_with fail;refine(ym.o w1 H3.o Hq.o).mono ?_;rintro _ w2⟨n,s1,s2,s3,g',rfl,kJ,H7⟩;obtain⟨W3,(jR:J _)⟩:∃W3,W3=w2.alloc (T #[O aD n,L s1,L s2,L s3] 167):=⟨_,rfl⟩
 have hA:M D w2 W3:=by rw[jR];exact Ta _ _ _
 have H4:J _:=(H3.trans H7 (λj hj=>aN (Nat.le_of_eq hj.symm))).go hA;have Hw:J (Jg E W3 w.heap.size g' (wj:Int) aW):=kJ.next hA;have kP:W3.heap[w2.heap.size]? =Z (T #[O aD n,L s1,L s2,L s3] 167):=by rw[jR];exact Qf _ _
 obtain⟨-, -, -,c3⟩:=rows kP;have C3:J (W3.heap[w2.heap.size]? =_):=kP;clear kJ H7 ym Hq H3 hA kP;go_upto_region 3 with fail;rw[<-jR.o];have HC:J (∀W,M D W3 W->W.cell? ⟨w2.heap.size,3,Y⟩=Z (L s3)):=λW hT=>Ja ((hT.block _ (Jb C3.out) (λh=>h)).trans C3.out);go_region_with (go_at_call 88;refine(uB.o _ g' (H4.o.go (Td _ _ 1)) (Hw.o.next (Td _ _ 1))).mono ?_;rintro _ w4⟨Ho,t,u,rfl⟩;have He:J (M D W3 w4):=(Td D W3 1).go Ho;have c4:=HC.o _ He.o;clear Ho)
 all_goals go_wp2;go_ret2;exact⟨H4.o.go He.o,_,_,_,rfl⟩

theorem JnX{c:BA×Int}(hr: -9223372036854775808<=c.2/\c.2<9223372036854775808)(h:¬Ji wj c):(PS.wr []).coin wj c=Y:=by
 unfold PS.coin;simp only[PS.txt]
 by_cases h1:c.1.data.toList.length=wj
 ·rw[if_pos h1];simp only[PS.num]
  split
  ·rfl
  ·rename_i m p2 h2
   split at h2
   ·rename_i h3;simp only[Qh,Qw]at h2;obtain⟨rfl, -⟩:=h2;rw[if_neg];intro h4;apply h;have hs:c.1.size=wj:=(by rw[<-h1,QA];rfl);unfold JD at h4;exact⟨hs,by omega,by omega⟩
   ·cases h2
 ·rw[if_neg h1]
theorem Jfm(E:Nat->Addr)(wj:Nat)(hw:wj<=32)(c:BA×Int)(hr: -9223372036854775808<=c.2/\c.2<9223372036854775808)(h:¬Ji wj c)(w:aA)(hE:Env E w):
  aB N 145 #[O I (wj:Int),aH #[L c.1,O I c.2]] w λe w'=>M D w w'/\∃t u,e=aC (aI #[L ⟨#[]⟩,aJ t u])/\Jn E 7 w' (aJ t u):=by
 refine(JdQ E wj (by omega) c w hE).mono ?_;intro e w' h1;rw[Jdb _ _ _ (JnX hr h)]at h1;exact h1
theorem JlI(E:Nat->Addr)(wj:Int)(H:BA)(hH:H.size<=1100000)(c:BA×Int)(hr: -9223372036854775808<=c.2/\c.2<9223372036854775808)(kX:¬(1<=wj/\wj<=32/\(H.size:Int)=4+3*wj/\Ji wj.toNat c))(w:aA)(hE:Env E w):
  aB N 143 #[O I wj,L H,aH #[L c.1,O I c.2]] w λe w'=>M D w w'/\∃t u,e=aC (aI #[aH #[O I 0,L ⟨#[]⟩,L ⟨#[]⟩],aJ t u]):=by
 have HE:J _:=hE;obtain⟨W,(HW:J _)⟩:∃W,W=(w.alloc (T #[L c.1,O I c.2] 49)).alloc (T #[O I 0,L ⟨#[]⟩,L ⟨#[]⟩] 248):=⟨_,rfl⟩
 have hA:M D w W:=by rw[HW];exact M.allocs _ _ _ _
 have kj:W.heap[w.heap.size]? =Z (T #[L c.1,O I c.2] 49):=by rw[HW];exact heap_alloc2_old _ _ _
 have kD:W.heap[w.heap.size+1]? =Z (T #[O I 0,L ⟨#[]⟩,L ⟨#[]⟩] 248):=by rw[HW];exact heap_alloc2_new _ _ _
 have HB:J (∀V,M D W V->(V.cell? ⟨w.heap.size,0,Y⟩=Z (L c.1)/\V.cell? ⟨w.heap.size,1,Y⟩=Z (O I c.2))/\(V.cell? ⟨w.heap.size+1,0,Y⟩=Z (O I 0)/\V.cell? ⟨w.heap.size+1,1,Y⟩=Z (L ⟨#[]⟩)/\V.cell? ⟨w.heap.size+1,2,Y⟩=Z (L ⟨#[]⟩)/\∀j,V.frozen? ⟨w.heap.size+1,j,Y⟩=false)/\J (V.heap[w.heap.size+1]? =Z (T #[O I 0,L ⟨#[]⟩,L ⟨#[]⟩] 248))):=λV hT=>by
  have h0:=(hT.block _ (Jb kj) (λh=>h)).trans kj;have h1:=(hT.block _ (Jb kD) (λh=>h)).trans kD;exact⟨⟨Ja h0,Ja h0⟩,⟨Ja h1,Ja h1,Ja h1,λj=>Qg _ _ _ _ _ h1⟩,h1⟩
 have HA:J _:=hA;clear hA kj kD
 by_cases hw:1<=wj/\wj<=32
 ·obtain⟨n,rfl⟩:=Int.eq_ofNat_of_zero_le (show 0<=wj by omega);rw[Int.toNat_natCast]at kX;have qu:1<=n:=by omega
  have jT:n<=32:=by omega
  have uj:J (∀W,_):=λW=>Ym n W qu jT
  by_cases hl:H.size=4+3*n
  ·obtain⟨hd,yh,qj, -⟩:=Jma (wj:=n) H.data.toList (by rw[QA];exact hl);have hHe:H=⟨(Hn hd).toArray⟩:=YK qj.symm;have gy:J (∀W,M D w W->_):=λW hT=>JeC E n jT hd yh W (hE.tch hT noE);rw[<-hHe]at gy;have HK:J (∀W,M D w W->_):=λW hT=>Jfm E n jT c hr (λh=>kX ⟨by omega,by omega,by omega,h⟩) W (hE.tch hT noE);generalize hd.2.2.2=st at *;obtain⟨s,aZ⟩:=c;dsimp only at HK HB HW ⊢;clear hE kX hr hl hHe yh qj hH hw;go_enter func143,ntmps143;go_upto_region 1 with fail;rw[<-HW.o];go_wp2_with fail;refine(uj W).mono ?_;rintro _ w1⟨rfl,rfl⟩;go_wp2_with fail;refine(gy W HA).mono ?_;rintro _ w2⟨rfl,H7⟩;have H4:J _:=H7;obtain⟨⟨c0,c1⟩,_⟩:=HB w2 H7;go_wp2_with fail;refine(HK w2 (HA.go H4)).mono ?_;rintro _ w3⟨Hm,t,u,rfl, -⟩;have H8:J _:=H4.go Hm;go_wp2_with (go_at_call 80;refine(Xk _ _ _ _).mono ?_;rintro _ w4⟨rfl,qG⟩;have He:J (M D W w4):=H8.go (by rw[qG];exact Ta _ _ _);obtain⟨_,⟨r0,r1,r2,fR⟩,R3⟩:=HB w4 He.o;clear qG);rw[set3 _ _ _ _ _ _ _ _ _ R3.o];refine QK (v:=aI #[aH #[O I 0,L ⟨#[]⟩,L ⟨#[]⟩],aJ _ _]) (Je results143 _ _ (w.heap.size+1) _ _ (0,0) _ rfl (Qi _ _ _ _ _ _ R3) underlying248 rfl (by kernel_rfl)) rfl ⟨(HA.go He).trans (Ts _ _ _) (λj hj=>aN (by omega)),_,_,rfl⟩
  ·have gy:J (∀W,M D w W->_):=λW hT=>JhZ E n jT H hH hl W (hE.tch hT noE);obtain⟨s,aZ⟩:=c;dsimp only at HB HW ⊢;go_enter func143,ntmps143;go_upto_region 1 with fail;rw[<-HW.o];go_wp2_with fail;refine(uj W).mono ?_;rintro _ w1⟨rfl,rfl⟩;go_wp2_with fail;refine(gy W HA).mono ?_;rintro _ w2⟨(H8:J _),sx,t,u,rfl⟩;go_wp2_with (go_at_call 80;refine(Xk _ _ _ _).mono ?_;rintro _ w4⟨rfl,qG⟩;have He:J (M D W w4):=H8.go (by rw[qG];exact Ta _ _ _);obtain⟨_,⟨r0,r1,r2,fR⟩,R3⟩:=HB w4 He.o;clear qG);rw[set3 _ _ _ _ _ _ _ _ _ R3.o];refine QK (v:=aI #[aH #[O I 0,L ⟨#[]⟩,L ⟨#[]⟩],aJ _ _]) (Je results143 _ _ (w.heap.size+1) _ _ (0,0) _ rfl (Qi _ _ _ _ _ _ R3) underlying248 rfl (by kernel_rfl)) rfl ⟨(HA.go He).trans (Ts _ _ _) (λj hj=>aN (by omega)),_,_,rfl⟩
 ·have uj:J (∀W,M D w W->_):=λW hT=>ZU E wj W (hE.tch hT noE) hw;obtain⟨s,aZ⟩:=c;dsimp only at HB HW ⊢;go_enter func143,ntmps143;go_upto_region 1 with fail;rw[<-HW.o];go_wp2_with fail;refine(uj W HA).mono ?_;rintro _ w4⟨⟨t,u,rfl, -⟩,Ho⟩;have He:J _:=Ho;obtain⟨_,⟨r0,r1,r2,fR⟩,R3⟩:=HB w4 Ho;go_wp2;rw[set3 _ _ _ _ _ _ _ _ _ R3.o];refine QK (v:=aI #[aH #[O I 0,L ⟨#[]⟩,L ⟨#[]⟩],aJ t u]) (Je results143 _ _ (w.heap.size+1) _ _ (0,0) _ rfl (Qi _ _ _ _ _ _ R3) underlying248 rfl (by kernel_rfl)) rfl ⟨(HA.go He).trans (Ts _ _ _) (λj hj=>aN (by omega)),_,_,rfl⟩

theorem Jia(E:Nat->Addr)(wj:Int)(H:BA)(hH:H.size<=1100000)(c:BA×Int)(hr: -9223372036854775808<=c.2/\c.2<9223372036854775808)(kX:¬(1<=wj/\wj<=32/\(H.size:Int)=4+3*wj/\Ji wj.toNat c))(pf:BA)(w:aA)(hE:Env E w):
  aB N 47 #[O I wj,L H,aH #[L c.1,O I c.2],L pf] w λe w'=>M D w w'/\e=aC (aI #[O I 0,aH #[O aD 0,O aE 0]]):=by
 refine JdM wj H pf c (λw0 zt=>?_);have ky:J (∀W,M D w0 W->_):=λW hT=>JlI E wj H hH c hr kX W (hE.tch (zt.go hT) noE);obtain⟨s,aZ⟩:=c;dsimp only at ky ⊢;obtain⟨W,(HW:J _)⟩:∃W,W=(w0.alloc (T #[L s,O I aZ] 49)).alloc (T #[O I 0,O aD 0,O aE 0] 179):=⟨_,rfl⟩
 have tA:M D w0 W:=by rw[HW];exact M.allocs _ _ _ _
 have kj:W.heap[w0.heap.size]? =Z (T #[L s,O I aZ] 49):=by rw[HW];exact heap_alloc2_old _ _ _
 have kD:W.heap[w0.heap.size+1]? =Z (T #[O I 0,O aD 0,O aE 0] 179):=by rw[HW];exact heap_alloc2_new _ _ _
 obtain⟨a0,a1⟩:=rows kj;have qD:J (∀V,M D W V->_):=λV hT=>(hT.block _ (Jb kD) (λh=>h)).trans kD;have HA:J _:=tA;clear tA kj kD hE kX hr hH zt;go_enter func91,ntmps91;go_upto_region 1 with fail;rw[<-HW.o];go_wp2_with fail;refine(ky W HA).mono ?_;rintro _ w1⟨H6,t,u,rfl⟩;obtain⟨W2,jm⟩:∃W2,W2=w1.alloc (T #[O I 0,L ⟨#[]⟩,L ⟨#[]⟩] 248):=⟨_,rfl⟩
 have H4:J (M D W W2):=H6.go (by rw[jm];exact Ta _ _ _);have kO:=qD W2 H4.o;obtain⟨e0,e1,e2⟩:=rows kO;have fR:∀j,W2.frozen? ⟨w0.heap.size+1,j,Y⟩=false:=λj=>Qg _ _ _ _ _ kO;have R2:J _:=kO;have gM:J _:=jm;clear H6 kO jm a0 a1 ky;go_upto_region 2 with fail;rw[<-gM.o];go_wp2;rw[set3 _ _ _ _ _ _ _ _ _ R2.o];refine QK (v:=aI #[aH #[O I 0,O aD 0,O aE 0],aJ t u]) (Je results91 _ _ (w0.heap.size+1) _ _ (0,0) _ rfl (Qi _ _ _ _ _ _ R2) underlying179 rfl (by kernel_rfl)) rfl ⟨(HA.go H4).trans (Ts _ _ _) (λj hj=>aN (by omega)),0,0,0,t,u,rfl⟩
theorem Jf2(E:Nat->Addr)(wj:Int)(H:BA)(hH:H.size<=1100000)(c:BA×Int)(hr: -9223372036854775808<=c.2/\c.2<9223372036854775808)(kX:¬(1<=wj/\wj<=32/\(H.size:Int)=4+3*wj/\Ji wj.toNat c))(s1 s2:BA)(w:aA)(hE:Env E w):
  aB N 51 #[O I wj,L H,aH #[L c.1,O I c.2],L s1,L s2] w λe w'=>M D w w'/\e=aC (aI #[L ⟨#[]⟩,L ⟨#[]⟩,aL false]):=by
 refine(Jg6 wj H s1 s2 c (λsx sy b=>sx=⟨#[]⟩/\sy=⟨#[]⟩/\b=false) (λw0 zt=>?_)).mono ?_
 ·have ky:J (∀W,M D w0 W->_):=λW hT=>JlI E wj H hH c hr kX W (hE.tch (zt.go hT) noE);obtain⟨s,aZ⟩:=c;dsimp only at ky ⊢;go_enter func94,ntmps94;go_wp2_with fail;refine(ky _ (Ta _ _ _)).mono ?_;rintro _ w1⟨H6,t,u,rfl⟩;have H3:J _:=(Ta D w0 _).go H6;go_wp2;refine QK (v:=aI #[L ⟨#[]⟩,L ⟨#[]⟩,aJ t u]) (results_tmp3 results94 _ _ _) rfl ⟨H3.go (Ta _ _ _),_,_,_,rfl,aN ⟨⟨t,u,rfl⟩,by simp⟩⟩
 ·rintro e w'⟨ht,sx,sy,b,⟨rfl,rfl,rfl⟩,rfl⟩;exact⟨ht,rfl⟩

theorem JmL(E:Nat->Addr)(wj:Nat)(hw:wj<=32)(q:Option Nat)(c:BA×Int)(hr: -9223372036854775808<=c.2/\c.2<9223372036854775808)(hc:¬Ji wj c)(w:aA)(hE:Env E w):
  aB N 93 #[JA wj q,aH #[L c.1,O I c.2]] w λe w'=>M D w w'/\∃t u,e=aC (aI #[L ⟨#[]⟩,aJ t u])/\Jn E 7 w' (aJ t u):=by
 have HK:J (∀W,M D w W->aB N 145 _ W _):=λW hT=>Jfm E wj hw c hr hc W (hE.tch hT noE);clear hE hc hr;obtain⟨rv,Hv⟩:∃rv,rv=(q.map λn=>(⟨n,0,Y⟩:Addr)):=⟨_,rfl⟩
 have e0:Jm q=X rv:=by rw[Hv]
 have e1:JA wj q=aH #[O I (wj:Int),X rv]:=by show Value.agg _=_;rw[e0]
 rw[e1];clear Hv e0 e1;obtain⟨s,aZ⟩:=c;dsimp only at HK ⊢;go_enter func93,ntmps93;go_wp2_with fail;refine(HK.o _ (M.allocs D w _ _)).mono ?_;rintro _ w1⟨H6,t,u,rfl,he⟩;have H3:J (M D w w1):=(M.allocs D w _ _).go H6;have qo:J (Jn E 7 w1 (aJ t u)):=he;clear H6 he HK;go_wp2_with fail;refine(Xk _ _ _ _).mono ?_;rintro _ w2⟨rfl,ql⟩;have H4:J (M D w1 w2):=by show M _ _ _;rw[ql];exact Ta _ _ _
 have gU:J (w2.heap[w1.heap.size]? =Z (T #[L ⟨#[99,111,105,110]⟩,aJ t u] 237)):=by show _=_;rw[ql];exact Qf _ _
 clear ql;go_wp2;go_ret2;exact⟨H3.o.go H4.o,_,_,rfl,.wrap _ _ _ gU.o (qo.o.tch H4.o (λ_ _ _ _ h=>h))⟩
theorem JmO(E:Nat->Addr)(hE:Env E w){cb r:Nat}{bs:List BV}(h:JR w cb wj fl r bs v)(k:Nat)(b:BV)(hk:bs[k]? =Z b)(hf:fl<=k)(hw:wj<=32)(hb:b.2.1=wj)(c:BA×Int)(hr: -9223372036854775808<=c.2/\c.2<9223372036854775808)(hc:¬Ji wj c):
  aB N 50 #[X (Z ⟨cb,0,Y⟩),O I (k:Int),aH #[L c.1,O I c.2]] w λe w'=>M D w w'/\∃t u,e=aC (aI #[L ⟨#[]⟩,aJ t u])/\Jn E 7 w' (aJ t u):=by
 have HS:J (∀W,M D w W->aB N 92 _ W _):=λW hT=>JeB (h.next hT) k b hk hf;have HP:J (∀W,M D w W->aB N 93 _ W _):=λW hT=>JmL E wj hw b.2.2 c hr hc W (hE.tch hT noE);rw[hb]at HS;obtain⟨rv,Hv⟩:∃rv,JA wj b.2.2=aH #[O I (wj:Int),X rv]:=⟨_,rfl⟩
 rw[Hv]at HS HP;obtain⟨s,aZ⟩:=c;clear hE h hk hc hr Hv hb;dsimp only at HP ⊢;go_enter func50,ntmps50;go_wp2_with fail;refine(HS.o _ (Ta D w _)).mono ?_;rintro _ w1⟨rfl,ht⟩;have HT:J (M D w w1):=(Ta D w _).go ht;have r1:w1.heap[w.heap.size]? =Z (T #[L s,O I aZ] 49):=(ht.block _ (by simp) (λh=>h)).trans (Qf _ _);have c0:w1.cell? ⟨w.heap.size,0,Y⟩=Z (L s):=Ja r1;have c1:w1.cell? ⟨w.heap.size,1,Y⟩=Z (O I aZ):=Ja r1;have gQ:=(Jb r1)
 clear ht HS r1;go_wp2_with fail;refine(HP.o _ (HT.o.go (Ta _ _ _))).mono ?_;rintro _ w2⟨H7,t,u,rfl,he⟩;have H4:J (M D w w2):=(HT.o.go (Ta _ _ _)).go H7;have vN:J (Jn E 7 w2 (aJ t u)):=he;clear H7 he HP;go_wp2;go_ret2;exact⟨H4.o,t,u,rfl,vN.o⟩

theorem Jod(E:Nat->Addr)(wj base:Nat)(n:Nat)(c':BA×Option Tr)(c:BA×Int)(hA:LAt wj base pn w lb F fl ch)(hF:Xx E base w)(hn:ch[n]? =Z c')(hf:fl<=n)(Hb:∀t,c'.2=Z t->t.Wf/\TrOk wj t)(hc:Ji wj c):
  aB Tryz.prog 24 #[X (Z ⟨lb,0,Y⟩),O I (n:Int),aH #[L c.1,O I c.2]] w λe w'=>e=aC (aI #[L ⟨(wayB (YQ (dgW wj) (Jc c) c'.2)).toArray⟩,O I 0])/\M D w w':=by
 obtain⟨⟨_,hw⟩,lg,cb,r,bs,lv,C⟩:=hA;have hl:=rows C.led;have jH:=(Qo.1 hn).1;have hb:bs[n]? =Z (bs[n]'(by rw[C.len];exact jH)):=Qd _;obtain⟨h1,h2,h3⟩:=C.st n _ c' hb hn hf;exact Jkq hl (n:Int) c _ (λW hT=>JmN E (hF.tch hT (λ_ e=>e.elim)).env (C.row.next hT) n _ hb hf hw F c'.2 h1 (h2.next hT) Hb c hc)
theorem Jml(E:Nat->Addr)(wj base:Nat)(h:Int)(c:BA×Int)(hA:LAt wj base pn w lb F fl ch)(hF:Xx E base w)(hh:¬((fl:Int)<=h/\h<(ch.length:Int))):
  aB Tryz.prog 24 #[X (Z ⟨lb,0,Y⟩),O I h,aH #[L c.1,O I c.2]] w λe w'=>e=aC (aI #[L ⟨#[]⟩,O I 7])/\M D w w':=by
 obtain⟨_,lg,cb,r,bs,lv,C⟩:=hA;have hl:=rows C.led;exact JdL (λw' k=>hF.next k) .range hl h c (λW hT=>JkT E (hF.tch hT (λ_ e=>e.elim)).env (C.row.next hT) h (by rw[C.len];exact hh) c)
