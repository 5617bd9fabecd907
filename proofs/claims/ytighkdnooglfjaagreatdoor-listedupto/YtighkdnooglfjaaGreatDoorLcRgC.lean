import Derived.Test.YtighkdnooglfjaaGreatDoorLcLiB
namespace Go.Proofs.YtighkdnooglfjaaGreatDoor
open Go Go.RowKit

variable {ch:Ch}{states:List (List Held)}{sl:List Sl}{s:List UInt8}{base fl j lb wj xb:Nat}{E:Nat->Addr}{F:Nat->Prop}{vst:Value}{w:World}
theorem JgJ{P:Program}{α σ:Type}{n:Nat}{g:Operand}{ps:Array Tmp}{assign body:Code}{Q:Exit->Act->World->Prop}{a:Act}(h1:1<=n)
 {gf:Nat} {lb:Array Value} (hg:a.eval g=.func (.func gf) #[] lb) (eg:∀args w,(callFunc gf args).run P w=.ok (.enter gf args) w) {encs:α->Array Value} (hps:∀x,(encs x).size=ps.size)
 (Can:σ->α->Prop) (Step:σ->α->σ->Prop) (Bad:σ->α->Prop) (It Kp:World->World->Prop) (s0:σ) (End:Option σ->Prop) (I:σ->World->Prop) (Ix:World->Prop)
 (hI:∀s A B,I s A->Tch (λk=>k=w.heap.size\/k=w.heap.size+1) A B->I s B) (hIx:∀A B,Ix A->Tch (λk=>k=w.heap.size\/k=w.heap.size+1) A B->Ix B)
 (hIi:∀s A B,I s A->It A B->I s B) (hIt:∀(A B:World)(l:Nat)(o:Obj),It A B->A.heap[l]? =some o->o.isCells=false->o.isWalk=false->B.heap[l]? =some o)
 (hKt:∀{A B C:World},Kp A B->Kp B C->Kp A C) (hKb:∀(A B:World)(l:Nat)(o:Obj),w.heap.size<=l->A.heap[l]? =some o->o.isCells=false->o.isWalk=false->Tch (λk=>k=l) A B->Kp A B)
 (h0:I s0 w) (a₁:α->World->Act) (al:α->World->World) (hal:∀x V,Tch NoB V (al x V))
 (hseq:∀(J:σ->World->Prop)(Jx:World->Prop)(W:World),Tch NoB w W->(∀s A B,J s A->It A B->J s B)->
 (∀s x V,Can s x->J s V->YieldAt Fence.wide (n-1-1) P (w.heap.size+1) (encs x) V λe V'=>(e=.returned (.bool true)/\∃s',Step s x s'/\J s' V'/\Kp V V')\/(e=.returned (.bool false)/\Bad s x/\Jx V'))->J s0 W->
 CallsIn Fence.wide (n-1) P gf (#[.func (.yield (w.heap.size+1)) #[] #[]]++lb) W λe W'=>(∃v,e=.returned v)/\((∃s,End (some s)/\J s W')\/(End none/\Jx W')))
 (hassign:∀(l:Nat)(x:α)(W:World)(K:Act->World->Prop),K (a₁ x W) (al x W)->
 assign.wpIn (Fence.wide.inRound l) (n-1-1) P (Exit.then K (λ_ _ _=>False)) { tmps:=(ps.zip (encs x)).foldl (λt (p,v)=>t.setIfInBounds p v) a.tmps,defers:=[] } W)
 (hbody:∀(l:Nat)(s:σ)(x:α)(V W:World),Can s x->I s W->Tch (λk=>k=w.heap.size+1) (al x V) W->w.heap.size+2<=V.heap.size->body.wpIn (Fence.wide.inRound l) (n-1-1) P (λe _ W'=>((e=.normal/\∃s',Step s x s'/\I s' W'/\Kp W W')\/(e=.ret/\Bad s x/\Ix W'))/\∀l o,W.heap[l]? =some o->l=w.heap.size\/l=w.heap.size+1->W'.heap[l]? =some o) (a₁ x V) W)
 (hKa:∀V x,Kp V (al x V)) (hIa:∀s V x,I s V->I s (al x V))
 (hdone:∀(D:Nat)(s:σ)(W:World),D=w.heap.size->End (some s)->I s W->W.heap[D]? =some (.deferred (some []))->Q .normal { a with defers:={ target:=.collected D,args:= #[] } :: a.defers } W)
 (hstop:∀(D:Nat)(W:World),D=w.heap.size->End none->Ix W->W.heap[D]? =some (.deferred (some []))->Code.ret.wpIn Fence.wide n P Q { a with defers:={ target:=.collected D,args:= #[] } :: a.defers } W):
  (Code.rangeFunc g ps assign body).wpIn Fence.wide n P Q a w:=by
 refine wpIn_rangeFunc ?_;intro fn hfn;rw[show Fence.wide.round=none from rfl];obtain⟨rec,hrec⟩:∃rec:LoopState->Option Code->Loop,rec=λst pe=>{ state:=st,pending:=pe,fn,tmps:=a.tmps,params:=ps,assign,body,defers:=w.heap.size }:=⟨_,rfl⟩
 obtain⟨W1,hW1⟩:∃W1,(w.alloc (.deferred (some []))).alloc (.loop (rec .ready none))=W1:=⟨_,rfl⟩
 have t1:Tch NoB w W1:=by rw[<-hW1];exact Tch.allocs _ _ _ _
 have hz1:W1.heap.size=w.heap.size+2:=by rw[<-hW1];simp
 have hL1:W1.heap[w.heap.size+1]? =some (.loop (rec .ready none)):=by rw[<-hW1];exact heap_alloc2_new _ _ _
 have hD1:W1.heap[w.heap.size]? =some (.deferred (some [])):=by rw[<-hW1];exact heap_alloc2_old _ _ _
 refine⟨w.heap.size+1,[{ target:=.collected w.heap.size,args:= #[] }],W1,{ target:=.fn (.func gf) lb,args:= #[.func (.yield (w.heap.size+1)) #[] #[]] },W1,gf,#[.func (.yield (w.heap.size+1)) #[] #[]]++lb,W1,?_,?_,?_,?_,λ_=>h1,?_⟩
 ·rw[<-hW1,hrec];exact run_enterLoop_outer _ _ _ _ _
 ·simp only[resolve,hg];simp[go_sem]
 ·intro f' hf';trivial
 ·simp[invoke,go_sem,eg]
 ·refine(hseq (λs W=>I s W/\W.heap[w.heap.size+1]? =some (.loop (rec .ready none))/\W.heap[w.heap.size]? =some (.deferred (some [])))
   (λW=>Ix W/\W.heap[w.heap.size+1]? =some (.loop (rec .done (some .ret)))/\W.heap[w.heap.size]? =some (.deferred (some []))) W1 t1
   (λs A B h k=>⟨hIi _ _ _ h.1 k,hIt _ _ _ _ k h.2.1 rfl rfl,hIt _ _ _ _ k h.2.2 rfl rfl⟩)
   ?_ ⟨hI _ _ _ h0 (t1.mono noE),hL1,hD1⟩).mono ?_
  ·rintro s x V hcan⟨hi,hl,hd⟩;have hlt:=(Jb hl)
   have hy:=run_yield (P:=P) (args:=encs x) hl (by rw[hrec];exact hps x);rw[hrec]at hy;have tA:=hal x V;have hlA:=(tA.block _ hlt (λe=>e)).trans hl;have hdA:=(tA.block _ (Jb hd) (λe=>e)).trans hd;have hiA:=hIa s V x hi;have hkA:=hKa V x;refine⟨fn,_,assign,body,hy,roundIn_of_wpIn hfn (hassign _ x V _ ⟨_,run_beginRound hlA (by rw[hrec]),?_⟩)⟩;obtain⟨VA,hVA⟩:∃VA,VA=al x V:=⟨_,rfl⟩
   obtain⟨VB,hVB⟩:∃VB,VB=VA.putObj (w.heap.size+1) (.loop { rec .ready none with state:=.busy }):=⟨_,rfl⟩
   rw[<-hVA]at tA hlA hdA hiA hkA ⊢;rw[<-hVB];have tB:Tch (λk=>k=w.heap.size+1) VA VB:=(by rw[hVB];exact Tch.putObj _ _ _ _ rfl);have hlB:VB.heap[w.heap.size+1]? =some (.loop { rec .ready none with state:=.busy }):=(by rw[hVB];exact World.putObj_heap_same (Jb hlA));have hdB:=(tB.block _ (Jb hdA) (by omega)).trans hdA;have hkB:Kp V VB:=hKt hkA (hKb _ _ _ _ (by omega) hlA rfl rfl tB);have hiB:I s VB:=hI _ _ _ hiA (tB.mono (λj hj=>.inl (.inr hj)));refine wpIn_mono (hbody _ s x V VB hcan hiB (by rw[<-hVA];exact tB) (by omega)) ?_;rintro e a3 VC⟨hpost,hkeep⟩;have hlC:=hkeep _ _ hlB (.inr rfl);have hdC:=hkeep _ _ hdB (.inl rfl)
   rcases hpost with⟨rfl,s',hst,hiC,hkC⟩|⟨rfl,hbad,hixC⟩
   ·have hE:=run_endRound (P:=P) none hlC;rw[hrec]at hE;have tE:Tch (λk=>k=w.heap.size+1) VC (VC.putObj (w.heap.size+1) (.loop (rec .ready none))):=Tch.putObj _ _ _ _ rfl;refine⟨_,_,hE,.inl ⟨rfl,s',hst,⟨?_,?_,?_⟩,?_⟩⟩
    ·have:=hI _ _ _ hiC (tE.mono (λj hj=>.inl (.inr hj)));rw[hrec]at this;exact this
    ·rw[hrec];exact World.putObj_heap_same (Jb hlC)
    ·exact(World.putObj_heap_other (by omega)).trans hdC
    ·have:=hKt hkB (hKt hkC (hKb _ _ _ _ (by omega) hlC rfl rfl tE));rw[hrec]at this;exact this
   ·have hE:=run_endRound (P:=P) (some .ret) hlC;rw[hrec]at hE;have tE:Tch (λk=>k=w.heap.size+1) VC (VC.putObj (w.heap.size+1) (.loop (rec .done (some .ret)))):=Tch.putObj _ _ _ _ rfl;refine⟨_,_,hE,.inr ⟨rfl,hbad,⟨?_,?_,?_⟩⟩⟩
    ·have:=hIx _ _ hixC (tE.mono (λj hj=>.inl (.inr hj)));rw[hrec]at this;exact this
    ·rw[hrec];exact World.putObj_heap_same (Jb hlC)
    ·exact(World.putObj_heap_other (by omega)).trans hdC
  ·rintro e W2⟨⟨v,rfl⟩,⟨s,hen,hi,hl,hd⟩|⟨hen,hi,hl,hd⟩⟩
   ·have hE:=run_endLoop (P:=P) hl (by rw[hrec];simp);rw[hrec]at hE;exact⟨none,_,hE,hdone _ _ _ rfl hen (hI _ _ _ hi (Tch.putObj _ _ _ _ (by omega))) ((World.putObj_heap_other (by omega)).trans hd)⟩
   ·have hE:=run_endLoop (P:=P) hl (by rw[hrec];simp);rw[hrec]at hE;exact⟨some .ret,_,hE,hstop _ _ rfl hen (hIx _ _ hi (Tch.putObj _ _ _ _ (by omega))) ((World.putObj_heap_other (by omega)).trans hd)⟩
open Go.RowKit


open Tryz
set_option maxRecDepth 100000
set_option maxHeartbeats 2000000

theorem Jmn(xb:Nat)(a b:Int)(p0:Option Addr)(pn p1:Nat)(R:World->World->Prop)(hP:∀W,Tch NoB w W->Calls prog 17 #[.pointer (some ⟨xb,0,none⟩),.slice p0 pn p1] W λe w'=>e=.returned (.bool true)/\R W w'):
  Calls prog 20 #[.pointer (some ⟨xb,0,none⟩),.agg #[.int .i64 1,.int .i64 a,.int .i64 b,.slice p0 pn p1]] w λe w'=>e=.returned (.bool true)/\∃W,Tch NoB w W/\R W w':=by
 have HP:Hid (∀W,Tch NoB w W->_):=hP;clear hP;go_enter func20,ntmps20;go_wp2_with fail;refine(HP.o _ (Ta _ _ _)).mono ?_;rintro _ w1⟨rfl,hR⟩;have HR:Hid (R _ w1):=hR;clear hR HP;go_wp2;go_ret;exact⟨rfl,_,Ta _ _ _,HR.o⟩
theorem Jmm(xb:Nat)(kd a b:Int)(p0:Option Addr)(pn p1:Nat)(h1:¬kd=1)(h2:¬kd=2):
  Calls prog 20 #[.pointer (some ⟨xb,0,none⟩),.agg #[.int .i64 kd,.int .i64 a,.int .i64 b,.slice p0 pn p1]] w λe w'=>e=.returned (.bool true)/\Tch NoB w w':=by
 go_enter func20,ntmps20;go_wp2;go_ret;exact⟨rfl,Ta _ _ _⟩
theorem JL.len2{L:Led E wj base}(h:JL L w xb lb F fl ch vst sl states):∃va vc,vst=.slice va states.length vc/\w.cell? ⟨xb,2,none⟩=some (.slice va states.length vc)/\w.cell? ⟨xb,0,none⟩=some (.pointer (some ⟨lb,0,none⟩)):=by
 have hsl:=h.len.1;obtain⟨g,cap,hv,_⟩:=h.st.at (λe=>by have:=h.len;rw[e]at this;simp at this;omega);have hr:=h.row;rw[hv,hsl]at hr;exact⟨_,_,by rw[hv,hsl],Ja hr,Ja hr⟩

theorem Jmo(L L':Led E wj base)(hP:JfH L L')(hF:Xm E base w)(hS:JL L w xb lb F fl ch vst sl states)(hlen:states.length<=1000000000)(a b:Int)(ha1: -9223372036854775808<=a)(ha2:a<9223372036854775808)(p0:Option Addr)(pn p1:Nat):
  Calls prog 20 #[.pointer (some ⟨xb,0,none⟩),.agg #[.int .i64 2,.int .i64 a,.int .i64 b,.slice p0 pn p1]] w λe w'=>e=.returned (.bool true)/\∃F' fl',JL L' w' xb lb F' fl' ch vst sl states/\Tch (λj=>F j\/j=xb) w w'/\(∀j,F' j->F j\/w.heap.size<=j):=by
 obtain⟨W1,hW1⟩:∃(W1:World),W1=w.alloc (.cells #[.int .i64 2,.int .i64 a,.int .i64 b,.slice p0 pn p1] 31):=⟨_,rfl⟩
 have t1:Tch NoB w W1:=by rw[hW1];exact Ta _ _ _
 have hr1:W1.heap[w.heap.size]? =some (.cells #[.int .i64 2,.int .i64 a,.int .i64 b,.slice p0 pn p1] 31):=by rw[hW1];exact Qf _ _
 have hS1:=hS.next t1;have hF1:=hF.tch t1 (λ_ e=>e.elim);obtain⟨va,vc,hv,c2,c0⟩:=hS1.len2;subst hv;have c3:W1.cell? ⟨xb,3,none⟩=some (.int .i64 (fl:Int)):=Ja hS1.row;have f3:W1.frozen? ⟨xb,3,none⟩=false:=Qg _ _ _ _ _ hS1.row;have b0:W1.cell? ⟨w.heap.size,0,none⟩=some (.int .i64 2):=Ja hr1;have b1:W1.cell? ⟨w.heap.size,1,none⟩=some (.int .i64 a):=Ja hr1;have hfl:=hS.floor;have hsub:IntKind.i64.wrap ((states.length:Int)-(fl:Int))=((states.length-fl:Nat):Int):=by simp[IntKind.wrap,IntKind.bits,IntKind.signed];omega
 have HPK:Hid (∀V z,z=((states.length-fl:Nat):Int)->Calls prog 22 #[.int .i64 a,.int .i64 z] V λe w'=>(∃r:Nat,r<states.length-fl/\e=.returned (.int .i64 (r:Int)))/\w'=V):=λV z hz=>by rw[hz];exact Jbd a (states.length-fl) V ha1 ha2 (by omega) (by omega)
 have HADD:Hid (∀r:Nat,r<states.length-fl->IntKind.i64.wrap ((fl:Int)+(r:Int))=((fl+r:Nat):Int)):=λr hr=>by simp[IntKind.wrap,IntKind.bits,IntKind.signed];omega
 have HW:Hid (W1=_):=hW1;have HS:Hid (JL L W1 xb lb F fl ch (.slice va states.length vc) sl states/\Xm E base W1/\Tch NoB w W1):=⟨hS1,hF1,t1⟩
 clear hW1 t1 hr1 hS1 hF1 hS hF hfl;go_enter func20,ntmps20;go_upto_region 1 with fail;rw[<-HW.o];go_upto_region 5 with fail;go_cut [] (λwx=>∃r:Nat,Hid (r<states.length-fl)/\wx=W1.drew.setCell ⟨xb,3,none⟩ (.int .i64 ((fl+r:Nat):Int)))
 case first=>
  go_wp2_with fail
  as_aux_lemma=>
   have d0:W1.drew.cell? ⟨xb,2,none⟩=some (.slice va states.length vc)/\W1.drew.cell? ⟨xb,3,none⟩=some (.int .i64 (fl:Int))/\W1.drew.cell? ⟨w.heap.size,1,none⟩=some (.int .i64 a):=⟨c2,c3,b1⟩
   refine JU (S:=λW=>W.cell? ⟨xb,2,none⟩=some (.slice va states.length vc)/\W.cell? ⟨xb,3,none⟩=some (.int .i64 (fl:Int))/\W.cell? ⟨w.heap.size,1,none⟩=some (.int .i64 a)) 12 (by simp) (by kernel_rfl) (by kernel_rfl) d0 ?_;intro hHeld l o hl ho;simp only[List.dropLast_cons_cons,List.dropLast_singleton]at hl;simp only[List.getLast_cons_cons,List.getLast_singleton]at ho;subst hl;subst ho;simp only[Qp,Qv,Nat.reduceAdd];refine tkL 0 ?_;simp only[Act.put,Qa,Qb,Qc];refine tkL 1 ?_;simp only[Act.put,Qa,Qb,Qc];refine tkL 2 ?_;simp only[Act.put,Qa,Qb,Qc];refine tkL 3 ?_;simp only[Act.put,Qa,Qb,Qc];refine tkL 4 ?_;simp only[Act.put,Qa,Qb,Qc];refine tkL 5 ?_;simp only[Act.put,Qa,Qb,Qc];refine tkL 6 ?_;simp only[Act.put,Qa,Qb,Qc];refine tkL 7 ?_;simp only[Act.put,Qa,Qb,Qc];refine tkL 8 ?_;simp only[Act.put,Qa,Qb,Qc];refine tkL 9 ?_;simp only[Act.put,Qa,Qb,Qc];refine tkL 10 ?_;simp only[Act.put,Qa,Qb,Qc];refine tkL 12 ?_;simp only[Act.put,Qa,Qb,Qc];refine tkL 13 ?_;simp only[Act.put,Qa,Qb,Qc];refine tkL 14 ?_;simp only[Act.put,Qa,Qb,Qc];refine tkL 15 ?_;simp only[Act.put,Qa,Qb,Qc];refine Zr (i:=11) rfl (by kernel_rfl) (λK hK=>?_);go_simp;refine hK.out _ _ d0 (λhHeld11=>?_);clear hK K hHeld
   try simp only[Act.put,Qa,Qb,Qc]
   refine tkL 16 ?_;simp only[Act.put,Qa,Qb,Qc];refine Zr (i:=17) rfl (by kernel_rfl) (λK hK=>?_);go_simp;go_at_call 22;refine(HPK.o _ _ rfl).mono ?_;rintro _ w''⟨⟨r,hr,rfl⟩,hw''⟩;have hw3:=hw''.symm;subst hw3;have hadd:=HADD.o r hr;go_wp2_with fail;refine hK.out _ _ d0 (λhHeld17=>?_);clear hK K hHeld11
   try simp only[Act.put,Qa,Qb,Qc]
   refine tkL 18 ?_;simp only[Act.put,Qa,Qb,Qc];refine tkL 19 ?_;simp only[Act.put,Qa,Qb,Qc];refine tkL 20 ?_;simp only[Act.put,Qa,Qb,Qc];refine wpAnyH_done (by kernel_rfl) ?_ _;show wpList _ _ _ [_] _ _;go_wp2;go_meet;exact⟨r,hr,rfl⟩
 case rest=>
 obtain⟨r,HR,hwx⟩:=hcut;obtain⟨W2,hW2⟩:∃W2,W2=wc:=⟨wc,rfl⟩
 rw[<-hW2]at hwx ⊢;clear hW2;have hS1:=HS.o.1;have hrd:W1.drew.heap[xb]? =some (.cells #[.pointer (some ⟨lb,0,none⟩),.int .i64 (wj:Int),.slice va states.length vc,.int .i64 (fl:Int)] 35):=hS1.row;have e2:=Qj W1.drew xb 3 _ _ _ (.int .i64 ((fl+r:Nat):Int)) hrd;rw[e2]at hwx;have hr2:W2.heap[xb]? =some (.cells #[.pointer (some ⟨lb,0,none⟩),.int .i64 (wj:Int),.slice va states.length vc,.int .i64 ((fl+r:Nat):Int)] 35):=by rw[hwx];exact Qi _ _ _ _ _ _ hrd
 have t2:Tch (λj=>j=xb) W1 W2:=by rw[hwx];exact((Td NoB W1 1).mono noE).trans (Ts _ _ _) (λj hj=>.inl hj)
 have hA2:L.At W2 lb F fl ch:=L.keep hS1.led t2 (λj hj hF=>hS1.apart xb _ _ _ hS1.row (.inl rfl) (by rw[<-hj];exact hF));have hF2:Xm E base W2:=HS.o.2.1.tch t2 (λj hj=>by rw[hj];exact hS1.low);have HPR:Hid (∀V,Tch NoB W2 V->Calls prog 28 #[.pointer (some ⟨lb,0,none⟩),.int .i64 ((fl+r:Nat):Int)] V λe w'=>e=.returned (.int .i64 0)/\Tch F V w'/\∃F':Nat->Prop,(∀j,F' j->F j\/V.heap.size<=j)/\L'.At w' lb F' (fl+r) ch):=λV hV=>hP.pin (fl+r) (L.keep hA2 hV (λ_ e=>e.elim)) (hF2.tch hV (λ_ e=>e.elim)) (by omega) (by have:=HR.o;have:=hS1.len;omega);have q0:W2.cell? ⟨xb,0,none⟩=some (.pointer (some ⟨lb,0,none⟩)):=Ja hr2;have q3:W2.cell? ⟨xb,3,none⟩=some (.int .i64 ((fl+r:Nat):Int)):=Ja hr2;have HX:Hid (xb<W2.heap.size/\¬F xb):=⟨(Jb hr2),hS1.apart xb _ _ _ hS1.row (.inl rfl)⟩
 have H2:Hid (W2.heap[xb]? =some (.cells #[.pointer (some ⟨lb,0,none⟩),.int .i64 (wj:Int),.slice va states.length vc,.int .i64 ((fl+r:Nat):Int)] 35)/\Tch (λj=>j=xb) W1 W2):=⟨hr2,t2⟩
 clear hS1 hrd e2 hwx hr2 t2 hA2 hF2 c0 c2 c3 f3 b0 b1;have HFL:Hid (fl+r<states.length):=(by have:=HR.o;omega:fl+r<states.length)
 generalize fl+r=fl' at *;go_upto_region 6 with fail;go_cut [5] (λv wx=>v=.int .i64 0/\∃V F',Hid (Tch NoB W2 V)/\Hid (Tch F V wx)/\Hid (∀j,F' j->F j\/V.heap.size<=j)/\Hid (L'.At wx lb F' fl' ch))
 case first=>
  go_region_held3 (λW=>W.cell? ⟨xb,0,none⟩=some (.pointer (some ⟨lb,0,none⟩))/\W.cell? ⟨xb,3,none⟩=some (.int .i64 (fl':Int))) (go_keep) ((go_at_call 28;refine(HPR.o _ (Td _ W2 1)).mono ?_;rintro _ w3⟨rfl,ht3,F',hf3,ha3⟩;have e0:w3.cell? ⟨xb,0,none⟩=some (.pointer (some ⟨lb,0,none⟩)):=(ht3.cell (p:=⟨xb,0,none⟩) HX.o.1 HX.o.2).trans q0;have e3:w3.cell? ⟨xb,3,none⟩=some (.int .i64 (fl':Int)):=(ht3.cell (p:=⟨xb,3,none⟩) HX.o.1 HX.o.2).trans q3;have HT3:Hid (Tch F W2.drew w3):=ht3;have HF3:Hid (∀j,F' j->F j\/W2.drew.heap.size<=j):=hf3;have HA3:Hid (L'.At w3 lb F' fl' ch):=ha3;clear ht3 hf3 ha3))
  all_goals go_wp2;go_meet;exact⟨rfl,W2.drew,F',Td _ W2 1,HT3,HF3,HA3⟩
 case rest=>
 obtain⟨rfl,V,F',HV,HT3,HF3,HA3⟩:=hcut;obtain⟨w3,hw3⟩:∃w3,w3=wc:=⟨wc,rfl⟩
 subst hw3;clear HPR;go_wp2;go_ret;have hS1:=HS.o.1;have T13:Tch (λj=>F j\/j=xb) W1 w3:=((H2.o.2.mono (λ_ h=>.inl (.inr h))).trans HV.o noE).trans HT3.o (λj hj=>.inl (.inl hj));have hne:∀j cur T m,W1.heap[j]? =some (.cells cur T m)->T=43\/T=87->¬(F j\/j=xb):=λj cur T m hr hT e=>by
  rcases e with e|e
  ·exact hS1.apart j cur T m hr (.inr hT) e
  ·rw[e,hS1.row]at hr;simp only[Qh,Obj.cells.injEq]at hr
   rcases hT with rfl|rfl
   ·exact absurd hr.2.1 (by decide)
   ·exact absurd hr.2.1 (by decide)
 have hr3:=((HV.o.go (Te _ _)).block xb HX.o.1 (λe=>e)).trans H2.o.1;refine⟨rfl,F',fl',⟨(HT3.o.block xb (Qk HX.o.1 HV.o.size) HX.o.2).trans hr3,HA3.o,hS1.st.tch T13 (λj hj=>?_),hS1.low,λi x l h1 h2=>(hS1.held i x l h1 h2).tch T13 (λj hj=>?_),hS1.len,HFL.o,hS1.book⟩,?_,λj hj=>?_⟩
 ·obtain⟨c,m,hr⟩:=SOwn.kind hS1.st j hj;exact hne j c _ m hr (.inl rfl)
 ·obtain⟨c,m,hr⟩:=(hS1.held i x l h1 h2).2 j hj;exact hne j c _ m hr (.inr rfl)
 ·exact(HS.o.2.2.mono noE).trans T13 (λj hj=>.inl hj)
 ·rcases HF3.o j hj with h|h
  ·exact .inl h
  ·exact .inr (Qm (Qm HS.o.2.2.size H2.o.2.size) (Qm HV.o.size h))

theorem Jng(k:List UInt8)(i:Nat)(hi:i<8*k.length)(hl:k.length<=1000000)(w:World):
  Calls prog 59 #[.string ⟨k.toArray⟩,.int .i64 (i:Int)] w λe w'=>e=.returned (.int .i64 (bt k i:Int))/\w'=w:=by
 have hsz:(⟨k.toArray⟩:BA).size=k.length:=JA k;have hix:i/8<(⟨k.toArray⟩:BA).size:=by omega
 have HB:Hid ((⟨k.toArray⟩:BA)[i/8].toNat=(k.getD (i/8) 0).toNat):=by
  show UInt8.toNat _=_
  congr 1
  simp[List.getD_eq_getElem?_getD,show i/8<k.length by omega];rfl
 have hlt:=UInt8.toNat_lt (⟨k.toArray⟩:BA)[i/8];have HBT:Hid (bt k i=(k.getD (i/8) 0).toNat/2 ^ (7-i % 8) % 2):=rfl;clear hsz;generalize (⟨k.toArray⟩:BA)=tb at *;have hq:((i:Int)/8).toNat=i/8:=by omega
 go_enter func59,ntmps59;go_wp2;go_ret;refine⟨JcR ?_,rfl⟩;have e1:((tb[i/8].toNat:Int)/2 ^ (7-i % 8))=((tb[i/8].toNat/2 ^ (7-i % 8):Nat):Int):=by simp
 have hle:tb[i/8].toNat/2 ^ (7-i % 8)<=tb[i/8].toNat:=Nat.div_le_self _ _;rw[e1];have e2:wrap64 ((tb[i/8].toNat/2 ^ (7-i % 8):Nat):Int)=((tb[i/8].toNat/2 ^ (7-i % 8):Nat):Int):=by
  have h0:(0:Int)<=((tb[i/8].toNat/2 ^ (7-i % 8):Nat):Int):=Int.natCast_nonneg _;have h1:((tb[i/8].toNat/2 ^ (7-i % 8):Nat):Int)<256:=by omega
  generalize ((tb[i/8].toNat/2 ^ (7-i % 8):Nat):Int)=z at *;unfold wrap64;omega
 rw[e2,HBT.o,<-HB.o];rfl
def XB(l:List Held)(b:Nat):Bool:=match l with
 | []=>true
 | h::r=>r.all λx=>bt (Je x.1) b == bt (Je h.1) b
theorem Jml(xb wj b:Nat)(hb:b<8*(wj+1))(hw:wj<=32)(v:Value)(h0:Held)(r:List Held)(w:World)(hv:JR w v (h0::r))(hco:∀h∈h0::r,Jk wj h.1)(hlen:(h0::r).length<=1000000000):
  Calls prog 58 #[.pointer (some ⟨xb,0,none⟩),v,.int .i64 (b:Int)] w λe w'=>e=.returned (.bool (XB (h0::r) b))/\Tch NoB w w':=by
 rcases hv with⟨_,e⟩|⟨g,o,c,rfl,hg,hcell⟩
 ·cases e
 have HKT:Hid (∀V (s:BA) (N:Int),Jk wj (s,N)->Calls prog 54 #[.agg #[.string s,.int .i64 N]] V λe w'=>e=.returned (.string ⟨(Je (s,N)).toArray⟩)/\Tch NoB V w'):=λV s N hc=>ZQ (s,N) V hc.2.1 (by have:=hc.2.2;omega) (by have:=hc.1;dsimp only at this;show s.size<=_;omega);have HBT:Hid (∀V (c:BA×Int),Jk wj c->Calls prog 59 #[.string ⟨(Je c).toArray⟩,.int .i64 (b:Int)] V λe w'=>e=.returned (.int .i64 (bt (Je c) b:Int))/\w'=V):=λV c hc=>by
  have hl:(Je c).length=wj+1:=by unfold Je;rw[Qe,JT,Jf,hc.1]
  exact Jng (Je c) b (by rw[hl];exact hb) (by rw[hl];omega) V
 have HC:Hid (∀(i:Nat)(h:i<(h0::r).length),Jk wj (h0::r)[i].1/\∀V,Tch NoB w V->V.cell? ⟨g,o+i*4,none⟩=some (.string (h0::r)[i].1.1)/\V.cell? ⟨g,o+i*4+1,none⟩=some (.int .i64 (h0::r)[i].1.2)):=λi h=>⟨hco _ (Qx h),λV hV=>⟨(hV.cell (p:=⟨g,o+i*4,none⟩) hg (λe=>e)).trans (hcell i h).1,(hV.cell (p:=⟨g,o+i*4+1,none⟩) hg (λe=>e)).trans (hcell i h).2.1⟩⟩
 have HAL:Hid (XB (h0::r) b=r.all λx=>bt (Je x.1) b == bt (Je h0.1) b):=rfl;generalize XB (h0::r) b=al at *;have hn:(h0::r).length=r.length+1:=rfl;have hlen':r.length<=1000000000:=by omega
 rw[hn];clear hcell hco hlen hn hb;go_enter func58,ntmps58;go_upto_region 2 with fail;go_loopw [7] (λi wr=>∃k:Nat,k<=r.length/\i=.int .i64 ((k:Int)+1)/\Hid ((r.take k).all (λx=>bt (Je x.1) b == bt (Je h0.1) b)=true)/\Hid (Tch NoB w wr)) (λi _=>r.length+1-(intOf i).toNat)
 case atStart=>exact⟨0,Nat.zero_le _,rfl,(by simp:((r.take 0).all (λx=>bt (Je x.1) b == bt (Je h0.1) b))=true),Te _ _⟩
 case round=>
  obtain⟨k,hk,rfl,HA,HT⟩:=hrel
  by_cases hgo:k<r.length
  ·have hki:(k:Int)+1<((r.length+1:Nat):Int):=(by omega);obtain⟨ok0,c0⟩:=HC.o 0 (by simp);obtain⟨okk,ck⟩:=HC.o (k+1) (by simp;omega);have hxe:(h0::r)[k+1]'(by simp;omega)=r[k]:=rfl;rw[hxe]at okk ck;have hx0:(h0::r)[0]'(by simp)=h0:=rfl;rw[hx0]at ok0 c0;have HNX:Hid ((r.take (k+1)).all (λx=>bt (Je x.1) b == bt (Je h0.1) b)=(bt (Je r[k].1) b == bt (Je h0.1) b)):=by
    show List.all _ _=_;rw[QQ hgo,List.all_append,HA.o];simp
   have HNO:Hid (¬bt (Je r[k].1) b=bt (Je h0.1) b->al=false):=λhne=>by
    rw[HAL.o,List.all_eq_false];exact⟨r[k],Qx hgo,by simpa using hne⟩
   obtain⟨⟨⟨s0,N0⟩,o0⟩,hh0⟩:∃x:Held,x=h0:=⟨_,rfl⟩
   obtain⟨⟨⟨sk,Nk⟩,ok⟩,hhk⟩:∃x:Held,x=r[k]:=⟨_,rfl⟩
   rw[<-hh0]at ok0 c0 HNO;rw[<-hhk]at okk ck HNO;have HNX2:Hid (bt (Je (sk,Nk)) b=bt (Je (s0,N0)) b->(r.take (k+1)).all (λx=>bt (Je x.1) b == bt (Je h0.1) b)=true):=λe=>by rw[HNX.o,<-hh0,<-hhk];simpa using e
   clear HNX;have HO:Hid (Jk wj (s0,N0)/\Jk wj (sk,Nk)):=⟨ok0,okk⟩
   have HCC:Hid (∀V,Tch NoB w V->V.cell? ⟨g,o,none⟩=some (.string s0)/\V.cell? ⟨g,o+1,none⟩=some (.int .i64 N0)/\V.cell? ⟨g,o+(k+1)*4,none⟩=some (.string sk)/\V.cell? ⟨g,o+(k+1)*4+1,none⟩=some (.int .i64 Nk)):=λV hV=>by
    have a0:=c0 V hV;have ak:=ck V hV;simp only[Nat.zero_mul,Nat.add_zero]at a0;exact⟨a0.1,a0.2,ak.1,ak.2⟩
   obtain⟨x0,x1,xk,xl⟩:=HCC.o wr HT.o;have hk0:(0:Int)<=(k:Int)+1:=(by omega);have HGO:Hid _:=hgo;clear ok0 c0 okk ck hxe hx0 hgo hh0 hhk hk;go_upto_region 4 with fail;go_cut [29] (λv wx=>v=.bool (decide (¬bt (Je (sk,Nk)) b=bt (Je (s0,N0)) b))/\Hid (Tch NoB w wx))
   case first=>
    have hkt:((k:Int)+1).toNat=k+1:=(by omega);have HTd:Hid (Tch NoB w wr.drew):=HT.o.go (Td _ wr 1);go_region_held3 (λV=>V.cell? ⟨g,o,none⟩=some (.string s0)/\V.cell? ⟨g,o+1,none⟩=some (.int .i64 N0)/\V.cell? ⟨g,o+(k+1)*4,none⟩=some (.string sk)/\V.cell? ⟨g,o+(k+1)*4+1,none⟩=some (.int .i64 Nk)) (go_keep) ((first|(go_at_call 54;refine(HKT.o _ _ _ (by first|exact HO.o.2|exact HO.o.1)).mono ?_;rintro _ w5⟨rfl,ht5⟩;have HT5:Hid (Tch NoB w w5):=(by first|exact HTd.o.go ht5|exact HT5.o.go ht5);obtain⟨y0,y1,yk,yl⟩:=HCC.o w5 HT5.o;clear ht5)|(go_at_call 59;refine(HBT.o _ _ (by first|exact HO.o.2|exact HO.o.1)).mono ?_;rintro _ _⟨rfl,rfl⟩)))
    all_goals go_wp2;go_meet;refine⟨?_,by first|exact HT5⟩;rw[Value.bool.injEq,Bool.eq_iff_iff];simp only[bne_iff_ne,ne_eq,decide_eq_true_eq];omega
   case rest=>
   obtain⟨rfl,HT6⟩:=hcut;obtain⟨w6,hw6⟩:∃w6,w6=wc:=⟨wc,rfl⟩
   subst hw6;clear HCC x0 x1 xk xl
   by_cases hne:bt (Je (sk,Nk)) b=bt (Je (s0,N0)) b
   ·have hd:(decide (¬bt (Je (sk,Nk)) b=bt (Je (s0,N0)) b))=false:=(by simp[hne]);rw[hd];have HN:Hid ((r.take (k+1)).all (λx=>bt (Je x.1) b == bt (Je h0.1) b)=true):=(by exact HNX2.o hne);go_wp2;go_roundw
    case rel=>exact⟨k+1,HGO.o,by have:=HGO.o;go_num,HN,HT6⟩
    case measure=>have:=HGO.o;simp[intOf];omega
   ·have hd:(decide (¬bt (Je (sk,Nk)) b=bt (Je (s0,N0)) b))=true:=(by simp[hne]);rw[hd];have HN:Hid (al=false):=HNO.o hne;go_wp2;go_ret;rw[HN.o];exact⟨rfl,HT6.o⟩
  ·have hki:¬(k:Int)+1<((r.length+1:Nat):Int):=(by omega);have HAL2:Hid (al=true):=by
    show al=true;rw[HAL.o];have:=HA.o;rw[QR (by omega)]at this;exact this
   go_wp2;go_ret;rw[HAL2.o];exact⟨rfl,HT.o⟩

def koL(l:List Held):List KO:=l.map λh=>(Je h.1,h.2)
theorem ZZ(h0:Held)(r:List Held)(b:Nat):XB (h0::r) b=true↔∀x∈h0::r,bt (Je x.1) b=bt (Je h0.1) b:=by
 unfold XB;simp only[List.all_eq_true,beq_iff_eq,List.mem_cons,forall_eq_or_imp,true_and]
theorem Jmg(h0:Held)(r:List Held)(b:Nat)(hno:XB (h0::r) b=false)(hyes:∀i,i<b->XB (h0::r) i=true):Fork (koL (h0::r)) b:=by
 constructor
 ·intro x hx y hy i hi;have h:=(ZZ h0 r i).1 (hyes i hi);obtain⟨u,hu,rfl⟩:=QK.1 hx;obtain⟨v,hv,rfl⟩:=QK.1 hy;exact(h u hu).trans (h v hv).symm
 ·apply Classical.byContradiction;intro hc;have:XB (h0::r) b=true:=(ZZ h0 r b).2 λx hx=>by
   apply Classical.byContradiction;intro hne;exact hc ⟨_,QK.2 ⟨x,hx,rfl⟩,_,QK.2 ⟨h0,QM,rfl⟩,hne⟩
  rw[hno]at this
  cases this
theorem Jmf(h0 x:Held)(r:List Held)(hok:∀h∈h0::x::r,Jk wj h.1)(hnd:((h0::x::r).map (·.1)).Nodup):∃b,b<8*(wj+1)/\XB (h0::x::r) b=false:=by
 have k0:=hok h0 (by simp);have kx:=hok x (by simp);have hne:Je h0.1 ≠ Je x.1:=λe=>by
  have:=YJ k0 kx e;simp[this]at hnd
 obtain⟨h1,h2,_⟩:=Jij (Je h0.1) (Je x.1) (by rw[XY k0,XY kx]) hne;rw[XY k0]at h1;refine⟨_,h1,?_⟩
 cases ha:XB (h0::x::r) (fd (Je h0.1) (Je x.1)) with
 | false=>rfl
 | true=>exact absurd ((ZZ h0 (x::r) _).1 ha x (by simp)).symm h2
def JS(l:List Held)(b v:Nat):List Held:=l.filter λh=>bt (Je h.1) b=v
theorem Jc9(l:List Held)(b v:Nat):koL (JS l b v)=side (koL l) b v:=by
 unfold koL JS side;rw[List.filter_map];rfl
theorem Jak(l:List Held)(x:Held)(b v:Nat):JS (l++[x]) b v=if bt (Je x.1) b=v then JS l b v++[x] else JS l b v:=by
 unfold JS;rw[List.filter_append]
 by_cases h:bt (Je x.1) b=v
 ·rw[if_pos h,List.filter_cons_of_pos (by simpa using h)];rfl
 ·rw[if_neg h,List.filter_cons_of_neg (by simpa using h)];simp
theorem JeE(l:List Held)(b:Nat):(JS l b 0).length+(JS l b 1).length=l.length:=by
 have:=JgN (koL l) b;rw[<-Jc9,<-Jc9]at this;simpa [koL]using this
theorem JlB(h0:Held)(r:List Held)(b:Nat)(hno:XB (h0::r) b=false):(JS (h0::r) b 0).length<(h0::r).length/\(JS (h0::r) b 1).length<(h0::r).length:=by
 have hl:=JeE (h0::r) b;have hx:∃x∈h0::r,¬bt (Je x.1) b=bt (Je h0.1) b:=by
  apply Classical.byContradiction;intro hc;have:XB (h0::r) b=true:=(ZZ h0 r b).2 λx hx=>by
   apply Classical.byContradiction;intro hne;exact hc ⟨x,hx,hne⟩
  rw[hno]at this
  cases this
 obtain⟨x,hx,hne⟩:=hx;have b0:=Yf (Je h0.1) b;have bx:=Yf (Je x.1) b;have m0:h0∈JS (h0::r) b (bt (Je h0.1) b):=QN.2 ⟨QM,by simp⟩;have mx:x∈JS (h0::r) b (bt (Je x.1) b):=QN.2 ⟨hx,by simp⟩;have p0:=List.length_pos_of_mem m0;have px:=List.length_pos_of_mem mx;have h2:(bt (Je h0.1) b=0/\bt (Je x.1) b=1)\/(bt (Je h0.1) b=1/\bt (Je x.1) b=0):=by omega
 rcases h2 with⟨e1,e2⟩|⟨e1,e2⟩
 ·rw[e1]at p0;rw[e2]at px;omega
 ·rw[e1]at p0;rw[e2]at px;omega
theorem Jhl(h0 x:Held)(r:List Held)(hok:∀h∈h0::x::r,Jk wj h.1)(hnd:((h0::x::r).map (·.1)).Nodup):∃b,b<8*(wj+1)/\XB (h0::x::r) b=false/\∀i,i<b->XB (h0::x::r) i=true:=by
 obtain⟨b,hb,hf⟩:=Jmf h0 x r hok hnd;generalize 8*(wj+1)=M at *;generalize h0::x::r=l at *;clear hok hnd
 induction b using Nat.strongRecOn with
 | _ b ih=>
  by_cases hall:∀i,i<b->XB l i=true
  ·exact⟨b,hb,hf,hall⟩
  ·obtain⟨i,hi⟩:=Classical.not_forall.1 hall;obtain⟨hib,hia⟩:=Classical.not_imp.1 hi;exact ih i hib (by omega) (by simpa using hia)
theorem JjL{d:List UInt8->BA}(h0:Held)(r:List Held)(b:Nat)(hno:XB (h0::r) b=false)(hyes:∀i,i<b->XB (h0::r) i=true){t:List UInt8}{p q:List (List UInt8)}(hs:Xa d (koL (JS (h0::r) b 0)) s p)(ht:Xa d (koL (JS (h0::r) b 1)) t q):
  Xa d (koL (h0::r)) (78::(beL b 2 2++((d s).data.toList++(d t).data.toList))) (p++q++[78::(beL b 2 2++((d s).data.toList++(d t).data.toList))]):=by
 rw[Jc9]at hs ht;exact .two _ b s t p q (Jmg h0 r b hno hyes) hs ht
theorem JbL{P:Held->Prop}(l:List Held)(b v:Nat)(h:∀x∈l,P x):∀x∈JS l b v,P x:=λx hx=>h x (QN.1 hx).1
theorem Jcx(l:List Held)(b v:Nat)(h:(l.map (·.1)).Nodup):((JS l b v).map (·.1)).Nodup:=h.sublist (List.Sublist.map _ List.filter_sublist)
theorem Xa.tlen(hw:wj<=32){l:List Held}(hok:∀h∈l,Jk wj h.1){a:List (List UInt8)}(h:Xa (dgW wj) (koL l) s a):s.length<=1000:=by
 have hd:∀y,(dgW wj y).data.toList.length=wj:=λy=>by rw[JT,Jz wj hw]
 generalize hk:koL l=kl at h
 cases h using Xa.ri with
 | none=>simp
 | one k o=>
  have hm:(k,o)∈koL l:=by rw[hk];simp
  obtain⟨x,hx,e⟩:=QK.1 hm;have hl:=XY (hok x hx);have e1:Je x.1=k:=congrArg Prod.fst e;rw[e1]at hl;simp only[Qp,Qe,hl,JaE];omega
 | two _ b x y p q hf _ _=>
  simp only[Qp,Qe,Jf,hd];omega

def strB(l:List (List UInt8)):List BA:=l.map λx=>⟨x.toArray⟩
def SRow(base:Nat)(w:World)(j:Nat):Prop:=base<=j/\∃cs m,w.heap[j]? =some (.cells cs 9 m)
theorem SRow.not{cs:Array Value}{T:TypeId}{m:Nat×Nat}(h:w.heap[j]? =some (.cells cs T m))(hT:¬T=9):¬SRow base w j:=λe=>by
 obtain⟨_,cs',m',h'⟩:=e;rw[h]at h';simp only[Qh,Obj.cells.injEq]at h';exact hT h'.2.1
theorem SRow.back{w':World}(k:Tch (SRow base w) w w')(h:SRow base w' j):SRow base w j\/w.heap.size<=j:=by
 by_cases hj:w.heap.size<=j
 ·exact .inr hj
 ·refine .inl ?_;apply Classical.byContradiction;intro hn;obtain⟨h1,cs,m,h2⟩:=h;exact hn ⟨h1,cs,m,(k.block j (by omega) hn).symm.trans h2⟩
def ZY(wj base:Nat)(l:List Held)(w:World)(al:List BA)(e:Ending)(w':World):Prop:=
 ∃s a va',e=.returned (.tuple #[.string ⟨s.toArray⟩,va'])/\Xa (dgW wj) (koL l) s a/\NOwn base w' va' (al++strB a)/\Tch (SRow base w) w w'
theorem Jmp(wj base xb:Nat)(w:World)(v va:Value)(al:List BA)(hv:JR w v [])(ha:NOwn base w va al)(hb:base<=w.heap.size)(hl:al.length<=1000000000):
  Calls prog 30 #[.pointer (some ⟨xb,0,none⟩),v,va] w λe w'=>ZY wj base [] w al e w':=by
 obtain⟨p,q,hvs⟩:∃p q,v=.slice p 0 q:=by
  rcases hv with⟨rfl,_⟩|⟨g,o,c,rfl,_⟩
  ·exact⟨_,_,rfl⟩
  ·exact⟨_,_,rfl⟩
 subst hvs;have tA:=Ta NoB w (.cells #[.string ⟨#[69]⟩] 9);have hrA:=Qf w (.cells #[.string ⟨#[69]⟩] 9);obtain⟨v',w3,hrun,hown,hg⟩:=Xz (ha.tch tA (λ_ _ h=>h)) w.heap.size ⟨#[69]⟩ (Ja hrA) 58 (by omega) (Qm hb tA.size);obtain⟨a1,c1,hva⟩:=ha.shape;subst hva;obtain⟨a2,c2,hv2⟩:=hown.shape;generalize (al++[(⟨#[69]⟩:BA)]).length=n2 at hv2;subst hv2;have HEND:Hid (ZY wj base [] w al (.returned (.tuple #[.string ⟨#[69]⟩,.slice a2 n2 c2])) w3):=⟨[69],[[69]],_,rfl,.none,hown,(tA.mono noE).trans (Tg hg) (λj hj=>.inl (ha.own j hj.symm))⟩
 clear hv ha tA hrA hown hg hb hl;go_enter func30,ntmps30;go_wp2_with (at_builtin;refine Xu rfl _ _ 58 rfl rfl rfl hrun ?_);go_ret2;exact HEND.o
theorem Jmq(wj base xb:Nat)(hw:wj<=32)(w:World)(v va:Value)(x:Held)(al:List BA)(hv:JR w v [x])(hx:Jk wj x.1/\Jy x.2)(ha:NOwn base w va al)(hb:base<=w.heap.size)(hl:al.length<=1000000000):
  Calls prog 30 #[.pointer (some ⟨xb,0,none⟩),v,va] w λe w'=>ZY wj base [x] w al e w':=by
 rcases hv with⟨_,e⟩|⟨g,o,c,hvs,hg,hcell⟩
 ·cases e
 have hvs:v=.slice (some ⟨g,o,none⟩) 1 c:=hvs;subst hvs;obtain⟨f0,f1,f2,f3⟩:=hcell 0 (by simp);simp only[Nat.zero_mul,Nat.add_zero,List.getElem_cons_zero]at f0 f1 f2 f3;obtain⟨⟨cs,cN⟩,oa,oo⟩:=x;simp only at f0 f1 f2 f3;obtain⟨T,hT⟩:∃T:List UInt8,T=76::(Je (cs,cN)++outB (oa,oo)):=⟨_,rfl⟩
 have HEND:Hid (∀V,Tch NoB w V->∃v' w3,(Builtin.append_ #[58,58] 58 #[va,.slice (some ⟨V.heap.size,0,none⟩) 1 1]).run prog (V.alloc (.cells #[.string ⟨T.toArray⟩] 9))=.ok v' w3/\ZY wj base [((cs,cN),(oa,oo))] w al (.returned (.tuple #[.string ⟨T.toArray⟩,v'])) w3):=λV hV=>by
  have tA:=Ta NoB V (.cells #[.string ⟨T.toArray⟩] 9);obtain⟨v',w3,hrun,hown,hg⟩:=Xz (ha.tch (hV.go tA) (λ_ _ h=>h)) V.heap.size ⟨T.toArray⟩ (Ja (Qf V _)) 58 (by omega) (Qm hb (hV.go tA).size);exact⟨v',w3,hrun,T,[T],v',rfl,by rw[hT];exact .one _ _,hown,((hV.go tA).mono noE).trans (Tg hg) (λj hj=>.inl (ha.own j hj.symm))⟩
 have hcl:(Je (cs,cN)).length=wj+1:=XY hx.1;have hT2:T=[76]++Je (cs,cN)++outB (oa,oo):=by rw[hT];simp
 obtain⟨kB,hkB⟩:∃kB:BA,kB=⟨(Je (cs,cN)).toArray⟩:=⟨_,rfl⟩
 obtain⟨oB,hoB⟩:∃oB:BA,oB=⟨(outB (oa,oo)).toArray⟩:=⟨_,rfl⟩
 obtain⟨mB,hmB⟩:∃mB:BA,mB=⟨([76]++Je (cs,cN)).toArray⟩:=⟨_,rfl⟩
 obtain⟨tB,htB⟩:∃tB:BA,tB=⟨T.toArray⟩:=⟨_,rfl⟩
 have hadd1:∀W,(Op.stringOp .add (⟨#[76]⟩:BA) kB).run prog W=.ok (.string mB) W:=λW=>by rw[hkB,hmB];exact YP [76] (Je (cs,cN)) (by rw[hcl];simp;omega) W
 have hadd2:∀W,(Op.stringOp .add mB oB).run prog W=.ok (.string tB) W:=λW=>by rw[hmB,hoB,htB,hT2];exact YP ([76]++Je (cs,cN)) (outB (oa,oo)) (by rw[Qe,hcl,JaE];simp;omega) W
 have HKT:Hid (∀V,Calls prog 54 #[.agg #[.string cs,.int .i64 cN]] V λe w'=>e=.returned (.string kB)/\Tch NoB V w'):=λV=>by rw[hkB];exact ZQ (cs,cN) V hx.1.2.1 (by have:=hx.1.2.2;dsimp only at this;show cN<256;omega) (by have:=hx.1.1;dsimp only at this;show cs.size<=_;omega)
 have HOT:Hid (∀V,Calls prog 38 #[.agg #[.int .u64 (oa:Int),.int .u8 (oo:Int)]] V λe w'=>e=.returned (.string oB)/\Tch NoB V w'):=λV=>by rw[hoB];exact Jb4 oa oo V hx.2.2
 have HCC:Hid (∀V,Tch NoB w V->V.cell? ⟨g,o,none⟩=some (.string cs)/\V.cell? ⟨g,o+1,none⟩=some (.int .i64 cN)/\V.cell? ⟨g,o+2,none⟩=some (.int .u64 (oa:Int))/\V.cell? ⟨g,o+3,none⟩=some (.int .u8 (oo:Int))):=λV hV=>⟨(hV.cell (p:=⟨g,o,none⟩) hg (λe=>e)).trans f0,(hV.cell (p:=⟨g,o+1,none⟩) hg (λe=>e)).trans f1,(hV.cell (p:=⟨g,o+2,none⟩) hg (λe=>e)).trans f2,(hV.cell (p:=⟨g,o+3,none⟩) hg (λe=>e)).trans f3⟩
 rw[<-htB]at HEND;obtain⟨a1,c1,hva⟩:=ha.shape;subst hva;clear hcell ha hb hl hT hT2 hkB hoB hmB htB hcl hx;go_enter func30,ntmps30;go_upto_region 3 with fail;have HTd:Hid (Tch NoB w w.drew):=Td _ w 1;go_region_held3 (λV=>V.cell? ⟨g,o,none⟩=some (.string cs)/\V.cell? ⟨g,o+1,none⟩=some (.int .i64 cN)/\V.cell? ⟨g,o+2,none⟩=some (.int .u64 (oa:Int))/\V.cell? ⟨g,o+3,none⟩=some (.int .u8 (oo:Int))) (go_keep) ((first|(go_at_call 54;refine(HKT.o _).mono ?_;rintro _ w5⟨rfl,ht5⟩;have HT5:Hid (Tch NoB w w5):=HTd.o.go ht5;obtain⟨y0,y1,yk,yl⟩:=HCC.o w5 HT5.o;clear ht5)|(go_at_call 38;refine(HOT.o _).mono ?_;rintro _ w6⟨rfl,ht6⟩;have HT6:Hid (Tch NoB w w6):=HT5.o.go ht6;obtain⟨z0,z1,zk,zl⟩:=HCC.o w6 HT6.o;clear ht6)))
 all_goals clear HCC f0 f1 f2 f3;obtain⟨v',w3,hrun,hE⟩:=HEND.o _ HT6.o;have HE:Hid _:=hE;clear hE HEND;go_wp2_with (at_builtin;refine Xu rfl _ _ 58 rfl rfl rfl hrun ?_);go_ret2;exact HE.o
