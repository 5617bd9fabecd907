import Derived.Test.YtighkdnooglfjaaGreatDoorOxChS
import Derived.Sort.CutIn
namespace Go.Proofs.YtighkdnooglfjaaGreatDoor
open Go.RowKit


attribute [local go_sem] Oper.semAt_some


attribute [local go_sem] Oper.semAt_some

open Go Go.RowKit

theorem Tch.putObj (S:Nat->Prop) (W:World) (l:Nat) (o:Obj) (hl:S l):Tch S W (W.putObj l o):=
 ⟨rfl,rfl,rfl,by simp [World.putObj],λk _ hn=>World.putObj_heap_other (λe=>hn (by rw [e];exact hl))⟩

theorem Jd4 {P:Program} {α:Type} {n:Nat} {g:Operand} {ps:Array Tmp} {assign body:Code} {Q:Exit->Act->World->Prop} {a:Act} {w:World} (h1:1<=n)
  {gf:Nat} {lb:Array Value} (hg:a.eval g=.func (.func gf) #[] lb) (eg:∀args w,(callFunc gf args).run P w=.ok (.enter gf args) w) {encs:α->Array Value} (hps:∀x,(encs x).size=ps.size)
  (R:Nat->Prop) (hR:∀k,R k->k<w.heap.size) (I:List α->World->Prop) (hI:∀pre A B,I pre A->Tch (λk=>w.heap.size<=k/\k<=w.heap.size+2) A B->I pre B) (h0:I [] w) (a₁:α->Nat->Act) (ob:α->Obj) (xs:List α)
  (hseq:∀(J:List α->World->Prop) (W:World),Tch NoB w W->W.heap.size=w.heap.size+2->(∀pre A B,J pre A->Tch (λk=>k=w.heap.size+2) A B->J pre B)->
   (∀pre x V,pre++[x] <+:xs->w.heap.size+2<V.heap.size->J pre V->YieldAt Fence.wide (n - 1 - 1) P (w.heap.size+1) (encs x) V λe V'=>e=.returned (.bool true)/\J (pre++[x]) V'/\Tch (λk=>R k\/k=w.heap.size+1\/w.heap.size+2<k) V V')->J [] W->
   CallsIn Fence.wide (n - 1) P gf (#[.func (.yield (w.heap.size+1)) #[] #[]]++lb) W λe W'=>(∃v,e=.returned v)/\J xs W')
  (hassign:∀(l:Nat) (x:α) (W:World) (K:Act->World->Prop),K (a₁ x W.heap.size) (W.alloc (ob x))->
   assign.wpIn (Fence.wide.inRound l) (n - 1 - 1) P (Exit.then K (λ_ _ _=>False)) { tmps:=(ps.zip (encs x)).foldl (λt (p,v)=>t.setIfInBounds p v) a.tmps,defers:=[] } W)
  (hbody:∀(l:Nat) (pre:List α) (x:α) (b:Nat) (W:World),pre++[x] <+:xs->w.heap.size+2<b->I pre W->W.heap[b]? =some (ob x)->body.wpIn (Fence.wide.inRound l) (n - 1 - 1) P (λe _ W'=>e=.normal/\Tch (λk=>R k\/w.heap.size+2<k) W W'/\I (pre++[x]) W') (a₁ x b) W)
  (hdone:∀(D:Nat) (W:World),D=w.heap.size->I xs W->W.heap[D]? =some (.deferred (some []))->Q .normal { a with defers:={ target:=.collected D,args:= #[] } :: a.defers } W):
  (Code.rangeFunc g ps assign body).wpIn Fence.wide n P Q a w:=by
 refine wpIn_rangeFunc ?_
 intro fn hfn
 rw [show Fence.wide.round=none from rfl]
 obtain ⟨rec,hrec⟩:∃rec:LoopState->Option Code->Loop,rec=λst pe=>{ state:=st,pending:=pe,fn,tmps:=a.tmps,params:=ps,assign,body,defers:=w.heap.size }:=⟨_,rfl⟩
 obtain ⟨W1,hW1⟩:∃W1,(w.alloc (.deferred (some []))).alloc (.loop (rec .ready none))=W1:=⟨_,rfl⟩
 have t1:Tch NoB w W1:=by rw [<-hW1];exact Tch.allocs _ _ _ _
 have hz1:W1.heap.size=w.heap.size+2:=by rw [<-hW1];simp
 have hL1:W1.heap[w.heap.size+1]? =some (.loop (rec .ready none)):=by rw [<-hW1];exact heap_alloc2_new _ _ _
 have hD1:W1.heap[w.heap.size]? =some (.deferred (some [])):=by rw [<-hW1];exact heap_alloc2_old _ _ _
 refine ⟨w.heap.size+1,[{ target:=.collected w.heap.size,args:= #[] }],W1,{ target:=.fn (.func gf) lb,args:= #[.func (.yield (w.heap.size+1)) #[] #[]] },W1,gf,#[.func (.yield (w.heap.size+1)) #[] #[]]++lb,W1,?_,?_,?_,?_,λ_=>h1,?_⟩
 ·rw [<-hW1,hrec];exact run_enterLoop_outer _ _ _ _ _
 ·simp only [resolve,hg]
  simp [go_sem]
 ·intro f' hf';trivial
 ·simp [invoke,go_sem,eg]
 ·refine (hseq (λpre W=>I pre W/\W.heap[w.heap.size+1]? =some (.loop (rec .ready none))/\W.heap[w.heap.size]? =some (.deferred (some []))) W1 t1 hz1
   (λpre A B h k=>⟨hI _ _ _ h.1 (k.mono (λj hj=>.inl (by omega))),(k.block _ (Jb h.2.1) (by omega)).trans h.2.1,(k.block _ (Jb h.2.2) (by omega)).trans h.2.2⟩)
   ?_ ⟨hI _ _ _ h0 (t1.mono noE),hL1,hD1⟩).mono ?_
  ·rintro pre x V hKx hVz ⟨hi,hl,hd⟩
   have hlt:=(Jb hl)
   have hy:=run_yield (P:=P) (args:=encs x) hl (by rw [hrec];exact hps x)
   rw [hrec] at hy
   have tA:=Tch.alloc NoB V (ob x)
   have hlA:=(tA.block _ hlt (λe=>e)).trans hl
   have hdA:=(tA.block _ (Jb hd) (λe=>e)).trans hd
   have hbA:=Qf V (ob x)
   refine ⟨fn,_,assign,body,hy,roundIn_of_wpIn hfn (hassign _ x V _ ⟨_,run_beginRound hlA (by rw [hrec]),?_⟩)⟩
   obtain ⟨VA,hVA⟩:∃VA,VA=V.alloc (ob x):=⟨_,rfl⟩
   obtain ⟨VB,hVB⟩:∃VB,VB=VA.putObj (w.heap.size+1) (.loop { rec .ready none with state:=.busy }):=⟨_,rfl⟩
   rw [<-hVA] at tA hlA hdA hbA ⊢
   rw [<-hVB]
   have tB:Tch (λk=>k=w.heap.size+1) VA VB:=by rw [hVB];exact Tch.putObj _ _ _ _ rfl
   have hlB:VB.heap[w.heap.size+1]? =some (.loop { rec .ready none with state:=.busy }):=by rw [hVB];exact World.putObj_heap_same (Jb hlA)
   have hdB:=(tB.block _ (Jb hdA) (by omega)).trans hdA
   have hbB:=(tB.block _ (Jb hbA) (by omega)).trans hbA
   have hiB:I pre VB:=hI _ _ _ (hI _ _ _ hi (tA.mono noE)) (tB.mono (λj hj=>.inl (by omega)))
   refine wpIn_mono (hbody _ pre x _ VB hKx hVz hiB hbB) ?_
   rintro e a3 VC ⟨rfl,tC,hiC⟩
   have hlC:=(tC.block _ (Jb hlB) (λe=>by rcases e with e | e;have:=hR _ e;omega;omega)).trans hlB
   have hdC:=(tC.block _ (Jb hdB) (λe=>by rcases e with e | e;have:=hR _ e;omega;omega)).trans hdB
   have hE:=run_endRound (P:=P) none hlC
   rw [hrec] at hE
   refine ⟨_,_,hE,rfl,⟨?_,?_,?_⟩,?_⟩
   ·exact hI _ _ _ hiC (Tch.putObj _ _ _ _ (by omega))
   ·rw [hrec];exact World.putObj_heap_same (Jb hlC)
   ·exact (World.putObj_heap_other (by omega)).trans hdC
   ·refine (((tA.mono noE).trans tB (λj hj=>.inl (.inr (.inl hj)))).trans tC (λj hj=>.inl (hj.imp (λh=>h) (λh=>.inr h)))).trans (Tch.putObj (λk=>k=w.heap.size+1) _ _ _ rfl) (λj hj=>.inl (.inr (.inl hj)))
  ·rintro e W2 ⟨⟨v,rfl⟩,hi,hl,hd⟩
   have hE:=run_endLoop (P:=P) hl (by rw [hrec];simp)
   rw [hrec] at hE
   exact ⟨none,_,hE,hdone _ _ rfl (hI _ _ _ hi (Tch.putObj _ _ _ _ (by omega))) ((World.putObj_heap_other (by omega)).trans hd)⟩

attribute [local go_sem] Oper.semAt_some


attribute [local go_sem] Oper.semAt_some
