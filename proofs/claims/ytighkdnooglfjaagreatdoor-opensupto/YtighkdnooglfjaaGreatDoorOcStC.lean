import Derived.Test.YtighkdnooglfjaaGreatDoorOcFaP
namespace Go.Proofs.YtighkdnooglfjaaGreatDoor
open Go.RowKit

attribute [local go_sem] Oper.semAt_some

open Go Go.RowKit

theorem Tch.putObj (S:Nat->Prop) (W:World) (l:Nat) (o:Obj) (hl:S l):Tch S W (W.putObj l o):=
 ⟨rfl,rfl,rfl,by simp [World.putObj],λk _ hn=>World.putObj_heap_other (λe=>hn (by rw [e];exact hl))⟩

theorem Jd1 {P:Program} {α:Type} {n:Nat} {g:Operand} {ps:Array Tmp} {assign body:Code} {Q:Exit->Act->World->Prop} {a:Act} {w:World} (h1:1<=n)
  {gf:Nat} {lb:Array Value} (hg:a.eval g=.func (.func gf) #[] lb) (eg:∀args w,(callFunc gf args).run P w=.ok (.enter gf args) w) {encs:α->Array Value} (hps:∀x,(encs x).size=ps.size)
  (R:Nat->Prop) (hR:∀k,R k->k<w.heap.size) (I:List α->World->Prop) (hI:∀pre A B,I pre A->Tch (λk=>w.heap.size<=k/\k<=w.heap.size+2) A B->I pre B) (h0:I [] w) (a₁:α->Nat->Act) (ob:α->Obj) (xs:List α)
  (hseq:∀(J:List α->World->Prop) (W:World),Tch NoB w W->W.heap.size=w.heap.size+2->(∀pre A B,J pre A->Tch (λk=>k=w.heap.size+2) A B->J pre B)->
   (∀pre x V,pre++[x] <+:xs->w.heap.size+2<V.heap.size->J pre V->YieldAt Fence.wide (n - 1 - 1) P (w.heap.size+1) (encs x) V λe V'=>e=.returned (.bool true)/\J (pre++[x]) V'/\Tch (λk=>R k\/k=w.heap.size+1\/w.heap.size+2<k) V V')->J [] W->
   CallsIn Fence.wide (n - 1) P gf (#[.func (.yield (w.heap.size+1)) #[] #[]]++lb) W λe W'=>(∃v,e=.returned v)/\J xs W')
  (hassign:∀(l:Nat) (x:α) (W:World) (K:Act->World->Prop),K (a₁ x W.heap.size) (W.alloc (ob x))->
   assign.wpIn (Fence.wide.inRound l) (n - 1 - 1) P (Exit.then K (λ_ _ _=>False)) { tmps:=(ps.zip (encs x)).foldl (λt (p,v)=>t.setIfInBounds p v) a.tmps,defers:=[] } W)
  (hbody:∀(l:Nat) (pre:List α) (x:α) (b:Nat) (W:World),pre++[x] <+:xs->w.heap.size+2<b->I pre W->W.heap[b]? =some (ob x)->body.wpIn (Fence.wide.inRound l) (n - 1 - 1) P (λe _ W'=>e=.normal/\Tch (λk=>R k\/w.heap.size+2<k) W W'/\I (pre++[x]) W') (a₁ x b) W)
  (hdone:∀(D:Nat) (W:World),D=w.heap.size->I xs W->W.heap[D]? =some (.deferred (some []))->Q .normal { a with defers:={ target:=.collected D,args:= #[] } :: a.defers } W):
  (Code.rangeFunc g ps assign body).wpIn Fence.wide n P Q a w:=by
 refine wpIn_rangeFunc ?_
 intro fn hfn
 rw [show Fence.wide.round=none from rfl]
 obtain ⟨rec,hrec⟩:∃rec:LoopState->Option Code->Loop,rec=λst pe=>{ state:=st,pending:=pe,fn,tmps:=a.tmps,params:=ps,assign,body,defers:=w.heap.size }:=⟨_,rfl⟩
 obtain ⟨W1,hW1⟩:∃W1,(w.alloc (.deferred (some []))).alloc (.loop (rec .ready none))=W1:=⟨_,rfl⟩
 have t1:Tch NoB w W1:=by rw [<-hW1];exact Tch.allocs _ _ _ _
 have hz1:W1.heap.size=w.heap.size+2:=by rw [<-hW1];simp
 have hL1:W1.heap[w.heap.size+1]? =some (.loop (rec .ready none)):=by rw [<-hW1];exact heap_alloc2_new _ _ _
 have hD1:W1.heap[w.heap.size]? =some (.deferred (some [])):=by rw [<-hW1];exact heap_alloc2_old _ _ _
 refine ⟨w.heap.size+1,[{ target:=.collected w.heap.size,args:= #[] }],W1,{ target:=.fn (.func gf) lb,args:= #[.func (.yield (w.heap.size+1)) #[] #[]] },W1,gf,#[.func (.yield (w.heap.size+1)) #[] #[]]++lb,W1,?_,?_,?_,?_,λ_=>h1,?_⟩
 ·rw [<-hW1,hrec];exact run_enterLoop_outer _ _ _ _ _
 ·simp only [resolve,hg]
  simp [go_sem]
 ·intro f' hf';trivial
 ·simp [invoke,go_sem,eg]
 ·refine (hseq (λpre W=>I pre W/\W.heap[w.heap.size+1]? =some (.loop (rec .ready none))/\W.heap[w.heap.size]? =some (.deferred (some []))) W1 t1 hz1
   (λpre A B h k=>⟨hI _ _ _ h.1 (k.mono (λj hj=>.inl (by omega))),(k.block _ (Jb h.2.1) (by omega)).trans h.2.1,(k.block _ (Jb h.2.2) (by omega)).trans h.2.2⟩)
   ?_ ⟨hI _ _ _ h0 (t1.mono noE),hL1,hD1⟩).mono ?_
  ·rintro pre x V hKx hVz ⟨hi,hl,hd⟩
   have hlt:=(Jb hl)
   have hy:=run_yield (P:=P) (args:=encs x) hl (by rw [hrec];exact hps x)
   rw [hrec] at hy
   have tA:=Ta NoB V (ob x)
   have hlA:=(tA.block _ hlt (λe=>e)).trans hl
   have hdA:=(tA.block _ (Jb hd) (λe=>e)).trans hd
   have hbA:=Qf V (ob x)
   refine ⟨fn,_,assign,body,hy,roundIn_of_wpIn hfn (hassign _ x V _ ⟨_,run_beginRound hlA (by rw [hrec]),?_⟩)⟩
   obtain ⟨VA,hVA⟩:∃VA,VA=V.alloc (ob x):=⟨_,rfl⟩
   obtain ⟨VB,hVB⟩:∃VB,VB=VA.putObj (w.heap.size+1) (.loop { rec .ready none with state:=.busy }):=⟨_,rfl⟩
   rw [<-hVA] at tA hlA hdA hbA ⊢
   rw [<-hVB]
   have tB:Tch (λk=>k=w.heap.size+1) VA VB:=by rw [hVB];exact Tch.putObj _ _ _ _ rfl
   have hlB:VB.heap[w.heap.size+1]? =some (.loop { rec .ready none with state:=.busy }):=by rw [hVB];exact World.putObj_heap_same (Jb hlA)
   have hdB:=(tB.block _ (Jb hdA) (by omega)).trans hdA
   have hbB:=(tB.block _ (Jb hbA) (by omega)).trans hbA
   have hiB:I pre VB:=hI _ _ _ (hI _ _ _ hi (tA.mono noE)) (tB.mono (λj hj=>.inl (by omega)))
   refine wpIn_mono (hbody _ pre x _ VB hKx hVz hiB hbB) ?_
   rintro e a3 VC ⟨rfl,tC,hiC⟩
   have hlC:=(tC.block _ (Jb hlB) (λe=>by rcases e with e | e;have:=hR _ e;omega;omega)).trans hlB
   have hdC:=(tC.block _ (Jb hdB) (λe=>by rcases e with e | e;have:=hR _ e;omega;omega)).trans hdB
   have hE:=run_endRound (P:=P) none hlC
   rw [hrec] at hE
   refine ⟨_,_,hE,rfl,⟨?_,?_,?_⟩,?_⟩
   ·exact hI _ _ _ hiC (Tch.putObj _ _ _ _ (by omega))
   ·rw [hrec];exact World.putObj_heap_same (Jb hlC)
   ·exact (World.putObj_heap_other (by omega)).trans hdC
   ·refine (((tA.mono noE).trans tB (λj hj=>.inl (.inr (.inl hj)))).trans tC (λj hj=>.inl (hj.imp (λh=>h) (λh=>.inr h)))).trans (Tch.putObj (λk=>k=w.heap.size+1) _ _ _ rfl) (λj hj=>.inl (.inr (.inl hj)))
  ·rintro e W2 ⟨⟨v,rfl⟩,hi,hl,hd⟩
   have hE:=run_endLoop (P:=P) hl (by rw [hrec];simp)
   rw [hrec] at hE
   exact ⟨none,_,hE,hdone _ _ rfl (hI _ _ _ hi (Tch.putObj _ _ _ _ (by omega))) ((World.putObj_heap_other (by omega)).trans hd)⟩
open Go.Proofs.Tryz
set_option maxRecDepth 100000
set_option maxHeartbeats 2000000

attribute [local go_sem] Oper.semAt_some

def Zd (g:List UInt8) (evs:List Ev):List (List UInt8×List UInt8):=([71],g) :: evs.map λe=>(e.letter,e.content)
theorem Jho (g:List UInt8) (evs:List Ev):JH (Zd g evs)=logB g evs:=by
 unfold JH Zd logB
 rw [QG,List.flatMap_map]
 rfl
theorem JgB (g:List UInt8) (evs:List Ev) (k:Nat):(Zd g evs).take (k+1)=Zd g (evs.take k):=by
 unfold Zd
 rw [List.take_succ_cons,List.map_take]
structure OpI (wd base:Nat) (c0:BA×Option Tr) (g:List UInt8) (evs:List Ev) (w:World) (pre:List (List UInt8×List UInt8×Nat)) (V:World):Prop where
 tch:Tch NoB w V
 now:(pre=[]/\V.heap[w.heap.size]? =some (.cells #[.pointer none] 88)/\V.heap[w.heap.size+1]? =some (.cells #[.int .i64 0] 3))\/
  ∃k cb F,pre.length=k+1/\V.heap[w.heap.size]? =some (.cells #[.pointer (some ⟨cb,0,none⟩)] 88)/\V.heap[w.heap.size+1]? =some (.cells #[.int .i64 ((logB g (evs.take k)).length:Int)] 3)/\(∀j,F j->w.heap.size+5<j)/\CnAt wd base c0 g (evs.take k) V cb F
theorem JjU {E:Nat->Addr} {w:World} (hE:Env E w) (i:Nat) (hi:i<=10000000000000):Calls prog 101 #[.int .i64 (i:Int)] w λe w'=>(∃s:BA,s.size<=30/\e=.returned (.string s))/\Tch NoB w w':=by
 refine (strconv_Itoa (i:Int) (by omega) (by omega) w hE.pow).mono λe w' h=>?_
 obtain ⟨h1,k,os,h2⟩:=h
 refine ⟨⟨_,?_,h1⟩,by rw [h2];exact (Tch.of_below (Jcx w k os)).mono (λ_ h=>.inr h)⟩
 have:=Lib.itoa_length_le (i:Int) (by omega) (by omega)
 show (Lib.itoa (i:Int)).toArray.size<=30
 simp
 omega
theorem Jl9 (w:World) (g:Nat) (t:TypeId) (a v:Value) (h:w.heap[g]? =some (.cells #[a] t (0,0))):w.setCell ⟨g,0,none⟩ v=w.setRow g #[v]:=by
 rw [Qj w g 0 _ t (0,0) v h]
 rfl
theorem OpI.put {wd base:Nat} {c0:BA×Option Tr} {g:List UInt8} {evs:List Ev} {w W2:World} {pre:List (List UInt8×List UInt8×Nat)} {k cb:Nat} {F:Nat->Prop} {a b:Value} (hT:Tch NoB w W2) (hp:pre.length=k+1) (h0:W2.heap[w.heap.size]? =some (.cells #[a] 88)) (h1:W2.heap[w.heap.size+1]? =some (.cells #[b] 3)) (hF:∀j,F j->w.heap.size+5<j) (hC:CnAt wd base c0 g (evs.take k) W2 cb F):
  OpI wd base c0 g evs w pre ((W2.setCell ⟨w.heap.size,0,none⟩ (.pointer (some ⟨cb,0,none⟩))).setCell ⟨w.heap.size+1,0,none⟩ (.int .i64 ((logB g (evs.take k)).length:Int)))/\Tch (λj=>(j=w.heap.size\/j=w.heap.size+1)) W2 ((W2.setCell ⟨w.heap.size,0,none⟩ (.pointer (some ⟨cb,0,none⟩))).setCell ⟨w.heap.size+1,0,none⟩ (.int .i64 ((logB g (evs.take k)).length:Int))):=by
 have t1:=Ts W2 w.heap.size #[.pointer (some ⟨cb,0,none⟩)]
 have h1':=(t1.block _ (Jb h1) (by omega)).trans h1
 rw [Jl9 _ _ _ _ _ h0,Jl9 _ _ _ _ _ h1']
 have t2:=Ts (W2.setRow w.heap.size #[.pointer (some ⟨cb,0,none⟩)]) (w.heap.size+1) #[.int .i64 ((logB g (evs.take k)).length:Int)]
 have h0':(W2.setRow w.heap.size #[.pointer (some ⟨cb,0,none⟩)]).heap[w.heap.size]? =some (.cells #[.pointer (some ⟨cb,0,none⟩)] 88):=Qi _ _ _ _ _ _ h0
 have tt:Tch (λj=>(j=w.heap.size\/j=w.heap.size+1)) W2 ((W2.setRow w.heap.size #[.pointer (some ⟨cb,0,none⟩)]).setRow (w.heap.size+1) #[.int .i64 ((logB g (evs.take k)).length:Int)]):=(t1.mono (λ_ h=>.inl (.inl h))).trans t2 (λj hj=>.inl (.inr hj))
 refine ⟨⟨hT.trans tt (λj hj=>.inr (by omega)),.inr ⟨k,cb,F,hp,(t2.block _ (Jb h0') (by omega)).trans h0',Qi _ _ _ _ _ _ h1',hF,hC.keep tt (λj hj hj2=>by have:=hF j hj2;omega)⟩⟩,tt⟩
theorem Jmn (E:Nat->Addr) {wd base:Nat} (hw1:1<=wd) (hw:wd<=32) (outs:List (Nat×Nat)) (ho:∀o∈outs,Jr o) (h1:1<=outs.length) (h3:outs.length<=3) (st:Option Tr) (hrec:JG (dgW wd (71 :: JW outs)) 0 outs none=.ok st) (evs:List Ev) {ch:Ch} {fl:Nat} (hH:Hist wd (⟨(hdrB (XA wd outs st)).toArray⟩,st) evs ch fl) (hm:ch.length<134217728) (hp:flos evs<=134217728)
  (part:List UInt8) (hpart:∀q,(raR (q,part,true)).2.2.2.2=false) (hlen:(logB (Jf wd outs) evs++part).length<=10000000000000) (w:World) (hE:Env E w) (hbase:base<=w.heap.size):
  Calls prog 61 #[.string ⟨(logB (Jf wd outs) evs++part).toArray⟩] w λe w'=>Tch NoB w w'/\∃cb F er,e=.returned (.tuple #[.pointer (some ⟨cb,0,none⟩),.int .i64 ((logB (Jf wd outs) evs).length:Int),er])/\(if part=[] then er=.nilIface else ∃t u,er=.iface t u/\Jl E 6 w' (.iface t u))/\(∀j,F j->w.heap.size<=j)/\CnAt wd base (⟨(hdrB (XA wd outs st)).toArray⟩,st) (Jf wd outs) evs w' cb F:=by
 have HB:Hid (JH (Zd (Jf wd outs) evs)++part=logB (Jf wd outs) evs++part):=by show JH _++part=_;rw [Jho]
 have HFI:Hid (∀V,Env E V->base<=V.heap.size->Calls prog 100 #[.pointer none,.agg #[.string ⟨#[71]⟩,.string ⟨(Jf wd outs).toArray⟩]] V λen w'=>Tch NoB V w'/\∃cb F,en=.returned (.tuple #[.pointer (some ⟨cb,0,none⟩),.nilIface])/\(∀j,F j->V.heap.size<=j)/\CnAt wd base (⟨(hdrB (XA wd outs st)).toArray⟩,st) (Jf wd outs) [] w' cb F):=λV hEV hb=>JgD E hw1 hw outs ho h1 h3 V hEV hb st hrec
 have HSM:Hid (∀x∈Zd (Jf wd outs) evs,x.1.length=1/\x.2.length<65536):=λx hx=>by
  rcases List.mem_cons.1 hx with rfl | hx
  ·have:=JaS wd outs h3
   exact ⟨rfl,by dsimp only;omega⟩
  ·obtain ⟨e,he,rfl⟩:=QK.1 hx
   exact ⟨by cases e using Ev.on <;> rfl,hH.small e he⟩
 generalize Jf wd outs=g at *
 generalize (⟨(hdrB (XA wd outs st)).toArray⟩:BA)=h0 at *
 have HEV:Hid (∀k (hk:k<evs.length) V cb F,Env E V->CnAt wd base (h0,st) g (evs.take k) V cb F->Calls prog 100 #[.pointer (some ⟨cb,0,none⟩),.agg #[.string ⟨evs[k].letter.toArray⟩,.string ⟨evs[k].content.toArray⟩]] V λen w'=>en=.returned (.tuple #[.pointer (some ⟨cb,0,none⟩),.nilIface])/\ReTo wd base (h0,st) g (evs.take (k+1)) cb F V w'):=λk hk V cb F hEV hC=>by
  obtain ⟨chk,flk,hHk,hpre⟩:=hH.take (k+1) hk
  rw [QP hk] at hHk ⊢
  refine JlE E hw1 hw evs[k] hHk (Nat.lt_of_le_of_lt hpre.length_le hm) ?_ hEV hC
  rw [<-QP hk]
  exact Qm (List.Sublist.countP_le (List.take_sublist _ _)) hp
 have HLN:Hid ((logB g evs++part).length<=10000000000000):=hlen
 have HPA:Hid (∀q,(raR (q,part,true)).2.2.2.2=false):=hpart
 have HE:Hid (Env E w/\base<=w.heap.size):=⟨hE,hbase⟩
 clear hH hm hp hpart hlen hE hbase hrec ho h1 h3
 obtain ⟨T,hT⟩:∃T:BA,T=⟨(logB g evs++part).toArray⟩:=⟨_,rfl⟩
 rw [<-hT]
 have HT:Hid (T=⟨(logB g evs++part).toArray⟩):=hT
 clear hT
 refine (callsIn_wide (n:=6)).1 ?_
 refine callsIn_of_wp_marks func61 rfl trivial ?_ rfl
 simp only [ntmps61,List.size_toArray,Qp,Qv,Nat.reduceAdd,Nat.reduceSub,Array.replicate_succ,Array.replicate_zero,List.push_toArray,List.append_toArray,List.nil_append,List.cons_append]
 gi_wp2
 refine ⟨trivial,(callsIn_wide.2 (Jb3 _ _)).mono ?_⟩
 rintro _ _ ⟨rfl,rfl⟩
 gi_wp2
 obtain ⟨WD,hWD⟩:∃WD,WD=((w.alloc (.cells #[.pointer none] 88)).alloc (.cells #[.int .i64 0] 3)).alloc (.cells #[.string T] 9):=⟨_,rfl⟩
 rw [<-hWD]
 have hz:WD.heap.size=w.heap.size+3:=by rw [hWD];simp
 have hal:∀(V:World) (o:Obj) (j:Nat) (x:Obj),V.heap[j]? =some x->(V.alloc o).heap[j]? =some x:=λV o j x h=>(Below.heap_alloc V o j (Jb h)).trans h
 have hnw:∀(V:World) (o:Obj) (j:Nat),V.heap.size=j->(V.alloc o).heap[j]? =some o:=λV o j h=>by subst h;exact Qf V o
 have r0:WD.heap[w.heap.size]? =some (.cells #[.pointer none] 88):=by rw [hWD];exact hal _ _ _ _ (hal _ _ _ _ (hnw _ _ _ rfl))
 have r1:WD.heap[w.heap.size+1]? =some (.cells #[.int .i64 0] 3):=by rw [hWD];exact hal _ _ _ _ (hnw _ _ _ (by simp))
 have r2:WD.heap[w.heap.size+2]? =some (.cells #[.string T] 9):=by rw [hWD];exact hnw _ _ _ (by simp)
 have hT0:Tch NoB w WD:=by rw [hWD];exact (Tch.allocs _ _ _ _).go (Ta _ _ _)
 clear hal hnw hWD
 have hK:18<=w.heap.size:=HE.o.1.size
 refine Jd1 (α:=List UInt8×List UInt8×Nat) (by omega) (gf:=159) (lb:= #[.pointer (some ⟨w.heap.size+1+1,0,none⟩)]) rfl (enters_of func159 (by kernel_rfl) rfl) (encs:=JaP) (λ_=>rfl)
  (λk=>k=w.heap.size\/k=w.heap.size+1) (λk hk=>by omega) (OpI wd base (h0,st) g evs w) ?hI ⟨hT0,.inl ⟨rfl,r0,r1⟩⟩
  (λx b=>{ tmps:= #[.string T,undef,.pointer none,.int .i64 0,.nilIface,.pointer (some ⟨w.heap.size,0,none⟩),.pointer (some ⟨w.heap.size+1,0,none⟩),.pointer (some ⟨b,0,none⟩),.int .i64 (x.2.2:Int),undef,undef,.string T,.func (.func 159) #[] #[.pointer (some ⟨w.heap.size+1+1,0,none⟩)],.agg #[.string ⟨x.1.toArray⟩,.string ⟨x.2.1.toArray⟩],.int .i64 (x.2.2:Int),undef,undef,undef,undef,undef,undef,undef,undef,undef,undef,undef,undef,undef,undef,undef,undef,undef,undef,undef,undef,undef,undef,undef,undef,undef,undef,undef],defers:=[] })
  (λx=>.cells #[.string ⟨x.1.toArray⟩,.string ⟨x.2.1.toArray⟩] 195) (Ya 0 (Zd g evs)) ?hseq ?hassign ?hbody ?hdone
 case hI=>
  intro pre A B h k
  refine ⟨h.tch.trans k (λj hj=>.inr (by omega)),?_⟩
  rcases h.now with ⟨e,a0,a1⟩ | ⟨n,cb,F,e,a0,a1,a2,a3⟩
  ·exact .inl ⟨e,(k.block _ (Jb a0) (by omega)).trans a0,(k.block _ (Jb a1) (by omega)).trans a1⟩
  ·exact .inr ⟨n,cb,F,e,(k.block _ (Jb a0) (by omega)).trans a0,(k.block _ (Jb a1) (by omega)).trans a1,a2,a3.keep k (λj hj hF=>by have:=a2 j hF;omega)⟩
 case hseq=>
  intro J W hTW hWz hJ hY hJ0
  have tW:=hT0.go hTW
  refine Jb2 E (6 - 1) (by omega) (WD.heap.size+1) (w.heap.size+1+1) (Zd g evs) part HSM.o HPA.o (by rw [HB.o];exact HLN.o) W (HE.o.1.tch tW noE) ?_ (λk=>(k=w.heap.size\/k=w.heap.size+1)\/k=WD.heap.size+1\/WD.heap.size+2<k) (λk hk=>by omega) J (λpre A B h k=>hJ pre A B h (by rw [<-hWz];exact k)) (λpre x V hx hV hJV=>hY pre x V hx (by omega) hJV) hJ0
  rw [HB.o,<-HT.o]
  exact Ja ((hTW.block _ (Jb r2) (λe=>e)).trans r2)
 case hassign=>
  intro l x W K hK
  obtain ⟨x1,x2,x3⟩:=x
  simp only [JaP] at hK ⊢
  gi_wp2
  exact hK
 case hbody=>
  intro l pre x b W hpx hb2 hI hbx
  have hget:(Ya 0 (Zd g evs))[pre.length]? =some x:=by
   obtain ⟨tl,htl⟩:=hpx
   rw [<-htl,Qs,Qz (Ql _)]
   simp
  have hlt:pre.length<(Zd g evs).length:=by
   have:=(Qo.1 hget).1
   rw [YT] at this
   exact this
  rw [JbE _ 0 _ hlt,JgB,Jho,Nat.zero_add,Qh] at hget
  have hWz:=(Jb hbx)
  have hEW:=HE.o.1.tch hI.tch noE
  have hbW:base<=W.heap.size:=Qm HE.o.2 hI.tch.size
  have HIT:Hid (Tch NoB w W):=hI.tch
  have HZ:Hid (w.heap.size+5<b/\b<W.heap.size):=⟨by omega,hWz⟩
  rcases hI.now with ⟨e,a0,a1⟩ | ⟨k,cb,F,e,a0,a1,a2,a3⟩
  ·subst e
   obtain rfl:x=([71],g,(logB g (evs.take 0)).length):=hget.symm
   have HRD:Hid (Calls prog 100 #[.pointer none,.agg #[.string ⟨#[71]⟩,.string ⟨g.toArray⟩]] W λen w'=>Tch NoB W w'/\∃cb F,en=.returned (.tuple #[.pointer (some ⟨cb,0,none⟩),.nilIface])/\(∀j,F j->W.heap.size<=j)/\CnAt wd base (h0,st) g [] w' cb F):=HFI.o W hEW hbW
   have c0:W.cell? ⟨w.heap.size,0,none⟩=some (.pointer none):=Ja a0
   have c1:W.cell? ⟨b,0,none⟩=some (.string ⟨#[71]⟩):=Ja hbx
   have c2:W.cell? ⟨b,1,none⟩=some (.string ⟨g.toArray⟩):=Ja hbx
   have HA:Hid (W.heap[w.heap.size]? =some (.cells #[.pointer none] 88)/\W.heap[w.heap.size+1]? =some (.cells #[.int .i64 0] 3)):=⟨a0,a1⟩
   clear hget hlt hWz hEW hbW hI hbx a0 a1 hpx hb2 hK r0 r1 r2 hT0 HSM HLN HPA HEV
   obtain ⟨z,hz0⟩:∃z,(logB g (evs.take 0)).length=z:=⟨_,rfl⟩
   rw [hz0]
   have HZ0:Hid ((logB g (evs.take 0)).length=z):=hz0
   clear hz0
   gi_wp2
   refine ⟨trivial,(callsIn_wide.2 HRD.o).mono ?_⟩
   rintro _ W2 ⟨ht2,cb,F,rfl,hF,hC⟩
   have b0:=(ht2.block _ (Jb HA.o.1) (λe=>e)).trans HA.o.1
   have b1:=(ht2.block _ (Jb HA.o.2) (λe=>e)).trans HA.o.2
   have HPU:Hid (_/\_):=OpI.put (evs:=evs) (pre:=[([71],g,z)]) (k:=0) (HIT.o.go ht2) rfl b0 b1 (λj hj=>by have:=hF j hj;have:=HZ.o;omega) hC
   have d0:W2.cell? ⟨w.heap.size,0,none⟩=some (.pointer none):=Ja b0
   have d1:W2.cell? ⟨w.heap.size+1,0,none⟩=some (.int .i64 0):=Ja b1
   have f0:W2.frozen? ⟨w.heap.size,0,none⟩=false:=Qg _ _ _ _ _ b0
   have f1:W2.frozen? ⟨w.heap.size+1,0,none⟩=false:=Qg _ _ _ _ _ b1
   have HT2:Hid (Tch NoB W W2):=ht2
   rw [HZ0.o] at HPU
   clear ht2 hF hC b0 b1 HRD c0 c1 c2 HA
   gi_wp2
   exact ⟨(HT2.o.mono noE).trans HPU.o.2 (λj hj=>.inl (.inl hj)),HPU.o.1⟩
  ·obtain ⟨hk2,hke⟩:∃hk2:k<evs.length,x=(evs[k].letter,evs[k].content,(logB g (evs.take (k+1))).length):=by
    have hk2:k<evs.length:=by
     unfold Zd at hlt
     rw [Qp,QL,e] at hlt
     omega
    refine ⟨hk2,?_⟩
    rw [<-hget]
    clear hget hI hpx
    generalize pre.length=i at hlt e
    subst e
    simp [Zd]
   subst hke
   have HRD:Hid (Calls prog 100 #[.pointer (some ⟨cb,0,none⟩),.agg #[.string ⟨evs[k].letter.toArray⟩,.string ⟨evs[k].content.toArray⟩]] W λen w'=>en=.returned (.tuple #[.pointer (some ⟨cb,0,none⟩),.nilIface])/\ReTo wd base (h0,st) g (evs.take (k+1)) cb F W w'):=HEV.o k hk2 W cb F hEW a3
   have c0:W.cell? ⟨w.heap.size,0,none⟩=some (.pointer (some ⟨cb,0,none⟩)):=Ja a0
   have c1:W.cell? ⟨b,0,none⟩=some (.string ⟨evs[k].letter.toArray⟩):=Ja hbx
   have c2:W.cell? ⟨b,1,none⟩=some (.string ⟨evs[k].content.toArray⟩):=Ja hbx
   have HA:Hid (W.heap[w.heap.size]? =some (.cells #[.pointer (some ⟨cb,0,none⟩)] 88)/\W.heap[w.heap.size+1]? =some (.cells #[.int .i64 ((logB g (evs.take k)).length:Int)] 3)):=⟨a0,a1⟩
   have HAF:Hid (∀j,F j->w.heap.size+5<j):=a2
   have HPL:Hid (pre.length=k+1):=e
   clear hget hlt hWz hEW hbW hI hbx a0 a1 a2 a3 hpx hb2 hK r0 r1 r2 hT0 HSM HLN HPA HEV HFI e
   obtain ⟨z,hz0⟩:∃z,(logB g (evs.take (k+1))).length=z:=⟨_,rfl⟩
   rw [hz0]
   have HZ0:Hid ((logB g (evs.take (k+1))).length=z):=hz0
   clear hz0
   generalize evs[k].letter=lt at *
   generalize evs[k].content=ct at *
   gi_wp2
   refine ⟨trivial,(callsIn_wide.2 HRD.o).mono ?_⟩
   rintro _ W2 ⟨rfl,ht2,F',hF',hC⟩
   have b0:=(ht2.block _ (Jb HA.o.1) (λe=>by have:=HAF.o _ e;omega)).trans HA.o.1
   have b1:=(ht2.block _ (Jb HA.o.2) (λe=>by have:=HAF.o _ e;omega)).trans HA.o.2
   have HTW:Hid (Tch (λj=>w.heap.size+5<j) W W2):=ht2.mono (λj hj=>.inl (HAF.o j hj))
   have HPU:Hid (_/\_):=OpI.put (evs:=evs) (pre:=pre++[(lt,ct,z)]) (k:=k+1) (HIT.o.trans HTW.o (λj hj=>.inr (by omega))) (by rw [Qe,HPL.o];rfl) b0 b1 (λj hj=>by rcases hF' j hj with h | h;exact HAF.o j h;have:=HZ.o;omega) hC
   have d0:W2.cell? ⟨w.heap.size,0,none⟩=some (.pointer (some ⟨cb,0,none⟩)):=Ja b0
   have d1:W2.cell? ⟨w.heap.size+1,0,none⟩=some (.int .i64 ((logB g (evs.take k)).length:Int)):=Ja b1
   have f0:W2.frozen? ⟨w.heap.size,0,none⟩=false:=Qg _ _ _ _ _ b0
   have f1:W2.frozen? ⟨w.heap.size+1,0,none⟩=false:=Qg _ _ _ _ _ b1
   rw [HZ0.o] at HPU
   clear ht2 hF' hC b0 b1 HRD c0 c1 c2 HA
   gi_wp2
   exact ⟨(HTW.o.mono (λj hj=>.inl (.inr (by omega)))).trans HPU.o.2 (λj hj=>.inl (.inl hj)),HPU.o.1⟩
 case hdone=>
  intro D W hD hI hd
  obtain ⟨cb,F,a0,a1,a2,a3⟩:∃cb F,W.heap[w.heap.size]? =some (.cells #[.pointer (some ⟨cb,0,none⟩)] 88)/\W.heap[w.heap.size+1]? =some (.cells #[.int .i64 ((logB g evs).length:Int)] 3)/\(∀j,F j->w.heap.size+5<j)/\CnAt wd base (h0,st) g evs W cb F:=by
   rcases hI.now with ⟨e,_⟩ | ⟨k,cb,F,e,b0,b1,b2,b3⟩
   ·simp [Ya,Zd] at e
   ·rw [YT] at e
    have hk:k=evs.length:=by unfold Zd at e;rw [Qp,QL] at e;omega
    subst hk
    rw [List.take_length] at b1 b3
    exact ⟨cb,F,b0,b1,b2,b3⟩
  have c0:W.cell? ⟨w.heap.size,0,none⟩=some (.pointer (some ⟨cb,0,none⟩)):=Ja a0
  have c1:W.cell? ⟨w.heap.size+1,0,none⟩=some (.int .i64 ((logB g evs).length:Int)):=Ja a1
  have hts:T.size=(logB g evs).length+part.length:=by rw [HT.o,Ju,Qe]
  have HTC:Hid (Tch NoB w W):=hI.tch
  have HFC:Hid ((∀j,F j->w.heap.size+5<j)/\CnAt wd base (h0,st) g evs W cb F):=⟨a2,a3⟩
  have HD:Hid (W.heap[D]? =some (.deferred (some []))/\D=w.heap.size+3):=⟨hd,by omega⟩
  have HLZ:Hid ((logB g evs).length<=10000000000000):=by have:=HLN.o;rw [Qe] at this;show (logB g evs).length<=_;omega
  clear a0 a1 a2 a3 hI hd hD HSM HLN HPA HEV HFI r0 r1 r2 hT0 HB
  obtain ⟨z,hz0⟩:∃z,(logB g evs).length=z:=⟨_,rfl⟩
  rw [hz0] at c1 hts HLZ
  have HZ0:Hid ((logB g evs).length=z):=hz0
  clear hz0
  by_cases hp0:part=[]
  ·have hlt:¬(z:Int)<(T.size:Int):=by rw [hts,hp0];simp
   have HP0:Hid (part=[]):=hp0
   clear hts hp0
   gi_wp2
   refine wpIn_wide.2 ?_
   go_region
   all_goals gi_wp2
   all_goals refine ⟨by simp,.inl ⟨_,_,rfl,run_takeDeferred (b:=D) (by first | exact HD.o.1 | exact HD.o.1),?_⟩⟩
   all_goals refine ⟨_,results_tmp3 results61 _ _ _,?_⟩
   all_goals
    have tP:=Tch.putObj (λk=>k=D) W.drew D (.deferred none) rfl
    have tT:Tch (λk=>k=D) W (W.drew.putObj D (.deferred none)):=(Td (λk=>k=D) W 1).trans tP (λ_ h=>.inl h)
    refine ⟨HTC.o.trans tT (λj hj=>.inr (by have:=HD.o.2;omega)),cb,F,.nilIface,?_,?_,λj hj=>by have:=HFC.o.1 j hj;omega,HFC.o.2.keep tT (λj hj hF=>by have:=HFC.o.1 j hF;have:=HD.o.2;omega)⟩
    ·rw [HZ0.o];rfl
    ·first | rfl | rw [if_pos HP0.o]
  ·have hlt:(z:Int)<(T.size:Int):=by rw [hts];have:=List.length_pos_iff.2 hp0;omega
   have HP0:Hid (¬part=[]):=hp0
   have HIW:Hid (∀V,Tch NoB W V->Env E V):=λV hT=>(HE.o.1.tch HTC.o noE).tch hT noE
   have HIO:Hid (∀V,Tch NoB W V->Calls prog 101 #[.int .i64 (z:Int)] V λe w'=>(∃s:BA,s.size<=30/\e=.returned (.string s))/\Tch NoB V w'):=λV hT=>JjU (HIW.o V hT) z HLZ.o
   have HCC:Hid (∀V,Tch NoB W V->V.cell? ⟨w.heap.size,0,none⟩=some (.pointer (some ⟨cb,0,none⟩))/\V.cell? ⟨w.heap.size+1,0,none⟩=some (.int .i64 (z:Int))/\V.cell? ⟨6,0,none⟩=some (eV E 6)):=λV hT=>⟨(hT.cell (Qr _ _ c0) (λh=>h)).trans c0,(hT.cell (Qr _ _ c1) (λh=>h)).trans c1,(HIW.o V hT).torn⟩
   obtain ⟨_,_,c3⟩:=HCC.o W (Te _ _)
   clear hts hp0
   gi_wp2
   refine wpIn_wide.2 ?_
   go_region_held3 (λV=>V.cell? ⟨w.heap.size,0,none⟩=some (.pointer (some ⟨cb,0,none⟩))/\V.cell? ⟨w.heap.size+1,0,none⟩=some (.int .i64 (z:Int))/\V.cell? ⟨6,0,none⟩=some (eV E 6)) (go_keep) ((first
    | (go_at_call 101;refine (HIO.o _ (Td _ W 1)).mono ?_;rintro _ w3 ⟨⟨s1,hs1,rfl⟩,ht3⟩;have HT3:Hid (Tch NoB W w3):=(Td NoB W 1).go ht3;have hnb:¬((⟨#[98,121,116,101,32]⟩:BA).size+s1.size > 9223372036854775807):=(by show ¬(5+s1.size > 9223372036854775807);omega);have hnb2:5+s1.size<=9223372036854775807:=(by omega);have hnb3:¬(9223372036854775807<5+s1.size):=(by omega);obtain ⟨e0,e1,e2⟩:=HCC.o _ HT3.o;clear ht3 hs1)
    | (go_at_call 80;refine (Xy _ _ _ _).mono ?_;rintro _ w4 ⟨rfl,hw4⟩;have HW4:Hid (w4=_):=hw4;have HT4:Hid (Tch NoB W w4):=HT3.o.go (by rw [hw4];exact Ta _ _ _);have HR4:Hid (∃s,w4.heap[w3.heap.size]? =some (.cells #[.string s,eV E 6] 237)):=⟨_,by rw [hw4];exact Qf _ _⟩;obtain ⟨h0',h1',h2'⟩:=HCC.o _ HT4.o;clear hw4)))
   all_goals gi_wp2
   all_goals
    have h4D:=(HT4.o.block D (Jb HD.o.1) (λe=>e)).trans HD.o.1
    refine ⟨by simp,.inl ⟨_,_,rfl,run_takeDeferred (b:=D) h4D,?_⟩⟩
    refine ⟨_,results_tmp3 results61 _ _ _,?_⟩
    have tP:=Tch.putObj (λk=>k=D) w4 D (.deferred none) rfl
    have tT:Tch (λk=>k=D) W (w4.putObj D (.deferred none)):=(HT4.o.mono noE).trans tP (λ_ h=>.inl h)
    obtain ⟨sx,hsx⟩:=HR4.o
    refine ⟨HTC.o.trans tT (λj hj=>.inr (by have:=HD.o.2;omega)),cb,F,.iface 235 (.pointer (some ⟨w3.heap.size,0,none⟩)),?_,?_,λj hj=>by have:=HFC.o.1 j hj;omega,HFC.o.2.keep tT (λj hj hF=>by have:=HFC.o.1 j hF;have:=HD.o.2;omega)⟩
    rotate_left
    ·exact (by first | exact ⟨_,_,rfl,.wrap w3.heap.size sx _ ((tP.block _ (Jb hsx) (by have:=HT3.o.size;have:=(Jb HD.o.1);omega)).trans hsx) .base⟩ | exact (if_neg HP0.o).mpr ⟨_,_,rfl,.wrap w3.heap.size sx _ ((tP.block _ (Jb hsx) (by have:=HT3.o.size;have:=(Jb HD.o.1);omega)).trans hsx) .base⟩)
    ·rw [HZ0.o];rfl

theorem Jm6 {w:World} (s:BA) (place c:Int) (Q:World->Nat->Value->Prop) (h:Calls prog 61 #[.string s] w λe w'=>∃cb er,e=.returned (.tuple #[.pointer (some ⟨cb,0,none⟩),.int .i64 place,er])/\Q w' cb er)
  (hC:∀w1 cb er,Q w1 cb er->∀V,Tch NoB w1 V->Calls prog 42 #[er] V λe w'=>e=.returned (.int .i64 c)/\Tch NoB V w'):
  Calls prog 32 #[.string s] w λe w'=>∃w1 cb er,Q w1 cb er/\Tch NoB (w1.alloc (.cells #[.pointer (some ⟨cb,0,none⟩)] 90)) w'/\e=.returned (.tuple #[.pointer (some ⟨w1.heap.size,0,none⟩),.int .i64 place,.int .i64 c]):=by
 have H:Hid (Calls _ _ _ _ _):=h
 have HC:Hid (∀w1 cb er,Q w1 cb er->∀V,Tch NoB w1 V->Calls prog 42 #[er] V λe w'=>e=.returned (.int .i64 c)/\Tch NoB V w'):=hC
 clear h hC
 go_enter func32,ntmps32
 go_wp2_with fail
 refine H.out.mono ?_
 rintro _ w1 ⟨cb,er,rfl,hq⟩
 have HQ:Hid (Q w1 cb er):=hq
 clear hq H
 go_wp2_with fail
 refine (HC.o w1 cb er HQ.o _ (Ta _ _ _)).mono ?_
 rintro _ w2 ⟨rfl,ht2⟩
 have HT2:Hid (Tch NoB _ w2):=ht2
 clear ht2 HC
 go_wp2
 refine QJ (v:=.tuple #[.pointer (some ⟨w1.heap.size,0,none⟩),.int .i64 place,.int .i64 c]) (results_tmp3 results32 _ _ _) rfl ?_
 exact ⟨w1,cb,er,HQ.o,HT2.o,rfl⟩
theorem Hist.hdrs {wd:Nat} (hw:wd<=32) {c0:BA×Option Tr} (h0:HdIs wd c0) {evs:List Ev} {ch:Ch} {fl:Nat} (h:Hist wd c0 evs ch fl):∀c∈ch,HdIs wd c:=by
 induction h using Hist.ri with
 | nil=>intro c hc;rw [Qt] at hc;rw [hc];exact h0
 | blk t _ h2 _ ih=>exact JfZ hw ih h2
 | flo n _ _ _ _ ih=>exact ih
theorem Jno (E:Nat->Addr) {wd base:Nat} (hw1:1<=wd) (hw:wd<=32) (outs:List (Nat×Nat)) (ho:∀o∈outs,Jr o) (h1:1<=outs.length) (h3:outs.length<=3) (st:Option Tr) (hrec:JG (dgW wd (71 :: JW outs)) 0 outs none=.ok st) (evs:List Ev) {ch:Ch} {fl:Nat} (hH:Hist wd (⟨(hdrB (XA wd outs st)).toArray⟩,st) evs ch fl) (hm:ch.length<134217728) (hp:flos evs<=134217728)
  (part:List UInt8) (hpart:∀q,(raR (q,part,true)).2.2.2.2=false) (hlen:(logB (Jf wd outs) evs++part).length<=10000000000000) (w:World) (hF:JT E base w) (hbase:base<=w.heap.size):
  Calls prog 32 #[.string ⟨(logB (Jf wd outs) evs++part).toArray⟩] w λe w'=>Tch NoB w w'/\∃lb F cb r bs lv,e=.returned (.tuple #[.pointer (some ⟨lb,0,none⟩),.int .i64 ((logB (Jf wd outs) evs).length:Int),.int .i64 (if part=[] then 0 else 8)])/\(∀j,F j->w.heap.size<=j)/\Xq wd base (flos evs) w' lb F fl ch (logB (Jf wd outs) evs) cb r bs lv:=by
 have H:=Jmn E hw1 hw outs ho h1 h3 st hrec evs hH hm hp part hpart hlen w hF.env hbase
 refine (Jm6 (c:=if part=[] then 0 else 8) _ ((logB (Jf wd outs) evs).length:Int) (λw' cb er=>Tch NoB w w'/\∃F,(if part=[] then er=.nilIface else ∃t u,er=.iface t u/\Jl E 6 w' (.iface t u))/\(∀j,F j->w.heap.size<=j)/\CnAt wd base (⟨(hdrB (XA wd outs st)).toArray⟩,st) (Jf wd outs) evs w' cb F) (H.mono λe w' k=>?_) (λw1 cb er k V hT=>?_)).mono ?_
 ·obtain ⟨k0,cb,F,er,k1,k2⟩:=k
  exact ⟨cb,er,k1,k0,F,k2⟩
 ·obtain ⟨k0,F,k1,_⟩:=k
  have hFV:=hF.tch (k0.go hT) noE
  by_cases hp0:part=[]
  ·rw [if_pos hp0] at k1 ⊢
   rw [k1]
   exact (YU V).mono λe w' h=>⟨h.1,by rw [h.2];exact Te _ _⟩
  ·rw [if_neg hp0] at k1 ⊢
   obtain ⟨t,u,rfl,k2⟩:=k1
   exact (Jbz 6 (by decide) hFV.env hFV.sent _ (k2.tch hT (λ_ _ _ _ h=>h))).mono λe w' h=>⟨h.1,by rw [h.2];exact Te _ _⟩
 ·rintro e w' ⟨w1,cb,er,⟨k0,F,_,k2,k3⟩,k4,rfl⟩
  obtain ⟨ch2,fl2,r,bs,lv,C,H2⟩:=k3
  obtain ⟨rfl,rfl⟩:=H2.same hH
  have hb1:base<=w1.heap.size:=Qm hbase k0.size
  exact ⟨(k0.go (Ta _ _ _)).go k4,w1.heap.size,λj=>j=w1.heap.size\/F j,cb,r,bs,lv,rfl,λj hj=>by rcases hj with rfl | hj;exact k0.size;exact k2 j hj,(C.about hb1).keep k4 (λ_ e=>e.elim)⟩

def c0O (wd:Nat) (outs:List (Nat×Nat)) (st:Option Tr):BA×Option Tr:=(⟨(hdrB (XA wd outs st)).toArray⟩,st)
structure Ji2 (wd:Nat) (outs:List (Nat×Nat)) (st:Option Tr):Prop where
 w1:1<=wd
 w32:wd<=32
 ok:∀o∈outs,Jr o
 one:1<=outs.length
 three:outs.length<=3
 first:JG (dgW wd (71 :: JW outs)) 0 outs none=.ok st
def HAt (wd base:Nat) (outs:List (Nat×Nat)) (st:Option Tr) (evs:List Ev) (pn:Nat) (w:World) (lb:Nat) (F:Nat->Prop) (fl:Nat) (ch:Ch):Prop:=
 Ji2 wd outs st/\∃evs' cb r bs lv,evs <+:evs'/\flos evs'=pn/\Hist wd (c0O wd outs st) evs' ch fl/\Xq wd base pn w lb F fl ch (logB (Jf wd outs) evs') cb r bs lv
theorem HAt.l {wd base pn:Nat} {outs:List (Nat×Nat)} {st:Option Tr} {evs:List Ev} {w:World} {lb:Nat} {F:Nat->Prop} {fl:Nat} {ch:Ch} (h:HAt wd base outs st evs pn w lb F fl ch):LAt wd base pn w lb F fl ch:=by
 obtain ⟨hB,evs',cb,r,bs,lv,_,_,_,C⟩:=h
 exact ⟨⟨hB.w1,hB.w32⟩,_,cb,r,bs,lv,C⟩
theorem HAt.hdrs {wd base pn:Nat} {outs:List (Nat×Nat)} {st:Option Tr} {evs:List Ev} {w:World} {lb:Nat} {F:Nat->Prop} {fl:Nat} {ch:Ch} (h:HAt wd base outs st evs pn w lb F fl ch):∀c∈ch,HdIs wd c:=by
 obtain ⟨hB,evs',cb,r,bs,lv,_,_,hH,_⟩:=h
 exact hH.hdrs hB.w32 (JhV wd hB.w32 outs st)
theorem JeM {wd:Nat} (hw:wd<=32) {ch ch':Ch} {t:List UInt8} (h:Xo (dgW wd) wd ch t=.ok ch'):t.length<65536:=by
 unfold Xo at h
 split at h
 ·rename_i y pre body hh
  obtain ⟨b,r',l1,e1,e2,_⟩:=Jbi wd hw _ _ _ _ _ hh
  split at h
  ·rename_i ts q hb
   obtain ⟨b2,r2,l2,e3,e4,_⟩:=ZF wd hw _ _ _ _ hb
   simp only [PS.of.injEq,Sum.inl.injEq,Qw] at e2 e4
   rw [e1,<-e2.2,e3,<-e4.2]
   simp only [Qe,Qv]
   omega
  ·cases h
 ·cases h
theorem Ja7 (E:Nat->Addr) (wd base:Nat) {outs:List (Nat×Nat)} {st0:Option Tr} {evs:List Ev} {pn:Nat} {w:World} {lb:Nat} {F:Nat->Prop} {fl:Nat} {ch:Ch} (s:BA) (hA:HAt wd base outs st0 evs pn w lb F fl ch) (hF:JT E base w) (hs:s.size<=1000000) (hc:ch.length<2 ^ 27):
  Calls Tryz.prog 19 #[.pointer (some ⟨lb,0,none⟩),.string s] w λe w'=>Tch F w w'/\∃F':Nat->Prop,(∀j,F' j->F j\/w.heap.size<=j)/\match Xo (dgW wd) wd ch s.data.toList with
   | .ok ch'=>e=.returned (.int .i64 0)/\HAt wd base outs st0 evs pn w' lb F' fl ch'
   | .error er=>e=.returned (.int .i64 (Xs er))/\HAt wd base outs st0 evs pn w' lb F' fl ch:=by
 obtain ⟨hB,evs',cb,r,bs,lv,hpre,hpn,hH,C⟩:=hA
 have hl:w.cell? ⟨lb,0,none⟩=some (.pointer (some ⟨cb,0,none⟩)):=Ja C.led
 obtain ⟨m,bh,q,st,hm,hbm,hb,hcm,hbs,hst,hok,hlast⟩:=C.last
 have hbw:base<=w.heap.size:=by have:=C.low lb C.ownL;omega
 have hst2:StAt (dgW wd) (λj=>(F j/\¬some j=lv.ownBlock)\/w.heap.size<=j) w q st:=hst.refine (λj hj hc=>.inl ⟨hj,λe=>by
  obtain ⟨cc,hc⟩:=hc
  obtain ⟨cu,mm,hr⟩:=C.log.kind j e.symm
  rw [hc] at hr
  simp at hr⟩)
 have hsh:=C.short
 have hfw:=C.few
 have H:=JaZ E hF.env hB.w1 hB.w32 C.row m hbm (by omega) bh q st hb hbs (λj=>(F j/\¬some j=lv.ownBlock)\/w.heap.size<=j) (λj hj=>.inr hj) hst2 hok base hbw _ C.log (by omega) s (Qm hs (by decide))
 have hse:=Jc5 (dgW wd) wd m bh st ch hm hlast (text:=s.data.toList)
 rw [hse]
 cases hp:subP (dgW wd) wd m bh st s.data.toList with
 | error er=>
  rw [hp] at H
  refine (Jfj (λw' k=>hF.next k) er hl s H).mono λe w' k=>⟨k.2.mono noE,F,λj hj=>.inl hj,k.1,hB,evs',cb,r,bs,lv,hpre,hpn,hH,C.keep k.2 noE⟩
 | ok x=>
  obtain ⟨hd,st'⟩:=x
  rw [hp] at H hse
  refine (Jgj hl s _ H).mono λe w' k=>?_
  obtain ⟨k0,q',lv',k1,k2,k3,k4,k5,k6⟩:=k
  have hx:(recB [66] s.data.toList).length<=1000100:=by rw [Yg,XU];simp only [Qp,Qv];omega
  obtain ⟨F',hF',C'⟩:=C.more (by omega) hx k1 k2 k3 k4 k5 k6 (Jd6 hB.w32 hp).1 hbw
  refine ⟨k5.mono (λj hj=>.inl ?_),F',hF',k0,hB,evs'++[.blk s.data.toList],cb,r,_,lv',hpre.trans (List.prefix_append _ _),by rw [Zz,hpn];rfl,.blk _ hH hse (JeM hB.w32 hse),by rw [ZC];exact C'⟩
  rcases hj with rfl | rfl | e
  ·exact C.ownC
  ·exact C.ownR
  ·exact C.ownG j e.symm
def Xg (E:Nat->Addr) (base wd:Nat) (outs:List (Nat×Nat)) (st:Option Tr) (evs:List Ev) (pn:Nat):Led E wd base where
 At:=HAt wd base outs st evs pn
 keep:=λh k hs=>by
  obtain ⟨hB,evs',cb,r,bs,lv,h1,h2,h3,C⟩:=h
  exact ⟨hB,evs',cb,r,bs,lv,h1,h2,h3,C.keep k hs⟩
 own:=λh j hj=>by obtain ⟨hB,evs',cb,r,bs,lv,h1,h2,h3,C⟩:=h;exact C.low j hj
 kinds:=λh j hj cur T m hr=>by
  obtain ⟨hB,evs',cb,r,bs,lv,h1,h2,h3,C⟩:=h
  rcases C.kind j hj cur T m hr with rfl | rfl | rfl | rfl <;> decide
 tip:=λh _=>Jck wd base h.l
 header:=λh hA hF _ _=>JcC E wd base h hA.l hF
 seals:=λv ts hA hF hv hts h3 hc=>JdR E wd base v ts hA.l hF hv hts h3 hc
 submits:=λs hA hF hs hc=>Ja7 E wd base s hA hF hs hc
theorem JiO (E:Nat->Addr) (base wd:Nat) (outs:List (Nat×Nat)) (st:Option Tr) (evs:List Ev) (pn:Nat):LedQ (Xg E base wd outs st evs pn) where
 oks:=λh n c' hn hf=>by
  obtain ⟨hB,evs',cb,r,bs,lv,h1,h2,h3,C⟩:=h
  have hnl:=(Qo.1 hn).1
  exact (C.st n _ c' (Qd (by rw [C.len];exact hnl)) hn hf).2.2
 hdrs:=λh=>HAt.hdrs h
 qin:=λn c' c hA hF hn hf hok hc=>Jlc E wd base n c' c hA.l hF hn hf hok hc
 qout:=λh c hA hF hh=>JjZ E wd base h c hA.l hF hh
theorem JgW (E:Nat->Addr) (base wd:Nat) (outs:List (Nat×Nat)) (st:Option Tr) (evs:List Ev) (pn:Nat) (hp:pn<134217728):JlZ (Xg E base wd outs st evs pn) (Xg E base wd outs st evs (pn+1)) where
 pin:=λ{w lb F fl ch} n hA hF hf hn=>by
  obtain ⟨hB,evs',cb,r,bs,lv,h1,h2,h3,C⟩:=hA
  have hl:w.cell? ⟨lb,0,none⟩=some (.pointer (some ⟨cb,0,none⟩)):=Ja C.led
  have hbw:base<=w.heap.size:=by have:=C.low lb C.ownL;omega
  have hsh:=C.short
  have hfw:=C.few
  have hm:=C.most
  refine (JhR hl n _ (Jcs E hF.env C.row base hbw _ C.log (by omega) n hf (by rw [C.len];exact hn) (by rw [C.len];omega))).mono λe w' k=>?_
  obtain ⟨k0,lv',bs',k1,k2,k3,k4,k5⟩:=k
  obtain ⟨F',hF',C'⟩:=C.prune hp hf hn (by rw [Yg,Je];simp) k1 k2 k3 k4 k5 hbw
  refine ⟨k0,k4.mono (λj hj=>.inl ?_),F',hF',hB,evs'++[.flo n],cb,r,_,lv',h1.trans (List.prefix_append _ _),by rw [Zz,h2];rfl,.flo n h3 hf hn (by omega),by rw [ZC];exact C'⟩
  rcases hj with rfl | rfl | e
  ·exact C.ownC
  ·exact C.ownR
  ·exact C.ownG j e.symm
 pout:=λ{w lb F fl ch} h hA hF hh=>by
  obtain ⟨hB,evs',cb,r,bs,lv,h1,h2,h3,C⟩:=hA
  have hl:w.cell? ⟨lb,0,none⟩=some (.pointer (some ⟨cb,0,none⟩)):=Ja C.led
  exact Jgh (λw' k=>hF.next k) .range hl h (Je8 E hF.env C.row h (by rw [C.len];exact hh))
def JlR (E:Nat->Addr) (base wd:Nat):Led E wd base where
 At:=λw lb F fl ch=>∃outs st,HAt wd base outs st [] 0 w lb F fl ch
 keep:=λ⟨o,s,h⟩ k hs=>⟨o,s,(Xg E base wd o s [] 0).keep h k hs⟩
 own:=λ⟨o,s,h⟩ j hj=>(Xg E base wd o s [] 0).own h j hj
 kinds:=λ⟨o,s,h⟩ j hj cur T m hr=>(Xg E base wd o s [] 0).kinds h j hj cur T m hr
 tip:=λ⟨_,_,h⟩ _=>Jck wd base h.l
 header:=λh ⟨_,_,hA⟩ hF _ _=>JcC E wd base h hA.l hF
 seals:=λv ts ⟨_,_,hA⟩ hF hv hts h3 hc=>JdR E wd base v ts hA.l hF hv hts h3 hc
 submits:=λ{_ _ _ _ ch} s ⟨o,st,hA⟩ hF hs hc=>(Ja7 E wd base s hA hF hs hc).mono λe w' k=>by
  obtain ⟨k0,F',k1,k2⟩:=k
  refine ⟨k0,F',k1,?_⟩
  cases hr:Xo (dgW wd) wd ch s.data.toList with
  | ok ch'=>rw [hr] at k2;exact ⟨k2.1,o,st,k2.2⟩
  | error er=>rw [hr] at k2;exact ⟨k2.1,o,st,k2.2⟩
def Jd8 (E:Nat->Addr) (base:Nat):Ji5 E base where
 led:=JlR E base
 make:=λwd {w} v outs hw1 hw hF hbw hv h1 h3 ho=>by
  obtain ⟨st,hst⟩:=JbF (dgW wd (71 :: JW outs)) outs ho h3
  have H:=JdD E wd hw1 hw v outs ho h1 h3 w hF.env hv base hbw st hst
  obtain ⟨ia,ic,hvs⟩:=hv.shape
  subst hvs
  refine (fNew (wd:Int) ia outs.length ic (λw' cb=>Jdx wd base outs st w (.returned (.tuple #[.pointer (some ⟨cb,0,none⟩),.nilIface])) w') (H.mono λe w' k=>?_)).mono ?_
  ·obtain ⟨_,cb,_,_,_,rfl,_⟩:=id k
   exact ⟨cb,rfl,k⟩
  ·rintro e w' ⟨w1,cb,⟨k0,cb2,r,q,lv,e2,k1,k2,k3,k4,k5,k6,k7⟩,rfl,rfl⟩
   simp only [Ending.returned.injEq,Value.tuple.injEq,Array.mk.injEq,QH,Value.pointer.injEq,Qh,Addr.mk.injEq,and_true] at e2
   subst e2
   have C:=(Yn.first hw h3 hbw k1 k2 k3 k4 k5 k6 k7).about (Qm hbw k0.size)
   exact ⟨k0.go (Ta _ _ _),w1.heap.size,_,_,st,rfl,⟨outs,st,⟨hw1,hw,ho,h1,h3,hst⟩,[],cb,r,_,lv,List.prefix_refl _,rfl,.nil,by rw [show logB (Jf wd outs) []=recB [71] (Jf wd outs) from QC _];exact C⟩,hst⟩

attribute [local go_sem] Oper.semAt_some


attribute [local go_sem] Oper.semAt_some




attribute [local go_sem] Oper.semAt_some

theorem JkZ (E:Nat->Addr) (part:List UInt8) (hpart:∀q,(raR (q,part,true)).2.2.2.2=false) (hlen:part.length<=10000000000000) (w:World) (hE:Env E w):
  Calls prog 61 #[.string ⟨part.toArray⟩] w λe w'=>Tch NoB w w'/\∃t u,e=.returned (.tuple #[.pointer none,.int .i64 0,.iface t u])/\Jl E 7 w' (.iface t u):=by
 have HLN:Hid (part.length<=10000000000000):=hlen
 have HPA:Hid (∀q,(raR (q,part,true)).2.2.2.2=false):=hpart
 have HE:Hid (Env E w):=hE
 clear hpart hlen hE
 obtain ⟨T,hT⟩:∃T:BA,T=⟨part.toArray⟩:=⟨_,rfl⟩
 rw [<-hT]
 have HT:Hid (T=⟨part.toArray⟩):=hT
 clear hT
 refine (callsIn_wide (n:=6)).1 ?_
 refine callsIn_of_wp_marks func61 rfl trivial ?_ rfl
 simp only [ntmps61,List.size_toArray,Qp,Qv,Nat.reduceAdd,Nat.reduceSub,Array.replicate_succ,Array.replicate_zero,List.push_toArray,List.append_toArray,List.nil_append,List.cons_append]
 gi_wp2
 refine ⟨trivial,(callsIn_wide.2 (Jb3 _ _)).mono ?_⟩
 rintro _ _ ⟨rfl,rfl⟩
 gi_wp2
 obtain ⟨WD,hWD⟩:∃WD,WD=((w.alloc (.cells #[.pointer none] 88)).alloc (.cells #[.int .i64 0] 3)).alloc (.cells #[.string T] 9):=⟨_,rfl⟩
 rw [<-hWD]
 have hz:WD.heap.size=w.heap.size+3:=by rw [hWD];simp
 have hal:∀(V:World) (o:Obj) (j:Nat) (x:Obj),V.heap[j]? =some x->(V.alloc o).heap[j]? =some x:=λV o j x h=>(Below.heap_alloc V o j (Jb h)).trans h
 have hnw:∀(V:World) (o:Obj) (j:Nat),V.heap.size=j->(V.alloc o).heap[j]? =some o:=λV o j h=>by subst h;exact Qf V o
 have r0:WD.heap[w.heap.size]? =some (.cells #[.pointer none] 88):=by rw [hWD];exact hal _ _ _ _ (hal _ _ _ _ (hnw _ _ _ rfl))
 have r1:WD.heap[w.heap.size+1]? =some (.cells #[.int .i64 0] 3):=by rw [hWD];exact hal _ _ _ _ (hnw _ _ _ (by simp))
 have r2:WD.heap[w.heap.size+2]? =some (.cells #[.string T] 9):=by rw [hWD];exact hnw _ _ _ (by simp)
 have hT0:Tch NoB w WD:=by rw [hWD];exact (Tch.allocs _ _ _ _).go (Ta _ _ _)
 clear hal hnw hWD
 have hK:18<=w.heap.size:=HE.o.size
 refine Jd1 (α:=List UInt8×List UInt8×Nat) (by omega) (gf:=159) (lb:= #[.pointer (some ⟨w.heap.size+1+1,0,none⟩)]) rfl (enters_of func159 (by kernel_rfl) rfl) (encs:=JaP) (λ_=>rfl)
  NoB (λk hk=>hk.elim) (λpre V=>pre=[]/\Tch NoB w V/\V.heap[w.heap.size]? =some (.cells #[.pointer none] 88)) ?hI ⟨rfl,hT0,r0⟩
  (λx b=>{ tmps:= #[.string T,undef,.pointer none,.int .i64 0,.nilIface,.pointer (some ⟨w.heap.size,0,none⟩),.pointer (some ⟨w.heap.size+1,0,none⟩),.pointer (some ⟨b,0,none⟩),.int .i64 (x.2.2:Int),undef,undef,.string T,.func (.func 159) #[] #[.pointer (some ⟨w.heap.size+1+1,0,none⟩)],.agg #[.string ⟨x.1.toArray⟩,.string ⟨x.2.1.toArray⟩],.int .i64 (x.2.2:Int),undef,undef,undef,undef,undef,undef,undef,undef,undef,undef,undef,undef,undef,undef,undef,undef,undef,undef,undef,undef,undef,undef,undef,undef,undef,undef,undef],defers:=[] })
  (λx=>.cells #[.string ⟨x.1.toArray⟩,.string ⟨x.2.1.toArray⟩] 195) [] ?hseq ?hassign ?hbody ?hdone
 case hI=>
  intro pre A B h k
  exact ⟨h.1,h.2.1.trans k (λj hj=>.inr (by omega)),(k.block _ (Jb h.2.2) (by omega)).trans h.2.2⟩
 case hseq=>
  intro J W hTW hWz hJ hY hJ0
  have tW:=hT0.go hTW
  refine Jb2 E (6 - 1) (by omega) (WD.heap.size+1) (w.heap.size+1+1) [] part (λx hx=>by cases hx) HPA.o HLN.o W (HE.o.tch tW noE) ?_ (λk=>False\/k=WD.heap.size+1\/WD.heap.size+2<k) (λk hk=>by rcases hk with h | h | h;exact h.elim;omega;omega) J (λpre A B h k=>hJ pre A B h (by rw [<-hWz];exact k)) (λpre x V hx hV hJV=>hY pre x V hx (by omega) hJV) hJ0
  have:W.cell? ⟨w.heap.size+1+1,0,none⟩=some (.string T):=Ja ((hTW.block _ (Jb r2) (λe=>e)).trans r2)
  rw [HT.o] at this
  exact this
 case hassign=>
  intro l x W K hK
  obtain ⟨x1,x2,x3⟩:=x
  simp only [JaP] at hK ⊢
  gi_wp2
  exact hK
 case hbody=>
  intro l pre x b W hpx hb2 hI hbx
  have:=hpx.length_le
  simp at this
 case hdone=>
  intro D W hD hI hd
  have c0:W.cell? ⟨w.heap.size,0,none⟩=some (.pointer none):=Ja hI.2.2
  have hEW:=HE.o.tch hI.2.1 noE
  have c7:=hEW.form
  have HTC:Hid (Tch NoB w W):=hI.2.1
  have HD:Hid (W.heap[D]? =some (.deferred (some []))/\D=w.heap.size+3):=⟨hd,by omega⟩
  clear hI hd hD hEW r0 r1 r2 hT0 HLN HPA
  gi_wp2
  refine ⟨trivial,(callsIn_wide.2 (Xy _ _ _ _)).mono ?_⟩
  rintro _ w4 ⟨rfl,hw4⟩
  have HT4:Hid (Tch NoB W w4):=by rw [hw4];exact Ta _ _ _
  have HR4:Hid (∃s,w4.heap[W.heap.size]? =some (.cells #[.string s,eV E 7] 237)):=⟨_,by rw [hw4];exact Qf _ _⟩
  clear hw4
  gi_wp2
  have h4D:=(HT4.o.block D (Jb HD.o.1) (λe=>e)).trans HD.o.1
  refine ⟨by simp,.inl ⟨_,_,rfl,run_takeDeferred (b:=D) h4D,?_⟩⟩
  refine ⟨_,results_tmp3 results61 _ _ _,?_⟩
  have tP:=Tch.putObj (λk=>k=D) w4 D (.deferred none) rfl
  have tT:Tch (λk=>k=D) W (w4.putObj D (.deferred none)):=(HT4.o.mono noE).trans tP (λ_ h=>.inl h)
  obtain ⟨sx,hsx⟩:=HR4.o
  refine ⟨HTC.o.trans tT (λj hj=>.inr (by have:=HD.o.2;omega)),235,.pointer (some ⟨W.heap.size,0,none⟩),rfl,.wrap W.heap.size sx _ ((tP.block _ (Jb hsx) (by have:=(Jb HD.o.1);omega)).trans hsx) .base⟩
theorem JmP (E:Nat->Addr) {base:Nat} (part:List UInt8) (hpart:∀q,(raR (q,part,true)).2.2.2.2=false) (hlen:part.length<=10000000000000) (w:World) (hF:JT E base w):
  Calls prog 32 #[.string ⟨part.toArray⟩] w λe w'=>e=.returned (.tuple #[.pointer none,.int .i64 0,.int .i64 1])/\Tch NoB w w':=by
 have H:Hid (Calls _ _ _ _ _):=JkZ E part hpart hlen w hF.env
 have HF:Hid (JT E base w):=hF
 clear hpart hlen hF
 generalize (⟨part.toArray⟩:BA)=s at *
 go_enter func32,ntmps32
 go_wp2_with fail
 refine H.out.mono ?_
 rintro _ w1 ⟨ht1,t,u,rfl,he⟩
 have hF1:=HF.o.tch ht1 noE
 have HEN:Hid (Calls prog 42 #[.iface t u] w1 λe w'=>e=.returned (.int .i64 1)/\w'=w1):=Jbz 7 (by decide) hF1.env hF1.sent _ he
 have HT1:Hid (Tch NoB w w1):=ht1
 clear ht1 he hF1 H
 go_wp2_with fail
 refine HEN.o.mono ?_
 rintro _ w2 ⟨rfl,hw2⟩
 have HT2:Hid (Tch NoB w w2):=by rw [hw2];exact HT1.o
 clear hw2 HEN
 go_wp2
 exact QJ (v:=.tuple #[.pointer none,.int .i64 0,.int .i64 1]) (results_tmp3 results32 _ _ _) rfl ⟨rfl,HT2.o⟩
