import Derived.Test.YtighkdnooglfjaaGreatDoorTcFaP
namespace Go.Proofs.YtighkdnooglfjaaGreatDoor
open Go Go.RowKit

theorem Tch.putObj (S:Nat->Prop) (W:World) (l:Nat) (o:Obj) (hl:S l):Tch S W (W.putObj l o):=
 ⟨rfl,rfl,rfl,by simp [World.putObj],λk _ hn=>World.putObj_heap_other (λe=>hn (by rw [e];exact hl))⟩
theorem Jiw {P:Program} {α:Type} {n:Nat} {g:Operand} {ps:Array Tmp} {assign body:Code} {Q:Exit->Act->World->Prop} {a:Act} {w:World} (h1:1<=n)
  {gf:Nat} {lb:Array Value} (hg:a.eval g=.func (.func gf) #[] lb) (eg:∀args w,(callFunc gf args).run P w=.ok (.enter gf args) w) {encs:α->Array Value} (hps:∀x,(encs x).size=ps.size)
  (r:Nat) (hr:r<w.heap.size) (I:List α->World->Prop) (hI:∀pre A B,I pre A->Tch (λk=>w.heap.size<=k) A B->I pre B) (h0:I [] w) (a₁:α->Nat->Act) (ob:α->Obj) (K:α->Prop) (xs:List α)
  (hseq:∀(l:Nat) (J:List α->World->Prop) (W:World),Tch NoB w W->w.heap.size<=l->l<W.heap.size->(∀pre A B,J pre A->Tch (λk=>k=W.heap.size) A B->J pre B)->
   (∀pre x V,K x->J pre V->YieldAt Fence.wide (n - 1 - 1) P l (encs x) V λe V'=>e=.returned (.bool true)/\J (pre++[x]) V'/\Tch (λk=>k=r\/k=l) V V')->J [] W->
   CallsIn Fence.wide (n - 1) P gf (#[.func (.yield l) #[] #[]]++lb) W λe W'=>(∃v,e=.returned v)/\J xs W')
  (hassign:∀(l:Nat) (x:α) (W:World) (K:Act->World->Prop),K (a₁ x W.heap.size) (W.alloc (ob x))->
   assign.wpIn (Fence.wide.inRound l) (n - 1 - 1) P (Exit.then K (λ_ _ _=>False)) { tmps:=(ps.zip (encs x)).foldl (λt (p,v)=>t.setIfInBounds p v) a.tmps,defers:=[] } W)
  (hbody:∀(l:Nat) (pre:List α) (x:α) (b:Nat) (W:World),K x->I pre W->W.heap[b]? =some (ob x)->body.wpIn (Fence.wide.inRound l) (n - 1 - 1) P (λe _ W'=>e=.normal/\Tch (λk=>k=r) W W'/\I (pre++[x]) W') (a₁ x b) W)
  (hdone:∀(D:Nat) (W:World),w.heap.size<=D->I xs W->W.heap[D]? =some (.deferred (some []))->Q .normal { a with defers:={ target:=.collected D,args:= #[] } :: a.defers } W):
  (Code.rangeFunc g ps assign body).wpIn Fence.wide n P Q a w:=by
 refine wpIn_rangeFunc ?_
 intro fn hfn
 rw [show Fence.wide.round=none from rfl]
 obtain ⟨rec,hrec⟩:∃rec:LoopState->Option Code->Loop,rec=λst pe=>{ state:=st,pending:=pe,fn,tmps:=a.tmps,params:=ps,assign,body,defers:=w.heap.size }:=⟨_,rfl⟩
 obtain ⟨W1,hW1⟩:∃W1,(w.alloc (.deferred (some []))).alloc (.loop (rec .ready none))=W1:=⟨_,rfl⟩
 have t1:Tch NoB w W1:=by rw [<-hW1];exact Tch.allocs _ _ _ _
 have hz1:W1.heap.size=w.heap.size+2:=by rw [<-hW1];simp
 have hL1:W1.heap[w.heap.size+1]? =some (.loop (rec .ready none)):=by rw [<-hW1];exact heap_alloc2_new _ _ _
 have hD1:W1.heap[w.heap.size]? =some (.deferred (some [])):=by rw [<-hW1];exact heap_alloc2_old _ _ _
 refine ⟨w.heap.size+1,[{ target:=.collected w.heap.size,args:= #[] }],W1,{ target:=.fn (.func gf) lb,args:= #[.func (.yield (w.heap.size+1)) #[] #[]] },W1,gf,#[.func (.yield (w.heap.size+1)) #[] #[]]++lb,W1,?_,?_,?_,?_,λ_=>h1,?_⟩
 ·rw [<-hW1,hrec];exact run_enterLoop_outer _ _ _ _ _
 ·simp only [resolve,hg]
  simp [go_sem]
 ·intro f' hf';trivial
 ·simp [invoke,go_sem,eg]
 ·refine (hseq (w.heap.size+1) (λpre W=>I pre W/\W.heap[w.heap.size+1]? =some (.loop (rec .ready none))/\W.heap[w.heap.size]? =some (.deferred (some []))) W1 t1 (by omega) (by omega)
   (λpre A B h k=>⟨hI _ _ _ h.1 (k.mono (λj hj=>.inl (by omega))),(k.block _ (Jb h.2.1) (by omega)).trans h.2.1,(k.block _ (Jb h.2.2) (by omega)).trans h.2.2⟩)
   ?_ ⟨hI _ _ _ h0 (t1.mono noE),hL1,hD1⟩).mono ?_
  ·rintro pre x V hKx ⟨hi,hl,hd⟩
   have hlt:=(Jb hl)
   have hy:=run_yield (P:=P) (args:=encs x) hl (by rw [hrec];exact hps x)
   rw [hrec] at hy
   have tA:=Ta NoB V (ob x)
   have hlA:=(tA.block _ hlt (λe=>e)).trans hl
   have hdA:=(tA.block _ (Jb hd) (λe=>e)).trans hd
   have hbA:=Qf V (ob x)
   refine ⟨fn,_,assign,body,hy,roundIn_of_wpIn hfn (hassign _ x V _ ⟨_,run_beginRound hlA (by rw [hrec]),?_⟩)⟩
   obtain ⟨VA,hVA⟩:∃VA,VA=V.alloc (ob x):=⟨_,rfl⟩
   obtain ⟨VB,hVB⟩:∃VB,VB=VA.putObj (w.heap.size+1) (.loop { rec .ready none with state:=.busy }):=⟨_,rfl⟩
   rw [<-hVA] at tA hlA hdA hbA ⊢
   rw [<-hVB]
   have tB:Tch (λk=>k=w.heap.size+1) VA VB:=by rw [hVB];exact Tch.putObj _ _ _ _ rfl
   have hlB:VB.heap[w.heap.size+1]? =some (.loop { rec .ready none with state:=.busy }):=by rw [hVB];exact World.putObj_heap_same (Jb hlA)
   have hdB:=(tB.block _ (Jb hdA) (by omega)).trans hdA
   have hbB:=(tB.block _ (Jb hbA) (by omega)).trans hbA
   have hiB:I pre VB:=hI _ _ _ (hI _ _ _ hi (tA.mono noE)) (tB.mono (λj hj=>.inl (by omega)))
   refine wpIn_mono (hbody _ pre x _ VB hKx hiB hbB) ?_
   rintro e a3 VC ⟨rfl,tC,hiC⟩
   have hlC:=(tC.block _ (Jb hlB) (by omega)).trans hlB
   have hdC:=(tC.block _ (Jb hdB) (by omega)).trans hdB
   have hE:=run_endRound (P:=P) none hlC
   rw [hrec] at hE
   refine ⟨_,_,hE,rfl,⟨?_,?_,?_⟩,?_⟩
   ·exact hI _ _ _ hiC (Tch.putObj _ _ _ _ (by omega))
   ·rw [hrec];exact World.putObj_heap_same (Jb hlC)
   ·exact (World.putObj_heap_other (by omega)).trans hdC
   ·refine (((tA.mono noE).trans tB (λj hj=>.inl (.inr hj))).trans tC (λj hj=>.inl (.inl hj))).trans (Tch.putObj (λk=>k=w.heap.size+1) _ _ _ rfl) (λj hj=>.inl (.inr hj))
  ·rintro e W2 ⟨⟨v,rfl⟩,hi,hl,hd⟩
   have hE:=run_endLoop (P:=P) hl (by rw [hrec];simp)
   rw [hrec] at hE
   exact ⟨none,_,hE,hdone _ _ (Ql _) (hI _ _ _ hi (Tch.putObj _ _ _ _ (by omega))) ((World.putObj_heap_other (by omega)).trans hd)⟩
open Tryz
set_option maxRecDepth 100000
set_option maxHeartbeats 1000000
open Go.RowKit

attribute [local go_sem] Oper.semAt_some

theorem Jjk (d:List UInt8->BA) {n₀ l m:Nat} {F:Nat->Prop} (hF:∀j,F j->j<n₀) (W:World) (hn:n₀<=W.heap.size) (J:List JD->World->Prop) (hJ:∀pre A B,J pre A->Tch (λk=>k=W.heap.size) A B->J pre B)
  (K:JD->Prop) (hY:∀pre x V,K x->J pre V->YieldAt Fence.wide m prog l #[.agg (Xd x)] V λe V'=>e=.returned (.bool true)/\J (pre++[x]) V'/\Jag n₀ W.heap.size V V')
  (Bt g c wd:Nat) (q:Option Nat) (st:Option Tr) (hb:W.cell? ⟨Bt,0,none⟩=some (.slice (some ⟨g,0,none⟩) 1 c)) (hg0:W.cell? ⟨g,0,none⟩=some (.int .i64 (wd:Int))) (hg1:W.cell? ⟨g,1,none⟩=some (Jh q)) (hs:StAt d F W q st) (hw:∀t,st=some t->t.Wf) (h0:J [] W) (hK:∀x∈JF d st,K x):
  Calls prog 246 #[.func (.yield l) #[] #[],.pointer (some ⟨Bt,0,none⟩)] W λe W'=>(∃v,e=.returned v)/\J (JF d st) W':=by
 obtain ⟨W1,hW1⟩:∃(W1:World),W1=W.alloc (.map #[] 0):=⟨_,rfl⟩
 have t1:Tch NoB W W1:=by rw [hW1];exact Ta _ _ _
 have hm1:W1.heap[W.heap.size]? =some (.map #[] 0):=by rw [hW1];exact Qf _ _
 have lt0:=Qr _ _ hb
 have ltg:=Qr _ _ hg0
 have c0:=(t1.cell (p:=⟨Bt,0,none⟩) lt0 (λe=>e)).trans hb
 have c1:=(t1.cell (p:=⟨g,0,none⟩) ltg (λe=>e)).trans hg0
 have c2:=(t1.cell (p:=⟨g,1,none⟩) ltg (λe=>e)).trans hg1
 obtain ⟨rv,hrv⟩:∃rv,Jh q=.pointer rv:=⟨_,rfl⟩
 have HP:Hid (∀V,Tch NoB W1 V->Calls prog 247 #[.agg #[.int .i64 (wd:Int),.pointer rv],.map (some W.heap.size),.func (.yield l) #[] #[]] V λe W'=>e=.returned (.bool true)/\J (JF d st) W'):=λV hV=>by
  have:=JkH d hn hF J hJ K hY wd q st V ((hs.next t1).next hV) hw ((hV.block _ (Jb hm1) (λe=>e)).trans hm1) [] (hJ _ _ _ h0 ((t1.go hV).mono noE)) hK
  unfold Jt at this
  rw [hrv] at this
  exact this
 rw [hrv] at c2
 have HW:Hid _:=hW1
 have HZ:Hid (W.heap.size<W1.heap.size):=(Jb hm1)
 have hmk:(Instr.makeMap 405 none).run prog W=.ok (.map (some W.heap.size)) W1:=by
  rw [hW1]
  simp [Instr.makeMap,Result.andThen]
 clear hW1 t1 hm1 hb hg0 hg1 hs hw h0 hJ hY hF hn lt0 hrv
 go_enter func246,ntmps246
 go_upto_region 2 with fail
 go_loopw [9] (λi wr=>(i=.int .i64 0/\wr=W1)\/(i=.int .i64 1/\Hid (J (JF d st) wr))) (λi _=>1 - (intOf i).toNat)
 case atStart=>exact .inl ⟨rfl,rfl⟩
 case round=>
  rcases hrel with ⟨rfl,rfl⟩ | ⟨rfl,HJ1⟩
  ·go_wp2_with fail
   refine (HP.o _ (by first | exact Ta _ _ _ | exact Te _ _)).mono ?_
   rintro _ W2 ⟨rfl,hj2⟩
   have HJ2:Hid _:=hj2
   clear hj2
   go_wp2
   go_roundw
   case rel=>exact .inr ⟨rfl,HJ2⟩
   case measure=>simp [intOf]
  ·go_wp2
   refine bodyPost_end (v:=.tuple #[]) (results_none results246 _ _ _) rfl ?_
   exact ⟨⟨_,rfl⟩,HJ1.o⟩

attribute [local go_sem] Oper.semAt_some

theorem JkU (a:Option Addr) (n c:Nat) (w:World):Calls prog 158 #[.slice a n c] w λe w'=>e=.returned (.func (.func 246) #[] #[.pointer (some ⟨w.heap.size,0,none⟩)])/\w'=w.alloc (.cells #[.slice a n c] 189):=by
 have hmf:∀(fn:Fn) (first cap:Array Value) (w:World),(Instr.makeFunc fn first cap).run prog w=.ok (.func fn first cap) w:=λ_ _ _ _=>rfl
 go_enter func158,ntmps158
 go_wp2
 go_ret
 exact ⟨rfl,rfl⟩
structure CntI (w:World) (pre:List JD) (V:World):Prop where
 map:V.heap[w.heap.size]? =some (.map (ndE 0 (pre.foldl insN [])).toArray (pre.foldl insN []).length)
 box:V.heap[w.heap.size+1]? =some (.cells #[.map (some w.heap.size)] 284)
 below:Below w.heap.size w V
 ks:∀x∈pre.foldl insN [],Jah x
theorem JhK (d:List UInt8->BA) {F:Nat->Prop} (w:World) (hF:∀j,F j->j<w.heap.size) (g c wd:Nat) (q:Option Nat) (st:Option Tr) (hg0:w.cell? ⟨g,0,none⟩=some (.int .i64 (wd:Int))) (hg1:w.cell? ⟨g,1,none⟩=some (Jh q)) (hs:StAt d F w q st) (hw:∀t,st=some t->t.Wf) (hK:∀x∈JF d st,Jah x):
  Calls prog 98 #[.slice (some ⟨g,0,none⟩) 1 c] w λe w'=>e=.returned (.int .i64 (((JF d st).foldl insN []).length:Int))/\Tch NoB w w':=by
 have hmk:(Instr.makeMap 284 none).run prog w=.ok (.map (some w.heap.size)) (w.alloc (.map #[] 0)):=by simp [Instr.makeMap,Result.andThen]
 have HK:Hid _:=hK
 have HS:Hid (StAt d F w q st/\(∀t,st=some t->t.Wf)/\(∀j,F j->j<w.heap.size)):=⟨hs,hw,hF⟩
 have HG:Hid (w.cell? ⟨g,0,none⟩=some (.int .i64 (wd:Int))/\w.cell? ⟨g,1,none⟩=some (Jh q)):=⟨hg0,hg1⟩
 clear hK hs hw hF hg0 hg1
 refine (callsIn_wide (n:=5)).1 ?_
 refine callsIn_of_wp_marks func98 rfl trivial ?_ rfl
 simp only [ntmps98,List.size_toArray,Qp,Qv,Nat.reduceAdd,Nat.reduceSub,Array.replicate_succ,Array.replicate_zero,List.push_toArray,List.append_toArray,List.nil_append,List.cons_append]
 gi_wp2
 refine ⟨trivial,(callsIn_wide.2 (JkU _ _ _ _)).mono ?_⟩
 rintro _ _ ⟨rfl,rfl⟩
 gi_wp2
 obtain ⟨WD,hWD⟩:∃WD,WD=((w.alloc (.map #[] 0)).alloc (.cells #[.map (some w.heap.size)] 284)).alloc (.cells #[.slice (some ⟨g,0,none⟩) 1 c] 189):=⟨_,rfl⟩
 rw [<-hWD]
 have hB0:Below w.heap.size w WD:=by rw [hWD];exact (((Below.refl _ w).alloc (Ql _) _).alloc (by simp) _).alloc (by simp;omega) _
 have hz:WD.heap.size=w.heap.size+3:=by rw [hWD];simp
 have hal:∀(V:World) (o:Obj) (j:Nat) (x:Obj),V.heap[j]? =some x->(V.alloc o).heap[j]? =some x:=λV o j x h=>(Below.heap_alloc V o j (Jb h)).trans h
 have hnw:∀(V:World) (o:Obj) (j:Nat),V.heap.size=j->(V.alloc o).heap[j]? =some o:=λV o j h=>by subst h;exact Qf V o
 have r0:WD.heap[w.heap.size]? =some (.map #[] 0):=by rw [hWD];exact hal _ _ _ _ (hal _ _ _ _ (hnw _ _ _ rfl))
 have r1:WD.heap[w.heap.size+1]? =some (.cells #[.map (some w.heap.size)] 284):=by rw [hWD];exact hal _ _ _ _ (hnw _ _ _ (by simp))
 have r2:WD.heap[w.heap.size+2]? =some (.cells #[.slice (some ⟨g,0,none⟩) 1 c] 189):=by rw [hWD];exact hnw _ _ _ (by simp)
 have hT0:Tch NoB w WD:=(Tch.of_below hB0).mono (λ_ hj=>.inr hj)
 clear hal hnw hWD
 refine Jiw (α:=JD) (by omega) (gf:=246) (lb:= #[.pointer (some ⟨w.heap.size+1+1,0,none⟩)]) rfl (enters_of func246 (by kernel_rfl) rfl) (encs:=λx=> #[.agg (Xd x)]) (λ_=>rfl)
  w.heap.size (by omega) (CntI w) ?hI ⟨r0,r1,hB0,by simp⟩
  (λx b=>{ tmps:= #[.slice (some ⟨g,0,none⟩) 1 c,undef,.int .i64 0,.pointer (some ⟨w.heap.size+1,0,none⟩),.pointer (some ⟨b,0,none⟩),.map (some w.heap.size),.slice (some ⟨g,0,none⟩) 1 c,.func (.func 246) #[] #[.pointer (some ⟨w.heap.size+1+1,0,none⟩)],.agg (Xd x),undef,undef,undef,undef,undef],defers:=[] })
  (λx=>.cells (Xd x) 281) Jah (JF d st) ?hseq ?hassign ?hbody ?hdone
 case hI=>
  intro pre A B h k
  refine ⟨(k.block _ (Jb h.map) (by omega)).trans h.map,(k.block _ (Jb h.box) (by omega)).trans h.box,h.below.trans (XE k (λj hj=>by omega) h.below.size),h.ks⟩
 case hseq=>
  intro l J W hT hl1 hl2 hJ hY hJ0
  have tW:=hT0.go hT
  refine callsIn_wide.2 (Jjk d (n₀:=w.heap.size) (m:=5 - 1 - 1) HS.o.2.2 W tW.size J hJ Jah ?_ (w.heap.size+1+1) g c wd q st ?_ ?_ ?_ (HS.o.1.next tW) HS.o.2.1 hJ0 HK.o)
  ·intro pre x V hx hJV
   refine (hY pre x V hx hJV).mono λe V' k=>⟨k.1,k.2.1,_,k.2.2,λj hj=>by omega⟩
  ·exact Ja ((hT.block _ (Jb r2) (λe=>e)).trans r2)
  ·exact (tW.cell (p:=⟨g,0,none⟩) (Qr _ _ HG.o.1) (λe=>e)).trans HG.o.1
  ·exact (tW.cell (p:=⟨g,1,none⟩) (Qr _ _ HG.o.2) (λe=>e)).trans HG.o.2
 case hassign=>
  intro l x W K hK
  obtain ⟨n1,n2,⟨n3,n4⟩,n5,n6,n7⟩:=x
  simp only [Xd] at hK ⊢
  gi_wp2
  exact hK
 case hbody=>
  intro l pre x b W hx hI hb
  have hpu:=JmC hI.map x hx hI.ks
  have c0:W.cell? ⟨w.heap.size+1,0,none⟩=some (.map (some w.heap.size)):=Ja hI.box
  have HI:Hid _:=hI
  have HX:Hid (Jah x):=hx
  have HX2:Hid (CntI w (pre++[x]) (W.setNd w.heap.size (insN (pre.foldl insN []) x))):=by
   have tS:=Tch.setNd W w.heap.size (insN (pre.foldl insN []) x)
   have e:(pre++[x]).foldl insN []=insN (pre.foldl insN []) x:=by simp
   refine ⟨by rw [e];exact JgE hI.map _,(tS.block _ (Jb hI.box) (by omega)).trans hI.box,hI.below.trans (XE tS (λj hj=>by omega) hI.below.size),?_⟩
   rw [e]
   intro y hy
   unfold insN at hy
   split at hy
   ·exact hI.ks y hy
   ·rw [QE,Qt] at hy
    rcases hy with hy | rfl
    ·exact hI.ks y hy
    ·exact hx
  generalize hns:pre.foldl insN []=ns at *
  clear hns hI hx
  obtain ⟨n1,n2,⟨n3,n4⟩,n5,n6,n7⟩:=x
  have q0:W.cell? ⟨b,0,none⟩=some (.string n1):=Ja hb
  have q1:W.cell? ⟨b,1,none⟩=some (.string n2):=Ja hb
  have q2:W.cell? ⟨b,2,none⟩=some (.int .u64 (n3:Int)):=Ja hb
  have q3:W.cell? ⟨b,3,none⟩=some (.int .u8 (n4:Int)):=Ja hb
  have q4:W.cell? ⟨b,4,none⟩=some (.int .i64 n5):=Ja hb
  have q5:W.cell? ⟨b,5,none⟩=some (.string n6):=Ja hb
  have q6:W.cell? ⟨b,6,none⟩=some (.string n7):=Ja hb
  have hpu:(Instr.mapUpdate 284 (.map (some w.heap.size)) (.agg #[.string n1,.string n2,.int .u64 (n3:Int),.int .u8 (n4:Int),.int .i64 n5,.string n6,.string n7]) (.agg #[])).run prog W=.ok () (W.setNd w.heap.size (insN ns (n1,n2,(n3,n4),n5,n6,n7))):=hpu
  simp only [Xd]
  gi_wp2
  exact ⟨Tch.setNd _ _ _,HX2.o⟩
 case hdone=>
  intro D W hD hI hd
  have c0:W.cell? ⟨w.heap.size+1,0,none⟩=some (.map (some w.heap.size)):=Ja hI.box
  have hln:=Jmv hI.map
  have HI:Hid _:=hI
  have HD:Hid (W.heap[D]? =some (.deferred (some []))/\WD.heap.size<=D):=⟨hd,hD⟩
  obtain ⟨ns,hns⟩:∃ns,ns=(JF d st).foldl insN []:=⟨_,rfl⟩
  rw [<-hns] at hln
  have HNS:Hid _:=hns
  clear hI hd hD hns
  gi_wp2
  refine ⟨by simp,.inl ⟨_,_,rfl,run_takeDeferred HD.o.1,?_⟩⟩
  refine ⟨_,results_tmp results98 _ _ _,?_,?_⟩
  ·rw [<-HNS.o];rfl
  ·exact ((Tch.of_below HI.o.below).mono (λ_ hj=>.inr hj)).trans (Tch.putObj (λk=>k=D) W D (.deferred none) rfl) (λj hj=>.inr (by have:=HD.o.2;omega))

theorem Jh7:(prog.info? 146).map (λi=>(i.zero,i.size,i.bytes))=some (some (.agg #[.int .i64 0,.pointer none]),2,16):=by kernel_rfl
theorem Jce {base:Nat} {w:World} (k:Nat) (x:Int) (rv:Option Addr) (h0:w.cell? ⟨k,0,none⟩=some (.int .i64 x)) (h1:w.cell? ⟨k,1,none⟩=some (.pointer rv)) (ty:TypeId) (hbase:base<=w.heap.size):
  ∃g c w',(Builtin.append_ #[189,189] ty #[.slice none 0 0,.slice (some ⟨k,0,none⟩) 1 1]).run prog w=.ok (.slice (some ⟨g,0,none⟩) 1 c) w'/\w'.cell? ⟨g,0,none⟩=some (.int .i64 x)/\w'.cell? ⟨g,1,none⟩=some (.pointer rv)/\Tch NoB w w':=by
 obtain ⟨i,hi,hp⟩:=Option.map_eq_some_iff.1 Jh7
 simp only [Qw] at hp
 obtain ⟨hz,hsz,hby⟩:=hp
 obtain ⟨v',w',hr,h2,h3,h4⟩:=run_append_own (P:=prog) w base 189 ty 146 i _ 2 16 underlying189 hi hz hsz hby rfl (by omega) (.slice none 0 0) 0 [] ⟨rfl,.inl ⟨rfl,rfl⟩⟩ ⟨k,0,none⟩ 1 1 [.int .i64 x,.pointer rv] rfl (λj u hu=>by
  match j with
  | 0=>simp only [List.getElem?_cons_zero,Qh] at hu;rw [<-hu,Addr.add_lit];exact h0
  | 1=>simp only [List.getElem?_cons_succ,List.getElem?_cons_zero,Qh] at hu;rw [<-hu,Addr.add_lit];exact h1
  | j+2=>simp at hu) (λu hu=>by simp only [List.mem_cons,QD,or_false] at hu;rcases hu with rfl | rfl <;> rfl) (by simp only [maxLen];omega) (by omega) hbase
 obtain ⟨_,⟨rfl,h0'⟩ | ⟨g,cap,cur,rfl,hb,hrow,_,_,hsz',htake⟩⟩:=h2
 ·omega
 ·refine ⟨g,cap,w',hr,?_,?_,Tg h3 |>.mono (λj hj=>by cases hj)⟩
  ·rw [Ja hrow,<-Array.getElem?_toList]
   have e:([.int .i64 x,.pointer rv]:List Value)[0]? =some (.int .i64 x):=rfl
   rw [<-List.nil_append [Value.int .i64 x,.pointer rv],<-htake,List.getElem?_take_of_lt (by omega)] at e
   exact e
  ·rw [Ja hrow,<-Array.getElem?_toList]
   have e:([.int .i64 x,.pointer rv]:List Value)[1]? =some (.pointer rv):=rfl
   rw [<-List.nil_append [Value.int .i64 x,.pointer rv],<-htake,List.getElem?_take_of_lt (by omega)] at e
   exact e
theorem XJ {w w':World} {ops:Array Oper} {rest:List Oper} {o:Oper} {a:Act} {Q:Exit->Act->World->Prop} (hgd:o.guard=none) (s x:Operand) (T:TypeId)
  (ho:o.op=.call { callee:=.builtin .append,args:= #[s,x],argTypes:= #[T,T] }) {v xv v':Value} (hv:a.eval s=v) (hx:a.eval x=xv) (hrun:(Builtin.append_ #[T,T] o.type #[v,xv]).run prog w=.ok v' w')
  (hK:wpList prog ops Q rest (a.put o.dst v') w'):wpList prog ops Q (o :: rest) a w:=by
 refine wpList_plain hgd λK hK'=>?_
 unfold Oper.wp
 simp [execOp,ho,resolve,invoke,builtin,hv,hx,hrun,Result.andThen]
 exact hK' _ _ hK
theorem JgP (d:List UInt8->BA) {w:World} {cb wd fl r:Nat} {bs:List BV} {lv:Value} (h:Js w cb wd fl r bs lv) (hl:bs.length=fl+1) (hfl:fl<134217728) (b:BV) (hb:bs[fl]? =some b) {F:Nat->Prop} (hF:∀j,F j->j<w.heap.size) (st:Option Tr) (hs:StAt d F w b.2.2 st) (hw:∀t,st=some t->t.Wf) (hK:∀x∈JF d st,Jah x):
  Calls prog 57 #[.pointer (some ⟨cb,0,none⟩)] w λe w'=>e=.returned (.int .i64 (((JF d st).foldl insN []).length:Int))/\Tch NoB w w':=by
 obtain ⟨bh,bu,bq⟩:=b
 obtain ⟨rv,hrv⟩:∃rv,Jh bq=.pointer rv:=⟨_,rfl⟩
 have c1:w.cell? ⟨cb,1,none⟩=some (.int .i64 (fl:Int)):=Ja h.row
 have HC:Hid (∀V,Tch NoB w V->V.cell? ⟨cb,2,none⟩=some (.map (some r))/\(Instr.lookup 141 (.map (some r)) (.int .i64 (fl:Int)) false).run prog V=.ok (.agg #[.string bh,.int .i64 (bu:Int),.pointer rv]) V):=λV hV=>by
  have h1:=h.next hV
  have h2:=Jcm h1.map fl _ hb false
  simp only [bV,hrv] at h2
  exact ⟨Ja h1.row,h2⟩
 have HT:Hid (∀V,Tch NoB w V->Calls prog 40 #[.pointer (some ⟨cb,0,none⟩)] V λe w'=>e=.returned (.int .i64 (fl:Int))/\V=w'):=λV hV=>(JaJ (h.next hV) (by omega)).mono λe w' k=>⟨by rw [k.1,hl];congr 2;omega,k.2⟩
 have HCN:Hid (∀V g c,Tch NoB w V->V.cell? ⟨g,0,none⟩=some (.int .i64 (bu:Int))->V.cell? ⟨g,1,none⟩=some (.pointer rv)->Calls prog 98 #[.slice (some ⟨g,0,none⟩) 1 c] V λe w'=>e=.returned (.int .i64 (((JF d st).foldl insN []).length:Int))/\Tch NoB V w'):=λV g c hV e0 e1=>
  JhK d V (λj hj=>Qk (hF j hj) hV.size) g c bu bq st e0 (by rw [hrv];exact e1) (hs.next hV) hw hK
 have hfd:∀W,(Instr.field 148 (.agg #[.string bh,.int .i64 (bu:Int),.pointer rv]) 1).run prog W=.ok (.agg #[.int .i64 (bu:Int),.pointer rv]) W:=λW=>by kernel_rfl
 have HB:Hid _:=hfl
 generalize (JF d st).foldl insN []=ns at *
 clear h hl hb hF hs hw hK hrv
 go_enter func57,ntmps57
 go_upto_region 3 with fail
 go_loopw [3,4] (λv i wr=>(i=.int .i64 (fl:Int)/\v=.slice none 0 0/\wr=w)\/(i=.int .i64 ((fl:Int)+1)/\∃g c,v=.slice (some ⟨g,0,none⟩) 1 c/\Hid (wr.cell? ⟨g,0,none⟩=some (.int .i64 (bu:Int))/\wr.cell? ⟨g,1,none⟩=some (.pointer rv))/\Hid (Tch NoB w wr))) (λ_ i _=>fl+1 - (intOf i).toNat)
 case atStart=>exact .inl ⟨rfl,rfl,rfl⟩
 case round=>
  rcases hrel with ⟨rfl,rfl,rfl⟩ | ⟨rfl,g,c,rfl,HV,HTr⟩
  ·obtain ⟨c2,hlk⟩:=HC.o wr (Te _ _)
   have tA:=Ta NoB wr (.cells #[.int .i64 (bu:Int),.pointer rv] 146)
   have hrA:=Qf wr (.cells #[.int .i64 (bu:Int),.pointer rv] 146)
   obtain ⟨g,c,w3,hrun,e0,e1,ht3⟩:=Jce (base:=0) wr.heap.size (bu:Int) rv (Ja hrA) (Ja hrA) 189 (Nat.zero_le _)
   have HT3:Hid (Tch NoB wr w3):=tA.go ht3
   have HV3:Hid (w3.cell? ⟨g,0,none⟩=some (.int .i64 (bu:Int))/\w3.cell? ⟨g,1,none⟩=some (.pointer rv)):=⟨e0,e1⟩
   clear tA hrA ht3 e0 e1
   go_wp2_with fail
   refine (HT.o _ (Te _ _)).mono ?_
   rintro _ _ ⟨rfl,rfl⟩
   go_wp2_with (at_builtin;refine XJ rfl _ _ 189 rfl rfl rfl hrun ?_)
   go_roundw
   case rel=>exact .inr ⟨by have:=HB.o;congr 1,g,c,rfl,HV3,HT3⟩
   case measure=>simp [intOf]
  ·have hlt:¬(fl:Int)+1<=(fl:Int):=by omega
   go_wp2_with fail
   refine (HT.o _ HTr.o).mono ?_
   rintro _ _ ⟨rfl,rfl⟩
   go_wp2_with fail
   refine (HCN.o _ g c HTr.o HV.o.1 HV.o.2).mono ?_
   rintro _ w4 ⟨rfl,ht4⟩
   have HT4:Hid (Tch NoB w w4):=HTr.o.go ht4
   clear ht4
   go_wp2
   go_ret
   exact ⟨rfl,HT4.o⟩

theorem JcG {wd:Nat} (hw:wd<=32):∀(t:Tr),TrOk wd t->∀x∈JZ (dgW wd) t,Jah x
 | ⟨.inl (k,o)⟩,h,x,hx=>by
  rw [JZ,Qt] at hx
  subst hx
  obtain ⟨h1,_,h2,h3⟩:=h
  have hk:(⟨k.toArray⟩:BA).size<=1000:=by rw [JA];omega
  exact ⟨by show ByteArray.size ⟨#[76]⟩<=1000;decide,hk,h2,h3,⟨Int.le_refl _,by show (0:Int)<1000000;decide⟩,by show ByteArray.size ⟨#[]⟩<=1000;decide,by show ByteArray.size ⟨#[]⟩<=1000;decide⟩
 | ⟨.inr (b,l,r)⟩,h,x,hx=>by
  rw [JZ,List.mem_cons,QE] at hx
  obtain ⟨h1,h2,h3⟩:=h
  have hd:∀t:Tr,(Tr.dig (dgW wd) t).size<=1000:=λt=>by
   have:(Tr.dig (dgW wd) t).size=wd:=by cases t using Tr.ri <;> exact Jp wd hw _
   omega
  rcases hx with rfl | hx | hx
  ·exact ⟨by show ByteArray.size ⟨#[78]⟩<=1000;decide,by show ByteArray.size ⟨#[]⟩<=1000;decide,by show (0:Nat)<18446744073709551616;decide,by show (0:Nat)<256;decide,⟨by show (0:Int)<=(b:Int);omega,by show (b:Int)<_;omega⟩,hd l,hd r⟩
  ·exact JcG hw l h2 x hx
  ·exact JcG hw r h3 x hx
theorem JiN {wd:Nat} (hw:wd<=32) (st:Option Tr) (h:StOk wd st):∀x∈JF (dgW wd) st,Jah x:=by
 cases st with
 | none=>intro x hx;rw [JF,Qt] at hx;subst hx;exact ⟨by decide,by decide,by decide,by decide,⟨Int.le_refl _,by decide⟩,by decide,by decide⟩
 | some t=>exact JcG hw t h
theorem Jk2 {w:World} {lb cb:Nat} (hl:w.cell? ⟨lb,0,none⟩=some (.pointer (some ⟨cb,0,none⟩))) (n:Int) (h:Calls prog 57 #[.pointer (some ⟨cb,0,none⟩)] w λe w'=>e=.returned (.int .i64 n)/\Tch NoB w w'):
  Calls prog 29 #[.pointer (some ⟨lb,0,none⟩)] w λe w'=>e=.returned (.int .i64 n)/\Tch NoB w w':=by
 have H:Hid (Calls _ _ _ _ _):=h
 clear h
 go_enter func29,ntmps29
 go_wp2_with fail
 refine H.out.mono ?_
 rintro _ w1 ⟨rfl,ht⟩
 have HT:Hid (Tch _ w w1):=ht
 clear ht H
 go_wp2
 go_ret
 exact ⟨rfl,HT.o⟩
theorem JhL (E:Nat->Addr) {w:World} (hE:Env E w) {cb wd fl r:Nat} {bs:List BV} {v:Value} (h:Js w cb wd fl r bs v) (k m:Int) (hk:¬((fl:Int)<=k/\k<bs.length)):
  Calls prog 55 #[.pointer (some ⟨cb,0,none⟩),.int .i64 k,.int .i64 m] w λe w'=>Tch NoB w w'/\∃t u,e=.returned (.tuple #[.string ⟨#[]⟩,.iface t u])/\Jl E 5 w' (.iface t u):=by
 have HS:Hid (Calls prog 92 #[.pointer (some ⟨cb,0,none⟩),.int .i64 k] w λe w'=>∃t u,e=.returned (.tuple #[.agg #[.int .i64 0,.pointer none],.iface t u])/\Jl E 5 w' (.iface t u)/\Tch NoB w w'):=Jau E hE h k hk
 clear hE h hk
 go_enter func55,ntmps55
 go_wp2_with fail
 refine HS.o.mono ?_
 rintro _ w1 ⟨t,u,rfl,he,ht⟩
 have HT:Hid (Tch NoB w w1):=ht
 have HE:Hid (Jl _ _ w1 _):=he
 clear he ht HS
 go_wp2
 go_ret2
 exact ⟨HT.o.go (Ta _ _ _),_,_,rfl,HE.o.tch (Ta NoB w1 _) (λ_ _ _ _ h=>h)⟩
theorem Jf7 {E:Nat->Addr} {w:World} {lb cb:Nat} (hS:∀w',Tch NoB w w'->Env E w'/\Sent E w') (er:Er) (hl:w.cell? ⟨lb,0,none⟩=some (.pointer (some ⟨cb,0,none⟩))) (k m:Int) (h:Calls prog 55 #[.pointer (some ⟨cb,0,none⟩),.int .i64 k,.int .i64 m] w λe w'=>Tch NoB w w'/\∃t u,e=.returned (.tuple #[.string ⟨#[]⟩,.iface t u])/\Jl E (erG er) w' (.iface t u)):
  Calls prog 27 #[.pointer (some ⟨lb,0,none⟩),.int .i64 k,.int .i64 m] w λe w'=>e=.returned (.tuple #[.string ⟨#[]⟩,.int .i64 (Xu er)])/\Tch NoB w w':=by
 have H:Hid (Calls _ _ _ _ _):=h
 have HS:Hid (∀w',Tch NoB w w'->Env E w'/\Sent E w'):=hS
 clear h hS
 go_enter func27,ntmps27
 go_wp2_with fail
 refine H.out.mono ?_
 rintro _ w1 ⟨ht,t,u,rfl,he⟩
 have HT:Hid (Tch NoB w w1):=ht
 have HR:Hid (Calls _ _ _ _ _):=ZB er (HS.o w1 ht).1 (HS.o w1 ht).2 t u he
 clear ht H he
 go_wp2_with fail
 refine HR.o.mono ?_
 rintro _ w2 ⟨rfl,ht2⟩
 have HT2:Hid (Tch NoB w1 w2):=ht2
 clear ht2 HR
 go_wp2
 go_ret2
 exact ⟨rfl,HT.o.go HT2.o⟩
structure JeN {E:Nat->Addr} {wd base:Nat} (L:Led E wd base):Prop where
 stored:∀{w:World} {lb:Nat} {F:Nat->Prop} {fl:Nat} {ch:Ch} (c':BA×Option Tr),L.At w lb F fl ch->JV E base w->ch.length=fl+1->ch[fl]? =some c'->(∀t,c'.2=some t->t.Wf)->
  Calls prog 29 #[.pointer (some ⟨lb,0,none⟩)] w λe w'=>e=.returned (.int .i64 (((JF (dgW wd) c'.2).foldl insN []).length:Int))/\Tch NoB w w'
 dout:∀{w:World} {lb:Nat} {F:Nat->Prop} {fl:Nat} {ch:Ch} (h k:Int),L.At w lb F fl ch->JV E base w->¬((fl:Int)<=h/\h<(ch.length:Int))->
  Calls prog 27 #[.pointer (some ⟨lb,0,none⟩),.int .i64 h,.int .i64 k] w λe w'=>e=.returned (.tuple #[.string ⟨#[]⟩,.int .i64 7])/\Tch NoB w w'
theorem JgY (E:Nat->Addr) (base pn wd:Nat):JeN (JaI E base pn wd) where
 stored:=λ{w lb F fl ch} c' hA hF hlen hc hwf=>by
  obtain ⟨⟨hw,lg,cb,r,bs,lv,C⟩,hH⟩:=hA
  have hl:w.cell? ⟨lb,0,none⟩=some (.pointer (some ⟨cb,0,none⟩)):=Ja C.led
  have hb:bs[fl]? =some (bs[fl]'(by rw [C.len];omega)):=Qd _
  obtain ⟨h1,h2,h3⟩:=C.st fl _ c' hb hc (Ql _)
  have hm:=C.most
  exact Jk2 hl _ (JgP (dgW wd) C.row (by rw [C.len];exact hlen) (by omega) _ hb (λj hj=>(C.low j hj).2) c'.2 h2 hwf (JiN hw.2 _ h3))
 dout:=λ{w lb F fl ch} h k hA hF hh=>by
  obtain ⟨⟨_,lg,cb,r,bs,lv,C⟩,_⟩:=hA
  have hl:w.cell? ⟨lb,0,none⟩=some (.pointer (some ⟨cb,0,none⟩)):=Ja C.led
  exact Jf7 (λw' k=>hF.next k) .range hl h k (JhL E hF.env C.row h k (by rw [C.len];exact hh))
