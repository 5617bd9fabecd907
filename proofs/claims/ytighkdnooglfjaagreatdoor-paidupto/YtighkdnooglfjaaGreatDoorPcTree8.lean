import Derived.Test.YtighkdnooglfjaaGreatDoorPcTree6
namespace Go.Proofs.YtighkdnooglfjaaGreatDoor
open Tryz
set_option maxRecDepth 100000
set_option maxHeartbeats 2000000
open Go.RowKit Go.Shelf

attribute [local go_sem] Oper.semAt_some

def Way (n₀:Nat) (k:Key) (W:World):Option Nat->List Nat->Prop
 | q,[]=>q=none
 | q,x :: xs=>q=some x/\x<n₀/\((∃dg k' o,W.heap[x]? =some (.cells (YV dg k' o) 243)/\xs=[])\/(∃dg b nl nr,W.heap[x]? =some (.cells (brC dg b nl nr) 243)/\b<8 * k.length/\Way n₀ k W (some (if bt k b=0 then nl else nr)) xs))
theorem Way.below {n₀:Nat} {k:Key} {A B:World} (h:Below n₀ A B):∀{q:Option Nat} {xs:List Nat},Way n₀ k A q xs->Way n₀ k B q xs
 | _,[],hl=>hl
 | _,x :: xs,⟨h1,h2,h3⟩=>⟨h1,h2,by
   rcases h3 with ⟨dg,k',o,hr,he⟩ | ⟨dg,b,nl,nr,hr,hb,hw⟩
   ·exact .inl ⟨dg,k',o,(h.block x h2).trans hr,he⟩
   ·exact .inr ⟨dg,b,nl,nr,(h.block x h2).trans hr,hb,Way.below h hw⟩⟩
theorem Jck {W:World} {x:Nat} {dg dg':BA} {k':Key} {o:Nat×Nat} {b nl nr:Nat} (h:W.heap[x]? =some (.cells (YV dg k' o) 243)) (h':W.heap[x]? =some (.cells (brC dg' b nl nr) 243)):False:=by
 rw [h] at h'
 simp [YV,brC] at h'
theorem Way.unique {n₀:Nat} {k:Key} {W:World}:∀{q:Option Nat} {xs ys:List Nat},Way n₀ k W q xs->Way n₀ k W q ys->xs=ys
 | _,[],[],_,_=>rfl
 | _,[],_ :: _,h,⟨h',_⟩=>by rw [h] at h';cases h'
 | _,_ :: _,[],⟨h',_⟩,h=>by rw [h] at h';cases h'
 | _,x :: xs,y :: ys,⟨h1,_,h3⟩,⟨k1,_,k3⟩=>by
  rw [h1] at k1
  cases k1
  rcases h3 with ⟨dg,k',o,hr,rfl⟩ | ⟨dg,b,nl,nr,hr,hb,hw⟩
  ·rcases k3 with ⟨_,_,_,_,rfl⟩ | ⟨_,_,_,_,hr',_⟩
   ·rfl
   ·exact (Jck hr hr').elim
  ·rcases k3 with ⟨_,_,_,hr',_⟩ | ⟨dg',b',nl',nr',hr',_,hw'⟩
   ·exact (Jck hr' hr).elim
   ·rw [hr] at hr'
    simp only [brC,Qh,Obj.cells.injEq,and_true] at hr'
    have e4:=congrArg (λa=>a[4]?) hr'
    have e5:=congrArg (λa=>a[5]?) hr'
    have e6:=congrArg (λa=>a[6]?) hr'
    simp at e4 e5 e6
    obtain rfl:b=b':=by omega
    subst e5 e6
    rw [Way.unique hw hw']
theorem JfM {q q':Option Nat} (h:Jh q=Jh q'):q=q':=by
 cases q <;> cases q' <;> simp [Jh] at h ⊢
 exact h
theorem Jif (n₀:Nat) (k:Key):∃f:World->Value->Nat,∀W q xs,Way n₀ k W q xs->f W (Jh q)=xs.length:=by
 classical
 refine ⟨λW v=>if h:∃r:Option Nat×List Nat,v=Jh r.1/\Way n₀ k W r.1 r.2 then (Classical.choose h).2.length else 0,λW q xs h=>?_⟩
 have hex:∃r:Option Nat×List Nat,Jh q=Jh r.1/\Way n₀ k W r.1 r.2:=⟨(q,xs),rfl,h⟩
 simp only
 rw [dif_pos hex]
 obtain ⟨e,hl⟩:=Classical.choose_spec hex
 rw [<-JfM e] at hl
 rw [Way.unique hl h]
theorem Je.way {d:List UInt8->BA} {F:Nat->Prop} {w:World} {n wd:Nat} {t:Tr} {k:Key} (hk:k.length=wd+1) (h:Je d F w n t) (hok:TrOk wd t):∃xs m,Way w.heap.size k w (some n) xs/\xs.getLast? =some m/\Je d F w m (.leaf (t.near k).1 (t.near k).2):=by
 induction h using Je.ri with
 | leaf n k' o hF hr=>exact ⟨[n],n,⟨rfl,(Jb hr),.inl ⟨_,_,_,hr,rfl⟩⟩,rfl,.leaf n k' o hF hr⟩
 | br n b nl nr l r hF hr hl hr' ihl ihr=>
  obtain ⟨hb,hokl,hokr⟩:=hok
  simp only [Tr.near]
  by_cases h0:bt k b=0
  ·obtain ⟨xs,m,h1,h2,h3⟩:=ihl hokl
   refine ⟨n :: xs,m,⟨rfl,(Jb hr),.inr ⟨_,b,nl,nr,hr,by omega,by rw [if_pos h0];exact h1⟩⟩,?_,by rw [if_pos h0];exact h3⟩
   cases xs with
   | nil=>cases h2
   | cons x xs=>rw [List.getLast?_cons_cons];exact h2
  ·obtain ⟨xs,m,h1,h2,h3⟩:=ihr hokr
   refine ⟨n :: xs,m,⟨rfl,(Jb hr),.inr ⟨_,b,nl,nr,hr,by omega,by rw [if_neg h0];exact h1⟩⟩,?_,by rw [if_neg h0];exact h3⟩
   cases xs with
   | nil=>cases h2
   | cons x xs=>rw [List.getLast?_cons_cons];exact h2
theorem JhK (wd:Int) (rv:Option Addr) (kb:BA) (w:World):
  CallsIn Fence.wide 3 prog 223 #[.agg #[.int .i64 wd,.pointer rv],.string kb] w λe w'=>e=.returned (.func (.func 295) #[] #[.pointer (some ⟨w.heap.size,0,none⟩),.pointer (some ⟨w.heap.size+1,0,none⟩)])/\w'=(w.alloc (.cells #[.int .i64 wd,.pointer rv] 146)).alloc (.cells #[.string kb] 9):=by
 refine callsIn_wide.2 ?_
 have hmf:∀(fn:Fn) (first cap:Array Value) (w:World),(Instr.makeFunc fn first cap).run prog w=.ok (.func fn first cap) w:=λ_ _ _ _=>rfl
 go_enter func223,ntmps223
 go_wp2
 go_ret
 exact ⟨rfl,rfl⟩
def Jih (n₀ Bk:Nat) (W W':World):Prop:=Below n₀ W W'/\∀v,W.cell? ⟨Bk,0,none⟩=some v->W'.cell? ⟨Bk,0,none⟩=some v
theorem Jgz (n:Nat) (hn:2<=n) (l Bt Bk n₀:Nat) (k:Key) (hk1:1<=k.length) (hk2:k.length<=1000000) (q:Option Nat) (xs:List Nat) (J Jx:List Nat->World->Prop)
  (hJ:∀pre W m,J pre W->J pre (W.drewN m))
  (hY:∀pre x W,J pre W->xs[pre.length]? =some x->YieldAt Fence.wide (n - 1) prog l #[.pointer (some ⟨x,0,none⟩)] W λe W'=>
   (e=.returned (.bool true)/\J (pre++[x]) W'/\Jih n₀ Bk W W')\/(e=.returned (.bool false)/\Jx (pre++[x]) W'))
  (W:World) (hBt:W.cell? ⟨Bt,1,none⟩=some (Jh q)) (hBk:W.cell? ⟨Bk,0,none⟩=some (.string ⟨k.toArray⟩)) (hL:Way n₀ k W q xs) (h0:J [] W):
  CallsIn Fence.wide n prog 295 #[.func (.yield l) #[] #[],.pointer (some ⟨Bt,0,none⟩),.pointer (some ⟨Bk,0,none⟩)] W λe W'=>(∃v,e=.returned v)/\
   ((∃ys,ys=xs/\J ys W')\/(∃pre,pre <+:xs/\Jx pre W')):=by
 obtain ⟨fw,(HFW:Hid _)⟩:=Jif n₀ k
 refine callsIn_of_wp func295 rfl trivial ?_ rfl
 simp only [ntmps295,List.size_toArray,Qp,Qv,Nat.reduceAdd,Nat.reduceSub,Array.replicate_succ,Array.replicate_zero,List.push_toArray,List.append_toArray,List.nil_append,List.cons_append]
 gi_wp2
 gi_loopw [4] (λp wr=>∃(pre rest:List Nat) (q:Option Nat),p=Jh q/\xs=pre++rest/\Way n₀ k wr q rest/\wr.cell? ⟨Bk,0,none⟩=some (.string ⟨k.toArray⟩)/\J pre wr)
  (λp wr=>fw wr p)
 case atStart=>
  exact ⟨[],xs,q,rfl,rfl,hL,hBk,h0⟩
 case round=>
  obtain ⟨pre,rest,q,rfl,hx,hl,hbk',hJs⟩:=hrel
  cases rest with
  | nil=>
   obtain rfl:q=none:=hl
   rw [show Jh none=.pointer none from rfl]
   gi_wp2
   refine ⟨λ_ h=>(by cases h),?_⟩
   gi_wp2
   exact bodyPost_end (v:=.tuple #[]) (results_none results295 _ _ _) rfl ⟨⟨_,rfl⟩,.inl ⟨pre,by simp [hx],hJs⟩⟩
  | cons x rest=>
   have hl':=hl
   obtain ⟨rfl,hlt,hr⟩:=hl
   obtain ⟨fn,tmps,assign,body,hy,hR⟩:=hY pre x wr hJs (by rw [hx];simp)
   rw [show Jh (some x)=.pointer (some ⟨x,0,none⟩) from rfl]
   gi_wp2
   refine ⟨λ_=>by omega,hR.mono ?_⟩
   clear hR hy hY
   rintro e W3 (⟨rfl,hJ3,hk3⟩ | ⟨rfl,hJx3⟩)
   ·have hb3:W3.cell? ⟨Bk,0,none⟩=some (.string ⟨k.toArray⟩):=hk3.2 _ hbk'
    have hw3:=Way.below hk3.1 hl'
    obtain ⟨_,_,hr3⟩:=hw3
    have hleft:fw wr (Jh (some x))=rest.length+1:=HFW.o _ _ _ hl'
    have HL':Hid (_=_):=hleft
    clear hr hl' hleft
    generalize hKB:(⟨k.toArray⟩:BA)=kb at *
    have HKB:Hid (_=kb):=hKB
    clear hKB
    rcases hr3 with ⟨dg,k',o,hrow,rfl⟩ | ⟨dg,b,nl,nr,hrow,hb8,hw⟩
    ·have ht:=JdS x dg k' o k hk1 hk2 W3 hrow
     rw [HKB.o] at ht
     gi_wp2
     refine ⟨trivial,λ_=>by omega,(callsIn_wide.2 ht).mono ?_⟩
     rintro _ _ ⟨rfl,m,rfl⟩
     gi_wp2
     go_roundw
     case rel=>exact ⟨pre++[x],[],none,rfl,by simp [hx],rfl,by rw [HKB.o];exact hb3,hJ _ _ m hJ3⟩
     case measure=>
      rw [show Value.pointer none=Jh none from rfl,HFW.o _ _ [] (show Way n₀ k _ none [] from rfl),show Value.pointer (some ⟨x,0,none⟩)=Jh (some x) from rfl,HL'.out]
      simp
    ·have ht:=Jf1 x dg b nl nr k hb8 hk2 W3 hrow
     rw [HKB.o] at ht
     gi_wp2
     refine ⟨trivial,λ_=>by omega,(callsIn_wide.2 ht).mono ?_⟩
     rintro _ _ ⟨rfl,m,rfl⟩
     have hwm:Way n₀ k (W3.drewN m) (some (if bt k b=0 then nl else nr)) rest:=Way.below (A:=W3) (B:=W3.drewN m) ⟨rfl,rfl,rfl,Ql _,λ_ _=>rfl⟩ hw
     generalize (if bt k b=0 then nl else nr)=nx at *
     gi_wp2
     go_roundw
     case rel=>exact ⟨pre++[x],rest,some nx,rfl,by simp [hx],hwm,by rw [HKB.o];exact hb3,hJ _ _ m hJ3⟩
     case measure=>
      rw [show Value.pointer (some ⟨nx,0,none⟩)=Jh (some nx) from rfl,HFW.o _ _ _ hwm,show Value.pointer (some ⟨x,0,none⟩)=Jh (some x) from rfl,HL'.out]
      omega
   ·gi_wp2
    refine bodyPost_end (v:=.tuple #[]) (results_none results295 _ _ _) rfl ?_
    exact ⟨⟨_,rfl⟩,.inr ⟨pre++[x],⟨rest,by simp [hx]⟩,hJx3⟩⟩
theorem Jdj (n:Nat) (hn:2<=n) (Bt Bk n₀:Nat) (k:Key) (hk1:1<=k.length) (hk2:k.length<=1000000) (q:Option Nat) (xs:List Nat) (w:World) (hBt:Bt<w.heap.size) (hBk:Bk<w.heap.size) (hn₀:n₀<=w.heap.size) (c1:w.cell? ⟨Bt,1,none⟩=some (Jh q)) (c2:w.cell? ⟨Bk,0,none⟩=some (.string ⟨k.toArray⟩)) (hL:Way n₀ k w q xs):
  SeqStopsK Fence.wide n prog 295 #[.pointer (some ⟨Bt,0,none⟩),.pointer (some ⟨Bk,0,none⟩)] (λx:Nat=> #[Value.pointer (some ⟨x,0,none⟩)]) (Jih n₀ Bk) (λys=>ys=xs) (λpre=>pre <+:xs) xs.length w:=λl J Jx W hW hJ _ hY h0=>
 Jgz n hn l Bt Bk n₀ k hk1 hk2 q xs J Jx (λpre W' m h=>hJ pre W' (W'.drewN m) none h ⟨rfl,rfl,rfl,Ql _,λ_ _ _=>rfl⟩ (λr e=>by cases e)) (λpre x W hJ hx=>hY pre x W hJ (Qo.1 hx).1) W ((hW.cell (p:=⟨Bt,1,none⟩) hBt).trans c1) ((hW.cell (p:=⟨Bk,0,none⟩) hBk).trans c2) (Way.below (hW.mono hn₀) hL) h0
theorem Jbl (wd:Int) (q:Option Nat) (k:Key) (hk1:1<=k.length) (hk2:k.length<=1000000) (xs:List Nat) (w:World) (hL:Way w.heap.size k w q xs):
  CallsIn Fence.wide 4 prog 269 #[.agg #[.int .i64 wd,Jh q],.string ⟨k.toArray⟩] w λe W'=>e=.returned (Jh xs.getLast?)/\Below w.heap.size w W':=by
 have h1:1<=4:=by omega
 have hro:Fence.wide.round=none:=rfl
 have HL:Hid (Way w.heap.size k w q xs):=hL
 clear hL
 obtain ⟨rv,hrv⟩:∃rv,rv=(q.map λn=>(⟨n,0,none⟩:Addr)):=⟨_,rfl⟩
 have HRV:Hid (Jh q=.pointer rv):=by rw [hrv];rfl
 rw [HRV.o]
 clear hrv
 refine callsIn_of_wp_marks func269 rfl trivial ?_ hro
 simp only [ntmps269,List.size_toArray,Qp,Qv,Nat.reduceAdd,Nat.reduceSub,Array.replicate_succ,Array.replicate_zero,List.push_toArray,List.append_toArray,List.nil_append,List.cons_append]
 gi_wp2
 refine ⟨trivial,(JhK _ _ _ _).mono ?_⟩
 rintro _ _ ⟨rfl,rfl⟩
 gi_wp2
 obtain ⟨WD,hWD⟩:∃WD,WD=(((w.alloc (.cells #[.int .i64 wd,.pointer rv] 146)).alloc (.cells #[.pointer none] 144)).alloc (.cells #[.int .i64 wd,.pointer rv] 146)).alloc (.cells #[.string ⟨k.toArray⟩] 9):=⟨_,rfl⟩
 rw [<-hWD]
 have hB0:Below w.heap.size w WD:=by rw [hWD];exact ((((Below.refl _ w).alloc (Ql _) _).alloc (by simp) _).alloc (by simp;omega) _).alloc (by simp;omega) _
 have hz:WD.heap.size=w.heap.size+4:=by rw [hWD];simp
 have r1:WD.heap[w.heap.size+1]? =some (.cells #[.pointer none] 144):=by rw [hWD];exact (Below.heap_alloc _ _ _ (by simp)).trans (JE _ _ _ _)
 have r2:WD.heap[w.heap.size+2]? =some (.cells #[.int .i64 wd,.pointer rv] 146):=by rw [hWD];exact (Below.heap_alloc _ _ _ (by simp)).trans (JF _ _ _ _)
 have r3:WD.heap[w.heap.size+3]? =some (.cells #[.string ⟨k.toArray⟩] 9):=by
  rw [hWD]
  have:=Qf (((w.alloc (.cells #[.int .i64 wd,.pointer rv] 146)).alloc (.cells #[.pointer none] 144)).alloc (.cells #[.int .i64 wd,.pointer rv] 146)) (.cells #[.string ⟨k.toArray⟩] 9)
  simpa using this
 have hs1:WD.cell? ⟨w.heap.size+1,0,none⟩=some (.pointer none):=Ja r1
 have hs2:WD.frozen? ⟨w.heap.size+1,0,none⟩=false:=Qg _ _ _ _ _ r1
 refine wpIn_rangeFunc_ownF hro h1 (gf:=295) (lb:= #[.pointer (some ⟨w.heap.size+1+1,0,none⟩),.pointer (some ⟨w.heap.size+1+1+1,0,none⟩)]) rfl trivial (enters_of func295 (by kernel_rfl) rfl)
  (Jdj 3 (by omega) (w.heap.size+1+1) (w.heap.size+1+1+1) w.heap.size k hk1 hk2 q xs WD (by omega) (by omega) (by omega) (by rw [HRV.o];exact Ja r2) (Ja r3) (Way.below hB0 HL.o)) (λh k=>⟨h.1.trans k.1,λv hv=>k.2 v (h.2 v hv)⟩)
  (λW l o o' hl ho hc hw'=>⟨belowK_b (w:=w) (Ql _) W l o o' (by omega) ho hc hw',λv hv=>cell_kept hv (grownBy_putObj' _ l o') (λr e=>by cases e;exact ⟨o,ho,hc⟩)⟩) (Below.refl _ _) (λ_=>rfl)
  (λpre W=>(W.cell? ⟨w.heap.size+1,0,none⟩=some (Jh pre.getLast?)/\W.frozen? ⟨w.heap.size+1,0,none⟩=false)/\Below w.heap.size w W)
  (λ_ _ _=>False)
  (OwnFrom.and (Own.from (λs A B row hs hg hr=>⟨cell_kept hs.1 hg hr,(frozen_kept hs.1 hg hr).trans hs.2⟩) _) (ownFrom_below (Ql _) (by omega)))
  (λ_ _ _ _ _ hs _ _=>hs)
  ⟨⟨hs1,hs2⟩,hB0⟩
  (λx=>{ tmps:= #[.agg #[.int .i64 wd,.pointer rv],.string ⟨k.toArray⟩,.pointer (some ⟨w.heap.size,0,none⟩),undef,.pointer none,.pointer (some ⟨w.heap.size+1,0,none⟩),.pointer (some ⟨x,0,none⟩),.agg #[.int .i64 wd,.pointer rv],.string ⟨k.toArray⟩,.func (.func 295) #[] #[.pointer (some ⟨w.heap.size+1+1,0,none⟩),.pointer (some ⟨w.heap.size+1+1+1,0,none⟩)],.pointer (some ⟨x,0,none⟩),undef,undef],defers:=[] }) ?assign ?body ?done ?stop
 case assign=>
  intro l x W K hK
  gi_wp2
  exact hK
 case body=>
  rintro l pre x W ⟨⟨hc,hf⟩,hB⟩ _
  gi_wp2
  refine ⟨KeepsOthers.setCell _ _ _,⟨(Below.refl w.heap.size W).setCell (p:=⟨w.heap.size+1,0,none⟩) (by simp) _,λv hv=>?_⟩,⟨?_,by rw [World.frozen?_setCell];exact hf⟩,hB.setCell (p:=⟨w.heap.size+1,0,none⟩) (by simp) _⟩
  ·rw [World.cell?_setCell_other _ _ _ _ (by simp)];exact hv
  ·rw [List.getLast?_concat]
   exact World.cell?_setCell_same' _ _ _ (by rw [hc];rfl)
 case done=>
  rintro D ys W hD rfl ⟨⟨hc,_⟩,hB⟩ hK
  gi_wp2
  refine ⟨by simp,.inl ⟨_,_,rfl,run_takeDeferred hK,?_⟩⟩
  exact ⟨_,results_tmp rfl _ _ _,rfl,hB.trans (belowK_b (w:=w) (Ql _) W D _ _ (by omega) hK rfl rfl)⟩
 case stop=>
  rintro D c pre W _ _ h _
  exact h.elim
theorem Jad (wd:Int) (k:Key) (hk1:1<=k.length) (hk2:k.length<=1000000) (w:World):
  Calls prog 269 #[.agg #[.int .i64 wd,.pointer none],.string ⟨k.toArray⟩] w λe w'=>e=.returned (.pointer none)/\Tch NoB w w':=
 (callsIn_wide.1 (Jbl wd none k hk1 hk2 [] w rfl)).mono λ_ _ h=>⟨h.1,(Tch.of_below h.2).mono (λ_ hj=>.inr hj)⟩
theorem Jae (wd:Nat) (hw:wd<=1000) (d:List UInt8->BA) (F:Nat->Prop) (n:Nat) (t:Tr) (k:Key) (hk:k.length=wd+1) (w:World) (h:Je d F w n t) (hok:TrOk wd t):
  Calls prog 269 #[.agg #[.int .i64 (wd:Int),.pointer (some ⟨n,0,none⟩)],.string ⟨k.toArray⟩] w λe w'=>∃m,e=.returned (.pointer (some ⟨m,0,none⟩))/\Je d F w' m (.leaf (t.near k).1 (t.near k).2)/\Tch NoB w w':=by
 obtain ⟨xs,m,h1,h2,h3⟩:=h.way hk hok
 refine (callsIn_wide.1 (Jbl (wd:Int) (some n) k (by omega) (by omega) xs w h1)).mono ?_
 rintro e w' ⟨rfl,hB⟩
 have hT:Tch NoB w w':=(Tch.of_below hB).mono (λ_ hj=>.inr hj)
 exact ⟨m,by rw [h2];rfl,h3.next hT,hT⟩
