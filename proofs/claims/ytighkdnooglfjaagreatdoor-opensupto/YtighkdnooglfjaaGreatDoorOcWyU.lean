import Derived.Test.YtighkdnooglfjaaGreatDoorOcWyW
namespace Go.Proofs.YtighkdnooglfjaaGreatDoor
open Go.Proofs.Tryz
set_option maxRecDepth 100000
set_option maxHeartbeats 4000000
open Go.RowKit Go.Shelf

attribute [local go_sem] Oper.semAt_some

def Jp {w:World} {k:Key} (l:List (XH w k)):List Stp:=l.filterMap λy=>match y.1.2 with | .inl _=>none | .inr s=>some s
def Jv (v:Value) (m:Bool) (kb:BA) (a o:Nat):Array Value:= #[v,.bool m,.string kb,.int .u64 (a:Int),.int .u8 (o:Int)]
def WayV (base:Nat) (w:World) (wy:Wy) (e:Ending):Prop:=∃v,e=.returned (.agg (Jv v wy.2.isSome (wyK wy) (wyO wy).1 (wyO wy).2))/\POwn base w v wy.1
theorem Jh5:(prog.info? 366).map (λi=>(i.zero,i.size,i.bytes))=some (some (.agg #[.int .i64 0,.string ⟨#[]⟩]),2,24):=by kernel_rfl
theorem Jcd {P:Program} {ops:Array Oper} {o:Oper} {a:Act} {w w':World} {K:Act->World->Prop} {Q:Exit->Act->World->Prop} {E:Prop} {v xv v':Value} (hgd:o.guard=none) (s x:Operand) (T:TypeId) (ho:o.op=.call { callee:=.builtin .append,args:= #[s,x],argTypes:= #[T,T] })
  (hv:a.eval s=v) (hx:a.eval x=xv) (hr:(Builtin.append_ #[T,T] o.type #[v,xv]).run P w=.ok v' w') (hK:K (a.put o.dst v') w'):if Region.wanted o (yielded ops a.tmps)=true then Oper.wp P o a w K Q else E:=by
 have hw:Region.wanted o (yielded ops a.tmps)=true:=by simp [Region.wanted,hgd]
 rw [if_pos hw]
 unfold Oper.wp
 simp [execOp,ho,resolve,invoke,builtin,hv,hx,hr,Result.andThen]
 exact hK
structure WayI (w:World) (k:Key) (pre:List (XH w k)) (W:World):Prop where
 below:Below w.heap.size w W
 brs:∀y∈pre,∃s,y.1.2=.inr s
 row:∃v,W.heap[w.heap.size+3]? =some (.cells (Jv v false ⟨#[]⟩ 0 0) 258)/\POwn w.heap.size W v (Jp pre)
 key:W.heap[w.heap.size+1]? =some (.cells #[.string ⟨k.toArray⟩] 9)
 cap:W.heap[w.heap.size+5]? =some (.cells #[.string ⟨k.toArray⟩] 9)
 res:W.heap[w.heap.size+2]? =some (.cells (Jv (.slice none 0 0) false ⟨#[]⟩ 0 0) 258)
structure WayX (w:World) (k:Key) (pre:List (XH w k)) (W:World):Prop where
 below:Below w.heap.size w W
 row:∃q y v x,pre=q++[y]/\y.1.2=.inl x/\(∀y∈q,∃s,y.1.2=.inr s)/\W.heap[w.heap.size+3]? =some (.cells (Jv v true ⟨x.1.toArray⟩ x.2.1 x.2.2) 258)/\POwn w.heap.size W v (Jp q)
 res:W.heap[w.heap.size+2]? =some (.cells (Jv (.slice none 0 0) false ⟨#[]⟩ 0 0) 258)
theorem WayI.own {w:World} {k:Key} {B:Nat} (hB:w.heap.size+4<=B):OwnFrom B (WayI w k):=by
 intro s W W' row h hg hr
 have hr':∀r,row=some r->∃o:Obj,W.heap[r]? =some o/\o.isCells=false:=λr e=>(hr r e).2
 obtain ⟨v,h1,h2⟩:=h.row
 exact ⟨ownFrom_below (β:=List (XH w k)) (w₀:=w) (n₀:=w.heap.size) (B:=B) (Ql _) (by omega) s W W' row h.below hg hr,h.brs,⟨v,JX h1 hg hr',h2.kept hg hr'⟩,JX h.key hg hr',JX h.cap hg hr',JX h.res hg hr'⟩
theorem WayX.own {w:World} {k:Key} {B:Nat} (hB:w.heap.size+4<=B):OwnFrom B (WayX w k):=by
 intro s W W' row h hg hr
 have hr':∀r,row=some r->∃o:Obj,W.heap[r]? =some o/\o.isCells=false:=λr e=>(hr r e).2
 obtain ⟨q,y,v,x,e1,e2,e3,h1,h2⟩:=h.row
 exact ⟨ownFrom_below (β:=List (XH w k)) (w₀:=w) (n₀:=w.heap.size) (B:=B) (Ql _) (by omega) s W W' row h.below hg hr,⟨q,y,v,x,e1,e2,e3,JX h1 hg hr',h2.kept hg hr'⟩,JX h.res hg hr'⟩
theorem Jc3 {w:World} {k:Key} (l m:List (XH w k)):Jp (l++m)=Jp l++Jp m:=by simp [Jp]
theorem JfX {w:World} {k:Key} (l:List (XH w k)):(Jp l).length<=l.length:=List.length_filterMap_le _ _
theorem JfY {w:World} {k:Key} {y:XH w k} {s:Stp} (h:y.1.2=.inr s):Jp [y]=[s]:=by simp [Jp,h]
theorem WayI.add {w W w3:World} {k:Key} {pre:List (XH w k)} {v v':Value} {y:XH w k} {s:Stp} (HI:WayI w k pre W) (hpo:POwn w.heap.size W v (Jp pre)) (hT:Tch (λj=>some j=v.ownBlock) W w3) (hown:POwn w.heap.size w3 v' (Jp pre++[s])) (hrow:w3.heap[w.heap.size+3]? =some (.cells (Jv v false ⟨#[]⟩ 0 0) 258)) (hy:y.1.2=.inr s):
  KeepsOthers W (w3.setCell ⟨w.heap.size+3,0,none⟩ v')/\JeV w.heap.size (w.heap.size+5) W (w3.setCell ⟨w.heap.size+3,0,none⟩ v')/\WayI w k (pre++[y]) (w3.setCell ⟨w.heap.size+3,0,none⟩ v'):=by
 have hset:w3.setCell ⟨w.heap.size+3,0,none⟩ v'=w3.setRow (w.heap.size+3) (Jv v' false ⟨#[]⟩ 0 0):=Qj w3 (w.heap.size+3) 0 _ _ (0,0) v' hrow
 rw [hset]
 obtain ⟨v0,hv0,_⟩:=HI.row
 have hT4:Tch (λj=>some j=v.ownBlock\/j=w.heap.size+3) W (w3.setRow (w.heap.size+3) (Jv v' false ⟨#[]⟩ 0 0)):=(hT.mono (λ_ h=>.inl (.inl h))).trans (Ts _ _ _) (λ_ h=>.inl (.inr h))
 have hkeep:∀{j:Nat} {cs:Array Value} {T:TypeId},T ≠ 366->j ≠ w.heap.size+3->W.heap[j]? =some (.cells cs T)->_:=λhne hj h=>(hT4.block _ (Jb h) (λe=>by
  rcases e with e | e
  ·obtain ⟨_,cs,m,hc⟩:=hpo.own _ e.symm
   rw [h] at hc
   simp only [Qh,Obj.cells.injEq] at hc
   exact hne hc.2.1
  ·exact hj e)).trans h
 have hz:=HI.below.size
 have hge:∀j,(some j=v.ownBlock\/j=w.heap.size+3)->w.heap.size<=j:=λj e=>by
  rcases e with e | e
  ·exact (hpo.own _ e.symm).1
  ·omega
 have hB:=hT4.below hz hge
 have hcap:=hkeep (by decide) (by omega) HI.cap
 refine ⟨JbA hT4 (λj e=>?_),⟨hB,λu hu=>?_⟩,HI.below.trans hB,?_,⟨v',Qi _ _ _ _ _ _ hrow,?_⟩,hkeep (by decide) (by omega) HI.key,hcap,hkeep (by decide) (by omega) HI.res⟩
 ·rcases e with e | e
  ·obtain ⟨_,cs,m,hc⟩:=hpo.own _ e.symm
   exact ⟨cs,_,m,hc⟩
  ·exact ⟨_,_,_,by rw [e];exact hv0⟩
 ·rw [Ja HI.cap] at hu
  rw [Ja hcap]
  exact hu
 ·intro z hz
  rcases QE.1 hz with hz | hz
  ·exact HI.brs z hz
  ·simp only [Qt] at hz
   exact ⟨s,by rw [hz];exact hy⟩
 ·rw [Jc3,JfY hy]
  refine hown.tch (Ts _ _ _) (λj hj e=>?_)
  obtain ⟨_,cs,m,hc⟩:=hown.own _ hj
  rw [e,hrow] at hc
  simp only [Qh,Obj.cells.injEq] at hc
  exact absurd hc.2.1 (by decide)
theorem WayI.leaf {w W:World} {k:Key} {pre:List (XH w k)} {y:XH w k} {x:KO} (HI:WayI w k pre W) {v:Value} (hrow:W.heap[w.heap.size+3]? =some (.cells (Jv v false ⟨#[]⟩ 0 0) 258)) (hpo:POwn w.heap.size W v (Jp pre)) (hy:y.1.2=.inl x) (n:Nat):
  KeepsOthers W ((W.drewN n).setRow (w.heap.size+3) (Jv v true ⟨x.1.toArray⟩ x.2.1 x.2.2))/\JeV w.heap.size (w.heap.size+5) W ((W.drewN n).setRow (w.heap.size+3) (Jv v true ⟨x.1.toArray⟩ x.2.1 x.2.2))/\WayX w k (pre++[y]) ((W.drewN n).setRow (w.heap.size+3) (Jv v true ⟨x.1.toArray⟩ x.2.1 x.2.2)):=by
 have hT4:Tch (λj=>j=w.heap.size+3) W ((W.drewN n).setRow (w.heap.size+3) (Jv v true ⟨x.1.toArray⟩ x.2.1 x.2.2)):=(Td _ W n).trans (Ts _ _ _) (λ_ h=>.inl h)
 have hz:=HI.below.size
 have hB:=hT4.below hz (λj e=>by omega)
 have hkeep:∀{j:Nat} {o:Obj},j ≠ w.heap.size+3->W.heap[j]? =some o->_:=λhj h=>(hT4.block _ (Jb h) hj).trans h
 have hcap:=hkeep (by omega) HI.cap
 refine ⟨JbA hT4 (λj e=>by subst e;exact ⟨_,_,_,hrow⟩),⟨hB,λu hu=>?_⟩,HI.below.trans hB,⟨pre,y,v,x,rfl,hy,HI.brs,Qi _ _ _ _ _ _ (show (W.drewN n).heap[w.heap.size+3]? =_ from hrow),?_⟩,hkeep (by omega) HI.res⟩
 ·rw [Ja HI.cap] at hu
  rw [Ja hcap]
  exact hu
 ·refine hpo.tch hT4 (λj hj e=>?_)
  obtain ⟨_,cs,m,hc⟩:=hpo.own _ hj
  rw [e,hrow] at hc
  simp only [Qh,Obj.cells.injEq] at hc
  exact absurd hc.2.1 (by decide)
theorem Jht {α β:Type} {x x':α}:∀(Q A:List β) (R:List (α ⊕ β)),Q.map Sum.inr++(Sum.inl x :: R)=A.map Sum.inr++[Sum.inl x']->Q=A/\x=x'
 | [],[],R,h=>by simp at h;exact ⟨rfl,h.1⟩
 | [],a :: A,R,h=>by simp at h
 | q :: Q,[],R,h=>by simp at h
 | q :: Q,a :: A,R,h=>by
  simp only [List.map_cons,List.cons_append,QH,Sum.inr.injEq] at h
  obtain ⟨h1,h2⟩:=Jht Q A R h.2
  exact ⟨by rw [h.1,h1],h2⟩
theorem Jb7 {w:World} {k:Key}:∀(q:List (XH w k)),(∀z∈q,∃s,z.1.2=.inr s)->q.map (·.1.2)=(Jp q).map Sum.inr
 | [],_=>rfl
 | z :: q,h=>by
  obtain ⟨s,hs⟩:=h z (by simp)
  have ih:=Jb7 q (λy hy=>h y (by simp [hy]))
  rw [show Jp (z :: q)=s :: Jp q by simp [Jp,hs],List.map_cons,List.map_cons,ih,hs]
theorem JlW {w:World} {k:Key} {ds pre q:List (XH w k)} {y:XH w k} {x:KO} {wy:Wy} (hp:pre <+:ds) (e1:pre=q++[y]) (e2:y.1.2=.inl x) (e3:∀z∈q,∃s,z.1.2=.inr s)
  (h:(ds=[]/\wy=([],none))\/ds.map (·.1.2)=wy.1.map .inr++(wy.2.toList.map .inl)/\wy.2 ≠ none):wy=(Jp q,some x):=by
 obtain ⟨r,hr⟩:=hp
 rcases h with ⟨h,_⟩ | ⟨h,hn⟩
 ·rw [h,e1] at hr;simp at hr
 ·obtain ⟨A,e⟩:=wy
  cases e with
  | none=>exact absurd rfl hn
  | some x'=>
   rw [<-hr,e1,List.map_append,List.map_append,Jb7 q e3] at h
   simp only [List.map_cons,List.map_nil,e2,Qs,List.cons_append,List.nil_append,Option.toList_some] at h
   obtain ⟨h1,h2⟩:=Jht _ _ _ h
   rw [h1,h2]
theorem Jf4 (wd:Int) (q:Option Nat) (k:Key) (hk1:1<=k.length) (hk2:k.length<=1000000) (w:World) (ds:List (XH w k)) (hdl:ds.length<=1000000) (hL:Way w.heap.size k w q (ds.map (·.1.1))) (wy:Wy) (hne:ds=[]↔q=none) (hwy:(ds=[]/\wy=([],none))\/ds.map (·.1.2)=wy.1.map .inr++(wy.2.toList.map .inl)/\wy.2 ≠ none):
  CallsIn Fence.wide 5 prog 147 #[.agg #[.int .i64 wd,Ji q],.string ⟨k.toArray⟩] w λe W'=>WayV w.heap.size W' wy e/\Below w.heap.size w W':=by
 have h1:1<=5:=by omega
 have hro:Fence.wide.round=none:=rfl
 have HL:Hid _:=hL
 have HNE:Hid _:=hne
 have HWY:Hid _:=hwy
 clear hL hne hwy
 obtain ⟨rv,hrv⟩:∃rv,rv=(q.map λn=>(⟨n,0,none⟩:Addr)):=⟨_,rfl⟩
 have HRV:Hid (Ji q=.pointer rv):=by rw [hrv];rfl
 rw [HRV.o]
 clear hrv
 refine callsIn_of_wp_marks func147 rfl trivial ?_ hro
 simp only [ntmps147,List.size_toArray,Qp,Qv,Nat.reduceAdd,Nat.reduceSub,Array.replicate_succ,Array.replicate_zero,List.push_toArray,List.append_toArray,List.nil_append,List.cons_append]
 gi_wp2
 refine ⟨trivial,(callsIn_wide.2 (callsIn_wide.1 (Jhe _ _ _ _))).mono ?_⟩
 rintro _ _ ⟨rfl,rfl⟩
 gi_wp2
 obtain ⟨WD,hWD⟩:∃WD,WD=(((((w.alloc (.cells #[.int .i64 wd,.pointer rv] 146)).alloc (.cells #[.string ⟨k.toArray⟩] 9)).alloc (.cells #[.slice none 0 0,.bool false,.string ⟨#[]⟩,.int .u64 0,.int .u8 0] 258)).alloc (.cells #[.slice none 0 0,.bool false,.string ⟨#[]⟩,.int .u64 0,.int .u8 0] 258)).alloc (.cells #[.int .i64 wd,.pointer rv] 146)).alloc (.cells #[.string ⟨k.toArray⟩] 9):=⟨_,rfl⟩
 rw [<-hWD]
 have hB0:Below w.heap.size w WD:=by rw [hWD];exact ((((((Below.refl _ w).alloc (Ql _) _).alloc (by simp) _).alloc (by simp;omega) _).alloc (by simp;omega) _).alloc (by simp;omega) _).alloc (by simp;omega) _
 have hz:WD.heap.size=w.heap.size+6:=by rw [hWD];simp
 have hal:∀(V:World) (o:Obj) (j:Nat) (x:Obj),V.heap[j]? =some x->_:=λV o j x h=>(Below.heap_alloc V o j (Jb h)).trans h
 have hnw:∀(V:World) (o:Obj) (j:Nat),V.heap.size=j->(V.alloc o).heap[j]? =some o:=λV o j h=>by subst h;exact Qf V o
 have r1:WD.heap[w.heap.size+1]? =some (.cells #[.string ⟨k.toArray⟩] 9):=by rw [hWD];exact hal _ _ _ _ (hal _ _ _ _ (hal _ _ _ _ (hal _ _ _ _ (hnw _ _ _ (by simp)))))
 have r2:WD.heap[w.heap.size+2]? =some (.cells #[.slice none 0 0,.bool false,.string ⟨#[]⟩,.int .u64 0,.int .u8 0] 258):=by rw [hWD];exact hal _ _ _ _ (hal _ _ _ _ (hal _ _ _ _ (hnw _ _ _ (by simp))))
 have r3:WD.heap[w.heap.size+3]? =some (.cells #[.slice none 0 0,.bool false,.string ⟨#[]⟩,.int .u64 0,.int .u8 0] 258):=by rw [hWD];exact hal _ _ _ _ (hal _ _ _ _ (hnw _ _ _ (by simp)))
 have r4:WD.heap[w.heap.size+4]? =some (.cells #[.int .i64 wd,.pointer rv] 146):=by rw [hWD];exact hal _ _ _ _ (hnw _ _ _ (by simp))
 have r5:WD.heap[w.heap.size+5]? =some (.cells #[.string ⟨k.toArray⟩] 9):=by rw [hWD];exact hnw _ _ _ (by simp)
 have hI0:WayI w k [] WD:=⟨hB0,λy hy=>(by cases hy),⟨.slice none 0 0,r3,POwn.nil _ _⟩,r1,r5,r2⟩
 clear hal hnw
 refine wpIn_rangeFunc_ownF hro h1 (gf:=295) (lb:= #[.pointer (some ⟨w.heap.size+1+1+1+1,0,none⟩),.pointer (some ⟨w.heap.size+1+1+1+1+1,0,none⟩)]) rfl trivial (enters_of func295 (by kernel_rfl) rfl)
  (Jek 4 (by omega) (w.heap.size+1+1+1+1) (w.heap.size+1+1+1+1+1) w.heap.size k hk1 hk2 q w ds WD (by omega) (by omega) (by omega) (by rw [HRV.o];exact Ja r4) (Ja r5) (Way.below hB0 HL)) (λh k=>⟨h.1.trans k.1,λv hv=>k.2 v (h.2 v hv)⟩)
  (λW l o o' hl ho hc hw'=>⟨belowK_b (w:=w) (Ql _) W l o o' (by omega) ho hc hw',λv hv=>cell_kept hv (grownBy_putObj' _ l o') (λr e=>by cases e;exact ⟨o,ho,hc⟩)⟩) (Below.refl _ _) (λ_=>rfl)
  (WayI w k) (λc pre W=>c=.exit 0/\WayX w k pre W) (WayI.own (by omega)) (λc=>λs W W' row h hg hr=>⟨h.1,WayX.own (by omega) s W W' row h.2 hg hr⟩) hI0
  (λx=>{ tmps:= #[.agg #[.int .i64 wd,.pointer rv],.string ⟨k.toArray⟩,.pointer (some ⟨w.heap.size,0,none⟩),.pointer (some ⟨w.heap.size+1,0,none⟩),.pointer (some ⟨w.heap.size+1+1,0,none⟩),.pointer (some ⟨w.heap.size+1+1+1,0,none⟩),.pointer (some ⟨x.1.1,0,none⟩),.agg #[.int .i64 wd,.pointer rv],.string ⟨k.toArray⟩,.func (.func 295) #[] #[.pointer (some ⟨w.heap.size+1+1+1+1,0,none⟩),.pointer (some ⟨w.heap.size+1+1+1+1+1,0,none⟩)],.pointer (some ⟨x.1.1,0,none⟩),undef,undef,undef,undef,undef,undef,undef,undef,undef,undef,undef,undef,undef,undef,undef,undef,undef,undef,undef,undef,undef,undef,undef,undef,undef,undef,undef,undef,undef,undef],defers:=[] }) ?assign ?body ?done ?stop
 case assign=>
  intro l x W K hK
  gi_wp2
  exact hK
 case body=>
  clear r1 r2 r3 r4 r5 hB0 hI0 HL HNE HWY
  rintro l pre y W hI hpl
  obtain ⟨x,dsc,hyx⟩:∃x dsc,y.1=(x,dsc):=⟨_,_,rfl⟩
  have hx:=y.2
  rw [hyx] at hx
  have hy1:y.1.1=x:=by rw [hyx]
  rw [hy1]
  clear hy1
  obtain ⟨v,hrow,hpo⟩:=hI.row
  have c0:=rows hrow
  cases dsc with
  | inl kd=>
   obtain ⟨k',oa,oo⟩:=kd
   obtain ⟨dg,hlr⟩:=hx
   have hxl:=(Jb hlr)
   have hlr':=(hI.below.block x hxl).trans hlr
   have hil:=Jai x dg k' (oa,oo) W hlr'
   have HI:Hid _:=hI
   have HROW:Hid _:=hrow
   have HPO:Hid _:=hpo
   have HXN:Hid (x ≠ w.heap.size+1+1+1):=(by omega:x ≠ w.heap.size+1+1+1)
   have s0:(λ(X:World)=>X.cell? ⟨x,1,none⟩=some (.string ⟨k'.toArray⟩)/\X.cell? ⟨x,2,none⟩=some (.int .u64 (oa:Int))/\X.cell? ⟨x,3,none⟩=some (.int .u8 (oo:Int))) W.drew:=⟨Ja hlr',Ja hlr',Ja hlr'⟩
   obtain ⟨-,c1⟩:=rows (show W.drew.heap[w.heap.size+3]? =_ from hrow)
   have f1:W.drew.frozen? ⟨w.heap.size+1+1+1,1,none⟩=false:=Qg _ _ _ _ _ (show W.drew.heap[w.heap.size+3]? =_ from hrow)
   clear hI hrow hpo hlr' hlr c0 hxl
   generalize hKB':(⟨k'.toArray⟩:BA)=kb' at *
   gi_wp2
   refine ⟨trivial,(CallsIn.inRound l (callsIn_wide.2 hil)).mono ?_⟩
   rintro _ X ⟨rfl,hX⟩
   rw [hX]
   clear hil hX X
   gi_wp2
   have hmx:prog.follows .mixedOrders=true:=by kernel_rfl
   refine Yr (S:=(λ(X:World)=>X.cell? ⟨x,1,none⟩=some (.string kb')/\X.cell? ⟨x,2,none⟩=some (.int .u64 (oa:Int))/\X.cell? ⟨x,3,none⟩=some (.int .u8 (oo:Int)))) 17 (by simp) (by kernel_rfl) (by kernel_rfl) (by simp) ?hq s0 (λhHeld l0 o0 hl0 ho0=>?_)
   case hq=>rintro ⟨_,_,h⟩;exact h
   simp only [List.dropLast,List.getLast_cons_cons,List.getLast_singleton] at hl0 ho0
   subst hl0;subst ho0
   refine tkL 0 ?_
   simp only [Act.put,Qa,Qb,Qc]
   refine tkL 1 ?_
   simp only [Act.put,Qa,Qb,Qc]
   refine tkL 2 ?_
   simp only [Act.put,Qa,Qb,Qc]
   refine tkL 3 ?_
   simp only [Act.put,Qa,Qb,Qc]
   refine tkL 4 ?_
   simp only [Act.put,Qa,Qb,Qc]
   refine tkL 5 ?_
   simp only [Act.put,Qa,Qb,Qc]
   refine tkL 6 ?_
   simp only [Act.put,Qa,Qb,Qc]
   refine tkL 7 ?_
   simp only [Act.put,Qa,Qb,Qc]
   refine tkL 8 ?_
   simp only [Act.put,Qa,Qb,Qc]
   refine tkL 9 ?_
   simp only [Act.put,Qa,Qb,Qc]
   refine Zk (i:=10) rfl (by kernel_rfl) (λK hK=>?_)
   go_simp
   obtain ⟨u0,u1,u2⟩:=s0
   have s1:(λ(X:World)=>X.cell? ⟨x,1,none⟩=some (.string kb')/\X.cell? ⟨x,2,none⟩=some (.int .u64 (oa:Int))/\X.cell? ⟨x,3,none⟩=some (.int .u8 (oo:Int))) (W.drew.setCell ⟨w.heap.size+1+1+1,1,none⟩ (.bool true)):=⟨(World.cell?_setCell_other _ _ _ _ (by have:=HXN.o;simp)).trans u0,(World.cell?_setCell_other _ _ _ _ (by have:=HXN.o;simp)).trans u1,(World.cell?_setCell_other _ _ _ _ (by have:=HXN.o;simp)).trans u2⟩
   refine hK _ _ s1 (λhHeld2=>?_)
   clear hK K hHeld
   try simp only [Act.put,Qa,Qb,Qc]
   refine tkL 11 ?_
   simp only [Act.put,Qa,Qb,Qc]
   have hset1:(W.setCell ⟨w.heap.size+1+1+1,1,none⟩ (.bool true)).drew=W.drew.setRow (w.heap.size+3) (Jv v true ⟨#[]⟩ 0 0):=(congrArg World.drew (Qj W (w.heap.size+3) 1 _ _ (0,0) (.bool true) HROW)).trans rfl
   rw [hset1]
   have hr1:(W.drew.setRow (w.heap.size+3) (Jv v true ⟨#[]⟩ 0 0)).heap[w.heap.size+3]? =some (.cells (Jv v true ⟨#[]⟩ 0 0) 258):=Qi _ _ _ _ _ _ (show W.drew.heap[w.heap.size+3]? =_ from HROW)
   have HR1:Hid _:=hr1
   have g2:(W.drew.setRow (w.heap.size+3) (Jv v true ⟨#[]⟩ 0 0)).cell? ⟨w.heap.size+1+1+1,2,none⟩=some (.string ⟨#[]⟩):=Ja hr1
   have g3:(W.drew.setRow (w.heap.size+3) (Jv v true ⟨#[]⟩ 0 0)).cell? ⟨w.heap.size+1+1+1,3,none⟩=some (.int .u64 0):=Ja hr1
   have g4:(W.drew.setRow (w.heap.size+3) (Jv v true ⟨#[]⟩ 0 0)).cell? ⟨w.heap.size+1+1+1,4,none⟩=some (.int .u8 0):=Ja hr1
   have fg:∀j,(W.drew.setRow (w.heap.size+3) (Jv v true ⟨#[]⟩ 0 0)).frozen? ⟨w.heap.size+1+1+1,j,none⟩=false:=λj=>Qg _ _ _ _ _ hr1
   clear hr1 hset1 c1 f1 s1
   obtain ⟨W1,(HW1:Hid _)⟩:∃W1,W1=W.drew.setRow (w.heap.size+3) (Jv v true ⟨#[]⟩ 0 0):=⟨_,rfl⟩
   rw [<-HW1] at g2 g3 g4 fg HR1 ⊢
   refine wpAnyH_done (by kernel_rfl) ?_ _
   show wpList _ _ _ [_] _ _
   go_wp2
   gi_wp2
   subst hKB'
   have hset:((W1.setCell ⟨w.heap.size+1+1+1,2,none⟩ (.string ⟨k'.toArray⟩)).setCell ⟨w.heap.size+1+1+1,3,none⟩ (.int .u64 (oa:Int))).setCell ⟨w.heap.size+1+1+1,4,none⟩ (.int .u8 (oo:Int))=(W.drewN 1).setRow (w.heap.size+3) (Jv v true ⟨k'.toArray⟩ oa oo):=by
    rw [Qj W1 (w.heap.size+3) 2 _ _ (0,0) _ HR1.o,Qj _ (w.heap.size+3) 3 _ _ (0,0) _ (Qi _ _ _ _ _ _ HR1.o),QI,Qj _ (w.heap.size+3) 4 _ _ (0,0) _ (Qi _ _ _ _ _ _ HR1.o),QI,HW1.o,QI]
    rfl
   have hlf:=HI.o.leaf (x:=(k',oa,oo)) HROW HPO (y:=y) (by rw [hyx]) 1
   rw [hset]
   exact ⟨hlf.1,rfl,hlf.2.2⟩
  | inr s=>
   obtain ⟨b,od⟩:=s
   obtain ⟨dg,nl,nr,cs,hbr,hb8,hor,hod⟩:=hx
   have hbr':=(hI.below.block x (Jb hbr)).trans hbr
   have hor':=(hI.below.block _ (Jb hor)).trans hor
   have hil:=Jat x dg b nl nr W hbr'
   obtain ⟨va,vc,hvs⟩:=hpo.shape
   subst hvs
   have hzW:=hI.below.size
   have HBES:Hid (∀X,Tch NoB W X->Calls prog 225 #[.pointer (some ⟨x,0,none⟩),.string ⟨k.toArray⟩] X λe w'=>e=.returned (.pointer (some ⟨if bt k b=0 then nr else nl,0,none⟩))/\Tch NoB W w'):=λX hT=>(Jf9 x dg b nl nr k hb8 hk2 X ((hT.block x (Jb hbr') (λh=>h)).trans hbr')).mono λe w' ⟨h1,m,h2⟩=>⟨h1,by rw [h2];exact hT.trans (Td NoB X m) (λ_ h=>.inl h)⟩
   have HC:Hid (∀X,Tch NoB W X->X.cell? ⟨w.heap.size+1+1+1,0,none⟩=some (.slice va (Jp pre).length vc)/\X.cell? ⟨w.heap.size+1,0,none⟩=some (.string ⟨k.toArray⟩)/\X.cell? ⟨x,4,none⟩=some (.int .i64 (b:Int))/\X.cell? ⟨if bt k b=0 then nr else nl,0,none⟩=some (.string od)):=λX hT=>by
    have hb:∀{j:Nat} {o:Obj},W.heap[j]? =some o->_:=λh=>(hT.block _ (Jb h) (λh=>h)).trans h
    exact ⟨Ja (hb hrow),Ja (hb hI.key),Ja (hb hbr'),(Ja (hb hor')).trans hod⟩
   have HI:Hid _:=hI
   have HROW:Hid _:=hrow
   have HPO:Hid (POwn w.heap.size W (.slice va (Jp pre).length vc) (Jp pre)):=hpo
   have HZW:Hid _:=hzW
   have HLEN:Hid ((Jp pre).length<=1000000):=by have:=JfX pre;exact (by omega:(Jp pre).length<=1000000)
   have HAPP:Hid (∀X,Tch NoB W X->∃va' vc' w3,(Builtin.append_ #[255,255] 255 #[.slice va (Jp pre).length vc,.slice (some ⟨X.heap.size,0,none⟩) 1 1]).run prog (X.alloc (.cells #[.int .i64 (b:Int),.string od] 366))=.ok (.slice va' ((Jp pre).length+1) vc') w3/\POwn w.heap.size w3 (.slice va' ((Jp pre).length+1) vc') (Jp pre++[(b,od)])/\(X.alloc (.cells #[.int .i64 (b:Int),.string od] 366)).grownBy w3 (Value.ownBlock (.slice va (Jp pre).length vc))/\w3.cell? ⟨w.heap.size+1+1+1,0,none⟩=some (.slice va (Jp pre).length vc)/\w3.frozen? ⟨w.heap.size+1+1+1,0,none⟩=false/\w3.heap[w.heap.size+3]? =some (.cells (Jv (.slice va (Jp pre).length vc) false ⟨#[]⟩ 0 0) 258)/\((w3.cell? ⟨w.heap.size+1,0,none⟩=some (.string ⟨k.toArray⟩)/\w3.cell? ⟨x,4,none⟩=some (.int .i64 (b:Int))/\w3.cell? ⟨if bt k b=0 then nr else nl,0,none⟩=some (.string od))/\w3.heap[w.heap.size+5]? =some (.cells #[.string ⟨k.toArray⟩] 9)/\Tch (λj=>some j=Value.ownBlock (.slice va (Jp pre).length vc)) W w3)):=λX hT=>by
    obtain ⟨i0,hi,hp⟩:=Option.map_eq_some_iff.1 Jh5
    simp only [Qw] at hp
    obtain ⟨hz0,hz1,hz2⟩:=hp
    have hTa:Tch NoB W (X.alloc (.cells #[.int .i64 (b:Int),.string od] 366)):=hT.trans (Ta NoB X _) noE
    have hzX:=hTa.size
    have hnrow:=Qf X (.cells #[.int .i64 (b:Int),.string od] 366)
    obtain ⟨v',w3,hr,h2,h3,_⟩:=run_append_own (P:=prog) (X.alloc (.cells #[.int .i64 (b:Int),.string od] 366)) w.heap.size 255 255 366 i0 _ 2 24 underlying255 hi hz0 hz1 hz2 rfl (by omega) (.slice va (Jp pre).length vc) (Jp pre).length (stpV (Jp pre)) (HPO.o.tch hTa (λ_ _ h=>h)) ⟨X.heap.size,0,none⟩ 1 1 (stpV [(b,od)]) rfl (λj u hu=>by
     rw [Addr.add_lit,Nat.zero_add,Ja hnrow,<-Array.getElem?_toList]
     exact hu) (JkG _) (by have:=HLEN.o;simp only [maxLen];omega) (by have:=HLEN.o;omega) (by have:=HZW.o;omega)
    have h2':POwn w.heap.size w3 v' (Jp pre++[(b,od)]):=by unfold POwn;rw [Qe,show stpV (Jp pre++[(b,od)])=stpV (Jp pre)++stpV [(b,od)] by simp [stpV]];exact h2
    obtain ⟨a',c',hv'⟩:=h2'.shape
    rw [Qe] at hv'
    have hv':=hv'
    subst hv'
    have hTg:=(hTa.mono noE).trans (Tg h3) (λ_ h=>.inl h)
    have hkeep:∀{j:Nat} {cs:Array Value} {T:TypeId},T ≠ 366->W.heap[j]? =some (.cells cs T)->_:=λhne h=>(hTg.block _ (Jb h) (λe=>by
     obtain ⟨_,cs,m,hc⟩:=HPO.o.own _ e.symm
     rw [h] at hc
     simp only [Qh,Obj.cells.injEq] at hc
     exact hne hc.2.1)).trans h
    have e3:=hkeep (by decide) HROW.o
    exact ⟨a',c',w3,hr,h2',h3,Ja e3,Qg _ _ _ _ _ e3,e3,⟨Ja (hkeep (by decide) HI.key),Ja (hkeep (by decide) hbr'),(Ja (hkeep (by decide) hor')).trans hod⟩,hkeep (by decide) HI.cap,hTg⟩
   have hmx:prog.follows .mixedOrders=true:=by kernel_rfl
   obtain ⟨d0,d1,d2,d3⟩:=HC W (Te _ _)
   clear hI hrow hpo hbr' hor' hbr hor c0 hzW
   generalize (if bt k b=0 then nr else nl)=oth at *
   gi_wp2
   refine ⟨trivial,(CallsIn.inRound l (callsIn_wide.2 hil)).mono ?_⟩
   rintro _ X ⟨rfl,hX⟩
   rw [hX]
   clear hil hX X
   generalize hKB:(⟨k.toArray⟩:BA)=kb at *
   gi_wp2
   have s0:=HC _ (Td NoB W 1)
   refine Yr (S:=(λ(X:World)=>X.cell? ⟨w.heap.size+1+1+1,0,none⟩=some (.slice va (Jp pre).length vc)/\X.cell? ⟨w.heap.size+1,0,none⟩=some (.string kb)/\X.cell? ⟨x,4,none⟩=some (.int .i64 (b:Int))/\X.cell? ⟨oth,0,none⟩=some (.string od))) 17 (by simp) (by kernel_rfl) (by kernel_rfl) (by simp) ?hq s0 (λhHeld l0 o0 hl0 ho0=>?_)
   case hq=>rintro ⟨_,_,h⟩;exact h
   simp only [List.dropLast,List.getLast_cons_cons,List.getLast_singleton] at hl0 ho0
   subst hl0;subst ho0
   refine tkL 0 ?_
   simp only [Act.put,Qa,Qb,Qc]
   refine tkL 1 ?_
   simp only [Act.put,Qa,Qb,Qc]
   refine tkL 2 ?_
   simp only [Act.put,Qa,Qb,Qc]
   refine tkL 3 ?_
   simp only [Act.put,Qa,Qb,Qc]
   refine tkL 4 ?_
   simp only [Act.put,Qa,Qb,Qc]
   refine tkL 5 ?_
   simp only [Act.put,Qa,Qb,Qc]
   refine tkL 6 ?_
   simp only [Act.put,Qa,Qb,Qc]
   refine tkL 7 ?_
   simp only [Act.put,Qa,Qb,Qc]
   refine Zk (i:=8) rfl (by kernel_rfl) (λK hK=>?_)
   go_simp
   refine (HBES _ (Td NoB _ 1)).mono ?_
   rintro _ W2 ⟨rfl,hT2⟩
   have s2:=HC _ hT2
   refine hK _ _ s2 (λhHeld2=>?_)
   clear hK K hHeld
   try simp only [Act.put,Qa,Qb,Qc]
   refine tkL 9 ?_
   simp only [Act.put,Qa,Qb,Qc]
   refine tkL 10 ?_
   simp only [Act.put,Qa,Qb,Qc]
   refine tkL 11 ?_
   simp only [Act.put,Qa,Qb,Qc]
   refine tkL 12 ?_
   simp only [Act.put,Qa,Qb,Qc]
   refine Zk (i:=13) rfl (by kernel_rfl) (λK hK=>?_)
   go_simp
   have s3:(λ(X:World)=>X.cell? ⟨w.heap.size+1+1+1,0,none⟩=some (.slice va (Jp pre).length vc)/\X.cell? ⟨w.heap.size+1,0,none⟩=some (.string kb)/\X.cell? ⟨x,4,none⟩=some (.int .i64 (b:Int))/\X.cell? ⟨oth,0,none⟩=some (.string od)) (W2.alloc (.cells #[.int .i64 (b:Int),.string od] 366)):=HC _ (hT2.trans (Ta NoB W2 _) noE)
   refine hK _ _ s3 (λhHeld3=>?_)
   clear hK K hHeld2
   try simp only [Act.put,Qa,Qb,Qc]
   obtain ⟨va',vc',w3,hrun,hown3,hg3,g0,g1,g2,gk,g5,hTw⟩:=HAPP W2 hT2
   refine Zk (i:=14) rfl (by kernel_rfl) (λK hK=>?_)
   refine Jcd rfl _ _ 255 rfl rfl rfl hrun ?_
   have s4:(λ(X:World)=>X.cell? ⟨w.heap.size+1+1+1,0,none⟩=some (.slice va (Jp pre).length vc)/\X.cell? ⟨w.heap.size+1,0,none⟩=some (.string kb)/\X.cell? ⟨x,4,none⟩=some (.int .i64 (b:Int))/\X.cell? ⟨oth,0,none⟩=some (.string od)) w3:=⟨g0,gk⟩
   refine hK _ _ s4 (λhHeld4=>?_)
   clear hK K hHeld3
   try simp only [Act.put,Qa,Qb,Qc]
   refine tkL 15 ?_
   simp only [Act.put,Qa,Qb,Qc]
   refine wpAnyH_done (by kernel_rfl) ?_ _
   show wpList _ _ _ [_] _ _
   go_wp2
   exact HI.add HPO hTw hown3 g2 (by rw [hyx])
 case done=>
  rintro D ys W hD rfl hI hK
  have hds:ys=[]/\wy=([],none):=by
   rcases HWY with h | ⟨h1,h2⟩
   ·exact h
   ·exfalso
    cases hw2:wy.2 with
    | none=>exact h2 hw2
    | some x=>
     rw [hw2] at h1
     have:(Sum.inl x)∈ys.map (·.1.2):=by rw [h1];simp
     obtain ⟨y,hy,e⟩:=QK.1 this
     obtain ⟨s,hs⟩:=hI.brs y hy
     rw [hs] at e
     cases e
  obtain ⟨rfl,rfl⟩:=hds
  obtain ⟨v,hrow,hpo⟩:=hI.row
  have hbe:=hI.below
  have hres:=hI.res
  obtain ⟨va,vc,hvs⟩:=hpo.shape
  subst hvs
  clear hI
  obtain ⟨vn,mm,kb,oa,oo,e1,e2,e3,e4,e5⟩:∃(vn:Nat) (mm:Bool) (kb:BA) (oa oo:Nat),vn=(Jp ([]:List (XH w k))).length/\mm=false/\kb=⟨#[]⟩/\oa=0/\oo=0:=⟨_,_,_,_,_,rfl,rfl,rfl,rfl,rfl⟩
  rw [<-e1] at hpo
  have hrow:W.heap[w.heap.size+3]? =some (.cells (Jv (.slice va vn vc) mm kb oa oo) 258):=by rw [e1,e2,e3,e4,e5];exact hrow
  have HWV:Hid (Jv (.slice va vn vc) mm kb oa oo=Jv (.slice va vn vc) (([],none):Wy).2.isSome (wyK ([],none)) (wyO ([],none)).1 (wyO ([],none)).2):=by rw [e2,e3,e4,e5];rfl
  clear e1 e2 e3 e4 e5
  obtain ⟨c0,c1,c2,c3,c4⟩:=rows hrow
  obtain ⟨d0,d1,d2,d3,d4⟩:=rows hres
  have fd:∀j,W.frozen? ⟨w.heap.size+1+1,j,none⟩=false:=λj=>Qg _ _ _ _ _ hres
  have HRES:Hid _:=hres
  have HPO:Hid (POwn _ _ _ _):=hpo
  have HBE:Hid _:=hbe
  clear hres hpo hbe hrow HL HNE HWY r1 r2 r3 r4 r5 hI0
  gi_wp2
  rw [set5 _ _ _ _ _ _ _ _ _ _ _ _ _ HRES.o]
  have hne:D ≠ w.heap.size+2:=λe=>by rw [e,HRES.o] at hK;simp at hK
  have hK2:(W.setRow (w.heap.size+2) (Jv (.slice va vn vc) mm kb oa oo)).heap[D]? =some (.deferred (some [])):=(setRow_other _ _ _ _ hne).trans hK
  have hrow2:(W.setRow (w.heap.size+2) (Jv (.slice va vn vc) mm kb oa oo)).heap[w.heap.size+2]? =some (.cells (Jv (.slice va vn vc) mm kb oa oo) 258):=Qi _ _ _ _ _ _ HRES.o
  have hg:=grownBy_putObj' (W.setRow (w.heap.size+2) (Jv (.slice va vn vc) mm kb oa oo)) D (.deferred none)
  have hr':∀r,some D=some r->∃o:Obj,(W.setRow (w.heap.size+2) (Jv (.slice va vn vc) mm kb oa oo)).heap[r]? =some o/\o.isCells=false:=λr e=>by cases e;exact ⟨_,hK2,rfl⟩
  refine ⟨by simp,.inl ⟨_,_,rfl,run_takeDeferred hK2,?_⟩⟩
  refine ⟨_,Qq results147 _ _ (w.heap.size+2) _ _ (0,0) _ rfl (JX hrow2 hg hr') underlying258 rfl (by kernel_rfl),⟨⟨_,congrArg (λx=>Ending.returned (.agg x)) HWV,?_⟩,?_⟩⟩
  ·refine (HPO.tch (Ts W (w.heap.size+2) (Jv (.slice va vn vc) mm kb oa oo)) (λj hj e=>?_)).kept hg hr'
   obtain ⟨_,cs,m,hc⟩:=HPO.own _ hj
   rw [e,HRES.o] at hc
   simp only [Qh,Obj.cells.injEq] at hc
   exact absurd hc.2.1 (by decide)
  ·refine HBE.trans ?_
   have t1:Below w.heap.size W (W.setRow (w.heap.size+2) (Jv (.slice va vn vc) mm kb oa oo)):=(Ts W (w.heap.size+2) _).below HBE.size (λj hj=>by omega)
   exact t1.trans (belowK_b (w:=w) (Ql _) _ D _ _ (by omega) hK2 rfl rfl)
 case stop=>
  rintro D c pre W hD hpre ⟨rfl,hX⟩ hK
  obtain ⟨q0,y,v,x,e1,e2,e3,hrow,hpo⟩:=hX.row
  have hbe:=hX.below
  have hres:=hX.res
  have hwy:=JlW hpre e1 e2 e3 HWY.o
  obtain ⟨va,vc,hvs⟩:=hpo.shape
  subst hvs
  subst hwy
  clear hX hpre e1 e2 e3
  obtain ⟨vn,mm,kb,oa,oo,e1,e2,e3,e4,e5⟩:∃(vn:Nat) (mm:Bool) (kb:BA) (oa oo:Nat),vn=(Jp q0).length/\mm=true/\kb=⟨x.1.toArray⟩/\oa=x.2.1/\oo=x.2.2:=⟨_,_,_,_,_,rfl,rfl,rfl,rfl,rfl⟩
  rw [<-e1] at hpo
  have hrow:W.heap[w.heap.size+3]? =some (.cells (Jv (.slice va vn vc) mm kb oa oo) 258):=by rw [e1,e2,e3,e4,e5];exact hrow
  have HWV:Hid (Jv (.slice va vn vc) mm kb oa oo=Jv (.slice va vn vc) ((Jp q0,some x):Wy).2.isSome (wyK (Jp q0,some x)) (wyO (Jp q0,some x)).1 (wyO (Jp q0,some x)).2):=by rw [e2,e3,e4,e5];rfl
  clear e1 e2 e3 e4 e5
  obtain ⟨c0,c1,c2,c3,c4⟩:=rows hrow
  obtain ⟨d0,d1,d2,d3,d4⟩:=rows hres
  have fd:∀j,W.frozen? ⟨w.heap.size+1+1,j,none⟩=false:=λj=>Qg _ _ _ _ _ hres
  have HRES:Hid _:=hres
  have HPO:Hid (POwn _ _ _ _):=hpo
  have HBE:Hid _:=hbe
  clear hres hpo hbe hrow HL HNE HWY r1 r2 r3 r4 r5 hI0
  gi_wp2
  rw [set5 _ _ _ _ _ _ _ _ _ _ _ _ _ HRES.o]
  have hne:D ≠ w.heap.size+2:=λe=>by rw [e,HRES.o] at hK;simp at hK
  have hK2:(W.setRow (w.heap.size+2) (Jv (.slice va vn vc) mm kb oa oo)).heap[D]? =some (.deferred (some [])):=(setRow_other _ _ _ _ hne).trans hK
  have hrow2:(W.setRow (w.heap.size+2) (Jv (.slice va vn vc) mm kb oa oo)).heap[w.heap.size+2]? =some (.cells (Jv (.slice va vn vc) mm kb oa oo) 258):=Qi _ _ _ _ _ _ HRES.o
  have hg:=grownBy_putObj' (W.setRow (w.heap.size+2) (Jv (.slice va vn vc) mm kb oa oo)) D (.deferred none)
  have hr':∀r,some D=some r->∃o:Obj,(W.setRow (w.heap.size+2) (Jv (.slice va vn vc) mm kb oa oo)).heap[r]? =some o/\o.isCells=false:=λr e=>by cases e;exact ⟨_,hK2,rfl⟩
  refine ⟨by simp,.inl ⟨_,_,rfl,run_takeDeferred hK2,?_⟩⟩
  refine ⟨_,Qq results147 _ _ (w.heap.size+2) _ _ (0,0) _ rfl (JX hrow2 hg hr') underlying258 rfl (by kernel_rfl),⟨⟨_,congrArg (λx=>Ending.returned (.agg x)) HWV,?_⟩,?_⟩⟩
  ·refine (HPO.tch (Ts W (w.heap.size+2) (Jv (.slice va vn vc) mm kb oa oo)) (λj hj e=>?_)).kept hg hr'
   obtain ⟨_,cs,m,hc⟩:=HPO.own _ hj
   rw [e,HRES.o] at hc
   simp only [Qh,Obj.cells.injEq] at hc
   exact absurd hc.2.1 (by decide)
  ·refine HBE.trans ?_
   have t1:Below w.heap.size W (W.setRow (w.heap.size+2) (Jv (.slice va vn vc) mm kb oa oo)):=(Ts W (w.heap.size+2) _).below HBE.size (λj hj=>by omega)
   exact t1.trans (belowK_b (w:=w) (Ql _) _ D _ _ (by omega) hK2 rfl rfl)
open Go.RowKit

theorem JkN (wd:Nat) (hw:wd<=32) (F:Nat->Prop) (q:Option Nat) (st:Option Tr) (k:Key) (hk:k.length=wd+1) (w:World) (hs:StAt (dgW wd) F w q st) (hok:∀t,st=some t->t.Wf/\TrOk wd t):
  Calls prog 147 #[Jw wd q,.string ⟨k.toArray⟩] w λe W'=>WayV w.heap.size W' (Yp (dgW wd) k st) e/\Tch NoB w W':=by
 have HT:∀{W':World},Below w.heap.size w W'->Tch NoB w W':=λh=>(Tch.of_below h).mono (λ_ hj=>.inr hj)
 cases st with
 | none=>
  obtain rfl:=hs.of_none
  exact (callsIn_wide.1 (Jf4 (wd:Int) none k (by omega) (by omega) w [] (by simp) rfl ([],none) (by simp) (.inl ⟨rfl,rfl⟩))).mono λe W' h=>⟨h.1,HT h.2⟩
 | some t=>
  obtain ⟨n,rfl,hn⟩:=hs.of_some
  obtain ⟨_,h2⟩:=hok t rfl
  obtain ⟨ds,hL,hd⟩:=hn.wayD hk h2
  have hlen:=congrArg List.length hd
  simp only [QL,Qe,Qp,Qv] at hlen
  have h3:(t.way (dgW wd) k).1.length<=8 * (wd+1):=(JcX (dgW wd) wd (Jq wd hw) k (some t) hok).len
  refine (callsIn_wide.1 (Jf4 (wd:Int) (some n) k (by omega) (by omega) w ds (by omega) hL ((t.way (dgW wd) k).1,some (t.way (dgW wd) k).2) ?_ (.inr ⟨hd,λe=>(by cases e)⟩))).mono λe W' h=>⟨h.1,HT h.2⟩
  constructor
  ·intro e
   rw [e] at hlen
   simp at hlen
  ·intro e
   cases e
theorem Ja0 {wd:Nat} {c:BA×Int} (hc:Jn wd c):(Jd c).length=wd+1:=(Jbv hc (o:=(0,0)) ⟨by decide,by decide⟩).1
theorem JlX (E:Nat->Addr) (b:Nat) (hb12:18<=b) (wd:Nat) (hw:wd<=32) (wy:Wy) (hok:WyOk wd wy) (v:Value) (w:World) (hE:Env E w) (hp:Jc w b none (wd:Int) .nilIface (.wr [])) (base:Nat) (hb:b<base) (hv:POwn base w v wy.1):
  Calls prog 146 #[.pointer (some ⟨b,0,none⟩),.agg (Jv v wy.2.isSome (wyK wy) (wyO wy).1 (wyO wy).2)] w λe w'=>∃r g',e=.returned r/\Jh E w' b g' (wd:Int) (some (.wr (wayB wy)))/\Tch (λk=>k=b\/some k=none) w w':=by
 obtain ⟨v1,v3,rfl⟩:=hv.shape
 have ho:(wyO wy).2<256:=by
  unfold wyO
  cases h:wy.2 with
  | none=>decide
  | some x=>exact (hok.key x h).2.2.2
 refine (JkO E b hb12 none wd hw v1 wy.1.length v3 wy.1 wy.2.isSome (wyK wy) (wyO wy).1 (wyO wy).2 ho (.wr []) w hE hp hv.vat ?_ (by have:=hok.len;omega) (λs hs=>by have:=(hok.steps s hs).1;omega) ?_ (by simp [PS.len])).mono ?_
 ·intro a n c e
  simp only [Qy] at e
  obtain ⟨rfl,_,_⟩:=e
  exact ⟨λe=>by have:=(hv.own _ rfl).1;omega,λe=>by cases e⟩
 ·simp [PS.takes]
 ·rintro e w' ⟨x1,x2,x3,m,k,a,o,g',rfl,h1,_,h3,_⟩
  rw [JmV (by omega) hok] at h1
  exact ⟨_,g',rfl,h1,h3⟩
theorem Jkh (E:Nat->Addr) (wd:Nat) (hw:wd<=32) (F:Nat->Prop) (q:Option Nat) (st:Option Tr) (c:BA×Int) (hc:Jn wd c) (w:World) (hE:Env E w) (hs:StAt (dgW wd) F w q st) (hok:∀t,st=some t->t.Wf/\TrOk wd t):
  Calls prog 93 #[Jw wd q,.agg #[.string c.1,.int .i64 c.2]] w λe w'=>e=.returned (.tuple #[.string ⟨(wayB (Yp (dgW wd) (Jd c) st)).toArray⟩,.nilIface])/\Tch NoB w w':=by
 have hsz:=hE.size
 have HSZ:Hid (18<=w.heap.size):=hsz
 have HE:Hid (Env E w):=hE
 have HOK:=JcX (dgW wd) wd (Jq wd hw) (Jd c) st hok
 have HK:Hid (∀W,Tch NoB w W->_):=λW hT=>Jau E wd hw c hc W (hE.tch hT noE)
 have HWT:Hid (∀W,Tch NoB w W->_):=λW hT=>JkN wd hw F q st (Jd c) (Ja0 hc) W (hs.next hT) hok
 generalize Yp (dgW wd) (Jd c) st=wy at *
 have HWY:Hid (WyOk wd wy):=HOK
 obtain ⟨rv,hrv⟩:∃rv,rv=(q.map λn=>(⟨n,0,none⟩:Addr)):=⟨_,rfl⟩
 have e0:Ji q=.pointer rv:=by rw [hrv]
 have e1:Jw wd q=.agg #[.int .i64 (wd:Int),.pointer rv]:=by show Value.agg _=_;rw [e0]
 rw [e1] at HWT ⊢
 obtain ⟨s,N⟩:=c
 dsimp only at HK ⊢
 generalize (⟨(Jd (s,N)).toArray⟩:BA)=kb at *
 go_enter func93,ntmps93
 go_wp2_with fail
 refine (HK _ (Tch.allocs NoB w _ _)).mono ?_
 rintro _ w1 ⟨rfl,ht1⟩
 have hB0:=heap_alloc2_old w (.cells #[.int .i64 (wd:Int),.pointer rv] 146) (.cells #[.string s,.int .i64 N] 49)
 have hT1:=(Tch.allocs NoB w _ _).trans ht1 noE
 have r1:=(ht1.block _ (by simp;omega) (λh=>h)).trans hB0
 have hz1:w.heap.size+2<=w1.heap.size:=by have:=ht1.size;simp at this;omega
 obtain ⟨c0,c1⟩:=rows r1
 have HT1:Hid _:=hT1
 have HZ1:Hid (w.heap.size+2<=w1.heap.size):=hz1
 have R1:Hid _:=r1
 go_wp2_with fail
 refine (JV _ _).mono ?_
 rintro _ w2 ⟨rfl,hp2,ht2⟩
 have hT2:=HT1.trans ht2 noE
 have r2:=(ht2.block _ (by have:=HZ1.o;omega) (λh=>h)).trans R1.o
 obtain ⟨c0,c1⟩:=rows r2
 have HT2:Hid (Tch NoB w w2):=hT2
 have HP2:Hid (Jc w2 w1.heap.size none (wd:Int) .nilIface (.wr [])):=hp2
 generalize hbb:w1.heap.size=b at *
 have HBB:Hid _:=hbb
 have HWW:Hid (∀W v,Tch NoB w2 W->POwn w2.heap.size W v wy.1->Calls prog 146 _ W _):=λW v hT hv=>JlX E b (by have:=HZ1.o;have:=HSZ.o;omega) wd hw wy HWY.o v W ((HE.o.tch HT2.o noE).tch hT noE) (HP2.o.tch hT (λh=>h) (λ_ _ h=>h)) w2.heap.size HP2.o.lt hv
 go_wp2_with fail
 go_region_with (first
  | (go_at_call 147;refine (HWT _ (HT2.trans (Td NoB w2 1) noE)).mono ?_;rintro _ w3 ⟨⟨v,rfl,(HV:Hid _)⟩,ht3⟩;have HT3:Hid _:=(Td NoB w2 1).trans ht3 noE;clear ht3)
  | (go_at_call 146;refine (HWW _ _ HT3 HV).mono ?_;rintro _ w4 ⟨r,g',rfl,(HP4:Hid _),(HT4:Hid _)⟩))
 all_goals
  have HT5:Hid _:=(HT2.trans HT3 noE).trans HT4 (λj hj=>by
   rcases hj with rfl | hj
   ·exact .inr (by have:=HZ1.o;omega)
   ·cases hj)
  have HR:Hid (Calls prog 79 _ w4 _):=ZL E b g' wd (some (.wr (wayB wy))) (λp hp=>by cases hp;exact ⟨_,rfl⟩) w4 HP4.o
  go_wp2_with fail
  refine HR.o.mono ?_
  rintro _ w5 ⟨ht5,rfl⟩
  have HT6:Hid _:=HT5.trans ht5 noE
  go_wp2
  go_ret2
  exact ⟨rfl,HT6⟩
