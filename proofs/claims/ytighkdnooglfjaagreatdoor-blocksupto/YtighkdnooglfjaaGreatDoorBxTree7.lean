import Derived.Test.YtighkdnooglfjaaGreatDoorBxTree5
import Derived.RangeFuncNested
import Derived.RangeFuncBound
import Derived.Shelf.RegionOpen
import Derived.OwnWalkIn
import Derived.LoopNIn
import Derived.LoopIn
namespace Go.Proofs.YtighkdnooglfjaaGreatDoor
open Tryz
set_option maxRecDepth 100000
set_option maxHeartbeats 2000000
open Go.RowKit Go.Shelf

attribute [local go_sem] Oper.semAt_some

theorem JfC (n:Nat) (dg:BA) (k':Key) (o:Nat×Nat) (k:Key) (hk:1<=k.length) (hk2:k.length<=1000000) (w:World) (h:w.heap[n]? =some (.cells (ZO dg k' o) 243)):
  Calls prog 296 #[.pointer (some ⟨n,0,none⟩),.string ⟨k.toArray⟩] w λe w'=>e=.returned (.pointer none)/\∃m,w'=w.drewN m:=by
 have c4:w.cell? ⟨n,4,none⟩=some (.int .i64 0):=Ja h
 have c5:w.cell? ⟨n,5,none⟩=some (.pointer none):=Ja h
 have c6:w.cell? ⟨n,6,none⟩=some (.pointer none):=Ja h
 have HB:Hid (∀W,Calls prog 288 #[.string ⟨k.toArray⟩,.int .i64 0] W λe w'=>e=.returned (.int .i64 (bt k 0:Int))/\w'=W):=λW=>YQ k 0 (by omega) hk2 W
 have hb:=YO k 0
 clear h
 generalize (⟨k.toArray⟩:BA)=kb at *
 generalize bt k 0=a at *
 obtain rfl | rfl:a=0\/a=1:=by omega
 all_goals
  go_enter func296,ntmps296
  go_wp2
  go_region_with (go_at_call 288;refine (HB.o _).mono ?_;rintro _ _ ⟨rfl,rfl⟩)
  all_goals go_wp2
  all_goals go_ret
  all_goals exact ⟨rfl,1,rfl⟩
theorem Jid (n:Nat) (dg:BA) (b nl nr:Nat) (k:Key) (hk:b<8 * k.length) (hk2:k.length<=1000000) (w:World) (h:w.heap[n]? =some (.cells (brC dg b nl nr) 243)):
  Calls prog 296 #[.pointer (some ⟨n,0,none⟩),.string ⟨k.toArray⟩] w λe w'=>e=.returned (.pointer (some ⟨if bt k b=0 then nl else nr,0,none⟩))/\∃m,w'=w.drewN m:=by
 have c4:w.cell? ⟨n,4,none⟩=some (.int .i64 (b:Int)):=Ja h
 have c5:w.cell? ⟨n,5,none⟩=some (.pointer (some ⟨nl,0,none⟩)):=Ja h
 have c6:w.cell? ⟨n,6,none⟩=some (.pointer (some ⟨nr,0,none⟩)):=Ja h
 have HB:Hid (∀W,Calls prog 288 #[.string ⟨k.toArray⟩,.int .i64 (b:Int)] W λe w'=>e=.returned (.int .i64 (bt k b:Int))/\w'=W):=λW=>YQ k b hk hk2 W
 have hb:=YO k b
 clear h
 generalize (⟨k.toArray⟩:BA)=kb at *
 generalize bt k b=a at *
 obtain rfl | rfl:a=0\/a=1:=by omega
 ·rw [if_pos rfl]
  go_enter func296,ntmps296
  go_wp2
  go_region_with (go_at_call 288;refine (HB.o _).mono ?_;rintro _ _ ⟨rfl,rfl⟩)
  all_goals go_wp2
  all_goals go_ret
  all_goals exact ⟨rfl,1,rfl⟩
 ·rw [if_neg (by decide)]
  go_enter func296,ntmps296
  go_wp2
  go_region_with (go_at_call 288;refine (HB.o _).mono ?_;rintro _ _ ⟨rfl,rfl⟩)
  all_goals go_wp2
  all_goals go_ret
  all_goals exact ⟨rfl,1,rfl⟩

attribute [local go_sem] Oper.semAt_some

def Way (n₀:Nat) (k:Key) (W:World):Option Nat->List Nat->Prop
 | q,[]=>q=none
 | q,x :: xs=>q=some x/\x<n₀/\((∃dg k' o,W.heap[x]? =some (.cells (ZO dg k' o) 243)/\xs=[])\/(∃dg b nl nr,W.heap[x]? =some (.cells (brC dg b nl nr) 243)/\b<8 * k.length/\Way n₀ k W (some (if bt k b=0 then nl else nr)) xs))
theorem Way.below {n₀:Nat} {k:Key} {A B:World} (h:Below n₀ A B):∀{q:Option Nat} {xs:List Nat},Way n₀ k A q xs->Way n₀ k B q xs
 | _,[],hl=>hl
 | _,x :: xs,⟨h1,h2,h3⟩=>⟨h1,h2,by
   rcases h3 with ⟨dg,k',o,hr,he⟩ | ⟨dg,b,nl,nr,hr,hb,hw⟩
   ·exact .inl ⟨dg,k',o,(h.block x h2).trans hr,he⟩
   ·exact .inr ⟨dg,b,nl,nr,(h.block x h2).trans hr,hb,Way.below h hw⟩⟩
theorem JdS {W:World} {x:Nat} {dg dg':BA} {k':Key} {o:Nat×Nat} {b nl nr:Nat} (h:W.heap[x]? =some (.cells (ZO dg k' o) 243)) (h':W.heap[x]? =some (.cells (brC dg' b nl nr) 243)):False:=by
 rw [h] at h'
 simp [ZO,brC] at h'
theorem Way.unique {n₀:Nat} {k:Key} {W:World}:∀{q:Option Nat} {xs ys:List Nat},Way n₀ k W q xs->Way n₀ k W q ys->xs=ys
 | _,[],[],_,_=>rfl
 | _,[],_ :: _,h,⟨h',_⟩=>by rw [h] at h';cases h'
 | _,_ :: _,[],⟨h',_⟩,h=>by rw [h] at h';cases h'
 | _,x :: xs,y :: ys,⟨h1,_,h3⟩,⟨k1,_,k3⟩=>by
  rw [h1] at k1
  cases k1
  rcases h3 with ⟨dg,k',o,hr,rfl⟩ | ⟨dg,b,nl,nr,hr,hb,hw⟩
  ·rcases k3 with ⟨_,_,_,_,rfl⟩ | ⟨_,_,_,_,hr',_⟩
   ·rfl
   ·exact (JdS hr hr').elim
  ·rcases k3 with ⟨_,_,_,hr',_⟩ | ⟨dg',b',nl',nr',hr',_,hw'⟩
   ·exact (JdS hr' hr).elim
   ·rw [hr] at hr'
    simp only [brC,Qh,Obj.cells.injEq,and_true] at hr'
    have e4:=congrArg (λa=>a[4]?) hr'
    have e5:=congrArg (λa=>a[5]?) hr'
    have e6:=congrArg (λa=>a[6]?) hr'
    simp at e4 e5 e6
    obtain rfl:b=b':=by omega
    subst e5 e6
    rw [Way.unique hw hw']
open Classical in
noncomputable def Jcd (n₀:Nat) (k:Key) (W:World) (v:Value):Nat:=
 if h:∃r:Option Nat×List Nat,v=Jl r.1/\Way n₀ k W r.1 r.2 then (Classical.choose h).2.length else 0
theorem JhY {q q':Option Nat} (h:Jl q=Jl q'):q=q':=by
 cases q <;> cases q' <;> simp [Jl] at h ⊢
 exact h
theorem JaI {n₀:Nat} {k:Key} {W:World} {q:Option Nat} {xs:List Nat} (h:Way n₀ k W q xs):Jcd n₀ k W (Jl q)=xs.length:=by
 have hex:∃r:Option Nat×List Nat,Jl q=Jl r.1/\Way n₀ k W r.1 r.2:=⟨(q,xs),rfl,h⟩
 unfold Jcd
 rw [dif_pos hex]
 obtain ⟨e,hl⟩:=Classical.choose_spec hex
 rw [<-JhY e] at hl
 rw [Way.unique hl h]
theorem Jf.way {d:List UInt8->BA} {F:Nat->Prop} {w:World} {n wj:Nat} {t:Tr} {k:Key} (hk:k.length=wj+1) (h:Jf d F w n t) (hok:TrOk wj t):∃xs m,Way w.heap.size k w (some n) xs/\xs.getLast? =some m/\Jf d F w m (.leaf (t.near k).1 (t.near k).2):=by
 induction h with
 | leaf n k' o hF hr=>exact ⟨[n],n,⟨rfl,(Jb hr),.inl ⟨_,_,_,hr,rfl⟩⟩,rfl,.leaf n k' o hF hr⟩
 | br n b nl nr l r hF hr hl hr' ihl ihr=>
  obtain ⟨hb,hokl,hokr⟩:=hok
  simp only [Tr.near]
  by_cases h0:bt k b=0
  ·obtain ⟨xs,m,h1,h2,h3⟩:=ihl hokl
   refine ⟨n :: xs,m,⟨rfl,(Jb hr),.inr ⟨_,b,nl,nr,hr,by omega,by rw [if_pos h0];exact h1⟩⟩,?_,by rw [if_pos h0];exact h3⟩
   cases xs with
   | nil=>cases h2
   | cons x xs=>rw [List.getLast?_cons_cons];exact h2
  ·obtain ⟨xs,m,h1,h2,h3⟩:=ihr hokr
   refine ⟨n :: xs,m,⟨rfl,(Jb hr),.inr ⟨_,b,nl,nr,hr,by omega,by rw [if_neg h0];exact h1⟩⟩,?_,by rw [if_neg h0];exact h3⟩
   cases xs with
   | nil=>cases h2
   | cons x xs=>rw [List.getLast?_cons_cons];exact h2
theorem Jkv (wj:Int) (rv:Option Addr) (kb:BA) (w:World):
  CallsIn Fence.wide 3 prog 223 #[.agg #[.int .i64 wj,.pointer rv],.string kb] w λe w'=>e=.returned (.func (.func 295) #[] #[.pointer (some ⟨w.heap.size,0,none⟩),.pointer (some ⟨w.heap.size+1,0,none⟩)])/\w'=(w.alloc (.cells #[.int .i64 wj,.pointer rv] 146)).alloc (.cells #[.string kb] 9):=by
 refine callsIn_wide.2 ?_
 have hmf:∀(fn:Fn) (first cap:Array Value) (w:World),(Instr.makeFunc fn first cap).run prog w=.ok (.func fn first cap) w:=λ_ _ _ _=>rfl
 go_enter func223,ntmps223
 go_wp2
 go_ret
 exact ⟨rfl,rfl⟩
def Jlk (n₀ Bk:Nat) (W W':World):Prop:=Below n₀ W W'/\∀v,W.cell? ⟨Bk,0,none⟩=some v->W'.cell? ⟨Bk,0,none⟩=some v
theorem JiM (n:Nat) (hn:2<=n) (l Bt Bk n₀:Nat) (k:Key) (hk1:1<=k.length) (hk2:k.length<=1000000) (q:Option Nat) (xs:List Nat) (J Jx:List Nat->World->Prop)
  (hJ:∀pre W m,J pre W->J pre (W.drewN m))
  (hY:∀pre x W,J pre W->xs[pre.length]? =some x->YieldAt Fence.wide (n - 1) prog l #[.pointer (some ⟨x,0,none⟩)] W λe W'=>
   (e=.returned (.bool true)/\J (pre++[x]) W'/\Jlk n₀ Bk W W')\/(e=.returned (.bool false)/\Jx (pre++[x]) W'))
  (W:World) (hBt:W.cell? ⟨Bt,1,none⟩=some (Jl q)) (hBk:W.cell? ⟨Bk,0,none⟩=some (.string ⟨k.toArray⟩)) (hL:Way n₀ k W q xs) (h0:J [] W):
  CallsIn Fence.wide n prog 295 #[.func (.yield l) #[] #[],.pointer (some ⟨Bt,0,none⟩),.pointer (some ⟨Bk,0,none⟩)] W λe W'=>(∃v,e=.returned v)/\
   ((∃ys,ys=xs/\J ys W')\/(∃pre,pre <+:xs/\Jx pre W')):=by
 refine callsIn_of_wp func295 rfl trivial ?_ rfl
 simp only [ntmps295,List.size_toArray,Qp,Qv,Nat.reduceAdd,Nat.reduceSub,Array.replicate_succ,Array.replicate_zero,List.push_toArray,List.append_toArray,List.nil_append,List.cons_append]
 gi_wp2
 gi_loopw [4] (λp wr=>∃(pre rest:List Nat) (q:Option Nat),p=Jl q/\xs=pre++rest/\Way n₀ k wr q rest/\wr.cell? ⟨Bk,0,none⟩=some (.string ⟨k.toArray⟩)/\J pre wr)
  (λp wr=>Jcd n₀ k wr p)
 case atStart=>
  exact ⟨[],xs,q,rfl,rfl,hL,hBk,h0⟩
 case round=>
  obtain ⟨pre,rest,q,rfl,hx,hl,hbk',hJs⟩:=hrel
  cases rest with
  | nil=>
   obtain rfl:q=none:=hl
   rw [show Jl none=.pointer none from rfl]
   gi_wp2
   refine ⟨λ_ h=>(by cases h),?_⟩
   gi_wp2
   exact bodyPost_end (v:=.tuple #[]) (results_none results295 _ _ _) rfl ⟨⟨_,rfl⟩,.inl ⟨pre,by simp [hx],hJs⟩⟩
  | cons x rest=>
   have hl':=hl
   obtain ⟨rfl,hlt,hr⟩:=hl
   obtain ⟨fn,tmps,assign,body,hy,hR⟩:=hY pre x wr hJs (by rw [hx];simp)
   rw [show Jl (some x)=.pointer (some ⟨x,0,none⟩) from rfl]
   gi_wp2
   refine ⟨λ_=>by omega,hR.mono ?_⟩
   clear hR hy hY
   rintro e W3 (⟨rfl,hJ3,hk3⟩ | ⟨rfl,hJx3⟩)
   ·have hb3:W3.cell? ⟨Bk,0,none⟩=some (.string ⟨k.toArray⟩):=hk3.2 _ hbk'
    have hw3:=Way.below hk3.1 hl'
    obtain ⟨_,_,hr3⟩:=hw3
    have hleft:Jcd n₀ k wr (Jl (some x))=rest.length+1:=JaI hl'
    have HL':Hid (_=_):=hleft
    clear hr hl' hleft
    generalize hKB:(⟨k.toArray⟩:BA)=kb at *
    have HKB:Hid (_=kb):=hKB
    clear hKB
    rcases hr3 with ⟨dg,k',o,hrow,rfl⟩ | ⟨dg,b,nl,nr,hrow,hb8,hw⟩
    ·have ht:=JfC x dg k' o k hk1 hk2 W3 hrow
     rw [HKB.o] at ht
     gi_wp2
     refine ⟨trivial,λ_=>by omega,(callsIn_wide.2 ht).mono ?_⟩
     rintro _ _ ⟨rfl,m,rfl⟩
     gi_wp2
     go_roundw
     case rel=>exact ⟨pre++[x],[],none,rfl,by simp [hx],rfl,by rw [HKB.o];exact hb3,hJ _ _ m hJ3⟩
     case measure=>
      rw [show Value.pointer none=Jl none from rfl,JaI (xs:=[]) (show Way n₀ k _ none [] from rfl),show Value.pointer (some ⟨x,0,none⟩)=Jl (some x) from rfl,HL'.out]
      simp
    ·have ht:=Jid x dg b nl nr k hb8 hk2 W3 hrow
     rw [HKB.o] at ht
     gi_wp2
     refine ⟨trivial,λ_=>by omega,(callsIn_wide.2 ht).mono ?_⟩
     rintro _ _ ⟨rfl,m,rfl⟩
     have hwm:Way n₀ k (W3.drewN m) (some (if bt k b=0 then nl else nr)) rest:=Way.below (A:=W3) (B:=W3.drewN m) ⟨rfl,rfl,rfl,Ql _,λ_ _=>rfl⟩ hw
     generalize (if bt k b=0 then nl else nr)=nx at *
     gi_wp2
     go_roundw
     case rel=>exact ⟨pre++[x],rest,some nx,rfl,by simp [hx],hwm,by rw [HKB.o];exact hb3,hJ _ _ m hJ3⟩
     case measure=>
      rw [show Value.pointer (some ⟨nx,0,none⟩)=Jl (some nx) from rfl,JaI hwm,show Value.pointer (some ⟨x,0,none⟩)=Jl (some x) from rfl,HL'.out]
      omega
   ·gi_wp2
    refine bodyPost_end (v:=.tuple #[]) (results_none results295 _ _ _) rfl ?_
    exact ⟨⟨_,rfl⟩,.inr ⟨pre++[x],⟨rest,by simp [hx]⟩,hJx3⟩⟩
theorem JeV (n:Nat) (hn:2<=n) (Bt Bk n₀:Nat) (k:Key) (hk1:1<=k.length) (hk2:k.length<=1000000) (q:Option Nat) (xs:List Nat) (w:World) (hBt:Bt<w.heap.size) (hBk:Bk<w.heap.size) (hn₀:n₀<=w.heap.size) (c1:w.cell? ⟨Bt,1,none⟩=some (Jl q)) (c2:w.cell? ⟨Bk,0,none⟩=some (.string ⟨k.toArray⟩)) (hL:Way n₀ k w q xs):
  SeqStopsK Fence.wide n prog 295 #[.pointer (some ⟨Bt,0,none⟩),.pointer (some ⟨Bk,0,none⟩)] (λx:Nat=> #[Value.pointer (some ⟨x,0,none⟩)]) (Jlk n₀ Bk) (λys=>ys=xs) (λpre=>pre <+:xs) xs.length w:=λl J Jx W hW hJ _ hY h0=>
 JiM n hn l Bt Bk n₀ k hk1 hk2 q xs J Jx (λpre W' m h=>hJ pre W' (W'.drewN m) none h ⟨rfl,rfl,rfl,Ql _,λ_ _ _=>rfl⟩ (λr e=>by cases e)) (λpre x W hJ hx=>hY pre x W hJ (Qo.1 hx).1) W ((hW.cell (p:=⟨Bt,1,none⟩) hBt).trans c1) ((hW.cell (p:=⟨Bk,0,none⟩) hBk).trans c2) (Way.below (hW.mono hn₀) hL) h0
theorem Jcw (wj:Int) (q:Option Nat) (k:Key) (hk1:1<=k.length) (hk2:k.length<=1000000) (xs:List Nat) (w:World) (hL:Way w.heap.size k w q xs):
  CallsIn Fence.wide 4 prog 269 #[.agg #[.int .i64 wj,Jl q],.string ⟨k.toArray⟩] w λe W'=>e=.returned (Jl xs.getLast?)/\Below w.heap.size w W':=by
 have h1:1<=4:=by omega
 have hro:Fence.wide.round=none:=rfl
 have HL:Hid _:=hL
 clear hL
 obtain ⟨rv,hrv⟩:∃rv,rv=(q.map λn=>(⟨n,0,none⟩:Addr)):=⟨_,rfl⟩
 have HRV:Hid (Jl q=.pointer rv):=by rw [hrv];rfl
 rw [HRV.o]
 clear hrv
 refine callsIn_of_wp_marks func269 rfl trivial ?_ hro
 simp only [ntmps269,List.size_toArray,Qp,Qv,Nat.reduceAdd,Nat.reduceSub,Array.replicate_succ,Array.replicate_zero,List.push_toArray,List.append_toArray,List.nil_append,List.cons_append]
 gi_wp2
 refine ⟨trivial,(Jkv _ _ _ _).mono ?_⟩
 rintro _ _ ⟨rfl,rfl⟩
 gi_wp2
 obtain ⟨WD,hWD⟩:∃WD,WD=(((w.alloc (.cells #[.int .i64 wj,.pointer rv] 146)).alloc (.cells #[.pointer none] 144)).alloc (.cells #[.int .i64 wj,.pointer rv] 146)).alloc (.cells #[.string ⟨k.toArray⟩] 9):=⟨_,rfl⟩
 rw [<-hWD]
 have hB0:Below w.heap.size w WD:=by rw [hWD];exact ((((Below.refl _ w).alloc (Ql _) _).alloc (by simp) _).alloc (by simp;omega) _).alloc (by simp;omega) _
 have hz:WD.heap.size=w.heap.size+4:=by rw [hWD];simp
 have r1:WD.heap[w.heap.size+1]? =some (.cells #[.pointer none] 144):=by rw [hWD];exact (Below.heap_alloc _ _ _ (by simp)).trans (JI _ _ _ _)
 have r2:WD.heap[w.heap.size+2]? =some (.cells #[.int .i64 wj,.pointer rv] 146):=by rw [hWD];exact (Below.heap_alloc _ _ _ (by simp)).trans (JK _ _ _ _)
 have r3:WD.heap[w.heap.size+3]? =some (.cells #[.string ⟨k.toArray⟩] 9):=by
  rw [hWD]
  have:=Qf (((w.alloc (.cells #[.int .i64 wj,.pointer rv] 146)).alloc (.cells #[.pointer none] 144)).alloc (.cells #[.int .i64 wj,.pointer rv] 146)) (.cells #[.string ⟨k.toArray⟩] 9)
  simpa using this
 have hs1:WD.cell? ⟨w.heap.size+1,0,none⟩=some (.pointer none):=Ja r1
 have hs2:WD.frozen? ⟨w.heap.size+1,0,none⟩=false:=Qg _ _ _ _ _ r1
 refine wpIn_rangeFunc_ownF hro h1 (gf:=295) (lb:= #[.pointer (some ⟨w.heap.size+1+1,0,none⟩),.pointer (some ⟨w.heap.size+1+1+1,0,none⟩)]) rfl trivial (enters_of func295 (by kernel_rfl) rfl)
  (JeV 3 (by omega) (w.heap.size+1+1) (w.heap.size+1+1+1) w.heap.size k hk1 hk2 q xs WD (by omega) (by omega) (by omega) (by rw [HRV.o];exact Ja r2) (Ja r3) (Way.below hB0 HL.o)) (λh k=>⟨h.1.trans k.1,λv hv=>k.2 v (h.2 v hv)⟩)
  (λW l o o' hl ho hc hw'=>⟨belowK_b (w:=w) (Ql _) W l o o' (by omega) ho hc hw',λv hv=>cell_kept hv (grownBy_putObj' _ l o') (λr e=>by cases e;exact ⟨o,ho,hc⟩)⟩) (Below.refl _ _) (λ_=>rfl)
  (λpre W=>(W.cell? ⟨w.heap.size+1,0,none⟩=some (Jl pre.getLast?)/\W.frozen? ⟨w.heap.size+1,0,none⟩=false)/\Below w.heap.size w W)
  (λ_ _ _=>False)
  (OwnFrom.and (Own.from (λs A B row hs hg hr=>⟨cell_kept hs.1 hg hr,(frozen_kept hs.1 hg hr).trans hs.2⟩) _) (ownFrom_below (Ql _) (by omega)))
  (λ_ _ _ _ _ hs _ _=>hs)
  ⟨⟨hs1,hs2⟩,hB0⟩
  (λx=>{ tmps:= #[.agg #[.int .i64 wj,.pointer rv],.string ⟨k.toArray⟩,.pointer (some ⟨w.heap.size,0,none⟩),undef,.pointer none,.pointer (some ⟨w.heap.size+1,0,none⟩),.pointer (some ⟨x,0,none⟩),.agg #[.int .i64 wj,.pointer rv],.string ⟨k.toArray⟩,.func (.func 295) #[] #[.pointer (some ⟨w.heap.size+1+1,0,none⟩),.pointer (some ⟨w.heap.size+1+1+1,0,none⟩)],.pointer (some ⟨x,0,none⟩),undef,undef],defers:=[] }) ?assign ?body ?done ?stop
 case assign=>
  intro l x W K hK
  gi_wp2
  exact hK
 case body=>
  rintro l pre x W ⟨⟨hc,hf⟩,hB⟩ _
  gi_wp2
  refine ⟨KeepsOthers.setCell _ _ _,⟨(Below.refl w.heap.size W).setCell (p:=⟨w.heap.size+1,0,none⟩) (by simp) _,λv hv=>?_⟩,⟨?_,by rw [World.frozen?_setCell];exact hf⟩,hB.setCell (p:=⟨w.heap.size+1,0,none⟩) (by simp) _⟩
  ·rw [World.cell?_setCell_other _ _ _ _ (by simp)];exact hv
  ·rw [List.getLast?_concat]
   exact World.cell?_setCell_same' _ _ _ (by rw [hc];rfl)
 case done=>
  rintro D ys W hD rfl ⟨⟨hc,_⟩,hB⟩ hK
  gi_wp2
  refine ⟨by simp,.inl ⟨_,_,rfl,run_takeDeferred hK,?_⟩⟩
  exact ⟨_,results_tmp rfl _ _ _,rfl,hB.trans (belowK_b (w:=w) (Ql _) W D _ _ (by omega) hK rfl rfl)⟩
 case stop=>
  rintro D c pre W _ _ h _
  exact h.elim
theorem JaY (wj:Int) (k:Key) (hk1:1<=k.length) (hk2:k.length<=1000000) (w:World):
  Calls prog 269 #[.agg #[.int .i64 wj,.pointer none],.string ⟨k.toArray⟩] w λe w'=>e=.returned (.pointer none)/\Tch NoB w w':=
 (callsIn_wide.1 (Jcw wj none k hk1 hk2 [] w rfl)).mono λ_ _ h=>⟨h.1,(Tch.of_below h.2).mono (λ_ hj=>.inr hj)⟩
theorem JaZ (wj:Nat) (hw:wj<=1000) (d:List UInt8->BA) (F:Nat->Prop) (n:Nat) (t:Tr) (k:Key) (hk:k.length=wj+1) (w:World) (h:Jf d F w n t) (hok:TrOk wj t):
  Calls prog 269 #[.agg #[.int .i64 (wj:Int),.pointer (some ⟨n,0,none⟩)],.string ⟨k.toArray⟩] w λe w'=>∃m,e=.returned (.pointer (some ⟨m,0,none⟩))/\Jf d F w' m (.leaf (t.near k).1 (t.near k).2)/\Tch NoB w w':=by
 obtain ⟨xs,m,h1,h2,h3⟩:=h.way hk hok
 refine (callsIn_wide.1 (Jcw (wj:Int) (some n) k (by omega) (by omega) xs w h1)).mono ?_
 rintro e w' ⟨rfl,hB⟩
 have hT:Tch NoB w w':=(Tch.of_below hB).mono (λ_ hj=>.inr hj)
 exact ⟨m,by rw [h2];rfl,h3.next hT,hT⟩
open Go.RowKit

abbrev JE (wj:Nat) (q:Option Nat):Value:=.agg #[.int .i64 (wj:Int),Jl q]
theorem JdC (E:Nat->Addr) (wj:Nat) (hw:wj<=32) (c:BA×Int) (hc:Jo wj c) (w:World) (hE:Env E w):
  Calls prog 145 #[.int .i64 (wj:Int),.agg #[.string c.1,.int .i64 c.2]] w λe w'=>e=.returned (.tuple #[.string ⟨(Jd c).toArray⟩,.nilIface])/\Tch NoB w w':=by
 refine (Jf0 E wj (by omega) c w hE).mono ?_
 rintro e w' ⟨h1,h2⟩
 have:=(JbW wj c c (.wr []) _ ((Jg2 wj c c hc).wr [])).1
 rw [this] at h2
 exact ⟨h2,h1⟩
theorem Jdt {wj:Nat} {c:BA×Int} (hc:Jo wj c) {o:Nat×Nat} (ho:JC o):TrOk wj (.leaf (Jd c) o):=by
 obtain ⟨h1,h2,h3⟩:=hc
 have hl:c.1.data.toList.length=wj:=by simpa using h1
 refine ⟨by simp [Jd,Je];exact h1,?_,ho⟩
 have hx:=Yy c.2 h2 (by omega)
 have e:(Jd c).getD wj 0=UInt8.ofNat (Jw c.2):=by
  unfold Jd
  rw [Qn,Qz (by omega),hl,Nat.sub_self]
  simp [beL]
 rw [e,UInt8.toNat_ofNat']
 omega
theorem YW (E:Nat->Addr) (wj:Nat) (hw1:1<=wj) (hw:wj<=32) (F:Nat->Prop) (q:Option Nat) (st:Option Tr) (w:World) (hE:Env E w) (h:StAt (dgW wj) F w q st):
  Calls prog 83 #[JE wj q] w λe w'=>e=.returned (.string (JV (dgW wj) st))/\Tch NoB w w':=by
 cases st with
 | none=>
  obtain rfl:=h.of_none
  have HO:Hid (∀W,Tch NoB w W->Calls prog 130 _ W _):=λW hT=>Jby E wj ⟨#[69]⟩ W (hE.tch hT noE) hw1 hw (by decide)
  clear hE h
  show Calls _ _ #[.agg #[_,.pointer none]] _ _
  go_enter func83,ntmps83
  go_wp2_with fail
  refine (HO.o _ (Ta _ _ _)).mono ?_
  rintro _ w1 ⟨rfl,ht⟩
  have HT:Hid (Tch NoB w w1):=(Ta NoB w _).trans ht noE
  clear ht HO
  go_wp2
  go_ret
  exact ⟨rfl,HT.o⟩
 | some t=>
  obtain ⟨n,rfl,hn⟩:=h.of_some
  have c0:=hn.digCell
  have hlt:=hn.own.2
  clear hE h hn
  show Calls _ _ #[.agg #[_,.pointer (some ⟨n,0,none⟩)]] _ _
  go_enter func83,ntmps83
  go_wp2
  go_ret
  exact ⟨rfl,Ta _ _ _⟩
theorem Jg {P:Program} {fn:Func} {p t:Tmp} {ty:TypeId} (h:fn.results= #[.cell p ty,.tmp t]) (tmps:Array Value) (w:World) (g:Nat) (T:TypeId) (cs:Array Value) (fr:Nat×Nat) (d:TypeDesc)
  (hp:tmps.getD p undef=.pointer (some ⟨g,0,none⟩)) (hg:w.heap[g]? =some (.cells cs T fr))
  (hu:P.underlying ty=some d) (hd:(match d with | .struct _ | .array _ _=>true | _=>false)=true) (hi:(P.info? ty).map (·.size)=some cs.size):
  (results fn tmps).run P w=.ok (.tuple #[.agg cs,tmps.getD t undef]) w:=by
 have hp':tmps[p]?.getD undef=.pointer (some ⟨g,0,none⟩):=by simpa using hp
 simp [results,h,hp',asAddr,run_loadVar_row w g T ty cs fr d hg hu hd hi]
structure JaN (w W:World) (wj:Nat) (q:Option Nat) (c:BA×Int) (o:Nat×Nat):Prop where
 t:W.heap[w.heap.size]? =some (.cells #[.int .i64 (wj:Int),Jl q] 146)
 c:W.heap[w.heap.size+1]? =some (.cells #[.string c.1,.int .i64 c.2] 49)
 o:W.heap[w.heap.size+2]? =some (.cells #[.int .u64 (o.1:Int),.int .u8 (o.2:Int)] 80)
 r:W.heap[w.heap.size+3]? =some (.cells #[.int .i64 0,.pointer none] 146)
theorem JaN.next {w W W':World} {wj:Nat} {q:Option Nat} {c:BA×Int} {o:Nat×Nat} (h:JaN w W wj q c o) (k:Tch NoB W W'):JaN w W' wj q c o:=
 ⟨(k.block _ (Jb h.t) (λh=>h)).trans h.t,(k.block _ (Jb h.c) (λh=>h)).trans h.c,(k.block _ (Jb h.o) (λh=>h)).trans h.o,(k.block _ (Jb h.r) (λh=>h)).trans h.r⟩
theorem Jaq (w:World) (o0 o1 o2 o3:Obj):((((w.alloc o0).alloc o1).alloc o2).alloc o3).heap[w.heap.size+3]? =some o3:=by
 have:=Qf (((w.alloc o0).alloc o1).alloc o2) o3
 simpa using this
theorem Xg (w:World) (o0 o1 o2 o3:Obj) (k:Nat) (h:k<w.heap.size+3):((((w.alloc o0).alloc o1).alloc o2).alloc o3).heap[k]? =(((w.alloc o0).alloc o1).alloc o2).heap[k]? :=Below.heap_alloc _ _ _ (by simp;omega)
theorem JfF (w:World) (wj:Nat) (q:Option Nat) (c:BA×Int) (o:Nat×Nat):JaN w ((((w.alloc (.cells #[.int .i64 (wj:Int),Jl q] 146)).alloc (.cells #[.string c.1,.int .i64 c.2] 49)).alloc (.cells #[.int .u64 (o.1:Int),.int .u8 (o.2:Int)] 80)).alloc (.cells #[.int .i64 0,.pointer none] 146)) wj q c o:=
 ⟨(Xg _ _ _ _ _ _ (by omega)).trans (JO _ _ _ _),(Xg _ _ _ _ _ _ (by omega)).trans (JI _ _ _ _),(Xg _ _ _ _ _ _ (by omega)).trans (JK _ _ _ _),Jaq _ _ _ _ _⟩
theorem Jf.tchT {d:List UInt8->BA} {F:Nat->Prop} {w w':World} {n:Nat} {t:Tr} {S:Nat->Prop} (h:Jf d F w n t) (k:Tch S w w') (hs:∀j cs,S j->w.heap[j]? ≠ some (.cells cs 243)):Jf d F w' n t:=by
 induction h with
 | leaf n key o hF hr=>exact .leaf n key o hF ((k.block n (Jb hr) (λe=>hs n _ e hr)).trans hr)
 | br n b nl nr l r hF hr _ _ ihl ihr=>exact .br n b nl nr l r hF ((k.block n (Jb hr) (λe=>hs n _ e hr)).trans hr) ihl ihr
theorem StAt.row {d:List UInt8->BA} {F:Nat->Prop} {w:World} {q:Option Nat} {st:Option Tr} {g:Nat} {cur cs:Array Value} {T:TypeId} (h:StAt d F w q st) (hr:w.heap[g]? =some (.cells cur T)) (hT:T ≠ 243):StAt d F (w.setRow g cs) q st:=by
 have hs:∀j c,j=g->w.heap[j]? ≠ some (.cells c 243):=λj c e e'=>by
  subst e
  rw [hr] at e'
  simp at e'
  exact hT e'.2
 cases q <;> cases st <;> first | exact h | exact Jf.tchT h (Ts w g cs) hs
def Jit (E:Nat->Addr) (wj:Nat) (F:Nat->Prop) (r:Except Er (Option Tr)) (e:Ending) (w':World):Prop:=match r with
 | .ok st'=>∃q',e=.returned (.tuple #[JE wj q',.nilIface])/\StAt (dgW wj) F w' q' st'
 | .error _=>e=.returned (.tuple #[.agg #[.int .i64 0,.pointer none],eV E 2])
theorem TrOk.near {wj:Nat} {t:Tr} {k:Key} (h:TrOk wj t):(t.near k).1.length=wj+1:=by
 induction t with
 | leaf k' o=>exact h.1
 | br b l r ihl ihr=>
  simp only [Tr.near]
  split
  ·exact ihl h.2.1
  ·exact ihr h.2.2
theorem Jkc (E:Nat->Addr) (wj:Nat) (hw1:1<=wj) (hw:wj<=32) (F:Nat->Prop) (q:Option Nat) (st:Option Tr) (c:BA×Int) (hc:Jo wj c) (o:Nat×Nat) (ho:JC o) (w:World) (hE:Env E w) (hF:∀j,w.heap.size<=j->F j) (hs:StAt (dgW wj) F w q st) (hok:StOk wj st):
  Calls prog 191 #[JE wj q,.agg #[.string c.1,.int .i64 c.2],.agg #[.int .u64 (o.1:Int),.int .u8 (o.2:Int)]] w λe w'=>Tch NoB w w'/\Jit E wj F (YB st (Jd c) o) e w':=by
 have hkl:(Jd c).length=wj+1:=JY hc
 have HL:Hid (TrOk wj (.leaf (Jd c) o)):=Jdt hc ho
 have HKO:Hid (∀W,Tch NoB w W->Calls prog 145 #[.int .i64 (wj:Int),.agg #[.string c.1,.int .i64 c.2]] W λe w'=>e=.returned (.tuple #[.string ⟨(Jd c).toArray⟩,.nilIface])/\Tch NoB W w'):=λW hT=>JdC E wj hw c hc W (hE.tch hT noE)
 have HNL:Hid (∀W,Tch NoB w W->Calls prog 268 #[.int .i64 (wj:Int),.string ⟨(Jd c).toArray⟩,.agg #[.int .u64 (o.1:Int),.int .u8 (o.2:Int)]] W λe w'=>∃n,e=.returned (.tuple #[.pointer (some ⟨n,0,none⟩),.nilIface])/\Jf (dgW wj) F w' n (.leaf (Jd c) o)/\Tch NoB W w'):=λW hT=>(Jff E wj hw1 hw (Jd c) o HL.o W (hE.tch hT noE)).mono λe w' ⟨n,h1,h2,h3,h4⟩=>⟨n,h1,.leaf n _ _ (hF n (Qm hT.size h2)) h3,h4⟩
 have HS:Hid (StAt (dgW wj) F w q st):=hs
 have HE:Hid (Env E w):=hE
 have HF:Hid _:=hF
 have HOK:Hid _:=hok
 have HBX:=JfF w wj q c o
 obtain ⟨rv,hrv⟩:∃rv,rv=(q.map λn=>(⟨n,0,none⟩:Addr)):=⟨_,rfl⟩
 have hrq:Jl q=.pointer rv:=by rw [hrv]
 clear hs hE hF hok ho hc
 obtain ⟨cs,cn⟩:=c
 obtain ⟨oa,oo⟩:=o
 dsimp only at HKO HNL HBX ⊢
 show Calls _ _ #[.agg #[_,Jl q],_,_] _ _
 rw [hrq]
 have HRQ:Hid _:=hrq
 clear hrq hrv
 have hA0:Tch NoB w ((((w.alloc (.cells #[.int .i64 (wj:Int),.pointer rv] 146)).alloc (.cells #[.string cs,.int .i64 cn] 49)).alloc (.cells #[.int .u64 (oa:Int),.int .u8 (oo:Int)] 80)).alloc (.cells #[.int .i64 0,.pointer none] 146)):=(Tch.allocs3 NoB w _ _ _).trans (Ta _ _ _) (λ_ h=>.inl h)
 have HA0:Hid _:=hA0
 have HB0:Hid (JaN w ((((w.alloc (.cells #[.int .i64 (wj:Int),.pointer rv] 146)).alloc (.cells #[.string cs,.int .i64 cn] 49)).alloc (.cells #[.int .u64 (oa:Int),.int .u8 (oo:Int)] 80)).alloc (.cells #[.int .i64 0,.pointer none] 146)) wj q (cs,cn) (oa,oo)):=by rw [<-HRQ.o];exact HBX
 clear HBX hA0
 go_enter func191,ntmps191
 go_wp2_with fail
 refine (HKO.o _ HA0.o).mono ?_
 rintro _ w1 ⟨rfl,ht1⟩
 have HT1:Hid (Tch NoB w w1):=HA0.o.trans ht1 noE
 have b1:=HB0.o.next ht1
 have HB1:Hid _:=b1
 have a0:w1.cell? ⟨w.heap.size,0,none⟩=some (.int .i64 (wj:Int)):=Ja b1.t
 have a1:w1.cell? ⟨w.heap.size+1+1,0,none⟩=some (.int .u64 (oa:Int)):=Ja b1.o
 have a2:w1.cell? ⟨w.heap.size+1+1,1,none⟩=some (.int .u8 (oo:Int)):=Ja b1.o
 generalize hKB:(⟨(Jd (cs,cn)).toArray⟩:BA)=kb at *
 have HKB:Hid (_=kb):=hKB
 clear hKB ht1 b1 HKO HB0 HA0
 go_wp2_with fail
 refine (HNL.o _ HT1.o).mono ?_
 rintro _ w2 ⟨ln,rfl,hln,ht2⟩
 have HT2:Hid (Tch NoB w w2):=HT1.o.trans ht2 noE
 have b2:=HB1.o.next ht2
 have HB2:Hid _:=b2
 have d0:w2.cell? ⟨w.heap.size,0,none⟩=some (.int .i64 (wj:Int)):=Ja b2.t
 have d1:w2.cell? ⟨w.heap.size,1,none⟩=some (.pointer rv):=by rw [<-HRQ.o];exact Ja b2.t
 have HLN:Hid _:=hln
 clear ht2 b2 HNL HB1 HT1 hln a0 a1 a2
 cases st with
 | none=>
  obtain rfl:=HS.o.of_none
  obtain rfl:rv=none:=by have:=HRQ.o;simpa [Jl] using this.symm
  have HN:Hid (Calls prog 269 #[.agg #[.int .i64 (wj:Int),.pointer none],.string kb] w2 λe w'=>e=.returned (.pointer none)/\Tch NoB w2 w'):=by
   have:=JaY (wj:Int) (Jd (cs,cn)) (by omega) (by omega) w2
   rw [HKB.o] at this
   exact this
  go_wp2_with fail
  refine HN.o.mono ?_
  rintro _ w3 ⟨rfl,ht3⟩
  have b3:=HB2.o.next ht3
  have e0:w3.cell? ⟨w.heap.size,0,none⟩=some (.int .i64 (wj:Int)):=Ja b3.t
  have r0:w3.cell? ⟨w.heap.size+1+1+1,0,none⟩=some (.int .i64 0):=Ja b3.r
  have r1:w3.cell? ⟨w.heap.size+1+1+1,1,none⟩=some (.pointer none):=Ja b3.r
  have fR:∀j,w3.frozen? ⟨w.heap.size+1+1+1,j,none⟩=false:=λj=>Qg _ _ _ _ _ b3.r
  have RR:Hid (_=_):=b3.r
  have HT3:Hid (Tch NoB w w3):=HT2.o.trans ht3 noE
  have HLN3:Hid (Jf (dgW wj) F w3 ln _):=HLN.o.next ht3
  clear ht3 b3 HN d0 d1
  go_wp2
  rw [set2 _ _ _ _ _ _ _ RR.out]
  refine QK (v:=.tuple #[.agg #[.int .i64 (wj:Int),.pointer (some ⟨ln,0,none⟩)],.nilIface]) (Jg results191 _ _ (w.heap.size+1+1+1) _ _ (0,0) _ rfl (Qi _ _ _ _ _ _ RR.out) underlying146 rfl (by kernel_rfl)) rfl ⟨?_,some ln,rfl,?_⟩
  ·exact HT3.o.trans (Ts _ _ _) (λj hj=>.inr (by omega))
  ·exact StAt.row (q:=some ln) (st:=some _) HLN3.o RR.out (by decide)
 | some t=>
  obtain ⟨n,rfl,hn⟩:=HS.o.of_some
  obtain rfl:rv=some ⟨n,0,none⟩:=by have:=HRQ.o;simpa [Jl] using this.symm
  have HTO:Hid (TrOk wj t):=HOK.o
  have HNT:Hid (Jf (dgW wj) F w2 n t):=hn.next HT2.o
  have HN:Hid (Calls prog 269 #[.agg #[.int .i64 (wj:Int),.pointer (some ⟨n,0,none⟩)],.string kb] w2 λe w'=>∃m,e=.returned (.pointer (some ⟨m,0,none⟩))/\Jf (dgW wj) F w' m (.leaf (t.near (Jd (cs,cn))).1 (t.near (Jd (cs,cn))).2)/\Tch NoB w2 w'):=by
   have:=JaZ wj (by omega) (dgW wj) F n t (Jd (cs,cn)) hkl w2 HNT.o HTO.o
   rw [HKB.o] at this
   exact this
  clear hn
  go_wp2_with fail
  refine HN.o.mono ?_
  rintro _ w3 ⟨m,rfl,hm,ht3⟩
  have b3:=HB2.o.next ht3
  have e0:w3.cell? ⟨w.heap.size,0,none⟩=some (.int .i64 (wj:Int)):=Ja b3.t
  have e1:w3.cell? ⟨w.heap.size,1,none⟩=some (.pointer (some ⟨n,0,none⟩)):=Ja b3.t
  have r0:w3.cell? ⟨w.heap.size+1+1+1,0,none⟩=some (.int .i64 0):=Ja b3.r
  have r1:w3.cell? ⟨w.heap.size+1+1+1,1,none⟩=some (.pointer none):=Ja b3.r
  have fR:∀j,w3.frozen? ⟨w.heap.size+1+1+1,j,none⟩=false:=λj=>Qg _ _ _ _ _ b3.r
  have hmk:w3.cell? ⟨m,1,none⟩=some (.string ⟨(t.near (Jd (cs,cn))).1.toArray⟩):=by cases hm with | leaf _ _ _ _ hr=>exact Ja hr
  have hmlt:=hm.own.2
  have hnk:=HTO.o.near (k:=Jd (cs,cn))
  have HT3:Hid (Tch NoB w w3):=HT2.o.trans ht3 noE
  have HLN3:Hid (Jf (dgW wj) F w3 ln _):=HLN.o.next ht3
  have HNT3:Hid (Jf (dgW wj) F w3 n t):=HNT.o.next ht3
  have HB3:Hid _:=b3
  have hex:=(HE.o.tch HT3.o noE).exist
  clear ht3 b3 HN d0 d1 hm HNT HLN HB2
  generalize hNB:(⟨(t.near (Jd (cs,cn))).1.toArray⟩:BA)=nb at *
  have HNB:Hid (_=nb):=hNB
  clear hNB
  by_cases heq:(t.near (Jd (cs,cn))).1=Jd (cs,cn)
  ·have hkk:nb=kb:=by rw [<-HNB.o,heq];exact HKB.o
   have HWE:Hid (YB (some t) (Jd (cs,cn)) (oa,oo)=.error .exist):=if_pos heq
   subst hkk
   clear heq hnk
   go_wp2
   go_region
   all_goals
    go_wp2
    rw [set2 _ _ _ _ _ _ _ HB3.o.r]
    refine QK (v:=.tuple #[.agg #[.int .i64 0,.pointer none],eV E 2]) (Jg results191 _ _ (w.heap.size+1+1+1) _ _ (0,0) _ rfl (Qi _ _ _ _ _ _ HB3.o.r) underlying146 rfl (by kernel_rfl)) rfl ⟨?_,?_⟩
    ·exact (HT3.o.trans (Td NoB w3 1) noE).trans (Ts _ _ _) (λj hj=>.inr (by omega))
    ·rw [HWE.o];rfl
  ·have hnl:nb.data.toList=(t.near (Jd (cs,cn))).1:=by rw [<-HNB.o]
   have hkl2:kb.data.toList=Jd (cs,cn):=by rw [<-HKB.o]
   have hne:(nb.toList == kb.toList)=false:=by
    rw [ByteArray.toList_eq,ByteArray.toList_eq,hnl,hkl2]
    simpa using heq
   have HWO:Hid (YB (some t) (Jd (cs,cn)) (oa,oo)=.ok (some (t.graft (Jd (cs,cn)) (oa,oo) (fd (t.near (Jd (cs,cn))).1 (Jd (cs,cn)))))):=if_neg heq
   have hfd:=JgM (t.near (Jd (cs,cn))).1 (Jd (cs,cn)) (by omega) heq
   have HFD:Hid (∀W,Calls prog 271 #[.string nb,.string kb] W λe w'=>e=.returned (.int .i64 (fd (t.near (Jd (cs,cn))).1 (Jd (cs,cn)):Int))/\∃n,w'=W.drewN n):=λW=>by
    have:=Jhu (t.near (Jd (cs,cn))).1 (Jd (cs,cn)) (by omega) heq (by omega) W
    rw [HNB.o,HKB.o] at this
    exact this
   have HGR:Hid (∀W,Tch NoB w3 W->Calls prog 270 #[.agg #[.int .i64 (wj:Int),.pointer (some ⟨n,0,none⟩)],.pointer (some ⟨n,0,none⟩),.pointer (some ⟨ln,0,none⟩),.int .i64 (fd (t.near (Jd (cs,cn))).1 (Jd (cs,cn)):Int)] W λe w'=>∃m,e=.returned (.tuple #[.pointer (some ⟨m,0,none⟩),.nilIface])/\Jf (dgW wj) F w' m (t.graft (Jd (cs,cn)) (oa,oo) (fd (t.near (Jd (cs,cn))).1 (Jd (cs,cn))))/\Tch NoB W w'):=λW hT=>
    Jhx E wj hw1 hw F _ _ _ HL.o _ (by have:=hfd.1;omega) ln t n W HTO.o (HE.o.tch (HT3.o.trans hT noE) noE) (λj hj=>HF.o j (Qm (HT3.o.trans hT noE).size hj)) (HNT3.o.next hT) (HLN3.o.next hT)
   clear hnl hkl2 heq hnk hfd HL
   generalize fd (t.near (Jd (cs,cn))).1 (Jd (cs,cn))=dd at *
   have hz3:=(Jb HB3.o.r)
   go_wp2_with fail
   go_region_held3 (λW=>W.cell? ⟨w.heap.size,0,none⟩=some (.int .i64 (wj:Int))/\W.cell? ⟨w.heap.size,1,none⟩=some (.pointer (some ⟨n,0,none⟩))/\W.cell? ⟨m,1,none⟩=some (.string nb)) (go_keep) ((first | (go_at_call 271;refine (HFD.o _).mono ?_;rintro _ _ ⟨rfl,m5,rfl⟩) | (go_at_call 270;refine (HGR.o _ (Td NoB w3 _)).mono ?_;rintro _ w4 ⟨g4,rfl,hg4,ht4⟩;have hT4:Tch NoB w3 w4:=(Td NoB w3 _).trans ht4 noE;have f0:=(hT4.cell (p:=⟨w.heap.size,0,none⟩) (by show w.heap.size<_;omega) (λh=>h)).trans e0;have f1:=(hT4.cell (p:=⟨w.heap.size,1,none⟩) (by show w.heap.size<_;omega) (λh=>h)).trans e1;have f2:=(hT4.cell (p:=⟨m,1,none⟩) hmlt (λh=>h)).trans hmk;have HG4:Hid _:=hg4;have HT4:Hid _:=hT4;clear hg4 ht4 hT4)))
   all_goals
    have b4:=HB3.o.next HT4.o
    have s0:w4.cell? ⟨w.heap.size+1+1+1,0,none⟩=some (.int .i64 0):=Ja b4.r
    have s1:w4.cell? ⟨w.heap.size+1+1+1,1,none⟩=some (.pointer none):=Ja b4.r
    have fS:∀j,w4.frozen? ⟨w.heap.size+1+1+1,j,none⟩=false:=λj=>Qg _ _ _ _ _ b4.r
    have RR:Hid (_=_):=b4.r
    clear b4 HFD HGR
    go_wp2
    rw [set2 _ _ _ _ _ _ _ RR.out]
    refine QK (v:=.tuple #[.agg #[.int .i64 (wj:Int),.pointer (some ⟨g4,0,none⟩)],.nilIface]) (Jg results191 _ _ (w.heap.size+1+1+1) _ _ (0,0) _ rfl (Qi _ _ _ _ _ _ RR.out) underlying146 rfl (by kernel_rfl)) rfl ⟨?_,?_⟩
    ·exact (HT3.o.trans HT4.o noE).trans (Ts _ _ _) (λj hj=>.inr (by omega))
    ·rw [HWO.o]
     exact ⟨some g4,rfl,StAt.row (q:=some g4) (st:=some _) HG4.o RR.out (by decide)⟩

theorem Yi {P:Program} {fn:Func} {p p2 t:Tmp} {ty ty2:TypeId} (h:fn.results= #[.cell p ty,.cell p2 ty2,.tmp t]) (tmps:Array Value) (w:World) (g g2:Nat) (T T2:TypeId) (cs cs2:Array Value) (fr fr2:Nat×Nat) (d d2:TypeDesc)
  (hp:tmps.getD p undef=.pointer (some ⟨g,0,none⟩)) (hg:w.heap[g]? =some (.cells cs T fr))
  (hu:P.underlying ty=some d) (hd:(match d with | .struct _ | .array _ _=>true | _=>false)=true) (hi:(P.info? ty).map (·.size)=some cs.size)
  (hp2:tmps.getD p2 undef=.pointer (some ⟨g2,0,none⟩)) (hg2:w.heap[g2]? =some (.cells cs2 T2 fr2))
  (hu2:P.underlying ty2=some d2) (hd2:(match d2 with | .struct _ | .array _ _=>true | _=>false)=true) (hi2:(P.info? ty2).map (·.size)=some cs2.size):
  (results fn tmps).run P w=.ok (.tuple #[.agg cs,.agg cs2,tmps.getD t undef]) w:=by
 have hp':tmps[p]?.getD undef=.pointer (some ⟨g,0,none⟩):=by simpa using hp
 have hp2':tmps[p2]?.getD undef=.pointer (some ⟨g2,0,none⟩):=by simpa using hp2
 simp [results,h,hp',hp2',asAddr,run_loadVar_row w g T ty cs fr d hg hu hd hi,run_loadVar_row w g2 T2 ty2 cs2 fr2 d2 hg2 hu2 hd2 hi2]
structure Jbm (w W:World) (wj:Nat) (q:Option Nat) (c:BA×Int):Prop where
 t:W.heap[w.heap.size]? =some (.cells #[.int .i64 (wj:Int),Jl q] 146)
 c:W.heap[w.heap.size+1]? =some (.cells #[.string c.1,.int .i64 c.2] 49)
 r:W.heap[w.heap.size+2]? =some (.cells #[.int .i64 0,.pointer none] 146)
 o:W.heap[w.heap.size+3]? =some (.cells #[.int .u64 0,.int .u8 0] 80)
theorem Jbm.next {w W W':World} {wj:Nat} {q:Option Nat} {c:BA×Int} (h:Jbm w W wj q c) (k:Tch NoB W W'):Jbm w W' wj q c:=
 ⟨(k.block _ (Jb h.t) (λh=>h)).trans h.t,(k.block _ (Jb h.c) (λh=>h)).trans h.c,(k.block _ (Jb h.r) (λh=>h)).trans h.r,(k.block _ (Jb h.o) (λh=>h)).trans h.o⟩
theorem Jf7 (w:World) (wj:Nat) (q:Option Nat) (c:BA×Int):Jbm w ((((w.alloc (.cells #[.int .i64 (wj:Int),Jl q] 146)).alloc (.cells #[.string c.1,.int .i64 c.2] 49)).alloc (.cells #[.int .i64 0,.pointer none] 146)).alloc (.cells #[.int .u64 0,.int .u8 0] 80)) wj q c:=
 ⟨(Xg _ _ _ _ _ _ (by omega)).trans (JO _ _ _ _),(Xg _ _ _ _ _ _ (by omega)).trans (JI _ _ _ _),(Xg _ _ _ _ _ _ (by omega)).trans (JK _ _ _ _),Jaq _ _ _ _ _⟩
theorem JaE {d:List UInt8->BA} {F:Nat->Prop} {w W:World} {wj:Nat} {q:Option Nat} {c:BA×Int} (h:Jbm w W wj q c) (hT:Tch NoB w W) (v0 v1 u0 u1:Value):
  ((((W.setCell ⟨w.heap.size+2,0,none⟩ v0).setCell ⟨w.heap.size+2,1,none⟩ v1).setCell ⟨w.heap.size+3,0,none⟩ u0).setCell ⟨w.heap.size+3,1,none⟩ u1).heap[w.heap.size+2]? =some (.cells #[v0,v1] 146)/\
  ((((W.setCell ⟨w.heap.size+2,0,none⟩ v0).setCell ⟨w.heap.size+2,1,none⟩ v1).setCell ⟨w.heap.size+3,0,none⟩ u0).setCell ⟨w.heap.size+3,1,none⟩ u1).heap[w.heap.size+3]? =some (.cells #[u0,u1] 80)/\
  Tch NoB w ((((W.setCell ⟨w.heap.size+2,0,none⟩ v0).setCell ⟨w.heap.size+2,1,none⟩ v1).setCell ⟨w.heap.size+3,0,none⟩ u0).setCell ⟨w.heap.size+3,1,none⟩ u1)/\
  ∀q' st',StAt d F W q' st'->StAt d F ((((W.setCell ⟨w.heap.size+2,0,none⟩ v0).setCell ⟨w.heap.size+2,1,none⟩ v1).setCell ⟨w.heap.size+3,0,none⟩ u0).setCell ⟨w.heap.size+3,1,none⟩ u1) q' st':=by
 rw [set2 W (w.heap.size+2) _ _ _ _ _ h.r]
 have t1:=Ts W (w.heap.size+2) #[v0,v1]
 have o1:(W.setRow (w.heap.size+2) #[v0,v1]).heap[w.heap.size+3]? =some (.cells #[.int .u64 0,.int .u8 0] 80):=(t1.block _ (Jb h.o) (by omega)).trans h.o
 have r1:(W.setRow (w.heap.size+2) #[v0,v1]).heap[w.heap.size+2]? =some (.cells #[v0,v1] 146):=Qi _ _ _ _ _ _ h.r
 rw [set2 _ (w.heap.size+3) _ _ _ _ _ o1]
 have t2:=Ts (W.setRow (w.heap.size+2) #[v0,v1]) (w.heap.size+3) #[u0,u1]
 refine ⟨(t2.block _ (Jb r1) (by omega)).trans r1,Qi _ _ _ _ _ _ o1,(hT.trans t1 (λj hj=>.inr (by omega))).trans t2 (λj hj=>.inr (by omega)),λq' st' hs=>?_⟩
 exact (hs.row h.r (by decide)).row o1 (by decide)
def WoTo (E:Nat->Addr) (wj:Nat) (F:Nat->Prop) (r:Except Er (Option Tr×(Nat×Nat))) (e:Ending) (w':World):Prop:=match r with
 | .ok (st',o)=>∃q',e=.returned (.tuple #[JE wj q',.agg #[.int .u64 (o.1:Int),.int .u8 (o.2:Int)],.nilIface])/\StAt (dgW wj) F w' q' st'
 | .error _=>e=.returned (.tuple #[.agg #[.int .i64 0,.pointer none],.agg #[.int .u64 0,.int .u8 0],eV E 1])
theorem JfG (E:Nat->Addr) (wj:Nat) (hw1:1<=wj) (hw:wj<=32) (F:Nat->Prop) (q:Option Nat) (st:Option Tr) (c:BA×Int) (hc:Jo wj c) (w:World) (hE:Env E w) (hF:∀j,w.heap.size<=j->F j) (hs:StAt (dgW wj) F w q st) (hok:StOk wj st):
  Calls prog 284 #[JE wj q,.agg #[.string c.1,.int .i64 c.2]] w λe w'=>Tch NoB w w'/\WoTo E wj F (JM st (Jd c)) e w':=by
 have hkl:(Jd c).length=wj+1:=JY hc
 have HKO:Hid (∀W,Tch NoB w W->Calls prog 145 #[.int .i64 (wj:Int),.agg #[.string c.1,.int .i64 c.2]] W λe w'=>e=.returned (.tuple #[.string ⟨(Jd c).toArray⟩,.nilIface])/\Tch NoB W w'):=λW hT=>JdC E wj hw c hc W (hE.tch hT noE)
 have HS:Hid (StAt (dgW wj) F w q st):=hs
 have HE:Hid (Env E w):=hE
 have HF:Hid _:=hF
 have HOK:Hid _:=hok
 have HBX:=Jf7 w wj q c
 obtain ⟨rv,hrv⟩:∃rv,rv=(q.map λn=>(⟨n,0,none⟩:Addr)):=⟨_,rfl⟩
 have hrq:Jl q=.pointer rv:=by rw [hrv]
 clear hs hE hF hok hc
 obtain ⟨cs,cn⟩:=c
 dsimp only at HKO HBX ⊢
 show Calls _ _ #[.agg #[_,Jl q],_] _ _
 rw [hrq]
 have HRQ:Hid _:=hrq
 clear hrq hrv
 have HA0:Hid (Tch NoB w ((((w.alloc (.cells #[.int .i64 (wj:Int),.pointer rv] 146)).alloc (.cells #[.string cs,.int .i64 cn] 49)).alloc (.cells #[.int .i64 0,.pointer none] 146)).alloc (.cells #[.int .u64 0,.int .u8 0] 80))):=(Tch.allocs3 NoB w _ _ _).trans (Ta _ _ _) (λ_ h=>.inl h)
 have HB0:Hid (Jbm w ((((w.alloc (.cells #[.int .i64 (wj:Int),.pointer rv] 146)).alloc (.cells #[.string cs,.int .i64 cn] 49)).alloc (.cells #[.int .i64 0,.pointer none] 146)).alloc (.cells #[.int .u64 0,.int .u8 0] 80)) wj q (cs,cn)):=by rw [<-HRQ.o];exact HBX
 clear HBX
 go_enter func284,ntmps284
 go_wp2_with fail
 refine (HKO.o _ HA0.o).mono ?_
 rintro _ w2 ⟨rfl,ht1⟩
 have HT2:Hid (Tch NoB w w2):=HA0.o.trans ht1 noE
 have b2:=HB0.o.next ht1
 have HB2:Hid _:=b2
 have d0:w2.cell? ⟨w.heap.size,0,none⟩=some (.int .i64 (wj:Int)):=Ja b2.t
 have d1:w2.cell? ⟨w.heap.size,1,none⟩=some (.pointer rv):=by rw [<-HRQ.o];exact Ja b2.t
 generalize hKB:(⟨(Jd (cs,cn)).toArray⟩:BA)=kb at *
 have HKB:Hid (_=kb):=hKB
 clear hKB ht1 b2 HKO HB0 HA0
 cases st with
 | none=>
  obtain rfl:=HS.o.of_none
  obtain rfl:rv=none:=by have:=HRQ.o;simpa [Jl] using this.symm
  have HN:Hid (Calls prog 269 #[.agg #[.int .i64 (wj:Int),.pointer none],.string kb] w2 λe w'=>e=.returned (.pointer none)/\Tch NoB w2 w'):=by
   have:=JaY (wj:Int) (Jd (cs,cn)) (by omega) (by omega) w2
   rw [HKB.o] at this
   exact this
  go_wp2_with fail
  refine HN.o.mono ?_
  rintro _ w3 ⟨rfl,ht3⟩
  have b3:=HB2.o.next ht3
  have HT3:Hid (Tch NoB w w3):=HT2.o.trans ht3 noE
  have hin:=(HE.o.tch HT3.o noE).input
  have r0:w3.cell? ⟨w.heap.size+1+1,0,none⟩=some (.int .i64 0):=Ja b3.r
  have r1:w3.cell? ⟨w.heap.size+1+1,1,none⟩=some (.pointer none):=Ja b3.r
  have fR:∀j,w3.frozen? ⟨w.heap.size+1+1,j,none⟩=false:=λj=>Qg _ _ _ _ _ b3.r
  have o0:w3.cell? ⟨w.heap.size+1+1+1,0,none⟩=some (.int .u64 0):=Ja b3.o
  have o1:w3.cell? ⟨w.heap.size+1+1+1,1,none⟩=some (.int .u8 0):=Ja b3.o
  have fO:∀j,w3.frozen? ⟨w.heap.size+1+1+1,j,none⟩=false:=λj=>Qg _ _ _ _ _ b3.o
  have HB3:Hid _:=b3
  clear ht3 b3 HN d0 d1
  go_wp2
  go_region
  all_goals
   go_wp2
   obtain ⟨q1,q2,q3,_⟩:=JaE (d:=dgW wj) (F:=F) (W:=w3.drew) (HB3.o.next (Td NoB w3 1)) (HT3.o.trans (Td NoB w3 1) noE) (.int .i64 0) (.pointer none) (.int .u64 0) (.int .u8 0)
   refine QK (v:=.tuple #[.agg #[.int .i64 0,.pointer none],.agg #[.int .u64 0,.int .u8 0],eV E 1]) (Yi results284 _ _ (w.heap.size+1+1) (w.heap.size+1+1+1) _ _ _ _ (0,0) (0,0) _ _ rfl q1 underlying146 rfl (by kernel_rfl) rfl q2 underlying80 rfl (by kernel_rfl)) rfl ⟨q3,?_⟩
   rfl
 | some t=>
  obtain ⟨n,rfl,hn⟩:=HS.o.of_some
  obtain rfl:rv=some ⟨n,0,none⟩:=by have:=HRQ.o;simpa [Jl] using this.symm
  have HTO:Hid (TrOk wj t):=HOK.o
  have HNT:Hid (Jf (dgW wj) F w2 n t):=hn.next HT2.o
  have HN:Hid (Calls prog 269 #[.agg #[.int .i64 (wj:Int),.pointer (some ⟨n,0,none⟩)],.string kb] w2 λe w'=>∃m,e=.returned (.pointer (some ⟨m,0,none⟩))/\Jf (dgW wj) F w' m (.leaf (t.near (Jd (cs,cn))).1 (t.near (Jd (cs,cn))).2)/\Tch NoB w2 w'):=by
   have:=JaZ wj (by omega) (dgW wj) F n t (Jd (cs,cn)) hkl w2 HNT.o HTO.o
   rw [HKB.o] at this
   exact this
  clear hn
  go_wp2_with fail
  refine HN.o.mono ?_
  rintro _ w3 ⟨m,rfl,hm,ht3⟩
  have b3:=HB2.o.next ht3
  have e0:w3.cell? ⟨w.heap.size,0,none⟩=some (.int .i64 (wj:Int)):=Ja b3.t
  have e1:w3.cell? ⟨w.heap.size,1,none⟩=some (.pointer (some ⟨n,0,none⟩)):=Ja b3.t
  have r0:w3.cell? ⟨w.heap.size+1+1,0,none⟩=some (.int .i64 0):=Ja b3.r
  have r1:w3.cell? ⟨w.heap.size+1+1,1,none⟩=some (.pointer none):=Ja b3.r
  have fR:∀j,w3.frozen? ⟨w.heap.size+1+1,j,none⟩=false:=λj=>Qg _ _ _ _ _ b3.r
  have o0:w3.cell? ⟨w.heap.size+1+1+1,0,none⟩=some (.int .u64 0):=Ja b3.o
  have o1:w3.cell? ⟨w.heap.size+1+1+1,1,none⟩=some (.int .u8 0):=Ja b3.o
  have fO:∀j,w3.frozen? ⟨w.heap.size+1+1+1,j,none⟩=false:=λj=>Qg _ _ _ _ _ b3.o
  have hmk:w3.cell? ⟨m,1,none⟩=some (.string ⟨(t.near (Jd (cs,cn))).1.toArray⟩):=by cases hm with | leaf _ _ _ _ hr=>exact Ja hr
  have hm2:w3.cell? ⟨m,2,none⟩=some (.int .u64 ((t.near (Jd (cs,cn))).2.1:Int)):=by cases hm with | leaf _ _ _ _ hr=>exact Ja hr
  have hm3:w3.cell? ⟨m,3,none⟩=some (.int .u8 ((t.near (Jd (cs,cn))).2.2:Int)):=by cases hm with | leaf _ _ _ _ hr=>exact Ja hr
  have hmlt:=hm.own.2
  have HT3:Hid (Tch NoB w w3):=HT2.o.trans ht3 noE
  have HNT3:Hid (Jf (dgW wj) F w3 n t):=HNT.o.next ht3
  have HB3:Hid _:=b3
  have hin:=(HE.o.tch HT3.o noE).input
  clear ht3 b3 HN d0 d1 hm HNT HB2
  generalize hNB:(⟨(t.near (Jd (cs,cn))).1.toArray⟩:BA)=nb at *
  have HNB:Hid (_=nb):=hNB
  clear hNB
  have hnl:nb.data.toList=(t.near (Jd (cs,cn))).1:=by rw [<-HNB.o]
  have hkl2:kb.data.toList=Jd (cs,cn):=by rw [<-HKB.o]
  by_cases heq:(t.near (Jd (cs,cn))).1=Jd (cs,cn)
  ·have hkk:nb=kb:=by rw [<-HNB.o,heq];exact HKB.o
   have HWO:Hid (JM (some t) (Jd (cs,cn))=.ok (t.cut (Jd (cs,cn)),(t.near (Jd (cs,cn))).2)):=if_pos heq
   have HCU:Hid (∀W,Tch NoB w3 W->Calls prog 339 #[.agg #[.int .i64 (wj:Int),.pointer (some ⟨n,0,none⟩)],.pointer (some ⟨n,0,none⟩),.string kb] W λe w'=>JeE wj F (t.cut (Jd (cs,cn))) W e w'):=λW hT=>by
    have:=Jku E wj hw1 hw F (some ⟨n,0,none⟩) (Jd (cs,cn)) hkl t n W HTO.o (HE.o.tch (HT3.o.trans hT noE) noE) (λj hj=>HF.o j (Qm (HT3.o.trans hT noE).size hj)) (HNT3.o.next hT)
    rw [HKB.o] at this
    exact this
   subst hkk
   clear heq hnl hkl2
   have hz3:=(Jb HB3.o.o)
   obtain ⟨xa,hXA⟩:∃x,(t.near (Jd (cs,cn))).2.1=x:=⟨_,rfl⟩
   obtain ⟨xo,hXO⟩:∃x,(t.near (Jd (cs,cn))).2.2=x:=⟨_,rfl⟩
   rw [hXA] at hm2
   rw [hXO] at hm3
   have HX:Hid ((t.near (Jd (cs,cn))).2=(xa,xo)):=Prod.ext hXA hXO
   clear hXA hXO
   go_wp2_with fail
   refine (HCU.o _ (Te _ _)).mono ?_
   rintro _ w4 ⟨q4,rfl,hq4,ht4⟩
   have b4:=HB3.o.next ht4
   have HB4:Hid _:=b4
   have HT4:Hid (Tch NoB w w4):=HT3.o.trans ht4 noE
   have HQ4:Hid _:=hq4
   have s0:w4.cell? ⟨w.heap.size+1+1,0,none⟩=some (.int .i64 0):=Ja b4.r
   have s1:w4.cell? ⟨w.heap.size+1+1,1,none⟩=some (.pointer none):=Ja b4.r
   have gR:∀j,w4.frozen? ⟨w.heap.size+1+1,j,none⟩=false:=λj=>Qg _ _ _ _ _ b4.r
   have p0:w4.cell? ⟨w.heap.size+1+1+1,0,none⟩=some (.int .u64 0):=Ja b4.o
   have p1:w4.cell? ⟨w.heap.size+1+1+1,1,none⟩=some (.int .u8 0):=Ja b4.o
   have gO:∀j,w4.frozen? ⟨w.heap.size+1+1+1,j,none⟩=false:=λj=>Qg _ _ _ _ _ b4.o
   have f0:w4.cell? ⟨w.heap.size,0,none⟩=some (.int .i64 (wj:Int)):=Ja b4.t
   have n2:w4.cell? ⟨m,2,none⟩=some (.int .u64 (xa:Int)):=(ht4.cell (p:=⟨m,2,none⟩) hmlt (λh=>h)).trans hm2
   have n3:w4.cell? ⟨m,3,none⟩=some (.int .u8 (xo:Int)):=(ht4.cell (p:=⟨m,3,none⟩) hmlt (λh=>h)).trans hm3
   clear ht4 b4 hq4 e0 e1 r0 r1 fR o0 o1 fO hm2 hm3 hmk HCU
   obtain ⟨v4,hv4⟩:∃v,Jl q4=.pointer v:=⟨_,rfl⟩
   rw [hv4]
   have HV4:Hid _:=hv4
   clear hv4
   go_wp2
   go_region
   all_goals
    go_wp2
    obtain ⟨q1,q2,q3,q5⟩:=JaE (d:=dgW wj) (F:=F) (W:=w4) HB4.o HT4.o (.int .i64 (wj:Int)) (.pointer v4) (.int .u64 (xa:Int)) (.int .u8 (xo:Int))
    refine QK (v:=.tuple #[.agg #[.int .i64 (wj:Int),.pointer v4],.agg #[.int .u64 (xa:Int),.int .u8 (xo:Int)],.nilIface]) (Yi results284 _ _ (w.heap.size+1+1) (w.heap.size+1+1+1) _ _ _ _ (0,0) (0,0) _ _ rfl q1 underlying146 rfl (by kernel_rfl) rfl q2 underlying80 rfl (by kernel_rfl)) rfl ⟨q3.trans (Td NoB _ 1) noE,?_⟩
    rw [HWO.o,HX.o]
    refine ⟨q4,?_,(q5 _ _ HQ4.o).next (Td NoB _ 1)⟩
    rw [JE,HV4.o]
  ·have hne:(nb.toList == kb.toList)=false:=by
    rw [ByteArray.toList_eq,ByteArray.toList_eq,hnl,hkl2]
    simpa using heq
   have hne2:(nb.toList != kb.toList)=true:=by rw [bne,hne];rfl
   have HWO:Hid (JM (some t) (Jd (cs,cn))=.error .input):=if_neg heq
   clear hnl hkl2 heq hm2 hm3
   go_wp2
   go_region
   all_goals
    go_wp2
    obtain ⟨q1,q2,q3,_⟩:=JaE (d:=dgW wj) (F:=F) (W:=w3.drew) (HB3.o.next (Td NoB w3 1)) (HT3.o.trans (Td NoB w3 1) noE) (.int .i64 0) (.pointer none) (.int .u64 0) (.int .u8 0)
    refine QK (v:=.tuple #[.agg #[.int .i64 0,.pointer none],.agg #[.int .u64 0,.int .u8 0],eV E 1]) (Yi results284 _ _ (w.heap.size+1+1) (w.heap.size+1+1+1) _ _ _ _ (0,0) (0,0) _ _ rfl q1 underlying146 rfl (by kernel_rfl) rfl q2 underlying80 rfl (by kernel_rfl)) rfl ⟨q3,?_⟩
    rw [HWO.o];rfl
