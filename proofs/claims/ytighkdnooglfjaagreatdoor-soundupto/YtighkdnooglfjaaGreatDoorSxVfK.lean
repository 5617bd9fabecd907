import Derived.Test.YtighkdnooglfjaaGreatDoorSxPWr
namespace Go.Proofs.YtighkdnooglfjaaGreatDoor
open Tryz
set_option maxRecDepth 100000
set_option maxHeartbeats 2000000
open Go.RowKit Go.Shelf

attribute [local go_sem] Oper.semAt_some

structure TgAt (n₀ Ba Bb ga ca gb cb:Nat) (A B:List BA) (W:World):Prop where
 ra:W.heap[Ba]? =some (.cells #[.slice (some ⟨ga,0,none⟩) A.length ca] 58)
 rb:W.heap[Bb]? =some (.cells #[.slice (some ⟨gb,0,none⟩) B.length cb] 58)
 la:ga<n₀/\gb<n₀/\n₀<=W.heap.size
 xa:∀(j:Nat) t,A[j]? =some t->W.cell? ⟨ga,j,none⟩=some (.string t)
 xb:∀(j:Nat) t,B[j]? =some t->W.cell? ⟨gb,j,none⟩=some (.string t)
theorem TgAt.keep {n₀ Ba Bb ga ca gb cb:Nat} {A B:List BA} {W W':World} (h:TgAt n₀ Ba Bb ga ca gb cb A B W) (k:Ja6 n₀ Ba Bb W W'):TgAt n₀ Ba Bb ga ca gb cb A B W':=
 ⟨k.2.1 _ _ h.ra,k.2.2 _ _ h.rb,⟨h.la.1,h.la.2.1,Qm h.la.2.2 k.1.size⟩,λj t ht=>(k.1.cell (p:=⟨ga,j,none⟩) h.la.1).trans (h.xa j t ht),λj t ht=>(k.1.cell (p:=⟨gb,j,none⟩) h.la.2.1).trans (h.xb j t ht)⟩
theorem TgAt.next {n₀ Ba Bb ga ca gb cb:Nat} {A B:List BA} {W W':World} (h:TgAt n₀ Ba Bb ga ca gb cb A B W) (k:Tch NoB W W'):TgAt n₀ Ba Bb ga ca gb cb A B W':=
 ⟨(k.block _ (Jb h.ra) (λe=>e)).trans h.ra,(k.block _ (Jb h.rb) (λe=>e)).trans h.rb,⟨h.la.1,h.la.2.1,Qm h.la.2.2 k.size⟩,λj t ht=>(k.cell (p:=⟨ga,j,none⟩) (Qk h.la.1 h.la.2.2) (λe=>e)).trans (h.xa j t ht),λj t ht=>(k.cell (p:=⟨gb,j,none⟩) (Qk h.la.2.1 h.la.2.2) (λe=>e)).trans (h.xb j t ht)⟩
theorem Jkk {P Q:Prop} {e:Ending} (h:(e=.returned (.bool true)/\P)\/(e=.returned (.bool false)/\Q)):∃bb:Bool,e=.returned (.bool bb)/\((bb=true->P)/\(bb=false->Q)):=by
 rcases h with ⟨rfl,h⟩ | ⟨rfl,h⟩
 ·exact ⟨true,rfl,λ_=>h,λe=>(by cases e)⟩
 ·exact ⟨false,rfl,λe=>(by cases e),λ_=>h⟩
theorem Jlv (n:Nat) (hn:2<=n) (l Ba Bb n₀ ga ca gb cb:Nat) (A B:List BA) (hA:A.length<=1000000) (J Jx:List (BA×BA)->World->Prop)
  (hJ:∀pre W W',J pre W->Tch NoB W W'->J pre W')
  (hY:∀pre x W,J pre W->(A.zip B)[pre.length]? =some x->YieldAt Fence.wide (n - 1) prog l #[.string x.1,.string x.2] W λe W'=>
   (e=.returned (.bool true)/\J (pre++[x]) W'/\Ja6 n₀ Ba Bb W W')\/(e=.returned (.bool false)/\Jx (pre++[x]) W'))
  (W:World) (hU:TgAt n₀ Ba Bb ga ca gb cb A B W) (h0:J [] W):
  CallsIn Fence.wide n prog 297 #[.func (.yield l) #[] #[],.pointer (some ⟨Ba,0,none⟩),.pointer (some ⟨Bb,0,none⟩)] W λe W'=>(∃v,e=.returned v)/\
   ((∃ys,ys=A.zip B/\J ys W')\/(∃pre,pre <+:A.zip B/\Jx pre W')):=by
 have HU:Hid (TgAt n₀ Ba Bb ga ca gb cb A B W):=hU
 have a0:W.cell? ⟨Ba,0,none⟩=some (.slice (some ⟨ga,0,none⟩) A.length ca):=Ja hU.ra
 have b0:W.cell? ⟨Bb,0,none⟩=some (.slice (some ⟨gb,0,none⟩) B.length cb):=Ja hU.rb
 have HJ:Hid (∀pre W W',J pre W->Tch NoB W W'->J pre W'):=hJ
 have HY:Hid (∀pre x W,J pre W->(A.zip B)[pre.length]? =some x->_):=hY
 have HJ0:Hid (J [] W):=h0
 clear hU hJ hY h0
 refine callsIn_of_wp func297 rfl trivial ?_ rfl
 simp only [ntmps297,List.size_toArray,Qp,Qv,Nat.reduceAdd,Nat.reduceSub,Array.replicate_succ,Array.replicate_zero,List.push_toArray,List.append_toArray,List.nil_append,List.cons_append]
 gi_wp2
 obtain ⟨m,hm⟩:∃m,m=min A.length B.length:=⟨_,rfl⟩
 have hM:min (A.length:Int) (B.length:Int)=(m:Int):=by omega
 rw [hM]
 have hzl:(A.zip B).length=m:=by rw [List.length_zip,hm]
 have hmA:m<=A.length:=by omega
 have hmB:m<=B.length:=by omega
 have HZL:Hid ((A.zip B).length=m):=hzl
 have HMA:Hid (m<=A.length/\m<=B.length/\m<=1000000):=⟨hmA,hmB,by omega⟩
 clear hM hm hzl hmA hmB
 gi_loopw [10] (λi wr=>∃p,p<=m/\i=.int .i64 (p:Int)/\Hid (TgAt n₀ Ba Bb ga ca gb cb A B wr)/\Hid (J ((A.zip B).take p) wr)) (λi wr=>m - (intOf i).toNat)
 case atStart=>exact ⟨0,Nat.zero_le _,rfl,HU.o,HJ0.o⟩
 case round=>
  obtain ⟨p,hp,rfl,HUr,HJr⟩:=hrel
  by_cases hpm:p<m
  ·have hpA:p<A.length:=by have:=HMA.o;omega
   have hpB:p<B.length:=by have:=HMA.o;omega
   obtain ⟨x,hx⟩:∃x,x=A[p]:=⟨_,rfl⟩
   obtain ⟨y,hy⟩:∃y,y=B[p]:=⟨_,rfl⟩
   have hxg:(A.zip B)[p]? =some (x,y):=by rw [Qd (by rw [HZL.o];exact hpm),List.getElem_zip,hx,hy]
   have htl:((A.zip B).take p).length=p:=by rw [QB,HZL.o];omega
   have htk:(A.zip B).take p++[(x,y)]=(A.zip B).take (p+1):=by rw [List.take_add_one,hxg];rfl
   have a0:wr.cell? ⟨Ba,0,none⟩=some (.slice (some ⟨ga,0,none⟩) A.length ca):=Ja HUr.o.ra
   have b0:wr.cell? ⟨Bb,0,none⟩=some (.slice (some ⟨gb,0,none⟩) B.length cb):=Ja HUr.o.rb
   have a1:wr.cell? ⟨ga,p,none⟩=some (.string x):=HUr.o.xa p x (by rw [hx];exact Qd hpA)
   have b1:wr.cell? ⟨gb,p,none⟩=some (.string y):=HUr.o.xb p y (by rw [hy];exact Qd hpB)
   have HYD:Hid (∀V,Tch NoB wr V->YieldAt Fence.wide (n - 1) prog l #[.string x,.string y] V λe W'=>(e=.returned (.bool true)/\J ((A.zip B).take (p+1)) W'/\Ja6 n₀ Ba Bb V W')\/(e=.returned (.bool false)/\Jx ((A.zip B).take (p+1)) W')):=λV hT=>by
    have:=HY.o _ (x,y) V (HJ.o _ _ _ HJr.o hT) (by rw [htl];exact hxg)
    rw [htk] at this
    exact this
   have hpi:(p:Int)<(m:Int):=by omega
   have hpa:(p:Int)<(A.length:Int):=by omega
   have hpb:(p:Int)<(B.length:Int):=by omega
   have hp0:(0:Int)<=(p:Int):=by omega
   have HPM:Hid (p<m):=hpm
   clear hxg htl htk hx hy hpA hpB hpm hp
   gi_wp2
   obtain ⟨fn,tmps,assign,body,hy,hR⟩:=HYD.o wr.drew (Tch.drewN _ wr 1)
   gi_region_with ((refine ⟨λ_=>by omega,hR.mono ?_⟩;rintro e W3 hpost;obtain ⟨bb,rfl,hB1⟩:=Jkk hpost;have HB1:Hid ((bb=true->J ((A.zip B).take (p+1)) W3/\Ja6 n₀ Ba Bb wr.drew W3)/\(bb=false->Jx ((A.zip B).take (p+1)) W3)):=hB1;clear hpost hB1))
   all_goals
    clear hR hy HYD
    cases bb
    ·have hJx:=HB1.o.2 rfl
     have HJX:Hid (Jx _ W3):=hJx
     clear HB1 hJx
     gi_wp2
     refine QJ (v:=.tuple #[]) (results_none results297 _ _ _) rfl ?_
     exact ⟨⟨_,rfl⟩,.inr ⟨_,List.take_prefix _ _,HJX.o⟩⟩
    ·obtain ⟨hJ3,hk3⟩:=HB1.o.1 rfl
     have HJ3:Hid (J _ W3):=hJ3
     have HU3:Hid (TgAt n₀ Ba Bb ga ca gb cb A B W3):=(HUr.o.next (Tch.drewN _ wr 1)).keep hk3
     clear HB1 hJ3 hk3
     gi_wp2
     go_roundw
     case rel=>exact ⟨p+1,HPM.o,by go_num,HU3,HJ3⟩
     case measure=>have:=HPM.o;simp [intOf];omega
  ·have hge:¬(p:Int)<(m:Int):=by omega
   have HPE:Hid (p=m):=(by omega:p=m)
   clear hpm hp
   gi_wp2
   refine bodyPost_end (v:=.tuple #[]) (results_none results297 _ _ _) rfl ?_
   have hfin:=HJr.o
   rw [List.take_of_length_le (by rw [HZL.o,HPE.o];exact Ql _)] at hfin
   refine ⟨⟨_,rfl⟩,.inl ?_⟩
   first
    | exact hfin
    | exact ⟨_,rfl,hfin⟩
theorem JgB (n:Nat) (hn:2<=n) (Ba Bb n₀ ga ca gb cb:Nat) (A B:List BA) (hA:A.length<=1000000) (w:World) (hU:TgAt n₀ Ba Bb ga ca gb cb A B w):
  SeqStopsK Fence.wide n prog 297 #[.pointer (some ⟨Ba,0,none⟩),.pointer (some ⟨Bb,0,none⟩)] (λx:BA×BA=> #[.string x.1,.string x.2]) (Ja6 n₀ Ba Bb) (λys=>ys=A.zip B) (λpre=>pre <+:A.zip B) (A.zip B).length w:=λl J Jx W hW hJ _ hY h0=>
 Jlv n hn l Ba Bb n₀ ga ca gb cb A B hA J Jx (λpre W1 W2 h k=>hJ pre W1 W2 none h ⟨k.os,k.tape,k.output,k.size,λj hj _=>k.block j hj (λe=>e)⟩ (λr e=>by cases e)) (λpre x W hJ hx=>hY pre x W hJ (Qo.1 hx).1) W (hU.next ((Tch.of_below hW).mono (λ_ hj=>.inr hj))) h0
set_option maxHeartbeats 4000000

attribute [local go_sem] Oper.semAt_some

structure PtI (w:World) (ra rb:Array Value) (pre:List (BA×BA)) (W:World):Prop where
 below:Below w.heap.size w W
 eqs:∀y∈pre,y.1=y.2
 r0:W.heap[w.heap.size]? =some (.cells #[.string ⟨#[]⟩] 9)
 r1:W.heap[w.heap.size+1]? =some (.cells #[.string ⟨#[]⟩] 9)
 r2:W.heap[w.heap.size+2]? =some (.cells #[.nilIface] 92)
 ba:W.heap[w.heap.size+3]? =some (.cells ra 58)
 bb:W.heap[w.heap.size+4]? =some (.cells rb 58)
structure PtX (w:World) (pre:List (BA×BA)) (W:World):Prop where
 below:Below w.heap.size w W
 two:∃q y,pre=q++[y]/\(∀z∈q,z.1=z.2)/\y.1 ≠ y.2/\W.heap[w.heap.size]? =some (.cells #[.string y.1] 9)/\W.heap[w.heap.size+1]? =some (.cells #[.string y.2] 9)/\W.heap[w.heap.size+2]? =some (.cells #[.nilIface] 92)
theorem PtI.own {w:World} {ra rb:Array Value} {B:Nat} (hB:w.heap.size+5<=B):OwnFrom B (PtI w ra rb):=by
 intro s W W' row h hg hr
 have hr':∀r,row=some r->∃o:Obj,W.heap[r]? =some o/\o.isCells=false:=λr e=>(hr r e).2
 exact ⟨ownFrom_below (β:=List (BA×BA)) (w₀:=w) (n₀:=w.heap.size) (B:=B) (Ql _) (by omega) s W W' row h.below hg hr,h.eqs,Jv h.r0 hg hr',Jv h.r1 hg hr',Jv h.r2 hg hr',Jv h.ba hg hr',Jv h.bb hg hr'⟩
theorem PtX.own {w:World} {B:Nat} (hB:w.heap.size+5<=B):OwnFrom B (PtX w):=by
 intro s W W' row h hg hr
 have hr':∀r,row=some r->∃o:Obj,W.heap[r]? =some o/\o.isCells=false:=λr e=>(hr r e).2
 obtain ⟨q,y,e1,e2,e3,e4,e5,e6⟩:=h.two
 exact ⟨ownFrom_below (β:=List (BA×BA)) (w₀:=w) (n₀:=w.heap.size) (B:=B) (Ql _) (by omega) s W W' row h.below hg hr,q,y,e1,e2,e3,Jv e4 hg hr',Jv e5 hg hr',Jv e6 hg hr'⟩
theorem PtI.two {w W:World} {ra rb:Array Value} {pre:List (BA×BA)} {y1 y2:BA} (HI:PtI w ra rb pre W) (hne:y1 ≠ y2):
  KeepsOthers W (((W.setCell ⟨w.heap.size,0,none⟩ (.string y1)).setCell ⟨w.heap.size+1,0,none⟩ (.string y2)).setCell ⟨w.heap.size+1+1,0,none⟩ .nilIface)/\PtX w (pre++[(y1,y2)]) (((W.setCell ⟨w.heap.size,0,none⟩ (.string y1)).setCell ⟨w.heap.size+1,0,none⟩ (.string y2)).setCell ⟨w.heap.size+1+1,0,none⟩ .nilIface):=by
 have k1:(W.setRow w.heap.size #[.string y1]).heap[w.heap.size+1]? =some (.cells #[.string ⟨#[]⟩] 9):=(setRow_other _ _ _ _ (by omega)).trans HI.r1
 have k2:((W.setRow w.heap.size #[.string y1]).setRow (w.heap.size+1) #[.string y2]).heap[w.heap.size+2]? =some (.cells #[.nilIface] 92):=(setRow_other _ _ _ _ (by omega)).trans ((setRow_other _ _ _ _ (by omega)).trans HI.r2)
 have e:((W.setCell ⟨w.heap.size,0,none⟩ (.string y1)).setCell ⟨w.heap.size+1,0,none⟩ (.string y2)).setCell ⟨w.heap.size+1+1,0,none⟩ .nilIface=((W.setRow w.heap.size #[.string y1]).setRow (w.heap.size+1) #[.string y2]).setRow (w.heap.size+2) #[.nilIface]:=by
  rw [Qj W w.heap.size 0 _ _ (0,0) _ HI.r0]
  rw [show (#[Value.string ⟨#[]⟩].setIfInBounds 0 (.string y1))= #[.string y1] from rfl]
  rw [Qj _ (w.heap.size+1) 0 _ _ (0,0) _ k1]
  rw [show (#[Value.string ⟨#[]⟩].setIfInBounds 0 (.string y2))= #[.string y2] from rfl]
  rw [Qj _ (w.heap.size+2) 0 _ _ (0,0) _ k2]
  rfl
 rw [e]
 have t:Tch (λj=>j=w.heap.size\/j=w.heap.size+1\/j=w.heap.size+2) W (((W.setRow w.heap.size #[.string y1]).setRow (w.heap.size+1) #[.string y2]).setRow (w.heap.size+2) #[.nilIface]):=(((Tch.setRow W w.heap.size _).mono (λ_ h=>.inl (.inl h))).trans (Tch.setRow _ (w.heap.size+1) _) (λ_ h=>.inl (.inr (.inl h)))).trans (Tch.setRow _ (w.heap.size+2) _) (λ_ h=>.inl (.inr (.inr h)))
 refine ⟨JaH t (λj hj=>?_),HI.below.trans (t.below HI.below.size (λj hj=>by omega)),pre,(y1,y2),rfl,HI.eqs,hne,?_,?_,?_⟩
 ·rcases hj with rfl | rfl | rfl
  ·exact ⟨_,_,_,HI.r0⟩
  ·exact ⟨_,_,_,HI.r1⟩
  ·exact ⟨_,_,_,HI.r2⟩
 ·exact (setRow_other _ _ _ _ (by omega)).trans ((setRow_other _ _ _ _ (by omega)).trans (Qi _ _ _ _ _ _ HI.r0))
 ·exact (setRow_other _ _ _ _ (by omega)).trans (Qi _ _ _ _ _ _ k1)
 ·exact Qi _ _ _ _ _ _ k2
theorem JcL {P:Program} {fn:Func} {p p2 p3:Tmp} {ty ty2 ty3:TypeId} (h:fn.results= #[.cell p ty,.cell p2 ty2,.cell p3 ty3]) (tmps:Array Value) (w:World) (a a2 a3:Addr) (v v2 v3:Value)
  (hp:tmps.getD p undef=.pointer (some a)) (hp2:tmps.getD p2 undef=.pointer (some a2)) (hp3:tmps.getD p3 undef=.pointer (some a3)) (ha:(isAgg ty).run P w=.ok false w) (ha2:(isAgg ty2).run P w=.ok false w) (ha3:(isAgg ty3).run P w=.ok false w) (hc:w.cell? a=some v) (hc2:w.cell? a2=some v2) (hc3:w.cell? a3=some v3):
  (results fn tmps).run P w=.ok (.tuple #[v,v2,v3]) w:=by
 have hp':tmps[p]?.getD undef=.pointer (some a):=by simpa using hp
 have hp2':tmps[p2]?.getD undef=.pointer (some a2):=by simpa using hp2
 have hp3':tmps[p3]?.getD undef=.pointer (some a3):=by simpa using hp3
 simp [results,h,hp',hp2',hp3',asAddr,ZG w ty a v ha hc,ZG w ty2 a2 v2 ha2 hc2,ZG w ty3 a3 v3 ha3 hc3]
theorem JhB {l pre q post:List (BA×BA)} {x y:BA×BA} (hl:l=q++x :: post) (hq:∀z∈q,z.1=z.2) (hx:x.1 ≠ x.2) {q':List (BA×BA)} (hp:pre <+:l) (e1:pre=q'++[y]) (e2:∀z∈q',z.1=z.2) (e3:y.1 ≠ y.2):y=x:=by
 obtain ⟨r,hr⟩:=hp
 rw [e1,hl] at hr
 clear hl e1
 induction q generalizing q' with
 | nil=>
  cases q' with
  | nil=>simp at hr;exact hr.1
  | cons a q'=>
   simp at hr
   exact absurd (by rw [<-hr.1];exact e2 a (by simp)) hx
 | cons b q ih=>
  cases q' with
  | nil=>
   simp at hr
   exact absurd (by rw [hr.1];exact hq b (by simp)) e3
  | cons a q'=>
   simp only [List.cons_append,QH] at hr
   exact ih (λz hz=>hq z (by simp [hz])) (λz hz=>e2 z (by simp [hz])) hr.2
theorem JfF (v1 v2:Option Addr) (n1 c1 n2 c2:Nat) (w:World):
  CallsIn Fence.wide 3 prog 226 #[.slice v1 n1 c1,.slice v2 n2 c2] w λe w'=>e=.returned (.func (.func 297) #[] #[.pointer (some ⟨w.heap.size,0,none⟩),.pointer (some ⟨w.heap.size+1,0,none⟩)])/\w'=(w.alloc (.cells #[.slice v1 n1 c1] 58)).alloc (.cells #[.slice v2 n2 c2] 58):=by
 refine callsIn_wide.2 ?_
 have hmf:∀(fn:Fn) (first cap:Array Value) (w:World),(Instr.makeFunc fn first cap).run prog w=.ok (.func fn first cap) w:=λ_ _ _ _=>rfl
 go_enter func226,ntmps226
 go_wp2
 go_ret
 exact ⟨rfl,rfl⟩
theorem Jgb (ga ca gb cb:Nat) (A B:List BA) (hA:A.length<=1000000) (q post:List (BA×BA)) (x:BA×BA) (hl:A.zip B=q++x :: post) (hq:∀z∈q,z.1=z.2) (hx:x.1 ≠ x.2) (w:World) (hga:ga<w.heap.size) (hgb:gb<w.heap.size)
  (xa:∀(j:Nat) t,A[j]? =some t->w.cell? ⟨ga,j,none⟩=some (.string t)) (xb:∀(j:Nat) t,B[j]? =some t->w.cell? ⟨gb,j,none⟩=some (.string t)):
  CallsIn Fence.wide 5 prog 148 #[.slice (some ⟨ga,0,none⟩) A.length ca,.slice (some ⟨gb,0,none⟩) B.length cb] w λe W'=>e=.returned (.tuple #[.string x.1,.string x.2,.nilIface])/\Below w.heap.size w W':=by
 have h1:1<=5:=by omega
 have hro:Fence.wide.round=none:=rfl
 have HL:Hid (A.zip B=q++x :: post):=hl
 have HQ:Hid (∀z∈q,z.1=z.2):=hq
 have HX:Hid (x.1 ≠ x.2):=hx
 have HG:Hid (ga<w.heap.size/\gb<w.heap.size):=⟨hga,hgb⟩
 have HXA:Hid (∀(j:Nat) t,A[j]? =some t->w.cell? ⟨ga,j,none⟩=some (.string t)):=xa
 have HXB:Hid (∀(j:Nat) t,B[j]? =some t->w.cell? ⟨gb,j,none⟩=some (.string t)):=xb
 clear hl hq hx hga hgb xa xb
 refine callsIn_of_wp_marks func148 rfl trivial ?_ hro
 simp only [ntmps148,List.size_toArray,Qp,Qv,Nat.reduceAdd,Nat.reduceSub,Array.replicate_succ,Array.replicate_zero,List.push_toArray,List.append_toArray,List.nil_append,List.cons_append]
 gi_wp2
 refine ⟨trivial,(callsIn_wide.2 (callsIn_wide.1 (JfF _ _ _ _ _ _ _))).mono ?_⟩
 rintro _ _ ⟨rfl,rfl⟩
 gi_wp2
 obtain ⟨WD,hWD⟩:∃WD,WD=((((w.alloc (.cells #[.string ⟨#[]⟩] 9)).alloc (.cells #[.string ⟨#[]⟩] 9)).alloc (.cells #[.nilIface] 92)).alloc (.cells #[.slice (some ⟨ga,0,none⟩) A.length ca] 58)).alloc (.cells #[.slice (some ⟨gb,0,none⟩) B.length cb] 58):=⟨_,rfl⟩
 rw [<-hWD]
 have hB0:Below w.heap.size w WD:=by rw [hWD];exact (((((Below.refl _ w).alloc (Ql _) _).alloc (by simp) _).alloc (by simp;omega) _).alloc (by simp;omega) _).alloc (by simp;omega) _
 have hz:WD.heap.size=w.heap.size+5:=by rw [hWD];simp
 have hal:∀(V:World) (o:Obj) (j:Nat) (x:Obj),V.heap[j]? =some x->(V.alloc o).heap[j]? =some x:=λV o j x h=>(Below.heap_alloc V o j (Jb h)).trans h
 have hnw:∀(V:World) (o:Obj) (j:Nat),V.heap.size=j->(V.alloc o).heap[j]? =some o:=λV o j h=>by subst h;exact Qf V o
 have r0:WD.heap[w.heap.size]? =some (.cells #[.string ⟨#[]⟩] 9):=by rw [hWD];exact hal _ _ _ _ (hal _ _ _ _ (hal _ _ _ _ (hal _ _ _ _ (hnw _ _ _ (by simp)))))
 have r1:WD.heap[w.heap.size+1]? =some (.cells #[.string ⟨#[]⟩] 9):=by rw [hWD];exact hal _ _ _ _ (hal _ _ _ _ (hal _ _ _ _ (hnw _ _ _ (by simp))))
 have r2:WD.heap[w.heap.size+2]? =some (.cells #[.nilIface] 92):=by rw [hWD];exact hal _ _ _ _ (hal _ _ _ _ (hnw _ _ _ (by simp)))
 have r3:WD.heap[w.heap.size+3]? =some (.cells #[.slice (some ⟨ga,0,none⟩) A.length ca] 58):=by rw [hWD];exact hal _ _ _ _ (hnw _ _ _ (by simp))
 have r4:WD.heap[w.heap.size+4]? =some (.cells #[.slice (some ⟨gb,0,none⟩) B.length cb] 58):=by rw [hWD];exact hnw _ _ _ (by simp)
 have hU:TgAt w.heap.size (w.heap.size+3) (w.heap.size+4) ga ca gb cb A B WD:=⟨r3,r4,⟨HG.o.1,HG.o.2,by omega⟩,λj t ht=>(hB0.cell (p:=⟨ga,j,none⟩) HG.o.1).trans (HXA.o j t ht),λj t ht=>(hB0.cell (p:=⟨gb,j,none⟩) HG.o.2).trans (HXB.o j t ht)⟩
 have hI0:PtI w #[.slice (some ⟨ga,0,none⟩) A.length ca] #[.slice (some ⟨gb,0,none⟩) B.length cb] [] WD:=⟨hB0,λy hy=>(by cases hy),r0,r1,r2,r3,r4⟩
 clear hal hnw hWD r0 r1 r2 r3 r4
 refine wpIn_rangeFunc_ownF hro h1 (gf:=297) (lb:= #[.pointer (some ⟨w.heap.size+1+1+1,0,none⟩),.pointer (some ⟨w.heap.size+1+1+1+1,0,none⟩)]) rfl trivial (enters_of func297 (by kernel_rfl) rfl)
  (JgB 4 (by omega) (w.heap.size+1+1+1) (w.heap.size+1+1+1+1) w.heap.size ga ca gb cb A B hA WD hU) (λh k=>⟨h.1.trans k.1,λcs T hc=>k.2.1 cs T (h.2.1 cs T hc),λcs T hc=>k.2.2 cs T (h.2.2 cs T hc)⟩)
  (λW l o o' hl ho hc hw'=>⟨belowK_b (w:=w) (Ql _) W l o o' (by omega) ho hc hw',λcs T h=>Jv h (grownBy_putObj' _ l o') (λr e=>by cases e;exact ⟨o,ho,hc⟩),λcs T h=>Jv h (grownBy_putObj' _ l o') (λr e=>by cases e;exact ⟨o,ho,hc⟩)⟩) (Below.refl _ _) (λ_=>rfl)
  (PtI w #[.slice (some ⟨ga,0,none⟩) A.length ca] #[.slice (some ⟨gb,0,none⟩) B.length cb]) (λc pre W=>c=.ret/\PtX w pre W) (PtI.own (by omega)) (λc=>λs W W' row h hg hr=>⟨h.1,PtX.own (by omega) s W W' row h.2 hg hr⟩) hI0
  (λx=>{ tmps:= #[.slice (some ⟨ga,0,none⟩) A.length ca,.slice (some ⟨gb,0,none⟩) B.length cb,undef,undef,.pointer (some ⟨w.heap.size,0,none⟩),.pointer (some ⟨w.heap.size+1,0,none⟩),.pointer (some ⟨w.heap.size+1+1,0,none⟩),.string x.1,.string x.2,.slice (some ⟨ga,0,none⟩) A.length ca,.slice (some ⟨gb,0,none⟩) B.length cb,.func (.func 297) #[] #[.pointer (some ⟨w.heap.size+1+1+1,0,none⟩),.pointer (some ⟨w.heap.size+1+1+1+1,0,none⟩)],.string x.1,.string x.2,undef,undef,undef,undef,undef,undef,undef],defers:=[] }) ?assign ?body ?done ?stop
 case assign=>
  intro l x W K hK
  gi_wp2
  exact hK
 case body=>
  clear hI0 hU hB0
  rintro l pre y W hI hpl
  obtain ⟨y1,y2⟩:=y
  have HI:Hid (PtI w _ _ pre W):=hI
  have c0:W.cell? ⟨w.heap.size,0,none⟩=some (.string ⟨#[]⟩):=Ja hI.r0
  have c1:W.cell? ⟨w.heap.size+1,0,none⟩=some (.string ⟨#[]⟩):=Ja hI.r1
  have c2:W.cell? ⟨w.heap.size+1+1,0,none⟩=some .nilIface:=Ja hI.r2
  have f0:W.frozen? ⟨w.heap.size,0,none⟩=false:=Qg _ _ _ _ _ hI.r0
  have f1:W.frozen? ⟨w.heap.size+1,0,none⟩=false:=Qg _ _ _ _ _ hI.r1
  have f2:W.frozen? ⟨w.heap.size+1+1,0,none⟩=false:=Qg _ _ _ _ _ hI.r2
  clear hI
  by_cases he:y1=y2
  ·subst he
   gi_wp2
   refine ⟨⟨Ql _,λk o hk ho=>hk⟩,⟨Below.refl _ _,λcs T h=>h,λcs T h=>h⟩,HI.o.below,λz hz=>?_,HI.o.r0,HI.o.r1,HI.o.r2,HI.o.ba,HI.o.bb⟩
   rcases QE.1 hz with hz | hz
   ·exact HI.o.eqs z hz
   ·simp only [Qt] at hz;rw [hz]
  ·have hne:¬y1.toList=y2.toList:=λh=>he (ZV h)
   have hne2:(y1.toList == y2.toList)=false:=by simp [hne]
   have HNE:Hid (y1 ≠ y2):=he
   clear he
   gi_wp2
   have ht:=HI.o.two HNE.o
   exact ⟨ht.1,rfl,ht.2⟩
 case done=>
  rintro D ys W hD hys hI hK
  exfalso
  refine HX.o (hI.eqs x ?_)
  rw [hys,HL.o]
  simp
 case stop=>
  rintro D c pre W hD hpre ⟨rfl,hX⟩ hK
  obtain ⟨q',y,e1,e2,e3,e4,e5,e6⟩:=hX.two
  obtain rfl:=JhB HL.o HQ.o HX.o hpre e1 e2 e3
  have hbe:=hX.below
  have HBE:Hid (Below _ _ _):=hbe
  have HE4:Hid (W.heap[w.heap.size]? =_):=e4
  have HE5:Hid (W.heap[w.heap.size+1]? =_):=e5
  have HE6:Hid (W.heap[w.heap.size+2]? =_):=e6
  clear e1 e2 e3 e4 e5 e6 hX hpre hbe hI0 hU hB0
  gi_wp2
  have hg:=grownBy_putObj' W D (.deferred none)
  have hr':∀r,some D=some r->∃o:Obj,W.heap[r]? =some o/\o.isCells=false:=λr e=>by cases e;exact ⟨_,hK,rfl⟩
  refine ⟨by simp,.inl ⟨_,_,rfl,run_takeDeferred hK,?_⟩⟩
  refine ⟨_,JcL results148 _ _ ⟨w.heap.size,0,none⟩ ⟨w.heap.size+1,0,none⟩ ⟨w.heap.size+1+1,0,none⟩ (.string y.1) (.string y.2) .nilIface rfl rfl rfl (isAgg9 _) (isAgg9 _) (isAgg92 _) (Ja (Jv HE4.o hg hr')) (Ja (Jv HE5.o hg hr')) (Ja (Jv HE6.o hg hr')),rfl,?_⟩
  exact HBE.o.trans (belowK_b (w:=w) (Ql _) W D _ _ (by omega) hK rfl rfl)
open Go.RowKit

def Alk (w:World):Prop:=∃t u,w.cell? ⟨8,0,none⟩=some (.iface t u)
theorem Alk.tch {S:Nat->Prop} {w w':World} (h:Alk w) (k:Tch S w w') (hs:¬S 8):Alk w':=by
 obtain ⟨t,u,h⟩:=h
 exact ⟨t,u,(k.cell (Qr _ _ h) hs).trans h⟩
def Ja5 (e:Ending) (x:Int) (y z:Nat) (ga:Option Addr) (gl gc:Nat) (ev:Value):Prop:=e=.returned (.tuple #[.agg #[.int .i64 x,.int .u64 (y:Int),.int .u8 (z:Int),.slice ga gl gc],ev])
def XTwo (same:Prop) (R:Ending->World->Prop) (e:Ending) (w':World):Prop:=(same->∃t u,e=.returned (.tuple #[.string ⟨#[]⟩,.string ⟨#[]⟩,.iface t u]))/\(¬same->R e w')
def XBad (w:World) (e:Ending) (w':World):Prop:=Tch NoB w w'/\∃t u,e=.returned (.tuple #[.string ⟨#[]⟩,.string ⟨#[]⟩,.iface t u])
theorem JeW (E:Nat->Addr) (wd:Nat) (hw1:1<=wd) (hw:wd<=32) (h:HdL) (hh:HdOk wd h) (c:BA×Int) (hc:Jo wd c) (s1 s2:BA) (w:World) (hE:Env E w)
  (h1:∀W,Tch NoB w W->Calls prog 144 #[qV wd h.2.2.2 ⟨(Jd c).toArray⟩,.string s1] W λe w'=>Tch NoB W w'/\∃x y z ga gl gc t u,Ja5 e x y z ga gl gc (.iface t u)):
  Calls prog 94 #[.int .i64 (wd:Int),.string ⟨(hdrB h).toArray⟩,.agg #[.string c.1,.int .i64 c.2],.string s1,.string s2] w (XBad w):=by
 have HASK:Hid (∀W,Tch NoB w W->Calls prog 143 _ W _):=λW hT=>Jcn E wd hw1 hw h hh c hc W (hE.tch hT noE)
 have HC1:Hid (∀W,Tch NoB w W->_):=h1
 clear hE hh hc h1
 generalize h.2.2.2=st at *
 generalize (⟨(hdrB h).toArray⟩:BA)=hb at *
 obtain ⟨s,N⟩:=c
 dsimp only at HASK HC1 ⊢
 generalize (⟨(Jd (s,N)).toArray⟩:BA)=kb at *
 go_enter func94,ntmps94
 go_wp2_with fail
 refine (HASK.o _ (Tch.alloc _ _ _)).mono ?_
 rintro _ w1 ⟨rfl,ht1⟩
 have HT1:Hid (Tch NoB w w1):=(Tch.alloc NoB w _).go ht1
 clear ht1 HASK
 go_wp2_with fail
 refine (HC1.o _ (HT1.o.go (Tch.alloc _ _ _))).mono ?_
 rintro _ w2 ⟨ht2,x,y,z,ga,gl,gc,t,u,rfl⟩
 have HT2:Hid (Tch NoB w w2):=(HT1.o.go (Tch.alloc _ _ _)).go ht2
 clear ht2 HC1
 go_wp2_with fail
 refine (Xr _ _ _ _).mono ?_
 rintro _ w3 ⟨rfl,hw3⟩
 have HT3:Hid (Tch NoB w w3):=by rw [hw3];exact (HT2.o.go (Tch.alloc _ _ _)).go (Tch.alloc _ _ _)
 clear hw3
 go_wp2
 refine QJ (v:=.tuple #[.string ⟨#[]⟩,.string ⟨#[]⟩,_]) (results_tmp3 results94 _ _ _) rfl ?_
 exact ⟨HT3.o,_,_,rfl⟩
theorem JeX (E:Nat->Addr) (wd:Nat) (hw1:1<=wd) (hw:wd<=32) (h:HdL) (hh:HdOk wd h) (c:BA×Int) (hc:Jo wd c) (s1 s2:BA) (w:World) (hE:Env E w)
  (h1:∀W,Tch NoB w W->Calls prog 144 #[qV wd h.2.2.2 ⟨(Jd c).toArray⟩,.string s1] W λe w'=>Tch NoB W w'/\∃x y z ga gl gc,Ja5 e x y z ga gl gc .nilIface)
  (h2:∀W,Tch NoB w W->Calls prog 144 #[qV wd h.2.2.2 ⟨(Jd c).toArray⟩,.string s2] W λe w'=>Tch NoB W w'/\∃x y z ga gl gc t u,Ja5 e x y z ga gl gc (.iface t u)):
  Calls prog 94 #[.int .i64 (wd:Int),.string ⟨(hdrB h).toArray⟩,.agg #[.string c.1,.int .i64 c.2],.string s1,.string s2] w (XBad w):=by
 have HASK:Hid (∀W,Tch NoB w W->Calls prog 143 _ W _):=λW hT=>Jcn E wd hw1 hw h hh c hc W (hE.tch hT noE)
 have HC1:Hid (∀W,Tch NoB w W->_):=h1
 have HC2:Hid (∀W,Tch NoB w W->_):=h2
 clear hE hh hc h1 h2
 generalize h.2.2.2=st at *
 generalize (⟨(hdrB h).toArray⟩:BA)=hb at *
 obtain ⟨s,N⟩:=c
 dsimp only at HASK HC1 HC2 ⊢
 generalize (⟨(Jd (s,N)).toArray⟩:BA)=kb at *
 go_enter func94,ntmps94
 go_wp2_with fail
 refine (HASK.o _ (Tch.alloc _ _ _)).mono ?_
 rintro _ w1 ⟨rfl,ht1⟩
 obtain ⟨W2,hW2⟩:∃W2,W2=w1.alloc (.cells #[.int .i64 (wd:Int),.string st,.string kb] 248):=⟨_,rfl⟩
 have t2:Tch NoB w1 W2:=by rw [hW2];exact Tch.alloc _ _ _
 have hr2:W2.heap[w1.heap.size]? =some (.cells #[.int .i64 (wd:Int),.string st,.string kb] 248):=by rw [hW2];exact Qf _ _
 have HQC:Hid (∀V,Tch NoB W2 V->V.cell? ⟨w1.heap.size,0,none⟩=some (.int .i64 (wd:Int))/\V.cell? ⟨w1.heap.size,1,none⟩=some (.string st)/\V.cell? ⟨w1.heap.size,2,none⟩=some (.string kb)):=λV hT=>by
  have:=(hT.block _ (Jb hr2) (λh=>h)).trans hr2
  exact ⟨Ja this,Ja this,Ja this⟩
 have HT2:Hid (Tch NoB w W2):=((Tch.alloc NoB w _).go ht1).go t2
 have HW2:Hid (W2=_):=hW2
 obtain ⟨q0,q1,q2⟩:=HQC.o W2 (Tch.refl _ _)
 clear ht1 HASK t2 hr2 hW2
 go_upto_region 2 with fail
 rw [<-HW2.o]
 go_wp2_with fail
 refine (HC1.o _ HT2.o).mono ?_
 rintro _ w3 ⟨ht3,x,y,z,ga,gl,gc,rfl⟩
 have HT3:Hid (Tch NoB W2 (w3.alloc (.cells #[.int .i64 x,.int .u64 (y:Int),.int .u8 (z:Int),.slice ga gl gc] 252))):=ht3.go (Tch.alloc _ _ _)
 clear ht3 HC1 q0 q1 q2
 obtain ⟨q0,q1,q2⟩:=HQC.o _ HT3.o
 go_wp2_with fail
 refine (HC2.o _ (HT2.o.go HT3.o)).mono ?_
 rintro _ w4 ⟨ht4,x',y',z',ga',gl',gc',t,u,rfl⟩
 have HT4:Hid (Tch NoB w w4):=(HT2.o.go HT3.o).go ht4
 clear ht4 HC2 HT3 q0 q1 q2
 go_wp2_with fail
 refine (Xr _ _ _ _).mono ?_
 rintro _ w5 ⟨rfl,hw5⟩
 have HT5:Hid (Tch NoB w w5):=by rw [hw5];exact (HT4.o.go (Tch.alloc _ _ _)).go (Tch.alloc _ _ _)
 clear hw5
 go_wp2
 refine QJ (v:=.tuple #[.string ⟨#[]⟩,.string ⟨#[]⟩,_]) (results_tmp3 results94 _ _ _) rfl ?_
 exact ⟨HT5.o,_,_,rfl⟩
theorem JeY (E:Nat->Addr) (wd:Nat) (hw1:1<=wd) (hw:wd<=32) (h:HdL) (hh:HdOk wd h) (c:BA×Int) (hc:Jo wd c) (s1 s2:BA) (w:World) (hE:Env E w)
  (x:Int) (y z:Nat) (gl:Nat) (x':Int) (y' z':Nat) (gl':Nat) (P1 P2:Nat->World->Prop) (R:Ending->World->Prop)
  (hP1:∀g V V',P1 g V->Tch NoB V V'->P1 g V')
  (h1:∀W,Tch NoB w W->Calls prog 144 #[qV wd h.2.2.2 ⟨(Jd c).toArray⟩,.string s1] W λe w'=>Tch NoB W w'/\∃g cap,Ja5 e x y z (some ⟨g,0,none⟩) gl cap .nilIface/\P1 g w')
  (h2:∀W,Tch NoB w W->Calls prog 144 #[qV wd h.2.2.2 ⟨(Jd c).toArray⟩,.string s2] W λe w'=>Tch NoB W w'/\∃g cap,Ja5 e x' y' z' (some ⟨g,0,none⟩) gl' cap .nilIface/\P2 g w')
  (hal:∀W,Tch NoB w W->Alk W)
  (hpart:¬(x=x'/\y=y'/\z=z')->∀W g g' cap cap',Tch NoB w W->P1 g W->P2 g' W->Calls prog 148 #[.slice (some ⟨g,0,none⟩) gl cap,.slice (some ⟨g',0,none⟩) gl' cap'] W λe w'=>Tch NoB W w'/\∃sx sy:BA,R (.returned (.tuple #[.string sx,.string sy,.nilIface])) w'/\e=.returned (.tuple #[.string sx,.string sy,.nilIface]))
  (hP2:∀g V V',P2 g V->Tch NoB V V'->P2 g V'):
  Calls prog 94 #[.int .i64 (wd:Int),.string ⟨(hdrB h).toArray⟩,.agg #[.string c.1,.int .i64 c.2],.string s1,.string s2] w λe w'=>Tch NoB w w'/\XTwo (x=x'/\y=y'/\z=z') R e w':=by
 have HASK:Hid (∀W,Tch NoB w W->Calls prog 143 _ W _):=λW hT=>Jcn E wd hw1 hw h hh c hc W (hE.tch hT noE)
 have HC1:Hid (∀W,Tch NoB w W->_):=h1
 have HC2:Hid (∀W,Tch NoB w W->_):=h2
 have HAL:Hid (∀W,Tch NoB w W->Alk W):=hal
 have HPA:Hid (¬(x=x'/\y=y'/\z=z')->_):=hpart
 have HP1:Hid (∀g V V',P1 g V->Tch NoB V V'->P1 g V'):=hP1
 have HP2:Hid (∀g V V',P2 g V->Tch NoB V V'->P2 g V'):=hP2
 clear hE hh hc h1 h2 hal hpart hP1 hP2
 generalize h.2.2.2=st at *
 generalize (⟨(hdrB h).toArray⟩:BA)=hb at *
 obtain ⟨s,N⟩:=c
 dsimp only at HASK HC1 HC2 ⊢
 generalize (⟨(Jd (s,N)).toArray⟩:BA)=kb at *
 go_enter func94,ntmps94
 go_wp2_with fail
 refine (HASK.o _ (Tch.alloc _ _ _)).mono ?_
 rintro _ w1 ⟨rfl,ht1⟩
 obtain ⟨W2,hW2⟩:∃W2,W2=w1.alloc (.cells #[.int .i64 (wd:Int),.string st,.string kb] 248):=⟨_,rfl⟩
 have t2:Tch NoB w1 W2:=by rw [hW2];exact Tch.alloc _ _ _
 have hr2:W2.heap[w1.heap.size]? =some (.cells #[.int .i64 (wd:Int),.string st,.string kb] 248):=by rw [hW2];exact Qf _ _
 have HQC:Hid (∀V,Tch NoB W2 V->V.cell? ⟨w1.heap.size,0,none⟩=some (.int .i64 (wd:Int))/\V.cell? ⟨w1.heap.size,1,none⟩=some (.string st)/\V.cell? ⟨w1.heap.size,2,none⟩=some (.string kb)):=λV hT=>by
  have:=(hT.block _ (Jb hr2) (λh=>h)).trans hr2
  exact ⟨Ja this,Ja this,Ja this⟩
 have HT2:Hid (Tch NoB w W2):=((Tch.alloc NoB w _).go ht1).go t2
 have HW2:Hid (W2=_):=hW2
 obtain ⟨q0,q1,q2⟩:=HQC.o W2 (Tch.refl _ _)
 clear ht1 HASK t2 hr2 hW2
 go_upto_region 2 with fail
 rw [<-HW2.o]
 go_wp2_with fail
 refine (HC1.o _ HT2.o).mono ?_
 rintro _ w3 ⟨ht3,g,cap,rfl,hp3⟩
 obtain ⟨W3,hW3⟩:∃W3,W3=w3.alloc (.cells #[.int .i64 x,.int .u64 (y:Int),.int .u8 (z:Int),.slice (some ⟨g,0,none⟩) gl cap] 252):=⟨_,rfl⟩
 have t3:Tch NoB w3 W3:=by rw [hW3];exact Tch.alloc _ _ _
 have hr3:W3.heap[w3.heap.size]? =some (.cells #[.int .i64 x,.int .u64 (y:Int),.int .u8 (z:Int),.slice (some ⟨g,0,none⟩) gl cap] 252):=by rw [hW3];exact Qf _ _
 have HAC:Hid (∀V,Tch NoB W3 V->V.cell? ⟨w3.heap.size,0,none⟩=some (.int .i64 x)/\V.cell? ⟨w3.heap.size,1,none⟩=some (.int .u64 (y:Int))/\V.cell? ⟨w3.heap.size,2,none⟩=some (.int .u8 (z:Int))/\V.cell? ⟨w3.heap.size,3,none⟩=some (.slice (some ⟨g,0,none⟩) gl cap)):=λV hT=>by
  have:=(hT.block _ (Jb hr3) (λh=>h)).trans hr3
  exact ⟨Ja this,Ja this,Ja this,Ja this⟩
 have HT3:Hid (Tch NoB W2 W3):=ht3.go t3
 have HG1:Hid (P1 g W3):=HP1.o _ _ _ hp3 t3
 have HW3:Hid (W3=_):=hW3
 clear ht3 HC1 q0 q1 q2 hp3 t3 hr3 hW3
 obtain ⟨q0,q1,q2⟩:=HQC.o _ HT3.o
 go_upto_region 5 with fail
 rw [<-HW3.o]
 go_wp2_with fail
 refine (HC2.o _ (HT2.o.go HT3.o)).mono ?_
 rintro _ w4 ⟨ht4,g',cap',rfl,hp4⟩
 obtain ⟨W4,hW4⟩:∃W4,W4=w4.alloc (.cells #[.int .i64 x',.int .u64 (y':Int),.int .u8 (z':Int),.slice (some ⟨g',0,none⟩) gl' cap'] 252):=⟨_,rfl⟩
 have t4:Tch NoB w4 W4:=by rw [hW4];exact Tch.alloc _ _ _
 have hr4:W4.heap[w4.heap.size]? =some (.cells #[.int .i64 x',.int .u64 (y':Int),.int .u8 (z':Int),.slice (some ⟨g',0,none⟩) gl' cap'] 252):=by rw [hW4];exact Qf _ _
 have HT4:Hid (Tch NoB w W4):=((HT2.o.go HT3.o).go ht4).go t4
 have HG2:Hid (P2 g' W4):=HP2.o _ _ _ hp4 t4
 have HG3:Hid (P1 g W4):=HP1.o _ _ _ HG1.o (ht4.go t4)
 obtain ⟨a0,a1,a2,a3⟩:=HAC.o W4 (ht4.go t4)
 have b0:W4.cell? ⟨w4.heap.size,0,none⟩=some (.int .i64 x'):=Ja hr4
 have b1:W4.cell? ⟨w4.heap.size,1,none⟩=some (.int .u64 (y':Int)):=Ja hr4
 have b2:W4.cell? ⟨w4.heap.size,2,none⟩=some (.int .u8 (z':Int)):=Ja hr4
 have b3:W4.cell? ⟨w4.heap.size,3,none⟩=some (.slice (some ⟨g',0,none⟩) gl' cap'):=Ja hr4
 have HW4:Hid (W4=_):=hW4
 obtain ⟨t,u,hal⟩:=HAL.o W4 HT4.o
 clear ht4 hp4 t4 hr4 hW4 HC2 q0 q1 q2 HT3 HG1 HAC HQC
 go_upto_region 8 with fail
 rw [<-HW4.o]
 by_cases heq:x=x'/\y=y'/\z=z'
 ·obtain ⟨rfl,rfl,rfl⟩:=heq
  clear HPA
  go_wp2_with fail
  refine (Xr _ _ _ _).mono ?_
  rintro _ w5 ⟨rfl,hw5⟩
  have HT5:Hid (Tch NoB w w5):=by rw [hw5];exact HT4.o.go (Tch.alloc _ _ _)
  clear hw5
  go_wp2
  refine QJ (v:=.tuple #[.string ⟨#[]⟩,.string ⟨#[]⟩,_]) (results_tmp3 results94 _ _ _) rfl ?_
  exact ⟨HT5.o,λ_=>⟨_,_,rfl⟩,λh=>(h (by simp)).elim⟩
 ·have HPC:Hid (∀W g g' cap cap',_):=HPA.o heq
  have HNE:Hid (¬(x=x'/\y=y'/\z=z')):=heq
  clear HPA
  by_cases hx:x=x'
  ·by_cases hy:y=y'
   ·have hz:¬(z:Int)=(z':Int):=λh=>heq ⟨hx,hy,by omega⟩
    subst hx hy
    clear heq
    go_wp2_with fail
    refine (HPC.o _ _ _ _ _ HT4.o HG3.o HG2.o).mono ?_
    rintro _ w5 ⟨ht5,sx,sy,hR,rfl⟩
    have HT5:Hid (Tch NoB w w5):=HT4.o.go ht5
    have HR:Hid (R _ w5):=hR
    clear ht5 hR HPC
    go_wp2
    refine QJ (v:=.tuple #[.string sx,.string sy,.nilIface]) (results_tmp3 results94 _ _ _) rfl ?_
    exact ⟨HT5.o,λh=>absurd h (by simpa using HNE.o),λ_=>HR.o⟩
   ·have hy2:¬(y:Int)=(y':Int):=λh=>hy (by omega)
    subst hx
    clear heq hy
    go_wp2_with fail
    refine (HPC.o _ _ _ _ _ HT4.o HG3.o HG2.o).mono ?_
    rintro _ w5 ⟨ht5,sx,sy,hR,rfl⟩
    have HT5:Hid (Tch NoB w w5):=HT4.o.go ht5
    have HR:Hid (R _ w5):=hR
    clear ht5 hR HPC
    go_wp2
    refine QJ (v:=.tuple #[.string sx,.string sy,.nilIface]) (results_tmp3 results94 _ _ _) rfl ?_
    exact ⟨HT5.o,λh=>absurd h (by simpa using HNE.o),λ_=>HR.o⟩
  ·clear heq
   go_wp2_with fail
   refine (HPC.o _ _ _ _ _ HT4.o HG3.o HG2.o).mono ?_
   rintro _ w5 ⟨ht5,sx,sy,hR,rfl⟩
   have HT5:Hid (Tch NoB w w5):=HT4.o.go ht5
   have HR:Hid (R _ w5):=hR
   clear ht5 hR HPC
   go_wp2
   refine QJ (v:=.tuple #[.string sx,.string sy,.nilIface]) (results_tmp3 results94 _ _ _) rfl ?_
   exact ⟨HT5.o,λh=>absurd h (by simpa using HNE.o),λ_=>HR.o⟩
theorem Jjj {w:World} (wd:Nat) (hb s1 s2:BA) (c:BA×Int) (P:BA->BA->Bool->Prop) (h:∀W,Tch NoB w W->Calls prog 94 #[.int .i64 (wd:Int),.string hb,.agg #[.string c.1,.int .i64 c.2],.string s1,.string s2] W λe w'=>Tch NoB W w'/\∃sx sy ev,e=.returned (.tuple #[.string sx,.string sy,ev])/\((ev=.nilIface/\P sx sy true)\/(∃t u,ev=.iface t u)/\P sx sy false)):
  Calls prog 51 #[.int .i64 (wd:Int),.string hb,.agg #[.string c.1,.int .i64 c.2],.string s1,.string s2] w λe w'=>Tch NoB w w'/\∃sx sy b,P sx sy b/\e=.returned (.tuple #[.string sx,.string sy,.bool b]):=by
 obtain ⟨s,N⟩:=c
 have H:Hid (∀W,Tch NoB w W->Calls _ _ _ W _):=h
 clear h
 dsimp only at H ⊢
 go_enter func51,ntmps51
 go_wp2_with fail
 refine (H.out _ (Tch.alloc _ _ _)).mono ?_
 rintro _ w1 ⟨ht1,sx,sy,ev,rfl,hev⟩
 have HT1:Hid (Tch NoB w w1):=(Tch.alloc NoB w _).go ht1
 clear ht1 H
 rcases hev with ⟨rfl,hP⟩ | ⟨⟨t,u,rfl⟩,hP⟩
 ·have HP:Hid (P sx sy true):=hP
  clear hP
  go_upto_region 2 with fail
  go_quiet (fail)
  go_wp2
  refine QJ (v:=.tuple #[.string sx,.string sy,.bool true]) (results_tmp3 results51 _ _ _) rfl ?_
  exact ⟨HT1.o.go (Tch.drewN _ _ _),sx,sy,true,HP.o,rfl⟩
 ·have HP:Hid (P sx sy false):=hP
  clear hP
  go_upto_region 2 with fail
  go_quiet (fail)
  go_wp2
  refine QJ (v:=.tuple #[.string sx,.string sy,.bool false]) (results_tmp3 results51 _ _ _) rfl ?_
  exact ⟨HT1.o.go (Tch.drewN _ _ _),sx,sy,false,HP.o,rfl⟩

theorem Jdq {wd:Nat} {key:Key} (hk:key.length=wd+1) (hw:wd<=32) {state:BA} {s:List UInt8} {wy:Wy} (h:chk wd key state s=some wy):wy.Holds (dgW wd) key state/\WyOk wd wy:=by
 unfold chk at h
 cases hR:(PS.rd [] s).way wd [] false ⟨#[]⟩ (0,0) with
 | none=>rw [hR] at h;cases h
 | some x=>
  obtain ⟨wy',p⟩:=x
  obtain ⟨hok,q,r,rfl⟩:=ZT hR
  rw [hR] at h
  cases r with
  | cons a r=>cases h
  | nil=>
   dsimp only at h
   split at h
   ·rename_i hc
    cases h
    refine ⟨⟨hc.1,λx hx=>by have:=(hok.steps x hx).1;omega,λx hx l=>by rw [(hok.steps x hx).2,Ju wd hw],hok.bare,λhne=>?_,hc.2⟩,hok⟩
    cases h2:wy.2 with
    | none=>exact absurd h2 hne
    | some x=>simp only [JT,h2];rw [hk];exact (hok.key x h2).1
   ·cases h
theorem JdH:∀(A B:List (List UInt8)) (x y:List UInt8),YU A B=some (x,y)->∃q post,(A.map (λt=>(⟨t.toArray⟩:BA))).zip (B.map (λt=>(⟨t.toArray⟩:BA)))=q++((⟨x.toArray⟩:BA),(⟨y.toArray⟩:BA)) :: post/\∀z∈q,z.1=z.2
 | [],_,_,_,h=>by simp [YU] at h
 | _ :: _,[],_,_,h=>by simp [YU] at h
 | a :: A,b :: B,x,y,h=>by
  unfold YU at h
  split at h
  ·rename_i he
   obtain ⟨q,post,e1,e2⟩:=JdH A B x y h
   refine ⟨((⟨a.toArray⟩:BA),(⟨b.toArray⟩:BA)) :: q,post,by simp only [List.map_cons,List.zip_cons_cons,e1,List.cons_append],λz hz=>?_⟩
   rcases List.mem_cons.1 hz with rfl | hz
   ·rw [he]
   ·exact e2 z hz
  ·cases h
   exact ⟨[],_,rfl,λz hz=>by cases hz⟩
theorem JbD:∀(A B:List (List UInt8)) (x y:List UInt8),YU A B=some (x,y)->x∈A/\y∈B
 | [],_,_,_,h=>by simp [YU] at h
 | _ :: _,[],_,_,h=>by simp [YU] at h
 | a :: A,b :: B,x,y,h=>by
  unfold YU at h
  split at h
  ·obtain ⟨h1,h2⟩:=JbD A B x y h
   exact ⟨by simp [h1],by simp [h2]⟩
  ·cases h
   exact ⟨by simp,by simp⟩
theorem Jfc {wd:Nat} (hw:wd<=32) {wy:Wy} (hok:WyOk wd wy) {t:List UInt8} (h:t∈wy.nodes (dgW wd)):t.length<=1000:=by
 obtain ⟨i,hi,rfl⟩:=List.getElem_of_mem h
 have hl:(wy.nodes (dgW wd)).length=wy.1.length+1:=Xk _ _ _ _
 have h1:(wy.nodes (dgW wd))[i]? =some (YN (dgW wd) (JT wy) (JS wy.2) wy.1 i):=YA (dgW wd) (JT wy) (JS wy.2) wy.1 i (by omega)
 rw [Qd hi] at h1
 rw [Option.some.inj h1]
 exact ZH wd hw _ _ (YK hw hok) _ hok.steps i (by omega)
theorem JkD {wd:Nat} (hw:wd<=32) {key:Key} {state:BA} {wy:Wy} (hok:WyOk wd wy) (hb:∀s∈wy.1,bt key s.1=bt (JT wy) s.1) (hr:dgW wd ((wy.nodes (dgW wd)).headD [])=state):chk wd key state (wayB wy)=some wy:=by
 unfold chk
 rw [Jkr (by omega) hok]
 exact if_pos ⟨hb,hr⟩
def XP (wd:Nat) (wy:Wy) (g:Nat) (W:World):Prop:=g<W.heap.size/\∀(j:Nat) t,((wy.nodes (dgW wd)).map (λt=>(⟨t.toArray⟩:BA)))[j]? =some t->W.cell? ⟨g,j,none⟩=some (.string t)
theorem XP.tch {wd:Nat} {wy:Wy} {g:Nat} {V V':World} (h:XP wd wy g V) (k:Tch NoB V V'):XP wd wy g V':=
 ⟨Qk h.1 k.size,λj t ht=>(k.cell (p:=⟨g,j,none⟩) h.1 (λh=>h)).trans (h.2 j t ht)⟩
def Jcr (wd:Nat) (k:Key) (r1 r2:Option Wy) (sx sy:BA) (b:Bool):Prop:=match r1,r2 with
 | some w1,some w2=>if w1.said k=w2.said k then b=false/\sx=⟨#[]⟩/\sy=⟨#[]⟩ else b=true/\sx.size<=1000/\sy.size<=1000/\sx ≠ sy/\dgW wd sx.data.toList=dgW wd sy.data.toList
 | _,_=>b=false/\sx=⟨#[]⟩/\sy=⟨#[]⟩
theorem JeV (E:Nat->Addr) (wd:Nat) (hw1:1<=wd) (hw:wd<=32) (h:HdL) (hh:HdOk wd h) (c:BA×Int) (hc:Jo wd c) (s1 s2:BA) (hs1:s1.size<=2000000) (hs2:s2.size<=2000000) (w:World) (hE:Env E w) (hA:Ast w) (hL:Alk w):
  Calls Tryz.prog 51 #[.int .i64 (wd:Int),.string ⟨(hdrB h).toArray⟩,.agg #[.string c.1,.int .i64 c.2],.string s1,.string s2] w λe w'=>Tch NoB w w'/\∃sx sy b,Jcr wd (Jd c) (chk wd (Jd c) h.2.2.2 s1.data.toList) (chk wd (Jd c) h.2.2.2 s2.data.toList) sx sy b/\e=.returned (.tuple #[.string sx,.string sy,.bool b]):=by
 have hk:=YY hc
 have H1:=λW (hT:Tch NoB w W)=>Jbx E wd hw1 hw h.2.2.2 (Jd c) hk s1 hs1 W (hE.tch hT noE) (hA.tch hT (λh=>h))
 have H2:=λW (hT:Tch NoB w W)=>Jbx E wd hw1 hw h.2.2.2 (Jd c) hk s2 hs2 W (hE.tch hT noE) (hA.tch hT (λh=>h))
 refine Jjj wd _ s1 s2 c _ (λW hT=>?_)
 cases hr1:chk wd (Jd c) h.2.2.2 s1.data.toList with
 | none=>
  rw [hr1] at H1
  refine (JeW E wd hw1 hw h hh c hc s1 s2 W (hE.tch hT noE) (λV hV=>?_)).mono ?_
  ·refine (H1 V (hT.go hV)).mono ?_
   rintro e w' ⟨ht,t,u,he⟩
   exact ⟨ht,0,0,0,none,0,0,t,u,he⟩
  ·rintro e w' ⟨ht,t,u,he⟩
   exact ⟨ht,_,_,_,he,.inr ⟨⟨t,u,rfl⟩,rfl,rfl,rfl⟩⟩
 | some w1=>
  rw [hr1] at H1
  have HC1:∀(x:Int) (y z:Nat),XL (w1.said (Jd c))=.agg #[.int .i64 x,.int .u64 (y:Int),.int .u8 (z:Int)]->∀V,Tch NoB W V->Calls Tryz.prog 144 #[qV wd h.2.2.2 ⟨(Jd c).toArray⟩,.string s1] V λe w'=>Tch NoB V w'/\∃g cap,Ja5 e x y z (some ⟨g,0,none⟩) (w1.1.length+1) cap .nilIface/\XP wd w1 g w':=λx y z hxyz V hV=>by
   refine (H1 V (hT.go hV)).mono ?_
   rintro e w' ⟨ht,x',y',z',g,cap,hsv,he,hg,hcs⟩
   rw [hxyz] at hsv
   simp only [Value.agg.injEq,Array.mk.injEq,QH,Value.int.injEq,true_and,and_true] at hsv
   obtain ⟨rfl,hy,hz⟩:=hsv
   refine ⟨ht,g,cap,?_,hg,λj t ht=>?_⟩
   ·unfold Ja5;rw [he,hy,hz]
   ·rw [List.getElem?_map] at ht
    obtain ⟨t',h1,rfl⟩:=Option.map_eq_some_iff.1 ht
    exact hcs j t' h1
  cases hr2:chk wd (Jd c) h.2.2.2 s2.data.toList with
  | none=>
   rw [hr2] at H2
   refine (JeX E wd hw1 hw h hh c hc s1 s2 W (hE.tch hT noE) (λV hV=>?_) (λV hV=>?_)).mono ?_
   ·obtain ⟨x,y,z,hxyz,_⟩:=ZP (w1.said (Jd c))
    refine (HC1 x y z hxyz V hV).mono ?_
    rintro e w' ⟨ht,g,cap,he,_⟩
    exact ⟨ht,x,y,z,_,_,_,he⟩
   ·refine (H2 V (hT.go hV)).mono ?_
    rintro e w' ⟨ht,t,u,he⟩
    exact ⟨ht,0,0,0,none,0,0,t,u,he⟩
   ·rintro e w' ⟨ht,t,u,he⟩
    exact ⟨ht,_,_,_,he,.inr ⟨⟨t,u,rfl⟩,rfl,rfl,rfl⟩⟩
  | some w2=>
   rw [hr2] at H2
   obtain ⟨x,y,z,hxyz,hx⟩:=ZP (w1.said (Jd c))
   obtain ⟨x',y',z',hxyz',hx'⟩:=ZP (w2.said (Jd c))
   have hsame:(x=x'/\y=y'/\z=z')↔w1.said (Jd c)=w2.said (Jd c):=by
    rcases hx with ⟨e,rfl,rfl,rfl⟩ | ⟨e,rfl⟩ <;> rcases hx' with ⟨e',rfl,rfl,rfl⟩ | ⟨e',rfl⟩ <;> rw [e,e'] <;> simp
   obtain ⟨hh1,ok1⟩:=Jdq hk hw hr1
   obtain ⟨hh2,ok2⟩:=Jdq hk hw hr2
   have HC2:∀V,Tch NoB W V->Calls Tryz.prog 144 #[qV wd h.2.2.2 ⟨(Jd c).toArray⟩,.string s2] V λe w'=>Tch NoB V w'/\∃g cap,Ja5 e x' y' z' (some ⟨g,0,none⟩) (w2.1.length+1) cap .nilIface/\XP wd w2 g w':=λV hV=>by
    refine (H2 V (hT.go hV)).mono ?_
    rintro e w' ⟨ht,a,b,d,g,cap,hsv,he,hg,hcs⟩
    rw [hxyz'] at hsv
    simp only [Value.agg.injEq,Array.mk.injEq,QH,Value.int.injEq,true_and,and_true] at hsv
    obtain ⟨rfl,hy,hz⟩:=hsv
    refine ⟨ht,g,cap,?_,hg,λj t ht=>?_⟩
    ·unfold Ja5;rw [he,hy,hz]
    ·rw [List.getElem?_map] at ht
     obtain ⟨t',h1,rfl⟩:=Option.map_eq_some_iff.1 ht
     exact hcs j t' h1
   refine (JeY E wd hw1 hw h hh c hc s1 s2 W (hE.tch hT noE) x y z (w1.1.length+1) x' y' z' (w2.1.length+1) (XP wd w1) (XP wd w2) (λe _=>∃sx sy,e=.returned (.tuple #[.string sx,.string sy,.nilIface])/\sx.size<=1000/\sy.size<=1000/\sx ≠ sy/\dgW wd sx.data.toList=dgW wd sy.data.toList) (λg V V' h k=>h.tch k) (HC1 x y z hxyz) HC2 (λV hV=>hL.tch (hT.go hV) (λh=>h)) (λhne V g g' cap cap' hV p1 p2=>?_) (λg V V' h k=>h.tch k)).mono ?_
   ·obtain ⟨a,b,hp,hab,hd⟩:=Wy.sound (dgW wd) wd (Ju wd hw) (Jd c) h.2.2.2 w1 w2 hh1 hh2 (λx hx=>(ok1.key x hx).2.2) (λx hx=>(ok2.key x hx).2.2) (λh=>hne (hsame.2 h))
    obtain ⟨q,post,hz,hq⟩:=JdH _ _ a b hp
    have hl1:((w1.nodes (dgW wd)).map (λt=>(⟨t.toArray⟩:BA))).length=w1.1.length+1:=by rw [List.length_map];exact Xk _ _ _ _
    have hl2:((w2.nodes (dgW wd)).map (λt=>(⟨t.toArray⟩:BA))).length=w2.1.length+1:=by rw [List.length_map];exact Xk _ _ _ _
    have hne2:(⟨a.toArray⟩:BA) ≠ ⟨b.toArray⟩:=λh=>hab (by simpa using h)
    have hpi:=Jgb g cap g' cap' _ _ (by rw [hl1];have:=ok1.len;omega) q post _ hz hq hne2 V p1.1 p2.1 p1.2 p2.2
    rw [hl1,hl2] at hpi
    refine (callsIn_wide.1 hpi).mono ?_
    rintro e w' ⟨rfl,hB⟩
    exact ⟨(Tch.of_below hB).mono (λ_ hj=>.inr hj),_,_,⟨_,_,rfl,by rw [Jz];exact Jfc hw ok1 (JbD _ _ _ _ hp).1,by rw [Jz];exact Jfc hw ok2 (JbD _ _ _ _ hp).2,hne2,by simpa using hd⟩,rfl⟩
   ·rintro e w' ⟨ht,hs,hd⟩
    by_cases hsm:w1.said (Jd c)=w2.said (Jd c)
    ·obtain ⟨t,u,he⟩:=hs (hsame.2 hsm)
     refine ⟨ht,_,_,_,he,.inr ⟨⟨t,u,rfl⟩,?_⟩⟩
     show Jcr _ _ _ _ _ _ _
     simp only [Jcr,if_pos hsm]
     exact ⟨trivial,trivial,trivial⟩
    ·obtain ⟨sx,sy,he,h1,h2,h3,h4⟩:=hd (λh=>hsm (hsame.1 h))
     refine ⟨ht,_,_,_,he,.inl ⟨rfl,?_⟩⟩
     show Jcr _ _ _ _ _ _ _
     simp only [Jcr,if_neg hsm]
     exact ⟨trivial,h1,h2,h3,h4⟩
