import Derived.Test.YtighkdnooglfjaaGreatDoorNcVfX
namespace Go.Proofs.YtighkdnooglfjaaGreatDoor
open Go.Proofs.Tryz
set_option maxRecDepth 100000
set_option maxHeartbeats 4000000
open Go.RowKit Go.Shelf

attribute [local go_sem] Oper.semAt_some

structure TgAt (n₀ Ba Bb ga ca gb cb:Nat) (A B:List BA) (W:World):Prop where
 ra:W.heap[Ba]? =some (.cells #[.slice (some ⟨ga,0,none⟩) A.length ca] 58)
 rb:W.heap[Bb]? =some (.cells #[.slice (some ⟨gb,0,none⟩) B.length cb] 58)
 la:ga<n₀/\gb<n₀/\n₀<=W.heap.size
 xa:∀(j:Nat) t,A[j]? =some t->W.cell? ⟨ga,j,none⟩=some (.string t)
 xb:∀(j:Nat) t,B[j]? =some t->W.cell? ⟨gb,j,none⟩=some (.string t)
theorem TgAt.keep {n₀ Ba Bb ga ca gb cb:Nat} {A B:List BA} {W W':World} (h:TgAt n₀ Ba Bb ga ca gb cb A B W) (k:JaR n₀ Ba Bb W W'):TgAt n₀ Ba Bb ga ca gb cb A B W':=
 ⟨k.2.1 _ _ h.ra,k.2.2 _ _ h.rb,⟨h.la.1,h.la.2.1,Qm h.la.2.2 k.1.size⟩,λj t ht=>(k.1.cell (p:=⟨ga,j,none⟩) h.la.1).trans (h.xa j t ht),λj t ht=>(k.1.cell (p:=⟨gb,j,none⟩) h.la.2.1).trans (h.xb j t ht)⟩
theorem TgAt.next {n₀ Ba Bb ga ca gb cb:Nat} {A B:List BA} {W W':World} (h:TgAt n₀ Ba Bb ga ca gb cb A B W) (k:Tch NoB W W'):TgAt n₀ Ba Bb ga ca gb cb A B W':=
 ⟨(k.block _ (Jb h.ra) (λe=>e)).trans h.ra,(k.block _ (Jb h.rb) (λe=>e)).trans h.rb,⟨h.la.1,h.la.2.1,Qm h.la.2.2 k.size⟩,λj t ht=>(k.cell (p:=⟨ga,j,none⟩) (Qk h.la.1 h.la.2.2) (λe=>e)).trans (h.xa j t ht),λj t ht=>(k.cell (p:=⟨gb,j,none⟩) (Qk h.la.2.1 h.la.2.2) (λe=>e)).trans (h.xb j t ht)⟩
theorem Jkb {P Q:Prop} {e:Ending} (h:(e=.returned (.bool true)/\P)\/(e=.returned (.bool false)/\Q)):∃bb:Bool,e=.returned (.bool bb)/\((bb=true->P)/\(bb=false->Q)):=by
 rcases h with ⟨rfl,h⟩ | ⟨rfl,h⟩
 ·exact ⟨true,rfl,λ_=>h,λe=>(by cases e)⟩
 ·exact ⟨false,rfl,λe=>(by cases e),λ_=>h⟩
theorem Jlb (n:Nat) (hn:2<=n) (l Ba Bb n₀ ga ca gb cb:Nat) (A B:List BA) (hA:A.length<=1000000) (J Jx:List (BA×BA)->World->Prop)
  (hJ:∀pre W W',J pre W->Tch NoB W W'->J pre W')
  (hY:∀pre x W,J pre W->(A.zip B)[pre.length]? =some x->YieldAt Fence.wide (n - 1) prog l #[.string x.1,.string x.2] W λe W'=>
   (e=.returned (.bool true)/\J (pre++[x]) W'/\JaR n₀ Ba Bb W W')\/(e=.returned (.bool false)/\Jx (pre++[x]) W'))
  (W:World) (hU:TgAt n₀ Ba Bb ga ca gb cb A B W) (h0:J [] W):
  CallsIn Fence.wide n prog 297 #[.func (.yield l) #[] #[],.pointer (some ⟨Ba,0,none⟩),.pointer (some ⟨Bb,0,none⟩)] W λe W'=>(∃v,e=.returned v)/\
   ((∃ys,ys=A.zip B/\J ys W')\/(∃pre,pre <+:A.zip B/\Jx pre W')):=by
 have HU:Hid _:=hU
 have a0:W.cell? ⟨Ba,0,none⟩=some (.slice (some ⟨ga,0,none⟩) A.length ca):=Ja hU.ra
 have b0:W.cell? ⟨Bb,0,none⟩=some (.slice (some ⟨gb,0,none⟩) B.length cb):=Ja hU.rb
 have HJ:Hid _:=hJ
 have HY:Hid _:=hY
 have HJ0:Hid _:=h0
 clear hU hJ hY h0
 refine callsIn_of_wp func297 rfl trivial ?_ rfl
 simp only [ntmps297,List.size_toArray,Qp,Qv,Nat.reduceAdd,Nat.reduceSub,Array.replicate_succ,Array.replicate_zero,List.push_toArray,List.append_toArray,List.nil_append,List.cons_append]
 gi_wp2
 obtain ⟨m,hm⟩:∃m,m=min A.length B.length:=⟨_,rfl⟩
 have hM:min (A.length:Int) (B.length:Int)=(m:Int):=by omega
 rw [hM]
 have hzl:(A.zip B).length=m:=by rw [List.length_zip,hm]
 have hmA:m<=A.length:=by omega
 have hmB:m<=B.length:=by omega
 have HZL:Hid _:=hzl
 have HMA:Hid (m<=A.length/\m<=B.length/\m<=1000000):=⟨hmA,hmB,by omega⟩
 clear hM hm hzl hmA hmB
 gi_loopw [10] (λi wr=>∃p,p<=m/\i=.int .i64 (p:Int)/\Hid (TgAt n₀ Ba Bb ga ca gb cb A B wr)/\Hid (J ((A.zip B).take p) wr)) (λi wr=>m - (intOf i).toNat)
 case atStart=>exact ⟨0,Nat.zero_le _,rfl,HU,HJ0⟩
 case round=>
  obtain ⟨p,hp,rfl,HUr,HJr⟩:=hrel
  by_cases hpm:p<m
  ·have hpA:p<A.length:=by have:=HMA.o;omega
   have hpB:p<B.length:=by have:=HMA.o;omega
   obtain ⟨x,hx⟩:∃x,x=A[p]:=⟨_,rfl⟩
   obtain ⟨y,hy⟩:∃y,y=B[p]:=⟨_,rfl⟩
   have hxg:(A.zip B)[p]? =some (x,y):=by rw [Qd (by rw [HZL.o];exact hpm),List.getElem_zip,hx,hy]
   have htl:((A.zip B).take p).length=p:=by rw [QB,HZL.o];omega
   have htk:(A.zip B).take p++[(x,y)]=(A.zip B).take (p+1):=by rw [List.take_add_one,hxg];rfl
   have a0:wr.cell? ⟨Ba,0,none⟩=some (.slice (some ⟨ga,0,none⟩) A.length ca):=Ja HUr.o.ra
   have b0:wr.cell? ⟨Bb,0,none⟩=some (.slice (some ⟨gb,0,none⟩) B.length cb):=Ja HUr.o.rb
   have a1:wr.cell? ⟨ga,p,none⟩=some (.string x):=HUr.o.xa p x (by rw [hx];exact Qd hpA)
   have b1:wr.cell? ⟨gb,p,none⟩=some (.string y):=HUr.o.xb p y (by rw [hy];exact Qd hpB)
   have HYD:Hid (∀V,Tch NoB wr V->YieldAt Fence.wide (n - 1) prog l #[.string x,.string y] V λe W'=>(e=.returned (.bool true)/\J ((A.zip B).take (p+1)) W'/\JaR n₀ Ba Bb V W')\/(e=.returned (.bool false)/\Jx ((A.zip B).take (p+1)) W')):=λV hT=>by
    have:=HY.o _ (x,y) V (HJ.o _ _ _ HJr.o hT) (by rw [htl];exact hxg)
    rw [htk] at this
    exact this
   have hpi:(p:Int)<(m:Int):=by omega
   have hpa:(p:Int)<(A.length:Int):=by omega
   have hpb:(p:Int)<(B.length:Int):=by omega
   have hp0:(0:Int)<=(p:Int):=by omega
   have HPM:Hid (p<m):=hpm
   clear hxg htl htk hx hy hpA hpB hpm hp
   gi_wp2
   obtain ⟨fn,tmps,assign,body,hy,hR⟩:=HYD.o wr.drew (Td _ wr 1)
   gi_region_with ((refine ⟨λ_=>by omega,hR.mono ?_⟩;rintro e W3 hpost;obtain ⟨bb,rfl,hB1⟩:=Jkb hpost;have HB1:Hid ((bb=true->J ((A.zip B).take (p+1)) W3/\JaR n₀ Ba Bb wr.drew W3)/\(bb=false->Jx ((A.zip B).take (p+1)) W3)):=hB1;clear hpost hB1))
   all_goals
    clear hR hy HYD
    cases bb
    ·have hJx:=HB1.o.2 rfl
     have HJX:Hid (Jx _ W3):=hJx
     clear HB1 hJx
     gi_wp2
     refine QJ (v:=.tuple #[]) (results_none results297 _ _ _) rfl ?_
     exact ⟨⟨_,rfl⟩,.inr ⟨_,List.take_prefix _ _,HJX.o⟩⟩
    ·obtain ⟨hJ3,hk3⟩:=HB1.o.1 rfl
     have HJ3:Hid (J _ W3):=hJ3
     have HU3:Hid (TgAt n₀ Ba Bb ga ca gb cb A B W3):=(HUr.o.next (Td _ wr 1)).keep hk3
     clear HB1 hJ3 hk3
     gi_wp2
     go_roundw
     case rel=>exact ⟨p+1,HPM.o,by go_num,HU3,HJ3⟩
     case measure=>have:=HPM.o;simp [intOf];omega
  ·have hge:¬(p:Int)<(m:Int):=by omega
   have HPE:Hid (p=m):=(by omega:p=m)
   clear hpm hp
   gi_wp2
   refine bodyPost_end (v:=.tuple #[]) (results_none results297 _ _ _) rfl ?_
   have hfin:=HJr.o
   rw [QQ (by rw [HZL.o,HPE.o];exact Ql _)] at hfin
   refine ⟨⟨_,rfl⟩,.inl ?_⟩
   first
    | exact hfin
    | exact ⟨_,rfl,hfin⟩
theorem Jgx (n:Nat) (hn:2<=n) (Ba Bb n₀ ga ca gb cb:Nat) (A B:List BA) (hA:A.length<=1000000) (w:World) (hU:TgAt n₀ Ba Bb ga ca gb cb A B w):
  SeqStopsK Fence.wide n prog 297 #[.pointer (some ⟨Ba,0,none⟩),.pointer (some ⟨Bb,0,none⟩)] (λx:BA×BA=> #[.string x.1,.string x.2]) (JaR n₀ Ba Bb) (λys=>ys=A.zip B) (λpre=>pre <+:A.zip B) (A.zip B).length w:=λl J Jx W hW hJ _ hY h0=>
 Jlb n hn l Ba Bb n₀ ga ca gb cb A B hA J Jx (λpre W1 W2 h k=>hJ pre W1 W2 none h ⟨k.os,k.tape,k.output,k.size,λj hj _=>k.block j hj (λe=>e)⟩ (λr e=>by cases e)) (λpre x W hJ hx=>hY pre x W hJ (Qo.1 hx).1) W (hU.next ((Tch.of_below hW).mono (λ_ hj=>.inr hj))) h0

attribute [local go_sem] Oper.semAt_some

structure PtI (w:World) (ra rb:Array Value) (pre:List (BA×BA)) (W:World):Prop where
 below:Below w.heap.size w W
 eqs:∀y∈pre,y.1=y.2
 r0:W.heap[w.heap.size]? =some (.cells #[.string ⟨#[]⟩] 9)
 r1:W.heap[w.heap.size+1]? =some (.cells #[.string ⟨#[]⟩] 9)
 r2:W.heap[w.heap.size+2]? =some (.cells #[.nilIface] 92)
 ba:W.heap[w.heap.size+3]? =some (.cells ra 58)
 bb:W.heap[w.heap.size+4]? =some (.cells rb 58)
structure PtX (w:World) (pre:List (BA×BA)) (W:World):Prop where
 below:Below w.heap.size w W
 two:∃q y,pre=q++[y]/\(∀z∈q,z.1=z.2)/\y.1 ≠ y.2/\W.heap[w.heap.size]? =some (.cells #[.string y.1] 9)/\W.heap[w.heap.size+1]? =some (.cells #[.string y.2] 9)/\W.heap[w.heap.size+2]? =some (.cells #[.nilIface] 92)
theorem PtI.own {w:World} {ra rb:Array Value} {B:Nat} (hB:w.heap.size+5<=B):OwnFrom B (PtI w ra rb):=by
 intro s W W' row h hg hr
 have hr':∀r,row=some r->∃o:Obj,W.heap[r]? =some o/\o.isCells=false:=λr e=>(hr r e).2
 exact ⟨ownFrom_below (β:=List (BA×BA)) (w₀:=w) (n₀:=w.heap.size) (B:=B) (Ql _) (by omega) s W W' row h.below hg hr,h.eqs,Jq h.r0 hg hr',Jq h.r1 hg hr',Jq h.r2 hg hr',Jq h.ba hg hr',Jq h.bb hg hr'⟩
theorem PtX.own {w:World} {B:Nat} (hB:w.heap.size+5<=B):OwnFrom B (PtX w):=by
 intro s W W' row h hg hr
 have hr':∀r,row=some r->∃o:Obj,W.heap[r]? =some o/\o.isCells=false:=λr e=>(hr r e).2
 obtain ⟨q,y,e1,e2,e3,e4,e5,e6⟩:=h.two
 exact ⟨ownFrom_below (β:=List (BA×BA)) (w₀:=w) (n₀:=w.heap.size) (B:=B) (Ql _) (by omega) s W W' row h.below hg hr,q,y,e1,e2,e3,Jq e4 hg hr',Jq e5 hg hr',Jq e6 hg hr'⟩
theorem PtI.two {w W:World} {ra rb:Array Value} {pre:List (BA×BA)} {y1 y2:BA} (HI:PtI w ra rb pre W) (hne:y1 ≠ y2):
  KeepsOthers W (((W.setCell ⟨w.heap.size,0,none⟩ (.string y1)).setCell ⟨w.heap.size+1,0,none⟩ (.string y2)).setCell ⟨w.heap.size+1+1,0,none⟩ .nilIface)/\PtX w (pre++[(y1,y2)]) (((W.setCell ⟨w.heap.size,0,none⟩ (.string y1)).setCell ⟨w.heap.size+1,0,none⟩ (.string y2)).setCell ⟨w.heap.size+1+1,0,none⟩ .nilIface):=by
 have k1:(W.setRow w.heap.size #[.string y1]).heap[w.heap.size+1]? =some (.cells #[.string ⟨#[]⟩] 9):=(setRow_other _ _ _ _ (by omega)).trans HI.r1
 have k2:((W.setRow w.heap.size #[.string y1]).setRow (w.heap.size+1) #[.string y2]).heap[w.heap.size+2]? =some (.cells #[.nilIface] 92):=(setRow_other _ _ _ _ (by omega)).trans ((setRow_other _ _ _ _ (by omega)).trans HI.r2)
 have e:((W.setCell ⟨w.heap.size,0,none⟩ (.string y1)).setCell ⟨w.heap.size+1,0,none⟩ (.string y2)).setCell ⟨w.heap.size+1+1,0,none⟩ .nilIface=((W.setRow w.heap.size #[.string y1]).setRow (w.heap.size+1) #[.string y2]).setRow (w.heap.size+2) #[.nilIface]:=by
  rw [Qj W w.heap.size 0 _ _ (0,0) _ HI.r0]
  rw [show (#[Value.string ⟨#[]⟩].setIfInBounds 0 (.string y1))= #[.string y1] from rfl]
  rw [Qj _ (w.heap.size+1) 0 _ _ (0,0) _ k1]
  rw [show (#[Value.string ⟨#[]⟩].setIfInBounds 0 (.string y2))= #[.string y2] from rfl]
  rw [Qj _ (w.heap.size+2) 0 _ _ (0,0) _ k2]
  rfl
 rw [e]
 have t:Tch (λj=>j=w.heap.size\/j=w.heap.size+1\/j=w.heap.size+2) W (((W.setRow w.heap.size #[.string y1]).setRow (w.heap.size+1) #[.string y2]).setRow (w.heap.size+2) #[.nilIface]):=(((Ts W w.heap.size _).mono (λ_ h=>.inl (.inl h))).trans (Ts _ (w.heap.size+1) _) (λ_ h=>.inl (.inr (.inl h)))).trans (Ts _ (w.heap.size+2) _) (λ_ h=>.inl (.inr (.inr h)))
 refine ⟨Jan t (λj hj=>?_),HI.below.trans (t.below HI.below.size (λj hj=>by omega)),pre,(y1,y2),rfl,HI.eqs,hne,?_,?_,?_⟩
 ·rcases hj with rfl | rfl | rfl
  ·exact ⟨_,_,_,HI.r0⟩
  ·exact ⟨_,_,_,HI.r1⟩
  ·exact ⟨_,_,_,HI.r2⟩
 ·exact (setRow_other _ _ _ _ (by omega)).trans ((setRow_other _ _ _ _ (by omega)).trans (Qi _ _ _ _ _ _ HI.r0))
 ·exact (setRow_other _ _ _ _ (by omega)).trans (Qi _ _ _ _ _ _ k1)
 ·exact Qi _ _ _ _ _ _ k2
theorem Jcx {P:Program} {fn:Func} {p p2 p3:Tmp} {ty ty2 ty3:TypeId} (h:fn.results= #[.cell p ty,.cell p2 ty2,.cell p3 ty3]) (tmps:Array Value) (w:World) (a a2 a3:Addr) (v v2 v3:Value)
  (hp:tmps.getD p undef=.pointer (some a)) (hp2:tmps.getD p2 undef=.pointer (some a2)) (hp3:tmps.getD p3 undef=.pointer (some a3)) (ha:(isAgg ty).run P w=.ok false w) (ha2:(isAgg ty2).run P w=.ok false w) (ha3:(isAgg ty3).run P w=.ok false w) (hc:w.cell? a=some v) (hc2:w.cell? a2=some v2) (hc3:w.cell? a3=some v3):
  (results fn tmps).run P w=.ok (.tuple #[v,v2,v3]) w:=by
 have hp':tmps[p]?.getD undef=.pointer (some a):=by simpa using hp
 have hp2':tmps[p2]?.getD undef=.pointer (some a2):=by simpa using hp2
 have hp3':tmps[p3]?.getD undef=.pointer (some a3):=by simpa using hp3
 simp [results,h,hp',hp2',hp3',asAddr,Zp w ty a v ha hc,Zp w ty2 a2 v2 ha2 hc2,Zp w ty3 a3 v3 ha3 hc3]
theorem Jhv {l pre q post:List (BA×BA)} {x y:BA×BA} (hl:l=q++x :: post) (hq:∀z∈q,z.1=z.2) (hx:x.1 ≠ x.2) {q':List (BA×BA)} (hp:pre <+:l) (e1:pre=q'++[y]) (e2:∀z∈q',z.1=z.2) (e3:y.1 ≠ y.2):y=x:=by
 obtain ⟨r,hr⟩:=hp
 rw [e1,hl] at hr
 clear hl e1
 induction q generalizing q' with
 | nil=>
  cases q' with
  | nil=>simp at hr;exact hr.1
  | cons a q'=>
   simp at hr
   exact absurd (by rw [<-hr.1];exact e2 a (by simp)) hx
 | cons b q ih=>
  cases q' with
  | nil=>
   simp at hr
   exact absurd (by rw [hr.1];exact hq b (by simp)) e3
  | cons a q'=>
   simp only [List.cons_append,QH] at hr
   exact ih (λz hz=>hq z (by simp [hz])) (λz hz=>e2 z (by simp [hz])) hr.2
theorem JfA (v1 v2:Option Addr) (n1 c1 n2 c2:Nat) (w:World):
  CallsIn Fence.wide 3 prog 226 #[.slice v1 n1 c1,.slice v2 n2 c2] w λe w'=>e=.returned (.func (.func 297) #[] #[.pointer (some ⟨w.heap.size,0,none⟩),.pointer (some ⟨w.heap.size+1,0,none⟩)])/\w'=(w.alloc (.cells #[.slice v1 n1 c1] 58)).alloc (.cells #[.slice v2 n2 c2] 58):=by
 refine callsIn_wide.2 ?_
 have hmf:∀(fn:Fn) (first cap:Array Value) (w:World),(Instr.makeFunc fn first cap).run prog w=.ok (.func fn first cap) w:=λ_ _ _ _=>rfl
 go_enter func226,ntmps226
 go_wp2
 go_ret
 exact ⟨rfl,rfl⟩
theorem Jf7 (ga ca gb cb:Nat) (A B:List BA) (hA:A.length<=1000000) (q post:List (BA×BA)) (x:BA×BA) (hl:A.zip B=q++x :: post) (hq:∀z∈q,z.1=z.2) (hx:x.1 ≠ x.2) (w:World) (hga:ga<w.heap.size) (hgb:gb<w.heap.size)
  (xa:∀(j:Nat) t,A[j]? =some t->w.cell? ⟨ga,j,none⟩=some (.string t)) (xb:∀(j:Nat) t,B[j]? =some t->w.cell? ⟨gb,j,none⟩=some (.string t)):
  CallsIn Fence.wide 5 prog 148 #[.slice (some ⟨ga,0,none⟩) A.length ca,.slice (some ⟨gb,0,none⟩) B.length cb] w λe W'=>e=.returned (.tuple #[.string x.1,.string x.2,.nilIface])/\Below w.heap.size w W':=by
 have h1:1<=5:=by omega
 have hro:Fence.wide.round=none:=rfl
 have HL:Hid _:=hl
 have HQ:Hid _:=hq
 have HX:Hid _:=hx
 have HG:Hid (ga<w.heap.size/\gb<w.heap.size):=⟨hga,hgb⟩
 have HXA:Hid _:=xa
 have HXB:Hid _:=xb
 refine callsIn_of_wp_marks func148 rfl trivial ?_ hro
 simp only [ntmps148,List.size_toArray,Qp,Qv,Nat.reduceAdd,Nat.reduceSub,Array.replicate_succ,Array.replicate_zero,List.push_toArray,List.append_toArray,List.nil_append,List.cons_append]
 gi_wp2
 refine ⟨trivial,(callsIn_wide.2 (callsIn_wide.1 (JfA _ _ _ _ _ _ _))).mono ?_⟩
 rintro _ _ ⟨rfl,rfl⟩
 gi_wp2
 obtain ⟨WD,hWD⟩:∃WD,WD=((((w.alloc (.cells #[.string ⟨#[]⟩] 9)).alloc (.cells #[.string ⟨#[]⟩] 9)).alloc (.cells #[.nilIface] 92)).alloc (.cells #[.slice (some ⟨ga,0,none⟩) A.length ca] 58)).alloc (.cells #[.slice (some ⟨gb,0,none⟩) B.length cb] 58):=⟨_,rfl⟩
 rw [<-hWD]
 have hB0:Below w.heap.size w WD:=by rw [hWD];exact (((((Below.refl _ w).alloc (Ql _) _).alloc (by simp) _).alloc (by simp;omega) _).alloc (by simp;omega) _).alloc (by simp;omega) _
 have hz:WD.heap.size=w.heap.size+5:=by rw [hWD];simp
 have hal:∀(V:World) (o:Obj) (j:Nat) (x:Obj),V.heap[j]? =some x->_:=λV o j x h=>(Below.heap_alloc V o j (Jb h)).trans h
 have hnw:∀(V:World) (o:Obj) (j:Nat),V.heap.size=j->(V.alloc o).heap[j]? =some o:=λV o j h=>by subst h;exact Qf V o
 have r0:WD.heap[w.heap.size]? =some (.cells #[.string ⟨#[]⟩] 9):=by rw [hWD];exact hal _ _ _ _ (hal _ _ _ _ (hal _ _ _ _ (hal _ _ _ _ (hnw _ _ _ (by simp)))))
 have r1:WD.heap[w.heap.size+1]? =some (.cells #[.string ⟨#[]⟩] 9):=by rw [hWD];exact hal _ _ _ _ (hal _ _ _ _ (hal _ _ _ _ (hnw _ _ _ (by simp))))
 have r2:WD.heap[w.heap.size+2]? =some (.cells #[.nilIface] 92):=by rw [hWD];exact hal _ _ _ _ (hal _ _ _ _ (hnw _ _ _ (by simp)))
 have r3:WD.heap[w.heap.size+3]? =some (.cells #[.slice (some ⟨ga,0,none⟩) A.length ca] 58):=by rw [hWD];exact hal _ _ _ _ (hnw _ _ _ (by simp))
 have r4:WD.heap[w.heap.size+4]? =some (.cells #[.slice (some ⟨gb,0,none⟩) B.length cb] 58):=by rw [hWD];exact hnw _ _ _ (by simp)
 have hU:TgAt w.heap.size (w.heap.size+3) (w.heap.size+4) ga ca gb cb A B WD:=⟨r3,r4,⟨HG.1,HG.2,by omega⟩,λj t ht=>(hB0.cell (p:=⟨ga,j,none⟩) HG.1).trans (HXA j t ht),λj t ht=>(hB0.cell (p:=⟨gb,j,none⟩) HG.2).trans (HXB j t ht)⟩
 have hI0:PtI w #[.slice (some ⟨ga,0,none⟩) A.length ca] #[.slice (some ⟨gb,0,none⟩) B.length cb] [] WD:=⟨hB0,λy hy=>(by cases hy),r0,r1,r2,r3,r4⟩
 refine wpIn_rangeFunc_ownF hro h1 (gf:=297) (lb:= #[.pointer (some ⟨w.heap.size+1+1+1,0,none⟩),.pointer (some ⟨w.heap.size+1+1+1+1,0,none⟩)]) rfl trivial (enters_of func297 (by kernel_rfl) rfl)
  (Jgx 4 (by omega) (w.heap.size+1+1+1) (w.heap.size+1+1+1+1) w.heap.size ga ca gb cb A B hA WD hU) (λh k=>⟨h.1.trans k.1,λcs T hc=>k.2.1 cs T (h.2.1 cs T hc),λcs T hc=>k.2.2 cs T (h.2.2 cs T hc)⟩)
  (λW l o o' hl ho hc hw'=>⟨belowK_b (w:=w) (Ql _) W l o o' (by omega) ho hc hw',λcs T h=>Jq h (grownBy_putObj' _ l o') (λr e=>by cases e;exact ⟨o,ho,hc⟩),λcs T h=>Jq h (grownBy_putObj' _ l o') (λr e=>by cases e;exact ⟨o,ho,hc⟩)⟩) (Below.refl _ _) (λ_=>rfl)
  (PtI w #[.slice (some ⟨ga,0,none⟩) A.length ca] #[.slice (some ⟨gb,0,none⟩) B.length cb]) (λc pre W=>c=.ret/\PtX w pre W) (PtI.own (by omega)) (λc=>λs W W' row h hg hr=>⟨h.1,PtX.own (by omega) s W W' row h.2 hg hr⟩) hI0
  (λx=>{ tmps:= #[.slice (some ⟨ga,0,none⟩) A.length ca,.slice (some ⟨gb,0,none⟩) B.length cb,undef,undef,.pointer (some ⟨w.heap.size,0,none⟩),.pointer (some ⟨w.heap.size+1,0,none⟩),.pointer (some ⟨w.heap.size+1+1,0,none⟩),.string x.1,.string x.2,.slice (some ⟨ga,0,none⟩) A.length ca,.slice (some ⟨gb,0,none⟩) B.length cb,.func (.func 297) #[] #[.pointer (some ⟨w.heap.size+1+1+1,0,none⟩),.pointer (some ⟨w.heap.size+1+1+1+1,0,none⟩)],.string x.1,.string x.2,undef,undef,undef,undef,undef,undef,undef],defers:=[] }) ?assign ?body ?done ?stop
 case assign=>
  intro l x W K hK
  gi_wp2
  exact hK
 case body=>
  rintro l pre y W hI hpl
  obtain ⟨y1,y2⟩:=y
  have HI:Hid _:=hI
  have c0:W.cell? ⟨w.heap.size,0,none⟩=some (.string ⟨#[]⟩):=Ja hI.r0
  have c1:W.cell? ⟨w.heap.size+1,0,none⟩=some (.string ⟨#[]⟩):=Ja hI.r1
  have c2:W.cell? ⟨w.heap.size+1+1,0,none⟩=some .nilIface:=Ja hI.r2
  have f0:W.frozen? ⟨w.heap.size,0,none⟩=false:=Qg _ _ _ _ _ hI.r0
  have f1:W.frozen? ⟨w.heap.size+1,0,none⟩=false:=Qg _ _ _ _ _ hI.r1
  have f2:W.frozen? ⟨w.heap.size+1+1,0,none⟩=false:=Qg _ _ _ _ _ hI.r2
  by_cases he:y1=y2
  ·subst he
   gi_wp2
   refine ⟨⟨Ql _,λk o hk ho=>hk⟩,⟨Below.refl _ _,λcs T h=>h,λcs T h=>h⟩,HI.below,λz hz=>?_,HI.r0,HI.r1,HI.r2,HI.ba,HI.bb⟩
   rcases QE.1 hz with hz | hz
   ·exact HI.eqs z hz
   ·simp only [Qt] at hz;rw [hz]
  ·have hne:¬y1.toList=y2.toList:=λh=>he (Zz h)
   have hne2:(y1.toList == y2.toList)=false:=by simp [hne]
   have HNE:Hid _:=he
   gi_wp2
   have ht:=HI.o.two HNE.o
   exact ⟨ht.1,rfl,ht.2⟩
 case done=>
  rintro D ys W hD hys hI hK
  exfalso
  refine HX (hI.eqs x ?_)
  rw [hys,HL.o]
  simp
 case stop=>
  rintro D c pre W hD hpre ⟨rfl,hX⟩ hK
  obtain ⟨q',y,e1,e2,e3,(HE4:Hid _),(HE5:Hid _),(HE6:Hid _)⟩:=hX.two
  obtain rfl:=Jhv HL HQ HX hpre e1 e2 e3
  have hbe:=hX.below
  have HBE:Hid _:=hbe
  clear e1 e2 e3 hX hpre hbe hI0 hU hB0
  gi_wp2
  have hg:=grownBy_putObj' W D (.deferred none)
  have hr':∀r,some D=some r->∃o:Obj,W.heap[r]? =some o/\o.isCells=false:=λr e=>by cases e;exact ⟨_,hK,rfl⟩
  refine ⟨by simp,.inl ⟨_,_,rfl,run_takeDeferred hK,?_⟩⟩
  refine ⟨_,Jcx results148 _ _ ⟨w.heap.size,0,none⟩ ⟨w.heap.size+1,0,none⟩ ⟨w.heap.size+1+1,0,none⟩ (.string y.1) (.string y.2) .nilIface rfl rfl rfl (isAgg9 _) (isAgg9 _) (isAgg92 _) (Ja (Jq HE4 hg hr')) (Ja (Jq HE5 hg hr')) (Ja (Jq HE6 hg hr')),rfl,?_⟩
  exact HBE.trans (belowK_b (w:=w) (Ql _) W D _ _ (by omega) hK rfl rfl)
