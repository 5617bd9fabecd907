import Derived.Test.YtighkdnooglfjaaGreatDoorLxLiO
namespace Go.Proofs.YtighkdnooglfjaaGreatDoor
open Tryz
set_option maxRecDepth 100000
set_option maxHeartbeats 4000000
open Go.RowKit

variable {p:Nat}{S:Nat->Prop}{T:TypeId}{v:Vw}{A B w:World}
attribute [local go_sem] Oper.semAt_some

structure VwV(base:Nat)(w:World)(pm po:Nat)(lv:Value)(v:Vw):Prop where
 met:MpAt w pm (metE v.met)
 outs:MpAt w po (outE v.outs)
 left:NOwn base w lv v.left
 nm:v.met.Nodup
 no:(v.outs.map (·.1)).Nodup
 low:base<=pm/\base<=po
theorem ZU{P:Program}{fn:Func}{p p2:Tmp}{ty ty2:TypeId}(h:fn.results= #[.cell p ty,.cell p2 ty2])(tmps:Array Value)(w:World)(g:Nat)(T:TypeId)(cs:Array Value)(fr:Nat×Nat)(d:TypeDesc)(a2:Addr)(v2:Value)
 (hp:tmps.getD p undef=.pointer (some ⟨g,0,none⟩)) (hp2:tmps.getD p2 undef=.pointer (some a2)) (hg:w.heap[g]? =some (.cells cs T fr))
 (hu:P.underlying ty=some d) (hd:(match d with | .struct _ | .array _ _=>true|_=>false)=true) (hi:(P.info? ty).map (·.size)=some cs.size) (ha2:(isAgg ty2).run P w=.ok false w) (hc2:w.cell? a2=some v2):
  (results fn tmps).run P w=.ok (.tuple #[.agg cs,v2]) w:=by
 have hp':tmps[p]?.getD undef=.pointer (some ⟨g,0,none⟩):=by simpa using hp
 have hp2':tmps[p2]?.getD undef=.pointer (some a2):=by simpa using hp2
 simp[results,h,hp',hp2',asAddr,run_loadVar_row w g T ty cs fr d hg hu hd hi,Jjq w ty2 a2 v2 ha2 hc2]
theorem JlF(s:Spot):∃(d n1 n2:BA)(n3 n4:Nat)(n5:Int)(n6 n7:BA)(mt:Bool)(ab:Int),spC s= #[.string d,.string n1,.string n2,.int .u64 (n3:Int),.int .u8 (n4:Int),.int .i64 n5,.string n6,.string n7,.bool mt,.int .i64 ab]:=⟨_,_,_,_,_,_,_,_,_,_,rfl⟩
theorem JiB{g:Nat}{c0 c1 c2 e0:Value}{T2:TypeId}(h1:w.heap[g]? =some (.cells #[c0,c1,c2] T))(h2:w.heap[g+1]? =some (.cells #[e0] T2))(x y z e:Value):
  ∃X,X=((((w.setCell ⟨g,0,none⟩ x).setCell ⟨g,1,none⟩ y).setCell ⟨g,2,none⟩ z).setCell ⟨g+1,0,none⟩ e)/\X.heap[g]? =some (.cells #[x,y,z] T)/\X.heap[g+1]? =some (.cells #[e] T2)/\Tch (λj=>j=g\/j=g+1) w X:=by
 obtain⟨k1,k2⟩:=JbK h1 [x,y,z] rfl;have h3:=(k2.block _ (Jb h2) (by omega)).trans h2;obtain⟨l1,l2⟩:=JbK h3 [e] rfl;exact⟨_,rfl,(l2.block _ (Jb k1) (by omega)).trans k1,l1,(k2.mono (λ_ h=>.inl (.inl h))).trans l2 (λ_ h=>.inl (.inr h))⟩
def TrX(w:World)(W:World):Prop:=Below w.heap.size w W/\W.heap[w.heap.size+1]? =some (.cells #[.map none,.map none,.slice none 0 0] 270)/\∃t u,W.heap[w.heap.size+2]? =some (.cells #[.iface t u] 92)
structure TrI(w1:World)(v:Vw)(W:World):Prop where
 below:Below w1.heap.size w1 W
 view:∃lv,VwAt (w1.heap.size+7) W (w1.heap.size+2) w1.heap.size (w1.heap.size+1) lv v
 size:w1.heap.size+5<=W.heap.size
theorem KpS.trans{C:World}(h:KpS p A B)(k:KpS p B C):KpS p A C:=⟨Qm h.size k.size,λj cs T m ht hj=>k.row j cs T m ht (h.row j cs T m ht hj),λo ho=>k.map o (h.map o ho)⟩
theorem KpS.of(h:Tch S A B)(hs:∀(j:Nat)(cs:Array Value)(T:TypeId)(m:Nat×Nat),(T=384\/T=264)->A.heap[j]? =some (Obj.cells cs T m)->¬S j)(hp:¬S p):KpS p A B:=
 ⟨h.size,λj cs T m ht hj=>(h.block _ (Jb hj) (hs j cs T m ht hj)).trans hj,λ_ ho=>(h.block _ (Jb ho) hp).trans ho⟩
theorem VwAt.kinds{base:Nat}{vb pm po:Nat}{lv:Value}(h:VwAt base w vb pm po lv v){j:Nat}{cs:Array Value}{m:Nat×Nat}(ht:T=384\/T=264)(hj:w.heap[j]? =some (Obj.cells cs T m)):¬VwB vb pm po lv j:=by
 rintro(rfl|rfl|rfl|e)
 ·rw[h.row]at hj;simp only[Qh,Obj.cells.injEq]at hj
  rcases ht with rfl|rfl<;>exact absurd hj.2.1 (by decide)
 ·rw[h.met]at hj;cases hj
 ·rw[h.outs]at hj;cases hj
 ·obtain⟨_,cs',m',hr⟩:=h.left.own j e.symm;rw[hr]at hj;simp only[Qh,Obj.cells.injEq]at hj
  rcases ht with rfl|rfl<;>exact absurd hj.2.1 (by decide)
theorem TrI.tch{w1:World}{W W':World}(h:TrI w1 v W)(k:Tch S W W')(h1:∀j,S j->w1.heap.size+2<j)(h2:∀j cs m,S j->w1.heap.size+7<=j->W.heap[j]? ≠ some (.cells cs 9 m)):TrI w1 v W':=by
 obtain⟨lv,hv⟩:=h.view;refine⟨h.below.trans (k.below h.below.size (λj hj=>by have:=h1 j hj;omega)),⟨lv,hv.tch k ⟨λe=>by have:=h1 _ e;omega,λe=>by have:=h1 _ e;omega,λe=>by have:=h1 _ e;omega,λj hj e=>?_⟩⟩,Qm h.size k.size⟩;obtain⟨hb,cs,m,hr⟩:=hv.left.own j hj;exact h2 j cs m e hb hr
theorem JmX(E:Nat->Addr){wj:Nat}(hw:wj<=32)(p:Nat)(b:ByL)(hd:(b.map (·.1)).Nodup)(hbl:b.length<=900000000)(h:HdL)(hh:HdOk wj h)(w:World)(hE:Env E w)(hT:Er3 w)(hm:MpAt w p (byE b)):
  CallsIn Fence.wide 5 prog 150 #[.agg #[.int .i64 (wj:Int),.map (some p)],.string ⟨(hdrB h).toArray⟩] w λe w'=>Tch NoB w w'/\((∃v pm po lv,JS b [Jt b h.2.2.2 (-1)] ⟨[],[],[]⟩ (some v)/\e=.returned (.tuple #[.agg #[.map (some pm),.map (some po),lv],.nilIface])/\VwV w.heap.size w' pm po lv v)\/(JS b [Jt b h.2.2.2 (-1)] ⟨[],[],[]⟩ none/\∃t u,e=.returned (.tuple #[.agg #[.map none,.map none,.slice none 0 0],.iface t u]))):=by
 have h1:1<=5:=by omega
 obtain⟨W,hW⟩:∃W,W=((w.alloc (.cells #[.int .i64 (wj:Int),.map (some p)] 264)).alloc (.cells #[.map none,.map none,.slice none 0 0] 270)).alloc (.cells #[.nilIface] 92):=⟨_,rfl⟩
 have tA:Tch NoB w W:=by rw[hW];exact Tch.allocs3 _ _ _ _ _
 have r0:W.heap[w.heap.size]? =some (.cells #[.int .i64 (wj:Int),.map (some p)] 264):=by rw[hW];exact JM _ _ _ _
 have r1:W.heap[w.heap.size+1]? =some (.cells #[.map none,.map none,.slice none 0 0] 270):=by rw[hW];exact JF _ _ _ _
 have r2:W.heap[w.heap.size+2]? =some (.cells #[.nilIface] 92):=by rw[hW];exact JG _ _ _ _
 have c0:W.cell? ⟨w.heap.size,0,none⟩=some (.int .i64 (wj:Int)):=Ja r0;have HST:Hid (Calls prog 212 #[.int .i64 (wj:Int),.string ⟨(hdrB h).toArray⟩] W λe w'=>e=.returned (.tuple #[.string h.2.2.2,.nilIface])/\Tch NoB W w'):=JhS E wj hw h hh W (hE.tch tA noE);have HW:Hid (W=_):=hW;have HTA:Hid (Tch NoB w W):=tA;have HR0:Hid (W.heap[w.heap.size]? =_):=r0;have HR1:Hid (W.heap[w.heap.size+1]? =_):=r1;have HR2:Hid (W.heap[w.heap.size+2]? =_):=r2;have HEV:Hid (Env E w/\Er3 w/\MpAt w p (byE b)/\(b.map (·.1)).Nodup/\b.length<=900000000):=⟨hE,hT,hm,hd,hbl⟩
 generalize (⟨(hdrB h).toArray⟩:BA)=hb at *;generalize h.2.2.2=root at *;clear hE hT hm hd hbl hW tA r0 r1 r2 hh;refine callsIn_of_wp_marks func150 rfl trivial ?_ rfl;simp only[ntmps150,List.size_toArray,Qp,Qv,Nat.reduceAdd,Nat.reduceSub,Array.replicate_succ,Array.replicate_zero,List.push_toArray,List.append_toArray,List.nil_append,List.cons_append];gi_upto_region 1 with fail
 rw[<-HW.o];gi_wp2;refine⟨trivial,(callsIn_wide.2 HST.o).mono ?_⟩;rintro _ w1⟨rfl,ht1⟩;have HT1:Hid (Tch NoB W w1):=ht1;have hq0:=(ht1.block _ (Jb HR0.o) (λh=>h)).trans HR0.o;obtain⟨hmk1,hmp1⟩:=JcR 267 w1;obtain⟨hmk2,hmp2⟩:=JcR 268 (w1.alloc (.map #[] 0));obtain⟨W3,hW3⟩:∃W3,W3=((w1.alloc (.map #[] 0)).alloc (.map #[] 0)).alloc (.cells #[.map (some w1.heap.size),.map (some (w1.heap.size+1)),.slice none 0 0] 270):=⟨_,rfl⟩
 have t3:Tch NoB w1 W3:=by rw[hW3];exact Tch.allocs3 _ _ _ _ _
 have hq3:=(t3.block _ (Jb hq0) (λh=>h)).trans hq0;have k0:W3.cell? ⟨w.heap.size,0,none⟩=some (.int .i64 (wj:Int)):=Ja hq3;have k1:W3.cell? ⟨w.heap.size,1,none⟩=some (.map (some p)):=Ja hq3;have HW3:Hid (W3=_):=hW3;have HT3:Hid (Tch NoB w1 W3):=t3;clear ht1 hq0 hq3 t3 hW3 c0;gi_upto_region 5 with fail;rw[<-HW3.o];gi_wp2;refine⟨trivial,(callsIn_wide.2 (Jmc (wj:Int) p root W3)).mono ?_⟩;rintro _ WD⟨rfl,hWD⟩;have tD:Tch NoB W3 WD:=by rw[hWD];exact Tch.allocs _ _ _ _
 have hz3:W3.heap.size=w1.heap.size+3:=by rw[HW3.o];simp
 have hzD:WD.heap.size=w1.heap.size+5:=by rw[hWD];simp;omega
 have hbn:WD.heap[W3.heap.size]? =some (.cells #[.int .i64 (wj:Int),.map (some p)] 264):=by rw[hWD];exact heap_alloc2_old _ _ _
 have hbr:WD.heap[W3.heap.size+1]? =some (.cells #[.string root] 9):=by rw[hWD];exact heap_alloc2_new _ _ _
 have t1D:Tch NoB w1 WD:=HT3.o.go tD;have twD:Tch NoB w WD:=(HTA.o.go HT1.o).go t1D;have hszw:w.heap.size+3<=w1.heap.size:=by
  have:=HT1.o.size;have:W.heap.size=w.heap.size+3:=by rw[HW.o];simp
  omega
 have HZ:Hid (WD.heap.size=w1.heap.size+5/\W3.heap.size=w1.heap.size+3/\w.heap.size+3<=w1.heap.size):=⟨hzD,hz3,hszw⟩
 have HTD:Hid (Tch NoB w WD/\Tch NoB w1 WD/\Tch NoB w w1):=⟨twD,t1D,HTA.o.go HT1.o⟩
 have hpw:=(Jb HEV.o.2.2.1)
 have hI0:TrI w1 ⟨[],[],[]⟩ WD:=by
  refine⟨t1D.below (Ql _) noE,⟨.slice none 0 0,?_⟩,by omega⟩;have a1:W3.heap[w1.heap.size]? =some (.map #[] 0):=by rw[HW3.o];exact JM _ _ _ _
  have a2:W3.heap[w1.heap.size+1]? =some (.map #[] 0):=by rw[HW3.o];exact JF _ _ _ _
  have a3:W3.heap[w1.heap.size+2]? =some (.cells #[.map (some w1.heap.size),.map (some (w1.heap.size+1)),.slice none 0 0] 270):=by rw[HW3.o];exact JG _ _ _ _
  have up:∀{j:Nat} {o:Obj},W3.heap[j]? =some o->WD.heap[j]? =some o:=λhj=>(tD.block _ (Jb hj) (λh=>h)).trans hj;exact⟨up a3,up a1,up a2,NOwn.nil _ _,List.nodup_nil,List.nodup_nil,by omega⟩
 have hKE:∀(V:World),Below w1.heap.size w1 V->Env E V/\Er3 V:=λV hV=>by
  have hK:∀j,w1.heap.size<=j->18<=j:=λj hj=>by have:=HEV.o.1.size;omega
  exact⟨(HEV.o.1.tch HTD.o.2.2 noE).tch (Tch.of_below hV) hK,(HEV.o.2.1.tch HTD.o.2.2 noE).tch (Tch.of_below hV) hK⟩
 have HKE:Hid (∀(V:World),Below w1.heap.size w1 V->Env E V/\Er3 V):=hKE;clear hWD hKE k0 k1 hz3 hzD hszw;gi_wp2;obtain⟨hzD,hz3,hszw⟩:=HZ.o;refine JgK (α:=Spot) (σ:=Vw) h1 (gf:=299) (lb:= #[.pointer (some ⟨W3.heap.size,0,none⟩),.pointer (some ⟨W3.heap.size+1,0,none⟩)]) rfl (enters_of func299 (by kernel_rfl) rfl) (encs:=λs=> #[.agg (spC s)]) (λ_=>rfl)
  (λv _=>v.left.length<=1000000000) (λv s v'=>Yb v s (some v')) (λv s=>Yb v s none) (ItS WD.heap.size) (KpS p) ⟨[],[],[]⟩ (λr=>JS b [Jt b root (-1)] ⟨[],[],[]⟩ r) (TrI w1) (TrX w)
  ?hI ?hIx ?hIi ?hIt (λh k=>h.trans k) ?hKb hI0
  (λx V=>{ tmps:= #[.agg #[.int .i64 (wj:Int),.map (some p)],.string hb,.pointer (some ⟨w.heap.size,0,none⟩),undef,.pointer (some ⟨w.heap.size+1,0,none⟩),.pointer (some ⟨w.heap.size+1+1,0,none⟩),.string root,.nilIface,.pointer (some ⟨w1.heap.size+1+1,0,none⟩),.pointer (some ⟨V.heap.size,0,none⟩),undef,.tuple #[.string root,.nilIface],.pointer (some ⟨w.heap.size,0,none⟩),.int .i64 (wj:Int),.string hb,.tuple #[.string root,.nilIface],.string root,.nilIface,.nilIface,.bool false,undef,undef,undef,.map (some w1.heap.size),.map (some (w1.heap.size+1)),.agg #[.map (some w1.heap.size),.map (some (w1.heap.size+1)),.slice none 0 0],.agg #[.int .i64 (wj:Int),.map (some p)],.string root,.func (.func 299) #[] #[.pointer (some ⟨W3.heap.size,0,none⟩),.pointer (some ⟨W3.heap.size+1,0,none⟩)],.agg (spC x),undef,undef,undef,undef,undef,undef,undef],defers:=[] })
  (λx V=>V.alloc (.cells (spC x) 384)) (λx V=>Ta _ _ _) ?hseq ?hassign ?hbody ?hKa ?hIa ?hdone ?hstop
 case hI=>intro v A B hA hk;refine hA.tch hk (λj hj=>by rcases hj with rfl|rfl<;>omega) (λj cs m hj h7 _=>by rcases hj with rfl|rfl<;>omega)
 case hIx=>rintro A B⟨h1,h2,t,u,h3⟩ hk;exact⟨h1.trans (hk.below h1.size (λj hj=>by rcases hj with rfl|rfl<;>omega)),(hk.block _ (Jb h2) (λhj=>by rcases hj with e|e<;>omega)).trans h2,t,u,(hk.block _ (Jb h3) (λhj=>by rcases hj with e|e<;>omega)).trans h3⟩
 case hIi=>intro v A B hA hk;refine hA.tch hk (λj hj=>by have:=hj.1;omega) (λj cs m hj _ hr=>?_);obtain⟨_,cs',m',hr'⟩:=hj;rw[hr']at hr;simp only[Qh,Obj.cells.injEq]at hr;exact absurd hr.2.1 (by decide)
 case hIt=>
  intro A B l o hk ho hc _;refine(hk.block _ (Jb ho) (λhj=>?_)).trans ho;obtain⟨_,cs',m',hr'⟩:=hj;rw[hr']at ho
  cases ho
  cases hc
 case hKb=>
  intro A B l o hl ho hc _ hk;refine KpS.of hk (λj cs T m _ hj e=>?_) (λe=>by omega);rw[e,ho]at hj
  cases hj
  cases hc
 case hseq=>intro J Jx W hT hJ hY hJ0;have hTw:=HTD.o.1.go hT;exact Jnr WD.heap.size (5-1) (by omega) (WD.heap.size+1) W3.heap.size (W3.heap.size+1) (wj:Int) p b HEV.o.2.2.2.1 HEV.o.2.2.2.2 root J Jx hJ (λv s V hc hj=>hY v s V hc hj) W hT.size (HEV.o.2.2.1.next hTw (λh=>h)) ((hT.block _ (Jb hbn) (λh=>h)).trans hbn) ((hT.block _ (Jb hbr) (λh=>h)).trans hbr) hJ0
 case hassign=>intro l x W K hK;obtain⟨d,n1,n2,n3,n4,n5,n6,n7,mt,ab,hsp⟩:=JlF x;rw[hsp]at hK ⊢;clear hz3 hzD hszw;gi_wp2;exact hK
 case hKa=>intro V x;exact KpS.of (Ta NoB V _) (λ_ _ _ _ _ _ h=>h) (λh=>h)
 case hIa=>intro v V x hv;exact hv.tch (Ta NoB V _) noE (λ_ _ _ h=>h.elim)
 case hbody=>
  rintro l v x V W hcan hI htL hz;obtain⟨lv,hV⟩:=hI.view;obtain⟨d,n1,n2,n3,n4,n5,n6,n7,mt,ab,hsp⟩:=JlF x;have hrow:W.heap[V.heap.size]? =some (.cells (spC x) 384):=(htL.block _ (by simp) (by omega)).trans (Qf V _);rw[hsp]at hrow;obtain⟨hEn,hEr⟩:=HKE.o W hI.below;have hVW:=htL.size;simp only[World.size_alloc]at hVW;have hsee:=JmP E (w1.heap.size+7) (w1.heap.size+2) w1.heap.size (w1.heap.size+1) lv v x W hV hcan (by omega) hEn hEr ⟨by have:=HEV.o.1.size;have:=HTD.o.2.2.size;omega,by have:=HEV.o.1.size;have:=HTD.o.2.2.size;omega⟩;rw[hsp]at hsee;have HSEE:Hid (Calls prog 230 #[.pointer (some ⟨w1.heap.size+1+1,0,none⟩),.agg #[.string d,.string n1,.string n2,.int .u64 (n3:Int),.int .u8 (n4:Int),.int .i64 n5,.string n6,.string n7,.bool mt,.int .i64 ab]] W _):=hsee;clear hsee;have x0:W.cell? ⟨V.heap.size,0,none⟩=some (.string d):=Ja hrow;have x1:W.cell? ⟨V.heap.size,1,none⟩=some (.string n1):=Ja hrow;have x2:W.cell? ⟨V.heap.size,2,none⟩=some (.string n2):=Ja hrow;have x3:W.cell? ⟨V.heap.size,3,none⟩=some (.int .u64 (n3:Int)):=Ja hrow;have x4:W.cell? ⟨V.heap.size,4,none⟩=some (.int .u8 (n4:Int)):=Ja hrow;have x5:W.cell? ⟨V.heap.size,5,none⟩=some (.int .i64 n5):=Ja hrow;have x6:W.cell? ⟨V.heap.size,6,none⟩=some (.string n6):=Ja hrow;have x7:W.cell? ⟨V.heap.size,7,none⟩=some (.string n7):=Ja hrow;have x8:W.cell? ⟨V.heap.size,8,none⟩=some (.bool mt):=Ja hrow;have x9:W.cell? ⟨V.heap.size,9,none⟩=some (.int .i64 ab):=Ja hrow;have hBlow:∀j,VwB (w1.heap.size+2) w1.heap.size (w1.heap.size+1) lv j->w1.heap.size<=j/\j ≠ WD.heap.size/\j ≠ WD.heap.size+1:=λj hj=>by
   rcases hj with rfl|rfl|rfl|e
   ·omega
   ·omega
   ·omega
   ·have:=(hV.left.own j e.symm).1;omega
  have HBL:Hid (∀j,VwB (w1.heap.size+2) w1.heap.size (w1.heap.size+1) lv j->w1.heap.size<=j/\j ≠ WD.heap.size/\j ≠ WD.heap.size+1):=hBlow;have HV:Hid (VwAt _ W _ _ _ lv v):=hV;have HI:Hid (TrI w1 v W):=hI;have hr1:=hI.below.block _ (show w.heap.size+1<w1.heap.size by omega);have hr2:=hI.below.block _ (show w.heap.size+2<w1.heap.size by omega);have q1:W.heap[w.heap.size+1]? =some (.cells #[.map none,.map none,.slice none 0 0] 270):=hr1.trans ((HT1.o.block _ (Jb HR1.o) (λh=>h)).trans HR1.o);have q2:W.heap[w.heap.size+2]? =some (.cells #[.nilIface] 92):=hr2.trans ((HT1.o.block _ (Jb HR2.o) (λh=>h)).trans HR2.o);have HQ1:Hid (W.heap[w.heap.size+1]? =_):=q1;have HQ2:Hid (W.heap[w.heap.size+2]? =_):=q2;rw[hsp];clear hz3 hzD hszw hI hV hrow hEn hEr hVW hBlow hr1 hr2 q1 q2 hcan htL hz;gi_wp2;refine⟨trivial,(callsIn_wide.2 HSEE.o).mono ?_⟩;clear x0 x1 x2 x3 x4 x5 x6 x7 x8 x9;rintro _ w8⟨ht8,⟨v',lv',hst,rfl,hV8⟩|⟨hbad,t,u,rfl⟩⟩
  ·have HT8:Hid (Tch (VwB (w1.heap.size+2) w1.heap.size (w1.heap.size+1) lv) W w8):=ht8;have HV8:Hid (VwAt (w1.heap.size+7) w8 (w1.heap.size+2) w1.heap.size (w1.heap.size+1) lv' v'):=hV8;have HST:Hid (Yb v x (some v')):=hst;clear ht8 hV8 hst;gi_wp2;refine⟨⟨v',HST.o,⟨HI.o.below.trans (HT8.o.below HI.o.below.size (λj hj=>(HBL.o j hj).1)),⟨lv',HV8.o⟩,Qm HI.o.size HT8.o.size⟩,KpS.of HT8.o (λj cs T m ht hj=>HV.o.kinds ht hj) (λe=>?_)⟩,λl o ho hl=>?_⟩
   ·have:=(HBL.o p e).1;have:=HZ.o.2.2;omega
   ·refine(HT8.o.block _ (Jb ho) (λe=>?_)).trans ho;have:=HBL.o l e
    rcases hl with rfl|rfl
    ·exact this.2.1 rfl
    ·exact this.2.2 rfl
  ·have HT8:Hid (Tch (VwB (w1.heap.size+2) w1.heap.size (w1.heap.size+1) lv) W w8):=ht8;have HBAD:Hid (Yb v x none):=hbad;have hq1:w8.heap[w.heap.size+1]? =some (.cells #[.map none,.map none,.slice none 0 0] 270):=(ht8.block _ (Jb HQ1.o) (λe=>by have:=(HBL.o _ e).1;have:=HZ.o.2.2;omega)).trans HQ1.o;have hq2:w8.heap[w.heap.size+2]? =some (.cells #[.nilIface] 92):=(ht8.block _ (Jb HQ2.o) (λe=>by have:=(HBL.o _ e).1;have:=HZ.o.2.2;omega)).trans HQ2.o;obtain⟨X,hX,p1,p2,tX⟩:=JiB hq1 hq2 (.map none) (.map none) (.slice none 0 0) (.iface t u);have y0:w8.cell? ⟨w.heap.size+1,0,none⟩=some (.map none):=Ja hq1;have y1:w8.cell? ⟨w.heap.size+1,1,none⟩=some (.map none):=Ja hq1;have y2:w8.cell? ⟨w.heap.size+1,2,none⟩=some (.slice none 0 0):=Ja hq1;have y3:w8.cell? ⟨w.heap.size+1+1,0,none⟩=some .nilIface:=Ja hq2;have f0:w8.frozen? ⟨w.heap.size+1,0,none⟩=false:=Qg _ _ _ _ _ hq1;have f1:w8.frozen? ⟨w.heap.size+1,1,none⟩=false:=Qg _ _ _ _ _ hq1;have f2:w8.frozen? ⟨w.heap.size+1,2,none⟩=false:=Qg _ _ _ _ _ hq1;have f3:w8.frozen? ⟨w.heap.size+1+1,0,none⟩=false:=Qg _ _ _ _ _ hq2;have HX:Hid (X=_):=hX;have HP:Hid (X.heap[w.heap.size+1]? =_/\X.heap[w.heap.size+1+1]? =_):=⟨p1,p2⟩
   have HTX:Hid (Tch _ w8 X):=tX;clear ht8 hbad hq1 hq2 hX p1 p2 tX;gi_wp2;have hX2:=HX.o;rw[<-hX2];have hwz:=HZ.o;refine⟨⟨HBAD.o,?_,HP.o.1,t,u,HP.o.2⟩,λl o ho hl=>?_⟩
   ·have b1:Below w.heap.size w W:=((Tch.below HTD.o.2.2 (Ql _) noE).trans (HI.o.below.mono (by omega)))
    have b2:Below w.heap.size W w8:=HT8.o.below b1.size (λj hj=>by have:=(HBL.o j hj).1;omega);exact(b1.trans b2).trans (HTX.o.below (Qm b1.size b2.size) (λj hj=>by omega))
   ·have h8:=(HT8.o.block _ (Jb ho) (λe=>by
     have:=HBL.o l e
     rcases hl with rfl|rfl
     ·exact this.2.1 rfl
     ·exact this.2.2 rfl)).trans ho
    exact(HTX.o.block _ (Jb h8) (λe=>by omega)).trans h8
 case hdone=>
  rintro D v W hDe hen hI hK;obtain⟨lv,hV⟩:=hI.view;obtain⟨a,c,hlv⟩:=hV.left.shape;generalize v.left.length=ln at hlv;subst hlv;have q1:W.heap[w.heap.size+1]? =some (.cells #[.map none,.map none,.slice none 0 0] 270):=(hI.below.block _ (show w.heap.size+1<w1.heap.size by omega)).trans ((HT1.o.block _ (Jb HR1.o) (λh=>h)).trans HR1.o);have q2:W.heap[w.heap.size+2]? =some (.cells #[.nilIface] 92):=(hI.below.block _ (show w.heap.size+2<w1.heap.size by omega)).trans ((HT1.o.block _ (Jb HR2.o) (λh=>h)).trans HR2.o);obtain⟨X,hX,p1,p2,tX⟩:=JiB q1 q2 (.map (some w1.heap.size)) (.map (some (w1.heap.size+1))) (.slice a ln c) .nilIface;have y0:W.cell? ⟨w.heap.size+1,0,none⟩=some (.map none):=Ja q1;have y1:W.cell? ⟨w.heap.size+1,1,none⟩=some (.map none):=Ja q1;have y2:W.cell? ⟨w.heap.size+1,2,none⟩=some (.slice none 0 0):=Ja q1;have y3:W.cell? ⟨w.heap.size+1+1,0,none⟩=some .nilIface:=Ja q2;have f0:W.frozen? ⟨w.heap.size+1,0,none⟩=false:=Qg _ _ _ _ _ q1;have f1:W.frozen? ⟨w.heap.size+1,1,none⟩=false:=Qg _ _ _ _ _ q1;have f2:W.frozen? ⟨w.heap.size+1,2,none⟩=false:=Qg _ _ _ _ _ q1;have f3:W.frozen? ⟨w.heap.size+1+1,0,none⟩=false:=Qg _ _ _ _ _ q2;have v0:W.cell? ⟨w1.heap.size+1+1,0,none⟩=some (.map (some w1.heap.size)):=Ja hV.row;have v1:W.cell? ⟨w1.heap.size+1+1,1,none⟩=some (.map (some (w1.heap.size+1))):=Ja hV.row;have v2:W.cell? ⟨w1.heap.size+1+1,2,none⟩=some (.slice a ln c):=Ja hV.row;have hKX:X.heap[D]? =some (.deferred (some [])):=(tX.block _ (Jb hK) (λe=>by omega)).trans hK;have hg:=grownBy_putObj' X D (.deferred none);have hr':∀r,some D=some r->∃o:Obj,X.heap[r]? =some o/\o.isCells=false:=λr e=>by cases e;exact⟨_,hKX,rfl⟩
  have HRES:Hid (X=_/\X.heap[D]? =some (.deferred (some []))/\(X.putObj D (.deferred none)).heap[w.heap.size+1]? =_/\(X.putObj D (.deferred none)).heap[w.heap.size+2]? =_):=⟨hX,hKX,JbJ p1 hg hr',JbJ p2 hg hr'⟩
  have HFIN:Hid (Tch NoB w (X.putObj D (.deferred none))/\VwV w.heap.size (X.putObj D (.deferred none)) w1.heap.size (w1.heap.size+1) (.slice a ln c) v):=by
   have tP:Tch (λj=>j=D) X (X.putObj D (.deferred none)):=Tch.putObj _ _ _ _ rfl;have tXP:Tch (λj=>j=w.heap.size+1\/j=w.heap.size+1+1\/j=D) W (X.putObj D (.deferred none)):=(tX.mono (λj hj=>.inl (hj.imp (λh=>h) (λh=>.inl h)))).trans tP (λj hj=>.inl (.inr (.inr hj)));have b1:Tch (λj=>w1.heap.size<=j) w W:=(HTD.o.2.2.mono noE).trans (Tch.of_below hI.below) (λj hj=>.inl hj);refine⟨(b1.trans tXP (λj hj=>.inr (by rcases hj with rfl|rfl|rfl<;>omega))).mono (λj hj=>.inr (by omega)),hV.met.next tXP (λhj=>by omega),hV.outs.next tXP (λhj=>by omega),?_,hV.nm,hV.no,by omega⟩;have:=hV.left.tch tXP (λj hj e=>by
    obtain⟨hb,_⟩:=hV.left.own j hj;omega)
   obtain⟨h1,h2⟩:=this;refine⟨h1,h2.imp_right ?_⟩;rintro⟨g,cap,cur,h3,h4,h5⟩;exact⟨g,cap,cur,h3,by omega,h5⟩
  have HEN:Hid (JS b [Jt b root (-1)] ⟨[],[],[]⟩ (some v)):=hen;clear hI hV q1 q2 hX p1 p2 tX hKX hg hr' hz3 hzD hszw hK hen hDe;gi_wp2;rw[<-HRES.o.1];refine⟨by simp,.inl ⟨_,_,rfl,run_takeDeferred HRES.o.2.1,?_⟩⟩;refine⟨_,ZU results150 _ _ (w.heap.size+1) _ _ (0,0) _ ⟨w.heap.size+1+1,0,none⟩ .nilIface rfl rfl HRES.o.2.2.1 underlying270 rfl (by kernel_rfl) (isAgg92 _) (Ja HRES.o.2.2.2),HFIN.o.1,.inl ⟨v,_,_,_,HEN.o,rfl,HFIN.o.2⟩⟩
 case hstop=>
  rintro D W hDe hen⟨hb,hr1,t,u,hr2⟩ hK;have hg:=grownBy_putObj' W D (.deferred none);have hr':∀r,some D=some r->∃o:Obj,W.heap[r]? =some o/\o.isCells=false:=λr e=>by cases e;exact⟨_,hK,rfl⟩
  have HRES:Hid (W.heap[D]? =some (.deferred (some []))/\(W.putObj D (.deferred none)).heap[w.heap.size+1]? =_/\(W.putObj D (.deferred none)).heap[w.heap.size+2]? =_):=⟨hK,JbJ hr1 hg hr',JbJ hr2 hg hr'⟩
  have HFIN:Hid (Tch NoB w (W.putObj D (.deferred none))):=((Tch.of_below hb).trans (Tch.putObj (λj=>j=D) W D (.deferred none) rfl) (λj hj=>.inr (by omega))).mono (λj hj=>.inr hj);have HEN:Hid (JS b [Jt b root (-1)] ⟨[],[],[]⟩ none):=hen;clear hg hr' hz3 hzD hszw hK hen hDe hb hr1 hr2;gi_wp2;refine⟨by simp,.inl ⟨_,_,rfl,run_takeDeferred HRES.o.1,?_⟩⟩;refine⟨_,ZU results150 _ _ (w.heap.size+1) _ _ (0,0) _ ⟨w.heap.size+1+1,0,none⟩ (.iface t u) rfl rfl HRES.o.2.1 underlying270 rfl (by kernel_rfl) (isAgg92 _) (Ja HRES.o.2.2),HFIN.o,.inr ⟨HEN.o,t,u,rfl⟩⟩
