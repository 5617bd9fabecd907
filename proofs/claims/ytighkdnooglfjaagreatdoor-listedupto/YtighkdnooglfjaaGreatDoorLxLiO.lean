import Derived.Test.YtighkdnooglfjaaGreatDoorLxRgC
namespace Go.Proofs.YtighkdnooglfjaaGreatDoor
open Tryz
set_option maxRecDepth 100000
set_option maxHeartbeats 4000000
open Go.RowKit

attribute [local go_sem] Oper.semAt_some

structure DnI(n0 p:Nat)(b:ByL)(root:BA)(J:Vw->World->Prop)(Bn:Nat)(wj:Int)(m:Nat)(x:Value)(W:World)(st:List Spot)(v:Vw):Prop where
 own:Yc n0 W x st.reverse
 low:n0<=W.heap.size
 all:∀s∈st,s.nd=Xb b s.dg
 walk:∀res,JS b st v res->JS b [Jt b root (-1)] ⟨[],[],[]⟩ res
 nm:v.met.Nodup
 sub:∀e∈v.met,e∈b.map (·.1)
 left:m=3*(b.length-v.met.length)+st.length
 lft:v.left.length+st.length<=v.met.length+1
 j:J v W
 map:MpAt W p (byE b)
 box:W.heap[Bn]? =some (.cells #[.int .i64 wj,.map (some p)] 264)
theorem Jav(z:Int)(h1: -4611686018427387904<=z)(h2:z<=4611686018427387904):IntKind.i64.wrap z=z:=by
 simp only[IntKind.wrap,IntKind.signed,IntKind.bits];simp;omega
theorem Jg8(b:ByL)(s:Spot):∀x∈Xs b s,x.nd=Xb b x.dg:=by
 intro x hx;unfold Xs at hx
 split at hx
 ·cases hx
 ·split at hx
  ·simp only[List.mem_cons,QD,or_false]at hx
   rcases hx with rfl|rfl<;>rfl
  ·cases hx
theorem Jg9(b:ByL)(s:Spot):(Xs b s).length<=2:=by
 unfold Xs
 split
 ·simp
 ·split<;>simp
theorem Yb.went{b:ByL}{v v':Vw}{s:Spot}(h:Yb v s (some v'))(hs:s.nd=Xb b s.dg)(nm:v.met.Nodup)(sub:∀e∈v.met,e∈b.map (·.1)):
  v'.met.Nodup/\(∀e∈v'.met,e∈b.map (·.1))/\((v'.met.length=v.met.length+1/\v'.left.length=v.left.length)\/(v'.met.length=v.met.length/\v'.left.length=v.left.length+1/\Xs b s=[])):=by
 have key:∀n,s.nd=some n->s.dg ∉ v.met->v'.met=v.met++[s.dg]->v'.left=v.left->v'.met.Nodup/\(∀e∈v'.met,e∈b.map (·.1))/\((v'.met.length=v.met.length+1/\v'.left.length=v.left.length)\/(v'.met.length=v.met.length/\v'.left.length=v.left.length+1/\Xs b s=[])):=λn hn h1 e e2=>by
  have hb:s.dg∈b.map (·.1):=Classical.byContradiction λk=>by rw[hs,Ja8.2 k]at hn;cases hn
  rw[e,e2];refine⟨?_,λx hx=>?_,.inl (by simp)⟩
  ·rw[List.nodup_append];refine⟨nm,by simp,?_⟩;rintro x hx y hy rfl;rw[Qt]at hy;exact h1 (hy ▸ hx)
  ·rcases QE.1 hx with hx|hx
   ·exact sub x hx
   ·rw[Qt]at hx;rw[hx];exact hb
 rcases h with⟨h1,h2⟩|⟨n,hn,h2⟩
 ·cases h2
  exact⟨nm,sub,.inr ⟨rfl,by simp,by unfold Xs;rw[h1]⟩⟩
 ·rcases h2 with⟨_,h2⟩|⟨h1,⟨_,⟨_,h2⟩|⟨_,h2⟩⟩|⟨_,⟨_,h2⟩|⟨_,h2⟩⟩|⟨_,_,h2⟩⟩<;>first|(cases h2;done)|(cases h2;exact key n hn h1 rfl rfl)
theorem Jnr(n0 n:Nat)(hn:2<=n)(l Bn Br:Nat)(wj:Int)(p:Nat)(b:ByL)(hd:(b.map (·.1)).Nodup)(hbl:b.length<=900000000)(root:BA)(J:Vw->World->Prop)(Jx:World->Prop)
  (hJ:∀v A B,J v A->ItS n0 A B->J v B)
  (hY:∀v s V,v.left.length<=1000000000->J v V->YieldAt Fence.wide (n-1) prog l #[.agg (spC s)] V λe V'=>(e=.returned (.bool true)/\∃v',Yb v s (some v')/\J v' V'/\KpS p V V')\/(e=.returned (.bool false)/\Yb v s none/\Jx V'))
  (W:World) (hn0:n0<=W.heap.size) (hm:MpAt W p (byE b)) (rn:W.heap[Bn]? =some (.cells #[.int .i64 wj,.map (some p)] 264)) (rr:W.heap[Br]? =some (.cells #[.string root] 9)) (h0:J ⟨[],[],[]⟩ W):
  CallsIn Fence.wide n prog 299 #[.func (.yield l) #[] #[],.pointer (some ⟨Bn,0,none⟩),.pointer (some ⟨Br,0,none⟩)] W λe W'=>(∃v,e=.returned v)/\((∃v,JS b [Jt b root (-1)] ⟨[],[],[]⟩ (some v)/\J v W')\/(JS b [Jt b root (-1)] ⟨[],[],[]⟩ none/\Jx W')):=by
 have c0n:W.cell? ⟨Bn,0,none⟩=some (.int .i64 wj):=Ja rn;have c1n:W.cell? ⟨Bn,1,none⟩=some (.map (some p)):=Ja rn;have b0:W.cell? ⟨Br,0,none⟩=some (.string root):=Ja rr;have HSP:Hid (∀V e ab,MpAt V p (byE b)->Calls prog 300 #[.agg #[.int .i64 wj,.map (some p)],.string e,.int .i64 ab] V λr w'=>r=.returned (.agg (spC (Jt b e ab)))/\Tch NoB V w'):=λV e ab h=>JmS wj p b hd e ab V h;have HBL:Hid _:=hbl;have HJ:Hid _:=hJ;have HY:Hid _:=hY;have HM:Hid (MpAt W p (byE b)):=hm;have HRN:Hid _:=rn;have H0:Hid _:=h0;obtain⟨μ,hμ⟩:∃μ:Value->World->Nat,∀x V m,(∃st v,DnI n0 p b root J Bn wj m x V st v)->(∃st v,DnI n0 p b root J Bn wj (μ x V) x V st v)/\μ x V<=m:=by
  have key:∀(q:Value×World),∃μ:Nat,∀m,(∃st v,DnI n0 p b root J Bn wj m q.1 q.2 st v)->(∃st v,DnI n0 p b root J Bn wj μ q.1 q.2 st v)/\μ<=m:=λq=>by
   by_cases h:∃m,∃st v,DnI n0 p b root J Bn wj m q.1 q.2 st v
   ·obtain⟨m,hm⟩:=h
    induction m using Nat.strongRecOn with
    | _ m ih=>
     by_cases h2:∃m',m'<m/\∃st v,DnI n0 p b root J Bn wj m' q.1 q.2 st v
     ·obtain⟨m',h3,h4⟩:=h2;exact ih m' h3 h4
     ·exact⟨m,λm' h'=>⟨hm,Nat.le_of_not_lt λk=>h2 ⟨m',k,h'⟩⟩⟩
   ·exact⟨0,λm hm=>absurd ⟨m,hm⟩ h⟩
  obtain⟨f,hf⟩:=Classical.axiomOfChoice key;exact⟨λx V=>f (x,V),λx V m h=>hf (x,V) m h⟩
 have HMU:Hid _:=hμ;refine callsIn_of_wp func299 rfl trivial ?_ rfl;simp only[ntmps299,List.size_toArray,Qp,Qv,Nat.reduceAdd,Nat.reduceSub,Array.replicate_succ,Array.replicate_zero,List.push_toArray,List.append_toArray,List.nil_append,List.cons_append];gi_wp2;refine⟨trivial,λ_=>by omega,(callsIn_wide.2 (HSP.o W root (-1) HM.o)).mono ?_⟩;rintro _ W1⟨rfl,ht1⟩;obtain⟨nd,hnd⟩:∃nd,nd=(Xb b root).getD Xa:=⟨_,rfl⟩
 obtain⟨mt,hmt⟩:∃mt,mt=(Xb b root).isSome:=⟨_,rfl⟩
 have hsp:spC (Jt b root (-1))= #[.string root,.string nd.1,.string nd.2.1,.int .u64 (nd.2.2.1.1:Int),.int .u8 (nd.2.2.1.2:Int),.int .i64 nd.2.2.2.1,.string nd.2.2.2.2.1,.string nd.2.2.2.2.2,.bool mt,.int .i64 (-1)]:=by rw[hnd,hmt];rfl
 rw[hsp];obtain⟨W2,hW2⟩:∃W2,W2=W1.alloc (.cells #[.string root,.string nd.1,.string nd.2.1,.int .u64 (nd.2.2.1.1:Int),.int .u8 (nd.2.2.1.2:Int),.int .i64 nd.2.2.2.1,.string nd.2.2.2.2.1,.string nd.2.2.2.2.2,.bool mt,.int .i64 (-1)] 384):=⟨_,rfl⟩
 have t2:Tch NoB W W2:=by rw[hW2];exact ht1.go (Ta _ _ _)
 have HI0:Hid (∃m st v,DnI n0 p b root J Bn wj m (.slice (some ⟨W1.heap.size,0,none⟩) 1 1) W2 st v):=⟨_,[Jt b root (-1)],⟨[],[],[]⟩,Yc.one (Qm hn0 ht1.size) (by rw[hW2,hsp];exact Qf _ _),Qm hn0 t2.size,λs hs=>(by rw[Qt]at hs;rw[hs];rfl),λ_ h=>h,List.nodup_nil,λ_ h=>(by cases h),rfl,by simp,HJ.o _ _ _ H0.o (t2.mono noE),HM.o.next t2 (λh=>h),(t2.block _ (Jb HRN.o) (λh=>h)).trans HRN.o⟩
 have HW2:Hid _:=hW2;clear ht1 t2 hW2 c0n c1n b0 H0 HM HRN hsp hnd hmt;gi_upto_region 1 with fail;rw[<-HW2.o];gi_loopw [4] (λx wr=>∃m st v,DnI n0 p b root J Bn wj m x wr st v) (λx wr=>μ x wr)
 case atStart=>exact HI0.o
 case round=>
  obtain⟨m0,hex⟩:=hrel;obtain⟨⟨st,v,hI⟩,_⟩:=HMU.o _ _ m0 hex
  cases st with
  | nil=>
   obtain⟨a4,c4,hx⟩:=hI.own.shape;simp only[List.reverse_nil,Qv]at hx;subst hx;have HI:Hid _:=hI;gi_wp2;refine bodyPost_end (v:=.tuple #[]) (results_none results299 _ _ _) rfl ?_;exact⟨⟨_,rfl⟩,.inl ⟨v,HI.o.walk _ (.done v),HI.o.j⟩⟩
  | cons s st=>
   have hown:=hI.own;rw[List.reverse_cons]at hown;obtain⟨g,cap,rfl,hc1,hc2,hcell,hown2⟩:=hown.pop;have hsl:st.reverse.length<=1000000001:=(by have h1:=hI.lft;have h2:=XS v.met (b.map (·.1)) hI.nm hI.sub;rw[QL]at h2;have:=HBL.o;rw[List.length_reverse];simp only[Qp]at h1;omega);have HCAN:Hid (v.left.length<=1000000000):=(by have h1:=hI.lft;have h2:=XS v.met (b.map (·.1)) hI.nm hI.sub;rw[QL]at h2;have:=HBL.o;show v.left.length<=1000000000;omega);generalize hk:st.reverse.length=k at *;have HK:Hid _:=hk;have HI:Hid (DnI n0 p b root J Bn wj _ _ wr (s::st) v):=hI;have HOW:Hid (Yc n0 wr (.slice (some ⟨g,0,none⟩) k cap) st.reverse):=hown2;obtain⟨sd,snd,sab⟩:=s;obtain⟨nd,hnd⟩:∃nd,nd=snd.getD Xa:=⟨_,rfl⟩
   obtain⟨mt,hmt⟩:∃mt,mt=snd.isSome:=⟨_,rfl⟩
   have hsp:spC ⟨sd,snd,sab⟩= #[.string sd,.string nd.1,.string nd.2.1,.int .u64 (nd.2.2.1.1:Int),.int .u8 (nd.2.2.1.2:Int),.int .i64 nd.2.2.2.1,.string nd.2.2.2.2.1,.string nd.2.2.2.2.2,.bool mt,.int .i64 sab]:=(by rw[hnd,hmt];rfl);rw[hsp]at hcell;have HSPC:Hid (spC ⟨sd,snd,sab⟩=_):=hsp;have HND:Hid (nd=snd.getD Xa):=hnd;clear hk hI hown hown2 hsp hnd hmt;obtain⟨n1,n2,⟨n3,n4⟩,n5,n6,n7⟩:=nd;dsimp only at hcell HSPC;have x0:wr.cell? ⟨g,k*10+0,none⟩=some (.string sd):=hcell 0 (by omega);have x1:wr.cell? ⟨g,k*10+1,none⟩=some (.string n1):=hcell 1 (by omega);have x2:wr.cell? ⟨g,k*10+2,none⟩=some (.string n2):=hcell 2 (by omega);have x3:wr.cell? ⟨g,k*10+3,none⟩=some (.int .u64 (n3:Int)):=hcell 3 (by omega);have x4:wr.cell? ⟨g,k*10+4,none⟩=some (.int .u8 (n4:Int)):=hcell 4 (by omega);have x5:wr.cell? ⟨g,k*10+5,none⟩=some (.int .i64 n5):=hcell 5 (by omega);have x6:wr.cell? ⟨g,k*10+6,none⟩=some (.string n6):=hcell 6 (by omega);have x7:wr.cell? ⟨g,k*10+7,none⟩=some (.string n7):=hcell 7 (by omega);have x8:wr.cell? ⟨g,k*10+8,none⟩=some (.bool mt):=hcell 8 (by omega);have x9:wr.cell? ⟨g,k*10+9,none⟩=some (.int .i64 sab):=hcell 9 (by omega);rw[Nat.add_zero]at x0;simp only[maxLen]at hc2;have q0:(0:Int)<((k+1:Nat):Int):=(by omega);have q1:IntKind.i64.wrap (((k+1:Nat):Int)-1)=(k:Int):=(by rw[Jav _ (by omega) (by omega)];omega);have q2:(0:Int)<=(k:Int):=(by omega);have q3:(k:Int)<((k+1:Nat):Int):=(by omega);have q4:(k:Int)<=(cap:Int):=(by omega);obtain⟨W3,hW3⟩:∃W3,W3=wr.alloc (.cells #[.string sd,.string n1,.string n2,.int .u64 (n3:Int),.int .u8 (n4:Int),.int .i64 n5,.string n6,.string n7,.bool mt,.int .i64 sab] 384):=⟨_,rfl⟩
   have t3:Tch NoB wr W3:=(by rw[hW3];exact Ta _ _ _);have hr3:W3.heap[wr.heap.size]? =some (.cells #[.string sd,.string n1,.string n2,.int .u64 (n3:Int),.int .u8 (n4:Int),.int .i64 n5,.string n6,.string n7,.bool mt,.int .i64 sab] 384):=(by rw[hW3];exact Qf _ _);have z0:W3.cell? ⟨wr.heap.size,0,none⟩=some (.string sd):=Ja hr3;have z1:W3.cell? ⟨wr.heap.size,1,none⟩=some (.string n1):=Ja hr3;have z2:W3.cell? ⟨wr.heap.size,2,none⟩=some (.string n2):=Ja hr3;have z3:W3.cell? ⟨wr.heap.size,3,none⟩=some (.int .u64 (n3:Int)):=Ja hr3;have z4:W3.cell? ⟨wr.heap.size,4,none⟩=some (.int .u8 (n4:Int)):=Ja hr3;have z5:W3.cell? ⟨wr.heap.size,5,none⟩=some (.int .i64 n5):=Ja hr3;have z6:W3.cell? ⟨wr.heap.size,6,none⟩=some (.string n6):=Ja hr3;have z7:W3.cell? ⟨wr.heap.size,7,none⟩=some (.string n7):=Ja hr3;have z8:W3.cell? ⟨wr.heap.size,8,none⟩=some (.bool mt):=Ja hr3;have z9:W3.cell? ⟨wr.heap.size,9,none⟩=some (.int .i64 sab):=Ja hr3;have hYY:=HY.o v ⟨sd,snd,sab⟩ W3 HCAN.o (HJ.o _ _ _ HI.o.j (t3.mono noE));rw[HSPC.o]at hYY;obtain⟨fn,tmps,assign,body,hy,hR⟩:=hYY;have HW3:Hid (W3=_):=hW3;have HR3:Hid (W3.heap[wr.heap.size]? =_):=hr3;have HT3:Hid (Tch NoB wr W3):=t3;clear hW3 t3 hr3;gi_upto_region 5 with fail;rw[<-HW3.o];clear x0 x1 x2 x3 x4 x5 x6 x7 x8 x9;gi_wp2;refine⟨λ_=>by omega,hR.mono ?_⟩;clear hR hy z0 z1 z2 z3 z4 z5 z6 z7 z8 z9;rintro e W4 (⟨rfl,v',hst,hJ4,hk4⟩|⟨rfl,hbad,hJx⟩)
   ·have hgo:=hst.went (HI.o.all _ QM) HI.o.nm HI.o.sub;have HGO:Hid _:=hgo;have hr4:=hk4.row _ _ _ _ (.inl rfl) HR3.o;have HR4:Hid (W4.heap[wr.heap.size]? =some (.cells _ 384)):=hr4;have z1:W4.cell? ⟨wr.heap.size,1,none⟩=some (.string n1):=Ja hr4;have z5:W4.cell? ⟨wr.heap.size,5,none⟩=some (.int .i64 n5):=Ja hr4;have z6:W4.cell? ⟨wr.heap.size,6,none⟩=some (.string n6):=Ja hr4;have z7:W4.cell? ⟨wr.heap.size,7,none⟩=some (.string n7):=Ja hr4;have HM4:Hid (MpAt W4 p (byE b)):=hk4.map _ (HI.o.map.next HT3.o (λh=>h));have HB4:Hid (W4.heap[Bn]? =some (.cells #[.int .i64 wj,.map (some p)] 264)):=hk4.row _ _ _ _ (.inr rfl) ((HT3.o.block _ (Jb HI.o.box) (λh=>h)).trans HI.o.box);have HO4:Hid (Yc n0 W4 (.slice (some ⟨g,0,none⟩) k cap) st.reverse):=(HOW.o.next HT3.o).kp hk4;have HJ4:Hid (J v' W4):=hJ4;have HL4:Hid (n0<=W4.heap.size):=Qm (Qm HI.o.low HT3.o.size) hk4.size;have HST:Hid (Yb v ⟨sd,snd,sab⟩ (some v')):=hst;have HLM:Hid (v'.met.length<=b.length):=by
     have:=XS v'.met (b.map (·.1)) hgo.1 hgo.2.1;rw[QL]at this;exact this
    clear hgo hr4 hk4 hJ4 hst
    by_cases hN:n1=⟨#[78]⟩
    ·subst hN;have HBE:Hid (Xs b ⟨sd,snd,sab⟩=[Jt b n6 n5,Jt b n7 n5]):=by
      show Xs b ⟨sd,snd,sab⟩=[Jt b n6 n5,Jt b n7 n5];unfold Xs;have h1:=HND.o
      cases snd with
      | none=>exact absurd (show (⟨#[78]⟩:BA)=⟨#[]⟩ from congrArg Prod.fst h1) (by decide)
      | some x=>
       rw[Option.getD_some]at h1;rw[<-h1];rfl
     obtain⟨W5,hW5⟩:∃W5,W5=W4.alloc (.cells #[.string n6,.string n7] 277):=⟨_,rfl⟩
     have t5:Tch NoB W4 W5:=(by rw[hW5];exact Ta _ _ _);have hr5:W5.heap[W4.heap.size]? =some (.cells #[.string n6,.string n7] 277):=(by rw[hW5];exact Qf _ _);have HSQ:Hid (∀V e,Tch NoB W5 V->Calls prog 300 #[.agg #[.int .i64 wj,.map (some p)],.string e,.int .i64 n5] V λr w'=>r=.returned (.agg #[.string e,.string ((Xb b e).getD Xa).1,.string ((Xb b e).getD Xa).2.1,.int .u64 (((Xb b e).getD Xa).2.2.1.1:Int),.int .u8 (((Xb b e).getD Xa).2.2.1.2:Int),.int .i64 ((Xb b e).getD Xa).2.2.2.1,.string ((Xb b e).getD Xa).2.2.2.2.1,.string ((Xb b e).getD Xa).2.2.2.2.2,.bool (Xb b e).isSome,.int .i64 n5])/\Tch NoB V w'):=λV e hV=>HSP.o V e n5 ((HM4.o.next t5 (λh=>h)).next hV (λh=>h));obtain⟨Z,hZ⟩:∃Z:BA->Jk,Z=λe=>(Xb b e).getD Xa:=⟨_,rfl⟩
     obtain⟨Y,hY⟩:∃Y:BA->Bool,Y=λe=>(Xb b e).isSome:=⟨_,rfl⟩
     have HSQ2:Hid (∀V e,Tch NoB W5 V->Calls prog 300 #[.agg #[.int .i64 wj,.map (some p)],.string e,.int .i64 n5] V λr w'=>r=.returned (.agg #[.string e,.string (Z e).1,.string (Z e).2.1,.int .u64 ((Z e).2.2.1.1:Int),.int .u8 ((Z e).2.2.1.2:Int),.int .i64 (Z e).2.2.2.1,.string (Z e).2.2.2.2.1,.string (Z e).2.2.2.2.2,.bool (Y e),.int .i64 n5])/\Tch NoB V w'):=(by rw[hZ,hY];exact HSQ);have hcs:∀e,spC (Jt b e n5)= #[.string e,.string (Z e).1,.string (Z e).2.1,.int .u64 ((Z e).2.2.1.1:Int),.int .u8 ((Z e).2.2.1.2:Int),.int .i64 (Z e).2.2.2.1,.string (Z e).2.2.2.2.1,.string (Z e).2.2.2.2.2,.bool (Y e),.int .i64 n5]:=λe=>by rw[hZ,hY];rfl
     have HC8:Hid (∀V,Tch NoB W5 V->V.cell? ⟨Bn,0,none⟩=some (.int .i64 wj)/\V.cell? ⟨Bn,1,none⟩=some (.map (some p))/\V.cell? ⟨wr.heap.size,5,none⟩=some (.int .i64 n5)/\V.cell? ⟨W4.heap.size,0,none⟩=some (.string n6)/\V.cell? ⟨W4.heap.size,1,none⟩=some (.string n7)):=λV hV=>by
      have hT:=t5.go hV;have k1:=(hT.block _ (Jb HB4.o) (λh=>h)).trans HB4.o;have k2:=(hT.block _ (Jb HR4.o) (λh=>h)).trans HR4.o;have k3:=(hV.block _ (Jb hr5) (λh=>h)).trans hr5;exact⟨Ja k1,Ja k1,Ja k2,Ja k3,Ja k3⟩
     have hkb:st.reverse.length<=1000000001:=(by rw[HK.o];exact hsl);have HAP:Hid (∀V,Tch NoB W5 V->∃a9 m9 c9 w9,(Builtin.append_ #[452,452] 452 #[.slice (some ⟨g,0,none⟩) k cap,.slice (some ⟨V.heap.size,0,none⟩) 2 2]).run prog (V.alloc (.cells #[.string n7,.string (Z n7).1,.string (Z n7).2.1,.int .u64 ((Z n7).2.2.1.1:Int),.int .u8 ((Z n7).2.2.1.2:Int),.int .i64 (Z n7).2.2.2.1,.string (Z n7).2.2.2.2.1,.string (Z n7).2.2.2.2.2,.bool (Y n7),.int .i64 n5,.string n6,.string (Z n6).1,.string (Z n6).2.1,.int .u64 ((Z n6).2.2.1.1:Int),.int .u8 ((Z n6).2.2.1.2:Int),.int .i64 (Z n6).2.2.2.1,.string (Z n6).2.2.2.2.1,.string (Z n6).2.2.2.2.2,.bool (Y n6),.int .i64 n5] 384))=.ok (.slice a9 m9 c9) w9/\(w9.cell? ⟨Bn,0,none⟩=some (.int .i64 wj)/\w9.cell? ⟨Bn,1,none⟩=some (.map (some p))/\w9.cell? ⟨wr.heap.size,5,none⟩=some (.int .i64 n5)/\w9.cell? ⟨W4.heap.size,0,none⟩=some (.string n6)/\w9.cell? ⟨W4.heap.size,1,none⟩=some (.string n7))/\Hid (DnI n0 p b root J Bn wj (3*(b.length-v'.met.length)+(st.length+2)) (.slice a9 m9 c9) w9 (Jt b n6 n5::Jt b n7 n5::st) v')):=λV hV=>by
      obtain⟨VA,hVA⟩:∃VA,VA=V.alloc (.cells #[.string n7,.string (Z n7).1,.string (Z n7).2.1,.int .u64 ((Z n7).2.2.1.1:Int),.int .u8 ((Z n7).2.2.1.2:Int),.int .i64 (Z n7).2.2.2.1,.string (Z n7).2.2.2.2.1,.string (Z n7).2.2.2.2.2,.bool (Y n7),.int .i64 n5,.string n6,.string (Z n6).1,.string (Z n6).2.1,.int .u64 ((Z n6).2.2.1.1:Int),.int .u8 ((Z n6).2.2.1.2:Int),.int .i64 (Z n6).2.2.2.1,.string (Z n6).2.2.2.2.1,.string (Z n6).2.2.2.2.2,.bool (Y n6),.int .i64 n5] 384):=⟨_,rfl⟩
      have tVA:Tch NoB W5 VA:=(by rw[hVA];exact hV.go (Ta _ _ _));have t4A:Tch NoB W4 VA:=t5.go tVA;have hown:=HO4.o.next t4A;obtain⟨v9,w9,hrun,hown9,hg9⟩:=Jea hown (Qm HL4.o t4A.size) V.heap.size (Jt b n7 n5) (Jt b n6 n5) _ (by rw[hcs,hcs]) (by rw[hVA];exact Qf _ _) hkb 452;obtain⟨a9,c9,hv9⟩:=hown9.shape;generalize (st.reverse++[Jt b n7 n5,Jt b n6 n5]).length=m9 at hv9;subst hv9;rw[<-hVA];have hit:ItS n0 VA w9:=hown.it hg9;have tG:Tch (λj=>j=g) VA w9:=(Tg hg9).mono (λj hj=>.inl (by simpa [Value.ownBlock]using hj));have hgne:∀j cs T m,(j=wr.heap.size\/T ≠ 384)->VA.heap[j]? =some (Obj.cells cs T m)->j ≠ g:=λj cs T m h1 h2 e=>by
       obtain⟨_,⟨h,_⟩|⟨g',_,cur,h3,_,h5,_⟩⟩:=HO4.o
       ·cases h
       ·simp only[Qy,Qh,Addr.mk.injEq]at h3;have hgg:g=g':=h3.1.1
        rcases h1 with rfl|h1
        ·have:g<wr.heap.size:=by
          obtain⟨_,⟨h,_⟩|⟨g2,_,cur2,h3',_,h5',_⟩⟩:=HOW.o
          ·cases h
          ·simp only[Qy,Qh,Addr.mk.injEq]at h3';rw[h3'.1.1];exact(Jb h5')
         omega
        ·rw[e,hgg,(t4A.block _ (Jb h5) (λh=>h)).trans h5]at h2;simp only[Qh,Obj.cells.injEq]at h2;exact h1 h2.2.1.symm
      have k1:=(t4A.block _ (Jb HB4.o) (λh=>h)).trans HB4.o;have k2:=(t4A.block _ (Jb HR4.o) (λh=>h)).trans HR4.o;have k3:=(tVA.block _ (Jb hr5) (λh=>h)).trans hr5;have l1:=(tG.block _ (Jb k1) (hgne _ _ _ _ (.inr (by decide)) k1)).trans k1;have l2:=(tG.block _ (Jb k2) (hgne _ _ _ _ (.inl rfl) k2)).trans k2;have l3:=(tG.block _ (Jb k3) (hgne _ _ _ _ (.inr (by decide)) k3)).trans k3;have hmA:=HM4.o.next t4A (λh=>h);have hgo:=HGO.o;have hll:=HI.o.lft;simp only[Qp]at hll;refine⟨a9,m9,c9,w9,hrun,⟨Ja l1,Ja l1,Ja l2,Ja l3,Ja l3⟩,⟨by simpa using hown9,Qm (Qm HL4.o t4A.size) tG.size,λs hs=>?_,λres hw=>HI.o.walk res (.step _ _ _ v' res HST.o (by rw[HBE.o];exact hw)),hgo.1,hgo.2.1,rfl,?_,HJ.o _ _ _ (HJ.o _ _ _ HJ4.o (t4A.mono noE)) hit,hmA.next tG (λe=>?_),l1⟩⟩
      ·simp only[List.mem_cons]at hs
       rcases hs with rfl|rfl|hs
       ·rfl
       ·rfl
       ·exact HI.o.all s (QP _ hs)
      ·have h3:=hgo.2.2;rw[HBE.o]at h3;simp only[Qp]
       rcases h3 with h3|⟨_,_,h3⟩
       ·omega
       ·cases h3
      ·obtain⟨_,⟨h,_⟩|⟨g',_,cur,h3,_,h5,_⟩⟩:=hown
       ·cases h
       ·simp only[Qy,Qh,Addr.mk.injEq]at h3;unfold MpAt at hmA;rw[e,h3.1.1,h5]at hmA
        cases hmA
     have HW5:Hid (W5=_):=hW5;have HTd:Hid (Tch NoB W5 W5.drew):=Td _ W5 1;obtain⟨d0,d1,d2,d3,d4⟩:=HC8.o W5 (Te _ _);clear hW5 t5 hr5 HSQ hcs hkb hZ hY hsl;gi_upto_region 8 with fail;rw[<-HW5.o];refine wpIn_wide.2 ?_;go_region_held3 (λV=>V.cell? ⟨Bn,0,none⟩=some (.int .i64 wj)/\V.cell? ⟨Bn,1,none⟩=some (.map (some p))/\V.cell? ⟨wr.heap.size,5,none⟩=some (.int .i64 n5)/\V.cell? ⟨W4.heap.size,0,none⟩=some (.string n6)/\V.cell? ⟨W4.heap.size,1,none⟩=some (.string n7)) (go_keep) ((first
      | (go_at_call 300;refine(HSQ2.o _ _ HT7.o).mono ?_;rintro _ w8⟨rfl,ht8⟩;have HT8:Hid (Tch NoB W5 w8):=HT7.o.go ht8;obtain⟨f0,f1,f2,f3,f4⟩:=HC8.o _ HT8.o;obtain⟨g0,g1,g2,g3,g4⟩:=HC8.o _ (HT8.o.go (Ta _ w8 (.cells #[.string n7,.string (Z n7).1,.string (Z n7).2.1,.int .u64 ((Z n7).2.2.1.1:Int),.int .u8 ((Z n7).2.2.1.2:Int),.int .i64 (Z n7).2.2.2.1,.string (Z n7).2.2.2.2.1,.string (Z n7).2.2.2.2.2,.bool (Y n7),.int .i64 n5,.string n6,.string (Z n6).1,.string (Z n6).2.1,.int .u64 ((Z n6).2.2.1.1:Int),.int .u8 ((Z n6).2.2.1.2:Int),.int .i64 (Z n6).2.2.2.1,.string (Z n6).2.2.2.2.1,.string (Z n6).2.2.2.2.2,.bool (Y n6),.int .i64 n5] 384)));obtain⟨a9,m9,c9,w9,hrun9,⟨h0,h1,h2,h3,h4⟩,HNEW⟩:=HAP.o w8 HT8.o;clear ht8)
      | (go_at_call 300;refine(HSQ2.o _ _ HTd.o).mono ?_;rintro _ w7⟨rfl,ht7⟩;have HT7:Hid (Tch NoB W5 w7):=HTd.o.go ht7;obtain⟨e0,e1,e2,e3,e4⟩:=HC8.o _ HT7.o;clear ht7)
      | (refine Yn rfl _ _ 452 rfl rfl rfl hrun9 ?_)))
     all_goals gi_wp2
     all_goals go_roundw
     all_goals first
      | exact⟨_,_,v',HNEW.o⟩
      | (
       have h1:=(HMU.o _ _ _ ⟨_,v',HNEW.o⟩).2;have h2:=HI.o.left;have h3:=HGO.o.2.2;have h4:=HLM.o;rw[HBE.o]at h3;simp only[Qp]at h2
       rcases h3 with h3|⟨_,_,h3⟩
       ·omega
       ·cases h3)
    ·have HBE:Hid (Xs b ⟨sd,snd,sab⟩=[]):=by
      show Xs b ⟨sd,snd,sab⟩=[];unfold Xs;have h1:=HND.o
      cases snd with
      | none=>rfl
      | some x=>
       have h2:x.1=n1:=(by rw[Option.getD_some]at h1;rw[<-h1]);simp only;rw[if_neg (by rw[h2];exact hN)]
     have hN2:=Jb7 hN;have HNEW:Hid (DnI n0 p b root J Bn wj (3*(b.length-v'.met.length)+st.length) (.slice (some ⟨g,0,none⟩) k cap) W4 st v'):=(by have hl:=HI.o.lft;simp only[Qp]at hl;refine⟨HO4.o,HL4.o,λs hs=>HI.o.all s (QP _ hs),λres hw=>HI.o.walk res (.step _ _ _ v' res HST.o (by rw[HBE.o];exact hw)),HGO.o.1,HGO.o.2.1,rfl,by have:=HGO.o.2.2;omega,HJ4.o,HM4.o,HB4.o⟩);gi_wp2;go_roundw
     case rel=>exact⟨_,st,v',HNEW.o⟩
     case measure=>have h1:=(HMU.o _ _ _ ⟨st,v',HNEW.o⟩).2;have h2:=HI.o.left;have h3:=HGO.o.2.2;have h4:=HLM.o;simp only[Qp]at h2;omega
   ·have HBAD:Hid (Yb v ⟨sd,snd,sab⟩ none):=hbad;gi_wp2;refine QJ (v:=.tuple #[]) (results_none results299 _ _ _) rfl ?_;exact⟨⟨_,rfl⟩,.inr ⟨HI.o.walk _ (.bad _ _ _ HBAD.o),hJx⟩⟩
