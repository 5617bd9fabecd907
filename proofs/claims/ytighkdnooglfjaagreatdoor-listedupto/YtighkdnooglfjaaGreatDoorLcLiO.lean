import Derived.Test.YtighkdnooglfjaaGreatDoorLcLiM
namespace Go.Proofs.YtighkdnooglfjaaGreatDoor
open Tryz
set_option maxRecDepth 100000
set_option maxHeartbeats 4000000
open Go.RowKit

variable {p:Nat}{S:Nat->Prop}{T:TypeId}{v:Vw}{A B w:World}
attribute [local go_sem] Oper.semAt_some

structure DnI(n0 p:Nat)(b:ByL)(root:BA)(J:Vw->World->Prop)(Bn:Nat)(wj:Int)(m:Nat)(x:Value)(W:World)(st:List Spot)(v:Vw):Prop where
 own:Yc n0 W x st.reverse
 low:n0<=W.heap.size
 all:∀s∈st,s.nd=Xd b s.dg
 walk:∀res,Jw b st v res->Jw b [Jt b root (-1)] ⟨[],[],[]⟩ res
 nm:v.met.Nodup
 sub:∀e∈v.met,e∈b.map (·.1)
 left:m=3*(b.length-v.met.length)+st.length
 lft:v.left.length+st.length<=v.met.length+1
 j:J v W
 map:MpAt W p (byE b)
 box:W.heap[Bn]? =some (.cells #[.int .i64 wj,.map (some p)] 264)
theorem Jaw(z:Int)(h1: -4611686018427387904<=z)(h2:z<=4611686018427387904):IntKind.i64.wrap z=z:=by
 simp only[IntKind.wrap,IntKind.signed,IntKind.bits];simp;omega
theorem Jg6(b:ByL)(s:Spot):∀x∈Xn b s,x.nd=Xd b x.dg:=by
 intro x hx;unfold Xn at hx
 split at hx
 ·cases hx
 ·split at hx
  ·simp only[List.mem_cons,QD,or_false]at hx
   rcases hx with rfl|rfl<;>rfl
  ·cases hx
theorem Jg7(b:ByL)(s:Spot):(Xn b s).length<=2:=by
 unfold Xn
 split
 ·simp
 ·split<;>simp
theorem XM.went{b:ByL}{v':Vw}{s:Spot}(h:XM v s (some v'))(hs:s.nd=Xd b s.dg)(nm:v.met.Nodup)(sub:∀e∈v.met,e∈b.map (·.1)):
  v'.met.Nodup/\(∀e∈v'.met,e∈b.map (·.1))/\((v'.met.length=v.met.length+1/\v'.left.length=v.left.length)\/(v'.met.length=v.met.length/\v'.left.length=v.left.length+1/\Xn b s=[])):=by
 have key:∀n,s.nd=some n->s.dg ∉ v.met->v'.met=v.met++[s.dg]->v'.left=v.left->v'.met.Nodup/\(∀e∈v'.met,e∈b.map (·.1))/\((v'.met.length=v.met.length+1/\v'.left.length=v.left.length)\/(v'.met.length=v.met.length/\v'.left.length=v.left.length+1/\Xn b s=[])):=λn hn h1 e e2=>by
  have hb:s.dg∈b.map (·.1):=Classical.byContradiction λk=>by rw[hs,Jba.2 k]at hn;cases hn
  rw[e,e2];refine⟨?_,λx hx=>?_,.inl (by simp)⟩
  ·rw[List.nodup_append];refine⟨nm,by simp,?_⟩;rintro x hx y hy rfl;rw[Qt]at hy;exact h1 (hy ▸ hx)
  ·rcases QE.1 hx with hx|hx
   ·exact sub x hx
   ·rw[Qt]at hx;rw[hx];exact hb
 rcases h with⟨h1,h2⟩|⟨n,hn,h2⟩
 ·cases h2
  exact⟨nm,sub,.inr ⟨rfl,by simp,by unfold Xn;rw[h1]⟩⟩
 ·rcases h2 with⟨_,h2⟩|⟨h1,⟨_,⟨_,h2⟩|⟨_,h2⟩⟩|⟨_,⟨_,h2⟩|⟨_,h2⟩⟩|⟨_,_,h2⟩⟩<;>first|(cases h2;done)|(cases h2;exact key n hn h1 rfl rfl)
theorem Jnt(n0 n:Nat)(hn:2<=n)(l Bn Br:Nat)(wj:Int)(p:Nat)(b:ByL)(hd:(b.map (·.1)).Nodup)(hbl:b.length<=900000000)(root:BA)(J:Vw->World->Prop)(Jx:World->Prop)
 (hJ:∀v A B,J v A->ItS n0 A B->J v B)
 (hY:∀v s V,v.left.length<=1000000000->J v V->YieldAt Fence.wide (n-1) prog l #[.agg (spC s)] V λe V'=>(e=.returned (.bool true)/\∃v',XM v s (some v')/\J v' V'/\KpS p V V')\/(e=.returned (.bool false)/\XM v s none/\Jx V'))
 (W:World) (hn0:n0<=W.heap.size) (hm:MpAt W p (byE b)) (rn:W.heap[Bn]? =some (.cells #[.int .i64 wj,.map (some p)] 264)) (rr:W.heap[Br]? =some (.cells #[.string root] 9)) (h0:J ⟨[],[],[]⟩ W):
  CallsIn Fence.wide n prog 299 #[.func (.yield l) #[] #[],.pointer (some ⟨Bn,0,none⟩),.pointer (some ⟨Br,0,none⟩)] W λe W'=>(∃v,e=.returned v)/\((∃v,Jw b [Jt b root (-1)] ⟨[],[],[]⟩ (some v)/\J v W')\/(Jw b [Jt b root (-1)] ⟨[],[],[]⟩ none/\Jx W')):=by
 have c0n:W.cell? ⟨Bn,0,none⟩=some (.int .i64 wj):=Ja rn;have c1n:W.cell? ⟨Bn,1,none⟩=some (.map (some p)):=Ja rn;have b0:W.cell? ⟨Br,0,none⟩=some (.string root):=Ja rr;have HSP:Hid (∀V e ab,MpAt V p (byE b)->Calls prog 300 #[.agg #[.int .i64 wj,.map (some p)],.string e,.int .i64 ab] V λr w'=>r=.returned (.agg (spC (Jt b e ab)))/\Tch NoB V w'):=λV e ab h=>JmT wj p b hd e ab V h;have HBL:Hid _:=hbl;have HJ:Hid _:=hJ;have HY:Hid _:=hY;have HM:Hid (MpAt W p (byE b)):=hm;have HRN:Hid _:=rn;have H0:Hid _:=h0;obtain⟨μ,hμ⟩:∃μ:Value->World->Nat,∀x V m,(∃st v,DnI n0 p b root J Bn wj m x V st v)->(∃st v,DnI n0 p b root J Bn wj (μ x V) x V st v)/\μ x V<=m:=by
  have key:∀(q:Value×World),∃μ:Nat,∀m,(∃st v,DnI n0 p b root J Bn wj m q.1 q.2 st v)->(∃st v,DnI n0 p b root J Bn wj μ q.1 q.2 st v)/\μ<=m:=λq=>by
   by_cases h:∃m,∃st v,DnI n0 p b root J Bn wj m q.1 q.2 st v
   ·obtain⟨m,hm⟩:=h
    induction m using Nat.strongRecOn with
    | _ m ih=>
     by_cases h2:∃m',m'<m/\∃st v,DnI n0 p b root J Bn wj m' q.1 q.2 st v
     ·obtain⟨m',h3,h4⟩:=h2;exact ih m' h3 h4
     ·exact⟨m,λm' h'=>⟨hm,Nat.le_of_not_lt λk=>h2 ⟨m',k,h'⟩⟩⟩
   ·exact⟨0,λm hm=>absurd ⟨m,hm⟩ h⟩
  obtain⟨f,hf⟩:=Classical.axiomOfChoice key;exact⟨λx V=>f (x,V),λx V m h=>hf (x,V) m h⟩
 have HMU:Hid _:=hμ;refine callsIn_of_wp func299 rfl trivial ?_ rfl;simp only[ntmps299,List.size_toArray,Qp,Qv,Nat.reduceAdd,Nat.reduceSub,Array.replicate_succ,Array.replicate_zero,List.push_toArray,List.append_toArray,List.nil_append,List.cons_append];gi_wp2;refine⟨trivial,λ_=>by omega,(callsIn_wide.2 (HSP.o W root (-1) HM.o)).mono ?_⟩;rintro _ W1⟨rfl,ht1⟩;obtain⟨nd,hnd⟩:∃nd,nd=(Xd b root).getD Xc:=⟨_,rfl⟩
 obtain⟨mt,hmt⟩:∃mt,mt=(Xd b root).isSome:=⟨_,rfl⟩
 have hsp:spC (Jt b root (-1))= #[.string root,.string nd.1,.string nd.2.1,.int .u64 (nd.2.2.1.1:Int),.int .u8 (nd.2.2.1.2:Int),.int .i64 nd.2.2.2.1,.string nd.2.2.2.2.1,.string nd.2.2.2.2.2,.bool mt,.int .i64 (-1)]:=by rw[hnd,hmt];rfl
 rw[hsp];obtain⟨W2,hW2⟩:∃W2,W2=W1.alloc (.cells #[.string root,.string nd.1,.string nd.2.1,.int .u64 (nd.2.2.1.1:Int),.int .u8 (nd.2.2.1.2:Int),.int .i64 nd.2.2.2.1,.string nd.2.2.2.2.1,.string nd.2.2.2.2.2,.bool mt,.int .i64 (-1)] 384):=⟨_,rfl⟩
 have t2:Tch NoB W W2:=by rw[hW2];exact ht1.go (Ta _ _ _)
 have HI0:Hid (∃m st v,DnI n0 p b root J Bn wj m (.slice (some ⟨W1.heap.size,0,none⟩) 1 1) W2 st v):=⟨_,[Jt b root (-1)],⟨[],[],[]⟩,Yc.one (Qm hn0 ht1.size) (by rw[hW2,hsp];exact Qf _ _),Qm hn0 t2.size,λs hs=>(by rw[Qt]at hs;rw[hs];rfl),λ_ h=>h,List.nodup_nil,λ_ h=>(by cases h),rfl,by simp,HJ.o _ _ _ H0.o (t2.mono noE),HM.o.next t2 (λh=>h),(t2.block _ (Jb HRN.o) (λh=>h)).trans HRN.o⟩
 have HW2:Hid _:=hW2;clear ht1 t2 hW2 c0n c1n b0 H0 HM HRN hsp hnd hmt;gi_upto_region 1 with fail;rw[<-HW2.o];gi_loopw [4] (λx wr=>∃m st v,DnI n0 p b root J Bn wj m x wr st v) (λx wr=>μ x wr)
 case atStart=>exact HI0.o
 case round=>
  obtain⟨m0,hex⟩:=hrel;obtain⟨⟨st,v,hI⟩,_⟩:=HMU.o _ _ m0 hex
  cases st with
  | nil=>
   obtain⟨a4,c4,hx⟩:=hI.own.shape;simp only[List.reverse_nil,Qv]at hx;subst hx;have HI:Hid _:=hI;gi_wp2;refine bodyPost_end (v:=.tuple #[]) (results_none results299 _ _ _) rfl ?_;exact⟨⟨_,rfl⟩,.inl ⟨v,HI.o.walk _ (.done v),HI.o.j⟩⟩
  | cons s st=>
   have hown:=hI.own;rw[List.reverse_cons]at hown;obtain⟨g,cap,rfl,hc1,hc2,hcell,hown2⟩:=hown.pop;have hsl:st.reverse.length<=1000000001:=(by have h1:=hI.lft;have h2:=XU v.met (b.map (·.1)) hI.nm hI.sub;rw[QL]at h2;have:=HBL.o;rw[List.length_reverse];simp only[Qp]at h1;omega);have HCAN:Hid (v.left.length<=1000000000):=(by have h1:=hI.lft;have h2:=XU v.met (b.map (·.1)) hI.nm hI.sub;rw[QL]at h2;have:=HBL.o;show v.left.length<=1000000000;omega);generalize hk:st.reverse.length=k at *;have HK:Hid _:=hk;have HI:Hid (DnI n0 p b root J Bn wj _ _ wr (s::st) v):=hI;have HOW:Hid (Yc n0 wr (.slice (some ⟨g,0,none⟩) k cap) st.reverse):=hown2;obtain⟨sd,snd,sab⟩:=s;obtain⟨nd,hnd⟩:∃nd,nd=snd.getD Xc:=⟨_,rfl⟩
   obtain⟨mt,hmt⟩:∃mt,mt=snd.isSome:=⟨_,rfl⟩
   have hsp:spC ⟨sd,snd,sab⟩= #[.string sd,.string nd.1,.string nd.2.1,.int .u64 (nd.2.2.1.1:Int),.int .u8 (nd.2.2.1.2:Int),.int .i64 nd.2.2.2.1,.string nd.2.2.2.2.1,.string nd.2.2.2.2.2,.bool mt,.int .i64 sab]:=(by rw[hnd,hmt];rfl);rw[hsp]at hcell;have HSPC:Hid (spC ⟨sd,snd,sab⟩=_):=hsp;have HND:Hid (nd=snd.getD Xc):=hnd;clear hk hI hown hown2 hsp hnd hmt;obtain⟨n1,n2,⟨n3,n4⟩,n5,n6,n7⟩:=nd;dsimp only at hcell HSPC;have x0:wr.cell? ⟨g,k*10+0,none⟩=some (.string sd):=hcell 0 (by omega);have x1:wr.cell? ⟨g,k*10+1,none⟩=some (.string n1):=hcell 1 (by omega);have x2:wr.cell? ⟨g,k*10+2,none⟩=some (.string n2):=hcell 2 (by omega);have x3:wr.cell? ⟨g,k*10+3,none⟩=some (.int .u64 (n3:Int)):=hcell 3 (by omega);have x4:wr.cell? ⟨g,k*10+4,none⟩=some (.int .u8 (n4:Int)):=hcell 4 (by omega);have x5:wr.cell? ⟨g,k*10+5,none⟩=some (.int .i64 n5):=hcell 5 (by omega);have x6:wr.cell? ⟨g,k*10+6,none⟩=some (.string n6):=hcell 6 (by omega);have x7:wr.cell? ⟨g,k*10+7,none⟩=some (.string n7):=hcell 7 (by omega);have x8:wr.cell? ⟨g,k*10+8,none⟩=some (.bool mt):=hcell 8 (by omega);have x9:wr.cell? ⟨g,k*10+9,none⟩=some (.int .i64 sab):=hcell 9 (by omega);rw[Nat.add_zero]at x0;simp only[maxLen]at hc2;have q0:(0:Int)<((k+1:Nat):Int):=(by omega);have q1:IntKind.i64.wrap (((k+1:Nat):Int)-1)=(k:Int):=(by rw[Jaw _ (by omega) (by omega)];omega);have q2:(0:Int)<=(k:Int):=(by omega);have q3:(k:Int)<((k+1:Nat):Int):=(by omega);have q4:(k:Int)<=(cap:Int):=(by omega);obtain⟨W3,hW3⟩:∃W3,W3=wr.alloc (.cells #[.string sd,.string n1,.string n2,.int .u64 (n3:Int),.int .u8 (n4:Int),.int .i64 n5,.string n6,.string n7,.bool mt,.int .i64 sab] 384):=⟨_,rfl⟩
   have t3:Tch NoB wr W3:=(by rw[hW3];exact Ta _ _ _);have hr3:W3.heap[wr.heap.size]? =some (.cells #[.string sd,.string n1,.string n2,.int .u64 (n3:Int),.int .u8 (n4:Int),.int .i64 n5,.string n6,.string n7,.bool mt,.int .i64 sab] 384):=(by rw[hW3];exact Qf _ _);have z0:W3.cell? ⟨wr.heap.size,0,none⟩=some (.string sd):=Ja hr3;have z1:W3.cell? ⟨wr.heap.size,1,none⟩=some (.string n1):=Ja hr3;have z2:W3.cell? ⟨wr.heap.size,2,none⟩=some (.string n2):=Ja hr3;have z3:W3.cell? ⟨wr.heap.size,3,none⟩=some (.int .u64 (n3:Int)):=Ja hr3;have z4:W3.cell? ⟨wr.heap.size,4,none⟩=some (.int .u8 (n4:Int)):=Ja hr3;have z5:W3.cell? ⟨wr.heap.size,5,none⟩=some (.int .i64 n5):=Ja hr3;have z6:W3.cell? ⟨wr.heap.size,6,none⟩=some (.string n6):=Ja hr3;have z7:W3.cell? ⟨wr.heap.size,7,none⟩=some (.string n7):=Ja hr3;have z8:W3.cell? ⟨wr.heap.size,8,none⟩=some (.bool mt):=Ja hr3;have z9:W3.cell? ⟨wr.heap.size,9,none⟩=some (.int .i64 sab):=Ja hr3;have hYY:=HY.o v ⟨sd,snd,sab⟩ W3 HCAN.o (HJ.o _ _ _ HI.o.j (t3.mono noE));rw[HSPC.o]at hYY;obtain⟨fn,tmps,assign,body,hy,hR⟩:=hYY;have HW3:Hid (W3=_):=hW3;have HR3:Hid (W3.heap[wr.heap.size]? =_):=hr3;have HT3:Hid (Tch NoB wr W3):=t3;clear hW3 t3 hr3;gi_upto_region 5 with fail;rw[<-HW3.o];clear x0 x1 x2 x3 x4 x5 x6 x7 x8 x9;gi_wp2;refine⟨λ_=>by omega,hR.mono ?_⟩;clear hR hy z0 z1 z2 z3 z4 z5 z6 z7 z8 z9;rintro e W4 (⟨rfl,v',hst,hJ4,hk4⟩|⟨rfl,hbad,hJx⟩)
   ·have hgo:=hst.went (HI.o.all _ QM) HI.o.nm HI.o.sub;have HGO:Hid _:=hgo;have hr4:=hk4.row _ _ _ _ (.inl rfl) HR3.o;have HR4:Hid (W4.heap[wr.heap.size]? =some (.cells _ 384)):=hr4;have z1:W4.cell? ⟨wr.heap.size,1,none⟩=some (.string n1):=Ja hr4;have z5:W4.cell? ⟨wr.heap.size,5,none⟩=some (.int .i64 n5):=Ja hr4;have z6:W4.cell? ⟨wr.heap.size,6,none⟩=some (.string n6):=Ja hr4;have z7:W4.cell? ⟨wr.heap.size,7,none⟩=some (.string n7):=Ja hr4;have HM4:Hid (MpAt W4 p (byE b)):=hk4.map _ (HI.o.map.next HT3.o (λh=>h));have HB4:Hid (W4.heap[Bn]? =some (.cells #[.int .i64 wj,.map (some p)] 264)):=hk4.row _ _ _ _ (.inr rfl) ((HT3.o.block _ (Jb HI.o.box) (λh=>h)).trans HI.o.box);have HO4:Hid (Yc n0 W4 (.slice (some ⟨g,0,none⟩) k cap) st.reverse):=(HOW.o.next HT3.o).kp hk4;have HJ4:Hid (J v' W4):=hJ4;have HL4:Hid (n0<=W4.heap.size):=Qm (Qm HI.o.low HT3.o.size) hk4.size;have HST:Hid (XM v ⟨sd,snd,sab⟩ (some v')):=hst;have HLM:Hid (v'.met.length<=b.length):=by
     have:=XU v'.met (b.map (·.1)) hgo.1 hgo.2.1;rw[QL]at this;exact this
    clear hgo hr4 hk4 hJ4 hst
    by_cases hN:n1=⟨#[78]⟩
    ·subst hN;have HBE:Hid (Xn b ⟨sd,snd,sab⟩=[Jt b n6 n5,Jt b n7 n5]):=by
      show Xn b ⟨sd,snd,sab⟩=[Jt b n6 n5,Jt b n7 n5];unfold Xn;have h1:=HND.o
      cases snd with
      | none=>exact absurd (show (⟨#[78]⟩:BA)=⟨#[]⟩ from congrArg Prod.fst h1) (by decide)
      | some x=>
       rw[Option.getD_some]at h1;rw[<-h1];rfl
     obtain⟨W5,hW5⟩:∃W5,W5=W4.alloc (.cells #[.string n6,.string n7] 277):=⟨_,rfl⟩
     have t5:Tch NoB W4 W5:=(by rw[hW5];exact Ta _ _ _);have hr5:W5.heap[W4.heap.size]? =some (.cells #[.string n6,.string n7] 277):=(by rw[hW5];exact Qf _ _);have HSQ:Hid (∀V e,Tch NoB W5 V->Calls prog 300 #[.agg #[.int .i64 wj,.map (some p)],.string e,.int .i64 n5] V λr w'=>r=.returned (.agg #[.string e,.string ((Xd b e).getD Xc).1,.string ((Xd b e).getD Xc).2.1,.int .u64 (((Xd b e).getD Xc).2.2.1.1:Int),.int .u8 (((Xd b e).getD Xc).2.2.1.2:Int),.int .i64 ((Xd b e).getD Xc).2.2.2.1,.string ((Xd b e).getD Xc).2.2.2.2.1,.string ((Xd b e).getD Xc).2.2.2.2.2,.bool (Xd b e).isSome,.int .i64 n5])/\Tch NoB V w'):=λV e hV=>HSP.o V e n5 ((HM4.o.next t5 (λh=>h)).next hV (λh=>h));obtain⟨Z,hZ⟩:∃Z:BA->Jj,Z=λe=>(Xd b e).getD Xc:=⟨_,rfl⟩
     obtain⟨Y,hY⟩:∃Y:BA->Bool,Y=λe=>(Xd b e).isSome:=⟨_,rfl⟩
     have HSQ2:Hid (∀V e,Tch NoB W5 V->Calls prog 300 #[.agg #[.int .i64 wj,.map (some p)],.string e,.int .i64 n5] V λr w'=>r=.returned (.agg #[.string e,.string (Z e).1,.string (Z e).2.1,.int .u64 ((Z e).2.2.1.1:Int),.int .u8 ((Z e).2.2.1.2:Int),.int .i64 (Z e).2.2.2.1,.string (Z e).2.2.2.2.1,.string (Z e).2.2.2.2.2,.bool (Y e),.int .i64 n5])/\Tch NoB V w'):=(by rw[hZ,hY];exact HSQ);have hcs:∀e,spC (Jt b e n5)= #[.string e,.string (Z e).1,.string (Z e).2.1,.int .u64 ((Z e).2.2.1.1:Int),.int .u8 ((Z e).2.2.1.2:Int),.int .i64 (Z e).2.2.2.1,.string (Z e).2.2.2.2.1,.string (Z e).2.2.2.2.2,.bool (Y e),.int .i64 n5]:=λe=>by rw[hZ,hY];rfl
     have HC8:Hid (∀V,Tch NoB W5 V->V.cell? ⟨Bn,0,none⟩=some (.int .i64 wj)/\V.cell? ⟨Bn,1,none⟩=some (.map (some p))/\V.cell? ⟨wr.heap.size,5,none⟩=some (.int .i64 n5)/\V.cell? ⟨W4.heap.size,0,none⟩=some (.string n6)/\V.cell? ⟨W4.heap.size,1,none⟩=some (.string n7)):=λV hV=>by
      have hT:=t5.go hV;have k1:=(hT.block _ (Jb HB4.o) (λh=>h)).trans HB4.o;have k2:=(hT.block _ (Jb HR4.o) (λh=>h)).trans HR4.o;have k3:=(hV.block _ (Jb hr5) (λh=>h)).trans hr5;exact⟨Ja k1,Ja k1,Ja k2,Ja k3,Ja k3⟩
     have hkb:st.reverse.length<=1000000001:=(by rw[HK.o];exact hsl);have HAP:Hid (∀V,Tch NoB W5 V->∃a9 m9 c9 w9,(Builtin.append_ #[452,452] 452 #[.slice (some ⟨g,0,none⟩) k cap,.slice (some ⟨V.heap.size,0,none⟩) 2 2]).run prog (V.alloc (.cells #[.string n7,.string (Z n7).1,.string (Z n7).2.1,.int .u64 ((Z n7).2.2.1.1:Int),.int .u8 ((Z n7).2.2.1.2:Int),.int .i64 (Z n7).2.2.2.1,.string (Z n7).2.2.2.2.1,.string (Z n7).2.2.2.2.2,.bool (Y n7),.int .i64 n5,.string n6,.string (Z n6).1,.string (Z n6).2.1,.int .u64 ((Z n6).2.2.1.1:Int),.int .u8 ((Z n6).2.2.1.2:Int),.int .i64 (Z n6).2.2.2.1,.string (Z n6).2.2.2.2.1,.string (Z n6).2.2.2.2.2,.bool (Y n6),.int .i64 n5] 384))=.ok (.slice a9 m9 c9) w9/\(w9.cell? ⟨Bn,0,none⟩=some (.int .i64 wj)/\w9.cell? ⟨Bn,1,none⟩=some (.map (some p))/\w9.cell? ⟨wr.heap.size,5,none⟩=some (.int .i64 n5)/\w9.cell? ⟨W4.heap.size,0,none⟩=some (.string n6)/\w9.cell? ⟨W4.heap.size,1,none⟩=some (.string n7))/\Hid (DnI n0 p b root J Bn wj (3*(b.length-v'.met.length)+(st.length+2)) (.slice a9 m9 c9) w9 (Jt b n6 n5::Jt b n7 n5::st) v')):=λV hV=>by
      obtain⟨VA,hVA⟩:∃VA,VA=V.alloc (.cells #[.string n7,.string (Z n7).1,.string (Z n7).2.1,.int .u64 ((Z n7).2.2.1.1:Int),.int .u8 ((Z n7).2.2.1.2:Int),.int .i64 (Z n7).2.2.2.1,.string (Z n7).2.2.2.2.1,.string (Z n7).2.2.2.2.2,.bool (Y n7),.int .i64 n5,.string n6,.string (Z n6).1,.string (Z n6).2.1,.int .u64 ((Z n6).2.2.1.1:Int),.int .u8 ((Z n6).2.2.1.2:Int),.int .i64 (Z n6).2.2.2.1,.string (Z n6).2.2.2.2.1,.string (Z n6).2.2.2.2.2,.bool (Y n6),.int .i64 n5] 384):=⟨_,rfl⟩
      have tVA:Tch NoB W5 VA:=(by rw[hVA];exact hV.go (Ta _ _ _));have t4A:Tch NoB W4 VA:=t5.go tVA;have hown:=HO4.o.next t4A;obtain⟨v9,w9,hrun,hown9,hg9⟩:=Jd8 hown (Qm HL4.o t4A.size) V.heap.size (Jt b n7 n5) (Jt b n6 n5) _ (by rw[hcs,hcs]) (by rw[hVA];exact Qf _ _) hkb 452;obtain⟨a9,c9,hv9⟩:=hown9.shape;generalize (st.reverse++[Jt b n7 n5,Jt b n6 n5]).length=m9 at hv9;subst hv9;rw[<-hVA];have hit:ItS n0 VA w9:=hown.it hg9;have tG:Tch (λj=>j=g) VA w9:=(Tg hg9).mono (λj hj=>.inl (by simpa [Value.ownBlock]using hj));have hgne:∀j cs T m,(j=wr.heap.size\/T ≠ 384)->VA.heap[j]? =some (Obj.cells cs T m)->j ≠ g:=λj cs T m h1 h2 e=>by
       obtain⟨_,⟨h,_⟩|⟨g',_,cur,h3,_,h5,_⟩⟩:=HO4.o
       ·cases h
       ·simp only[Qy,Qh,Addr.mk.injEq]at h3;have hgg:g=g':=h3.1.1
        rcases h1 with rfl|h1
        ·have:g<wr.heap.size:=by
          obtain⟨_,⟨h,_⟩|⟨g2,_,cur2,h3',_,h5',_⟩⟩:=HOW.o
          ·cases h
          ·simp only[Qy,Qh,Addr.mk.injEq]at h3';rw[h3'.1.1];exact(Jb h5')
         omega
        ·rw[e,hgg,(t4A.block _ (Jb h5) (λh=>h)).trans h5]at h2;simp only[Qh,Obj.cells.injEq]at h2;exact h1 h2.2.1.symm
      have k1:=(t4A.block _ (Jb HB4.o) (λh=>h)).trans HB4.o;have k2:=(t4A.block _ (Jb HR4.o) (λh=>h)).trans HR4.o;have k3:=(tVA.block _ (Jb hr5) (λh=>h)).trans hr5;have l1:=(tG.block _ (Jb k1) (hgne _ _ _ _ (.inr (by decide)) k1)).trans k1;have l2:=(tG.block _ (Jb k2) (hgne _ _ _ _ (.inl rfl) k2)).trans k2;have l3:=(tG.block _ (Jb k3) (hgne _ _ _ _ (.inr (by decide)) k3)).trans k3;have hmA:=HM4.o.next t4A (λh=>h);have hgo:=HGO.o;have hll:=HI.o.lft;simp only[Qp]at hll;refine⟨a9,m9,c9,w9,hrun,⟨Ja l1,Ja l1,Ja l2,Ja l3,Ja l3⟩,⟨by simpa using hown9,Qm (Qm HL4.o t4A.size) tG.size,λs hs=>?_,λres hw=>HI.o.walk res (.step _ _ _ v' res HST.o (by rw[HBE.o];exact hw)),hgo.1,hgo.2.1,rfl,?_,HJ.o _ _ _ (HJ.o _ _ _ HJ4.o (t4A.mono noE)) hit,hmA.next tG (λe=>?_),l1⟩⟩
      ·simp only[List.mem_cons]at hs
       rcases hs with rfl|rfl|hs
       ·rfl
       ·rfl
       ·exact HI.o.all s (QP _ hs)
      ·have h3:=hgo.2.2;rw[HBE.o]at h3;simp only[Qp]
       rcases h3 with h3|⟨_,_,h3⟩
       ·omega
       ·cases h3
      ·obtain⟨_,⟨h,_⟩|⟨g',_,cur,h3,_,h5,_⟩⟩:=hown
       ·cases h
       ·simp only[Qy,Qh,Addr.mk.injEq]at h3;unfold MpAt at hmA;rw[e,h3.1.1,h5]at hmA
        cases hmA
     have HW5:Hid (W5=_):=hW5;have HTd:Hid (Tch NoB W5 W5.drew):=Td _ W5 1;obtain⟨d0,d1,d2,d3,d4⟩:=HC8.o W5 (Te _ _);clear hW5 t5 hr5 HSQ hcs hkb hZ hY hsl;gi_upto_region 8 with fail;rw[<-HW5.o];refine wpIn_wide.2 ?_;go_region_held3 (λV=>V.cell? ⟨Bn,0,none⟩=some (.int .i64 wj)/\V.cell? ⟨Bn,1,none⟩=some (.map (some p))/\V.cell? ⟨wr.heap.size,5,none⟩=some (.int .i64 n5)/\V.cell? ⟨W4.heap.size,0,none⟩=some (.string n6)/\V.cell? ⟨W4.heap.size,1,none⟩=some (.string n7)) (go_keep) ((first
      | (go_at_call 300;refine(HSQ2.o _ _ HT7.o).mono ?_;rintro _ w8⟨rfl,ht8⟩;have HT8:Hid (Tch NoB W5 w8):=HT7.o.go ht8;obtain⟨f0,f1,f2,f3,f4⟩:=HC8.o _ HT8.o;obtain⟨g0,g1,g2,g3,g4⟩:=HC8.o _ (HT8.o.go (Ta _ w8 (.cells #[.string n7,.string (Z n7).1,.string (Z n7).2.1,.int .u64 ((Z n7).2.2.1.1:Int),.int .u8 ((Z n7).2.2.1.2:Int),.int .i64 (Z n7).2.2.2.1,.string (Z n7).2.2.2.2.1,.string (Z n7).2.2.2.2.2,.bool (Y n7),.int .i64 n5,.string n6,.string (Z n6).1,.string (Z n6).2.1,.int .u64 ((Z n6).2.2.1.1:Int),.int .u8 ((Z n6).2.2.1.2:Int),.int .i64 (Z n6).2.2.2.1,.string (Z n6).2.2.2.2.1,.string (Z n6).2.2.2.2.2,.bool (Y n6),.int .i64 n5] 384)));obtain⟨a9,m9,c9,w9,hrun9,⟨h0,h1,h2,h3,h4⟩,HNEW⟩:=HAP.o w8 HT8.o;clear ht8)
      | (go_at_call 300;refine(HSQ2.o _ _ HTd.o).mono ?_;rintro _ w7⟨rfl,ht7⟩;have HT7:Hid (Tch NoB W5 w7):=HTd.o.go ht7;obtain⟨e0,e1,e2,e3,e4⟩:=HC8.o _ HT7.o;clear ht7)
      | (refine Yo rfl _ _ 452 rfl rfl rfl hrun9 ?_)))
     all_goals gi_wp2
     all_goals go_roundw
     all_goals first
      | exact⟨_,_,v',HNEW.o⟩
      | (
       have h1:=(HMU.o _ _ _ ⟨_,v',HNEW.o⟩).2;have h2:=HI.o.left;have h3:=HGO.o.2.2;have h4:=HLM.o;rw[HBE.o]at h3;simp only[Qp]at h2
       rcases h3 with h3|⟨_,_,h3⟩
       ·omega
       ·cases h3)
    ·have HBE:Hid (Xn b ⟨sd,snd,sab⟩=[]):=by
      show Xn b ⟨sd,snd,sab⟩=[];unfold Xn;have h1:=HND.o
      cases snd with
      | none=>rfl
      | some x=>
       have h2:x.1=n1:=(by rw[Option.getD_some]at h1;rw[<-h1]);simp only;rw[if_neg (by rw[h2];exact hN)]
     have hN2:=Jb6 hN;have HNEW:Hid (DnI n0 p b root J Bn wj (3*(b.length-v'.met.length)+st.length) (.slice (some ⟨g,0,none⟩) k cap) W4 st v'):=(by have hl:=HI.o.lft;simp only[Qp]at hl;refine⟨HO4.o,HL4.o,λs hs=>HI.o.all s (QP _ hs),λres hw=>HI.o.walk res (.step _ _ _ v' res HST.o (by rw[HBE.o];exact hw)),HGO.o.1,HGO.o.2.1,rfl,by have:=HGO.o.2.2;omega,HJ4.o,HM4.o,HB4.o⟩);gi_wp2;go_roundw
     case rel=>exact⟨_,st,v',HNEW.o⟩
     case measure=>have h1:=(HMU.o _ _ _ ⟨st,v',HNEW.o⟩).2;have h2:=HI.o.left;have h3:=HGO.o.2.2;have h4:=HLM.o;simp only[Qp]at h2;omega
   ·have HBAD:Hid (XM v ⟨sd,snd,sab⟩ none):=hbad;gi_wp2;refine QJ (v:=.tuple #[]) (results_none results299 _ _ _) rfl ?_;exact⟨⟨_,rfl⟩,.inr ⟨HI.o.walk _ (.bad _ _ _ HBAD.o),hJx⟩⟩

attribute [local go_sem] Oper.semAt_some

structure VwV(base:Nat)(w:World)(pm po:Nat)(lv:Value)(v:Vw):Prop where
 met:MpAt w pm (metE v.met)
 outs:MpAt w po (outE v.outs)
 left:NOwn base w lv v.left
 nm:v.met.Nodup
 no:(v.outs.map (·.1)).Nodup
 low:base<=pm/\base<=po
theorem ZU{P:Program}{fn:Func}{p p2:Tmp}{ty ty2:TypeId}(h:fn.results= #[.cell p ty,.cell p2 ty2])(tmps:Array Value)(w:World)(g:Nat)(T:TypeId)(cs:Array Value)(fr:Nat×Nat)(d:TypeDesc)(a2:Addr)(v2:Value)
 (hp:tmps.getD p undef=.pointer (some ⟨g,0,none⟩)) (hp2:tmps.getD p2 undef=.pointer (some a2)) (hg:w.heap[g]? =some (.cells cs T fr))
 (hu:P.underlying ty=some d) (hd:(match d with | .struct _ | .array _ _=>true|_=>false)=true) (hi:(P.info? ty).map (·.size)=some cs.size) (ha2:(isAgg ty2).run P w=.ok false w) (hc2:w.cell? a2=some v2):
  (results fn tmps).run P w=.ok (.tuple #[.agg cs,v2]) w:=by
 have hp':tmps[p]?.getD undef=.pointer (some ⟨g,0,none⟩):=by simpa using hp
 have hp2':tmps[p2]?.getD undef=.pointer (some a2):=by simpa using hp2
 simp[results,h,hp',hp2',asAddr,run_loadVar_row w g T ty cs fr d hg hu hd hi,Jjo w ty2 a2 v2 ha2 hc2]
theorem JlG(s:Spot):∃(d n1 n2:BA)(n3 n4:Nat)(n5:Int)(n6 n7:BA)(mt:Bool)(ab:Int),spC s= #[.string d,.string n1,.string n2,.int .u64 (n3:Int),.int .u8 (n4:Int),.int .i64 n5,.string n6,.string n7,.bool mt,.int .i64 ab]:=⟨_,_,_,_,_,_,_,_,_,_,rfl⟩
theorem Jiy{g:Nat}{c0 c1 c2 e0:Value}{T2:TypeId}(h1:w.heap[g]? =some (.cells #[c0,c1,c2] T))(h2:w.heap[g+1]? =some (.cells #[e0] T2))(x y z e:Value):
  ∃X,X=((((w.setCell ⟨g,0,none⟩ x).setCell ⟨g,1,none⟩ y).setCell ⟨g,2,none⟩ z).setCell ⟨g+1,0,none⟩ e)/\X.heap[g]? =some (.cells #[x,y,z] T)/\X.heap[g+1]? =some (.cells #[e] T2)/\Tch (λj=>j=g\/j=g+1) w X:=by
 obtain⟨k1,k2⟩:=JbK h1 [x,y,z] rfl;have h3:=(k2.block _ (Jb h2) (by omega)).trans h2;obtain⟨l1,l2⟩:=JbK h3 [e] rfl;exact⟨_,rfl,(l2.block _ (Jb k1) (by omega)).trans k1,l1,(k2.mono (λ_ h=>.inl (.inl h))).trans l2 (λ_ h=>.inl (.inr h))⟩
def TrX(w:World)(W:World):Prop:=Below w.heap.size w W/\W.heap[w.heap.size+1]? =some (.cells #[.map none,.map none,.slice none 0 0] 270)/\∃t u,W.heap[w.heap.size+2]? =some (.cells #[.iface t u] 92)
structure TrI(w1:World)(v:Vw)(W:World):Prop where
 below:Below w1.heap.size w1 W
 view:∃lv,VwAt (w1.heap.size+7) W (w1.heap.size+2) w1.heap.size (w1.heap.size+1) lv v
 size:w1.heap.size+5<=W.heap.size
theorem KpS.trans{C:World}(h:KpS p A B)(k:KpS p B C):KpS p A C:=⟨Qm h.size k.size,λj cs T m ht hj=>k.row j cs T m ht (h.row j cs T m ht hj),λo ho=>k.map o (h.map o ho)⟩
theorem KpS.of(h:Tch S A B)(hs:∀(j:Nat)(cs:Array Value)(T:TypeId)(m:Nat×Nat),(T=384\/T=264)->A.heap[j]? =some (Obj.cells cs T m)->¬S j)(hp:¬S p):KpS p A B:=
 ⟨h.size,λj cs T m ht hj=>(h.block _ (Jb hj) (hs j cs T m ht hj)).trans hj,λ_ ho=>(h.block _ (Jb ho) hp).trans ho⟩
theorem VwAt.kinds{base:Nat}{vb pm po:Nat}{lv:Value}(h:VwAt base w vb pm po lv v){j:Nat}{cs:Array Value}{m:Nat×Nat}(ht:T=384\/T=264)(hj:w.heap[j]? =some (Obj.cells cs T m)):¬VwB vb pm po lv j:=by
 rintro(rfl|rfl|rfl|e)
 ·rw[h.row]at hj;simp only[Qh,Obj.cells.injEq]at hj
  rcases ht with rfl|rfl<;>exact absurd hj.2.1 (by decide)
 ·rw[h.met]at hj;cases hj
 ·rw[h.outs]at hj;cases hj
 ·obtain⟨_,cs',m',hr⟩:=h.left.own j e.symm;rw[hr]at hj;simp only[Qh,Obj.cells.injEq]at hj
  rcases ht with rfl|rfl<;>exact absurd hj.2.1 (by decide)
theorem TrI.tch{w1:World}{W W':World}(h:TrI w1 v W)(k:Tch S W W')(h1:∀j,S j->w1.heap.size+2<j)(h2:∀j cs m,S j->w1.heap.size+7<=j->W.heap[j]? ≠ some (.cells cs 9 m)):TrI w1 v W':=by
 obtain⟨lv,hv⟩:=h.view;refine⟨h.below.trans (k.below h.below.size (λj hj=>by have:=h1 j hj;omega)),⟨lv,hv.tch k ⟨λe=>by have:=h1 _ e;omega,λe=>by have:=h1 _ e;omega,λe=>by have:=h1 _ e;omega,λj hj e=>?_⟩⟩,Qm h.size k.size⟩;obtain⟨hb,cs,m,hr⟩:=hv.left.own j hj;exact h2 j cs m e hb hr
theorem JmY(E:Nat->Addr){wj:Nat}(hw:wj<=32)(p:Nat)(b:ByL)(hd:(b.map (·.1)).Nodup)(hbl:b.length<=900000000)(h:HdL)(hh:HdOk wj h)(w:World)(hE:Env E w)(hT:Er3 w)(hm:MpAt w p (byE b)):
  CallsIn Fence.wide 5 prog 150 #[.agg #[.int .i64 (wj:Int),.map (some p)],.string ⟨(hdrB h).toArray⟩] w λe w'=>Tch NoB w w'/\((∃v pm po lv,Jw b [Jt b h.2.2.2 (-1)] ⟨[],[],[]⟩ (some v)/\e=.returned (.tuple #[.agg #[.map (some pm),.map (some po),lv],.nilIface])/\VwV w.heap.size w' pm po lv v)\/(Jw b [Jt b h.2.2.2 (-1)] ⟨[],[],[]⟩ none/\∃t u,e=.returned (.tuple #[.agg #[.map none,.map none,.slice none 0 0],.iface t u]))):=by
 have h1:1<=5:=by omega
 obtain⟨W,hW⟩:∃W,W=((w.alloc (.cells #[.int .i64 (wj:Int),.map (some p)] 264)).alloc (.cells #[.map none,.map none,.slice none 0 0] 270)).alloc (.cells #[.nilIface] 92):=⟨_,rfl⟩
 have tA:Tch NoB w W:=by rw[hW];exact Tch.allocs3 _ _ _ _ _
 have r0:W.heap[w.heap.size]? =some (.cells #[.int .i64 (wj:Int),.map (some p)] 264):=by rw[hW];exact JN _ _ _ _
 have r1:W.heap[w.heap.size+1]? =some (.cells #[.map none,.map none,.slice none 0 0] 270):=by rw[hW];exact JG _ _ _ _
 have r2:W.heap[w.heap.size+2]? =some (.cells #[.nilIface] 92):=by rw[hW];exact JH _ _ _ _
 have c0:W.cell? ⟨w.heap.size,0,none⟩=some (.int .i64 (wj:Int)):=Ja r0;have HST:Hid (Calls prog 212 #[.int .i64 (wj:Int),.string ⟨(hdrB h).toArray⟩] W λe w'=>e=.returned (.tuple #[.string h.2.2.2,.nilIface])/\Tch NoB W w'):=JhQ E wj hw h hh W (hE.tch tA noE);have HW:Hid (W=_):=hW;have HTA:Hid (Tch NoB w W):=tA;have HR0:Hid (W.heap[w.heap.size]? =_):=r0;have HR1:Hid (W.heap[w.heap.size+1]? =_):=r1;have HR2:Hid (W.heap[w.heap.size+2]? =_):=r2;have HEV:Hid (Env E w/\Er3 w/\MpAt w p (byE b)/\(b.map (·.1)).Nodup/\b.length<=900000000):=⟨hE,hT,hm,hd,hbl⟩
 generalize (⟨(hdrB h).toArray⟩:BA)=hb at *;generalize h.2.2.2=root at *;clear hE hT hm hd hbl hW tA r0 r1 r2 hh;refine callsIn_of_wp_marks func150 rfl trivial ?_ rfl;simp only[ntmps150,List.size_toArray,Qp,Qv,Nat.reduceAdd,Nat.reduceSub,Array.replicate_succ,Array.replicate_zero,List.push_toArray,List.append_toArray,List.nil_append,List.cons_append];gi_upto_region 1 with fail
 rw[<-HW.o];gi_wp2;refine⟨trivial,(callsIn_wide.2 HST.o).mono ?_⟩;rintro _ w1⟨rfl,ht1⟩;have HT1:Hid (Tch NoB W w1):=ht1;have hq0:=(ht1.block _ (Jb HR0.o) (λh=>h)).trans HR0.o;obtain⟨hmk1,hmp1⟩:=JcO 267 w1;obtain⟨hmk2,hmp2⟩:=JcO 268 (w1.alloc (.map #[] 0));obtain⟨W3,hW3⟩:∃W3,W3=((w1.alloc (.map #[] 0)).alloc (.map #[] 0)).alloc (.cells #[.map (some w1.heap.size),.map (some (w1.heap.size+1)),.slice none 0 0] 270):=⟨_,rfl⟩
 have t3:Tch NoB w1 W3:=by rw[hW3];exact Tch.allocs3 _ _ _ _ _
 have hq3:=(t3.block _ (Jb hq0) (λh=>h)).trans hq0;have k0:W3.cell? ⟨w.heap.size,0,none⟩=some (.int .i64 (wj:Int)):=Ja hq3;have k1:W3.cell? ⟨w.heap.size,1,none⟩=some (.map (some p)):=Ja hq3;have HW3:Hid (W3=_):=hW3;have HT3:Hid (Tch NoB w1 W3):=t3;clear ht1 hq0 hq3 t3 hW3 c0;gi_upto_region 5 with fail;rw[<-HW3.o];gi_wp2;refine⟨trivial,(callsIn_wide.2 (Jmd (wj:Int) p root W3)).mono ?_⟩;rintro _ WD⟨rfl,hWD⟩;have tD:Tch NoB W3 WD:=by rw[hWD];exact Tch.allocs _ _ _ _
 have hz3:W3.heap.size=w1.heap.size+3:=by rw[HW3.o];simp
 have hzD:WD.heap.size=w1.heap.size+5:=by rw[hWD];simp;omega
 have hbn:WD.heap[W3.heap.size]? =some (.cells #[.int .i64 (wj:Int),.map (some p)] 264):=by rw[hWD];exact heap_alloc2_old _ _ _
 have hbr:WD.heap[W3.heap.size+1]? =some (.cells #[.string root] 9):=by rw[hWD];exact heap_alloc2_new _ _ _
 have t1D:Tch NoB w1 WD:=HT3.o.go tD;have twD:Tch NoB w WD:=(HTA.o.go HT1.o).go t1D;have hszw:w.heap.size+3<=w1.heap.size:=by
  have:=HT1.o.size;have:W.heap.size=w.heap.size+3:=by rw[HW.o];simp
  omega
 have HZ:Hid (WD.heap.size=w1.heap.size+5/\W3.heap.size=w1.heap.size+3/\w.heap.size+3<=w1.heap.size):=⟨hzD,hz3,hszw⟩
 have HTD:Hid (Tch NoB w WD/\Tch NoB w1 WD/\Tch NoB w w1):=⟨twD,t1D,HTA.o.go HT1.o⟩
 have hpw:=(Jb HEV.o.2.2.1)
 have hI0:TrI w1 ⟨[],[],[]⟩ WD:=by
  refine⟨t1D.below (Ql _) noE,⟨.slice none 0 0,?_⟩,by omega⟩;have a1:W3.heap[w1.heap.size]? =some (.map #[] 0):=by rw[HW3.o];exact JN _ _ _ _
  have a2:W3.heap[w1.heap.size+1]? =some (.map #[] 0):=by rw[HW3.o];exact JG _ _ _ _
  have a3:W3.heap[w1.heap.size+2]? =some (.cells #[.map (some w1.heap.size),.map (some (w1.heap.size+1)),.slice none 0 0] 270):=by rw[HW3.o];exact JH _ _ _ _
  have up:∀{j:Nat} {o:Obj},W3.heap[j]? =some o->WD.heap[j]? =some o:=λhj=>(tD.block _ (Jb hj) (λh=>h)).trans hj;exact⟨up a3,up a1,up a2,NOwn.nil _ _,List.nodup_nil,List.nodup_nil,by omega⟩
 have hKE:∀(V:World),Below w1.heap.size w1 V->Env E V/\Er3 V:=λV hV=>by
  have hK:∀j,w1.heap.size<=j->18<=j:=λj hj=>by have:=HEV.o.1.size;omega
  exact⟨(HEV.o.1.tch HTD.o.2.2 noE).tch (Tch.of_below hV) hK,(HEV.o.2.1.tch HTD.o.2.2 noE).tch (Tch.of_below hV) hK⟩
 have HKE:Hid (∀(V:World),Below w1.heap.size w1 V->Env E V/\Er3 V):=hKE;clear hWD hKE k0 k1 hz3 hzD hszw;gi_wp2;obtain⟨hzD,hz3,hszw⟩:=HZ.o;refine JgJ (α:=Spot) (σ:=Vw) h1 (gf:=299) (lb:= #[.pointer (some ⟨W3.heap.size,0,none⟩),.pointer (some ⟨W3.heap.size+1,0,none⟩)]) rfl (enters_of func299 (by kernel_rfl) rfl) (encs:=λs=> #[.agg (spC s)]) (λ_=>rfl)
  (λv _=>v.left.length<=1000000000) (λv s v'=>XM v s (some v')) (λv s=>XM v s none) (ItS WD.heap.size) (KpS p) ⟨[],[],[]⟩ (λr=>Jw b [Jt b root (-1)] ⟨[],[],[]⟩ r) (TrI w1) (TrX w)
  ?hI ?hIx ?hIi ?hIt (λh k=>h.trans k) ?hKb hI0
  (λx V=>{ tmps:= #[.agg #[.int .i64 (wj:Int),.map (some p)],.string hb,.pointer (some ⟨w.heap.size,0,none⟩),undef,.pointer (some ⟨w.heap.size+1,0,none⟩),.pointer (some ⟨w.heap.size+1+1,0,none⟩),.string root,.nilIface,.pointer (some ⟨w1.heap.size+1+1,0,none⟩),.pointer (some ⟨V.heap.size,0,none⟩),undef,.tuple #[.string root,.nilIface],.pointer (some ⟨w.heap.size,0,none⟩),.int .i64 (wj:Int),.string hb,.tuple #[.string root,.nilIface],.string root,.nilIface,.nilIface,.bool false,undef,undef,undef,.map (some w1.heap.size),.map (some (w1.heap.size+1)),.agg #[.map (some w1.heap.size),.map (some (w1.heap.size+1)),.slice none 0 0],.agg #[.int .i64 (wj:Int),.map (some p)],.string root,.func (.func 299) #[] #[.pointer (some ⟨W3.heap.size,0,none⟩),.pointer (some ⟨W3.heap.size+1,0,none⟩)],.agg (spC x),undef,undef,undef,undef,undef,undef,undef],defers:=[] })
  (λx V=>V.alloc (.cells (spC x) 384)) (λx V=>Ta _ _ _) ?hseq ?hassign ?hbody ?hKa ?hIa ?hdone ?hstop
 case hI=>intro v A B hA hk;refine hA.tch hk (λj hj=>by rcases hj with rfl|rfl<;>omega) (λj cs m hj h7 _=>by rcases hj with rfl|rfl<;>omega)
 case hIx=>rintro A B⟨h1,h2,t,u,h3⟩ hk;exact⟨h1.trans (hk.below h1.size (λj hj=>by rcases hj with rfl|rfl<;>omega)),(hk.block _ (Jb h2) (λhj=>by rcases hj with e|e<;>omega)).trans h2,t,u,(hk.block _ (Jb h3) (λhj=>by rcases hj with e|e<;>omega)).trans h3⟩
 case hIi=>intro v A B hA hk;refine hA.tch hk (λj hj=>by have:=hj.1;omega) (λj cs m hj _ hr=>?_);obtain⟨_,cs',m',hr'⟩:=hj;rw[hr']at hr;simp only[Qh,Obj.cells.injEq]at hr;exact absurd hr.2.1 (by decide)
 case hIt=>
  intro A B l o hk ho hc _;refine(hk.block _ (Jb ho) (λhj=>?_)).trans ho;obtain⟨_,cs',m',hr'⟩:=hj;rw[hr']at ho
  cases ho
  cases hc
 case hKb=>
  intro A B l o hl ho hc _ hk;refine KpS.of hk (λj cs T m _ hj e=>?_) (λe=>by omega);rw[e,ho]at hj
  cases hj
  cases hc
 case hseq=>intro J Jx W hT hJ hY hJ0;have hTw:=HTD.o.1.go hT;exact Jnt WD.heap.size (5-1) (by omega) (WD.heap.size+1) W3.heap.size (W3.heap.size+1) (wj:Int) p b HEV.o.2.2.2.1 HEV.o.2.2.2.2 root J Jx hJ (λv s V hc hj=>hY v s V hc hj) W hT.size (HEV.o.2.2.1.next hTw (λh=>h)) ((hT.block _ (Jb hbn) (λh=>h)).trans hbn) ((hT.block _ (Jb hbr) (λh=>h)).trans hbr) hJ0
 case hassign=>intro l x W K hK;obtain⟨d,n1,n2,n3,n4,n5,n6,n7,mt,ab,hsp⟩:=JlG x;rw[hsp]at hK ⊢;clear hz3 hzD hszw;gi_wp2;exact hK
 case hKa=>intro V x;exact KpS.of (Ta NoB V _) (λ_ _ _ _ _ _ h=>h) (λh=>h)
 case hIa=>intro v V x hv;exact hv.tch (Ta NoB V _) noE (λ_ _ _ h=>h.elim)
 case hbody=>
  rintro l v x V W hcan hI htL hz;obtain⟨lv,hV⟩:=hI.view;obtain⟨d,n1,n2,n3,n4,n5,n6,n7,mt,ab,hsp⟩:=JlG x;have hrow:W.heap[V.heap.size]? =some (.cells (spC x) 384):=(htL.block _ (by simp) (by omega)).trans (Qf V _);rw[hsp]at hrow;obtain⟨hEn,hEr⟩:=HKE.o W hI.below;have hVW:=htL.size;simp only[World.size_alloc]at hVW;have hsee:=JmQ E (w1.heap.size+7) (w1.heap.size+2) w1.heap.size (w1.heap.size+1) lv v x W hV hcan (by omega) hEn hEr ⟨by have:=HEV.o.1.size;have:=HTD.o.2.2.size;omega,by have:=HEV.o.1.size;have:=HTD.o.2.2.size;omega⟩;rw[hsp]at hsee;have HSEE:Hid (Calls prog 230 #[.pointer (some ⟨w1.heap.size+1+1,0,none⟩),.agg #[.string d,.string n1,.string n2,.int .u64 (n3:Int),.int .u8 (n4:Int),.int .i64 n5,.string n6,.string n7,.bool mt,.int .i64 ab]] W _):=hsee;clear hsee;have x0:W.cell? ⟨V.heap.size,0,none⟩=some (.string d):=Ja hrow;have x1:W.cell? ⟨V.heap.size,1,none⟩=some (.string n1):=Ja hrow;have x2:W.cell? ⟨V.heap.size,2,none⟩=some (.string n2):=Ja hrow;have x3:W.cell? ⟨V.heap.size,3,none⟩=some (.int .u64 (n3:Int)):=Ja hrow;have x4:W.cell? ⟨V.heap.size,4,none⟩=some (.int .u8 (n4:Int)):=Ja hrow;have x5:W.cell? ⟨V.heap.size,5,none⟩=some (.int .i64 n5):=Ja hrow;have x6:W.cell? ⟨V.heap.size,6,none⟩=some (.string n6):=Ja hrow;have x7:W.cell? ⟨V.heap.size,7,none⟩=some (.string n7):=Ja hrow;have x8:W.cell? ⟨V.heap.size,8,none⟩=some (.bool mt):=Ja hrow;have x9:W.cell? ⟨V.heap.size,9,none⟩=some (.int .i64 ab):=Ja hrow;have hBlow:∀j,VwB (w1.heap.size+2) w1.heap.size (w1.heap.size+1) lv j->w1.heap.size<=j/\j ≠ WD.heap.size/\j ≠ WD.heap.size+1:=λj hj=>by
   rcases hj with rfl|rfl|rfl|e
   ·omega
   ·omega
   ·omega
   ·have:=(hV.left.own j e.symm).1;omega
  have HBL:Hid (∀j,VwB (w1.heap.size+2) w1.heap.size (w1.heap.size+1) lv j->w1.heap.size<=j/\j ≠ WD.heap.size/\j ≠ WD.heap.size+1):=hBlow;have HV:Hid (VwAt _ W _ _ _ lv v):=hV;have HI:Hid (TrI w1 v W):=hI;have hr1:=hI.below.block _ (show w.heap.size+1<w1.heap.size by omega);have hr2:=hI.below.block _ (show w.heap.size+2<w1.heap.size by omega);have q1:W.heap[w.heap.size+1]? =some (.cells #[.map none,.map none,.slice none 0 0] 270):=hr1.trans ((HT1.o.block _ (Jb HR1.o) (λh=>h)).trans HR1.o);have q2:W.heap[w.heap.size+2]? =some (.cells #[.nilIface] 92):=hr2.trans ((HT1.o.block _ (Jb HR2.o) (λh=>h)).trans HR2.o);have HQ1:Hid (W.heap[w.heap.size+1]? =_):=q1;have HQ2:Hid (W.heap[w.heap.size+2]? =_):=q2;rw[hsp];clear hz3 hzD hszw hI hV hrow hEn hEr hVW hBlow hr1 hr2 q1 q2 hcan htL hz;gi_wp2;refine⟨trivial,(callsIn_wide.2 HSEE.o).mono ?_⟩;clear x0 x1 x2 x3 x4 x5 x6 x7 x8 x9;rintro _ w8⟨ht8,⟨v',lv',hst,rfl,hV8⟩|⟨hbad,t,u,rfl⟩⟩
  ·have HT8:Hid (Tch (VwB (w1.heap.size+2) w1.heap.size (w1.heap.size+1) lv) W w8):=ht8;have HV8:Hid (VwAt (w1.heap.size+7) w8 (w1.heap.size+2) w1.heap.size (w1.heap.size+1) lv' v'):=hV8;have HST:Hid (XM v x (some v')):=hst;clear ht8 hV8 hst;gi_wp2;refine⟨⟨v',HST.o,⟨HI.o.below.trans (HT8.o.below HI.o.below.size (λj hj=>(HBL.o j hj).1)),⟨lv',HV8.o⟩,Qm HI.o.size HT8.o.size⟩,KpS.of HT8.o (λj cs T m ht hj=>HV.o.kinds ht hj) (λe=>?_)⟩,λl o ho hl=>?_⟩
   ·have:=(HBL.o p e).1;have:=HZ.o.2.2;omega
   ·refine(HT8.o.block _ (Jb ho) (λe=>?_)).trans ho;have:=HBL.o l e
    rcases hl with rfl|rfl
    ·exact this.2.1 rfl
    ·exact this.2.2 rfl
  ·have HT8:Hid (Tch (VwB (w1.heap.size+2) w1.heap.size (w1.heap.size+1) lv) W w8):=ht8;have HBAD:Hid (XM v x none):=hbad;have hq1:w8.heap[w.heap.size+1]? =some (.cells #[.map none,.map none,.slice none 0 0] 270):=(ht8.block _ (Jb HQ1.o) (λe=>by have:=(HBL.o _ e).1;have:=HZ.o.2.2;omega)).trans HQ1.o;have hq2:w8.heap[w.heap.size+2]? =some (.cells #[.nilIface] 92):=(ht8.block _ (Jb HQ2.o) (λe=>by have:=(HBL.o _ e).1;have:=HZ.o.2.2;omega)).trans HQ2.o;obtain⟨X,hX,p1,p2,tX⟩:=Jiy hq1 hq2 (.map none) (.map none) (.slice none 0 0) (.iface t u);have y0:w8.cell? ⟨w.heap.size+1,0,none⟩=some (.map none):=Ja hq1;have y1:w8.cell? ⟨w.heap.size+1,1,none⟩=some (.map none):=Ja hq1;have y2:w8.cell? ⟨w.heap.size+1,2,none⟩=some (.slice none 0 0):=Ja hq1;have y3:w8.cell? ⟨w.heap.size+1+1,0,none⟩=some .nilIface:=Ja hq2;have f0:w8.frozen? ⟨w.heap.size+1,0,none⟩=false:=Qg _ _ _ _ _ hq1;have f1:w8.frozen? ⟨w.heap.size+1,1,none⟩=false:=Qg _ _ _ _ _ hq1;have f2:w8.frozen? ⟨w.heap.size+1,2,none⟩=false:=Qg _ _ _ _ _ hq1;have f3:w8.frozen? ⟨w.heap.size+1+1,0,none⟩=false:=Qg _ _ _ _ _ hq2;have HX:Hid (X=_):=hX;have HP:Hid (X.heap[w.heap.size+1]? =_/\X.heap[w.heap.size+1+1]? =_):=⟨p1,p2⟩
   have HTX:Hid (Tch _ w8 X):=tX;clear ht8 hbad hq1 hq2 hX p1 p2 tX;gi_wp2;have hX2:=HX.o;rw[<-hX2];have hwz:=HZ.o;refine⟨⟨HBAD.o,?_,HP.o.1,t,u,HP.o.2⟩,λl o ho hl=>?_⟩
   ·have b1:Below w.heap.size w W:=((Tch.below HTD.o.2.2 (Ql _) noE).trans (HI.o.below.mono (by omega)))
    have b2:Below w.heap.size W w8:=HT8.o.below b1.size (λj hj=>by have:=(HBL.o j hj).1;omega);exact(b1.trans b2).trans (HTX.o.below (Qm b1.size b2.size) (λj hj=>by omega))
   ·have h8:=(HT8.o.block _ (Jb ho) (λe=>by
     have:=HBL.o l e
     rcases hl with rfl|rfl
     ·exact this.2.1 rfl
     ·exact this.2.2 rfl)).trans ho
    exact(HTX.o.block _ (Jb h8) (λe=>by omega)).trans h8
 case hdone=>
  rintro D v W hDe hen hI hK;obtain⟨lv,hV⟩:=hI.view;obtain⟨a,c,hlv⟩:=hV.left.shape;generalize v.left.length=ln at hlv;subst hlv;have q1:W.heap[w.heap.size+1]? =some (.cells #[.map none,.map none,.slice none 0 0] 270):=(hI.below.block _ (show w.heap.size+1<w1.heap.size by omega)).trans ((HT1.o.block _ (Jb HR1.o) (λh=>h)).trans HR1.o);have q2:W.heap[w.heap.size+2]? =some (.cells #[.nilIface] 92):=(hI.below.block _ (show w.heap.size+2<w1.heap.size by omega)).trans ((HT1.o.block _ (Jb HR2.o) (λh=>h)).trans HR2.o);obtain⟨X,hX,p1,p2,tX⟩:=Jiy q1 q2 (.map (some w1.heap.size)) (.map (some (w1.heap.size+1))) (.slice a ln c) .nilIface;have y0:W.cell? ⟨w.heap.size+1,0,none⟩=some (.map none):=Ja q1;have y1:W.cell? ⟨w.heap.size+1,1,none⟩=some (.map none):=Ja q1;have y2:W.cell? ⟨w.heap.size+1,2,none⟩=some (.slice none 0 0):=Ja q1;have y3:W.cell? ⟨w.heap.size+1+1,0,none⟩=some .nilIface:=Ja q2;have f0:W.frozen? ⟨w.heap.size+1,0,none⟩=false:=Qg _ _ _ _ _ q1;have f1:W.frozen? ⟨w.heap.size+1,1,none⟩=false:=Qg _ _ _ _ _ q1;have f2:W.frozen? ⟨w.heap.size+1,2,none⟩=false:=Qg _ _ _ _ _ q1;have f3:W.frozen? ⟨w.heap.size+1+1,0,none⟩=false:=Qg _ _ _ _ _ q2;have v0:W.cell? ⟨w1.heap.size+1+1,0,none⟩=some (.map (some w1.heap.size)):=Ja hV.row;have v1:W.cell? ⟨w1.heap.size+1+1,1,none⟩=some (.map (some (w1.heap.size+1))):=Ja hV.row;have v2:W.cell? ⟨w1.heap.size+1+1,2,none⟩=some (.slice a ln c):=Ja hV.row;have hKX:X.heap[D]? =some (.deferred (some [])):=(tX.block _ (Jb hK) (λe=>by omega)).trans hK;have hg:=grownBy_putObj' X D (.deferred none);have hr':∀r,some D=some r->∃o:Obj,X.heap[r]? =some o/\o.isCells=false:=λr e=>by cases e;exact⟨_,hKX,rfl⟩
  have HRES:Hid (X=_/\X.heap[D]? =some (.deferred (some []))/\(X.putObj D (.deferred none)).heap[w.heap.size+1]? =_/\(X.putObj D (.deferred none)).heap[w.heap.size+2]? =_):=⟨hX,hKX,JbJ p1 hg hr',JbJ p2 hg hr'⟩
  have HFIN:Hid (Tch NoB w (X.putObj D (.deferred none))/\VwV w.heap.size (X.putObj D (.deferred none)) w1.heap.size (w1.heap.size+1) (.slice a ln c) v):=by
   have tP:Tch (λj=>j=D) X (X.putObj D (.deferred none)):=Tch.putObj _ _ _ _ rfl;have tXP:Tch (λj=>j=w.heap.size+1\/j=w.heap.size+1+1\/j=D) W (X.putObj D (.deferred none)):=(tX.mono (λj hj=>.inl (hj.imp (λh=>h) (λh=>.inl h)))).trans tP (λj hj=>.inl (.inr (.inr hj)));have b1:Tch (λj=>w1.heap.size<=j) w W:=(HTD.o.2.2.mono noE).trans (Tch.of_below hI.below) (λj hj=>.inl hj);refine⟨(b1.trans tXP (λj hj=>.inr (by rcases hj with rfl|rfl|rfl<;>omega))).mono (λj hj=>.inr (by omega)),hV.met.next tXP (λhj=>by omega),hV.outs.next tXP (λhj=>by omega),?_,hV.nm,hV.no,by omega⟩;have:=hV.left.tch tXP (λj hj e=>by
    obtain⟨hb,_⟩:=hV.left.own j hj;omega)
   obtain⟨h1,h2⟩:=this;refine⟨h1,h2.imp_right ?_⟩;rintro⟨g,cap,cur,h3,h4,h5⟩;exact⟨g,cap,cur,h3,by omega,h5⟩
  have HEN:Hid (Jw b [Jt b root (-1)] ⟨[],[],[]⟩ (some v)):=hen;clear hI hV q1 q2 hX p1 p2 tX hKX hg hr' hz3 hzD hszw hK hen hDe;gi_wp2;rw[<-HRES.o.1];refine⟨by simp,.inl ⟨_,_,rfl,run_takeDeferred HRES.o.2.1,?_⟩⟩;refine⟨_,ZU results150 _ _ (w.heap.size+1) _ _ (0,0) _ ⟨w.heap.size+1+1,0,none⟩ .nilIface rfl rfl HRES.o.2.2.1 underlying270 rfl (by kernel_rfl) (isAgg92 _) (Ja HRES.o.2.2.2),HFIN.o.1,.inl ⟨v,_,_,_,HEN.o,rfl,HFIN.o.2⟩⟩
 case hstop=>
  rintro D W hDe hen⟨hb,hr1,t,u,hr2⟩ hK;have hg:=grownBy_putObj' W D (.deferred none);have hr':∀r,some D=some r->∃o:Obj,W.heap[r]? =some o/\o.isCells=false:=λr e=>by cases e;exact⟨_,hK,rfl⟩
  have HRES:Hid (W.heap[D]? =some (.deferred (some []))/\(W.putObj D (.deferred none)).heap[w.heap.size+1]? =_/\(W.putObj D (.deferred none)).heap[w.heap.size+2]? =_):=⟨hK,JbJ hr1 hg hr',JbJ hr2 hg hr'⟩
  have HFIN:Hid (Tch NoB w (W.putObj D (.deferred none))):=((Tch.of_below hb).trans (Tch.putObj (λj=>j=D) W D (.deferred none) rfl) (λj hj=>.inr (by omega))).mono (λj hj=>.inr hj);have HEN:Hid (Jw b [Jt b root (-1)] ⟨[],[],[]⟩ none):=hen;clear hg hr' hz3 hzD hszw hK hen hDe hb hr1 hr2;gi_wp2;refine⟨by simp,.inl ⟨_,_,rfl,run_takeDeferred HRES.o.1,?_⟩⟩;refine⟨_,ZU results150 _ _ (w.heap.size+1) _ _ (0,0) _ ⟨w.heap.size+1+1,0,none⟩ (.iface t u) rfl rfl HRES.o.2.1 underlying270 rfl (by kernel_rfl) (isAgg92 _) (Ja HRES.o.2.2),HFIN.o,.inr ⟨HEN.o,t,u,rfl⟩⟩
