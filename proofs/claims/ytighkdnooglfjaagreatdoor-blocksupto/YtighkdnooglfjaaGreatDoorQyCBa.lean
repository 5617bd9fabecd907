import Derived.Test.YtighkdnooglfjaaGreatDoorCards
import Derived.Test.YtighkdnooglfjaaGreatDoorTie
import Derived.Test.YtighkdnooglfjaaGreatDoorQyPXd
import Derived.Deep.DeepWitnessRowRef
open Go renaming Calls->aB,Value->aG,World->aA
open Go.Ending renaming returned->aC
open Go.IntKind renaming i64->I
open Go.Proofs.Tryz renaming prog->N
open Go.Value renaming int->O,slice->R
open Option renaming none->Y,some->Z
set_option maxRecDepth 100000
namespace Go.Proofs.YtighkdnooglfjaaGreatDoor
open Go.Proofs.Tryz
open Go.ChangeShapes Go.WideShapes Go.ChangeAt Go.RowKit

theorem own:ownKnob prog.godebug=Y:=by kernel_rfl
theorem Jay:laidOutB N=true:=by kernel_rfl
theorem Ji6:prog.readableRec 22=true:=by kernel_rfl
theorem Jgq:prog.readableRec 23=true:=by kernel_rfl
theorem Jnd:prog.readableRec 3=true:=by kernel_rfl
theorem JiQ:22<prog.types.size:=of_decide_eq_true (by kernel_rfl)
theorem Jgc:23<prog.types.size:=of_decide_eq_true (by kernel_rfl)
theorem JmI:3<prog.types.size:=of_decide_eq_true (by kernel_rfl)
theorem M.belowN{W W':aA}(h:M (λj=>W.heap.size<=j) W W'):Below W.heap.size W W':=h.below (Ql _) (λ_ h=>h)
theorem Jdg(H:Type)(enc:TypeId×aG->H)(W:aA)(base:Nat)(args:Array aG)(ds gs:List (DataW H))(before:List MemPlace)
  (qP:∀(j:Nat) t v,Tryz.f3.params[j]? =Z t->args[j]? =Z v->Value.okWide N W .any base t v)
  (hW:DataW.Whole enc N Tryz.f3.params.toList Rows.blocksSpec.vars false W args.toList ds gs before) (hk:Rows.uptoSmall H (ds++gs)=true) (hL:laidMetH N Rows.blocksUptoRow.laid W):
  aB N 3 args W λe W'=>∃v,e=aC v/\Rows.blocksSpec.post enc N Tryz.f3 false true false false W args v W':=by
 have mi:=hW;obtain⟨p,q,qY,hV,rfl,hfz,j9⟩:=hW;have hA:DataW.TrodAll enc N W 0 (λ_=>true) true Tryz.f3.params.toList args.toList ds p:=qY;rw[params3]at hA qP;obtain⟨v0,vs0,d0,ds0,p0,q0,aq,rfl,rfl,h0,r0⟩:=trodAll_cons hA;obtain⟨v1,vs1,d1,ds1,p1,q1,rfl,rfl,rfl,h1,r1⟩:=trodAll_cons r0;obtain⟨v2,vs2,d2,ds2,p2,q2,rfl,rfl,rfl,h2,r2⟩:=trodAll_cons r1;obtain⟨rfl,rfl,rfl⟩:=trodAll_nil r2;obtain rfl:args= #[v0,v1,v2]:=by cases args;simp_all
 obtain⟨rfl,rfl⟩:=trodVars_none hV;clear qY hA r0 r1 r2;simp only[QC]at mi hk hfz;have H7:∀x∈p0++(p1++p2),x.block<W.heap.size:=λx hx=>mi.lt x hx;have h0k:=h0;have h1k:=h1;have h2k:=h2;have hb:Rows.uptoBulk d2<=1048576/\Rows.uptoBulk d1<=1048576:=by have:=of_decide_eq_true hk;simp only[Rows.uptoBulkAll]at this;omega
 obtain⟨f0,h0⟩:=h0;obtain⟨f1,h1⟩:=h1;obtain⟨f2,h2⟩:=h2;have o1:=qP 1 22 v1 rfl rfl;have o2:=qP 2 23 v2 rfl rfl;have e1:v1.cells.toList=[v1]:=by rcases ZA underlying22 o1 with rfl|⟨_,_,_,_,rfl,_⟩<;>rfl
 have e2:v2.cells.toList=[v2]:=by rcases ZA underlying23 o2 with rfl|⟨_,_,_,_,rfl,_⟩<;>rfl
 rw[e1]at h1;rw[e2]at h2;obtain⟨outs,hO,t7,uL⟩:=JhB o1 h1 hb.2;obtain⟨kM,bE,hn⟩:=Jhy o2 h2 hb.1;obtain⟨c,e0,_,b0⟩:=DataW.trod_int underlying3 h0;have bc0:=bounds_i64 b0;obtain rfl:v0=O I c:=by
  have o0:=qP 0 3 v0 rfl rfl;unfold Value.okWide at o0;rw[underlying3]at o0;simp only at o0;unfold Cell.okWide at o0;rw[underlying3]at o0
  cases v0<;>simp only at o0<;>first|(simp[Value.cells]at e0;rw[e0.1,e0.2];done)|(unfold Cell.ok at o0;rw[underlying3]at o0;exact absurd o0 (by simp))
 obtain⟨⟨E,hE,hS,hR⟩,nS,hAl⟩:=JjR hL;refine(Jmu E ⟨hE,hS,hE.size,hR⟩ rfl c ⟨bc0.1,by omega⟩ v1 v2 outs hO t7 uL kM bE hn nS hAl).mono λe W' ⟨he,hT⟩=>?_;subst he;have hB:=hT.belowN;refine⟨_,rfl,[d0,d1,d2],[],p0++(p1++p2),[],p0++(p1++p2),[],mi,trodAll_mk1 (shut_bool underlying4 _),trodAll_mk3 (Below.trod Jay Jnd JmI h0k hB (λx hx=>H7 x (by simp[hx]))) (Below.trod Jay Ji6 JiQ h1k hB (λx hx=>H7 x (by simp[hx]))) (Below.trod Jay Jgq Jgc h2k hB (λx hx=>H7 x (by simp[hx]))),rfl,hB.frame _,λh=>by cases h⟩

theorem Jiw(os:Os)(args:Array aG):laidMetH N Rows.blocksUptoRow.laid ((World.doorLaid N 400 os).forCall (λ_ _=>0) ⟨#[],args,[]⟩).memory:=
 laidMetH_of_parts3 (fuel:=8) (laidMet_of_run' 8 (by kernel_rfl) (by kernel_rfl)) (by kernel_rfl) (by kernel_rfl)
theorem Jf0(os:Os){H:Type}(enc:TypeId×aG->H):∃places,DataW.whole enc N ((World.doorLaid N 400 os).forCall (λ_ _=>0) ⟨#[],#[O I 0,R Y 0 0,R Y 0 0],[]⟩).memory Tryz.f3.params.toList Rows.blocksSpec.vars false #[Value.int I 0,R Y 0 0,R Y 0 0].toList 8=Z ([.lit (.int .i64 0),.nil,.nil],[],places):=
 ⟨[],by kernel_rfl⟩
theorem JeP(os:Os)(started:os.Started)(H:Type)(enc:TypeId×aG->H)(F:Stop.Interp):
  ReturnsInHanded {} checked os 3 .any ((Rows.OpenSpec.upto Rows.blocksSpec).preRow enc N Tryz.f3 Rows.blocksUptoRow.domain false Rows.blocksUptoRow.laid) (((Rows.OpenSpec.upto Rows.blocksSpec).at F).post enc N Tryz.f3 false true false false):=by
 obtain⟨places,hx⟩:=Jf0 os enc;refine returnsInHanded_of_row (C:=checked) (s:=Rows.OpenSpec.upto Rows.blocksSpec) own started (by kernel_rfl) func3
  (witness_row_atRef (enc:=enc) (C:=checked) false (World.doorLaid N 400 os) #[O I 0,R Y 0 0,R Y 0 0] rfl (by kernel_rfl) (by kernel_rfl) (by kernel_rfl)
   (OpenSpec.preRow_of_cond 8 hx (by kernel_rfl) (λk hk=>by cases hk;kernel_rfl) (by kernel_rfl) (Jiw os _))) ?_
 intro W base args ds gs before qP hW _ ti _ hL _ _;exact Jdg H enc W base args ds gs before qP hW (ti _ rfl) hL
