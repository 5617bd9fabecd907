import Derived.Test.YtighkdnooglfjaaGreatDoorCards
import Derived.Test.YtighkdnooglfjaaGreatDoorTie
import Derived.Test.YtighkdnooglfjaaGreatDoorLcLjE
import Derived.Deep.DeepWitnessRowRef
namespace Go.Proofs.YtighkdnooglfjaaGreatDoor
open Go.Proofs.Tryz
set_option maxRecDepth 100000
open Go.ChangeShapes Go.WideShapes Go.ChangeAt Go.RowKit

theorem own:ownKnob prog.godebug=none:=by kernel_rfl
theorem Je7:laidOutB prog=true:=by kernel_rfl
theorem JnQ:prog.readableRec 22=true:=by kernel_rfl
theorem JmO:prog.readableRec 26=true:=by kernel_rfl
theorem Jol:prog.readableRec 3=true:=by kernel_rfl
theorem JnG:22<prog.types.size:=of_decide_eq_true (by kernel_rfl)
theorem JmF:26<prog.types.size:=of_decide_eq_true (by kernel_rfl)
theorem Joh:3<prog.types.size:=of_decide_eq_true (by kernel_rfl)
theorem Tch.belowN{W W':World}(h:Tch (λj=>W.heap.size<=j) W W'):Below W.heap.size W W':=h.below (Ql _) (λ_ h=>h)
theorem JcC(H:Type)(enc:TypeId×Value->H)(W:World)(base:Nat)(args:Array Value)(ds gs:List (DataW H))(before:List MemPlace)
  (hval:∀(j:Nat) t v,Tryz.f9.params[j]? =some t->args[j]? =some v->Value.okWide prog W .any base t v)
  (hW:DataW.Whole enc prog Tryz.f9.params.toList Rows.listedSpec.vars false W args.toList ds gs before) (hk:Rows.uptoSmall H (ds++gs)=true) (hL:laidMetH prog Rows.listedUptoRow.laid W):
  Calls prog 9 args W λe W'=>∃v,e=.returned v/\Rows.listedSpec.post enc prog Tryz.f9 false true false false W args v W':=by
 have hW':=hW;obtain⟨p,q,hA0,hV,rfl,hfz,hnd⟩:=hW;have hA:DataW.TrodAll enc prog W 0 (λ_=>true) true Tryz.f9.params.toList args.toList ds p:=hA0;rw[params9]at hA hval;obtain⟨v0,vs0,d0,ds0,p0,q0,hargs,rfl,rfl,h0,r0⟩:=trodAll_cons hA;obtain⟨v1,vs1,d1,ds1,p1,q1,rfl,rfl,rfl,h1,r1⟩:=trodAll_cons r0;obtain⟨v2,vs2,d2,ds2,p2,q2,rfl,rfl,rfl,h2,r2⟩:=trodAll_cons r1;obtain⟨rfl,rfl,rfl⟩:=trodAll_nil r2;obtain rfl:args= #[v0,v1,v2]:=by cases args;simp_all
 obtain⟨rfl,rfl⟩:=trodVars_none hV;clear hA0 hA r0 r1 r2;simp only[QC]at hW' hk hfz;have hlt:∀x∈p0++(p1++p2),x.block<W.heap.size:=λx hx=>hW'.lt x hx;have h0k:=h0;have h1k:=h1;have h2k:=h2;have hb:Rows.uptoBulk d2<=1048576:=by have:=of_decide_eq_true hk;simp only[Rows.uptoBulkAll]at this;omega
 obtain⟨f0,h0⟩:=h0;obtain⟨f1,h1⟩:=h1;obtain⟨f2,h2⟩:=h2;have o1:=hval 1 22 v1 rfl rfl;have o2:=hval 2 26 v2 rfl rfl;have e1:v1.cells.toList=[v1]:=by rcases JaV underlying22 o1 with rfl|⟨_,_,_,_,rfl,_⟩<;>rfl
 have e2:v2.cells.toList=[v2]:=by rcases JaV underlying26 o2 with rfl|⟨_,_,_,_,rfl,_⟩<;>rfl
 rw[e1]at h1;rw[e2]at h2;obtain⟨outs,hO,hOk⟩:=JjB o1 h1;obtain⟨script,hSt,hPo,hAB,hn⟩:=JhR o2 h2 hb;obtain⟨c,e0,_,b0⟩:=DataW.trod_int underlying3 h0;have bc0:=bounds_i64 b0;obtain rfl:v0=.int .i64 c:=by
  have o0:=hval 0 3 v0 rfl rfl;unfold Value.okWide at o0;rw[underlying3]at o0;simp only at o0;unfold Cell.okWide at o0;rw[underlying3]at o0
  cases v0<;>simp only at o0<;>first|(simp[Value.cells]at e0;rw[e0.1,e0.2];done)|(unfold Cell.ok at o0;rw[underlying3]at o0;exact absurd o0 (by simp))
 obtain⟨⟨E,hE,hS,hR⟩,hE3⟩:=Jhv hL;refine(Jjh (Jj0 E W.heap.size) (λpn wj=>JbR E W.heap.size pn wj) (λ_=>rfl) (λpn wj=>JhZ E W.heap.size pn wj) (λpn wj h=>Jh0 E W.heap.size pn wj h) c v1 v2 outs script W ⟨hE,hS,hE.size,hR⟩ hE3 (Ql _) hO hOk bc0.1 (by omega) hSt hPo hAB (by omega)).mono λe W' ⟨he,hT⟩=>?_;subst he;have hB:=hT.belowN;refine⟨_,rfl,[d0,d1,d2],[],p0++(p1++p2),[],p0++(p1++p2),[],hW',trodAll_mk1 (shut_bool underlying4 _),trodAll_mk3 (Below.trod Je7 Jol Joh h0k hB (λx hx=>hlt x (by simp[hx]))) (Below.trod Je7 JnQ JnG h1k hB (λx hx=>hlt x (by simp[hx]))) (Below.trod Je7 JmO JmF h2k hB (λx hx=>hlt x (by simp[hx]))),rfl,hB.frame _,λh=>by cases h⟩

theorem Jhw(os:Os)(args:Array Value):laidMetH prog Rows.listedUptoRow.laid ((World.doorLaid prog 400 os).forCall (λ_ _=>0) ⟨#[],args,[]⟩).memory:=
 laidMetH_of_parts3 (fuel:=8) (laidMet_of_run' 8 (by kernel_rfl) (by kernel_rfl)) (by kernel_rfl) (by kernel_rfl)
theorem Jfd(os:Os){H:Type}(enc:TypeId×Value->H):∃places,DataW.whole enc prog ((World.doorLaid prog 400 os).forCall (λ_ _=>0) ⟨#[],#[.int .i64 0,.slice none 0 0,.slice none 0 0],[]⟩).memory Tryz.f9.params.toList Rows.listedSpec.vars false #[Value.int .i64 0,.slice none 0 0,.slice none 0 0].toList 8=some ([.lit (.int .i64 0),.nil,.nil],[],places):=
 ⟨[],by kernel_rfl⟩
theorem JdZ(os:Os)(started:os.Started)(H:Type)(enc:TypeId×Value->H)(F:Stop.Interp):
  ReturnsInHanded {} checked os 9 .any ((Rows.OpenSpec.upto Rows.listedSpec).preRow enc prog Tryz.f9 Rows.listedUptoRow.domain false Rows.listedUptoRow.laid) (((Rows.OpenSpec.upto Rows.listedSpec).at F).post enc prog Tryz.f9 false true false false):=by
 obtain⟨places,hx⟩:=Jfd os enc;refine returnsInHanded_of_row (C:=checked) (s:=Rows.OpenSpec.upto Rows.listedSpec) own started (by kernel_rfl) func9
  (witness_row_atRef (enc:=enc) (C:=checked) false (World.doorLaid prog 400 os) #[.int .i64 0,.slice none 0 0,.slice none 0 0] rfl (by kernel_rfl) (by kernel_rfl) (by kernel_rfl)
   (OpenSpec.preRow_of_cond 8 hx (by kernel_rfl) (λk hk=>by cases hk;kernel_rfl) (by kernel_rfl) (Jhw os _))) ?_
 intro W base args ds gs before hval hW _ hcond _ hL _ _;exact JcC H enc W base args ds gs before hval hW (hcond _ rfl) hL
