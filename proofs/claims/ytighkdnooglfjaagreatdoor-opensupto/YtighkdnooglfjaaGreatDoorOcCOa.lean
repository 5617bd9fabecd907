import Derived.Test.YtighkdnooglfjaaGreatDoorCards
import Derived.Test.YtighkdnooglfjaaGreatDoorTie
import Derived.Test.YtighkdnooglfjaaGreatDoorOcKOp
import Derived.Deep.DeepWitnessRowRef
namespace Go.Proofs.YtighkdnooglfjaaGreatDoor
open Go.Proofs.Tryz
set_option maxRecDepth 100000
open Go.ChangeShapes Go.WideShapes Go.ChangeAt Go.RowKit

theorem own:ownKnob prog.godebug=none:=by kernel_rfl
theorem Ja6:laidOutB prog=true:=by kernel_rfl
theorem JmG:prog.readableRec 22=true:=by kernel_rfl
theorem JlD:prog.readableRec 26=true:=by kernel_rfl
theorem Jkj:prog.readableRec 3=true:=by kernel_rfl
theorem Jmz:22<prog.types.size:=of_decide_eq_true (by kernel_rfl)
theorem Jlq:26<prog.types.size:=of_decide_eq_true (by kernel_rfl)
theorem Jj6:3<prog.types.size:=of_decide_eq_true (by kernel_rfl)
theorem Tch.belowN {W W':World} (h:Tch (λj=>W.heap.size<=j) W W'):Below W.heap.size W W':=h.below (Ql _) (λ_ h=>h)
theorem JcA {H:Type} {enc:TypeId×Value->H} {W:World} {base:Nat} {v:Value} {d:DataW H} {p:List MemPlace} (o:Value.okWide prog W .any base 3 v) (h:DataW.Trod enc prog W 0 (λ_=>true) true 3 v d p):∃c:Int,v=.int .i64 c/\ -9223372036854775808<=c/\c<9223372036854775808:=by
 obtain ⟨f0,h0⟩:=h
 obtain ⟨c,e0,_,b0⟩:=DataW.trod_int underlying3 h0
 have bc0:=bounds_i64 b0
 refine ⟨c,?_,bc0.1,by omega⟩
 unfold Value.okWide at o
 rw [underlying3] at o
 simp only at o
 unfold Cell.okWide at o
 rw [underlying3] at o
 cases v <;> simp only at o <;> first | (simp [Value.cells] at e0;rw [e0.1,e0.2];done) | (unfold Cell.ok at o;rw [underlying3] at o;exact absurd o (by simp))
theorem JcH (H:Type) (enc:TypeId×Value->H) (W:World) (base:Nat) (args:Array Value) (ds gs:List (DataW H)) (before:List MemPlace)
  (hval:∀(j:Nat) t v,Tryz.f11.params[j]? =some t->args[j]? =some v->Value.okWide prog W .any base t v)
  (hW:DataW.Whole enc prog Tryz.f11.params.toList Rows.opensSpec.vars false W args.toList ds gs before) (hk:Rows.uptoSmall H (ds++gs)=true) (hL:laidMetH prog Rows.opensUptoRow.laid W):
  Calls prog 11 args W λe W'=>∃v,e=.returned v/\Rows.opensSpec.post enc prog Tryz.f11 false true false false W args v W':=by
 have hW':=hW
 obtain ⟨p,q,hA0,hV,rfl,hfz,hnd⟩:=hW
 have hA:DataW.TrodAll enc prog W 0 (λ_=>true) true Tryz.f11.params.toList args.toList ds p:=hA0
 rw [params11] at hA hval
 obtain ⟨v0,vs0,d0,ds0,p0,q0,hargs,rfl,rfl,h0,r0⟩:=trodAll_cons hA
 obtain ⟨v1,vs1,d1,ds1,p1,q1,rfl,rfl,rfl,h1,r1⟩:=trodAll_cons r0
 obtain ⟨v2,vs2,d2,ds2,p2,q2,rfl,rfl,rfl,h2,r2⟩:=trodAll_cons r1
 obtain ⟨v3,vs3,d3,ds3,p3,q3,rfl,rfl,rfl,h3,r3⟩:=trodAll_cons r2
 obtain ⟨v4,vs4,d4,ds4,p4,q4,rfl,rfl,rfl,h4,r4⟩:=trodAll_cons r3
 obtain ⟨rfl,rfl,rfl⟩:=trodAll_nil r4
 obtain rfl:args= #[v0,v1,v2,v3,v4]:=by cases args;simp_all
 obtain ⟨rfl,rfl⟩:=trodVars_none hV
 clear hA0 hA r0 r1 r2 r3 r4
 simp only [QC] at hW' hk hfz
 have hlt:∀x∈p0++(p1++(p2++(p3++p4))),x.block<W.heap.size:=λx hx=>hW'.lt x hx
 have h1k:=h1
 have h2k:=h2
 have hbs:Rows.uptoBulk d2<=1048576:=by
  have:=of_decide_eq_true hk
  simp only [Rows.uptoBulkAll] at this
  omega
 obtain ⟨f1,h1⟩:=h1
 obtain ⟨f2,h2⟩:=h2
 have o1:=hval 1 22 v1 rfl rfl
 have o2:=hval 2 26 v2 rfl rfl
 have e1:v1.cells.toList=[v1]:=by rcases Jaz underlying22 o1 with rfl | ⟨_,_,_,_,rfl,_⟩ <;> rfl
 have e2:v2.cells.toList=[v2]:=by rcases Jaz underlying26 o2 with rfl | ⟨_,_,_,_,rfl,_⟩ <;> rfl
 rw [e1] at h1
 rw [e2] at h2
 obtain ⟨outs,hO,hOk⟩:=Jio o1 h1
 obtain ⟨script,hSt,hPo,hAB,hn⟩:=JgR o2 h2 hbs
 obtain ⟨c,rfl,c1,c2⟩:=JcA (hval 0 3 v0 rfl rfl) h0
 obtain ⟨c3,rfl,b3⟩:=JcA (hval 3 3 v3 rfl rfl) h3
 obtain ⟨c4,rfl,b4⟩:=JcA (hval 4 3 v4 rfl rfl) h4
 obtain ⟨E,hE,hS,hR⟩:=Jik hL
 refine (Jla c v1 v2 outs script c3 c4 W ⟨hE,hS,hE.size,hR⟩ (Ql _) hO hOk c1 c2 hSt hPo hAB (by omega) b3 b4).mono λe W' ⟨he,hT⟩=>?_
 subst he
 have hB:=hT.belowN
 refine ⟨_,rfl,[d0,d1,d2,d3,d4],[],p0++(p1++(p2++(p3++p4))),[],p0++(p1++(p2++(p3++p4))),[],hW',trodAll_mk1 (shut_bool underlying4 _),⟨_,_,Below.trod Ja6 Jkj Jj6 h0 hB (λx hx=>hlt x (by simp [hx])),⟨_,_,Below.trod Ja6 JmG Jmz h1k hB (λx hx=>hlt x (by simp [hx])),trodAll_mk3 (Below.trod Ja6 JlD Jlq h2k hB (λx hx=>hlt x (by simp [hx]))) (Below.trod Ja6 Jkj Jj6 h3 hB (λx hx=>hlt x (by simp [hx]))) (Below.trod Ja6 Jkj Jj6 h4 hB (λx hx=>hlt x (by simp [hx]))),rfl⟩,rfl⟩,rfl,hB.frame _,λh=>by cases h⟩

theorem Jil (os:Os) (args:Array Value):laidMetH prog Rows.opensUptoRow.laid ((World.doorLaid prog 400 os).forCall (λ_ _=>0) ⟨#[],args,[]⟩).memory:=
 laidMetH_of_parts3 (fuel:=8) (laidMet_of_run' 8 (by kernel_rfl) (by kernel_rfl)) (by kernel_rfl) (by kernel_rfl)
theorem JfA (os:Os) {H:Type} (enc:TypeId×Value->H):∃places,DataW.whole enc prog ((World.doorLaid prog 400 os).forCall (λ_ _=>0) ⟨#[],#[.int .i64 0,.slice none 0 0,.slice none 0 0,.int .i64 0,.int .i64 0],[]⟩).memory Tryz.f11.params.toList Rows.opensSpec.vars false #[Value.int .i64 0,.slice none 0 0,.slice none 0 0,.int .i64 0,.int .i64 0].toList 8=some ([.lit (.int .i64 0),.nil,.nil,.lit (.int .i64 0),.lit (.int .i64 0)],[],places):=
 ⟨[],by kernel_rfl⟩
theorem JeA (os:Os) (started:os.Started) (H:Type) (enc:TypeId×Value->H) (F:Stop.Interp):
  ReturnsInHanded {} checked os 11 .any ((Rows.OpenSpec.upto Rows.opensSpec).preRow enc prog Tryz.f11 Rows.opensUptoRow.domain false Rows.opensUptoRow.laid) (((Rows.OpenSpec.upto Rows.opensSpec).at F).post enc prog Tryz.f11 false true false false):=by
 obtain ⟨places,hx⟩:=JfA os enc
 refine returnsInHanded_of_row (C:=checked) (s:=Rows.OpenSpec.upto Rows.opensSpec) own started (by kernel_rfl) func11
  (witness_row_atRef (enc:=enc) (C:=checked) false (World.doorLaid prog 400 os) #[.int .i64 0,.slice none 0 0,.slice none 0 0,.int .i64 0,.int .i64 0] rfl (by kernel_rfl) (by kernel_rfl) (by kernel_rfl)
   (OpenSpec.preRow_of_cond 8 hx (by kernel_rfl) (λk hk=>by cases hk;kernel_rfl) (by kernel_rfl) (Jil os _))) ?_
 intro W base args ds gs before hval hW _ hcond _ hL _ _
 exact JcH H enc W base args ds gs before hval hW (hcond _ rfl) hL
