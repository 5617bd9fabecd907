import Derived.Test.YtighkdnooglfjaaGreatDoorBxRfB
import Derived.Deep.DeepCutAuto
namespace Go.Proofs.YtighkdnooglfjaaGreatDoor
open Tryz
set_option maxRecDepth 100000
set_option maxHeartbeats 2000000
open Go.RowKit

theorem Jgd (p:BA) (hp:p.size=64) (w:World):
  Calls prog 251 #[.string p] w λe w'=>∃v,e=.returned v/\ZOwn w.heap.size w' v (Wl p.data.toList 64)/\Tch NoB w w':=by
 have HP:Hid (p.size=64):=hp
 clear hp
 go_enter func251,ntmps251
 go_wp2
 go_loopw [3,4] (λv i wr=>∃k:Nat,k<=16/\i=.int .i64 (k:Int)/\Hid (ZOwn w.heap.size wr v (Wl p.data.toList k))/\Hid (Tch NoB w wr)) (λ_ i _=>16 - (intOf i).toNat)
 case atStart=>exact ⟨0,by omega,rfl,ZOwn.nil _ _,Te _ _⟩
 case round=>
  obtain ⟨k,hk,rfl,HZ,HT⟩:=hrel
  by_cases hlt:k<16
  ·have hli:(k:Int)<16:=by omega
   have hps:=HP.o
   have g0:4 * k<p.size:=by omega
   have g1:4 * k+1<p.size:=by omega
   have g2:4 * k+2<p.size:=by omega
   have g3:4 * k+3<p.size:=by omega
   have i0:4 * (k:Int)<(p.size:Int):=by omega
   have i1:4 * (k:Int)+1<(p.size:Int):=by omega
   have i2:4 * (k:Int)+2<(p.size:Int):=by omega
   have i3:4 * (k:Int)+3<(p.size:Int):=by omega
   have z0:0<=4 * (k:Int):=by omega
   have z1:0<=4 * (k:Int)+1:=by omega
   have z2:0<=4 * (k:Int)+2:=by omega
   have z3:0<=4 * (k:Int)+3:=by omega
   have y0:IntKind.i64.wrap (4 * (k:Int))=4 * (k:Int):=Js _ (by omega) (by omega)
   have y1:IntKind.i64.wrap (4 * (k:Int)+1)=4 * (k:Int)+1:=Js _ (by omega) (by omega)
   have y2:IntKind.i64.wrap (4 * (k:Int)+2)=4 * (k:Int)+2:=Js _ (by omega) (by omega)
   have y3:IntKind.i64.wrap (4 * (k:Int)+3)=4 * (k:Int)+3:=Js _ (by omega) (by omega)
   have n0:(4 * (k:Int)).toNat=4 * k:=by omega
   have n1:(4 * (k:Int)+1).toNat=4 * k+1:=by omega
   have n2:(4 * (k:Int)+2).toNat=4 * k+2:=by omega
   have n3:(4 * (k:Int)+3).toNat=4 * k+3:=by omega
   have b0:=UInt8.toNat_lt p[4 * k]
   have b1:=UInt8.toNat_lt p[4 * k+1]
   have b2:=UInt8.toNat_lt p[4 * k+2]
   have b3:=UInt8.toNat_lt p[4 * k+3]
   have HWD:Hid (nxW p.data.toList k (Wl p.data.toList k)=(p[4 * k].toNat:Int) * 16777216+(p[4 * k+1].toNat:Int) * 65536+(p[4 * k+2].toNat:Int) * 256+(p[4 * k+3].toNat:Int)):=by
    show nxW _ _ _=_
    unfold nxW
    rw [if_pos hlt,Jkd]
    have e:∀j (hj:j<p.size),p.data.toList.getD j 0=p[j]:=λj hj=>by
     rw [Qn,Qd (by rw [QA];exact hj)]
     rfl
    rw [e _ g0,e _ g1,e _ g2,e _ g3]
   obtain ⟨x0,e0⟩:∃x0:Nat,p[4 * k].toNat=x0:=⟨_,rfl⟩
   obtain ⟨x1,e1⟩:∃x1:Nat,p[4 * k+1].toNat=x1:=⟨_,rfl⟩
   obtain ⟨x2,e2⟩:∃x2:Nat,p[4 * k+2].toNat=x2:=⟨_,rfl⟩
   obtain ⟨x3,e3⟩:∃x3:Nat,p[4 * k+3].toNat=x3:=⟨_,rfl⟩
   rw [e0,e1,e2,e3] at HWD
   rw [e0] at b0
   rw [e1] at b1
   rw [e2] at b2
   rw [e3] at b3
   have v0:IntKind.i64.wrap (x0:Int)=(x0:Int):=Js _ (by omega) (by omega)
   have v1:IntKind.i64.wrap (x1:Int)=(x1:Int):=Js _ (by omega) (by omega)
   have v2:IntKind.i64.wrap (x2:Int)=(x2:Int):=Js _ (by omega) (by omega)
   have v3:IntKind.i64.wrap (x3:Int)=(x3:Int):=Js _ (by omega) (by omega)
   have u0:IntKind.i64.wrap ((x0:Int) * 16777216)=(x0:Int) * 16777216:=w63 _ (by omega) (by omega)
   have u1:IntKind.i64.wrap ((x1:Int) * 65536)=(x1:Int) * 65536:=w63 _ (by omega) (by omega)
   have u2:IntKind.i64.wrap ((x2:Int) * 256)=(x2:Int) * 256:=w63 _ (by omega) (by omega)
   have t0:IntKind.i64.wrap ((x0:Int) * 16777216+(x1:Int) * 65536)=(x0:Int) * 16777216+(x1:Int) * 65536:=w63 _ (by omega) (by omega)
   have t1:IntKind.i64.wrap ((x0:Int) * 16777216+(x1:Int) * 65536+(x2:Int) * 256)=(x0:Int) * 16777216+(x1:Int) * 65536+(x2:Int) * 256:=w63 _ (by omega) (by omega)
   have t2:IntKind.i64.wrap ((x0:Int) * 16777216+(x1:Int) * 65536+(x2:Int) * 256+(x3:Int))=(x0:Int) * 16777216+(x1:Int) * 65536+(x2:Int) * 256+(x3:Int):=w63 _ (by omega) (by omega)
   obtain ⟨a0,c0,hv⟩:=HZ.o.shape
   rw [Xm] at hv
   subst hv
   clear hps
   obtain ⟨v1',w1,hrun,hz1,hg1,_⟩:=Ja7 (base:=w.heap.size) (w:=(wr.alloc (.cells #[.int .i64 ((x0:Int) * 16777216+(x1:Int) * 65536+(x2:Int) * 256+(x3:Int))] 3)).drew) (HZ.o.tch (Tch.box wr _) (λ_ _ h=>h)) wr.heap.size _ (cell_of_row (wr.alloc (.cells #[.int .i64 ((x0:Int) * 16777216+(x1:Int) * 65536+(x2:Int) * 256+(x3:Int))] 3)) _ _ _ _ _ (Qf wr _)) 62 (by rw [Xm];omega) (Qm HT.o.size (Tch.box wr _).size)
   have HZ1:Hid (ZOwn w.heap.size w1 v1' (Wl p.data.toList (k+1))):=by
    show ZOwn _ _ _ _
    unfold Wl stW
    rw [HWD.o]
    exact hz1
   have HG1:Hid (Tch NoB w w1):=by
    have h1:Tch NoB w _:=(HT.o.go (Ta NoB wr (.cells #[.int .i64 ((x0:Int) * 16777216+(x1:Int) * 65536+(x2:Int) * 256+(x3:Int))] 3))).go (Td NoB _ 1)
    refine h1.trans (JdA hg1) (λj hj=>.inr ?_)
    exact (HZ.o.own j hj.symm).1
   clear hz1 hg1 HWD HZ
   go_upto_region 5 with fail
   refine Xd (S:=λ_=>True) 20 (by simp) (by kernel_rfl) (by kernel_rfl) trivial ?_
   intro hHeld l o hl ho
   simp only [List.dropLast_cons_cons,List.dropLast_singleton] at hl
   simp only [List.getLast_cons_cons,List.getLast_singleton] at ho
   subst hl
   subst ho
   simp only [Qp,Qv,Nat.reduceAdd]
   refine Ji (i:=0) (v:=?v0) rfl (by kernel_rfl) (by kernel_rfl) (by kernel_rfl) (λ_ _ _ h=>h) rfl ?h0 trivial ?r0
   case h0=>(intro W hSW;go_simp;(try with_reducible rfl))
   simp only [Act.put,Qa,Qb,Qc]
   refine Ji (i:=1) (v:=?v1) rfl (by kernel_rfl) (by kernel_rfl) (by kernel_rfl) (λ_ _ _ h=>h) rfl ?h1 trivial ?r1
   case h1=>(intro W hSW;go_simp;(try with_reducible rfl))
   simp only [Act.put,Qa,Qb,Qc]
   refine Ji (i:=2) (v:=?v2) rfl (by kernel_rfl) (by kernel_rfl) (by kernel_rfl) (λ_ _ _ h=>h) rfl ?h2 trivial ?r2
   case h2=>(intro W hSW;go_simp;(try with_reducible rfl))
   simp only [Act.put,Qa,Qb,Qc]
   refine Ji (i:=3) (v:=?v3) rfl (by kernel_rfl) (by kernel_rfl) (by kernel_rfl) (λ_ _ _ h=>h) rfl ?h3 trivial ?r3
   case h3=>(intro W hSW;go_simp;(try with_reducible rfl))
   simp only [Act.put,Qa,Qb,Qc]
   refine Ji (i:=4) (v:=?v4) rfl (by kernel_rfl) (by kernel_rfl) (by kernel_rfl) (λ_ _ _ h=>h) rfl ?h4 trivial ?r4
   case h4=>(intro W hSW;go_simp;(try with_reducible rfl))
   simp only [Act.put,Qa,Qb,Qc]
   refine Ji (i:=5) (v:=?v5) rfl (by kernel_rfl) (by kernel_rfl) (by kernel_rfl) (λ_ _ _ h=>h) rfl ?h5 trivial ?r5
   case h5=>(intro W hSW;go_simp;(try with_reducible rfl))
   simp only [Act.put,Qa,Qb,Qc]
   refine Ji (i:=6) (v:=?v6) rfl (by kernel_rfl) (by kernel_rfl) (by kernel_rfl) (λ_ _ _ h=>h) rfl ?h6 trivial ?r6
   case h6=>(intro W hSW;go_simp;(try with_reducible rfl))
   simp only [Act.put,Qa,Qb,Qc]
   refine Ji (i:=7) (v:=?v7) rfl (by kernel_rfl) (by kernel_rfl) (by kernel_rfl) (λ_ _ _ h=>h) rfl ?h7 trivial ?r7
   case h7=>(intro W hSW;go_simp;(try with_reducible rfl))
   simp only [Act.put,Qa,Qb,Qc]
   refine Ji (i:=8) (v:=?v8) rfl (by kernel_rfl) (by kernel_rfl) (by kernel_rfl) (λ_ _ _ h=>h) rfl ?h8 trivial ?r8
   case h8=>(intro W hSW;go_simp;(try with_reducible rfl))
   simp only [Act.put,Qa,Qb,Qc]
   refine Ji (i:=9) (v:=?v9) rfl (by kernel_rfl) (by kernel_rfl) (by kernel_rfl) (λ_ _ _ h=>h) rfl ?h9 trivial ?r9
   case h9=>(intro W hSW;go_simp;(try with_reducible rfl))
   simp only [Act.put,Qa,Qb,Qc]
   refine Ji (i:=10) (v:=?v10) rfl (by kernel_rfl) (by kernel_rfl) (by kernel_rfl) (λ_ _ _ h=>h) rfl ?h10 trivial ?r10
   case h10=>(intro W hSW;go_simp;(try with_reducible rfl))
   simp only [Act.put,Qa,Qb,Qc]
   refine Ji (i:=11) (v:=?v11) rfl (by kernel_rfl) (by kernel_rfl) (by kernel_rfl) (λ_ _ _ h=>h) rfl ?h11 trivial ?r11
   case h11=>(intro W hSW;go_simp;(try with_reducible rfl))
   simp only [Act.put,Qa,Qb,Qc]
   refine Ji (i:=12) (v:=?v12) rfl (by kernel_rfl) (by kernel_rfl) (by kernel_rfl) (λ_ _ _ h=>h) rfl ?h12 trivial ?r12
   case h12=>(intro W hSW;go_simp;(try with_reducible rfl))
   simp only [Act.put,Qa,Qb,Qc]
   refine Ji (i:=13) (v:=?v13) rfl (by kernel_rfl) (by kernel_rfl) (by kernel_rfl) (λ_ _ _ h=>h) rfl ?h13 trivial ?r13
   case h13=>(intro W hSW;go_simp;(try with_reducible rfl))
   simp only [Act.put,Qa,Qb,Qc]
   refine Ji (i:=14) (v:=?v14) rfl (by kernel_rfl) (by kernel_rfl) (by kernel_rfl) (λ_ _ _ h=>h) rfl ?h14 trivial ?r14
   case h14=>(intro W hSW;go_simp;(try with_reducible rfl))
   simp only [Act.put,Qa,Qb,Qc]
   refine Ji (i:=15) (v:=?v15) rfl (by kernel_rfl) (by kernel_rfl) (by kernel_rfl) (λ_ _ _ h=>h) rfl ?h15 trivial ?r15
   case h15=>(intro W hSW;go_simp;(try with_reducible rfl))
   simp only [Act.put,Qa,Qb,Qc]
   refine Ji (i:=16) (v:=?v16) rfl (by kernel_rfl) (by kernel_rfl) (by kernel_rfl) (λ_ _ _ h=>h) rfl ?h16 trivial ?r16
   case h16=>(intro W hSW;go_simp;(try with_reducible rfl))
   simp only [Act.put,Qa,Qb,Qc]
   refine Ji (i:=17) (v:=?v17) rfl (by kernel_rfl) (by kernel_rfl) (by kernel_rfl) (λ_ _ _ h=>h) rfl ?h17 trivial ?r17
   case h17=>(intro W hSW;go_simp;(try with_reducible rfl))
   simp only [Act.put,Qa,Qb,Qc]
   refine Ji (i:=18) (v:=?v18) rfl (by kernel_rfl) (by kernel_rfl) (by kernel_rfl) (λ_ _ _ h=>h) rfl ?h18 trivial ?r18
   case h18=>(intro W hSW;go_simp;(try with_reducible rfl))
   simp only [Act.put,Qa,Qb,Qc]
   refine Ji (i:=19) (v:=?v19) rfl (by kernel_rfl) (by kernel_rfl) (by kernel_rfl) (λ_ _ _ h=>h) rfl ?h19 trivial ?r19
   case h19=>(intro W hSW;go_simp;(try with_reducible rfl))
   simp only [Act.put,Qa,Qb,Qc]
   refine Ji (i:=20) (v:=?v20) rfl (by kernel_rfl) (by kernel_rfl) (by kernel_rfl) (λ_ _ _ h=>h) rfl ?h20 trivial ?r20
   case h20=>(intro W hSW;go_simp;(try with_reducible rfl))
   simp only [Act.put,Qa,Qb,Qc]
   refine Ji (i:=21) (v:=?v21) rfl (by kernel_rfl) (by kernel_rfl) (by kernel_rfl) (λ_ _ _ h=>h) rfl ?h21 trivial ?r21
   case h21=>(intro W hSW;go_simp;(try with_reducible rfl))
   simp only [Act.put,Qa,Qb,Qc]
   refine Ji (i:=22) (v:=?v22) rfl (by kernel_rfl) (by kernel_rfl) (by kernel_rfl) (λ_ _ _ h=>h) rfl ?h22 trivial ?r22
   case h22=>(intro W hSW;go_simp;(try with_reducible rfl))
   simp only [Act.put,Qa,Qb,Qc]
   refine Ji (i:=23) (v:=?v23) rfl (by kernel_rfl) (by kernel_rfl) (by kernel_rfl) (λ_ _ _ h=>h) rfl ?h23 trivial ?r23
   case h23=>(intro W hSW;go_simp;(try with_reducible rfl))
   simp only [Act.put,Qa,Qb,Qc]
   refine Ji (i:=24) (v:=?v24) rfl (by kernel_rfl) (by kernel_rfl) (by kernel_rfl) (λ_ _ _ h=>h) rfl ?h24 trivial ?r24
   case h24=>(intro W hSW;go_simp;(try with_reducible rfl))
   simp only [Act.put,Qa,Qb,Qc]
   refine Ji (i:=25) (v:=?v25) rfl (by kernel_rfl) (by kernel_rfl) (by kernel_rfl) (λ_ _ _ h=>h) rfl ?h25 trivial ?r25
   case h25=>(intro W hSW;go_simp;(try with_reducible rfl))
   simp only [Act.put,Qa,Qb,Qc]
   refine Ji (i:=26) (v:=?v26) rfl (by kernel_rfl) (by kernel_rfl) (by kernel_rfl) (λ_ _ _ h=>h) rfl ?h26 trivial ?r26
   case h26=>(intro W hSW;go_simp;(try with_reducible rfl))
   simp only [Act.put,Qa,Qb,Qc]
   refine Ji (i:=27) (v:=?v27) rfl (by kernel_rfl) (by kernel_rfl) (by kernel_rfl) (λ_ _ _ h=>h) rfl ?h27 trivial ?r27
   case h27=>(intro W hSW;go_simp;(try with_reducible rfl))
   simp only [Act.put,Qa,Qb,Qc]
   refine Ji (i:=28) (v:=?v28) rfl (by kernel_rfl) (by kernel_rfl) (by kernel_rfl) (λ_ _ _ h=>h) rfl ?h28 trivial ?r28
   case h28=>(intro W hSW;go_simp;(try with_reducible rfl))
   simp only [Act.put,Qa,Qb,Qc]
   refine Ji (i:=29) (v:=?v29) rfl (by kernel_rfl) (by kernel_rfl) (by kernel_rfl) (λ_ _ _ h=>h) rfl ?h29 trivial ?r29
   case h29=>(intro W hSW;go_simp;(try with_reducible rfl))
   simp only [Act.put,Qa,Qb,Qc]
   refine JbQ (i:=30) rfl (by kernel_rfl) (λK hK=>?_)
   go_simp
   refine hK.out _ _ trivial (λ_=>?_)
   clear hK K
   try simp only [Act.put,Qa,Qb,Qc]
   refine JbQ (i:=31) rfl (by kernel_rfl) (λK hK=>?_)
   refine ZB hrun (by rfl) _ _ (by rfl) (by rfl) (by rfl) ?_
   refine hK.out _ _ trivial (λ_=>?_)
   clear hK K
   try simp only [Act.put,Qa,Qb,Qc]
   refine wpAnyH_done (by kernel_rfl) ?_ _
   show wpList _ _ _ [_] _ _
   go_wp2
   go_roundw
   case rel=>exact ⟨k+1,by omega,by go_num,HZ1,HG1⟩
   case measure=>simp [intOf];omega
  ·have hli:¬(k:Int)<16:=by omega
   have HK:Hid (k=16):=(by omega:k=16)
   go_wp2
   go_loopw [3,5] (λv i wr=>∃m:Nat,16<=m/\m<=64/\i=.int .i64 (m:Int)/\Hid (ZOwn w.heap.size wr v (Wl p.data.toList m))/\Hid (Tch NoB w wr)) (λ_ i _=>64 - (intOf i).toNat)
   case atStart=>exact ⟨16,by omega,by omega,rfl,by have:=HZ.o;rw [HK.o] at this;exact this,HT⟩
   case round=>
    clear HZ HT
    obtain ⟨m,hm1,hm2,rfl,HZ,HT⟩:=hrel
    by_cases hlt2:m<64
    ·have hli2:(m:Int)<64:=by omega
     have hwl:=Xm p.data.toList m
     obtain ⟨g,cap,hv,hg,hcell⟩:=HZ.o.at (λe=>by rw [e] at hwl;simp at hwl;omega)
     rw [Xm] at hv
     subst hv
     have HCC:Hid (∀V i,Tch NoB wr V->i<m->V.cell? ⟨g,i,none⟩=some (.int .i64 ((Wl p.data.toList m).getD i 0))/\U32 ((Wl p.data.toList m).getD i 0)):=λV i hT hi=>by
      have hi2:i<(Wl p.data.toList m).length:=by omega
      rw [hT.cell (p:=⟨g,i,none⟩) hg (λh=>h),hcell i hi2,Qn,Qd hi2]
      exact ⟨rfl,JfL _ _ _ (Qx hi2)⟩
     obtain ⟨j16,h16⟩:∃j,m=j+16:=⟨m - 16,by omega⟩
     obtain ⟨j15,h15⟩:∃j,m=j+15:=⟨m - 15,by omega⟩
     obtain ⟨j7,h7⟩:∃j,m=j+7:=⟨m - 7,by omega⟩
     obtain ⟨j2,h2⟩:∃j,m=j+2:=⟨m - 2,by omega⟩
     have HNX:Hid (nxW p.data.toList m (Wl p.data.toList m)=((Wl p.data.toList m).getD j16 0+sg0 ((Wl p.data.toList m).getD j15 0)+(Wl p.data.toList m).getD j7 0+sg1 ((Wl p.data.toList m).getD j2 0)) % 4294967296):=by
      show nxW _ _ _=_
      unfold nxW
      rw [if_neg (by omega),show m - 16=j16 by omega,show m - 15=j15 by omega,show m - 7=j7 by omega,show m - 2=j2 by omega]
     have n16:IntKind.i64.wrap ((m:Int) - 16)=(j16:Int):=by rw [w63 _ (by omega) (by omega)];omega
     have n15:IntKind.i64.wrap ((m:Int) - 15)=(j15:Int):=by rw [w63 _ (by omega) (by omega)];omega
     have n7:IntKind.i64.wrap ((m:Int) - 7)=(j7:Int):=by rw [w63 _ (by omega) (by omega)];omega
     have n2:IntKind.i64.wrap ((m:Int) - 2)=(j2:Int):=by rw [w63 _ (by omega) (by omega)];omega
     have l16:(j16:Int)<(m:Int):=by omega
     have l15:(j15:Int)<(m:Int):=by omega
     have l7:(j7:Int)<(m:Int):=by omega
     have l2:(j2:Int)<(m:Int):=by omega
     have HL:Hid (j16<m/\j15<m/\j7<m/\j2<m):=⟨by omega,by omega,by omega,by omega⟩
     have HX:Hid (∀V,Tch NoB wr V->(V.cell? ⟨g,j16,none⟩=some (.int .i64 ((Wl p.data.toList m).getD j16 0))/\V.cell? ⟨g,j7,none⟩=some (.int .i64 ((Wl p.data.toList m).getD j7 0)))/\V.cell? ⟨g,j15,none⟩=some (.int .i64 ((Wl p.data.toList m).getD j15 0))/\V.cell? ⟨g,j2,none⟩=some (.int .i64 ((Wl p.data.toList m).getD j2 0))):=λV hT=>⟨⟨(HCC.o V j16 hT HL.o.1).1,(HCC.o V j7 hT HL.o.2.2.1).1⟩,(HCC.o V j15 hT HL.o.2.1).1,(HCC.o V j2 hT HL.o.2.2.2).1⟩
     have hu16:=(HCC.o wr j16 (Te _ _) HL.o.1).2
     have hu15:=(HCC.o wr j15 (Te _ _) HL.o.2.1).2
     have hu7:=(HCC.o wr j7 (Te _ _) HL.o.2.2.1).2
     have hu2:=(HCC.o wr j2 (Te _ _) HL.o.2.2.2).2
     generalize (Wl p.data.toList m).getD j16 0=x16 at *
     generalize (Wl p.data.toList m).getD j15 0=x15 at *
     generalize (Wl p.data.toList m).getD j7 0=x7 at *
     generalize (Wl p.data.toList m).getD j2 0=x2 at *
     have HT7:Hid (∀V,Calls prog 252 #[.int .i64 x15,.int .i64 7] V λe w'=>e=.returned (.int .i64 (rr 7 x15))/\Tch NoB V w'):=λV=>XR x15 hu15 7 (by decide) V
     have HT18:Hid (∀V,Calls prog 252 #[.int .i64 x15,.int .i64 18] V λe w'=>e=.returned (.int .i64 (rr 18 x15))/\Tch NoB V w'):=λV=>XR x15 hu15 18 (by decide) V
     have HT17:Hid (∀V,Calls prog 252 #[.int .i64 x2,.int .i64 17] V λe w'=>e=.returned (.int .i64 (rr 17 x2))/\Tch NoB V w'):=λV=>XR x2 hu2 17 (by decide) V
     have HT19:Hid (∀V,Calls prog 252 #[.int .i64 x2,.int .i64 19] V λe w'=>e=.returned (.int .i64 (rr 19 x2))/\Tch NoB V w'):=λV=>XR x2 hu2 19 (by decide) V
     have HS0:Hid (bits .xor .i64 (bits .xor .i64 (rr 7 x15) (rr 18 x15)) (x15 / 8)=sg0 x15/\U32 (sg0 x15)):=by
      refine ⟨?_,Xa _ _ _⟩
      have h8:U32 (x15 / 8):=Jg9 hu15 3
      rw [Yk (Zd _ _) (Zd _ _),Yk (Xa _ _ _) h8]
      rfl
     have HS1:Hid (bits .xor .i64 (bits .xor .i64 (rr 17 x2) (rr 19 x2)) (x2 / 1024)=sg1 x2/\U32 (sg1 x2)):=by
      refine ⟨?_,Xa _ _ _⟩
      have h10:U32 (x2 / 1024):=Jg9 hu2 10
      rw [Yk (Zd _ _) (Zd _ _),Yk (Xa _ _ _) h10]
      rfl
     generalize sg0 x15=A at *
     generalize sg1 x2=B at *
     generalize rr 7 x15=r7 at *
     generalize rr 18 x15=r18 at *
     generalize rr 17 x2=r17 at *
     generalize rr 19 x2=r19 at *
     have p15:=hu15.1
     have p2:=hu2.1
     have HU:Hid (U32 x16/\U32 x7):=⟨hu16,hu7⟩
     clear hu16 hu15 hu7 hu2 hcell HCC h16 h15 h7 h2 HL hwl
     obtain ⟨⟨q16,q7⟩,q15,q2⟩:=HX.o wr (Te _ _)
     go_upto_region 9 with fail
     go_cut [6] (λv wx=>v=.int .i64 A/\Hid (Tch NoB wr wx))
     case first=>
      go_region_held3 (λV=>V.cell? ⟨g,j15,none⟩=some (.int .i64 x15)) (go_keep) ((first
       | (go_at_call_of 252 (Value.int .i64 7);refine (HT7.o _).mono ?_;rintro _ wa ⟨rfl,hta⟩;have HTa:Hid (Tch NoB wr wa):=(Td NoB wr 1).go hta;have f15:=(HX.o _ HTa.o).2.1;clear hta)
       | (go_at_call_of 252 (Value.int .i64 18);refine (HT18.o _).mono ?_;rintro _ wb ⟨rfl,htb⟩;have HTb:Hid (Tch NoB wr wb):=HTa.o.go htb;have g15:=(HX.o _ HTb.o).2.1;clear htb)))
      all_goals
       go_wp2
       go_meet
       exact ⟨by first | rw [<-HS0.o.1] | (rw [<-HS0.o.1];rfl),HTb⟩
     case rest=>
     obtain ⟨rfl,HT1⟩:=hcut
     obtain ⟨wx,hwx⟩:∃wx,wx=wc:=⟨wc,rfl⟩
     subst hwx
     clear q16 q7 q15 q2
     obtain ⟨⟨q16,q7⟩,q15,q2⟩:=HX.o wx HT1.o
     go_upto_region 10 with fail
     go_cut [7] (λv wy=>v=.int .i64 B/\Hid (Tch NoB wr wy))
     case first=>
      go_region_held3 (λV=>V.cell? ⟨g,j2,none⟩=some (.int .i64 x2)) (go_keep) ((first
       | (go_at_call_of 252 (Value.int .i64 17);refine (HT17.o _).mono ?_;rintro _ wa ⟨rfl,hta⟩;have HTa:Hid (Tch NoB wr wa):=(HT1.o.go (Td NoB wx 1)).go hta;have f2:=(HX.o _ HTa.o).2.2;clear hta)
       | (go_at_call_of 252 (Value.int .i64 19);refine (HT19.o _).mono ?_;rintro _ wb ⟨rfl,htb⟩;have HTb:Hid (Tch NoB wr wb):=HTa.o.go htb;have g2:=(HX.o _ HTb.o).2.2;clear htb)))
      all_goals
       go_wp2
       go_meet
       exact ⟨by first | rw [<-HS1.o.1] | (rw [<-HS1.o.1];rfl),HTb⟩
     case rest=>
     obtain ⟨rfl,HT2⟩:=hcut
     obtain ⟨wy,hwy⟩:∃wy,wy=wc:=⟨wc,rfl⟩
     subst hwy
     clear q16 q7 q15 q2
     have HCS:Hid (∀V,Tch NoB wy V->V.cell? ⟨g,j16,none⟩=some (.int .i64 x16)/\V.cell? ⟨g,j7,none⟩=some (.int .i64 x7)):=λV hT=>(HX.o V (HT2.o.go hT)).1
     have HZy:Hid (ZOwn w.heap.size wy (.slice (some ⟨g,0,none⟩) m cap) (Wl p.data.toList m)):=HZ.o.tch HT2.o (λ_ _ h=>h)
     obtain ⟨bA0,bA1⟩:=HS0.o.2
     obtain ⟨bB0,bB1⟩:=HS1.o.2
     obtain ⟨⟨b160,b161⟩,b70,b71⟩:=HU.o
     have w1:IntKind.i64.wrap (x16+A)=x16+A:=w63 _ (by omega) (by omega)
     have w2:IntKind.i64.wrap (x16+A+x7)=x16+A+x7:=w63 _ (by omega) (by omega)
     have w3:IntKind.i64.wrap (x16+A+x7+B)=x16+A+x7+B:=w63 _ (by omega) (by omega)
     have w4:0<=x16+A+x7+B:=by omega
     clear HX HT7 HT18 HT17 HT19 HS0 HS1 HU
     go_upto_region 11 with fail
     refine Jab (S:=λW=>W.cell? ⟨g,j16,none⟩=some (.int .i64 x16)/\W.cell? ⟨g,j7,none⟩=some (.int .i64 x7)) 20 20 (by simp) (by simp) (by kernel_rfl) (by kernel_rfl) (by kernel_rfl) (HCS.o _ (Td _ _ 1)) ?_
     intro hHeld l o1 o2 hl ho1 ho2
     simp only [List.dropLast_cons_cons,List.dropLast_singleton] at hl
     simp only [List.dropLast_cons_cons,List.dropLast_singleton,List.getLast_cons_cons,List.getLast_singleton] at ho1
     simp only [List.getLast_cons_cons,List.getLast_singleton] at ho2
     subst hl
     subst ho1
     subst ho2
     simp only [Qp,Qv,Nat.reduceAdd]
     refine Ji (i:=0) (v:=?vb0) rfl (by kernel_rfl) (by kernel_rfl) (by kernel_rfl) (λ_ _ _ h=>h) rfl ?hb0 (by assumption) ?rb0
     case hb0=>(intro W hSW;(try dsimp only at hSW);go_simp;(try with_reducible rfl))
     simp only [Act.put,Qa,Qb,Qc]
     refine Ji (i:=1) (v:=?vb1) rfl (by kernel_rfl) (by kernel_rfl) (by kernel_rfl) (λ_ _ _ h=>h) rfl ?hb1 (by assumption) ?rb1
     case hb1=>(intro W hSW;(try dsimp only at hSW);go_simp;(try with_reducible rfl))
     simp only [Act.put,Qa,Qb,Qc]
     refine Ji (i:=2) (v:=?vb2) rfl (by kernel_rfl) (by kernel_rfl) (by kernel_rfl) (λ_ _ _ h=>h) rfl ?hb2 (by assumption) ?rb2
     case hb2=>(intro W hSW;(try dsimp only at hSW);go_simp;(try with_reducible rfl))
     simp only [Act.put,Qa,Qb,Qc]
     refine Ji (i:=3) (v:=?vb3) rfl (by kernel_rfl) (by kernel_rfl) (by kernel_rfl) (λ_ _ _ h=>h) rfl ?hb3 (by assumption) ?rb3
     case hb3=>(intro W hSW;(try dsimp only at hSW);go_simp;(try with_reducible rfl))
     simp only [Act.put,Qa,Qb,Qc]
     refine Ji (i:=4) (v:=?vb4) rfl (by kernel_rfl) (by kernel_rfl) (by kernel_rfl) (λ_ _ _ h=>h) rfl ?hb4 (by assumption) ?rb4
     case hb4=>(intro W hSW;(try dsimp only at hSW);go_simp;(try with_reducible rfl))
     simp only [Act.put,Qa,Qb,Qc]
     refine Ji (i:=5) (v:=?vb5) rfl (by kernel_rfl) (by kernel_rfl) (by kernel_rfl) (λ_ _ _ h=>h) rfl ?hb5 (by assumption) ?rb5
     case hb5=>(intro W hSW;(try dsimp only at hSW);go_simp;(try with_reducible rfl))
     simp only [Act.put,Qa,Qb,Qc]
     refine Ji (i:=6) (v:=?vb6) rfl (by kernel_rfl) (by kernel_rfl) (by kernel_rfl) (λ_ _ _ h=>h) rfl ?hb6 (by assumption) ?rb6
     case hb6=>(intro W hSW;(try dsimp only at hSW);go_simp;(try with_reducible rfl))
     simp only [Act.put,Qa,Qb,Qc]
     refine Ji (i:=7) (v:=?vb7) rfl (by kernel_rfl) (by kernel_rfl) (by kernel_rfl) (λ_ _ _ h=>h) rfl ?hb7 (by assumption) ?rb7
     case hb7=>(intro W hSW;(try dsimp only at hSW);go_simp;(try with_reducible rfl))
     simp only [Act.put,Qa,Qb,Qc]
     refine Ji (i:=8) (v:=?vb8) rfl (by kernel_rfl) (by kernel_rfl) (by kernel_rfl) (λ_ _ _ h=>h) rfl ?hb8 (by assumption) ?rb8
     case hb8=>(intro W hSW;(try dsimp only at hSW);go_simp;(try with_reducible rfl))
     simp only [Act.put,Qa,Qb,Qc]
     refine Ji (i:=9) (v:=?vb9) rfl (by kernel_rfl) (by kernel_rfl) (by kernel_rfl) (λ_ _ _ h=>h) rfl ?hb9 (by assumption) ?rb9
     case hb9=>(intro W hSW;(try dsimp only at hSW);go_simp;(try with_reducible rfl))
     simp only [Act.put,Qa,Qb,Qc]
     refine Ji (i:=10) (v:=?vb10) rfl (by kernel_rfl) (by kernel_rfl) (by kernel_rfl) (λ_ _ _ h=>h) rfl ?hb10 (by assumption) ?rb10
     case hb10=>(intro W hSW;(try dsimp only at hSW);go_simp;(try with_reducible rfl))
     simp only [Act.put,Qa,Qb,Qc]
     refine Ji (i:=11) (v:=?vb11) rfl (by kernel_rfl) (by kernel_rfl) (by kernel_rfl) (λ_ _ _ h=>h) rfl ?hb11 (by assumption) ?rb11
     case hb11=>(intro W hSW;(try dsimp only at hSW);go_simp;(try with_reducible rfl))
     simp only [Act.put,Qa,Qb,Qc]
     refine Ji (i:=12) (v:=?vb12) rfl (by kernel_rfl) (by kernel_rfl) (by kernel_rfl) (λ_ _ _ h=>h) rfl ?hb12 (by assumption) ?rb12
     case hb12=>(intro W hSW;(try dsimp only at hSW);go_simp;(try with_reducible rfl))
     simp only [Act.put,Qa,Qb,Qc]
     refine Ji (i:=13) (v:=?vb13) rfl (by kernel_rfl) (by kernel_rfl) (by kernel_rfl) (λ_ _ _ h=>h) rfl ?hb13 (by assumption) ?rb13
     case hb13=>(intro W hSW;(try dsimp only at hSW);go_simp;(try with_reducible rfl))
     simp only [Act.put,Qa,Qb,Qc]
     refine Ji (i:=14) (v:=?vb14) rfl (by kernel_rfl) (by kernel_rfl) (by kernel_rfl) (λ_ _ _ h=>h) rfl ?hb14 (by assumption) ?rb14
     case hb14=>(intro W hSW;(try dsimp only at hSW);go_simp;(try with_reducible rfl))
     simp only [Act.put,Qa,Qb,Qc]
     refine Ji (i:=15) (v:=?vb15) rfl (by kernel_rfl) (by kernel_rfl) (by kernel_rfl) (λ_ _ _ h=>h) rfl ?hb15 (by assumption) ?rb15
     case hb15=>(intro W hSW;(try dsimp only at hSW);go_simp;(try with_reducible rfl))
     simp only [Act.put,Qa,Qb,Qc]
     refine Ji (i:=16) (v:=?vb16) rfl (by kernel_rfl) (by kernel_rfl) (by kernel_rfl) (λ_ _ _ h=>h) rfl ?hb16 (by assumption) ?rb16
     case hb16=>(intro W hSW;(try dsimp only at hSW);go_simp;(try with_reducible rfl))
     simp only [Act.put,Qa,Qb,Qc]
     refine JbQ (i:=17) rfl (by kernel_rfl) (λK hK=>?_)
     go_simp
     refine hK.out _ _ (HCS.o _ (Tch.box _ _)) (λ_=>?_)
     clear hK K
     try simp only [Act.put,Qa,Qb,Qc]
     refine wpAnyH_done (by kernel_rfl) ?_ _
     show wpList _ _ _ [_] _ _
     refine Jb4 rfl _ _ rfl rfl (HZy.o.tch (Tch.box wy _) (λ_ _ h=>h)) _ _ rfl (cell_of_row (wy.alloc _) _ _ _ _ _ (Qf wy _)) (by rw [Xm];omega) (Qm (HT.o.go HT2.o).size (Tch.box wy _).size) ?_
     intro v1 w5 hz5 hg5
     have HZ5:Hid (ZOwn w.heap.size w5 v1 (Wl p.data.toList (m+1))):=by
      show ZOwn _ _ _ _
      unfold Wl stW
      rw [HNX.o]
      rw [Int.tmod_eq_emod_of_nonneg w4] at hz5
      exact hz5
     have HG5:Hid (Tch NoB w w5):=by
      refine ((HT.o.go HT2.o).go (Tch.box wy _)).trans (JdA hg5) (λj hj=>.inr ?_)
      exact (HZ.o.own j hj.symm).1
     clear hz5 hg5
     refine wpList_nil ?_
     show wpList _ _ _ [_] _ _
     go_wp2
     go_roundw
     case rel=>exact ⟨m+1,by omega,by omega,by go_num,HZ5,HG5⟩
     case measure=>simp [intOf];omega
    ·have hli2:¬(m:Int)<64:=by omega
     have HM:Hid (m=64):=(by omega:m=64)
     go_wp2
     go_ret
     exact ⟨_,rfl,by have:=HZ.o;rw [HM.o] at this;exact this,HT.o⟩

theorem Jfo (w:World):
  Calls Tryz.prog 250 #[] w λe w'=>∃g,e=.returned (.slice (some ⟨g,0,none⟩) 64 64)/\w'.heap[g]? =some (.cells (zV Ks).toArray 3)/\Tch NoB w w':=by
 go_enter Tryz.func250,Tryz.ntmps250
 go_wp2
 go_ret
 exact ⟨w.heap.size,rfl,Qf _ _,Ta _ _ _⟩

def z8 (s:S8):Array Value:= #[.int .i64 s.a,.int .i64 s.b,.int .i64 s.c,.int .i64 s.d,.int .i64 s.e,.int .i64 s.f,.int .i64 s.g,.int .i64 s.h]
structure S8.U (s:S8):Prop where
 a:U32 s.a
 b:U32 s.b
 c:U32 s.c
 d:U32 s.d
 e:U32 s.e
 f:U32 s.f
 g:U32 s.g
 h:U32 s.h
theorem S8.U.of {s:S8} (h:∀x∈s.list,U32 x):s.U:=by
 unfold S8.list at h
 exact ⟨h _ (by simp),h _ (by simp),h _ (by simp),h _ (by simp),h _ (by simp),h _ (by simp),h _ (by simp),h _ (by simp)⟩
theorem S8.U.rnd {s:S8} (h:s.U) (k w:Int):(rnd k w s).U:=by
 unfold Proofs.YtighkdnooglfjaaGreatDoor.rnd
 exact ⟨Jcc _,h.a,h.b,h.c,Jcc _,h.e,h.f,h.g⟩
theorem S8.U.to {s:S8} (h:s.U) (ws:List Int):∀k,(Proofs.YtighkdnooglfjaaGreatDoor.to ws s k).U
 | 0=>h
 | k+1=>(S8.U.to h ws k).rnd _ _
def rs (ws:List Int) (s:S8) (k:Nat):S8:=Proofs.YtighkdnooglfjaaGreatDoor.to ws s k
theorem S8.U.rs {s:S8} (h:s.U) (ws:List Int) (k:Nat):(Proofs.YtighkdnooglfjaaGreatDoor.rs ws s k).U:=S8.U.to h ws k
def bigA (x:Int):Int:=bits .xor .u32 (bits .xor .u32 (rr 2 x) (rr 13 x)) (rr 22 x)
def bigE (x:Int):Int:=bits .xor .u32 (bits .xor .u32 (rr 6 x) (rr 11 x)) (rr 25 x)
def cho (s:S8):Int:=bits .xor .u32 (bits .and .u32 s.e s.f) (bits .and .u32 (4294967295 - s.e) s.g)
def tR (k w:Int) (s:S8):Int:=(s.h+bigE s.e+cho s+k+w) % 4294967296
theorem Jk5 (k w:Int) {s:S8} (h:s.U):rnd k w s=⟨(tR k w s+bigA s.a+maj s) % 4294967296,s.a,s.b,s.c,(s.d+tR k w s) % 4294967296,s.e,s.f,s.g⟩:=by
 have e1:t1 k w s=s.h+bigE s.e+cho s+k+w:=by
  unfold t1 bigE cho
  rw [JkV h.e]
 unfold rnd
 rw [e1]
 unfold tR
 have e2:bits .xor .u32 (bits .xor .u32 (rr 2 s.a) (rr 13 s.a)) (rr 22 s.a)=bigA s.a:=rfl
 rw [e2]
 generalize s.h+bigE s.e+cho s+k+w=t
 generalize bigA s.a=A
 generalize maj s=m
 congr 1
 omega
theorem JlB (i:Nat):U32 (Ks.getD i 0):=by
 by_cases h:i<64
 ·have:∀j:Fin 64,0<=Ks.getD j.1 0/\Ks.getD j.1 0<4294967296:=by decide
  exact this ⟨i,h⟩
 ·rw [Qn,List.getElem?_eq_none (by show 64<=i;omega)]
  exact ⟨by decide,by decide⟩
