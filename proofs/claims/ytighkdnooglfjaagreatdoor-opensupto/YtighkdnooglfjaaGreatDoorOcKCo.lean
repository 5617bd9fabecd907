import Derived.Test.YtighkdnooglfjaaGreatDoorOcVfF
namespace Go.Proofs.YtighkdnooglfjaaGreatDoor
open Go.Proofs.Tryz
set_option maxRecDepth 100000
set_option maxHeartbeats 4000000
open Go.RowKit

theorem JjV {E:Nat->Addr} {wd base:Nat} (L:Led E wd base) (hw1:1<=wd) (hw:wd<=32) (xb lb:Nat) (F:Nat->Prop) (fl:Nat) (ch:Ch) (vst:Value) (sl:List Sl) (states:List (List Held)) (c:Int) (hc1: -9223372036854775808<=c) (hc2:c<9223372036854775808) (w:World) (hE:Env E w) (hS:JO L w xb lb F fl ch vst sl states) (hco:∀l∈states,∀h∈l,Jn wd h.1) (hlen:states.length<=1000000000) (hll:∀l∈states,l.length<=1000000000):
  Calls prog 23 #[.pointer (some ⟨xb,0,none⟩),.int .i64 c] w λe w'=>Tch NoB w w'/\∃co:ByteArray×Int,Jn wd co/\e=.returned (.agg #[.string co.1,.int .i64 co.2]):=by
 have hsl:sl.length=states.length:=hS.len.1
 have hpos:1<=states.length:=hS.len.2.2
 obtain ⟨g,cap,hv,hcells⟩:=hS.st.at (λe=>by rw [e] at hsl;simp at hsl;omega)
 subst hv
 have HP:Hid (∀W,Calls prog 22 #[.int .i64 c,.int .i64 ((1099511627776:Nat):Int)] W _):=λW=>ZN c 1099511627776 W hc1 hc2 (by omega) (by omega)
 obtain ⟨W,hW⟩:∃W,W=w.alloc (.cells #[.string ⟨#[]⟩,.int .i64 0] 49):=⟨_,rfl⟩
 have tA:Tch NoB w W:=by rw [hW];exact Ta _ _ _
 have hSW:=hS.next tA
 have hrow:W.heap[w.heap.size]? =some (.cells #[.string ⟨#[]⟩,.int .i64 0] 49):=by rw [hW];exact Qf _ _
 have hxw:=(Jb hS.row)
 have hne:xb ≠ w.heap.size:=by omega
 have x1:W.cell? ⟨xb,1,none⟩=some (.int .i64 (wd:Int)):=Ja hSW.row
 have x2:W.cell? ⟨xb,2,none⟩=some (.slice (some ⟨g,0,none⟩) sl.length cap):=Ja hSW.row
 have HHE:Hid (∀i,i<sl.length->∃xa xn xc l,W.cell? ⟨g,i,none⟩=some (.slice xa xn xc)/\states[i]? =some l/\Xa W (.slice xa xn xc) l):=λi hi=>by
  have hi':i<states.length:=by omega
  have h0:=hcells i hi
  exact ⟨_,_,_,states[i],(tA.cell (Qr _ _ h0) (λh=>h)).trans h0,Qd hi',(hSW.held i _ _ (Qd hi) (Qd hi')).1⟩
 have HCO:Hid _:=hco
 have HLL:Hid _:=hll
 have HE:Hid (Env E W):=hE.tch tA noE
 have HROW:Hid _:=hrow
 have HW:Hid (W=_):=hW
 have HTA:Hid _:=tA
 have r0:W.cell? ⟨w.heap.size,0,none⟩=some (.string ⟨#[]⟩):=Ja hrow
 have r1:W.cell? ⟨w.heap.size,1,none⟩=some (.int .i64 0):=Ja hrow
 have fR:∀j,W.frozen? ⟨w.heap.size,j,none⟩=false:=λj=>Qg _ _ _ _ _ hrow
 have hnp:0<sl.length:=by omega
 have hnb:sl.length<=1000000000:=by omega
 clear hE hS hSW hco hll hW tA hrow hcells hsl hpos hlen hxw
 generalize sl.length=n at *
 have hnz:¬(n:Int)=0:=by omega
 go_enter func23,ntmps23
 go_upto_region 1 with fail
 rw [<-HW.o]
 go_wp2_with fail
 refine (HP.o W).mono ?_
 rintro _ X ⟨⟨r,hr,rfl⟩,hX⟩
 rw [hX]
 clear hX X
 obtain ⟨i,hi⟩:∃i,i=r % n:=⟨_,rfl⟩
 have hil:i<n:=by rw [hi];exact Nat.mod_lt _ hnp
 have hrem:(r:Int).tmod (n:Int)=(i:Int):=by rw [hi];rfl
 obtain ⟨xa,xn,xc,l,hci,hl,hheld⟩:=HHE.o i hil
 have hlm:l∈states:=QR hl
 have hxn:xn=l.length:=by
  rcases hheld with ⟨e,rfl⟩ | ⟨_,_,_,e,_⟩
  ·cases e;rfl
  ·cases e;rfl
 have hi1:(i:Int)<(n:Int):=by omega
 have HHL:Hid (Xa W (.slice xa xn xc) l):=hheld
 have HXN:Hid _:=hxn
 have HLM:Hid _:=hlm
 have hxb:xn<=1000000000:=by rw [hxn];exact HLL.o l hlm
 clear hheld hl hlm hxn hi HHE HP
 go_upto_region 2 with fail
 go_quiet (fail)
 obtain ⟨W2,hW2⟩:∃W2,W2=W.drewN nq:=⟨_,rfl⟩
 rw [<-hW2]
 have t2:Tch NoB W W2:=by rw [hW2];exact Td _ _ _
 have HRW:Hid (∀V,Tch NoB W2 V->V.heap[w.heap.size]? =some (.cells #[.string ⟨#[]⟩,.int .i64 0] 49)):=λV hT=>((t2.go hT).block _ (Jb HROW.o) (λh=>h)).trans HROW.o
 have HCC:Hid (∀V,Tch NoB W2 V->V.cell? ⟨xb,1,none⟩=some (.int .i64 (wd:Int))/\V.cell? ⟨w.heap.size,0,none⟩=some (.string ⟨#[]⟩)/\V.cell? ⟨w.heap.size,1,none⟩=some (.int .i64 0)/\(∀j,V.frozen? ⟨w.heap.size,j,none⟩=false)):=λV hT=>⟨((t2.go hT).cell (Qr _ _ x1) (λh=>h)).trans x1,Ja (HRW.o V hT),Ja (HRW.o V hT),λj=>Qg _ _ _ _ _ (HRW.o V hT)⟩
 have HTW:Hid (Tch NoB w W2):=HTA.o.go t2
 have HE2:Hid (Env E W2):=HE.o.tch t2 noE
 have HHL2:Hid (Xa W2 (.slice xa xn xc) l):=HHL.o.tch t2
 obtain ⟨r9,hr9⟩:∃r9,r9=r % 9:=⟨_,rfl⟩
 have h9:(r:Int).tmod 9=(r9:Int):=by rw [hr9];rfl
 obtain ⟨r3,hr3⟩:∃r3,r3=r % 3:=⟨_,rfl⟩
 have h3:(r:Int).tmod 3=(r3:Int):=by rw [hr3];rfl
 obtain ⟨r7,hr7⟩:∃r7,r7=r % 7:=⟨_,rfl⟩
 have h7:(r:Int).tmod 7=(r7:Int):=by rw [hr7];rfl
 obtain ⟨r8,hr8⟩:∃r8,r8=r / 8:=⟨_,rfl⟩
 have h8:(r:Int).tdiv 8=(r8:Int):=by rw [hr8];rfl
 have hw8:wrap64 (r8:Int)=(r8:Int):=by simp only [wrap64];omega
 have hu9:IntKind.u64.wrap (r9:Int)=(r9:Int):=JA _ (by omega) (by omega)
 have HIB:Hid (∀W,Calls prog 49 #[.int .u64 (r9:Int),.int .i64 1] W λe w'=>e=.returned (.string ⟨(beL r9 1 1).toArray⟩)/\Tch NoB W w'):=λW=>JdO r9 1 W (by omega)
 obtain ⟨S,hSz,hadd⟩:∃S:BA,S.size<=300/\∀W,(Op.stringOp .add (⟨#[115,111,109,101,32,99,111,105,110]⟩:BA) ⟨(beL r9 1 1).toArray⟩).run prog W=.ok (.string S) W:=
  ⟨_,by rw [ByteArray.size_append];show 9+(beL r9 1 1).toArray.size<=300;simp [Je],λW=>run_string_add_sum (P:=prog) W _ _ (by show 9+(beL r9 1 1).toArray.size<=_;simp [Je])⟩
 obtain ⟨dg,hdg⟩:∃dg,dg=dgW wd S.data.toList:=⟨_,rfl⟩
 have HDG:Hid (∀V,Tch NoB W2 V->Calls prog 39 #[.int .i64 (wd:Int),.string S] V λe w'=>e=.returned (.string dg)/\Tch NoB V w'):=λV hT=>by
  have hEW:=HE2.o.tch hT noE
  refine (Ja5 wd S V hw1 hw (by omega) (Qk (by decide) hEW.size) hEW.table).mono ?_
  rintro _ w' ⟨rfl,ht⟩
  exact ⟨by rw [hdg];rfl,ht⟩
 have HOKF:Hid (Jn wd (dg,(r3:Int))):=⟨by show dg.size=wd;rw [hdg];exact Jq wd hw _,by show (0:Int)<=(r3:Int);omega,by show (r3:Int)<3;rw [hr3];have:=Nat.mod_lt r (show 0<3 by decide);omega⟩
 obtain ⟨y1,y2,y3,y4⟩:=HCC.o W2 (Te _ _)
 have HR8:Hid _:=hr8
 have HSP:Hid (True):=trivial
 generalize (⟨(beL r9 1 1).toArray⟩:BA)=tb at *
 clear hr9 hr3 hr7 hr8 hSz hdg t2 hW2 x1 x2 r0 r1 fR hci hrem HE HHL HROW HTA
 by_cases hz:xn=0
 ·have hz1:(xn:Int)=0:=by omega
  clear hz
  go_upto_region 4 with fail
  go_region_with (first
   | (go_at_call 49;refine (HIB.o _).mono ?_;rintro _ w3 ⟨rfl,ht3⟩;have HT3:Hid (Tch NoB W2 w3):=(Td NoB W2 1).go ht3;obtain ⟨y1,y2,y3,y4⟩:=HCC.o _ HT3.o;clear ht3)
   | (go_at_call 39;refine (HDG.o _ HT3.o).mono ?_;rintro _ w4 ⟨rfl,ht4⟩;have HT4:Hid (Tch NoB W2 w4):=HT3.o.go ht4;obtain ⟨z1,z2,z3,z4⟩:=HCC.o _ HT4.o;clear ht4))
  all_goals
   go_wp2
   rw [set2 _ _ _ _ _ _ _ (HRW.o _ HT4.o)]
   refine QJ (v:=.agg #[.string dg,.int .i64 (r3:Int)]) (Qq results23 _ _ w.heap.size _ _ (0,0) _ rfl (Qi _ _ _ _ _ _ (HRW.o _ HT4.o)) underlying49 rfl (by kernel_rfl)) rfl ?_
   exact ⟨(HTW.o.go HT4.o).trans (Ts _ _ _) (λj hj=>.inr (by omega)),(dg,(r3:Int)),HOKF.o,rfl⟩
 ·have hz1:¬(xn:Int)=0:=by omega
  by_cases h76:(r7:Int)=6
  ·go_upto_region 4 with fail
   go_region_with (first
    | (go_at_call 49;refine (HIB.o _).mono ?_;rintro _ w3 ⟨rfl,ht3⟩;have HT3:Hid (Tch NoB W2 w3):=(Td NoB W2 1).go ht3;obtain ⟨y1,y2,y3,y4⟩:=HCC.o _ HT3.o;clear ht3)
    | (go_at_call 39;refine (HDG.o _ HT3.o).mono ?_;rintro _ w4 ⟨rfl,ht4⟩;have HT4:Hid (Tch NoB W2 w4):=HT3.o.go ht4;obtain ⟨z1,z2,z3,z4⟩:=HCC.o _ HT4.o;clear ht4))
   all_goals
    go_wp2
    rw [set2 _ _ _ _ _ _ _ (HRW.o _ HT4.o)]
    refine QJ (v:=.agg #[.string dg,.int .i64 (r3:Int)]) (Qq results23 _ _ w.heap.size _ _ (0,0) _ rfl (Qi _ _ _ _ _ _ (HRW.o _ HT4.o)) underlying49 rfl (by kernel_rfl)) rfl ?_
    exact ⟨(HTW.o.go HT4.o).trans (Ts _ _ _) (λj hj=>.inr (by omega)),(dg,(r3:Int)),HOKF.o,rfl⟩
  ·rcases HHL2.o with ⟨e,e2⟩ | ⟨gi,oi,cc,e,hgl,hcell⟩
   ·exfalso
    simp only [Qy] at e
    exact hz (by omega)
   ·simp only [Qy] at e
    obtain ⟨rfl,hq,rfl⟩:=e
    clear hq
    obtain ⟨j,hj⟩:∃j,j=r8 % xn:=⟨_,rfl⟩
    have hjl:j<xn:=by rw [hj];exact Nat.mod_lt _ (by omega)
    have hrem2:(r8:Int).tmod (xn:Int)=(j:Int):=by rw [hj];rfl
    have hjl':j<l.length:=by rw [<-HXN.o];exact hjl
    obtain ⟨d0,d1,d2,d3⟩:=hcell j hjl'
    clear d2 d3
    have HOKJ:Hid (Jn wd l[j].1):=HCO.o l HLM.o _ (Qx hjl')
    obtain ⟨cs,cN,hcc⟩:∃cs cN,l[j].1=(cs,cN):=⟨_,_,rfl⟩
    rw [hcc] at d0 d1 HOKJ
    dsimp only at d0 d1
    have hj1:(j:Int)<(xn:Int):=by omega
    have hj0:(0:Int)<=(j:Int):=by omega
    have hz2:((xn:Int) == 0)=false:=by simpa using hz1
    have h762:((r7:Int) == 6)=false:=by simpa using h76
    clear hz hcell hgl hj hcc hjl hjl'
    go_wp2
    rw [set2 _ _ _ _ _ _ _ (HRW.o _ (Te _ _))]
    refine QJ (v:=.agg #[.string cs,.int .i64 cN]) (Qq results23 _ _ w.heap.size _ _ (0,0) _ rfl (Qi _ _ _ _ _ _ (HRW.o _ (Te _ _))) underlying49 rfl (by kernel_rfl)) rfl ?_
    exact ⟨HTW.o.trans (Ts _ _ _) (λj hj=>.inr (by omega)),by first | exact ⟨(cs,cN),HOKJ.o,rfl⟩ | exact ⟨cs,cN,HOKJ.o,rfl⟩⟩
