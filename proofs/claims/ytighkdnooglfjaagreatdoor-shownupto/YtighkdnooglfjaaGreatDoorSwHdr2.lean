/-
  Operations on a port one behind the other, with new rows beside it ('Run'); the contract of (*wire.Coder).Header, whatever the port's state is.
  The contracts of wire.NewWriter, wire.NewReader, (*wire.Writer).Done, (*wire.Reader).Done and Rest.
  The contract of (*wire.Reader).Done, whatever its state is.
-/
import Derived.Test.YtighkdnooglfjaaGreatDoorSwCoinS
namespace Go.Proofs.YtighkdnooglfjaaGreatDoor
open Go.RowKit

structure Run (E:Nat->Addr) (w0 wA w:World) (b:Nat) (g g':Option Nat) (width:Int) (st:Option PS):Prop where
 port:PortSt E w b g' width st
 moved:Moved wA g g'
 tch:Tch (λk=>k=b\/some k=g) wA w
 env:Env E w
 k12:18<=b
 low:b<w0.heap.size
 own:∀k,g=some k->b<k/\k<w0.heap.size
 new:Tch (λ_=>False) w0 wA
theorem Run.start {E:Nat->Addr} {w0 wA:World} {b:Nat} {g:Option Nat} {width:Int} {st:Option PS} (h12:18<=b) (hE:Env E w0) (hp:PortSt E w0 b g width st) (k:Tch (λ_=>False) w0 wA):Run E w0 wA wA b g g width st:=
 ⟨hp.next k,.inl rfl,Tch.refl _ _,hE.tch k noE,h12,hp.lt,hp.own,k⟩
theorem Run.step {E:Nat->Addr} {w0 wA w w':World} {b:Nat} {g g':Option Nat} {width:Int} {st st':Option PS} (h:Run E w0 wA w b g g' width st) (k:StTo E w w' b g' width st'):∃g'',Run E w0 wA w' b g g'' width st':=by
 obtain ⟨g2,k1,k2,k3⟩:=k
 exact ⟨g2,k1,h.moved.trans k2 h.tch.size,port_trans h.tch k3 h.moved,h.env.tch k3 (st_high h.k12 h.port),h.k12,h.low,h.own,h.new⟩
theorem Run.box {E:Nat->Addr} {w0 wA w:World} {b:Nat} {g g':Option Nat} {width:Int} {st:Option PS} (h:Run E w0 wA w b g g' width st) {k:Nat} {o:Obj} (hk:w0.heap.size<=k) (hA:wA.heap[k]? =some o):w.heap[k]? =some o/\¬(k=b\/some k=g'):=by
 have hl:=(row_lt hA)
 have h1:=h.low
 refine ⟨(h.tch.block k hl ?_).trans hA,?_⟩
 ·rintro (e | e)
  ·omega
  ·have:=(h.own k e.symm).2;omega
 ·rcases h.moved with e | ⟨i,e,hi⟩
  ·rw [e]
   rintro (e | e)
   ·omega
   ·have:=(h.own k e.symm).2;omega
  ·rw [e]
   rintro (e | e)
   ·omega
   ·cases e;omega
theorem Run.to {E:Nat->Addr} {w0 wA w:World} {b:Nat} {g g':Option Nat} {width:Int} {st:Option PS} (h:Run E w0 wA w b g g' width st):StTo E w0 w b g width st:=
 StTo.fresh h.new ⟨g',h.port,h.moved,h.tch⟩
theorem Run.done {E:Nat->Addr} {w0 wA w:World} {b:Nat} {g g':Option Nat} {width:Int} {st:Option PS} (h:Run E w0 wA w b g g' width st) {k:Nat} {cur cs:Array Value} {T:TypeId} (hk:w0.heap.size<=k) (hA:wA.heap[k]? =some (.cells cur T)) (hT:T ≠ 237):StTo E w0 (w.setRow k cs) b g width st:=by
 obtain ⟨h1,h2⟩:=h.box hk hA
 obtain ⟨g2,k1,k2,k3⟩:=h.to
 have hg:g2=g':=k1.same h.port
 subst hg
 exact ⟨g2,k1.row h1 hT h2,k2,k3.trans (Tch.setRow w k cs) (λj hj=>.inr (by omega))⟩
theorem set4 (w:World) (g:Nat) (t:TypeId) (a b c d v0 v1 v2 v3:Value) (h:w.heap[g]? =some (.cells #[a,b,c,d] t (0,0))):
  (((w.setCell ⟨g,0,none⟩ v0).setCell ⟨g,1,none⟩ v1).setCell ⟨g,2,none⟩ v2).setCell ⟨g,3,none⟩ v3=w.setRow g #[v0,v1,v2,v3]:=by
 rw [setCell_eq_setRow w g 0 _ t (0,0) v0 h,setCell_eq_setRow _ g 1 _ t (0,0) v1 (setRow_heap _ _ _ _ _ _ h),setRow_setRow,
  setCell_eq_setRow _ g 2 _ t (0,0) v2 (setRow_heap _ _ _ _ _ _ h),setRow_setRow,setCell_eq_setRow _ g 3 _ t (0,0) v3 (setRow_heap _ _ _ _ _ _ h),setRow_setRow]
 refine congrArg (w.setRow g) ?_
 simp
def stHdr (width:Nat) (h:HdL) (st:Option PS):(Nat×List UInt8×List UInt8×List UInt8)×Option PS:=
 let r0:=stNum h.1 4 st
 let r1:=stTxt h.2.1.data.toList width r0.2
 let r2:=stTxt h.2.2.1.data.toList width r1.2
 let r3:=stTxt h.2.2.2.data.toList width r2.2
 ((r0.1,r1.1,r2.1,r3.1),r3.2)
abbrev hdV (r:Nat×List UInt8×List UInt8×List UInt8):Value:=.agg #[.int .u64 (r.1:Int),.string ⟨r.2.1.toArray⟩,.string ⟨r.2.2.1.toArray⟩,.string ⟨r.2.2.2.toArray⟩]
theorem stHdr_none (width:Nat) (h:HdL) (p:PS) (hh:p.hdr width h=none):(stHdr width h (some p)).2=none:=by
 unfold stHdr
 unfold PS.hdr at hh
 dsimp only
 cases h1:p.num h.1 4 with
 | none=>rw [stNum_none h1];rfl
 | some r=>
  obtain ⟨n,p1⟩:=r
  rw [stNum_some h1]
  simp only [h1] at hh
  dsimp only
  cases h2:p1.txt h.2.1.data.toList width with
  | none=>rw [stTxt_none h2];rfl
  | some r=>
   obtain ⟨t1,p2⟩:=r
   rw [stTxt_some h2]
   simp only [h2] at hh
   dsimp only
   cases h3:p2.txt h.2.2.1.data.toList width with
   | none=>rw [stTxt_none h3];rfl
   | some r=>
    obtain ⟨t2,p3⟩:=r
    rw [stTxt_some h3]
    simp only [h3] at hh
    dsimp only
    cases h4:p3.txt h.2.2.2.data.toList width with
    | none=>rw [stTxt_none h4]
    | some r=>simp [h4] at hh
theorem stHdr_some (width:Nat) (h y:HdL) (p p2:PS) (hh:p.hdr width h=some (y,p2)):(stHdr width h (some p)).2=some p2/\hdV (stHdr width h (some p)).1=.agg #[.int .u64 (y.1:Int),.string y.2.1,.string y.2.2.1,.string y.2.2.2]:=by
 unfold stHdr
 unfold PS.hdr at hh
 dsimp only
 cases h1:p.num h.1 4 with
 | none=>rw [h1] at hh;cases hh
 | some r=>
  obtain ⟨n,p1⟩:=r
  rw [stNum_some h1]
  simp only [h1] at hh
  dsimp only
  cases h2:p1.txt h.2.1.data.toList width with
  | none=>rw [h2] at hh;cases hh
  | some r=>
   obtain ⟨t1,p2⟩:=r
   rw [stTxt_some h2]
   simp only [h2] at hh
   dsimp only
   cases h3:p2.txt h.2.2.1.data.toList width with
   | none=>rw [h3] at hh;cases hh
   | some r=>
    obtain ⟨t2,p3⟩:=r
    rw [stTxt_some h3]
    simp only [h3] at hh
    dsimp only
    cases h4:p3.txt h.2.2.2.data.toList width with
    | none=>rw [h4] at hh;cases hh
    | some r=>
     obtain ⟨t3,p4⟩:=r
     rw [stTxt_some h4]
     simp only [h4,Option.some.injEq,Prod.mk.injEq] at hh
     obtain ⟨rfl,rfl⟩:=hh
     exact ⟨rfl,rfl⟩

set_option maxRecDepth 100000 in
set_option maxHeartbeats 1000000 in
theorem header_st (E:Nat->Addr) (b:Nat) (hb12:18<=b) (g:Option Nat) (width:Nat) (n:Nat) (s1 s2 s3:ByteArray) (st:Option PS) (w:World) (hE:Env E w) (hp:PortSt E w b g width st) (hd:stLen st+4 * width<=90000000):
  Calls Tryz.prog 86 #[.pointer (some ⟨b,0,none⟩),.agg #[.int .u64 (n:Int),.string s1,.string s2,.string s3]] w λe w'=>e=.returned (hdV (stHdr width (n,s1,s2,s3) st).1)/\StTo E w w' b g width (stHdr width (n,s1,s2,s3) st).2:=by
 have hlt:=hp.lt
 have HR0:=Run.start hb12 hE hp (Tch.allocs (λ_=>False) w (.cells #[.int .u64 (n:Int),.string s1,.string s2,.string s3] 167) (.cells #[.int .u64 0,.string ⟨#[]⟩,.string ⟨#[]⟩,.string ⟨#[]⟩] 167))
 have hl0:=stNum_len n 4 st
 have hl1:=stTxt_len s1.data.toList width (stNum n 4 st).2
 have hl2:=stTxt_len s2.data.toList width (stTxt s1.data.toList width (stNum n 4 st).2).2
 have RUN:Hid (Run _ _ _ _ _ _ _ _ _):=HR0
 clear hE hp HR0
 go_enter Tryz.func86,Tryz.ntmps86
 go_wp2_with fail
 refine (number_st E b g width n 4 st _ RUN.out.env RUN.out.port (by omega) (by omega)).mono ?_
 rintro _ w1 ⟨rfl,h⟩
 obtain ⟨g1,R1⟩:=RUN.out.step h
 have bx1:=(R1.box (k:=w.heap.size) (Nat.le_refl _) (heap_alloc2_old _ _ _)).1
 have c1:w1.cell? ⟨w.heap.size,1,none⟩=some (.string s1):=cell_row bx1
 have RUN1:Hid (Run _ _ _ _ _ _ _ _ _):=R1
 clear R1 bx1 h
 go_wp2_with fail
 refine (digest_st E b g1 width s1 _ _ RUN1.out.env RUN1.out.port (by omega)).mono ?_
 rintro _ w2 ⟨rfl,h⟩
 obtain ⟨g2,R2⟩:=RUN1.out.step h
 have bx2:=(R2.box (k:=w.heap.size) (Nat.le_refl _) (heap_alloc2_old _ _ _)).1
 have c2:w2.cell? ⟨w.heap.size,2,none⟩=some (.string s2):=cell_row bx2
 have RUN2:Hid (Run _ _ _ _ _ _ _ _ _):=R2
 clear R2 bx2 h
 go_wp2_with fail
 refine (digest_st E b g2 width s2 _ _ RUN2.out.env RUN2.out.port (by omega)).mono ?_
 rintro _ w3 ⟨rfl,h⟩
 obtain ⟨g3,R3⟩:=RUN2.out.step h
 have bx3:=(R3.box (k:=w.heap.size) (Nat.le_refl _) (heap_alloc2_old _ _ _)).1
 have c3:w3.cell? ⟨w.heap.size,3,none⟩=some (.string s3):=cell_row bx3
 have RUN3:Hid (Run _ _ _ _ _ _ _ _ _):=R3
 clear R3 bx3 h
 go_wp2_with fail
 refine (digest_st E b g3 width s3 _ _ RUN3.out.env RUN3.out.port (by omega)).mono ?_
 rintro _ w4 ⟨rfl,h⟩
 obtain ⟨g4,R4⟩:=RUN3.out.step h
 have rR:=(R4.box (k:=w.heap.size+1) (by omega) (heap_alloc2_new _ _ _)).1
 have e0:w4.cell? ⟨w.heap.size+1,0,none⟩=some (.int .u64 0):=cell_row rR
 have e1:w4.cell? ⟨w.heap.size+1,1,none⟩=some (.string ⟨#[]⟩):=cell_row rR
 have e2:w4.cell? ⟨w.heap.size+1,2,none⟩=some (.string ⟨#[]⟩):=cell_row rR
 have e3:w4.cell? ⟨w.heap.size+1,3,none⟩=some (.string ⟨#[]⟩):=cell_row rR
 have fR:∀j,w4.frozen? ⟨w.heap.size+1,j,none⟩=false:=λj=>frozen_of_row _ _ _ _ _ rR
 have RUN4:Hid (Run _ _ _ _ _ _ _ _ _):=R4
 have RR:Hid (_=_):=rR
 clear R4 rR h
 go_wp2
 rw [set4 _ _ _ _ _ _ _ _ _ _ _ RR.out]
 exact bodyPost_ret (v:=hdV (stHdr width (n,s1,s2,s3) st).1) (results_cell_row Tryz.results86 _ _ (w.heap.size+1) _ _ (0,0) _ rfl (setRow_heap _ _ _ _ _ _ RR.out) Tryz.underlying167 rfl (by kernel_rfl)) rfl ⟨rfl,RUN4.out.done (k:=w.heap.size+1) (by omega) (heap_alloc2_new _ _ _) (by decide)⟩
end Go.Proofs.YtighkdnooglfjaaGreatDoor
namespace Go.Proofs.YtighkdnooglfjaaGreatDoor
open Go.RowKit

set_option maxRecDepth 100000 in
set_option maxHeartbeats 400000 in
theorem newWriter_any (width:Int) (w:World):
  Calls Tryz.prog 77 #[.int .i64 width] w λe w'=>e=.returned (.pointer (some ⟨w.heap.size,0,none⟩))/\PortAt w' w.heap.size none width .nilIface (.wr [])/\Tch (λ_=>False) w w':=by
 go_enter Tryz.func77,Tryz.ntmps77
 go_wp2
 go_ret
 refine ⟨rfl,⟨.slice none 0 0,rfl,Bs.nil _ _,?_⟩,Tch.alloc _ _ _⟩
 exact heap_alloc_new _ _
set_option maxRecDepth 100000 in
set_option maxHeartbeats 400000 in
theorem newReader_any (width:Int) (s:ByteArray) (w:World):
  Calls Tryz.prog 85 #[.int .i64 width,.string s] w λe w'=>e=.returned (.pointer (some ⟨w.heap.size,0,none⟩))/\PortAt w' w.heap.size none width .nilIface (.rd [] s.data.toList)/\Tch (λ_=>False) w w':=by
 go_enter Tryz.func85,Tryz.ntmps85
 go_wp2
 go_ret
 refine ⟨rfl,⟨rfl,?_⟩,Tch.alloc _ _ _⟩
 exact heap_alloc_new _ _
set_option maxRecDepth 100000 in
set_option maxHeartbeats 400000 in
theorem wdone_ok (b:Nat) (g:Option Nat) (width:Int) (done:List UInt8) (w:World) (hp:PortAt w b g width .nilIface (.wr done)):
  Calls Tryz.prog 79 #[.pointer (some ⟨b,0,none⟩)] w λe w'=>e=.returned (.tuple #[.string ⟨done.toArray⟩,.nilIface])/\∃n,w'=w.drewN n:=by
 have ce:=hp.errCell
 obtain ⟨v,_,hbs,hrow⟩:=hp
 have c3:w.cell? ⟨b,3,none⟩=some v:=cell_row hrow
 have hst:=λn=>run_string_of_bs (P:=Tryz.prog) (w:=w.drewN n) (l:=done) hbs 52 9 5 Tryz.underlying52 Tryz.underlying5 Tryz.underlying9
 have hst0:=hst 0
 rw [World.drewN_zero] at hst0
 have hst1:=hst 1
 rw [<-World.drew_is_drewN] at hst1
 clear hst hrow hbs
 generalize (⟨done.toArray⟩:ByteArray)=r at *
 go_enter Tryz.func79,Tryz.ntmps79
 go_wp2
 go_ret2
 exact ⟨rfl,0,rfl⟩
set_option maxRecDepth 100000 in
set_option maxHeartbeats 400000 in
theorem wdone_err (b:Nat) (g:Option Nat) (width:Int) (t:TypeId) (u:Value) (p:PS) (w:World) (hp:PortAt w b g width (.iface t u) p):
  Calls Tryz.prog 79 #[.pointer (some ⟨b,0,none⟩)] w λe w'=>e=.returned (.tuple #[.string ⟨#[]⟩,.iface t u])/\∃n,w'=w.drewN n:=by
 have ce:=hp.errCell
 clear hp
 go_enter Tryz.func79,Tryz.ntmps79
 go_wp2
 go_region
 all_goals go_wp2
 all_goals go_ret2
 all_goals exact ⟨rfl,1,rfl⟩
set_option maxRecDepth 100000 in
set_option maxHeartbeats 400000 in
theorem rest_any (b:Nat) (g:Option Nat) (width:Int) (e:Value) (pre rest:List UInt8) (w:World) (hp:PortAt w b g width e (.rd pre rest)):
  Calls Tryz.prog 87 #[.pointer (some ⟨b,0,none⟩)] w λe w'=>e=.returned (.string ⟨rest.toArray⟩)/\Tch (λ_=>False) w w':=by
 have c3:w.cell? ⟨b,3,none⟩=some (.string ⟨(pre++rest).toArray⟩):=cell_row hp.2
 have c4:w.cell? ⟨b,4,none⟩=some (.int .i64 (pre.length:Int)):=cell_row hp.2
 have hsz:pre.length<=(⟨(pre++rest).toArray⟩:ByteArray).size:=by rw [str_size,List.length_append];omega
 have hx:(⟨(pre++rest).toArray⟩:ByteArray).extract pre.length (⟨(pre++rest).toArray⟩:ByteArray).size=⟨rest.toArray⟩:=by rw [str_drop,List.drop_left'];rfl
 clear hp
 generalize (⟨rest.toArray⟩:ByteArray)=rt at *
 generalize (⟨(pre++rest).toArray⟩:ByteArray)=r at *
 generalize pre.length=n at *
 go_enter Tryz.func87,Tryz.ntmps87
 go_wp2
 go_region
 all_goals go_wp2
 all_goals go_ret
 all_goals exact ⟨rfl,Tch.drewN _ w 1⟩
theorem wdone_st (E:Nat->Addr) (b:Nat) (g:Option Nat) (width:Int) (st:Option PS) (hw:∀p,st=some p->∃d,p=.wr d) (w:World) (hp:PortSt E w b g width st):
  Calls Tryz.prog 79 #[.pointer (some ⟨b,0,none⟩)] w λe w'=>Tch (λ_=>False) w w'/\match st with
   | some (.wr d)=>e=.returned (.tuple #[.string ⟨d.toArray⟩,.nilIface])
   | _=>∃t u,e=.returned (.tuple #[.string ⟨#[]⟩,.iface t u])/\ErrIs E 7 w' (.iface t u):=by
 cases st with
 | none=>
  obtain ⟨p,t,u,h1,h2⟩:=hp
  refine (wdone_err b g width t u p w h1).mono ?_
  rintro e w' ⟨rfl,n,rfl⟩
  exact ⟨Tch.drewN _ w n,t,u,rfl,h2.tch (Tch.drewN (λ_=>False) w n) (λ_ _ _ _ h=>h)⟩
 | some p=>
  obtain ⟨d,rfl⟩:=hw p rfl
  refine (wdone_ok b g width d w hp).mono ?_
  rintro e w' ⟨rfl,n,rfl⟩
  exact ⟨Tch.drewN _ w n,rfl⟩
end Go.Proofs.YtighkdnooglfjaaGreatDoor
namespace Go.Proofs.YtighkdnooglfjaaGreatDoor
open Go.RowKit

set_option maxRecDepth 100000 in
set_option maxHeartbeats 400000 in
theorem rmore_any (b:Nat) (g:Option Nat) (width:Int) (e x:Value) (pre rest:List UInt8) (w:World) (hp:PortAt w b g width e (.rd pre rest)):
  Calls Tryz.prog 140 #[.pointer (some ⟨b,0,none⟩),x] w λe w'=>e=.returned (.bool (!rest.isEmpty))/\Tch (λ_=>False) w w':=by
 have c3:w.cell? ⟨b,3,none⟩=some (.string ⟨(pre++rest).toArray⟩):=cell_row hp.2
 have c4:w.cell? ⟨b,4,none⟩=some (.int .i64 (pre.length:Int)):=cell_row hp.2
 have hsz:(⟨(pre++rest).toArray⟩:ByteArray).size=pre.length+rest.length:=by rw [str_size,List.length_append]
 have hb:decide (pre.length<(⟨(pre++rest).toArray⟩:ByteArray).size)= !rest.isEmpty:=by
  rw [hsz]
  cases rest with
  | nil=>simp
  | cons a l=>simp
 have HB:Hid (_= !rest.isEmpty):=hb
 clear hp hb hsz
 generalize (⟨(pre++rest).toArray⟩:ByteArray)=r at *
 generalize pre.length=n at *
 go_enter Tryz.func140,Tryz.ntmps140
 go_wp2
 go_region
 all_goals go_wp2
 all_goals go_ret
 all_goals exact ⟨by rw [<-HB.out];rfl,Tch.drewN _ w 1⟩
set_option maxRecDepth 100000 in
set_option maxHeartbeats 400000 in
theorem rdone_ok (b:Nat) (width:Int) (pre:List UInt8) (w:World) (hp:PortAt w b none width .nilIface (.rd pre [])):
  Calls Tryz.prog 88 #[.pointer (some ⟨b,0,none⟩)] w λe w'=>e=.returned .nilIface/\Tch (λ_=>False) w w':=by
 have ce:=hp.errCell
 have HM:Hid (∀x W,Tch (λ_=>False) w W->Calls Tryz.prog 140 #[.pointer (some ⟨b,0,none⟩),x] W λe w'=>e=.returned (.bool false)/\Tch (λ_=>False) W w'):=λx W hT=>rmore_any b none width .nilIface x pre [] W (hp.tch hT (λh=>h) (λ_ _ h=>h))
 have HE:Hid (∀W,Tch (λ_=>False) w W->W.cell? ⟨b,2,none⟩=some .nilIface):=λW hT=>(hp.tch hT (λh=>h) (λ_ _ h=>h)).errCell
 clear hp
 go_enter Tryz.func88,Tryz.ntmps88
 go_wp2_with fail
 refine (HM.out _ w (Tch.refl _ _)).mono ?_
 rintro _ w1 ⟨rfl,ht⟩
 have c1:=HE.out w1 ht
 have HT:Hid (Tch _ _ _):=ht
 clear HM HE ht
 go_wp2
 go_ret
 exact ⟨rfl,HT.out⟩
set_option maxRecDepth 100000 in
set_option maxHeartbeats 400000 in
theorem rdone_err (b:Nat) (g:Option Nat) (width:Int) (t:TypeId) (u:Value) (p:PS) (w:World) (hp:PortAt w b g width (.iface t u) p):
  Calls Tryz.prog 88 #[.pointer (some ⟨b,0,none⟩)] w λe w'=>e=.returned (.iface t u)/\Tch (λ_=>False) w w':=by
 have ce:=hp.errCell
 clear hp
 go_enter Tryz.func88,Tryz.ntmps88
 go_wp2
 go_ret
 first
  | exact ⟨rfl,Tch.refl _ _⟩
  | exact ⟨rfl,Tch.drewN _ w 1⟩
set_option maxRecDepth 100000 in
set_option maxHeartbeats 400000 in
theorem rdone_behind (E:Nat->Addr) (b:Nat) (width:Int) (pre rest:List UInt8) (hr:rest ≠ []) (w:World) (hE:Env E w) (hp:PortAt w b none width .nilIface (.rd pre rest)):
  Calls Tryz.prog 88 #[.pointer (some ⟨b,0,none⟩)] w λe w'=>∃t u,e=.returned (.iface t u)/\ErrIs E 7 w' (.iface t u)/\Tch (λ_=>False) w w':=by
 have ce:=hp.errCell
 have hne:(!rest.isEmpty)=true:=by cases rest with | nil=>exact absurd rfl hr | cons a l=>rfl
 have HM:Hid (∀x,Calls Tryz.prog 140 #[.pointer (some ⟨b,0,none⟩),x] w λe w'=>e=.returned (.bool true)/\Tch (λ_=>False) w w'):=λx=>by
  have:=rmore_any b none width .nilIface x pre rest w hp
  rw [hne] at this
  exact this
 have HF:Hid (∀W,Tch (λ_=>False) w W->W.cell? ⟨7,0,none⟩=some (eV E 7)):=λW hT=>(hE.tch hT noE).form
 clear hp hE hne
 go_enter Tryz.func88,Tryz.ntmps88
 go_wp2_with fail
 refine (HM.out _).mono ?_
 rintro _ w1 ⟨rfl,ht⟩
 have c1:=HF.out w1 ht
 have HT:Hid (Tch _ _ _):=ht
 clear HM HF ht
 go_wp2_with fail
 refine (at_err _ _ _ _).mono ?_
 rintro _ _ ⟨rfl,rfl⟩
 go_wp2
 go_ret
 exact ⟨_,_,rfl,.wrap _ _ _ (heap_alloc_new _ _) .base,HT.out.trans (Tch.alloc (λ_=>False) _ _) noE⟩
theorem rdone_st (E:Nat->Addr) (b:Nat) (width:Int) (st:Option PS) (hr:∀p,st=some p->∃q r,p=.rd q r) (w:World) (hE:Env E w) (g:Option Nat) (hp:PortSt E w b g width st):
  Calls Tryz.prog 88 #[.pointer (some ⟨b,0,none⟩)] w λe w'=>Tch (λ_=>False) w w'/\match st with
   | some (.rd _ [])=>e=.returned .nilIface
   | _=>∃t u,e=.returned (.iface t u)/\ErrIs E 7 w' (.iface t u):=by
 cases st with
 | none=>
  obtain ⟨p,t,u,h1,h2⟩:=hp
  refine (rdone_err b g width t u p w h1).mono ?_
  rintro e w' ⟨rfl,h⟩
  exact ⟨h,t,u,rfl,h2.tch h (λ_ _ _ _ h=>h)⟩
 | some p=>
  obtain ⟨q,r,rfl⟩:=hr p rfl
  have hg:g=none:=hp.1
  subst hg
  cases r with
  | nil=>exact (rdone_ok b width q w hp).mono λe w' ⟨h1,h2⟩=>⟨h2,h1⟩
  | cons a l=>exact (rdone_behind E b width q (a :: l) (by simp) w hE hp).mono λe w' ⟨t,u,h1,h2,h3⟩=>⟨h3,t,u,h1,h2⟩
end Go.Proofs.YtighkdnooglfjaaGreatDoor
