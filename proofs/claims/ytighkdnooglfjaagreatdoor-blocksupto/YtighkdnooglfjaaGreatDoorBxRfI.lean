import Derived.Test.YtighkdnooglfjaaGreatDoorBxRfF
namespace Go.Proofs.YtighkdnooglfjaaGreatDoor
open Tryz
set_option maxRecDepth 100000
set_option maxHeartbeats 4000000
open Go.RowKit

def z80:Array Value:= #[.int .i64 0,.int .i64 0,.int .i64 0,.int .i64 0,.int .i64 0,.int .i64 0,.int .i64 0,.int .i64 0]
theorem JmD (w:World):(Instr.makeSlice 62 (.int .i64 8) (.int .i64 8)).run prog w=.ok (.slice (some ⟨w.heap.size,0,none⟩) 8 8) (w.alloc (.cells z80 3)):=by
 obtain ⟨i,hi,hp⟩:=Option.map_eq_some_iff.1 JfX
 simp only [Qw] at hp
 obtain ⟨hz,hsz,hby⟩:=hp
 have:=run_make (P:=prog) w 62 3 i _ underlying62 hi hz .i64 .i64 8 8 (by omega) (by omega) (by rw [hby];omega) (by omega)
 rw [this,hsz]
 have e:madeCells (Value.int .i64 0).cells (Int.toNat 8 * 1)=z80:=by kernel_rfl
 rw [e]
 rfl
theorem Jkt (w:World) (g gh:Nat) (s:S8) (hg:w.heap[g]? =some (.cells z80 3)) (hh:w.heap[gh]? =some (.cells (z8 s) 3)) (ty:TypeId):(Builtin.copy_ #[62,62] ty #[.slice (some ⟨g,0,none⟩) 8 8,.slice (some ⟨gh,0,none⟩) 8 8]).run prog w=.ok (.int .i64 8) (w.setRow g (z8 s)):=by
 obtain ⟨i,hi,hp⟩:=Option.map_eq_some_iff.1 JfX
 simp only [Qw] at hp
 obtain ⟨hz,hsz,hby⟩:=hp
 have:=Jaw (P:=prog) w 62 62 ty 3 1 g 8 8 ⟨gh,0,none⟩ 8 8 z80 3 (z8 s).toList underlying62 (by rw [hi];simp [hsz]) hg rfl (λj v hv=>by
  rw [Addr.add_lit,Nat.zero_add,Ja hh,<-Array.getElem?_toList]
  exact hv) rfl (λv hv=>by
  simp only [z8,List.mem_cons,QD,or_false] at hv
  rcases hv with rfl | rfl | rfl | rfl | rfl | rfl | rfl | rfl <;> rfl)
 rw [this]
 rfl
def shA (s:S8):Nat->Array Value
 | 0=> #[.int .i64 s.a,.int .i64 s.b,.int .i64 s.c,.int .i64 s.d,.int .i64 s.e,.int .i64 s.f,.int .i64 s.g,.int .i64 s.h]
 | 1=> #[.int .i64 s.a,.int .i64 s.b,.int .i64 s.c,.int .i64 s.d,.int .i64 s.e,.int .i64 s.f,.int .i64 s.g,.int .i64 s.g]
 | 2=> #[.int .i64 s.a,.int .i64 s.b,.int .i64 s.c,.int .i64 s.d,.int .i64 s.e,.int .i64 s.f,.int .i64 s.f,.int .i64 s.g]
 | 3=> #[.int .i64 s.a,.int .i64 s.b,.int .i64 s.c,.int .i64 s.d,.int .i64 s.e,.int .i64 s.e,.int .i64 s.f,.int .i64 s.g]
 | 4=> #[.int .i64 s.a,.int .i64 s.b,.int .i64 s.c,.int .i64 s.d,.int .i64 s.d,.int .i64 s.e,.int .i64 s.f,.int .i64 s.g]
 | 5=> #[.int .i64 s.a,.int .i64 s.b,.int .i64 s.c,.int .i64 s.c,.int .i64 s.d,.int .i64 s.e,.int .i64 s.f,.int .i64 s.g]
 | 6=> #[.int .i64 s.a,.int .i64 s.b,.int .i64 s.b,.int .i64 s.c,.int .i64 s.d,.int .i64 s.e,.int .i64 s.f,.int .i64 s.g]
 | _=> #[.int .i64 s.a,.int .i64 s.a,.int .i64 s.b,.int .i64 s.c,.int .i64 s.d,.int .i64 s.e,.int .i64 s.f,.int .i64 s.g]
def adA (s t:S8):Nat->Array Value
 | 0=> #[.int .i64 s.a,.int .i64 s.b,.int .i64 s.c,.int .i64 s.d,.int .i64 s.e,.int .i64 s.f,.int .i64 s.g,.int .i64 s.h]
 | 1=> #[.int .i64 ((s.a+t.a) % 4294967296),.int .i64 s.b,.int .i64 s.c,.int .i64 s.d,.int .i64 s.e,.int .i64 s.f,.int .i64 s.g,.int .i64 s.h]
 | 2=> #[.int .i64 ((s.a+t.a) % 4294967296),.int .i64 ((s.b+t.b) % 4294967296),.int .i64 s.c,.int .i64 s.d,.int .i64 s.e,.int .i64 s.f,.int .i64 s.g,.int .i64 s.h]
 | 3=> #[.int .i64 ((s.a+t.a) % 4294967296),.int .i64 ((s.b+t.b) % 4294967296),.int .i64 ((s.c+t.c) % 4294967296),.int .i64 s.d,.int .i64 s.e,.int .i64 s.f,.int .i64 s.g,.int .i64 s.h]
 | 4=> #[.int .i64 ((s.a+t.a) % 4294967296),.int .i64 ((s.b+t.b) % 4294967296),.int .i64 ((s.c+t.c) % 4294967296),.int .i64 ((s.d+t.d) % 4294967296),.int .i64 s.e,.int .i64 s.f,.int .i64 s.g,.int .i64 s.h]
 | 5=> #[.int .i64 ((s.a+t.a) % 4294967296),.int .i64 ((s.b+t.b) % 4294967296),.int .i64 ((s.c+t.c) % 4294967296),.int .i64 ((s.d+t.d) % 4294967296),.int .i64 ((s.e+t.e) % 4294967296),.int .i64 s.f,.int .i64 s.g,.int .i64 s.h]
 | 6=> #[.int .i64 ((s.a+t.a) % 4294967296),.int .i64 ((s.b+t.b) % 4294967296),.int .i64 ((s.c+t.c) % 4294967296),.int .i64 ((s.d+t.d) % 4294967296),.int .i64 ((s.e+t.e) % 4294967296),.int .i64 ((s.f+t.f) % 4294967296),.int .i64 s.g,.int .i64 s.h]
 | 7=> #[.int .i64 ((s.a+t.a) % 4294967296),.int .i64 ((s.b+t.b) % 4294967296),.int .i64 ((s.c+t.c) % 4294967296),.int .i64 ((s.d+t.d) % 4294967296),.int .i64 ((s.e+t.e) % 4294967296),.int .i64 ((s.f+t.f) % 4294967296),.int .i64 ((s.g+t.g) % 4294967296),.int .i64 s.h]
 | _=> #[.int .i64 ((s.a+t.a) % 4294967296),.int .i64 ((s.b+t.b) % 4294967296),.int .i64 ((s.c+t.c) % 4294967296),.int .i64 ((s.d+t.d) % 4294967296),.int .i64 ((s.e+t.e) % 4294967296),.int .i64 ((s.f+t.f) % 4294967296),.int .i64 ((s.g+t.g) % 4294967296),.int .i64 ((s.h+t.h) % 4294967296)]
theorem Jji (s:S8) (m:Nat):(outL s m).length<=1000:=by
 unfold outL
 have h:∀l:List Int,(l.flatMap λx=>beL x.toNat 4 4).length=4 * l.length:=λl=>by
  induction l with
  | nil=>rfl
  | cons x r ih=>rw [QG,Qe,ih,Je,Qp];omega
 rw [h,QB]
 have:s.list.length=8:=rfl
 omega
theorem S8.U.get {s:S8} (h:s.U) (m:Nat) (hm:m<8):U32 (s.list.getD m 0):=by
 have hm:m=0\/m=1\/m=2\/m=3\/m=4\/m=5\/m=6\/m=7:=by omega
 rcases hm with rfl | rfl | rfl | rfl | rfl | rfl | rfl | rfl
 ·exact h.a
 ·exact h.b
 ·exact h.c
 ·exact h.d
 ·exact h.e
 ·exact h.f
 ·exact h.g
 ·exact h.h
theorem Jkj (s t:S8) (m:Nat) (h:m<8):(adA s t m)[m]? =some (.int .i64 (s.list.getD m 0))/\(adA s t m).setIfInBounds m (.int .i64 ((s.list.getD m 0+t.list.getD m 0) % 4294967296))=adA s t (m+1):=by
 have hm:m=0\/m=1\/m=2\/m=3\/m=4\/m=5\/m=6\/m=7:=by omega
 rcases hm with rfl | rfl | rfl | rfl | rfl | rfl | rfl | rfl <;> exact ⟨rfl,rfl⟩
theorem Jkh (s:S8) (m:Nat) (h:m<8):(z8 s)[m]? =some (.int .i64 (s.list.getD m 0)):=by
 have hm:m=0\/m=1\/m=2\/m=3\/m=4\/m=5\/m=6\/m=7:=by omega
 rcases hm with rfl | rfl | rfl | rfl | rfl | rfl | rfl | rfl <;> rfl
theorem JmH (s:BA) (w:World) (hs:s.size<1152921504606846976):
  Calls prog 163 #[.string s] w λe w'=>e=.returned (.string ⟨(digL s.data.toList).toArray⟩)/\Tch NoB w w':=by
 have HPD:Hid (∀V,Calls prog 249 #[.string s] V λe w'=>e=.returned (.string ⟨(padS s.data.toList).toArray⟩)/\Tch NoB V w'):=λV=>Jjx s V hs
 have HDG:Hid (digL s.data.toList=outL (JL ((padS s.data.toList).length / 64) H0 (padS s.data.toList)) 8):=by
  show digL _=_
  rw [JiL,Jfu]
 obtain ⟨hl64,hlen⟩:=Jfm s.data.toList
 rw [show s.data.toList.length=s.size by simp only [QA];rfl] at hlen
 generalize padS s.data.toList=PL at *
 generalize digL s.data.toList=DG at *
 obtain ⟨PT,hPT⟩:∃PT:BA,PT=⟨PL.toArray⟩:=⟨_,rfl⟩
 have hPS:PT.size=PL.length:=by rw [hPT,Jk]
 have HPT:Hid (PT.data.toList=PL):=by show PT.data.toList=PL;rw [hPT]
 rw [<-hPT] at HPD
 clear hPT
 go_enter func163,ntmps163
 go_wp2_with fail
 refine (HPD.o _).mono ?_
 rintro _ w1 ⟨rfl,ht⟩
 have HT1:Hid (Tch NoB w w1):=ht
 clear ht HPD
 go_wp2_with fail
 refine (Jfo _).mono ?_
 rintro _ w2 ⟨gk,rfl,hk,ht⟩
 have HT2:Hid (Tch NoB w w2):=HT1.o.go ht
 have HK2:Hid (w2.heap[gk]? =some (.cells (zV Ks).toArray 3)):=hk
 clear ht hk HT1
 obtain ⟨W,hW⟩:∃W,W=w2.alloc (.cells (z8 H0) 3):=⟨_,rfl⟩
 have HTW:Hid (Tch NoB w W):=by show Tch _ w W;rw [hW];exact HT2.o.go (Ta _ _ _)
 have HRH:Hid (W.heap[w2.heap.size]? =some (.cells (z8 H0) 3)):=by show W.heap[w2.heap.size]? =_;rw [hW];exact Qf _ _
 have HRK:Hid (W.heap[gk]? =some (.cells (zV Ks).toArray 3)/\gk<w2.heap.size):=by
  have h1:=(Jb HK2.o)
  refine ⟨?_,h1⟩
  rw [hW]
  exact ((Ta NoB w2 _).block gk h1 (λh=>h)).trans HK2.o
 have HB:Hid (w.heap.size<=w2.heap.size):=HT2.o.size
 have HW:Hid (W=_):=hW
 obtain ⟨gh,hgh⟩:∃gh,gh=w2.heap.size:=⟨_,rfl⟩
 rw [<-hgh] at HRH HRK HB
 clear hW
 go_upto_region 4 with fail
 show Code.wp _ _ _ _ (w2.alloc (.cells (z8 H0) 3))
 rw [<-HW.o,<-hgh]
 clear HW HK2 hgh
 have HL64:Hid (PL.length % 64=0):=hl64
 have hplb:PL.length<=1152921504606847100:=by omega
 clear hl64 hlen
 go_wp2
 go_loopw [6] (λv6 wr=>∃M j:Nat,Hid (M=64 * j)/\M<=PL.length/\v6=.int .i64 (M:Int)/\Hid (wr.heap[gh]? =some (.cells (z8 (JL j H0 PL)) 3))/\Hid (Tch (λx=>x=gh) W wr)) (λv6 _=>PL.length - (intOf v6).toNat)
 case atStart=>exact ⟨0,0,rfl,Nat.zero_le _,rfl,HRH,Te _ _⟩
 case round=>
  obtain ⟨M,j,HM,hM,rfl,HR,HT⟩:=hrel
  by_cases hlt:M<PL.length
  ·have hli:(M:Int)<(PT.size:Int):=by omega
   have hM64:M+64<=PL.length:=by have:=HM.o;have:=HL64.o;omega
   have hw64:IntKind.i64.wrap ((M:Int)+64)=(M:Int)+64:=w63 _ (by omega) (by omega)
   have i1:(M:Int)<=(M:Int)+64:=by omega
   have i2:(M:Int)+64<=(PT.size:Int):=by omega
   have i3:(0:Int)<=(M:Int)+64:=by omega
   have n1:((M:Int)+64).toNat=M+64:=by omega
   have n2:M+64<=PT.size:=by omega
   have HBL:Hid ((PT.extract M (M+64)).data.toList=(PL.drop (64 * j)).take 64):=by
    show (PT.extract M (M+64)).data.toList=_
    rw [ByteArray.data_extract,Array.toList_extract,HPT.o,List.extract_eq_take_drop,HM.o]
    simp
   have HSC:Hid (∀V,Calls prog 251 #[.string (PT.extract M (M+64))] V λe w'=>∃v,e=.returned v/\ZOwn V.heap.size w' v (Wl (PT.extract M (M+64)).data.toList 64)/\Tch NoB V w'):=λV=>Jgd _ (by rw [ByteArray.size_extract];omega) V
   go_wp2_with fail
   refine (HSC.o _).mono ?_
   rintro _ w4 ⟨vw,rfl,hz,ht4⟩
   have HT4:Hid (Tch NoB wr w4):=ht4
   have HZ4:Hid (ZOwn wr.heap.size w4 vw (Wl ((PL.drop (64 * j)).take 64) 64)):=by have:=hz;rw [HBL.o] at this;exact this
   clear hz ht4 HSC HBL
   have hwl:=Xm ((PL.drop (64 * j)).take 64) 64
   obtain ⟨gw,cw,hvw,hgw,hcw⟩:=HZ4.o.at (λe=>by rw [e] at hwl;simp at hwl)
   rw [hwl] at hvw
   subst hvw
   have hmk:=JmD w4
   have hgh4:gh<w4.heap.size:=Qk (Jb HR.o) HT4.o.size
   obtain ⟨gv,hgv⟩:∃gv,gv=w4.heap.size:=⟨_,rfl⟩
   have hr5:(w4.alloc (.cells z80 3)).heap[gh]? =some (.cells (z8 (JL j H0 PL)) 3):=(((Ta NoB w4 (.cells z80 3)).block gh hgh4 (λh=>h)).trans (HT4.o.block gh (Jb HR.o) (λh=>h))).trans HR.o
   have hcp:=Jkt (w4.alloc (.cells z80 3)) w4.heap.size gh (JL j H0 PL) (Qf _ _) hr5 3
   obtain ⟨W5,hW5⟩:∃W5,W5=(w4.alloc (.cells z80 3)).setRow w4.heap.size (z8 (JL j H0 PL)):=⟨_,rfl⟩
   rw [<-hW5] at hcp
   go_upto_region 10 with fail
   rw [<-hW5,<-hgv]
   have HUS:Hid ((JL j H0 PL).U):=S8.U.of (Jbu j H0 PL JfI)
   have HFS:Hid (JL (j+1) H0 PL=addS (JL j H0 PL) (rs (Wl ((PL.drop (64 * j)).take 64) 64) (JL j H0 PL) 64)):=rfl
   have HWU:Hid (∀i,i<64->U32 ((Wl ((PL.drop (64 * j)).take 64) 64).getD i 0)):=λi hi=>by
    rw [Qn,Qd (by rw [hwl];exact hi)]
    exact JfL _ _ _ (Qx _)
   have ht45:Tch NoB w4 W5:=by
    rw [hW5]
    exact ((Ta NoB w4 (.cells z80 3)).trans (Ts _ _ _) (λx hx=>.inr (by rw [hx];exact Ql _)))
   have hrv:W5.heap[gv]? =some (.cells (z8 (JL j H0 PL)) 3):=by rw [hW5,hgv];exact Qi _ _ _ _ _ _ (Qf _ _)
   have HRV:Hid (W5.heap[gv]? =some (.cells (z8 (JL j H0 PL)) 3)):=hrv
   have HR5:Hid (W5.heap[gh]? =some (.cells (z8 (JL j H0 PL)) 3)):=((ht45.block gh hgh4 (λh=>h)).trans (HT4.o.block gh (Jb HR.o) (λh=>h))).trans HR.o
   have HK5:Hid (W5.heap[gk]? =some (.cells (zV Ks).toArray 3)):=by
    have h0:=(Jb HRK.o.1)
    have h1:=(HT.o.block gk h0 (λe=>by have:=HRK.o.2;omega)).trans HRK.o.1
    have h2:=(HT4.o.block gk (Jb h1) (λh=>h)).trans h1
    exact (ht45.block gk (Jb h2) (λh=>h)).trans h2
   have HW5:Hid (∀i,i<64->W5.cell? ⟨gw,i,none⟩=some (.int .i64 ((Wl ((PL.drop (64 * j)).take 64) 64).getD i 0))):=λi hi=>by
    rw [ht45.cell (p:=⟨gw,i,none⟩) hgw (λh=>h),hcw i (by rw [hwl];exact hi),Qn,Qd (by rw [hwl];exact hi)]
    rfl
   have HAP:Hid (gh ≠ gv/\gk ≠ gv/\gw ≠ gv):=by
    refine ⟨by omega,?_,by omega⟩
    have h0:=(Jb HRK.o.1)
    have:=HT.o.size
    have:=HT4.o.size
    omega
   have HT5:Hid (Tch NoB wr W5):=HT4.o.go ht45
   have HGV:Hid (W.heap.size<=gv):=by
    have h1:=HT.o.size
    have h2:=HT4.o.size
    show W.heap.size<=gv
    omega
   clear hW5 hcp hr5 hmk ht45 hrv hcw hgw hgv hgh4 HZ4 HT4 hwl
   generalize Wl ((PL.drop (64 * j)).take 64) 64=ws at *
   generalize JL j H0 PL=S at *
   go_wp2
   go_loopw [9] (λv9 wy=>∃i:Nat,i<=64/\v9=.int .i64 (i:Int)/\Hid (wy.heap[gv]? =some (.cells (z8 (rs ws S i)) 3))/\Hid (Tch (λx=>x=gv) W5 wy)) (λv9 _=>64 - (intOf v9).toNat)
   case atStart=>exact ⟨0,by omega,rfl,HRV,Te _ _⟩
   case round=>
    clear hlt hli i1 i2 i3 n1 n2 hw64
    obtain ⟨i,hi,rfl,HRI,HTI⟩:=hrel
    by_cases hlt:i<64
    ·have hli:(i:Int)<64:=by omega
     have HST:Hid (rs ws S (i+1)=rnd (Ks.getD i 0) (ws.getD i 0) (rs ws S i)):=rfl
     have HU:Hid ((rs ws S i).U):=S8.U.rs HUS.o ws i
     have HUW:=HWU.o i hlt
     have HUK:=JlB i
     have HCE:Hid (∀V,Tch NoB wr V->V.heap[gv]? =some (.cells (z8 (rs ws S i)) 3)/\V.cell? ⟨gk,i,none⟩=some (.int .i64 (Ks.getD i 0))/\V.cell? ⟨gw,i,none⟩=some (.int .i64 (ws.getD i 0))):=λV hT=>by
      have hc:=HW5.o i hlt
      have hgw:=Qr _ _ hc
      have h1:=(HTI.o.block gk (Jb HK5.o) HAP.o.2.1).trans HK5.o
      have h2:=(hT.block gk (Jb h1) (λh=>h)).trans h1
      have h3:=(HTI.o.cell (p:=⟨gw,i,none⟩) hgw HAP.o.2.2).trans hc
      refine ⟨(hT.block gv (Jb HRI.o) (λh=>h)).trans HRI.o,?_,(hT.cell (p:=⟨gw,i,none⟩) (Qr _ _ h3) (λh=>h)).trans h3⟩
      rw [Ja h2]
      have hk:i<Ks.length:=hlt
      simp [zV,List.getD_eq_getElem?_getD,hk]
     have hrf:=Jk5 (Ks.getD i 0) (ws.getD i 0) HU.o
     rw [hrf] at HST
     clear hrf
     generalize Ks.getD i 0=kk at *
     generalize ws.getD i 0=ww at *
     generalize hTT:rs ws S i=T at *
     clear hTT
     obtain ⟨a,b,c,d,e,f,g,h⟩:=T
     obtain ⟨ua,ub,uc,ud,ue,uf,ug,uh⟩:=HU.o
     simp only at ua ub uc ud ue uf ug uh HST
     have hst:=HST.o
     simp only [tR] at hst
     have HST:Hid (_=_):=hst
     clear hst
     have HUE:Hid (U32 (bigE e)/\U32 (bigA a)):=⟨Xa _ _ _,Xa _ _ _⟩
     have HMJ:Hid (bits .xor .i64 (bits .xor .i64 (bits .and .i64 a b) (bits .and .i64 a c)) (bits .and .i64 b c)=maj ⟨a,b,c,d,e,f,g,h⟩/\U32 (maj ⟨a,b,c,d,e,f,g,h⟩)):=by
      refine ⟨?_,Xa _ _ _⟩
      rw [JaO ua ub,JaO ua uc,JaO ub uc,Yk (Xa _ _ _) (Xa _ _ _),Yk (Xa _ _ _) (Xa _ _ _)]
      rfl
     generalize maj ⟨a,b,c,d,e,f,g,h⟩=M at *
     have HV:Hid (∀V,Tch NoB wr V->(V.cell? ⟨gv,0,none⟩=some (.int .i64 a)/\V.cell? ⟨gv,1,none⟩=some (.int .i64 b)/\V.cell? ⟨gv,2,none⟩=some (.int .i64 c)/\V.cell? ⟨gv,3,none⟩=some (.int .i64 d))/\(V.cell? ⟨gv,4,none⟩=some (.int .i64 e)/\V.cell? ⟨gv,5,none⟩=some (.int .i64 f)/\V.cell? ⟨gv,6,none⟩=some (.int .i64 g)/\V.cell? ⟨gv,7,none⟩=some (.int .i64 h))/\V.cell? ⟨gk,i,none⟩=some (.int .i64 kk)/\V.cell? ⟨gw,i,none⟩=some (.int .i64 ww)):=λV hV=>by
      obtain ⟨h1,h2,h3⟩:=HCE.o V hV
      exact ⟨⟨Ja h1,Ja h1,Ja h1,Ja h1⟩,⟨Ja h1,Ja h1,Ja h1,Ja h1⟩,h2,h3⟩
     have HT6:Hid (∀V,Calls prog 252 #[.int .i64 e,.int .i64 6] V λx w'=>x=.returned (.int .i64 (rr 6 e))/\Tch NoB V w'):=λV=>XR e ue 6 (by decide) V
     have HT11:Hid (∀V,Calls prog 252 #[.int .i64 e,.int .i64 11] V λx w'=>x=.returned (.int .i64 (rr 11 e))/\Tch NoB V w'):=λV=>XR e ue 11 (by decide) V
     have HT25:Hid (∀V,Calls prog 252 #[.int .i64 e,.int .i64 25] V λx w'=>x=.returned (.int .i64 (rr 25 e))/\Tch NoB V w'):=λV=>XR e ue 25 (by decide) V
     have HT2:Hid (∀V,Calls prog 252 #[.int .i64 a,.int .i64 2] V λx w'=>x=.returned (.int .i64 (rr 2 a))/\Tch NoB V w'):=λV=>XR a ua 2 (by decide) V
     have HT13:Hid (∀V,Calls prog 252 #[.int .i64 a,.int .i64 13] V λx w'=>x=.returned (.int .i64 (rr 13 a))/\Tch NoB V w'):=λV=>XR a ua 13 (by decide) V
     have HT22:Hid (∀V,Calls prog 252 #[.int .i64 a,.int .i64 22] V λx w'=>x=.returned (.int .i64 (rr 22 a))/\Tch NoB V w'):=λV=>XR a ua 22 (by decide) V
     have HBE:Hid (bits .xor .i64 (bits .xor .i64 (rr 6 e) (rr 11 e)) (rr 25 e)=bigE e):=by
      show bits _ _ _ _=_
      rw [Yk (Zd _ _) (Zd _ _),Yk (Xa _ _ _) (Zd _ _)]
      rfl
     have HBA:Hid (bits .xor .i64 (bits .xor .i64 (rr 2 a) (rr 13 a)) (rr 22 a)=bigA a):=by
      show bits _ _ _ _=_
      rw [Yk (Zd _ _) (Zd _ _),Yk (Xa _ _ _) (Zd _ _)]
      rfl
     generalize bigE e=E at *
     generalize bigA a=A at *
     generalize rr 6 e=r6 at *
     generalize rr 11 e=r11 at *
     generalize rr 25 e=r25 at *
     generalize rr 2 a=r2 at *
     generalize rr 13 a=r13 at *
     generalize rr 22 a=r22 at *
     obtain ⟨⟨qa,qb,qc,qd⟩,⟨qe,qf,qg,qh⟩,qk,qw⟩:=HV.o wr (Te _ _)
     go_upto_region 13 with fail
     go_cut [10] (λv wx=>v=.int .i64 E/\Hid (Tch NoB wr wx))
     case first=>
      go_region_held3 (λV=>V.cell? ⟨gv,4,none⟩=some (.int .i64 e)) (go_keep) ((first
       | (go_at_call_of 252 (Value.int .i64 6);refine (HT6.o _).mono ?_;rintro _ wa ⟨rfl,hta⟩;have HTa:Hid (Tch NoB wr wa):=(Td NoB wr 1).go hta;have f15:=(HV.o _ HTa.o).2.1.1;clear hta)
       | (go_at_call_of 252 (Value.int .i64 11);refine (HT11.o _).mono ?_;rintro _ wb ⟨rfl,htb⟩;have HTb:Hid (Tch NoB wr wb):=HTa.o.go htb;have g15:=(HV.o _ HTb.o).2.1.1;clear htb)
       | (go_at_call_of 252 (Value.int .i64 25);refine (HT25.o _).mono ?_;rintro _ wd ⟨rfl,htd⟩;have HTd:Hid (Tch NoB wr wd):=HTb.o.go htd;have h15:=(HV.o _ HTd.o).2.1.1;clear htd)))
      all_goals
       go_wp2
       go_meet
       exact ⟨by first | rw [<-HBE.o] | (rw [<-HBE.o];rfl),HTd⟩
     case rest=>
     obtain ⟨rfl,HTA⟩:=hcut
     obtain ⟨wA,hwA⟩:∃wA,wA=wc:=⟨wc,rfl⟩
     subst hwA
     clear qa qb qc qd qe qf qg qh qk qw HT6 HT11 HT25 HBE
     obtain ⟨ue1,ue2⟩:=ue
     have hwc:IntKind.i64.wrap (4294967295 - e)=4294967295 - e:=w63 _ (by omega) (by omega)
     have HCH:Hid (bits .xor .i64 (bits .and .i64 e f) (bits .and .i64 (4294967295 - e) g)=cho ⟨a,b,c,d,e,f,g,h⟩):=by
      show bits _ _ _ _=_
      rw [JaO ⟨ue1,ue2⟩ uf,JaO ⟨by omega,by omega⟩ ug,Yk (Xa _ _ _) (Xa _ _ _)]
      rfl
     have HUC:Hid (U32 (cho ⟨a,b,c,d,e,f,g,h⟩)):=Xa _ _ _
     generalize cho ⟨a,b,c,d,e,f,g,h⟩=C at *
     obtain ⟨⟨qa,qb,qc,qd⟩,⟨qe,qf,qg,qh⟩,qk,qw⟩:=HV.o wA HTA.o
     go_upto_region 14 with fail
     go_cut [11] (λv wx=>v=.int .i64 C/\Hid (Tch NoB wr wx))
     case first=>
      go_region_held3 (λV=>V.cell? ⟨gv,4,none⟩=some (.int .i64 e)/\V.cell? ⟨gv,5,none⟩=some (.int .i64 f)/\V.cell? ⟨gv,6,none⟩=some (.int .i64 g)) (go_keep) (fail)
      all_goals
       go_wp2
       go_meet
       exact ⟨by first | rw [<-HCH.o] | (rw [<-HCH.o];rfl),HTA.o.go (Td NoB wA 1)⟩
     case rest=>
     obtain ⟨rfl,HTB⟩:=hcut
     obtain ⟨wB,hwB⟩:∃wB,wB=wc:=⟨wc,rfl⟩
     subst hwB
     clear qa qb qc qd qe qf qg qh qk qw HCH hwc
     obtain ⟨uC1,uC2⟩:=HUC.o
     obtain ⟨⟨uE1,uE2⟩,⟨uA1,uA2⟩⟩:=HUE.o
     obtain ⟨uh1,uh2⟩:=uh
     obtain ⟨uk1,uk2⟩:=HUK
     obtain ⟨uw1,uw2⟩:=HUW
     have w1:IntKind.i64.wrap (h+E)=h+E:=w63 _ (by omega) (by omega)
     have w2:IntKind.i64.wrap (h+E+C)=h+E+C:=w63 _ (by omega) (by omega)
     have w3:IntKind.i64.wrap (h+E+C+kk)=h+E+C+kk:=w63 _ (by omega) (by omega)
     have w4:IntKind.i64.wrap (h+E+C+kk+ww)=h+E+C+kk+ww:=w63 _ (by omega) (by omega)
     obtain ⟨t,ht⟩:∃t,(h+E+C+kk+ww) % 4294967296=t:=⟨_,rfl⟩
     rw [ht] at HST
     have HTM:Hid (Int.tmod (h+E+C+kk+ww) 4294967296=t/\0<=t/\t<4294967296):=by
      refine ⟨by rw [Int.tmod_eq_emod_of_nonneg (by omega)];exact ht,by omega,by omega⟩
     clear ht
     obtain ⟨⟨qa,qb,qc,qd⟩,⟨qe,qf,qg,qh⟩,qk,qw⟩:=HV.o wB HTB.o
     go_upto_region 15 with fail
     go_cut [12] (λv wx=>v=.int .i64 t/\Hid (Tch NoB wr wx))
     case first=>
      go_region_held3 (λV=>V.cell? ⟨gv,7,none⟩=some (.int .i64 h)/\V.cell? ⟨gk,i,none⟩=some (.int .i64 kk)/\V.cell? ⟨gw,i,none⟩=some (.int .i64 ww)) (go_keep) (fail)
      all_goals
       go_wp2
       go_meet
       exact ⟨by first | rw [<-HTM.o.1] | (rw [<-HTM.o.1];rfl),HTB.o.go (Td NoB wB 1)⟩
     case rest=>
     obtain ⟨rfl,HTC⟩:=hcut
     obtain ⟨wC,hwC⟩:∃wC,wC=wc:=⟨wc,rfl⟩
     subst hwC
     clear qa qb qc qd qe qf qg qh qk qw w1 w2 w3 w4 HTB HTA
     obtain ⟨⟨qa,qb,qc,qd⟩,⟨qe,qf,qg,qh⟩,qk,qw⟩:=HV.o wC HTC.o
     go_upto_region 16 with fail
     go_cut [13] (λv wx=>v=.int .i64 A/\Hid (Tch NoB wr wx))
     case first=>
      go_region_held3 (λV=>V.cell? ⟨gv,0,none⟩=some (.int .i64 a)) (go_keep) ((first
       | (go_at_call_of 252 (Value.int .i64 2);refine (HT2.o _).mono ?_;rintro _ wa ⟨rfl,hta⟩;have HTa:Hid (Tch NoB wr wa):=(HTC.o.go (Td NoB wC 1)).go hta;have f15:=(HV.o _ HTa.o).1.1;clear hta)
       | (go_at_call_of 252 (Value.int .i64 13);refine (HT13.o _).mono ?_;rintro _ wb ⟨rfl,htb⟩;have HTb:Hid (Tch NoB wr wb):=HTa.o.go htb;have g15:=(HV.o _ HTb.o).1.1;clear htb)
       | (go_at_call_of 252 (Value.int .i64 22);refine (HT22.o _).mono ?_;rintro _ wd ⟨rfl,htd⟩;have HTd:Hid (Tch NoB wr wd):=HTb.o.go htd;have h15:=(HV.o _ HTd.o).1.1;clear htd)))
      all_goals
       go_wp2
       go_meet
       exact ⟨by first | rw [<-HBA.o] | (rw [<-HBA.o];rfl),HTd⟩
     case rest=>
     obtain ⟨rfl,HTD⟩:=hcut
     obtain ⟨wD,hwD⟩:∃wD,wD=wc:=⟨wc,rfl⟩
     subst hwD
     clear qa qb qc qd qe qf qg qh qk qw HTC HT2 HT13 HT22 HBA
     obtain ⟨⟨qa,qb,qc,qd⟩,⟨qe,qf,qg,qh⟩,qk,qw⟩:=HV.o wD HTD.o
     go_upto_region 17 with fail
     go_cut [14] (λv wx=>v=.int .i64 M/\Hid (Tch NoB wr wx))
     case first=>
      go_region_held3 (λV=>V.cell? ⟨gv,0,none⟩=some (.int .i64 a)/\V.cell? ⟨gv,1,none⟩=some (.int .i64 b)/\V.cell? ⟨gv,2,none⟩=some (.int .i64 c)) (go_keep) (fail)
      all_goals
       go_wp2
       go_meet
       exact ⟨by first | rw [<-HMJ.o.1] | (rw [<-HMJ.o.1];rfl),HTD.o.go (Td NoB wD 1)⟩
     case rest=>
     obtain ⟨rfl,HTE⟩:=hcut
     obtain ⟨wE,hwE⟩:∃wE,wE=wc:=⟨wc,rfl⟩
     subst hwE
     clear qa qb qc qd qe qf qg qh qk qw HTD
     have HR0:Hid (wE.heap[gv]? =some (.cells (shA ⟨a,b,c,d,e,f,g,h⟩ 0) 3)):=(HCE.o wE HTE.o).1
     go_upto_region 18 with fail
     go_wp2
     go_loopw [15] (λv15 wy=>∃m:Nat,m<=7/\v15=.int .i64 (7 - (m:Int))/\Hid (wy.heap[gv]? =some (.cells (shA ⟨a,b,c,d,e,f,g,h⟩ m) 3))/\Hid (Tch (λx=>x=gv) wr wy)) (λv15 _=>(intOf v15).toNat)
     case atStart=>exact ⟨0,by omega,rfl,HR0,HTE.o.mono noE⟩
     case round=>
      clear HTE HR0 HV HCE
      obtain ⟨m,hm,rfl,HRJ,HTJ⟩:=hrel
      by_cases hlt:m<7
      ·have hm':m=0\/m=1\/m=2\/m=3\/m=4\/m=5\/m=6:=by omega
       rcases hm' with rfl | rfl | rfl | rfl | rfl | rfl | rfl
       ·have hrow:=HRJ.o
        have q:wr.cell? ⟨gv,6,none⟩=some (.int .i64 g):=Ja hrow
        have q':wr.cell? ⟨gv,7,none⟩=some (.int .i64 h):=Ja hrow
        have z:wr.frozen? ⟨gv,7,none⟩=false:=by simp [World.frozen?,hrow]
        have HS1:Hid (wr.setCell ⟨gv,7,none⟩ (.int .i64 g)=wr.setRow gv (shA ⟨a,b,c,d,e,f,g,h⟩ 1)):=Qj wr gv 7 _ _ _ _ hrow
        clear hrow
        go_wp2
        go_roundw
        case rel=>exact ⟨1,by omega,rfl,by rw [HS1.o];exact Qi _ _ _ _ _ _ HRJ.o,by rw [HS1.o];exact HTJ.o.trans (Ts _ _ _) (λ_ h=>.inl h)⟩
        case measure=>simp [intOf]
       ·have hrow:=HRJ.o
        have q:wr.cell? ⟨gv,5,none⟩=some (.int .i64 f):=Ja hrow
        have q':wr.cell? ⟨gv,6,none⟩=some (.int .i64 g):=Ja hrow
        have z:wr.frozen? ⟨gv,6,none⟩=false:=by simp [World.frozen?,hrow]
        have HS1:Hid (wr.setCell ⟨gv,6,none⟩ (.int .i64 f)=wr.setRow gv (shA ⟨a,b,c,d,e,f,g,h⟩ 2)):=Qj wr gv 6 _ _ _ _ hrow
        clear hrow
        go_wp2
        go_roundw
        case rel=>exact ⟨2,by omega,rfl,by rw [HS1.o];exact Qi _ _ _ _ _ _ HRJ.o,by rw [HS1.o];exact HTJ.o.trans (Ts _ _ _) (λ_ h=>.inl h)⟩
        case measure=>simp [intOf]
       ·have hrow:=HRJ.o
        have q:wr.cell? ⟨gv,4,none⟩=some (.int .i64 e):=Ja hrow
        have q':wr.cell? ⟨gv,5,none⟩=some (.int .i64 f):=Ja hrow
        have z:wr.frozen? ⟨gv,5,none⟩=false:=by simp [World.frozen?,hrow]
        have HS1:Hid (wr.setCell ⟨gv,5,none⟩ (.int .i64 e)=wr.setRow gv (shA ⟨a,b,c,d,e,f,g,h⟩ 3)):=Qj wr gv 5 _ _ _ _ hrow
        clear hrow
        go_wp2
        go_roundw
        case rel=>exact ⟨3,by omega,rfl,by rw [HS1.o];exact Qi _ _ _ _ _ _ HRJ.o,by rw [HS1.o];exact HTJ.o.trans (Ts _ _ _) (λ_ h=>.inl h)⟩
        case measure=>simp [intOf]
       ·have hrow:=HRJ.o
        have q:wr.cell? ⟨gv,3,none⟩=some (.int .i64 d):=Ja hrow
        have q':wr.cell? ⟨gv,4,none⟩=some (.int .i64 e):=Ja hrow
        have z:wr.frozen? ⟨gv,4,none⟩=false:=by simp [World.frozen?,hrow]
        have HS1:Hid (wr.setCell ⟨gv,4,none⟩ (.int .i64 d)=wr.setRow gv (shA ⟨a,b,c,d,e,f,g,h⟩ 4)):=Qj wr gv 4 _ _ _ _ hrow
        clear hrow
        go_wp2
        go_roundw
        case rel=>exact ⟨4,by omega,rfl,by rw [HS1.o];exact Qi _ _ _ _ _ _ HRJ.o,by rw [HS1.o];exact HTJ.o.trans (Ts _ _ _) (λ_ h=>.inl h)⟩
        case measure=>simp [intOf]
       ·have hrow:=HRJ.o
        have q:wr.cell? ⟨gv,2,none⟩=some (.int .i64 c):=Ja hrow
        have q':wr.cell? ⟨gv,3,none⟩=some (.int .i64 d):=Ja hrow
        have z:wr.frozen? ⟨gv,3,none⟩=false:=by simp [World.frozen?,hrow]
        have HS1:Hid (wr.setCell ⟨gv,3,none⟩ (.int .i64 c)=wr.setRow gv (shA ⟨a,b,c,d,e,f,g,h⟩ 5)):=Qj wr gv 3 _ _ _ _ hrow
        clear hrow
        go_wp2
        go_roundw
        case rel=>exact ⟨5,by omega,rfl,by rw [HS1.o];exact Qi _ _ _ _ _ _ HRJ.o,by rw [HS1.o];exact HTJ.o.trans (Ts _ _ _) (λ_ h=>.inl h)⟩
        case measure=>simp [intOf]
       ·have hrow:=HRJ.o
        have q:wr.cell? ⟨gv,1,none⟩=some (.int .i64 b):=Ja hrow
        have q':wr.cell? ⟨gv,2,none⟩=some (.int .i64 c):=Ja hrow
        have z:wr.frozen? ⟨gv,2,none⟩=false:=by simp [World.frozen?,hrow]
        have HS1:Hid (wr.setCell ⟨gv,2,none⟩ (.int .i64 b)=wr.setRow gv (shA ⟨a,b,c,d,e,f,g,h⟩ 6)):=Qj wr gv 2 _ _ _ _ hrow
        clear hrow
        go_wp2
        go_roundw
        case rel=>exact ⟨6,by omega,rfl,by rw [HS1.o];exact Qi _ _ _ _ _ _ HRJ.o,by rw [HS1.o];exact HTJ.o.trans (Ts _ _ _) (λ_ h=>.inl h)⟩
        case measure=>simp [intOf]
       ·have hrow:=HRJ.o
        have q:wr.cell? ⟨gv,0,none⟩=some (.int .i64 a):=Ja hrow
        have q':wr.cell? ⟨gv,1,none⟩=some (.int .i64 b):=Ja hrow
        have z:wr.frozen? ⟨gv,1,none⟩=false:=by simp [World.frozen?,hrow]
        have HS1:Hid (wr.setCell ⟨gv,1,none⟩ (.int .i64 a)=wr.setRow gv (shA ⟨a,b,c,d,e,f,g,h⟩ 7)):=Qj wr gv 1 _ _ _ _ hrow
        clear hrow
        go_wp2
        go_roundw
        case rel=>exact ⟨7,by omega,rfl,by rw [HS1.o];exact Qi _ _ _ _ _ _ HRJ.o,by rw [HS1.o];exact HTJ.o.trans (Ts _ _ _) (λ_ h=>.inl h)⟩
        case measure=>simp [intOf]
      ·obtain rfl:m=7:=by omega
       have hrow:=HRJ.o
       have q4:wr.cell? ⟨gv,4,none⟩=some (.int .i64 d):=Ja hrow
       have z4:wr.frozen? ⟨gv,4,none⟩=false:=by simp [World.frozen?,hrow]
       obtain ⟨ud1,ud2⟩:=ud
       obtain ⟨_,ut1,ut2⟩:=HTM.o
       obtain ⟨uM1,uM2⟩:=HMJ.o.2
       have w1:IntKind.i64.wrap (d+t)=d+t:=w63 _ (by omega) (by omega)
       have w2:IntKind.i64.wrap (t+A)=t+A:=w63 _ (by omega) (by omega)
       have w3:IntKind.i64.wrap (t+A+M)=t+A+M:=w63 _ (by omega) (by omega)
       obtain ⟨wF,hwF⟩:∃wF,wF=wr.setRow gv #[.int .i64 a,.int .i64 a,.int .i64 b,.int .i64 c,.int .i64 ((d+t) % 4294967296),.int .i64 e,.int .i64 f,.int .i64 g]:=⟨_,rfl⟩
       have HS4:Hid (wr.setCell ⟨gv,4,none⟩ (.int .i64 ((d+t) % 4294967296))=wF):=by rw [hwF];exact Qj wr gv 4 _ _ _ _ hrow
       have hrowF:wF.heap[gv]? =some (.cells #[.int .i64 a,.int .i64 a,.int .i64 b,.int .i64 c,.int .i64 ((d+t) % 4294967296),.int .i64 e,.int .i64 f,.int .i64 g] 3):=by rw [hwF];exact Qi _ _ _ _ _ _ hrow
       have HTF:Hid (Tch (λx=>x=gv) W5 wF):=by rw [hwF];exact (HTI.o.trans HTJ.o (λ_ h=>.inl h)).trans (Ts _ _ _) (λ_ h=>.inl h)
       have hz:z8 (rs ws S (i+1))= #[.int .i64 ((t+A+M) % 4294967296),.int .i64 a,.int .i64 b,.int .i64 c,.int .i64 ((d+t) % 4294967296),.int .i64 e,.int .i64 f,.int .i64 g]:=by
        rw [HST.o]
        rfl
       have HS0:Hid (wF.setCell ⟨gv,0,none⟩ (.int .i64 ((t+A+M) % 4294967296))=wF.setRow gv (z8 (rs ws S (i+1)))):=by rw [hz];exact Qj wF gv 0 _ _ _ _ hrowF
       have q0:wF.cell? ⟨gv,0,none⟩=some (.int .i64 a):=Ja hrowF
       have z0:wF.frozen? ⟨gv,0,none⟩=false:=by simp [World.frozen?,hrowF]
       have HRF:Hid (_=_):=hrowF
       clear hwF hz hrow hrowF
       go_upto_region 23 with fail
       rw [HS4.o]
       go_wp2
       go_roundw
       case rel=>exact ⟨i+1,by omega,by go_num,by rw [HS0.o];exact Qi _ _ _ _ _ _ HRF.o,by rw [HS0.o];exact HTF.o.trans (Ts _ _ _) (λ_ h=>.inl h)⟩
       case measure=>simp [intOf];omega
    ·obtain rfl:i=64:=by omega
     have HR0:Hid (wr.heap[gh]? =some (.cells (adA S (rs ws S 64) 0) 3)):=(HTI.o.block gh (Jb HR5.o) HAP.o.1).trans HR5.o
     have HUT:Hid ((rs ws S 64).U):=S8.U.rs HUS.o ws 64
     have HE8:Hid (adA S (rs ws S 64) 8=z8 (addS S (rs ws S 64))):=rfl
     clear HWU
     go_upto_region 24 with fail
     go_wp2
     go_loopw [16] (λv16 wy=>∃m:Nat,m<=8/\v16=.int .i64 (m:Int)/\Hid (wy.heap[gh]? =some (.cells (adA S (rs ws S 64) m) 3))/\Hid (Tch (λx=>x=gh) wr wy)) (λv16 _=>8 - (intOf v16).toNat)
     case atStart=>exact ⟨0,by omega,rfl,HR0,Te _ _⟩
     case round=>
      clear HR0
      obtain ⟨m,hm,rfl,HRJ,HTJ⟩:=hrel
      rename_i wq _
      by_cases hlt:m<8
      ·have hrv:=(HTJ.o.block gv (Jb HRI.o) (λe=>HAP.o.1 e.symm)).trans HRI.o
       have hrow:=HRJ.o
       obtain ⟨g1,g2⟩:=Jkj S (rs ws S 64) m hlt
       have hli:(m:Int)<8:=by omega
       obtain ⟨ux,ux'⟩:U32 (S.list.getD m 0)/\U32 ((rs ws S 64).list.getD m 0):=⟨HUS.o.get m hlt,HUT.o.get m hlt⟩
       have q:wr.cell? ⟨gh,m,none⟩=some (.int .i64 (S.list.getD m 0)):=(Ja hrow).trans g1
       have q':wr.cell? ⟨gv,m,none⟩=some (.int .i64 ((rs ws S 64).list.getD m 0)):=(Ja hrv).trans (Jkh _ m hlt)
       have z:wr.frozen? ⟨gh,m,none⟩=false:=by simp [World.frozen?,hrow]
       have HS1:Hid (wr.setCell ⟨gh,m,none⟩ (.int .i64 ((S.list.getD m 0+(rs ws S 64).list.getD m 0) % 4294967296))=wr.setRow gh (adA S (rs ws S 64) (m+1))):=by
        rw [<-g2]
        exact Qj wr gh m _ _ _ _ hrow
       clear hrow hrv g1 g2
       generalize S.list.getD m 0=x at *
       generalize (rs ws S 64).list.getD m 0=x' at *
       obtain ⟨ux1,ux2⟩:=ux
       obtain ⟨uy1,uy2⟩:=ux'
       have w1:IntKind.i64.wrap (x+x')=x+x':=w63 _ (by omega) (by omega)
       have w2:0<=x+x':=by omega
       go_upto_region 27 with fail
       refine Xd (S:=λV=>V.cell? ⟨gh,m,none⟩=some (.int .i64 x)/\V.cell? ⟨gv,m,none⟩=some (.int .i64 x')) 20 (by simp) (by kernel_rfl) (by kernel_rfl) ⟨q,q'⟩ ?_
       intro hHeld l o hl ho
       simp only [List.dropLast_cons_cons,List.dropLast_singleton] at hl
       simp only [List.getLast_cons_cons,List.getLast_singleton] at ho
       subst hl
       subst ho
       simp only [Qp,Qv,Nat.reduceAdd]
       refine Ji (i:=0) (v:=?vc0) rfl (by kernel_rfl) (by kernel_rfl) (by kernel_rfl) (λ_ _ _ h=>h) rfl ?hc0 (by assumption) ?rc0
       case hc0=>(intro W hSW;(try dsimp only at hSW);go_simp;(try with_reducible rfl))
       simp only [Act.put,Qa,Qb,Qc]
       refine Ji (i:=1) (v:=?vc1) rfl (by kernel_rfl) (by kernel_rfl) (by kernel_rfl) (λ_ _ _ h=>h) rfl ?hc1 (by assumption) ?rc1
       case hc1=>(intro W hSW;(try dsimp only at hSW);go_simp;(try with_reducible rfl))
       simp only [Act.put,Qa,Qb,Qc]
       refine Ji (i:=2) (v:=?vc2) rfl (by kernel_rfl) (by kernel_rfl) (by kernel_rfl) (λ_ _ _ h=>h) rfl ?hc2 (by assumption) ?rc2
       case hc2=>(intro W hSW;(try dsimp only at hSW);go_simp;(try with_reducible rfl))
       simp only [Act.put,Qa,Qb,Qc]
       refine Ji (i:=3) (v:=?vc3) rfl (by kernel_rfl) (by kernel_rfl) (by kernel_rfl) (λ_ _ _ h=>h) rfl ?hc3 (by assumption) ?rc3
       case hc3=>(intro W hSW;(try dsimp only at hSW);go_simp;(try with_reducible rfl))
       simp only [Act.put,Qa,Qb,Qc]
       refine Ji (i:=4) (v:=?vc4) rfl (by kernel_rfl) (by kernel_rfl) (by kernel_rfl) (λ_ _ _ h=>h) rfl ?hc4 (by assumption) ?rc4
       case hc4=>(intro W hSW;(try dsimp only at hSW);go_simp;(try with_reducible rfl))
       simp only [Act.put,Qa,Qb,Qc]
       refine Ji (i:=5) (v:=?vc5) rfl (by kernel_rfl) (by kernel_rfl) (by kernel_rfl) (λ_ _ _ h=>h) rfl ?hc5 (by assumption) ?rc5
       case hc5=>(intro W hSW;(try dsimp only at hSW);go_simp;(try with_reducible rfl))
       simp only [Act.put,Qa,Qb,Qc]
       refine Ji (i:=6) (v:=?vc6) rfl (by kernel_rfl) (by kernel_rfl) (by kernel_rfl) (λ_ _ _ h=>h) rfl ?hc6 (by assumption) ?rc6
       case hc6=>(intro W hSW;(try dsimp only at hSW);go_simp;(try with_reducible rfl))
       simp only [Act.put,Qa,Qb,Qc]
       refine Ji (i:=7) (v:=?vc7) rfl (by kernel_rfl) (by kernel_rfl) (by kernel_rfl) (λ_ _ _ h=>h) rfl ?hc7 (by assumption) ?rc7
       case hc7=>(intro W hSW;(try dsimp only at hSW);go_simp;(try with_reducible rfl))
       simp only [Act.put,Qa,Qb,Qc]
       refine Ji (i:=8) (v:=?vc8) rfl (by kernel_rfl) (by kernel_rfl) (by kernel_rfl) (λ_ _ _ h=>h) rfl ?hc8 (by assumption) ?rc8
       case hc8=>(intro W hSW;(try dsimp only at hSW);go_simp;(try with_reducible rfl))
       simp only [Act.put,Qa,Qb,Qc]
       refine Ji (i:=9) (v:=?vc9) rfl (by kernel_rfl) (by kernel_rfl) (by kernel_rfl) (λ_ _ _ h=>h) rfl ?hc9 (by assumption) ?rc9
       case hc9=>(intro W hSW;(try dsimp only at hSW);go_simp;(try with_reducible rfl))
       simp only [Act.put,Qa,Qb,Qc]
       refine Ji (i:=10) (v:=?vc10) rfl (by kernel_rfl) (by kernel_rfl) (by kernel_rfl) (λ_ _ _ h=>h) rfl ?hc10 (by assumption) ?rc10
       case hc10=>(intro W hSW;(try dsimp only at hSW);go_simp;(try with_reducible rfl))
       simp only [Act.put,Qa,Qb,Qc]
       refine Ji (i:=11) (v:=?vc11) rfl (by kernel_rfl) (by kernel_rfl) (by kernel_rfl) (λ_ _ _ h=>h) rfl ?hc11 (by assumption) ?rc11
       case hc11=>(intro W hSW;(try dsimp only at hSW);go_simp;(try with_reducible rfl))
       simp only [Act.put,Qa,Qb,Qc]
       refine Ji (i:=12) (v:=?vc12) rfl (by kernel_rfl) (by kernel_rfl) (by kernel_rfl) (λ_ _ _ h=>h) rfl ?hc12 (by assumption) ?rc12
       case hc12=>(intro W hSW;(try dsimp only at hSW);go_simp;(try with_reducible rfl))
       simp only [Act.put,Qa,Qb,Qc]
       refine wpAnyH_done (by kernel_rfl) ?_ _
       show wpList _ _ _ [_] _ _
       go_wp2
       go_roundw
       case rel=>exact ⟨m+1,by omega,by go_num,by first | (rw [HS1.o];exact Qi _ _ _ _ _ _ HRJ.o) | (have h5:=HS1.o;rw [<-Int.tmod_eq_emod_of_nonneg w2] at h5;rw [h5];exact Qi _ _ _ _ _ _ HRJ.o),by first | (rw [HS1.o];exact (HTJ.o.trans (Ts _ _ _) (λ_ h=>.inl h)).trans (Td NoB _ 1) noE) | (have h5:=HS1.o;rw [<-Int.tmod_eq_emod_of_nonneg w2] at h5;rw [h5];exact (HTJ.o.trans (Ts _ _ _) (λ_ h=>.inl h)).trans (Td NoB _ 1) noE)⟩
       case measure=>simp [intOf];omega
      ·obtain rfl:m=8:=by omega
       go_wp2
       go_roundw
       case rel=>
        refine ⟨M+64,j+1,by have:=HM.o;show M+64=64 * (j+1);omega,hM64,by go_num,?_,?_⟩
        ·have:=HRJ.o
         rw [HE8.o,<-HFS.o] at this
         exact this
        ·refine ((HT.o.trans HT5.o noE).trans HTI.o (λx hx=>.inr (by have:=HGV.o;subst hx;omega))).trans HTJ.o (λx hx=>.inl hx)
       case measure=>simp [intOf];omega
  ·have hli:¬(M:Int)<(PT.size:Int):=by omega
   have HJ:Hid (j=PL.length / 64):=by
    have h1:=HM.o
    have h2:=HL64.o
    show j=PL.length / 64
    omega
   have HUS:Hid ((JL j H0 PL).U):=S8.U.of (Jbu j H0 PL JfI)
   have HDG2:Hid (DG=outL (JL j H0 PL) 8):=by
    show DG=_
    rw [HDG.o,HJ.o]
   have HTF:Hid (Tch NoB w wr):=HTW.o.trans HT.o (λx hx=>.inr (by have:=HB.o;subst hx;omega))
   clear HDG HJ
   generalize JL j H0 PL=S at *
   have HIN:Hid (∀(n:Nat) (V:World),Calls prog 171 #[.int .u64 (n:Int),.int .i64 4] V λe w'=>e=.returned (.string ⟨(beL n 4 4).toArray⟩)/\Tch NoB V w'):=λn V=>Ya n 4 V (by omega)
   go_wp2
   go_loopw [17,18] (λvo vi wy=>∃m:Nat,m<=8/\vi=.int .i64 (m:Int)/\vo=.string ⟨(outL S m).toArray⟩/\Hid (Tch NoB wr wy)) (λ_ vi _=>8 - (intOf vi).toNat)
   case atStart=>exact ⟨0,by omega,rfl,rfl,Te _ _⟩
   case round=>
    obtain ⟨m,hm,rfl,rfl,HTM⟩:=hrel
    rename_i wq _
    by_cases hlt:m<8
    ·have hli2:(m:Int)<8:=by omega
     have hrow:=(HTM.o.block gh (Jb HR.o) (λh=>h)).trans HR.o
     have q:=(Ja hrow).trans (Jkh S m hlt)
     obtain ⟨u1,u2⟩:=HUS.o.get m hlt
     have hos:=JhO S m hlt
     obtain ⟨n,hn⟩:∃n:Nat,S.list.getD m 0=(n:Int):=⟨(S.list.getD m 0).toNat,by omega⟩
     rw [hn] at q u1 u2 hos
     rw [Int.toNat_natCast] at hos
     have hwr:IntKind.u64.wrap (n:Int)=(n:Int):=by simp [IntKind.wrap,IntKind.bits,IntKind.signed];omega
     have hadd:=JZ (outL S m) (beL n 4 4) (by
      rw [Je]
      have:(outL S m).length<=1000:=Jji S m
      omega)
     rw [<-hos] at hadd
     have HIN2:Hid (∀V,Calls _ _ _ V _):=λV=>HIN.o n V
     clear hrow hn hos
     generalize hX1:outL S (m+1)=X1 at *
     generalize outL S m=X0 at *
     have HX1:Hid (_=X1):=hX1
     clear hX1
     generalize beL n 4 4=B4 at *
     go_wp2_with (go_at_call 171;refine (HIN2.o _).mono ?_;rintro _ w1 ⟨rfl,ht1⟩;have HT1:Hid (Tch _ wr w1):=ht1;clear ht1)
     go_roundw
     case rel=>exact ⟨m+1,by omega,by go_num,by rw [HX1.o],HTM.o.trans HT1.o noE⟩
     case measure=>simp [intOf];omega
    ·obtain rfl:m=8:=by omega
     go_wp2
     go_ret
     exact ⟨by rw [HDG2.o];rfl,HTF.o.trans HTM.o noE⟩
