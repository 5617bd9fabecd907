import Derived.Test.YtighkdnooglfjaaGreatDoorOcVfD
import Derived.Test.YtighkdnooglfjaaGreatDoorOcChO
namespace Go.Proofs.YtighkdnooglfjaaGreatDoor
open Go.Proofs.Tryz
set_option maxRecDepth 100000
set_option maxHeartbeats 2000000
open Go.RowKit

theorem WyAt.is {w:World} {B b:Nat} {g:Option Nat} {wy:Wy} {x:Option Addr×Nat×Nat} {m:Bool} {k:BA} {a o:Nat} (h:WyAt w B b g wy x m k a o):VAt w.heap.size w (.slice x.1 x.2.1 x.2.2) (wy.1.map encS)/\m=wy.2.isSome/\k=wyK wy/\a=(wyO wy).1/\o=(wyO wy).2:=by
 rcases h with ⟨rfl,rfl,rfl,rfl,rfl,rfl⟩ | ⟨gp,rfl,_,_,_,hrow,rfl,he⟩
 ·exact ⟨.inl ⟨rfl,rfl⟩,rfl,rfl,rfl,rfl⟩
 ·have hlt:=(Jb hrow)
  refine ⟨.inr ⟨gp,0,_,by rw [QL],hlt,hlt,λi hi=>?_⟩,by rw [he];rfl,?_,?_,?_⟩
  ·obtain ⟨e0,e1⟩:=Yj (wy.1.map encS) i hi
   simp only [Nat.zero_add]
   exact ⟨(Ja hrow).trans e0,(Ja hrow).trans e1⟩
  ·unfold wyK;rw [he]
  ·unfold wyO;rw [he]
  ·unfold wyO;rw [he]
theorem JiB (r:Option (Nat×Nat)):∃(x:Int) (y z:Nat),YN r=.agg #[.int .i64 x,.int .u64 (y:Int),.int .u8 (z:Int)]/\((r=none/\x=2/\y=0/\z=0)\/(r=some (y,z)/\x=1)):=by
 cases r with
 | none=>exact ⟨2,0,0,rfl,.inl ⟨rfl,rfl,rfl,rfl⟩⟩
 | some o=>exact ⟨1,o.1,o.2,rfl,.inr ⟨rfl,rfl⟩⟩
theorem Jjy (E:Nat->Addr) (wd:Nat) (hw1:1<=wd) (hw:wd<=32) (state:BA) (key:Key) (hk:key.length=wd+1) (wy:Wy) (hok:WyOk wd wy) (hbits:∀s∈wy.1,bt key s.1=bt (XK wy) s.1) (hroot:dgW wd ((wy.nodes (dgW wd)).headD [])=state) (w:World) (hE:Env E w):
  Calls prog 144 #[qV wd state ⟨key.toArray⟩,.string ⟨(wayB wy).toArray⟩] w λe w'=>Tch NoB w w'/\∃(x:Int) (y z:Nat) (ga:Option Addr) (gl gc:Nat),YN (if wy.2.isSome=true/\wyK wy=⟨key.toArray⟩ then some (wyO wy) else none)=.agg #[.int .i64 x,.int .u64 (y:Int),.int .u8 (z:Int)]/\e=.returned (.tuple #[.agg #[.int .i64 x,.int .u64 (y:Int),.int .u8 (z:Int),.slice ga gl gc],.nilIface]):=by
 have hsz:=hE.size
 have hwl:=Jf3 hok
 have hmul:8 * (wd+1) * (2+wd)<=264 * 34:=Nat.mul_le_mul (by omega) (by omega)
 have HWAY:Hid (∀W b,Tch NoB w W->18<=b->Jc W b none (wd:Int) .nilIface (.rd [] (wayB wy))->Calls prog 146 #[.pointer (some ⟨b,0,none⟩),.agg #[.slice none 0 0,.bool false,.string ⟨#[]⟩,.int .u64 0,.int .u8 0]] W λe w'=>∃v1 v2 v3 g',e=.returned (wV v1 v2 v3 wy.2.isSome (wyK wy) (wyO wy).1 (wyO wy).2)/\VAt w'.heap.size w' (.slice v1 v2 v3) (wy.1.map encS)/\Jc w' b g' (wd:Int) .nilIface (.rd (wayB wy) [])/\Tch (λk=>k=b) W w'):=λW b hT hb hp=>by
  refine (JkO E b hb none wd hw none 0 0 [] false ⟨#[]⟩ 0 0 (by decide) (.rd [] (wayB wy)) W (hE.tch hT noE) hp (.inl ⟨rfl,rfl⟩) (JbQ.nil _ _) (by simp) (by simp) (by simp [PS.takes]) (by simp only [PS.len,Qv];omega)).mono ?_
  rintro e w' ⟨x1,x2,x3,m,k,a,o,g',rfl,h1,_,h3,h4⟩
  rw [JmU (by omega) hok] at h1 h4
  obtain ⟨i1,rfl,rfl,rfl,rfl⟩:=(h4 wy _ rfl).is
  exact ⟨x1,x2,x3,g',rfl,i1,h1,h3.mono (λj hj=>.inl (by rcases hj with h | h;exact h;cases h))⟩
 have HCB:Hid (∀W v1 v2 v3,Tch NoB w W->VAt W.heap.size W (.slice v1 v2 v3) (wy.1.map encS)->Calls prog 213 #[qV wd state ⟨key.toArray⟩,wV v1 v2 v3 wy.2.isSome (wyK wy) (wyO wy).1 (wyO wy).2] W λe w'=>Tch NoB W w'/\e=.returned .nilIface):=λW v1 v2 v3 hT hv=>by
  refine (Jdg E wd hw state key hk wy hok v1 v2 v3 _ _ _ W (hE.tch hT noE) hv (λ⟨s,hs,h⟩=>absurd (hbits s hs) h)).mono ?_
  rintro e w' ⟨ht,⟨_,rfl⟩ | ⟨⟨s,hs,h⟩,_⟩⟩
  ·exact ⟨ht,rfl⟩
  ·exact absurd (hbits s hs) h
 have hnl:(wy.nodes (dgW wd)).length=wy.1.length+1:=by simp [Wy.nodes,Yz]
 obtain ⟨t0,hh0,ht0⟩:∃t0,(wy.nodes (dgW wd))[0]? =some t0/\(wy.nodes (dgW wd)).headD []=t0:=by
  cases hn:wy.nodes (dgW wd) with
  | nil=>rw [hn] at hnl;simp at hnl
  | cons a l=>exact ⟨a,rfl,rfl⟩
 have ht0l:t0.length<=1000:=by
  have h1:=JaN (dgW wd) (XK wy) (Yf wy.2) wy.1 0 (Nat.zero_le _)
  have h2:(wy.nodes (dgW wd))[0]? =some (Zm (dgW wd) (XK wy) (Yf wy.2) wy.1 0):=h1
  rw [hh0] at h2
  cases h2
  exact JdW wd hw _ _ (JbT hw hok) _ hok.steps 0 (Nat.zero_le _)
 rw [ht0] at hroot
 have HND:Hid (∀W v1 v2 v3,Tch NoB w W->VAt W.heap.size W (.slice v1 v2 v3) (wy.1.map encS)->Calls prog 214 #[qV wd state ⟨key.toArray⟩,wV v1 v2 v3 wy.2.isSome (wyK wy) (wyO wy).1 (wyO wy).2] W λe w'=>Tch NoB W w'/\∃(g n cap:Nat),e=.returned (.tuple #[.slice (some ⟨g,0,none⟩) (n+1) cap,.nilIface])/\w'.cell? ⟨g,0,none⟩=some (.string ⟨t0.toArray⟩)/\n<=1000):=λW v1 v2 v3 hT hv=>by
  refine (callsIn_wide.1 (Jj9 E wd hw1 hw state _ v1 v2 v3 wy hok W (hE.tch hT noE) hv)).mono ?_
  rintro e w' ⟨g,cap,rfl,_,_,hc,hB⟩
  refine ⟨(Tch.of_below hB).mono (λ_ hj=>.inr hj),g,wy.1.length,cap,by rw [hnl],?_,by have:=hok.len;omega⟩
  have h0:=hc 0 (by omega)
  rw [h0]
  have:(wy.nodes (dgW wd))[0]'(by omega)=t0:=by
   have:=Qd (l:=wy.nodes (dgW wd)) (i:=0) (by omega)
   rw [hh0] at this
   exact (Option.some.inj this).symm
  rw [this]
 have HOF:Hid (∀W,Tch NoB w W->Calls prog 130 #[.int .i64 (wd:Int),.string ⟨t0.toArray⟩] W λe w'=>e=.returned (.string state)/\Tch NoB W w'):=λW hT=>by
  have:=ZQ E wd ⟨t0.toArray⟩ W (hE.tch hT noE) hw1 hw (by rw [Ju];omega)
  rw [JgY,hroot] at this
  exact this
 have HSB:Hid (∀W v1 v2 v3,Calls prog 215 #[qV wd state ⟨key.toArray⟩,wV v1 v2 v3 wy.2.isSome (wyK wy) (wyO wy).1 (wyO wy).2] W _):=λW v1 v2 v3=>JgH wd state ⟨key.toArray⟩ v1 v2 v3 _ _ _ _ W
 have HDN:Hid (∀W b g',Jc W b g' (wd:Int) .nilIface (.rd (wayB wy) [])->Calls prog 88 #[.pointer (some ⟨b,0,none⟩)] W λe w'=>e=.returned .nilIface/\Tch NoB W w'):=λW b g' hp=>by
  obtain rfl:g'=none:=hp.1
  exact Jan b (wd:Int) (wayB wy) W hp
 have hee:(((wyO wy).1,(wyO wy).2):Nat×Nat)=wyO wy:=rfl
 rw [hee] at HSB
 generalize (if wy.2.isSome=true/\wyK wy=⟨key.toArray⟩ then some (wyO wy) else none)=r at *
 obtain ⟨x,y,z,hsv,_⟩:=JiB r
 rw [hsv] at HSB
 have HSV:Hid _:=hsv
 have HSZ:Hid (18<=w.heap.size):=hsz
 clear hE hok hbits hroot hwl hmul hnl hh0 ht0 ht0l hsv hee
 generalize (⟨key.toArray⟩:BA)=kb at *
 generalize hwb:wayB wy=wb at *
 generalize wyK wy=wk at *
 generalize wy.2.isSome=mm at *
 generalize (wyO wy).1=oa at *
 generalize (wyO wy).2=oo at *
 generalize (⟨t0.toArray⟩:BA)=tb at *
 obtain ⟨W,hW⟩:∃W,W=(w.alloc (.cells #[.int .i64 (wd:Int),.string state,.string kb] 248)).alloc (.cells #[.int .i64 0,.int .u64 0,.int .u8 0,.slice none 0 0] 252):=⟨_,rfl⟩
 have tA:Tch NoB w W:=by rw [hW];exact Tch.allocs _ _ _ _
 have hr0:W.heap[w.heap.size]? =some (.cells #[.int .i64 (wd:Int),.string state,.string kb] 248):=by rw [hW];exact heap_alloc2_old _ _ _
 have hr1:W.heap[w.heap.size+1]? =some (.cells #[.int .i64 0,.int .u64 0,.int .u8 0,.slice none 0 0] 252):=by rw [hW];exact heap_alloc2_new _ _ _
 have hWz:W.heap.size=w.heap.size+2:=by rw [hW];simp
 have HRR:Hid (∀V,Tch NoB W V->V.heap[w.heap.size]? =some (.cells #[.int .i64 (wd:Int),.string state,.string kb] 248)/\V.heap[w.heap.size+1]? =some (.cells #[.int .i64 0,.int .u64 0,.int .u8 0,.slice none 0 0] 252)):=λV hT=>⟨(hT.block _ (Jb hr0) (λh=>h)).trans hr0,(hT.block _ (Jb hr1) (λh=>h)).trans hr1⟩
 have HCC:Hid (∀V,Tch NoB W V->V.cell? ⟨w.heap.size,0,none⟩=some (.int .i64 (wd:Int))/\V.cell? ⟨w.heap.size,1,none⟩=some (.string state)/\V.cell? ⟨w.heap.size,2,none⟩=some (.string kb)):=λV hT=>⟨Ja (HRR.o V hT).1,Ja (HRR.o V hT).1,Ja (HRR.o V hT).1⟩
 have HA:Hid (Tch _ w W):=tA
 have HWZ:Hid (W.heap.size=w.heap.size+2):=hWz
 have HW:Hid (W=_):=hW
 obtain ⟨a0,a1,a2⟩:=HCC.o W (Te _ _)
 clear tA hr0 hr1 hWz hW hsz
 go_enter func144,ntmps144
 go_upto_region 1 with fail
 rw [<-HW.o]
 go_wp2_with fail
 refine (Xj _ _ _).mono ?_
 rintro _ w1 ⟨rfl,hp1,ht1⟩
 have HT1:Hid (Tch NoB W w1):=ht1
 have HP1:Hid (Jc w1 W.heap.size none (wd:Int) .nilIface (.rd [] wb)):=hp1
 clear ht1 hp1 a0 a1 a2
 go_wp2_with fail
 refine (HWAY.o w1 W.heap.size (HA.o.go HT1.o) (by have:=HSZ.o;have:=HWZ.o;omega) HP1.o).mono ?_
 rintro _ w2 ⟨v1,v2,v3,g',rfl,hv2,hp2,ht2⟩
 obtain ⟨W3,hW3⟩:∃W3,W3=w2.alloc (.cells #[.slice v1 v2 v3,.bool mm,.string wk,.int .u64 (oa:Int),.int .u8 (oo:Int)] 258):=⟨_,rfl⟩
 have t3:Tch NoB w2 W3:=by rw [hW3];exact Ta _ _ _
 have hT3:Tch NoB W W3:=(HT1.o.trans ht2 (λj hj=>.inr (Nat.le_of_eq hj.symm))).go t3
 have hr3:W3.heap[w2.heap.size]? =some (.cells #[.slice v1 v2 v3,.bool mm,.string wk,.int .u64 (oa:Int),.int .u8 (oo:Int)] 258):=by rw [hW3];exact Qf _ _
 have HWC:Hid (∀V,Tch NoB W3 V->V.cell? ⟨w2.heap.size,0,none⟩=some (.slice v1 v2 v3)/\V.cell? ⟨w2.heap.size,1,none⟩=some (.bool mm)/\V.cell? ⟨w2.heap.size,2,none⟩=some (.string wk)/\V.cell? ⟨w2.heap.size,3,none⟩=some (.int .u64 (oa:Int))/\V.cell? ⟨w2.heap.size,4,none⟩=some (.int .u8 (oo:Int))):=λV hT=>by
  have:=(hT.block _ (Jb hr3) (λh=>h)).trans hr3
  exact ⟨Ja this,Ja this,Ja this,Ja this,Ja this⟩
 have HT3:Hid _:=hT3
 have HP3:Hid (Jc W3 W.heap.size g' (wd:Int) .nilIface (.rd wb [])):=hp2.tch t3 (λh=>h) (λ_ _ h=>h)
 have HV3:Hid (VAt W3.heap.size W3 (.slice v1 v2 v3) (wy.1.map encS)):=(hv2.tch t3 noE).up t3.size
 have HW3:Hid (W3=_):=hW3
 clear hv2 hp2 ht2 t3 hT3 hr3 hW3 HWAY HP1 HT1
 go_upto_region 3 with fail
 rw [<-HW3.o]
 go_wp2_with fail
 refine (HDN.o W3 W.heap.size g' HP3.o).mono ?_
 rintro _ w4 ⟨rfl,ht4⟩
 have HT4:Hid _:=ht4
 obtain ⟨b0,b1,b2⟩:=HCC.o w4 (HT3.o.go ht4)
 obtain ⟨d0,d1,d2,d3,d4⟩:=HWC.o w4 ht4
 clear ht4 HDN HP3
 go_wp2_with fail
 refine (HCB.o w4 v1 v2 v3 (HA.o.go (HT3.o.go HT4.o)) ((HV3.o.tch HT4.o noE).up HT4.o.size)).mono ?_
 rintro _ w5 ⟨ht5,rfl⟩
 have HT5:Hid (Tch NoB W3 w5):=HT4.o.go ht5
 clear ht5 HT4 HCB b0 b1 b2 d0 d1 d2 d3 d4
 obtain ⟨b0,b1,b2⟩:=HCC.o w5 (HT3.o.go HT5.o)
 obtain ⟨d0,d1,d2,d3,d4⟩:=HWC.o w5 HT5.o
 go_wp2_with fail
 refine (HND.o w5 v1 v2 v3 (HA.o.go (HT3.o.go HT5.o)) ((HV3.o.tch HT5.o noE).up HT5.o.size)).mono ?_
 rintro _ w6 ⟨ht6,gn,nn,cap,rfl,hc6,hn6⟩
 have HT6:Hid (Tch NoB W3 w6):=HT5.o.go ht6
 clear ht6 HT5 HND b0 b1 b2 d0 d1 d2 d3 d4
 obtain ⟨b0,b1,b2⟩:=HCC.o w6 (HT3.o.go HT6.o)
 have HC6:Hid (∀V,Tch NoB w6 V->V.cell? ⟨gn,0,none⟩=some (.string tb)):=λV hT=>(hT.cell (Qr _ _ hc6) (λh=>h)).trans hc6
 have hi0:(0:Int)<((nn+1:Nat):Int):=by omega
 go_upto_region 12 with fail
 go_cut [53] (λvb wx=>vb=.bool false/\Hid (Tch NoB w6 wx))
 case first=>
  go_region_with (go_at_call 130;refine (HOF.o _ (HA.o.go (HT3.o.go (HT6.o.go (Td _ _ 1))))).mono ?_;rintro _ w7 ⟨rfl,ht7⟩;have HT7:Hid (Tch NoB w6 w7):=(Td NoB w6 1).go ht7;obtain ⟨e0,e1,e2⟩:=HCC.o _ (HT3.o.go (HT6.o.go HT7.o));clear ht7)
  all_goals
   go_wp2
   go_meet
   exact ⟨rfl,HT7⟩
 case rest=>
 obtain ⟨rfl,HTC⟩:=hcut
 obtain ⟨wA,hwA⟩:∃wA,wA=wc:=⟨wc,rfl⟩
 subst hwA
 have HTA:Hid (Tch NoB W3 wA):=HT6.o.go HTC.o
 clear b0 b1 b2 HOF HC6 hc6 HT6 HTC
 obtain ⟨b0,b1,b2⟩:=HCC.o wA (HT3.o.go HTA.o)
 obtain ⟨d0,d1,d2,d3,d4⟩:=HWC.o wA HTA.o
 go_wp2_with fail
 refine (HSB.o wA v1 v2 v3).mono ?_
 rintro _ w8 ⟨rfl,ht8⟩
 have HT8:Hid (Tch NoB W w8):=(HT3.o.go HTA.o).go ht8
 obtain ⟨_,hr8⟩:=HRR.o w8 HT8.o
 have r0:w8.cell? ⟨w.heap.size+1,0,none⟩=some (.int .i64 0):=Ja hr8
 have r1:w8.cell? ⟨w.heap.size+1,1,none⟩=some (.int .u64 0):=Ja hr8
 have r2:w8.cell? ⟨w.heap.size+1,2,none⟩=some (.int .u8 0):=Ja hr8
 have r3:w8.cell? ⟨w.heap.size+1,3,none⟩=some (.slice none 0 0):=Ja hr8
 have fR:∀j,w8.frozen? ⟨w.heap.size+1,j,none⟩=false:=λj=>Qg _ _ _ _ _ hr8
 have R8:Hid _:=hr8
 clear ht8 hr8 HSB b0 b1 b2 d0 d1 d2 d3 d4 HTA
 go_wp2
 rw [set4 _ _ _ _ _ _ _ _ _ _ _ R8.o]
 refine QJ (v:=.tuple #[.agg #[.int .i64 x,.int .u64 (y:Int),.int .u8 (z:Int),.slice (some ⟨gn,0,none⟩) (nn+1) cap],.nilIface]) (Jk results144 _ _ (w.heap.size+1) _ _ (0,0) _ rfl (Qi _ _ _ _ _ _ R8.o) underlying252 rfl (by kernel_rfl)) rfl ?_
 refine ⟨(HA.o.go HT8.o).trans (Ts _ _ _) (λj hj=>.inr (by omega)),?_⟩
 exact ⟨x,y,z,_,_,_,HSV.o,rfl⟩

theorem JiW (E:Nat->Addr) (wd:Nat) (hw1:1<=wd) (hw:wd<=32) (h:HdL) (hh:HdOk wd h) (c:BA×Int) (hc:Jn wd c) (wy:Wy) (hok:WyOk wd wy) (hbits:∀s∈wy.1,bt (Jd c) s.1=bt (XK wy) s.1) (hroot:dgW wd ((wy.nodes (dgW wd)).headD [])=h.2.2.2) (w:World) (hE:Env E w):
  Calls prog 91 #[.int .i64 (wd:Int),.string ⟨(hdrB h).toArray⟩,.agg #[.string c.1,.int .i64 c.2],.string ⟨(wayB wy).toArray⟩] w λe w'=>Tch NoB w w'/\∃(x:Int) (y z:Nat),YN (if wy.2.isSome=true/\wyK wy=⟨(Jd c).toArray⟩ then some (wyO wy) else none)=.agg #[.int .i64 x,.int .u64 (y:Int),.int .u8 (z:Int)]/\e=.returned (.tuple #[.agg #[.int .i64 x,.int .u64 (y:Int),.int .u8 (z:Int)],.nilIface]):=by
 have HASK:Hid (∀W,Tch NoB w W->Calls prog 143 _ W _):=λW hT=>Jmi E wd hw1 hw h hh c hc W (hE.tch hT noE)
 have HCK:Hid (∀W,Tch NoB w W->Calls prog 144 _ W _):=λW hT=>Jjy E wd hw1 hw h.2.2.2 (Jd c) (Ja0 hc) wy hok hbits hroot W (hE.tch hT noE)
 generalize (if wy.2.isSome=true/\wyK wy=⟨(Jd c).toArray⟩ then some (wyO wy) else none)=r at *
 clear hE hh hc hok hbits hroot
 generalize h.2.2.2=st at *
 generalize (⟨(hdrB h).toArray⟩:BA)=hb at *
 generalize (⟨(wayB wy).toArray⟩:BA)=pf at *
 obtain ⟨s,N⟩:=c
 dsimp only at HASK HCK ⊢
 generalize (⟨(Jd (s,N)).toArray⟩:BA)=kb at *
 obtain ⟨W,hW⟩:∃W,W=(w.alloc (.cells #[.string s,.int .i64 N] 49)).alloc (.cells #[.int .i64 0,.int .u64 0,.int .u8 0] 179):=⟨_,rfl⟩
 have tA:Tch NoB w W:=by rw [hW];exact Tch.allocs _ _ _ _
 have hr0:W.heap[w.heap.size]? =some (.cells #[.string s,.int .i64 N] 49):=by rw [hW];exact heap_alloc2_old _ _ _
 have hr1:W.heap[w.heap.size+1]? =some (.cells #[.int .i64 0,.int .u64 0,.int .u8 0] 179):=by rw [hW];exact heap_alloc2_new _ _ _
 have a0:W.cell? ⟨w.heap.size,0,none⟩=some (.string s):=Ja hr0
 have a1:W.cell? ⟨w.heap.size,1,none⟩=some (.int .i64 N):=Ja hr0
 have HRR:Hid (∀V,Tch NoB W V->V.heap[w.heap.size+1]? =some (.cells #[.int .i64 0,.int .u64 0,.int .u8 0] 179)):=λV hT=>(hT.block _ (Jb hr1) (λh=>h)).trans hr1
 have HA:Hid (Tch _ w W):=tA
 have HW:Hid (W=_):=hW
 clear tA hr0 hr1 hW
 go_enter func91,ntmps91
 go_upto_region 1 with fail
 rw [<-HW.o]
 go_wp2_with fail
 refine (HASK.o W HA.o).mono ?_
 rintro _ w1 ⟨rfl,ht1⟩
 obtain ⟨W2,hW2⟩:∃W2,W2=w1.alloc (.cells #[.int .i64 (wd:Int),.string st,.string kb] 248):=⟨_,rfl⟩
 have t2:Tch NoB w1 W2:=by rw [hW2];exact Ta _ _ _
 have hr2:W2.heap[w1.heap.size]? =some (.cells #[.int .i64 (wd:Int),.string st,.string kb] 248):=by rw [hW2];exact Qf _ _
 have b0:W2.cell? ⟨w1.heap.size,0,none⟩=some (.int .i64 (wd:Int)):=Ja hr2
 have b1:W2.cell? ⟨w1.heap.size,1,none⟩=some (.string st):=Ja hr2
 have b2:W2.cell? ⟨w1.heap.size,2,none⟩=some (.string kb):=Ja hr2
 have HT2:Hid (Tch NoB W W2):=ht1.go t2
 have HW2:Hid (W2=_):=hW2
 clear ht1 t2 hr2 hW2 a0 a1 HASK
 go_upto_region 2 with fail
 rw [<-HW2.o]
 go_wp2_with fail
 refine (HCK.o W2 (HA.o.go HT2.o)).mono ?_
 rintro _ w3 ⟨ht3,x,y,z,ga,gl,gc,hsv,rfl⟩
 obtain ⟨W4,hW4⟩:∃W4,W4=w3.alloc (.cells #[.int .i64 x,.int .u64 (y:Int),.int .u8 (z:Int),.slice ga gl gc] 252):=⟨_,rfl⟩
 have t4:Tch NoB w3 W4:=by rw [hW4];exact Ta _ _ _
 have hr4:W4.heap[w3.heap.size]? =some (.cells #[.int .i64 x,.int .u64 (y:Int),.int .u8 (z:Int),.slice ga gl gc] 252):=by rw [hW4];exact Qf _ _
 have HT4:Hid (Tch NoB W W4):=(HT2.o.go ht3).go t4
 have d0:W4.cell? ⟨w3.heap.size,0,none⟩=some (.int .i64 x):=Ja hr4
 have d1:W4.cell? ⟨w3.heap.size,1,none⟩=some (.int .u64 (y:Int)):=Ja hr4
 have d2:W4.cell? ⟨w3.heap.size,2,none⟩=some (.int .u8 (z:Int)):=Ja hr4
 have hs4:=HRR.o W4 HT4.o
 have e0:W4.cell? ⟨w.heap.size+1,0,none⟩=some (.int .i64 0):=Ja hs4
 have e1:W4.cell? ⟨w.heap.size+1,1,none⟩=some (.int .u64 0):=Ja hs4
 have e2:W4.cell? ⟨w.heap.size+1,2,none⟩=some (.int .u8 0):=Ja hs4
 have fR:∀j,W4.frozen? ⟨w.heap.size+1,j,none⟩=false:=λj=>Qg _ _ _ _ _ hs4
 have R4:Hid (W4.heap[w.heap.size+1]? =_):=hs4
 have HSV:Hid (YN r=_):=hsv
 have HW4:Hid (W4=_):=hW4
 clear ht3 hsv hW4 hr4 t4 hs4 HCK b0 b1 b2
 go_upto_region 5 with fail
 rw [<-HW4.o]
 go_wp2
 rw [set3 _ _ _ _ _ _ _ _ _ R4.o]
 refine QJ (v:=.tuple #[.agg #[.int .i64 x,.int .u64 (y:Int),.int .u8 (z:Int)],.nilIface]) (Jk results91 _ _ (w.heap.size+1) _ _ (0,0) _ rfl (Qi _ _ _ _ _ _ R4.o) underlying179 rfl (by kernel_rfl)) rfl ?_
 exact ⟨(HA.o.go HT4.o).trans (Ts _ _ _) (λj hj=>.inr (by omega)),x,y,z,HSV.o,rfl⟩
theorem JbG {P:Program} {fn:Func} {p t:Tmp} {ty:TypeId} (h:fn.results= #[.tmp t,.cell p ty]) (tmps:Array Value) (w:World) (g:Nat) (T:TypeId) (cs:Array Value) (fr:Nat×Nat) (d:TypeDesc)
  (hp:tmps.getD p undef=.pointer (some ⟨g,0,none⟩)) (hg:w.heap[g]? =some (.cells cs T fr))
  (hu:P.underlying ty=some d) (hd:(match d with | .struct _ | .array _ _=>true | _=>false)=true) (hi:(P.info? ty).map (·.size)=some cs.size):
  (results fn tmps).run P w=.ok (.tuple #[tmps.getD t undef,.agg cs]) w:=by
 have hp':tmps[p]?.getD undef=.pointer (some ⟨g,0,none⟩):=by simpa using hp
 simp [results,h,hp',asAddr,run_loadVar_row w g T ty cs fr d hg hu hd hi]
theorem Jgk {w:World} (wd:Nat) (hb pf:BA) (c:BA×Int) (r:Option (Nat×Nat)) (h:∀W,Tch NoB w W->Calls prog 91 #[.int .i64 (wd:Int),.string hb,.agg #[.string c.1,.int .i64 c.2],.string pf] W λe w'=>Tch NoB W w'/\∃(x:Int) (y z:Nat),YN r=.agg #[.int .i64 x,.int .u64 (y:Int),.int .u8 (z:Int)]/\e=.returned (.tuple #[.agg #[.int .i64 x,.int .u64 (y:Int),.int .u8 (z:Int)],.nilIface])):
  Calls prog 47 #[.int .i64 (wd:Int),.string hb,.agg #[.string c.1,.int .i64 c.2],.string pf] w λe w'=>Tch NoB w w'/\∃(x:Int) (y z:Nat),YN r=.agg #[.int .i64 x,.int .u64 (y:Int),.int .u8 (z:Int)]/\e=.returned (.tuple #[.int .i64 x,.agg #[.int .u64 (y:Int),.int .u8 (z:Int)]]):=by
 obtain ⟨s,N⟩:=c
 have H:Hid _:=h
 dsimp only at H ⊢
 obtain ⟨W,(HW:Hid _)⟩:∃W,W=(w.alloc (.cells #[.string s,.int .i64 N] 49)).alloc (.cells #[.int .u64 0,.int .u8 0] 80):=⟨_,rfl⟩
 have tA:=ha2 HW
 have hr0:=hno HW
 have hr1:=hnn HW
 obtain ⟨a0,a1⟩:=rows hr0
 have HRR:Hid (∀V,Tch NoB W V->_):=λV hT=>(hT.block _ (Jb hr1) (λh=>h)).trans hr1
 have HA:Hid _:=tA
 clear tA hr0 hr1
 go_enter func47,ntmps47
 go_upto_region 1 with fail
 rw [<-HW.o]
 go_wp2_with fail
 refine (H W HA).mono ?_
 rintro _ w1 ⟨ht1,x,y,z,(HSV:Hid _),rfl⟩
 obtain ⟨W2,(HW2:Hid _)⟩:∃W2,W2=w1.alloc (.cells #[.int .i64 x,.int .u64 (y:Int),.int .u8 (z:Int)] 179):=⟨_,rfl⟩
 have t2:=ha1 HW2
 have hr2:=hn1 HW2
 obtain ⟨b0,b1,b2⟩:=rows hr2
 have HT2:Hid _:=ht1.go t2
 have hs2:=HRR W2 HT2.o
 obtain ⟨e0,e1⟩:=rows hs2
 have fR:∀j,W2.frozen? ⟨w.heap.size+1,j,none⟩=false:=λj=>Qg _ _ _ _ _ hs2
 have hlt:w1.heap.size ≠ w.heap.size+1:=λe=>by rw [e,hs2] at hr2;simp at hr2
 have R2:Hid _:=hs2
 clear ht1 t2 hr2 hs2 a0 a1 H
 go_upto_region 4 with fail
 rw [<-HW2.o]
 go_region
 all_goals
  go_wp2
  rw [set2 _ _ _ _ _ _ _ R2.o]
  refine QJ (v:=.tuple #[.int .i64 x,.agg #[.int .u64 (y:Int),.int .u8 (z:Int)]]) (JbG results47 _ _ (w.heap.size+1) _ _ (0,0) _ rfl (show (W2.setRow (w.heap.size+1) #[.int .u64 (y:Int),.int .u8 (z:Int)]).heap[w.heap.size+1]? =_ from Qi _ _ _ _ _ _ R2) underlying80 rfl (by kernel_rfl)) rfl ?_
  exact ⟨((HA.go HT2).trans (Ts W2 (w.heap.size+1) _) (λj hj=>.inr (by omega))).go (Td _ _ 1),x,y,z,HSV,rfl⟩
theorem JlH (wy:Wy) (k:Key):(if wy.2.isSome=true/\wyK wy=⟨k.toArray⟩ then some (wyO wy) else none)=wy.said k:=by
 obtain ⟨l,e⟩:=wy
 cases e with
 | none=>simp [Wy.said]
 | some x=>
  obtain ⟨k',o⟩:=x
  unfold Wy.said wyK wyO
  dsimp only
  by_cases h:k'=k
  ·rw [if_pos ⟨rfl,by rw [h]⟩,if_pos h]
  ·rw [if_neg (λe=>h (show k'=k from congrArg (λb:BA=>b.data.toList) e.2)),if_neg h]

theorem Jfx:∀(n:Nat) (a b:List UInt8),a.length=n->b.length=n->numL a=numL b->a=b
 | 0,a,b,ha,hb,_=>by rw [QN ha,QN hb]
 | n+1,a,b,ha,hb,h=>by
  have hna:a ≠ []:=λe=>by rw [e] at ha;simp at ha
  have hnb:b ≠ []:=λe=>by rw [e] at hb;simp at hb
  have ea:=List.dropLast_concat_getLast hna
  have eb:=List.dropLast_concat_getLast hnb
  rw [<-ea,<-eb,Jax,Jax] at h
  have h1:=UInt8.toNat_lt (a.getLast hna)
  have h2:=UInt8.toNat_lt (b.getLast hnb)
  have e1:numL a.dropLast=numL b.dropLast:=by omega
  have e2:(a.getLast hna).toNat=(b.getLast hnb).toNat:=by omega
  have i1:=Jfx n a.dropLast b.dropLast (by simp [ha]) (by simp [hb]) e1
  rw [<-ea,<-eb,i1,UInt8.toNat_inj.1 e2]
theorem Jjq (l:List UInt8) (k:Nat) (h:l.length=k):beL (numL l) k k=l:=by
 refine Jfx k _ _ (Je _ _ _) h ?_
 have hlt:=Jbc l
 rw [h] at hlt
 have h2:numL l<2 ^ (8 * k):=by rw [Nat.pow_mul];exact hlt
 rw [Jas (numL l) k h2 k (Ql _),Nat.sub_self]
 simp
theorem Jh0 {wd:Nat} {z y:HdL} {q r q' r':List UInt8} (h:(PS.rd q r).hdr wd z=some (y,.rd q' r')):r=hdrB y++r':=by
 unfold PS.hdr at h
 simp only [PS.num] at h
 split at h
 ·cases h
 ·rename_i n p1 h1
  split at h1
  ·rename_i k1
   simp only [Qh,Qw] at h1
   obtain ⟨rfl,rfl⟩:=h1
   simp only [PS.txt] at h
   split at h
   ·cases h
   ·rename_i t1 p2 h2
    split at h2
    ·rename_i k2
     simp only [Qh,Qw] at h2
     obtain ⟨rfl,rfl⟩:=h2
     dsimp only at h
     split at h
     ·cases h
     ·rename_i t2 p3 h3
      split at h3
      ·rename_i k3
       simp only [Qh,Qw] at h3
       obtain ⟨rfl,rfl⟩:=h3
       dsimp only at h
       split at h
       ·cases h
       ·rename_i t3 p4 h4
        split at h4
        ·rename_i k4
         simp only [Qh,Qw] at h4
         obtain ⟨rfl,rfl⟩:=h4
         simp only [Qh,Qw,PS.of.injEq,Sum.inl.injEq] at h
         obtain ⟨rfl,_,rfl⟩:=h
         unfold hdrB
         dsimp only
         rw [Jjq (r.take 4) 4 (by rw [QB];omega)]
         simp only [Qs,List.take_append_drop]
        ·cases h4
      ·cases h3
    ·cases h2
  ·cases h1
theorem JfZ {wd:Nat} (hw:wd<=32) {ch ch':Ch} {s:List UInt8} (hc:∀c∈ch,HdIs wd c) (h:Xo (dgW wd) wd ch s=.ok ch'):∀c∈ch',HdIs wd c:=by
 unfold Xo at h
 split at h
 ·rename_i y pre body hh
  split at h
  ·rename_i ts q hb
   split at h
   ·cases h
   ·split at h
    ·cases h
    ·rename_i st ha
     split at h
     ·cases h
     ·rename_i hroot
      simp only [Except.ok.injEq] at h
      subst h
      intro c hcm
      rcases QE.1 hcm with hcm | hcm
      ·exact hc c hcm
      ·simp only [Qt] at hcm
       subst hcm
       have hbytes:=Jh0 hh
       obtain ⟨b,r',_,_,_,hok⟩:=Jbi wd hw _ _ _ _ _ hh
       refine ⟨y,?_,hok,?_⟩
       ·dsimp only
        rw [hbytes,Qe,Nat.add_sub_cancel,List.take_left]
       ·simpa using hroot
  ·cases h
 ·cases h
structure LedQ {E:Nat->Addr} {wd base:Nat} (L:Led E wd base):Prop where
 oks:∀{w:World} {lb:Nat} {F:Nat->Prop} {fl:Nat} {ch:Ch},L.At w lb F fl ch->∀(n:Nat) c',ch[n]? =some c'->fl<=n->StOk wd c'.2
 hdrs:∀{w:World} {lb:Nat} {F:Nat->Prop} {fl:Nat} {ch:Ch},L.At w lb F fl ch->∀c∈ch,HdIs wd c
 qin:∀{w:World} {lb:Nat} {F:Nat->Prop} {fl:Nat} {ch:Ch} (n:Nat) (c':BA×Option Tr) (c:BA×Int),L.At w lb F fl ch->JT E base w->ch[n]? =some c'->fl<=n->(∀t,c'.2=some t->t.Wf/\TrOk wd t)->Jn wd c->
  Calls prog 24 #[.pointer (some ⟨lb,0,none⟩),.int .i64 (n:Int),.agg #[.string c.1,.int .i64 c.2]] w λe w'=>e=.returned (.tuple #[.string ⟨(wayB (Yp (dgW wd) (Jd c) c'.2)).toArray⟩,.int .i64 0])/\Tch NoB w w'
 qout:∀{w:World} {lb:Nat} {F:Nat->Prop} {fl:Nat} {ch:Ch} (h:Int) (c:BA×Int),L.At w lb F fl ch->JT E base w->¬((fl:Int)<=h/\h<(ch.length:Int))->
  Calls prog 24 #[.pointer (some ⟨lb,0,none⟩),.int .i64 h,.agg #[.string c.1,.int .i64 c.2]] w λe w'=>e=.returned (.tuple #[.string ⟨#[]⟩,.int .i64 7])/\Tch NoB w w'
theorem Jlc (E:Nat->Addr) (wd base:Nat) {pn:Nat} {w:World} {lb:Nat} {F:Nat->Prop} {fl:Nat} {ch:Ch} (n:Nat) (c':BA×Option Tr) (c:BA×Int) (hA:LAt wd base pn w lb F fl ch) (hF:JT E base w) (hn:ch[n]? =some c') (hf:fl<=n) (hok:∀t,c'.2=some t->t.Wf/\TrOk wd t) (hc:Jn wd c):
  Calls prog 24 #[.pointer (some ⟨lb,0,none⟩),.int .i64 (n:Int),.agg #[.string c.1,.int .i64 c.2]] w λe w'=>e=.returned (.tuple #[.string ⟨(wayB (Yp (dgW wd) (Jd c) c'.2)).toArray⟩,.int .i64 0])/\Tch NoB w w':=by
 obtain ⟨⟨_,hw⟩,lg,cb,r,bs,lv,C⟩:=hA
 have hl:=rows C.led
 have hnl:=(Qo.1 hn).1
 have hb:bs[n]? =some (bs[n]'(by rw [C.len];exact hnl)):=Qd _
 obtain ⟨h1,h2,h3⟩:=C.st n _ c' hb hn hf
 exact JhS hl (n:Int) c _ (λW hT=>Jki E (hF.tch hT (λ_ e=>e.elim)).env (C.row.next hT) n _ hb hf hw F c'.2 h1 (h2.next hT) hok c hc)
theorem JjZ (E:Nat->Addr) (wd base:Nat) {pn:Nat} {w:World} {lb:Nat} {F:Nat->Prop} {fl:Nat} {ch:Ch} (h:Int) (c:BA×Int) (hA:LAt wd base pn w lb F fl ch) (hF:JT E base w) (hh:¬((fl:Int)<=h/\h<(ch.length:Int))):
  Calls prog 24 #[.pointer (some ⟨lb,0,none⟩),.int .i64 h,.agg #[.string c.1,.int .i64 c.2]] w λe w'=>e=.returned (.tuple #[.string ⟨#[]⟩,.int .i64 7])/\Tch NoB w w':=by
 obtain ⟨_,lg,cb,r,bs,lv,C⟩:=hA
 have hl:=rows C.led
 exact Jgi (λw' k=>hF.next k) .range hl h c (λW hT=>Jit E (hF.tch hT (λ_ e=>e.elim)).env (C.row.next hT) h (by rw [C.len];exact hh) c)
