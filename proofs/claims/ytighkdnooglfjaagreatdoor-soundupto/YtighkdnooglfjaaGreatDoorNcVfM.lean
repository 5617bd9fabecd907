import Derived.Test.YtighkdnooglfjaaGreatDoorNcVfK
namespace Go.Proofs.YtighkdnooglfjaaGreatDoor
open Go.Proofs.Tryz
set_option maxRecDepth 100000
set_option maxHeartbeats 2000000
open Go.RowKit

def Alk (w:World):Prop:=∃t u,w.cell? ⟨8,0,none⟩=some (.iface t u)
theorem Alk.tch {S:Nat->Prop} {w w':World} (h:Alk w) (k:Tch S w w') (hs:¬S 8):Alk w':=by
 obtain ⟨t,u,h⟩:=h
 exact ⟨t,u,(k.cell (Qr _ _ h) hs).trans h⟩
def JaQ (e:Ending) (x:Int) (y z:Nat) (ga:Option Addr) (gl gc:Nat) (ev:Value):Prop:=e=.returned (.tuple #[.agg #[.int .i64 x,.int .u64 (y:Int),.int .u8 (z:Int),.slice ga gl gc],ev])
def XTwo (same:Prop) (R:Ending->World->Prop) (e:Ending) (w':World):Prop:=(same->∃t u,e=.returned (.tuple #[.string ⟨#[]⟩,.string ⟨#[]⟩,.iface t u]))/\(¬same->R e w')
def XBad (w:World) (e:Ending) (w':World):Prop:=Tch NoB w w'/\∃t u,e=.returned (.tuple #[.string ⟨#[]⟩,.string ⟨#[]⟩,.iface t u])
theorem JeM (E:Nat->Addr) (wd:Nat) (hw1:1<=wd) (hw:wd<=32) (h:HdL) (hh:HdOk wd h) (c:BA×Int) (hc:Jk wd c) (s1 s2:BA) (w:World) (hE:Env E w)
  (h1:∀W,Tch NoB w W->Calls prog 144 #[qV wd h.2.2.2 ⟨(Jd c).toArray⟩,.string s1] W λe w'=>Tch NoB W w'/\∃x y z ga gl gc t u,JaQ e x y z ga gl gc (.iface t u)):
  Calls prog 94 #[.int .i64 (wd:Int),.string ⟨(hdrB h).toArray⟩,.agg #[.string c.1,.int .i64 c.2],.string s1,.string s2] w (XBad w):=by
 have HASK:Hid (∀W,Tch NoB w W->_):=λW hT=>Jb7 E wd hw1 hw h hh c hc W (hE.tch hT noE)
 have HC1:Hid _:=h1
 generalize h.2.2.2=st at *
 generalize (⟨(hdrB h).toArray⟩:BA)=hb at *
 obtain ⟨s,N⟩:=c
 dsimp only at HASK HC1 ⊢
 generalize (⟨(Jd (s,N)).toArray⟩:BA)=kb at *
 go_enter func94,ntmps94
 go_wp2_with fail
 refine (HASK _ (Ta _ _ _)).mono ?_
 rintro _ w1 ⟨rfl,ht1⟩
 have HT1:Hid _:=(Ta NoB w _).go ht1
 go_wp2_with fail
 refine (HC1 _ (HT1.go (Ta _ _ _))).mono ?_
 rintro _ w2 ⟨ht2,x,y,z,ga,gl,gc,t,u,rfl⟩
 have HT2:Hid _:=(HT1.go (Ta _ _ _)).go ht2
 go_wp2_with fail
 refine (Xl _ _ _ _).mono ?_
 rintro _ w3 ⟨rfl,hw3⟩
 have HT3:Hid (Tch NoB w w3):=by rw [hw3];exact (HT2.go (Ta _ _ _)).go (Ta _ _ _)
 clear hw3
 go_wp2
 refine QJ (v:=.tuple #[.string ⟨#[]⟩,.string ⟨#[]⟩,_]) (results_tmp3 results94 _ _ _) rfl ?_
 exact ⟨HT3,_,_,rfl⟩
theorem JeN (E:Nat->Addr) (wd:Nat) (hw1:1<=wd) (hw:wd<=32) (h:HdL) (hh:HdOk wd h) (c:BA×Int) (hc:Jk wd c) (s1 s2:BA) (w:World) (hE:Env E w)
  (h1:∀W,Tch NoB w W->Calls prog 144 #[qV wd h.2.2.2 ⟨(Jd c).toArray⟩,.string s1] W λe w'=>Tch NoB W w'/\∃x y z ga gl gc,JaQ e x y z ga gl gc .nilIface)
  (h2:∀W,Tch NoB w W->Calls prog 144 #[qV wd h.2.2.2 ⟨(Jd c).toArray⟩,.string s2] W λe w'=>Tch NoB W w'/\∃x y z ga gl gc t u,JaQ e x y z ga gl gc (.iface t u)):
  Calls prog 94 #[.int .i64 (wd:Int),.string ⟨(hdrB h).toArray⟩,.agg #[.string c.1,.int .i64 c.2],.string s1,.string s2] w (XBad w):=by
 have HASK:Hid (∀W,Tch NoB w W->_):=λW hT=>Jb7 E wd hw1 hw h hh c hc W (hE.tch hT noE)
 have HC1:Hid _:=h1
 have HC2:Hid _:=h2
 generalize h.2.2.2=st at *
 generalize (⟨(hdrB h).toArray⟩:BA)=hb at *
 obtain ⟨s,N⟩:=c
 dsimp only at HASK HC1 HC2 ⊢
 generalize (⟨(Jd (s,N)).toArray⟩:BA)=kb at *
 go_enter func94,ntmps94
 go_wp2_with fail
 refine (HASK _ (Ta _ _ _)).mono ?_
 rintro _ w1 ⟨rfl,ht1⟩
 obtain ⟨W2,(HW2:Hid _)⟩:∃W2,W2=w1.alloc (.cells #[.int .i64 (wd:Int),.string st,.string kb] 248):=⟨_,rfl⟩
 have t2:Tch NoB w1 W2:=by rw [HW2];exact Ta _ _ _
 have hr2:W2.heap[w1.heap.size]? =some (.cells #[.int .i64 (wd:Int),.string st,.string kb] 248):=by rw [HW2];exact Qf _ _
 have HQC:Hid (∀V,Tch NoB W2 V->V.cell? ⟨w1.heap.size,0,none⟩=some (.int .i64 (wd:Int))/\V.cell? ⟨w1.heap.size,1,none⟩=some (.string st)/\V.cell? ⟨w1.heap.size,2,none⟩=some (.string kb)):=λV hT=>by
  have:=(hT.block _ (Jb hr2) (λh=>h)).trans hr2
  exact ⟨Ja this,Ja this,Ja this⟩
 have HT2:Hid _:=((Ta NoB w _).go ht1).go t2
 obtain ⟨q0,q1,q2⟩:=HQC W2 (Te _ _)
 clear ht1 HASK t2 hr2
 go_upto_region 2 with fail
 rw [<-HW2.o]
 go_wp2_with fail
 refine (HC1 _ HT2).mono ?_
 rintro _ w3 ⟨ht3,x,y,z,ga,gl,gc,rfl⟩
 have HT3:Hid (Tch NoB W2 (w3.alloc (.cells #[.int .i64 x,.int .u64 (y:Int),.int .u8 (z:Int),.slice ga gl gc] 252))):=ht3.go (Ta _ _ _)
 obtain ⟨q0,q1,q2⟩:=HQC _ HT3.o
 go_wp2_with fail
 refine (HC2 _ (HT2.go HT3)).mono ?_
 rintro _ w4 ⟨ht4,x',y',z',ga',gl',gc',t,u,rfl⟩
 have HT4:Hid _:=(HT2.go HT3).go ht4
 go_wp2_with fail
 refine (Xl _ _ _ _).mono ?_
 rintro _ w5 ⟨rfl,hw5⟩
 have HT5:Hid (Tch NoB w w5):=by rw [hw5];exact (HT4.go (Ta _ _ _)).go (Ta _ _ _)
 clear hw5
 go_wp2
 refine QJ (v:=.tuple #[.string ⟨#[]⟩,.string ⟨#[]⟩,_]) (results_tmp3 results94 _ _ _) rfl ?_
 exact ⟨HT5,_,_,rfl⟩
theorem JeO (E:Nat->Addr) (wd:Nat) (hw1:1<=wd) (hw:wd<=32) (h:HdL) (hh:HdOk wd h) (c:BA×Int) (hc:Jk wd c) (s1 s2:BA) (w:World) (hE:Env E w)
  (x:Int) (y z:Nat) (gl:Nat) (x':Int) (y' z':Nat) (gl':Nat) (P1 P2:Nat->World->Prop) (R:Ending->World->Prop)
  (hP1:∀g V V',P1 g V->Tch NoB V V'->P1 g V')
  (h1:∀W,Tch NoB w W->Calls prog 144 #[qV wd h.2.2.2 ⟨(Jd c).toArray⟩,.string s1] W λe w'=>Tch NoB W w'/\∃g cap,JaQ e x y z (some ⟨g,0,none⟩) gl cap .nilIface/\P1 g w')
  (h2:∀W,Tch NoB w W->Calls prog 144 #[qV wd h.2.2.2 ⟨(Jd c).toArray⟩,.string s2] W λe w'=>Tch NoB W w'/\∃g cap,JaQ e x' y' z' (some ⟨g,0,none⟩) gl' cap .nilIface/\P2 g w')
  (hal:∀W,Tch NoB w W->Alk W)
  (hpart:¬(x=x'/\y=y'/\z=z')->∀W g g' cap cap',Tch NoB w W->P1 g W->P2 g' W->Calls prog 148 #[.slice (some ⟨g,0,none⟩) gl cap,.slice (some ⟨g',0,none⟩) gl' cap'] W λe w'=>Tch NoB W w'/\∃sx sy:BA,R (.returned (.tuple #[.string sx,.string sy,.nilIface])) w'/\e=.returned (.tuple #[.string sx,.string sy,.nilIface]))
  (hP2:∀g V V',P2 g V->Tch NoB V V'->P2 g V'):
  Calls prog 94 #[.int .i64 (wd:Int),.string ⟨(hdrB h).toArray⟩,.agg #[.string c.1,.int .i64 c.2],.string s1,.string s2] w λe w'=>Tch NoB w w'/\XTwo (x=x'/\y=y'/\z=z') R e w':=by
 have HASK:Hid (∀W,Tch NoB w W->_):=λW hT=>Jb7 E wd hw1 hw h hh c hc W (hE.tch hT noE)
 have HC1:Hid _:=h1
 have HC2:Hid _:=h2
 have HAL:Hid _:=hal
 have HPA:Hid _:=hpart
 have HP1:Hid _:=hP1
 have HP2:Hid _:=hP2
 generalize h.2.2.2=st at *
 generalize (⟨(hdrB h).toArray⟩:BA)=hb at *
 obtain ⟨s,N⟩:=c
 dsimp only at HASK HC1 HC2 ⊢
 generalize (⟨(Jd (s,N)).toArray⟩:BA)=kb at *
 go_enter func94,ntmps94
 go_wp2_with fail
 refine (HASK _ (Ta _ _ _)).mono ?_
 rintro _ w1 ⟨rfl,ht1⟩
 obtain ⟨W2,(HW2:Hid _)⟩:∃W2,W2=w1.alloc (.cells #[.int .i64 (wd:Int),.string st,.string kb] 248):=⟨_,rfl⟩
 have t2:=ha1 HW2
 have hr2:=hn1 HW2
 have HQC:Hid (∀V,Tch NoB W2 V->V.cell? ⟨w1.heap.size,0,none⟩=some (.int .i64 (wd:Int))/\V.cell? ⟨w1.heap.size,1,none⟩=some (.string st)/\V.cell? ⟨w1.heap.size,2,none⟩=some (.string kb)):=λV hT=>by
  have:=(hT.block _ (Jb hr2) (λh=>h)).trans hr2
  exact ⟨Ja this,Ja this,Ja this⟩
 have HT2:Hid _:=((Ta NoB w _).go ht1).go t2
 obtain ⟨q0,q1,q2⟩:=HQC W2 (Te _ _)
 clear ht1 HASK t2 hr2
 go_upto_region 2 with fail
 rw [<-HW2.o]
 go_wp2_with fail
 refine (HC1 _ HT2).mono ?_
 rintro _ w3 ⟨ht3,g,cap,rfl,hp3⟩
 obtain ⟨W3,(HW3:Hid _)⟩:∃W3,W3=w3.alloc (.cells #[.int .i64 x,.int .u64 (y:Int),.int .u8 (z:Int),.slice (some ⟨g,0,none⟩) gl cap] 252):=⟨_,rfl⟩
 have t3:=ha1 HW3
 have hr3:=hn1 HW3
 have HAC:Hid (∀V,Tch NoB W3 V->V.cell? ⟨w3.heap.size,0,none⟩=some (.int .i64 x)/\V.cell? ⟨w3.heap.size,1,none⟩=some (.int .u64 (y:Int))/\V.cell? ⟨w3.heap.size,2,none⟩=some (.int .u8 (z:Int))/\V.cell? ⟨w3.heap.size,3,none⟩=some (.slice (some ⟨g,0,none⟩) gl cap)):=λV hT=>by
  have:=(hT.block _ (Jb hr3) (λh=>h)).trans hr3
  exact ⟨Ja this,Ja this,Ja this,Ja this⟩
 have HT3:Hid _:=ht3.go t3
 have HG1:Hid _:=HP1 _ _ _ hp3 t3
 clear ht3 HC1 q0 q1 q2 hp3 t3 hr3
 obtain ⟨q0,q1,q2⟩:=HQC _ HT3.o
 go_upto_region 5 with fail
 rw [<-HW3.o]
 go_wp2_with fail
 refine (HC2 _ (HT2.go HT3)).mono ?_
 rintro _ w4 ⟨ht4,g',cap',rfl,hp4⟩
 obtain ⟨W4,(HW4:Hid _)⟩:∃W4,W4=w4.alloc (.cells #[.int .i64 x',.int .u64 (y':Int),.int .u8 (z':Int),.slice (some ⟨g',0,none⟩) gl' cap'] 252):=⟨_,rfl⟩
 have t4:=ha1 HW4
 have hr4:=hn1 HW4
 have HT4:Hid _:=((HT2.go HT3).go ht4).go t4
 have HG2:Hid _:=HP2 _ _ _ hp4 t4
 have HG3:Hid _:=HP1 _ _ _ HG1 (ht4.go t4)
 obtain ⟨a0,a1,a2,a3⟩:=HAC W4 (ht4.go t4)
 obtain ⟨b0,b1,b2,b3⟩:=rows hr4
 obtain ⟨t,u,hal⟩:=HAL W4 HT4.o
 clear ht4 hp4 t4 hr4 HC2 q0 q1 q2 HT3 HG1 HAC HQC
 go_upto_region 8 with fail
 rw [<-HW4.o]
 by_cases heq:x=x'/\y=y'/\z=z'
 ·obtain ⟨rfl,rfl,rfl⟩:=heq
  go_wp2_with fail
  refine (Xl _ _ _ _).mono ?_
  rintro _ w5 ⟨rfl,hw5⟩
  have HT5:Hid (Tch NoB w w5):=by rw [hw5];exact HT4.go (Ta _ _ _)
  clear hw5
  go_wp2
  refine QJ (v:=.tuple #[.string ⟨#[]⟩,.string ⟨#[]⟩,_]) (results_tmp3 results94 _ _ _) rfl ?_
  exact ⟨HT5,λ_=>⟨_,_,rfl⟩,λh=>(h (by simp)).elim⟩
 ·have HPC:Hid _:=HPA heq
  have HNE:Hid _:=heq
  by_cases hx:x=x'
  ·by_cases hy:y=y'
   ·have hz:¬(z:Int)=(z':Int):=λh=>heq ⟨hx,hy,by omega⟩
    subst hx hy
    go_wp2_with fail
    refine (HPC _ _ _ _ _ HT4 HG3 HG2).mono ?_
    rintro _ w5 ⟨ht5,sx,sy,(HR:Hid _),rfl⟩
    have HT5:Hid _:=HT4.go ht5
    clear ht5 HPC
    go_wp2
    refine QJ (v:=.tuple #[.string sx,.string sy,.nilIface]) (results_tmp3 results94 _ _ _) rfl ?_
    exact ⟨HT5.o,λh=>absurd h (by simpa using HNE.o),λ_=>HR.o⟩
   ·have hy2:¬(y:Int)=(y':Int):=λh=>hy (by omega)
    subst hx
    clear heq hy
    go_wp2_with fail
    refine (HPC _ _ _ _ _ HT4 HG3 HG2).mono ?_
    rintro _ w5 ⟨ht5,sx,sy,(HR:Hid _),rfl⟩
    have HT5:Hid _:=HT4.go ht5
    clear ht5 HPC
    go_wp2
    refine QJ (v:=.tuple #[.string sx,.string sy,.nilIface]) (results_tmp3 results94 _ _ _) rfl ?_
    exact ⟨HT5.o,λh=>absurd h (by simpa using HNE.o),λ_=>HR.o⟩
  ·clear heq
   go_wp2_with fail
   refine (HPC _ _ _ _ _ HT4 HG3 HG2).mono ?_
   rintro _ w5 ⟨ht5,sx,sy,(HR:Hid _),rfl⟩
   have HT5:Hid _:=HT4.go ht5
   clear ht5 HPC
   go_wp2
   refine QJ (v:=.tuple #[.string sx,.string sy,.nilIface]) (results_tmp3 results94 _ _ _) rfl ?_
   exact ⟨HT5.o,λh=>absurd h (by simpa using HNE.o),λ_=>HR.o⟩
theorem Jjb {w:World} (wd:Int) (hb s1 s2:BA) (c:BA×Int) (P:BA->BA->Bool->Prop) (h:∀W,Tch NoB w W->Calls prog 94 #[.int .i64 (wd:Int),.string hb,.agg #[.string c.1,.int .i64 c.2],.string s1,.string s2] W λe w'=>Tch NoB W w'/\∃sx sy ev,e=.returned (.tuple #[.string sx,.string sy,ev])/\((ev=.nilIface/\P sx sy true)\/(∃t u,ev=.iface t u)/\P sx sy false)):
  Calls prog 51 #[.int .i64 (wd:Int),.string hb,.agg #[.string c.1,.int .i64 c.2],.string s1,.string s2] w λe w'=>Tch NoB w w'/\∃sx sy b,P sx sy b/\e=.returned (.tuple #[.string sx,.string sy,.bool b]):=by
 obtain ⟨s,N⟩:=c
 have H:Hid _:=h
 dsimp only at H ⊢
 go_enter func51,ntmps51
 go_wp2_with fail
 refine (H _ (Ta _ _ _)).mono ?_
 rintro _ w1 ⟨ht1,sx,sy,ev,rfl,hev⟩
 have HT1:Hid _:=(Ta NoB w _).go ht1
 rcases hev with ⟨rfl,hP⟩ | ⟨⟨t,u,rfl⟩,hP⟩
 ·have HP:Hid _:=hP
  go_upto_region 2 with fail
  go_quiet (fail)
  go_wp2
  refine QJ (v:=.tuple #[.string sx,.string sy,.bool true]) (results_tmp3 results51 _ _ _) rfl ?_
  exact ⟨HT1.go (Td _ _ _),sx,sy,true,HP,rfl⟩
 ·have HP:Hid _:=hP
  go_upto_region 2 with fail
  go_quiet (fail)
  go_wp2
  refine QJ (v:=.tuple #[.string sx,.string sy,.bool false]) (results_tmp3 results51 _ _ _) rfl ?_
  exact ⟨HT1.go (Td _ _ _),sx,sy,false,HP,rfl⟩
open Go.ChangeShapes Go.WideShapes Go.ChangeAt Go.RowKit

theorem Jib {W:World} (h:laidMetH prog Rows.soundUptoRow.laid W):(∃E:Nat->Addr,Env E W/\Sent E W/\∀g∈Ss,(E g).block<W.heap.size)/\Ast W/\Alk W:=by
 rw [MakeChecks.laidMetH_plain _ _ _ (by kernel_rfl)] at h
 have h3:=h.tail.tail.tail
 have hs:∀g∈Ss,Jb3 W g (tx g):=by
  intro g hg
  simp only [Ss,List.mem_cons,QD,or_false] at hg
  rcases hg with rfl | rfl | rfl | rfl | rfl | rfl | rfl | rfl
  ·exact XB h3.tail (by kernel_rfl) (by kernel_rfl)
  ·exact XB h3.tail.tail (by kernel_rfl) (by kernel_rfl)
  ·exact XB h3.tail.tail.tail (by kernel_rfl) (by kernel_rfl)
  ·exact XB h3.tail.tail.tail.tail (by kernel_rfl) (by kernel_rfl)
  ·exact XB h3.tail.tail.tail.tail.tail (by kernel_rfl) (by kernel_rfl)
  ·exact XB h3.tail.tail.tail.tail.tail.tail (by kernel_rfl) (by kernel_rfl)
  ·exact XB h3.tail.tail.tail.tail.tail.tail.tail (by kernel_rfl) (by kernel_rfl)
  ·exact XB h3 (by kernel_rfl) (by kernel_rfl)
 have ht:laidMet prog [("trove/digest.roundConstants",Lib.tabData .u32 Ks)] W:=h3.tail.tail.tail.tail.tail.tail.tail.tail.tail.tail
 have hast:Jb3 W 11 (txOf Rows.laid_trove_fault_Astray):=XB h3.tail.tail.tail.tail.tail.tail.tail.tail (by kernel_rfl) (by kernel_rfl)
 have halk:Jb3 W 8 (txOf Rows.laid_trove_fault_Alike):=XB h3.tail.tail.tail.tail.tail.tail.tail.tail.tail (by kernel_rfl) (by kernel_rfl)
 have htab:=Lib.tabIs_of_head gTab Jjj underlying486 underlying429 JlE JlD ht
 have hp:laidMet prog (("internal/strconv.uint64pow10",Lib.tabData .u64 Lib.pow10Tab) :: _) W:=h.tail.tail
 have hpow:=Lib.tabIs_of_head gPow Jji underlying503 underlying78 Ji6 JlC hp
 refine ⟨JlG hs ?_ hpow (λi hi=>htab.cell gTab i hi),?_,?_⟩
 rotate_left
 ·obtain ⟨a,_,_,_,h1,_⟩:=hast
  exact ⟨_,_,h1⟩
 ·obtain ⟨a,_,_,_,h1,_⟩:=halk
  exact ⟨_,_,h1⟩
 obtain ⟨ps,hv,_⟩:=h.tail
 obtain ⟨g,t,cs,fuel,p,q,hg,_,hvv,_⟩:=hv
 obtain rfl:g=17:=Option.some.inj (hg.symm.trans (show prog.globalNamed "math/bits.deBruijn64tab" =some 17 by kernel_rfl))
 unfold World.var? at hvv
 rw [hg] at hvv
 simp only [Qu] at hvv
 split at hvv
 ·rename_i hh
  exact (Jb hh)
 ·cases hvv

theorem Jdc {wd:Nat} {key:Key} (hk:key.length=wd+1) (hw:wd<=32) {state:BA} {s:List UInt8} {wy:Wy} (h:chk wd key state s=some wy):wy.Holds (dgW wd) key state/\WyOk wd wy:=by
 unfold chk at h
 cases hR:(PS.rd [] s).way wd [] false ⟨#[]⟩ (0,0) with
 | none=>rw [hR] at h;cases h
 | some x=>
  obtain ⟨wy',p⟩:=x
  obtain ⟨hok,q,r,rfl⟩:=JfG hR
  rw [hR] at h
  cases r with
  | cons a r=>cases h
  | nil=>
   dsimp only at h
   split at h
   ·rename_i hc
    cases h
    refine ⟨⟨hc.1,λx hx=>by have:=(hok.steps x hx).1;omega,λx hx l=>by rw [(hok.steps x hx).2,Jp wd hw],hok.bare,λhne=>?_,hc.2⟩,hok⟩
    cases h2:wy.2 with
    | none=>exact absurd h2 hne
    | some x=>simp only [JV,h2];rw [hk];exact (hok.key x h2).1
   ·cases h
theorem Jdv:∀(A B:List (List UInt8)) (x y:List UInt8),Yj A B=some (x,y)->∃q post,(A.map (λt=>(⟨t.toArray⟩:BA))).zip (B.map (λt=>(⟨t.toArray⟩:BA)))=q++((⟨x.toArray⟩:BA),(⟨y.toArray⟩:BA)) :: post/\∀z∈q,z.1=z.2
 | [],_,_,_,h=>by simp [Yj] at h
 | _ :: _,[],_,_,h=>by simp [Yj] at h
 | a :: A,b :: B,x,y,h=>by
  unfold Yj at h
  split at h
  ·rename_i he
   obtain ⟨q,post,e1,e2⟩:=Jdv A B x y h
   refine ⟨((⟨a.toArray⟩:BA),(⟨b.toArray⟩:BA)) :: q,post,by simp only [List.map_cons,List.zip_cons_cons,e1,List.cons_append],λz hz=>?_⟩
   rcases List.mem_cons.1 hz with rfl | hz
   ·rw [he]
   ·exact e2 z hz
  ·cases h
   exact ⟨[],_,rfl,λz hz=>by cases hz⟩
theorem Jbu:∀(A B:List (List UInt8)) (x y:List UInt8),Yj A B=some (x,y)->x∈A/\y∈B
 | [],_,_,_,h=>by simp [Yj] at h
 | _ :: _,[],_,_,h=>by simp [Yj] at h
 | a :: A,b :: B,x,y,h=>by
  unfold Yj at h
  split at h
  ·obtain ⟨h1,h2⟩:=Jbu A B x y h
   exact ⟨by simp [h1],by simp [h2]⟩
  ·cases h
   exact ⟨by simp,by simp⟩
theorem Je5 {wd:Nat} (hw:wd<=32) {wy:Wy} (hok:WyOk wd wy) {t:List UInt8} (h:t∈wy.nodes (dgW wd)):t.length<=1000:=by
 obtain ⟨i,hi,rfl⟩:=List.getElem_of_mem h
 have hl:(wy.nodes (dgW wd)).length=wy.1.length+1:=Xh _ _ _ _
 have h1:(wy.nodes (dgW wd))[i]? =some (YF (dgW wd) (JV wy) (JT wy.2) wy.1 i):=YT (dgW wd) (JV wy) (JT wy.2) wy.1 i (by omega)
 rw [Qd hi] at h1
 rw [Option.some.inj h1]
 exact Jar wd hw _ _ (Za hw hok) _ hok.steps i (by omega)
theorem Jkv {wd:Nat} (hw:wd<=32) {key:Key} {state:BA} {wy:Wy} (hok:WyOk wd wy) (hb:∀s∈wy.1,bt key s.1=bt (JV wy) s.1) (hr:dgW wd ((wy.nodes (dgW wd)).headD [])=state):chk wd key state (wayB wy)=some wy:=by
 unfold chk
 rw [Jkj (by omega) hok]
 exact if_pos ⟨hb,hr⟩
def XP (wd:Nat) (wy:Wy) (g:Nat) (W:World):Prop:=g<W.heap.size/\∀(j:Nat) t,((wy.nodes (dgW wd)).map (λt=>(⟨t.toArray⟩:BA)))[j]? =some t->W.cell? ⟨g,j,none⟩=some (.string t)
theorem XP.tch {wd:Nat} {wy:Wy} {g:Nat} {V V':World} (h:XP wd wy g V) (k:Tch NoB V V'):XP wd wy g V':=
 ⟨Qk h.1 k.size,λj t ht=>(k.cell (p:=⟨g,j,none⟩) h.1 (λh=>h)).trans (h.2 j t ht)⟩
def Jcc (wd:Nat) (k:Key) (r1 r2:Option Wy) (sx sy:BA) (b:Bool):Prop:=match r1,r2 with
 | some w1,some w2=>if w1.said k=w2.said k then b=false/\sx=⟨#[]⟩/\sy=⟨#[]⟩ else b=true/\sx.size<=1000/\sy.size<=1000/\sx ≠ sy/\dgW wd sx.data.toList=dgW wd sy.data.toList/\Yj (w1.nodes (dgW wd)) (w2.nodes (dgW wd))=some (sx.data.toList,sy.data.toList)
 | _,_=>b=false/\sx=⟨#[]⟩/\sy=⟨#[]⟩
theorem JeL (E:Nat->Addr) (wd:Nat) (hw1:1<=wd) (hw:wd<=32) (h:HdL) (hh:HdOk wd h) (c:BA×Int) (hc:Jk wd c) (s1 s2:BA) (hs1:s1.size<=2000000) (hs2:s2.size<=2000000) (w:World) (hE:Env E w) (hA:Ast w) (hL:Alk w):
  Calls Tryz.prog 51 #[.int .i64 (wd:Int),.string ⟨(hdrB h).toArray⟩,.agg #[.string c.1,.int .i64 c.2],.string s1,.string s2] w λe w'=>Tch NoB w w'/\∃sx sy b,Jcc wd (Jd c) (chk wd (Jd c) h.2.2.2 s1.data.toList) (chk wd (Jd c) h.2.2.2 s2.data.toList) sx sy b/\e=.returned (.tuple #[.string sx,.string sy,.bool b]):=by
 have hk:=YJ hc
 have H1:=λW (hT:Tch NoB w W)=>Jbn E wd hw1 hw h.2.2.2 (Jd c) hk s1 hs1 W (hE.tch hT noE) (hA.tch hT (λh=>h))
 have H2:=λW (hT:Tch NoB w W)=>Jbn E wd hw1 hw h.2.2.2 (Jd c) hk s2 hs2 W (hE.tch hT noE) (hA.tch hT (λh=>h))
 refine Jjb wd _ s1 s2 c _ (λW hT=>?_)
 cases hr1:chk wd (Jd c) h.2.2.2 s1.data.toList with
 | none=>
  rw [hr1] at H1
  refine (JeM E wd hw1 hw h hh c hc s1 s2 W (hE.tch hT noE) (λV hV=>?_)).mono ?_
  ·refine (H1 V (hT.go hV)).mono ?_
   rintro e w' ⟨ht,t,u,he⟩
   exact ⟨ht,0,0,0,none,0,0,t,u,he⟩
  ·rintro e w' ⟨ht,t,u,he⟩
   exact ⟨ht,_,_,_,he,.inr ⟨⟨t,u,rfl⟩,rfl,rfl,rfl⟩⟩
 | some w1=>
  rw [hr1] at H1
  have HC1:∀(x:Int) (y z:Nat),XE (w1.said (Jd c))=.agg #[.int .i64 x,.int .u64 (y:Int),.int .u8 (z:Int)]->∀V,Tch NoB W V->Calls Tryz.prog 144 #[qV wd h.2.2.2 ⟨(Jd c).toArray⟩,.string s1] V λe w'=>Tch NoB V w'/\∃g cap,JaQ e x y z (some ⟨g,0,none⟩) (w1.1.length+1) cap .nilIface/\XP wd w1 g w':=λx y z hxyz V hV=>by
   refine (H1 V (hT.go hV)).mono ?_
   rintro e w' ⟨ht,x',y',z',g,cap,hsv,he,hg,hcs⟩
   rw [hxyz] at hsv
   simp only [Value.agg.injEq,Array.mk.injEq,QH,Value.int.injEq,true_and,and_true] at hsv
   obtain ⟨rfl,hy,hz⟩:=hsv
   refine ⟨ht,g,cap,?_,hg,λj t ht=>?_⟩
   ·unfold JaQ;rw [he,hy,hz]
   ·rw [List.getElem?_map] at ht
    obtain ⟨t',h1,rfl⟩:=Option.map_eq_some_iff.1 ht
    exact hcs j t' h1
  cases hr2:chk wd (Jd c) h.2.2.2 s2.data.toList with
  | none=>
   rw [hr2] at H2
   refine (JeN E wd hw1 hw h hh c hc s1 s2 W (hE.tch hT noE) (λV hV=>?_) (λV hV=>?_)).mono ?_
   ·obtain ⟨x,y,z,hxyz,_⟩:=Zu (w1.said (Jd c))
    refine (HC1 x y z hxyz V hV).mono ?_
    rintro e w' ⟨ht,g,cap,he,_⟩
    exact ⟨ht,x,y,z,_,_,_,he⟩
   ·refine (H2 V (hT.go hV)).mono ?_
    rintro e w' ⟨ht,t,u,he⟩
    exact ⟨ht,0,0,0,none,0,0,t,u,he⟩
   ·rintro e w' ⟨ht,t,u,he⟩
    exact ⟨ht,_,_,_,he,.inr ⟨⟨t,u,rfl⟩,rfl,rfl,rfl⟩⟩
  | some w2=>
   rw [hr2] at H2
   obtain ⟨x,y,z,hxyz,hx⟩:=Zu (w1.said (Jd c))
   obtain ⟨x',y',z',hxyz',hx'⟩:=Zu (w2.said (Jd c))
   have hsame:(x=x'/\y=y'/\z=z')↔w1.said (Jd c)=w2.said (Jd c):=by
    rcases hx with ⟨e,rfl,rfl,rfl⟩ | ⟨e,rfl⟩ <;> rcases hx' with ⟨e',rfl,rfl,rfl⟩ | ⟨e',rfl⟩ <;> rw [e,e'] <;> simp
   obtain ⟨hh1,ok1⟩:=Jdc hk hw hr1
   obtain ⟨hh2,ok2⟩:=Jdc hk hw hr2
   have HC2:∀V,Tch NoB W V->Calls Tryz.prog 144 #[qV wd h.2.2.2 ⟨(Jd c).toArray⟩,.string s2] V λe w'=>Tch NoB V w'/\∃g cap,JaQ e x' y' z' (some ⟨g,0,none⟩) (w2.1.length+1) cap .nilIface/\XP wd w2 g w':=λV hV=>by
    refine (H2 V (hT.go hV)).mono ?_
    rintro e w' ⟨ht,a,b,d,g,cap,hsv,he,hg,hcs⟩
    rw [hxyz'] at hsv
    simp only [Value.agg.injEq,Array.mk.injEq,QH,Value.int.injEq,true_and,and_true] at hsv
    obtain ⟨rfl,hy,hz⟩:=hsv
    refine ⟨ht,g,cap,?_,hg,λj t ht=>?_⟩
    ·unfold JaQ;rw [he,hy,hz]
    ·rw [List.getElem?_map] at ht
     obtain ⟨t',h1,rfl⟩:=Option.map_eq_some_iff.1 ht
     exact hcs j t' h1
   refine (JeO E wd hw1 hw h hh c hc s1 s2 W (hE.tch hT noE) x y z (w1.1.length+1) x' y' z' (w2.1.length+1) (XP wd w1) (XP wd w2) (λe _=>∃sx sy,e=.returned (.tuple #[.string sx,.string sy,.nilIface])/\sx.size<=1000/\sy.size<=1000/\sx ≠ sy/\dgW wd sx.data.toList=dgW wd sy.data.toList/\Yj (w1.nodes (dgW wd)) (w2.nodes (dgW wd))=some (sx.data.toList,sy.data.toList)) (λg V V' h k=>h.tch k) (HC1 x y z hxyz) HC2 (λV hV=>hL.tch (hT.go hV) (λh=>h)) (λhne V g g' cap cap' hV p1 p2=>?_) (λg V V' h k=>h.tch k)).mono ?_
   ·obtain ⟨a,b,hp,hab,hd⟩:=Wy.sound (dgW wd) wd (Jp wd hw) (Jd c) h.2.2.2 w1 w2 hh1 hh2 (λx hx=>(ok1.key x hx).2.2) (λx hx=>(ok2.key x hx).2.2) (λh=>hne (hsame.2 h))
    obtain ⟨q,post,hz,hq⟩:=Jdv _ _ a b hp
    have hl1:((w1.nodes (dgW wd)).map (λt=>(⟨t.toArray⟩:BA))).length=w1.1.length+1:=by rw [QL];exact Xh _ _ _ _
    have hl2:((w2.nodes (dgW wd)).map (λt=>(⟨t.toArray⟩:BA))).length=w2.1.length+1:=by rw [QL];exact Xh _ _ _ _
    have hne2:(⟨a.toArray⟩:BA) ≠ ⟨b.toArray⟩:=λh=>hab (by simpa using h)
    have hpi:=Jf7 g cap g' cap' _ _ (by rw [hl1];have:=ok1.len;omega) q post _ hz hq hne2 V p1.1 p2.1 p1.2 p2.2
    rw [hl1,hl2] at hpi
    refine (callsIn_wide.1 hpi).mono ?_
    rintro e w' ⟨rfl,hB⟩
    exact ⟨(Tch.of_below hB).mono (λ_ hj=>.inr hj),_,_,⟨_,_,rfl,by rw [Js];exact Je5 hw ok1 (Jbu _ _ _ _ hp).1,by rw [Js];exact Je5 hw ok2 (Jbu _ _ _ _ hp).2,hne2,by simpa using hd,by simpa using hp⟩,rfl⟩
   ·rintro e w' ⟨ht,hs,hd⟩
    by_cases hsm:w1.said (Jd c)=w2.said (Jd c)
    ·obtain ⟨t,u,he⟩:=hs (hsame.2 hsm)
     refine ⟨ht,_,_,_,he,.inr ⟨⟨t,u,rfl⟩,?_⟩⟩
     show Jcc _ _ _ _ _ _ _
     simp only [Jcc,if_pos hsm]
     exact ⟨trivial,trivial,trivial⟩
    ·obtain ⟨sx,sy,he,h1,h2,h3,h4⟩:=hd (λh=>hsm (hsame.1 h))
     refine ⟨ht,_,_,_,he,.inl ⟨rfl,?_⟩⟩
     show Jcc _ _ _ _ _ _ _
     simp only [Jcc,if_neg hsm]
     exact ⟨trivial,h1,h2,h3,h4⟩
