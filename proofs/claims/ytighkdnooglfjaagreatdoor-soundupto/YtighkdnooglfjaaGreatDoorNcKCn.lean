import Derived.Test.YtighkdnooglfjaaGreatDoorNcVfM
import Derived.Test.YtighkdnooglfjaaGreatDoorNcKSw
namespace Go.Proofs.YtighkdnooglfjaaGreatDoor
open Go.Proofs.Tryz
set_option maxRecDepth 100000
set_option maxHeartbeats 4000000
open Go.RowKit

def Told (wd:Nat) (x1 x2:Int) (y1 z1 y2 z2:Nat) (sx sy:BA) (b:Bool):Prop:=
 (x2=0/\y2=0/\z2=0/\b=false/\sx=⟨#[]⟩/\sy=⟨#[]⟩)\/(x2 ≠ 0/\x1=x2/\y1=y2/\z1=z2/\b=false/\sx=⟨#[]⟩/\sy=⟨#[]⟩)\/(x2 ≠ 0/\¬(x1=x2/\y1=y2/\z1=z2)/\b=true/\sx.size<=1000/\sy.size<=1000/\sx ≠ sy/\dgW wd sx.data.toList=dgW wd sy.data.toList)
theorem Jlc {wd:Nat} {k:Key} {w1:Wy} {r:Option Wy} {sx sy:BA} {b:Bool} (h:Jcc wd k r (some w1) sx sy b):Told wd (Xp (some w1) k).1 (Xp r k).1 (Xp (some w1) k).2.1 (Xp (some w1) k).2.2 (Xp r k).2.1 (Xp r k).2.2 sx sy b:=by
 cases r with
 | none=>obtain ⟨e1,e2,e3⟩:=h;exact .inl ⟨rfl,rfl,rfl,e1,e2,e3⟩
 | some w2=>
  unfold Jcc at h
  dsimp only at h
  split at h
  ·rename_i he
   obtain ⟨e1,e2,e3⟩:=h
   refine .inr (.inl ⟨?_,?_,?_,?_,e1,e2,e3⟩)
   ·unfold Xp;dsimp only;split <;> simp
   ·unfold Xp;dsimp only;rw [he]
   ·unfold Xp;dsimp only;rw [he]
   ·unfold Xp;dsimp only;rw [he]
  ·rename_i hne
   refine .inr (.inr ⟨?_,?_,h.1,h.2.1,h.2.2.1,h.2.2.2.1,h.2.2.2.2.1⟩)
   ·unfold Xp;dsimp only;split <;> simp
   ·unfold Xp
    dsimp only
    cases h1:w1.said k with
    | none=>cases h2:w2.said k with
     | none=>exact absurd (h2.trans h1.symm) hne
     | some o=>simp
    | some o=>cases h2:w2.said k with
     | none=>simp
     | some o'=>
      rintro ⟨_,e1,e2⟩
      exact hne (by rw [h1,h2];exact congrArg some (Prod.ext e1.symm e2.symm))
theorem Jjq {E:Nat->Addr} {base:Nat} (wd:Nat) (hw1:1<=wd) (hw:wd<=32) (xb:Nat) (hd:HdL) (hh:HdOk wd hd) (co:ByteArray×Int) (hco:Jk wd co) (p q:BA) (hp:p.size<=2000000) (hq:q.size<=2000000) (wy:Wy) (hwy:chk wd (Jd co) hd.2.2.2 p.data.toList=some wy) (w:World) (hF:Xc E base w) (hA:Ast w) (hL:Alk w) (hx:w.cell? ⟨xb,1,none⟩=some (.int .i64 (wd:Int))):
  Calls prog 25 #[.pointer (some ⟨xb,0,none⟩),.string ⟨(hdrB hd).toArray⟩,.agg #[.string co.1,.int .i64 co.2],.string p,.string q] w λe w'=>e=.returned (.bool true)/\Tch NoB w w':=by
 have HV:Hid (∀s:BA,s.size<=2000000->∀V,Tch NoB w V->Calls prog 47 #[.int .i64 (wd:Int),.string ⟨(hdrB hd).toArray⟩,.agg #[.string co.1,.int .i64 co.2],.string s] V _):=λs hs V hT=>JgA E wd hw1 hw hd hh co hco s hs V (hF.tch hT (λ_ e=>e.elim)).env (hA.tch hT (λh=>h))
 have HV1:=HV.o p hp
 have HV2:=HV.o q hq
 have HX:Hid (∀V,Tch NoB w V->Calls prog 51 #[.int .i64 (wd:Int),.string ⟨(hdrB hd).toArray⟩,.agg #[.string co.1,.int .i64 co.2],.string q,.string p] V λe w'=>Tch NoB V w'/\∃sx sy b,Told wd (Xp (chk wd (Jd co) hd.2.2.2 p.data.toList) (Jd co)).1 (Xp (chk wd (Jd co) hd.2.2.2 q.data.toList) (Jd co)).1 (Xp (chk wd (Jd co) hd.2.2.2 p.data.toList) (Jd co)).2.1 (Xp (chk wd (Jd co) hd.2.2.2 p.data.toList) (Jd co)).2.2 (Xp (chk wd (Jd co) hd.2.2.2 q.data.toList) (Jd co)).2.1 (Xp (chk wd (Jd co) hd.2.2.2 q.data.toList) (Jd co)).2.2 sx sy b/\e=.returned (.tuple #[.string sx,.string sy,.bool b])):=λV hT=>by
  refine (JeL E wd hw1 hw hd hh co hco q p hq hp V (hF.tch hT (λ_ e=>e.elim)).env (hA.tch hT (λh=>h)) (hL.tch hT (λh=>h))).mono ?_
  rintro e w' ⟨ht,sx,sy,b,hb,he⟩
  rw [hwy] at hb ⊢
  exact ⟨ht,sx,sy,b,Jlc hb,he⟩
 have HDG:Hid (∀(s:BA) V,s.size<=1000->Tch NoB w V->Calls prog 39 #[.int .i64 (wd:Int),.string s] V λe w'=>e=.returned (.string (dgW wd s.data.toList))/\Tch NoB V w'):=λs V hs hT=>by
  have hE:=(hF.tch hT (λ_ e=>e.elim)).env
  exact ZY wd s V hw1 hw (by omega) (Qk (by decide) hE.size) hE.table
 clear HV hF hA hL hwy hh hco hp hq
 generalize (Xp (chk wd (Jd co) hd.2.2.2 p.data.toList) (Jd co)).1=x1 at *
 generalize (Xp (chk wd (Jd co) hd.2.2.2 p.data.toList) (Jd co)).2.1=y1 at *
 generalize (Xp (chk wd (Jd co) hd.2.2.2 p.data.toList) (Jd co)).2.2=z1 at *
 generalize (Xp (chk wd (Jd co) hd.2.2.2 q.data.toList) (Jd co)).1=x2 at *
 generalize (Xp (chk wd (Jd co) hd.2.2.2 q.data.toList) (Jd co)).2.1=y2 at *
 generalize (Xp (chk wd (Jd co) hd.2.2.2 q.data.toList) (Jd co)).2.2=z2 at *
 generalize (⟨(hdrB hd).toArray⟩:BA)=hb at *
 have HV1:Hid (∀V,Tch NoB w V->_):=HV1
 have HV2:Hid (∀V,Tch NoB w V->_):=HV2
 obtain ⟨cs,cN⟩:=co
 dsimp only at HV1 HV2 HX ⊢
 obtain ⟨W,hW⟩:∃W,W=w.alloc (.cells #[.string cs,.int .i64 cN] 49):=⟨_,rfl⟩
 have tA:Tch NoB w W:=by rw [hW];exact Ta _ _ _
 have hrow:W.heap[w.heap.size]? =some (.cells #[.string cs,.int .i64 cN] 49):=by rw [hW];exact Qf _ _
 have HC:Hid (∀V,Tch NoB W V->V.cell? ⟨xb,1,none⟩=some (.int .i64 (wd:Int))/\V.cell? ⟨w.heap.size,0,none⟩=some (.string cs)/\V.cell? ⟨w.heap.size,1,none⟩=some (.int .i64 cN)):=λV hT=>by
  have h2:=(hT.block _ (Jb hrow) (λh=>h)).trans hrow
  exact ⟨((tA.go hT).cell (Qr _ _ hx) (λh=>h)).trans hx,Ja h2,Ja h2⟩
 have HTA:Hid (Tch NoB w W):=tA
 have HW:Hid (W=_):=hW
 clear hrow hW tA hx
 obtain ⟨a1,a3,a4⟩:=HC.o W (Te _ _)
 go_enter func25,ntmps25
 go_upto_region 1 with fail
 rw [<-HW.o]
 have hlt1:w.heap.size<W.heap.size:=Qr _ _ a3
 have hne1:¬w.heap.size=W.heap.size:=by omega
 have hne2:¬W.heap.size=w.heap.size:=by omega
 have hlt3:xb<W.heap.size:=Qr _ _ a1
 have hne3:¬xb=W.heap.size:=by omega
 have hne4:¬W.heap.size=xb:=by omega
 go_cut [11,12] (λv11 v12 wx=>∃(ob:Nat),v11=.int .i64 x1/\v12=.pointer (some ⟨ob,0,none⟩)/\Hid (wx.heap[ob]? =some (.cells #[.int .u64 (y1:Int),.int .u8 (z1:Int)] 80))/\Hid (Tch NoB W wx))
 case first=>
  go_region_with (go_at_call 47;first
   | (refine (HV1.o _ (HTA.o.go (Td _ W 1))).mono ?_;rintro _ w3 ⟨ht3,rfl⟩;have HT3:Hid (Tch NoB W w3):=(Td NoB W 1).go ht3;clear ht3)
   | (refine (HV1.o _ (HTA.o.go (Tch.box W _))).mono ?_;rintro _ w3 ⟨ht3,rfl⟩;have HT3:Hid (Tch NoB W w3):=(Tch.box W _).go ht3;have hB:w3.heap[W.heap.size]? =some (.cells #[.int .u64 0,.int .u8 0] 80):=(ht3.block W.heap.size (by simp [World.drew]) (λh=>h)).trans (Qf W _);have g0:w3.cell? ⟨W.heap.size,0,none⟩=some (.int .u64 0):=Ja hB;have g1:w3.cell? ⟨W.heap.size,1,none⟩=some (.int .u8 0):=Ja hB;have gF:∀j,w3.frozen? ⟨W.heap.size,j,none⟩=false:=λj=>Qg _ _ _ _ _ hB;have HB:Hid (w3.heap[W.heap.size]? =_):=hB;clear ht3 hB))
  all_goals
   go_wp2
   go_meet
  all_goals first
   | exact ⟨w3.heap.size,rfl,rfl,Qf _ _,HT3.o.go (Ta _ _ _)⟩
   | exact ⟨W.heap.size,rfl,rfl,(by rw [set2 _ _ _ _ _ _ _ HB.o];exact Qi _ _ _ _ _ _ HB.o),(by rw [set2 _ _ _ _ _ _ _ HB.o];exact HT3.o.trans (Ts _ _ _) (λj hj=>.inr (by rw [hj];exact Ql _)))⟩
 case rest=>
 obtain ⟨ob,rfl,rfl,HOB,HT1⟩:=hcut
 obtain ⟨w1,hw1'⟩:∃w1,w1=wc:=⟨wc,rfl⟩
 subst hw1'
 have HOC:Hid (∀V,Tch NoB w1 V->V.cell? ⟨ob,0,none⟩=some (.int .u64 (y1:Int))/\V.cell? ⟨ob,1,none⟩=some (.int .u8 (z1:Int))):=λV hT=>by
  have:=(hT.block _ (Jb HOB.o) (λh=>h)).trans HOB.o
  exact ⟨Ja this,Ja this⟩
 clear a1 a3 a4 HV1 HOB hlt1 hne1 hne2 hlt3 hne3 hne4 HW
 obtain ⟨a1,a3,a4⟩:=HC.o w1 HT1.o
 have hlt1:w.heap.size<w1.heap.size:=Qr _ _ a3
 have hne1:¬w.heap.size=w1.heap.size:=by omega
 have hne2:¬w1.heap.size=w.heap.size:=by omega
 have hlt3:xb<w1.heap.size:=Qr _ _ a1
 have hne3:¬xb=w1.heap.size:=by omega
 have hne4:¬w1.heap.size=xb:=by omega
 go_upto_region 2 with fail
 go_cut [13,14] (λv11 v12 wx=>∃(ob:Nat),v11=.int .i64 x2/\v12=.pointer (some ⟨ob,0,none⟩)/\Hid (wx.heap[ob]? =some (.cells #[.int .u64 (y2:Int),.int .u8 (z2:Int)] 80))/\Hid (Tch NoB w1 wx))
 case first=>
  go_region_with (go_at_call 47;first
   | (refine (HV2.o _ (HTA.o.go (HT1.o.go (Td _ w1 1)))).mono ?_;rintro _ w3 ⟨ht3,rfl⟩;have HT3:Hid (Tch NoB w1 w3):=(Td NoB w1 1).go ht3;clear ht3)
   | (refine (HV2.o _ (HTA.o.go (HT1.o.go (Tch.box w1 _)))).mono ?_;rintro _ w3 ⟨ht3,rfl⟩;have HT3:Hid (Tch NoB w1 w3):=(Tch.box w1 _).go ht3;have hB:w3.heap[w1.heap.size]? =some (.cells #[.int .u64 0,.int .u8 0] 80):=(ht3.block w1.heap.size (by simp [World.drew]) (λh=>h)).trans (Qf w1 _);have g0:w3.cell? ⟨w1.heap.size,0,none⟩=some (.int .u64 0):=Ja hB;have g1:w3.cell? ⟨w1.heap.size,1,none⟩=some (.int .u8 0):=Ja hB;have gF:∀j,w3.frozen? ⟨w1.heap.size,j,none⟩=false:=λj=>Qg _ _ _ _ _ hB;have HB:Hid (w3.heap[w1.heap.size]? =_):=hB;clear ht3 hB))
  all_goals
   go_wp2
   go_meet
  all_goals first
   | exact ⟨w3.heap.size,rfl,rfl,Qf _ _,HT3.o.go (Ta _ _ _)⟩
   | exact ⟨w1.heap.size,rfl,rfl,(by rw [set2 _ _ _ _ _ _ _ HB.o];exact Qi _ _ _ _ _ _ HB.o),(by rw [set2 _ _ _ _ _ _ _ HB.o];exact HT3.o.trans (Ts _ _ _) (λj hj=>.inr (by rw [hj];exact Ql _)))⟩
 case rest=>
 obtain ⟨ub,rfl,rfl,HUB,HT2⟩:=hcut
 obtain ⟨w2,hw2'⟩:∃w2,w2=wc:=⟨wc,rfl⟩
 subst hw2'
 have HUC:Hid (∀V,Tch NoB w2 V->V.cell? ⟨ub,0,none⟩=some (.int .u64 (y2:Int))/\V.cell? ⟨ub,1,none⟩=some (.int .u8 (z2:Int))):=λV hT=>by
  have:=(hT.block _ (Jb HUB.o) (λh=>h)).trans HUB.o
  exact ⟨Ja this,Ja this⟩
 clear a1 a3 a4 HV2 HUB hlt1 hne1 hne2 hlt3 hne3 hne4
 obtain ⟨a1,a3,a4⟩:=HC.o w2 (HT1.o.go HT2.o)
 go_upto_region 3 with fail
 go_cut [15,16,17] (λv15 v16 v17 wx=>∃(sx sy:BA) (b:Bool),v15=.string sx/\v16=.string sy/\v17=.bool b/\Hid (Told wd x1 x2 y1 z1 y2 z2 sx sy b)/\Hid (Tch NoB w2 wx))
 case first=>
  go_region_with (go_at_call 51;refine (HX.o _ (HTA.o.go ((HT1.o.go HT2.o).go (Td _ w2 1)))).mono ?_;rintro _ w3 ⟨ht3,sx,sy,b,htd,rfl⟩;have HT3:Hid (Tch NoB w2 w3):=(Td NoB w2 1).go ht3;have HTD:Hid (Told wd x1 x2 y1 z1 y2 z2 sx sy b):=htd;clear ht3 htd)
  all_goals
   go_wp2
   go_meet
   exact ⟨sx,sy,b,rfl,rfl,rfl,HTD,HT3⟩
 case rest=>
 obtain ⟨sx,sy,b,rfl,rfl,rfl,HTD,HT3⟩:=hcut
 obtain ⟨w3,hw3'⟩:∃w3,w3=wc:=⟨wc,rfl⟩
 subst hw3'
 clear a1 a3 a4 HX
 obtain ⟨a1,a3,a4⟩:=HC.o w3 ((HT1.o.go HT2.o).go HT3.o)
 obtain ⟨o0,o1⟩:=HOC.o w3 (HT2.o.go HT3.o)
 obtain ⟨u0,u1⟩:=HUC.o w3 HT3.o
 have HTB:Hid (Tch NoB w w3):=HTA.o.go ((HT1.o.go HT2.o).go HT3.o)
 rcases HTD.o with ⟨rfl,rfl,rfl,rfl,rfl,rfl⟩ | ⟨hx2,rfl,rfl,rfl,rfl,rfl,rfl⟩ | ⟨hx2,hne,rfl,hz1,hz2,hss,hdd⟩
 ·clear HC HOC HUC HT1 HT2 HT3 HTA HTD HDG
  go_wp2
  go_ret
  exact ⟨rfl,HTB.o⟩
 ·clear HC HOC HUC HT1 HT2 HT3 HTA HTD HDG
  go_wp2
  go_ret
  exact ⟨rfl,HTB.o⟩
 ·have HNE:Hid (¬(x1=x2/\y1=y2/\z1=z2)):=hne
  have HSZ:Hid (sx.size<=1000/\sy.size<=1000):=⟨hz1,hz2⟩
  have HDD:Hid (dgW wd sx.data.toList=dgW wd sy.data.toList):=hdd
  have hst:¬sx.toList=sy.toList:=λh=>hss (Zz h)
  have hst2:(sx.toList == sy.toList)=false:=by simp [hst]
  have HCC:Hid (∀V,Tch NoB w3 V->V.cell? ⟨xb,1,none⟩=some (.int .i64 (wd:Int))):=λV hT=>(HC.o V (((HT1.o.go HT2.o).go HT3.o).go hT)).1
  clear HC HOC HUC HT1 HT2 HT3 HTA HTD hne hz1 hz2 hdd a3 a4
  have HDX:Hid (∀V,Tch NoB w3 V->Calls prog 39 #[.int .i64 (wd:Int),.string sx] V λe w'=>e=.returned (.string (dgW wd sx.data.toList))/\Tch NoB V w'):=λV hT=>HDG.o sx V HSZ.o.1 (HTB.o.go hT)
  have HDY:Hid (∀V,Tch NoB w3 V->Calls prog 39 #[.int .i64 (wd:Int),.string sy] V λe w'=>e=.returned (.string (dgW wd sx.data.toList))/\Tch NoB V w'):=λV hT=>by rw [HDD.o];exact HDG.o sy V HSZ.o.2 (HTB.o.go hT)
  clear HDG HDD HSZ
  generalize dgW wd sx.data.toList=dg at *
  go_upto_region 4 with fail
  go_cut [64] (λv wx=>v=.bool false/\wx=w3)
  case first=>
   by_cases h1:x1=x2
   ·by_cases h2:y1=y2
    ·have h3:¬(z1:Int)=(z2:Int):=λh=>HNE.o ⟨h1,h2,by omega⟩
     subst h1 h2
     go_wp2
     go_meet
     exact ⟨by simp [hx2],rfl⟩
    ·have h3:¬(y1:Int)=(y2:Int):=λh=>h2 (by omega)
     subst h1
     go_wp2
     go_meet
     exact ⟨by simp [hx2],rfl⟩
   ·go_wp2
    go_meet
    exact ⟨by simp [hx2],rfl⟩
  case rest=>
  obtain ⟨rfl,hwc⟩:=hcut
  subst hwc
  clear o0 o1 u0 u1 HNE hx2
  go_upto_region 6 with fail
  go_cut [10] (λv wx=>v=.bool true/\Hid (Tch NoB wc wx))
  case first=>
   go_region_held3 (λV=>V.cell? ⟨xb,1,none⟩=some (.int .i64 (wd:Int))) (go_keep) ((first
    | (go_at_call_of 39 (Value.string sx);refine (HDX.o _ (Td _ wc 1)).mono ?_;rintro _ w4 ⟨rfl,ht4⟩;have HT4:Hid (Tch NoB wc w4):=(Td NoB wc 1).go ht4;have f0:=HCC.o _ HT4.o;clear ht4)
    | (go_at_call_of 39 (Value.string sy);refine (HDY.o _ HT4.o).mono ?_;rintro _ w5 ⟨rfl,ht5⟩;have HT5:Hid (Tch NoB wc w5):=HT4.o.go ht5;have f1:=HCC.o _ HT5.o;clear ht5)))
   all_goals
    go_wp2
    go_meet
    exact ⟨rfl,HT5⟩
  case rest=>
  obtain ⟨rfl,HT5⟩:=hcut
  go_wp2
  go_ret
  exact ⟨rfl,HTB.o.go HT5.o⟩

structure JiH (wd xb lb n:Nat) (s:BA) (N:Int) (w:World) (pf hb:BA):Prop where
 pos:1<=pf.size
 len:pf.size<=10000
 query:∀V,Tch NoB w V->Calls prog 24 #[.pointer (some ⟨lb,0,none⟩),.int .i64 (n:Int),.agg #[.string s,.int .i64 N]] V λe w'=>e=.returned (.tuple #[.string pf,.int .i64 0])/\Tch NoB V w'
 header:∀V,Tch NoB w V->Calls prog 16 #[.pointer (some ⟨lb,0,none⟩),.int .i64 (n:Int)] V λe w'=>e=.returned (.tuple #[.string hb,.int .i64 0])/\Tch NoB V w'
 contra:∀V (q:BA),q.size<=2000000->Tch NoB w V->Calls prog 25 #[.pointer (some ⟨xb,0,none⟩),.string hb,.agg #[.string s,.int .i64 N],.string pf,.string q] V λe w'=>e=.returned (.bool true)/\Tch NoB V w'
theorem Jia {E:Nat->Addr} {wd base:Nat} (L:Led E wd base) (Q:LedQ L) (hw1:1<=wd) (hw:wd<=32) {w:World} {xb lb:Nat} {F:Nat->Prop} {ch:Ch} {vst:Value} {sl:List Sl} {states:List (List Held)} (hF:Xc E base w) (hA:Ast w) (hL:Alk w) (hS:JS L w xb lb F 0 ch vst sl states) (hlen:states.length<=1000000000) (n:Nat) (hn:n<states.length) (s:BA) (N:Int) (hco:Jk wd (s,N)):∃pf hb,JiH wd xb lb n s N w pf hb:=by
 have hcl:ch.length=states.length:=hS.len.2.1
 have hcn:ch[n]? =some ch[n]:=Qd (by omega)
 obtain ⟨c',hc'⟩:∃c',c'=ch[n]:=⟨_,rfl⟩
 rw [<-hc'] at hcn
 obtain ⟨l,hl⟩:∃l,l=states[n]:=⟨_,rfl⟩
 have hsn:states[n]? =some l:=by rw [hl];exact Qd hn
 have B:=hS.book n c' l (Nat.zero_le _) hcn hsn
 have hst:=Q.oks hS.led n c' hcn (Nat.zero_le _)
 have hwo:∀t,c'.2=some t->t.Wf/\TrOk wd t:=λt ht=>⟨B.wf t ht,by rw [ht] at hst;exact hst⟩
 obtain ⟨hd,hd1,hd2,hd3⟩:=Q.hdrs hS.led c' (QR hcn)
 obtain ⟨wy,hwy⟩:∃wy,wy=Ye (dgW wd) (Jd (s,N)) c'.2:=⟨_,rfl⟩
 have hok:WyOk wd wy:=by rw [hwy];exact Jbd (dgW wd) wd (Jp wd hw) _ c'.2 hwo
 have hbits:∀x∈wy.1,bt (Jd (s,N)) x.1=bt (JV wy) x.1:=by rw [hwy];exact JaM (dgW wd) _ c'.2 B.wf
 have hroot:dgW wd ((wy.nodes (dgW wd)).headD [])=hd.2.2.2:=by rw [hd3,hwy];exact JcG (dgW wd) _ c'.2 B.wf
 have hhdr:Ja1 ch (n:Int)=⟨(hdrB hd).toArray⟩:=by
  unfold Ja1
  rw [if_pos (by omega),Int.toNat_natCast,Qn,hcn]
  exact hd1
 have hsz:(⟨(wayB wy).toArray⟩:BA).size<=10000:=by
  rw [Js]
  have h1:=JcR hok
  have h2:8 * (wd+1) * (2+wd)<=264 * 34:=Nat.mul_le_mul (by omega) (by omega)
  omega
 refine ⟨⟨(wayB wy).toArray⟩,⟨(hdrB hd).toArray⟩,?_,hsz,λV hT=>?_,λV hT=>?_,λV q hq hT=>?_⟩
 ·rw [Js];unfold wayB;rw [Qe,Jg];omega
 ·rw [hwy];exact Q.qin n c' (s,N) (L.keep hS.led hT (λ_ e=>e.elim)) (hF.tch hT (λ_ e=>e.elim)) hcn (Nat.zero_le _) hwo hco
 ·have:=L.header (n:Int) (L.keep hS.led hT (λ_ e=>e.elim)) (hF.tch hT (λ_ e=>e.elim)) (by omega) (by omega)
  rw [hhdr,if_pos (by omega)] at this
  exact this
 ·exact Jjq wd hw1 hw xb hd hd2 (s,N) hco _ q (by omega) hq wy (by rw [show (⟨(wayB wy).toArray⟩:BA).data.toList=wayB wy by simp];exact Jkv hw hok hbits hroot) V (hF.tch hT (λ_ e=>e.elim)) (hA.tch hT (λh=>h)) (hL.tch hT (λh=>h)) (Ja (hS.next hT).row)
theorem Jjr {E:Nat->Addr} {base:Nat} (M:JgG E base) (hQ:∀wd,LedQ (M.led wd)) (c:Int) (v1 v2:Value) (first:List (Nat×Nat)) (script:List Jb4) (ht:Int) (cn:Int) (at':Int) (raw:BA) (w:World) (hF:Xc E base w) (hA:Ast w) (hL:Alk w) (hb:base<=w.heap.size) (h1:Jo base w v1 first) (ho:∀o∈first,Jr o) (hc1: -9223372036854775808<=c) (hc2:c<9223372036854775808)
  (h2:ZU base w v2 script) (hpo:∀s∈script,∀p∈s.pays,p.Ok) (hn:script.length<=2097152) (hh: -9223372036854775808<=ht/\ht<9223372036854775808) (hcn: -9223372036854775808<=cn/\cn<9223372036854775808) (hat: -9223372036854775808<=at'/\at'<9223372036854775808) (hraw:raw.size<=2000000):
  Calls prog 7 #[.int .i64 c,v1,v2,.int .i64 ht,.int .i64 cn,.int .i64 at',.string raw] w λe w'=>e=.returned (.bool true)/\Tch (λj=>base<=j) w w':=by
 have HSH:Hid (Calls prog 14 #[.int .i64 c,v1] w (JiJ M w)):=JlO M c base v1 first w hF hb h1 ho hc1 hc2
 obtain ⟨a1,n1,rfl⟩:=h1.shape
 obtain ⟨a2,n2,rfl⟩:=h2.shape
 have HF:Hid (Xc E base w/\base<=w.heap.size):=⟨hF,hb⟩
 have HST:Hid (ZU base w (.slice a2 script.length n2) script):=h2
 have HPO:Hid (∀s∈script,∀p∈s.pays,p.Ok):=hpo
 have HN:Hid (script.length<=2097152):=hn
 have HAL:Hid (∀V,Tch (λj=>base<=j) w V->Ast V/\Alk V):=λV hT=>⟨hA.tch hT (λh=>absurd (Qm hF.vars h) (by decide)),hL.tch hT (λh=>absurd (Qm hF.vars h) (by decide))⟩
 have HNM:Hid ((-9223372036854775808<=ht/\ht<9223372036854775808)/\(-9223372036854775808<=cn/\cn<9223372036854775808)/\(-9223372036854775808<=at'/\at'<9223372036854775808)/\raw.size<=2000000):=⟨hh,hcn,hat,hraw⟩
 clear hF hb h1 ho h2 hpo hn hA hL hh hcn hat hraw
 go_enter func7,ntmps7
 go_wp2_with fail
 refine HSH.o.mono ?_
 rintro e w1 ⟨ht1,wd,xb,lb,F1,ch1,vst1,sl1,states1,hw1,hw,rfl,hS,hl1,hl3⟩
 have HT1:Hid (Tch (λj=>base<=j) w w1):=ht1.mono noE
 have HS1:Hid (JS (M.led wd) w1 xb lb F1 0 ch1 vst1 sl1 states1):=hS
 have HL1:Hid (states1.length=1/\∀l∈states1,l.length<=3):=⟨hl1,hl3⟩
 have HQ:Hid (LedQ (M.led wd)):=hQ wd
 clear ht1 hS hl1 hl3 HSH hQ
 generalize M.led wd=L at *
 go_wp2
 go_loopw [16] (λi wr=>∃(k:Nat) (F:Nat->Prop) (ch:Ch) (vst:Value) (sl:List Sl) (states:List (List Held)),k<=script.length/\i=.int .i64 (k:Int)/\Hid (JS L wr xb lb F 0 ch vst sl states)/\Hid (Tch (λj=>base<=j) w wr)/\Hid (states.length<=1+2 * k/\∀l∈states,l.length<=3+9 * k)) (λi _=>script.length - (intOf i).toNat)
 case atStart=>exact ⟨0,F1,ch1,vst1,sl1,states1,by omega,rfl,HS1,HT1,⟨by have:=HL1.o.1;omega,λl hl=>by have:=HL1.o.2 l hl;omega⟩⟩
 case round=>
  obtain ⟨k,F,ch,vst,sl,states,hk,rfl,HS,HT,HL⟩:=hrel
  have HFr:Hid (Xc E base wr):=HF.o.1.tch HT.o (λ_ h=>h)
  have HLL:Hid (states.length<=1000000000/\∀l∈states,l.length<1000000000):=⟨by have:=HL.o.1;have:=HN.o;omega,λl hl=>by have:=HL.o.2 l hl;have:=HN.o;omega⟩
  by_cases hlt:k<script.length
  ·rcases HST.o with ⟨_,e2⟩ | ⟨g,o,cc,e,hg,hcell⟩
   ·rw [e2] at hlt;simp at hlt
   simp only [Qy,true_and] at e
   obtain ⟨rfl,rfl⟩:=e
   obtain ⟨va,hpl,d0,d1,d2,d3⟩:=hcell k hlt
   have hgz:g<w.heap.size:=Qk hg HF.o.2
   have HCE:Hid (∀W,Tch (λj=>base<=j) w W->∀x,W.cell? ⟨g,x,none⟩=w.cell? ⟨g,x,none⟩):=λW hT x=>hT.cell (p:=⟨g,x,none⟩) hgz (λe=>by simp only at e;omega)
   have q0:=(HCE.o wr HT.o (o+k * 4)).trans d0
   have q1:=(HCE.o wr HT.o (o+k * 4+1)).trans d1
   have q2:=(HCE.o wr HT.o (o+k * 4+2)).trans d2
   have q3:=(HCE.o wr HT.o (o+k * 4+3)).trans d3
   have hlti:(k:Int)<(script.length:Int):=by omega
   have HPL:Hid (Ys base w va script[k].pays):=hpl
   have HPK:Hid (∀p∈script[k].pays,p.Ok):=HPO.o _ (Qx hlt)
   obtain ⟨vp0,vp1,hvp⟩:∃x y,va=.slice x script[k].pays.length y:=(hpl.at HF.o.2).shape
   subst hvp
   clear hcell d0 d1 d2 d3 hpl
   have HLT:Hid (k<script.length):=hlt
   have hkb:k<2097152:=by have:=HN.o;omega
   generalize script[k].kind=kd at *
   generalize script[k].a=sa at *
   generalize script[k].b=sb at *
   generalize script[k].pays=ps at *
   clear hlt
   by_cases hk2:kd=2
   ·subst hk2
    clear q1 q2 q3
    go_wp2
    go_roundw
    case rel=>exact ⟨k+1,F,ch,vst,sl,states,HLT.o,by go_num,HS,HT,⟨by have:=HL.o.1;omega,λl hl=>by have:=HL.o.2 l hl;omega⟩⟩
    case measure=>have:=HLT.o;simp [intOf];omega
   ·by_cases hk1:kd=1
    ·subst hk1
     have HDO:Hid (Calls prog 20 #[.pointer (some ⟨xb,0,none⟩),.agg #[.int .i64 1,.int .i64 sa,.int .i64 sb,.slice vp0 ps.length vp1]] wr λe w'=>e=.returned (.bool true)/\∃V,Tch NoB wr V/\∃F' ch' vst' sl' states',JS L w' xb lb F' 0 ch' vst' sl' states'/\Tch (λj=>F j\/j=xb\/some j=vst.ownBlock) V w'/\states'.length<=states.length+1/\∀l∈states',∃l0∈states,l.length<=l0.length+9):=by
      refine JkC xb sa sb vp0 ps.length vp1 (λV w'=>∃F' ch' vst' sl' states',JS L w' xb lb F' 0 ch' vst' sl' states'/\Tch (λj=>F j\/j=xb\/some j=vst.ownBlock) V w'/\states'.length<=states.length+1/\∀l∈states',∃l0∈states,l.length<=l0.length+9) (λV hT=>?_)
      have hTV:Tch (λj=>base<=j) w V:=HT.o.trans hT noE
      have hbV:base<=V.heap.size:=Qm HF.o.2 hTV.size
      refine (JlN L hw1 hw xb lb F 0 ch vst sl states _ ps V (HF.o.1.tch hTV (λ_ h=>h)) (HS.o.next hT) ((HPL.o.tch HF.o.2 hTV (λ_ h=>h)).at hbV) HPK.o (λl hl=>by have:=HL.o.2 l hl;have:=HN.o;omega) (by have:=HS.o.len;have:=HL.o.1;have:=HN.o;omega)).mono ?_
      rintro e w' ⟨he,F',ch',vst',sl',states',g1,g2,_,_,g5,g6⟩
      exact ⟨he,F',ch',vst',sl',states',g1,g2,g5,g6⟩
     go_wp2_with fail
     refine HDO.o.mono ?_
     rintro _ w2 ⟨rfl,V,hTV,F2,ch2,vst2,sl2,states2,hS2,hT2,hl2,hh2⟩
     have hT2W:Tch (λj=>F j\/j=xb\/some j=vst.ownBlock) wr w2:=(hTV.mono noE).trans hT2 (λ_ h=>.inl h)
     have HS2:Hid (JS L w2 xb lb F2 0 ch2 vst2 sl2 states2):=hS2
     have HT2:Hid (Tch (λj=>base<=j) w w2):=HT.o.trans hT2W (λj hj=>.inl (by
      rcases hj with h | rfl | h
      ·exact (L.own HS.o.led j h).1
      ·exact HS.o.low
      ·exact (HS.o.st.own j h.symm).1))
     have HL2:Hid (states2.length<=1+2 * (k+1)/\∀l∈states2,l.length<=3+9 * (k+1)):=⟨by have:=HL.o.1;omega,λl hl=>by obtain ⟨l0,h0,h1⟩:=hh2 l hl;have:=HL.o.2 l0 h0;omega⟩
     clear q0 q1 q2 q3 hS2 hT2 hl2 hh2 hT2W hTV HDO
     go_wp2
     go_roundw
     case rel=>exact ⟨k+1,F2,ch2,vst2,sl2,states2,HLT.o,by go_num,HS2,HT2,HL2⟩
     case measure=>have:=HLT.o;simp [intOf];omega
    ·have HDO:Hid (Calls prog 20 #[.pointer (some ⟨xb,0,none⟩),.agg #[.int .i64 kd,.int .i64 sa,.int .i64 sb,.slice vp0 ps.length vp1]] wr λe w'=>e=.returned (.bool true)/\Tch NoB wr w'):=JkB xb kd sa sb vp0 ps.length vp1 hk1 hk2
     go_wp2_with fail
     refine HDO.o.mono ?_
     rintro _ w2 ⟨rfl,ht2⟩
     have HT2:Hid (Tch NoB wr w2):=ht2
     clear q0 q1 q2 q3 ht2 HDO
     go_wp2
     go_roundw
     case rel=>exact ⟨k+1,F,ch,vst,sl,states,HLT.o,by go_num,HS.o.next HT2.o,HT.o.trans HT2.o noE,⟨by have:=HL.o.1;omega,λl hl=>by have:=HL.o.2 l hl;omega⟩⟩
     case measure=>have:=HLT.o;simp [intOf];omega
  ·have hge:¬(k:Int)<(script.length:Int):=by omega
   obtain ⟨A1,A2,_⟩:=Jh9 L HQ.o hw1 hw HFr.o HS.o HLL.o
   obtain ⟨va,vc,_,x2,x0⟩:=HS.o.len2
   have hsp:0<states.length:=by have:=HS.o.len;omega
   have hsb:states.length<=1000000000:=HLL.o.1
   have HPI:Hid (∀V,Calls prog 22 #[.int .i64 ht,.int .i64 (states.length:Int)] V λe w'=>(∃r:Nat,r<states.length/\e=.returned (.int .i64 (r:Int)))/\w'=V):=λV=>ZZ ht states.length V HNM.o.1.1 HNM.o.1.2 hsp (by omega)
   have HCO:Hid (∀V,Tch NoB wr V->Calls prog 23 #[.pointer (some ⟨xb,0,none⟩),.int .i64 cn] V λe w'=>Tch NoB V w'/\∃(s:BA) (N:Int),Jk wd (s,N)/\e=.returned (.agg #[.string s,.int .i64 N])):=λV hT=>A1 V cn hT HNM.o.2.1.1 HNM.o.2.1.2
   have HSW:Hid (∀V (n:Nat) (s:BA) (N:Int),Tch NoB wr V->n<states.length->Jk wd (s,N)->Calls prog 21 #[.pointer (some ⟨xb,0,none⟩),.int .i64 (n:Int),.agg #[.string s,.int .i64 N]] V λe w'=>e=.returned (.bool true)/\Tch NoB V w'):=A2
   have HSN:Hid (∀(n:Nat) (s:BA) (N:Int),n<states.length->Jk wd (s,N)->∃pf hb,JiH wd xb lb n s N wr pf hb):=λn s N hn hc=>Jia L HQ.o hw1 hw HFr.o (HAL.o wr HT.o).1 (HAL.o wr HT.o).2 HS.o hsb n hn s N hc
   have hx2:=Qr _ _ x2
   have HCC:Hid (∀V,Tch NoB wr V->V.cell? ⟨xb,2,none⟩=some (.slice va states.length vc)/\V.cell? ⟨xb,0,none⟩=some (.pointer (some ⟨lb,0,none⟩))):=λV hT=>⟨(hT.cell hx2 (λh=>h)).trans x2,(hT.cell (Qr _ _ x0) (λh=>h)).trans x0⟩
   obtain ⟨sn,hsn⟩:∃sn,states.length=sn:=⟨_,rfl⟩
   rw [hsn] at HPI HSW HSN HCC x2 hsp hsb
   clear hsn A1 A2 hx2 hlt HL HLL HFr HST HPO HN HAL HS1 HL1 HT1
   go_wp2_with fail
   refine (HPI.o _).mono ?_
   rintro _ X ⟨⟨n,hn,rfl⟩,hX⟩
   rw [hX]
   clear hX X HPI
   have HNN:Hid (n<sn):=hn
   clear hn
   go_wp2_with fail
   refine (HCO.o wr (Te _ _)).mono ?_
   rintro _ w3 ⟨ht3,s,N,hco,rfl⟩
   obtain ⟨W,hW⟩:∃W,W=w3.alloc (.cells #[.string s,.int .i64 N] 49):=⟨_,rfl⟩
   have tA:Tch NoB w3 W:=by rw [hW];exact Ta _ _ _
   have hrow:W.heap[w3.heap.size]? =some (.cells #[.string s,.int .i64 N] 49):=by rw [hW];exact Qf _ _
   have HTW:Hid (Tch NoB wr W):=ht3.go tA
   have HCN:Hid (∀V,Tch NoB W V->V.cell? ⟨w3.heap.size,0,none⟩=some (.string s)/\V.cell? ⟨w3.heap.size,1,none⟩=some (.int .i64 N)):=λV hT=>by
    have h2:=(hT.block _ (Jb hrow) (λh=>h)).trans hrow
    exact ⟨Ja h2,Ja h2⟩
   have HOK:Hid (Jk wd (s,N)):=hco
   have HW:Hid (W=_):=hW
   obtain ⟨pf,hb,hsnd⟩:=HSN.o n s N HNN.o hco
   have HSD:Hid (JiH wd xb lb n s N wr pf hb):=hsnd
   clear ht3 hco tA hrow hW hsnd HSN HCO x2 x0
   obtain ⟨x2,x0⟩:=HCC.o W HTW.o
   obtain ⟨c0,c1⟩:=HCN.o W (Te _ _)
   go_upto_region 12 with fail
   rw [<-HW.o]
   go_wp2_with fail
   refine (HSW.o W n s N HTW.o HNN.o HOK.o).mono ?_
   rintro _ w4 ⟨rfl,ht4⟩
   have HT4:Hid (Tch NoB W w4):=ht4
   clear ht4 HSW x2 x0 c0 c1
   obtain ⟨x2,x0⟩:=HCC.o w4 (HTW.o.go HT4.o)
   obtain ⟨c0,c1⟩:=HCN.o w4 HT4.o
   go_upto_region 13 with fail
   go_cut [21,22] (λv21 v22 wx=>v21=.string pf/\v22=.int .i64 0/\Hid (Tch NoB W wx))
   case first=>
    go_region_with (go_at_call 24;refine (HSD.o.query _ (HTW.o.go (HT4.o.go (Td _ w4 1)))).mono ?_;rintro _ w5 ⟨rfl,ht5⟩;have HT5:Hid (Tch NoB W w5):=(HT4.o.go (Td NoB w4 1)).go ht5;clear ht5)
    all_goals
     go_wp2
     go_meet
     exact ⟨rfl,rfl,HT5⟩
   case rest=>
   obtain ⟨rfl,rfl,HT5⟩:=hcut
   obtain ⟨w5,hw5⟩:∃w5,w5=wc:=⟨wc,rfl⟩
   subst hw5
   clear x2 x0 c0 c1
   obtain ⟨x2,x0⟩:=HCC.o w5 (HTW.o.go HT5.o)
   go_wp2_with fail
   refine (HSD.o.header w5 (HTW.o.go HT5.o)).mono ?_
   rintro _ w6 ⟨rfl,ht6⟩
   have HT6:Hid (Tch NoB W w6):=HT5.o.go ht6
   have hpl:=HSD.o.pos
   have hpu:=HSD.o.len
   have hpz:¬(pf.size:Int)=0:=by omega
   have HPK:Hid (∀V,Calls prog 22 #[.int .i64 at',.int .i64 (pf.size:Int)] V λe w'=>(∃r:Nat,r<pf.size/\e=.returned (.int .i64 (r:Int)))/\w'=V):=λV=>ZZ at' pf.size V HNM.o.2.2.1.1 HNM.o.2.2.1.2 hpl (by omega)
   clear ht6 x2 x0
   go_wp2_with fail
   refine (HPK.o _).mono ?_
   rintro _ X ⟨⟨r,hr,rfl⟩,hX⟩
   rw [hX]
   clear hX X HPK
   go_wp2
   go_loopw [26] (λi wy=>∃(v:Nat),v<=257/\i=.int .i64 (v:Int)/\Hid (Tch NoB W wy)) (λi _=>257 - (intOf i).toNat)
   case atStart=>exact ⟨0,by omega,rfl,HT6⟩
   case round=>
    obtain ⟨v,hv,rfl,HTV⟩:=hrel
    obtain ⟨c0,c1⟩:=HCN.o wr HTV.o
    have HGO:Hid (∀V (q:BA),q.size<=2000000->Tch NoB W V->Calls prog 25 #[.pointer (some ⟨xb,0,none⟩),.string hb,.agg #[.string s,.int .i64 N],.string pf,.string q] V λe w'=>e=.returned (.bool true)/\Tch NoB V w'):=λV q hq hT=>HSD.o.contra V q hq (HTW.o.go hT)
    by_cases hle:v<=256
    ·have hvi:(v:Int)<=256:=by omega
     by_cases hv2:v<256
     ·have hvj:(v:Int)<256:=by omega
      have hr1:(r:Int)<(pf.size:Int):=by omega
      have HR:Hid (r<pf.size/\pf.size<=10000):=⟨hr,hpu⟩
      have hby:=ZX v (wr.alloc (.cells #[.int .u8 (v:Int)] 5)).drew wr.heap.size hv2 (Ja (Qf _ _))
      have hrl:r<=pf.size:=by omega
      have hrm:r+1<=pf.size:=by omega
      have HQS:Hid ((pf.extract 0 r++(⟨#[UInt8.ofNat v]⟩:BA)++pf.extract (r+1) pf.size).size<=2000000):=by
       have e1:(⟨#[UInt8.ofNat v]⟩:BA).size=1:=rfl
       have e2:(pf.extract 0 r++(⟨#[UInt8.ofNat v]⟩:BA)++pf.extract (r+1) pf.size).size<=20001:=by
        rw [ByteArray.size_append,ByteArray.size_append,ByteArray.size_extract,ByteArray.size_extract,e1]
        omega
       exact (by omega:(pf.extract 0 r++(⟨#[UInt8.ofNat v]⟩:BA)++pf.extract (r+1) pf.size).size<=2000000)
      have hrb:(r:Int)+1<=(pf.size:Int):=by omega
      go_upto_region 23 with fail
      go_cut [27] (λx wx=>∃q:BA,x=.string q/\Hid (q.size<=2000000)/\Hid (Tch NoB wr wx))
      case first=>
       go_region
       all_goals
        go_wp2
        go_meet
        exact ⟨_,rfl,HQS.o,Tch.box wr _⟩
      case rest=>
      obtain ⟨q,rfl,HQZ,HTX⟩:=hcut
      obtain ⟨w7,hw7⟩:∃w7,w7=wc:=⟨wc,rfl⟩
      subst hw7
      have HT7:Hid (Tch NoB W w7):=HTV.o.go HTX.o
      clear c0 c1 HTX
      obtain ⟨c0,c1⟩:=HCN.o w7 HT7.o
      go_wp2_with fail
      refine (HGO.o w7 q HQZ.o HT7.o).mono ?_
      rintro _ w8 ⟨rfl,ht8⟩
      have HT8:Hid (Tch NoB W w8):=HT7.o.go ht8
      clear ht8 c0 c1
      go_wp2
      go_roundw
      case rel=>exact ⟨v+1,by omega,by go_num,HT8⟩
      case measure=>simp [intOf];omega
     ·have hvj:¬(v:Int)<256:=by omega
      go_wp2_with fail
      refine (HGO.o wr raw HNM.o.2.2.2 HTV.o).mono ?_
      rintro _ w8 ⟨rfl,ht8⟩
      have HT8:Hid (Tch NoB W w8):=HTV.o.go ht8
      clear ht8 c0 c1
      go_wp2
      go_roundw
      case rel=>exact ⟨v+1,by omega,by go_num,HT8⟩
      case measure=>simp [intOf];omega
    ·have hvi:¬(v:Int)<=256:=by omega
     go_wp2
     go_ret
     exact ⟨rfl,(HT.o.trans HTW.o noE).trans HTV.o noE⟩
