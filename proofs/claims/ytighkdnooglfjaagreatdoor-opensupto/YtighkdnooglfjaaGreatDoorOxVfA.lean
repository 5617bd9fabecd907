import Derived.Test.YtighkdnooglfjaaGreatDoorOxChK
import Derived.Test.YtighkdnooglfjaaGreatDoorOxWyT
namespace Go.Proofs.YtighkdnooglfjaaGreatDoor
open Tryz
set_option maxRecDepth 100000
set_option maxHeartbeats 1000000
open Go.RowKit

theorem Jg1 (l:List UInt8):(⟨l.toArray⟩:BA).data.toList=l:=rfl
theorem JgT (E:Nat->Addr) (wd:Nat) (hw:wd<=32) (h:HdL) (hh:HdOk wd h) (w:World) (hE:Env E w):
  Calls prog 212 #[.int .i64 (wd:Int),.string ⟨(hdrB h).toArray⟩] w λe w'=>e=.returned (.tuple #[.string h.2.2.2,.nilIface])/\Tch NoB w w':=by
 have hlen:(hdrB h).length<=1000:=by
  obtain ⟨h1,h2,h3,h4⟩:=hh
  unfold hdrB
  simp only [Qe,Je,QA]
  have e2:h.2.1.data.size=wd:=h2
  have e3:h.2.2.1.data.size=wd:=h3
  have e4:h.2.2.2.data.size=wd:=h4
  omega
 have hrd:(PS.rd [] (hdrB h)).hdr wd (0,⟨#[]⟩,⟨#[]⟩,⟨#[]⟩)=some (h,.rd (hdrB h) []):=by
  have:=(JeL wd h (0,⟨#[]⟩,⟨#[]⟩,⟨#[]⟩) hh).rd [] []
  rw [QC] at this
  exact this
 have HHD:Hid (∀W,Tch NoB w W->Jc W w.heap.size none (wd:Int) .nilIface (.rd [] (hdrB h))->Calls prog 86 #[.pointer (some ⟨w.heap.size,0,none⟩),.agg #[.int .u64 0,.string ⟨#[]⟩,.string ⟨#[]⟩,.string ⟨#[]⟩]] W λe w'=>e=.returned (.agg #[.int .u64 (h.1:Int),.string h.2.1,.string h.2.2.1,.string h.2.2.2])/\RdTo E W w' w.heap.size (wd:Int) (some (.rd (hdrB h) []))):=λW hT hp=>JgV E hE wd hw ⟨(hdrB h).toArray⟩ (by rw [Jw];omega) h _ hrd hT hp
 obtain ⟨n,s1,s2,s3⟩:=h
 dsimp only at HHD ⊢
 clear hE hh hlen hrd
 have HL:Hid (∀hb,hb=hdrB (n,s1,s2,s3)->_):=λhb (_:hb=hdrB (n,s1,s2,s3))=>trivial
 clear HL
 generalize hhb:hdrB (n,s1,s2,s3)=hb at *
 clear hhb
 go_enter func212,ntmps212
 go_wp2_with fail
 refine (Xk _ _ _).mono ?_
 rintro _ w1 ⟨rfl,hp1,ht1⟩
 have HT1:Hid (Tch NoB w w1):=ht1
 have HP1:Hid (Jc w1 w.heap.size none (wd:Int) .nilIface (.rd [] hb)):=hp1
 clear ht1 hp1
 go_wp2_with fail
 refine (HHD.o w1 HT1.o HP1.o).mono ?_
 rintro _ w2 ⟨rfl,⟨hp2,_⟩,ht2⟩
 obtain ⟨W3,hW3⟩:∃W3,W3=w2.alloc (.cells #[.int .u64 (n:Int),.string s1,.string s2,.string s3] 167):=⟨_,rfl⟩
 have hA:Tch NoB w2 W3:=by rw [hW3];exact Tch.alloc _ _ _
 have HT2:Hid (Tch NoB w W3):=(HT1.o.trans ht2 (λj hj=>.inr (Nat.le_of_eq hj.symm))).go hA
 have HP2:Hid (Jc W3 w.heap.size none (wd:Int) .nilIface (.rd hb [])):=hp2.tch hA (λh=>h) (λ_ _ h=>h)
 have hr3:W3.heap[w2.heap.size]? =some (.cells #[.int .u64 (n:Int),.string s1,.string s2,.string s3] 167):=by rw [hW3];exact Qf _ _
 have c3:W3.cell? ⟨w2.heap.size,3,none⟩=some (.string s3):=Ja hr3
 have C3:Hid _:=hr3
 have HW3:Hid (W3=_):=hW3
 have HDN:Hid (∀W,Tch NoB W3 W->Calls prog 88 #[.pointer (some ⟨w.heap.size,0,none⟩)] W λe w'=>e=.returned .nilIface/\Tch NoB W w'):=λW hT=>Jap w.heap.size (wd:Int) hb W (HP2.o.tch hT (λh=>h) (λ_ _ h=>h))
 clear hp2 ht2 HHD HP1 HT1 hA hr3 hW3 HP2
 go_upto_region 3 with fail
 rw [<-HW3.o]
 have HC:Hid (∀W,Tch NoB W3 W->W.cell? ⟨w2.heap.size,3,none⟩=some (.string s3)):=λW hT=>Ja ((hT.block _ (Jb C3.out) (λh=>h)).trans C3.out)
 go_region_with (go_at_call 88;refine (HDN.o _ (Tch.drewN _ _ 1)).mono ?_;rintro _ w4 ⟨rfl,ht4⟩;have HT4:Hid (Tch NoB W3 w4):=(Tch.drewN NoB W3 1).go ht4;have c4:=HC.o _ HT4.o;clear ht4)
 all_goals
  go_wp2
  go_ret2
  exact ⟨rfl,HT2.o.go HT4.o⟩
abbrev qV (wd:Nat) (state kb:BA):Value:=.agg #[.int .i64 (wd:Int),.string state,.string kb]
theorem Jmo (E:Nat->Addr) (wd:Nat) (h1:1<=wd) (hw:wd<=32) (h:HdL) (hh:HdOk wd h) (c:BA×Int) (hc:Jp wd c) (w:World) (hE:Env E w):
  Calls prog 143 #[.int .i64 (wd:Int),.string ⟨(hdrB h).toArray⟩,.agg #[.string c.1,.int .i64 c.2]] w λe w'=>e=.returned (.tuple #[qV wd h.2.2.2 ⟨(Jd c).toArray⟩,.nilIface])/\Tch NoB w w':=by
 have HST:Hid (∀W,Tch NoB w W->Calls prog 212 _ W _):=λW hT=>JgT E wd hw h hh W (hE.tch hT noE)
 have HK:Hid (∀W,Tch NoB w W->Calls prog 145 _ W _):=λW hT=>Jav E wd hw c hc W (hE.tch hT noE)
 have HCW:Hid (∀W,Calls prog 124 _ W _):=λW=>Zt wd W h1 hw
 generalize h.2.2.2=st at *
 generalize (⟨(hdrB h).toArray⟩:BA)=hb at *
 obtain ⟨s,N⟩:=c
 dsimp only at HK ⊢
 generalize (⟨(Jd (s,N)).toArray⟩:BA)=kb at *
 clear hE hh hc
 obtain ⟨W,hW⟩:∃W,W=(w.alloc (.cells #[.string s,.int .i64 N] 49)).alloc (.cells #[.int .i64 0,.string ⟨#[]⟩,.string ⟨#[]⟩] 248):=⟨_,rfl⟩
 have hA:Tch NoB w W:=by rw [hW];exact Tch.allocs _ _ _ _
 have hr0:W.heap[w.heap.size]? =some (.cells #[.string s,.int .i64 N] 49):=by rw [hW];exact heap_alloc2_old _ _ _
 have hr1:W.heap[w.heap.size+1]? =some (.cells #[.int .i64 0,.string ⟨#[]⟩,.string ⟨#[]⟩] 248):=by rw [hW];exact heap_alloc2_new _ _ _
 have HB:Hid (∀V,Tch NoB W V->V.heap[w.heap.size]? =some (.cells #[.string s,.int .i64 N] 49)/\V.heap[w.heap.size+1]? =some (.cells #[.int .i64 0,.string ⟨#[]⟩,.string ⟨#[]⟩] 248)):=λV hT=>⟨(hT.block _ (Jb hr0) (λh=>h)).trans hr0,(hT.block _ (Jb hr1) (λh=>h)).trans hr1⟩
 have HA:Hid _:=hA
 have HW:Hid (W=_):=hW
 clear hA hr0 hr1 hW
 go_enter func143,ntmps143
 go_upto_region 1 with fail
 rw [<-HW.o]
 go_wp2_with fail
 refine (HCW.o W).mono ?_
 rintro _ w1 ⟨rfl,rfl⟩
 have HT1:Hid (Tch NoB W W):=Tch.refl _ _
 clear HCW
 go_wp2_with fail
 refine (HST.o W (HA.o.go HT1.o)).mono ?_
 rintro _ w2 ⟨rfl,ht2⟩
 have HT2:Hid (Tch NoB W w2):=HT1.o.go ht2
 obtain ⟨b0,b1⟩:=HB.o w2 HT2.o
 have c0:w2.cell? ⟨w.heap.size,0,none⟩=some (.string s):=Ja b0
 have c1:w2.cell? ⟨w.heap.size,1,none⟩=some (.int .i64 N):=Ja b0
 clear ht2 HST HT1 b0 b1
 go_wp2_with fail
 refine (HK.o w2 (HA.o.go HT2.o)).mono ?_
 rintro _ w3 ⟨rfl,ht3⟩
 have HT3:Hid (Tch NoB W w3):=HT2.o.go ht3
 obtain ⟨_,b1⟩:=HB.o w3 HT3.o
 have r0:w3.cell? ⟨w.heap.size+1,0,none⟩=some (.int .i64 0):=Ja b1
 have r1:w3.cell? ⟨w.heap.size+1,1,none⟩=some (.string ⟨#[]⟩):=Ja b1
 have r2:w3.cell? ⟨w.heap.size+1,2,none⟩=some (.string ⟨#[]⟩):=Ja b1
 have fR:∀j,w3.frozen? ⟨w.heap.size+1,j,none⟩=false:=λj=>Qg _ _ _ _ _ b1
 have R3:Hid _:=b1
 clear ht3 HK HT2 b1 c0 c1
 go_wp2
 rw [set3 _ _ _ _ _ _ _ _ _ R3.o]
 refine QJ (v:=.tuple #[qV wd st kb,.nilIface]) (Jj results143 _ _ (w.heap.size+1) _ _ (0,0) _ rfl (Qi _ _ _ _ _ _ R3.o) underlying248 rfl (by kernel_rfl)) rfl ⟨rfl,?_⟩
 exact (HA.o.go HT3.o).trans (Tch.setRow _ _ _) (λj hj=>.inr (by omega))
def ZF (o:Option (Nat×Nat)):Value:=match o with
 | some o=>.agg #[.int .i64 1,.int .u64 (o.1:Int),.int .u8 (o.2:Int)]
 | none=>.agg #[.int .i64 2,.int .u64 0,.int .u8 0]

abbrev wV (v1:Option Addr) (v2 v3:Nat) (m:Bool) (k:BA) (a o:Nat):Value:=.agg #[.slice v1 v2 v3,.bool m,.string k,.int .u64 (a:Int),.int .u8 (o:Int)]
theorem Jgb {a b:BA} (h:a.toList=b.toList):a=b:=by
 rw [ByteArray.toList_eq,ByteArray.toList_eq] at h
 exact Jmp (by simpa using h)
theorem JgK (wd:Nat) (state kb:BA) (v1:Option Addr) (v2 v3:Nat) (m:Bool) (k:BA) (a o:Nat) (w:World):
  Calls prog 215 #[qV wd state kb,wV v1 v2 v3 m k a o] w λe w'=>e=.returned (ZF (if m=true/\k=kb then some (a,o) else none))/\Tch NoB w w':=by
 cases m with
 | false=>
  rw [if_neg (by simp)]
  go_enter func215,ntmps215
  go_wp2
  exact QJ (v:=ZF none) (Qq results215 _ _ (w.heap.size+1+1) _ _ (0,0) _ rfl (JA _ _ _ _) underlying179 rfl (by kernel_rfl)) rfl ⟨rfl,Tch.allocs3 _ _ _ _ _⟩
 | true=>
  by_cases hk:k=kb
  ·rw [if_pos ⟨rfl,hk⟩]
   have hd:(k.toList == kb.toList)=true:=by rw [hk];simp
   have hd2:decide (k=kb)=true:=by simp [hk]
   go_enter func215,ntmps215
   go_wp2
   exact QJ (v:=ZF (some (a,o))) (Qq results215 _ _ (w.heap.size+1+1) _ _ (0,0) _ rfl (JA _ _ _ _) underlying179 rfl (by kernel_rfl)) rfl ⟨rfl,Tch.allocs3 _ _ _ _ _⟩
  ·rw [if_neg (λh=>hk h.2)]
   have hd:¬k.toList=kb.toList:=λh=>hk (Jgb h)
   have hd3:(k.toList == kb.toList)=false:=by simp [hd]
   have hd2:decide (k.toList=kb.toList)=false:=by simp [hd]
   go_enter func215,ntmps215
   go_wp2
   exact QJ (v:=ZF none) (Qq results215 _ _ (w.heap.size+1+1) _ _ (0,0) _ rfl (JA _ _ _ _) underlying179 rfl (by kernel_rfl)) rfl ⟨rfl,Tch.allocs3 _ _ _ _ _⟩
theorem Jmu (E:Nat->Addr) (wd:Nat) (hw:wd<=32) (state kb:BA) (v1:Option Addr) (v2 v3:Nat) (wy:Wy) (hok:WyOk wd wy) (w:World) (hE:Env E w):
  Calls prog 342 #[qV wd state kb,wV v1 v2 v3 wy.2.isSome (wyK wy) (wyO wy).1 (wyO wy).2] w λe w'=>e=.returned (.tuple #[.string ⟨(Yi wy.2).toArray⟩,.nilIface])/\Tch NoB w w':=by
 obtain ⟨st,en⟩:=wy
 cases en with
 | none=>
  show Calls _ _ #[_,wV v1 v2 v3 false ⟨#[]⟩ 0 0] _ _
  clear hE hok
  go_enter func342,ntmps342
  go_wp2
  go_ret2
  exact ⟨rfl,Tch.allocs _ _ _ _⟩
 | some x=>
  obtain ⟨k,a,o⟩:=x
  show Calls _ _ #[_,wV v1 v2 v3 true ⟨k.toArray⟩ a o] _ _
  have hkey:=hok.key (k,a,o) rfl
  have htx:=JdT wd k (a,o) hkey
  have HTX:Hid (∀W,Tch NoB w W->Calls prog 154 #[.agg #[.string ⟨#[76]⟩,.string ⟨k.toArray⟩,.int .u64 (a:Int),.int .u8 (o:Int),.int .i64 0,.string ⟨#[]⟩,.string ⟨#[]⟩],.int .i64 (wd:Int)] W λe w'=>Tch NoB W w'/\e=.returned (.tuple #[.string ⟨(76 :: (k++outB (a,o))).toArray⟩,.nilIface])):=λW hT=>by
   have:=ZP E wd (by omega) (⟨#[76]⟩,⟨k.toArray⟩,(a,o),0,⟨#[]⟩,⟨#[]⟩) hkey.2.2.2 W (hE.tch hT noE)
   rw [htx] at this
   exact this
  show Calls _ _ _ _ λe w'=>e=.returned (.tuple #[.string ⟨(76 :: (k++outB (a,o))).toArray⟩,.nilIface])/\_
  clear hE hok hkey htx
  generalize (⟨(76 :: (k++outB (a,o))).toArray⟩:BA)=txt at *
  generalize (⟨k.toArray⟩:BA)=kk at *
  obtain ⟨W,hW⟩:∃W,W=(w.alloc (.cells #[.int .i64 (wd:Int),.string state,.string kb] 248)).alloc (.cells #[.slice v1 v2 v3,.bool true,.string kk,.int .u64 (a:Int),.int .u8 (o:Int)] 258):=⟨_,rfl⟩
  have hA:Tch NoB w W:=by rw [hW];exact Tch.allocs _ _ _ _
  have hr0:W.heap[w.heap.size]? =some (.cells #[.int .i64 (wd:Int),.string state,.string kb] 248):=by rw [hW];exact heap_alloc2_old _ _ _
  have hr1:W.heap[w.heap.size+1]? =some (.cells #[.slice v1 v2 v3,.bool true,.string kk,.int .u64 (a:Int),.int .u8 (o:Int)] 258):=by rw [hW];exact heap_alloc2_new _ _ _
  have HC:Hid (∀V,Tch NoB W V->V.cell? ⟨w.heap.size,0,none⟩=some (.int .i64 (wd:Int))):=λV hT=>Ja ((hT.block _ (Jb hr0) (λh=>h)).trans hr0)
  have c0:=HC.o W (Tch.refl _ _)
  have d1:W.cell? ⟨w.heap.size+1,1,none⟩=some (.bool true):=Ja hr1
  have d2:W.cell? ⟨w.heap.size+1,2,none⟩=some (.string kk):=Ja hr1
  have d3:W.cell? ⟨w.heap.size+1,3,none⟩=some (.int .u64 (a:Int)):=Ja hr1
  have d4:W.cell? ⟨w.heap.size+1,4,none⟩=some (.int .u8 (o:Int)):=Ja hr1
  have HA:Hid _:=hA
  have HW:Hid (W=_):=hW
  clear hA hr0 hr1 hW
  go_enter func342,ntmps342
  go_upto_region 1 with fail
  rw [<-HW.o]
  go_wp2_with fail
  go_region_with (first
   | (go_at_call 307;refine (ZO _ _ _ _).mono ?_;rintro _ w1 ⟨rfl,ht1⟩;have HT1:Hid (Tch NoB W w1):=(Tch.drewN NoB W 1).go ht1;have c1:=HC.o _ HT1.o;clear ht1)
   | (go_at_call 154;refine (HTX.o _ (HA.o.go HT1.o)).mono ?_;rintro _ w2 ⟨ht2,rfl⟩;have HT2:Hid (Tch NoB w w2):=(HA.o.go HT1.o).go ht2;clear ht2))
  all_goals
   go_wp2
   go_ret2
   exact ⟨rfl,HT2.o⟩
theorem Jjq (E:Nat->Addr) (wd:Nat) (hw1:1<=wd) (hw:wd<=32) (state kb txt:BA) (htx:txt.size<=1000) (s:Stp) (hs:Jah wd s) (key:Key) (hk:key.length=wd+1) (w:World) (hE:Env E w):
  Calls prog 343 #[qV wd state kb,.string txt,.agg #[.int .i64 (s.1:Int),.string s.2],.string ⟨key.toArray⟩] w λe w'=>e=.returned (.tuple #[.string ⟨(78 :: (beL s.1 2 2++(if bt key s.1=0 then (dgW wd txt.data.toList).data.toList++s.2.data.toList else s.2.data.toList++(dgW wd txt.data.toList).data.toList))).toArray⟩,.nilIface])/\Tch NoB w w':=by
 obtain ⟨b,oth⟩:=s
 obtain ⟨hb,ho⟩:=hs
 dsimp only at hb ho ⊢
 have HB:Hid (∀W,Calls prog 288 #[.string ⟨key.toArray⟩,.int .i64 (b:Int)] W λe w'=>e=.returned (.int .i64 (bt key b:Int))/\w'=W):=λW=>Xb key b (by omega) (by omega) W
 have HOF:Hid (∀W,Tch NoB w W->Calls prog 130 #[.int .i64 (wd:Int),.string txt] W λe w'=>e=.returned (.string (dgW wd txt.data.toList))/\Tch NoB W w'):=λW hT=>ZQ E wd txt W (hE.tch hT noE) hw1 hw (by omega)
 have hds:(dgW wd txt.data.toList).size=wd:=Jr wd hw _
 generalize dgW wd txt.data.toList=dg at *
 have HTX:Hid (∀(x y:BA),x.size=wd->y.size=wd->∀W,Tch NoB w W->Calls prog 154 #[.agg #[.string ⟨#[78]⟩,.string ⟨#[]⟩,.int .u64 0,.int .u8 0,.int .i64 (b:Int),.string x,.string y],.int .i64 (wd:Int)] W λe w'=>Tch NoB W w'/\e=.returned (.tuple #[.string ⟨(78 :: (beL b 2 2++(x.data.toList++y.data.toList))).toArray⟩,.nilIface])):=λx y hx hy W hT=>by
  have:=ZP E wd (by omega) (⟨#[78]⟩,⟨#[]⟩,(0,0),(b:Int),x,y) (show (0:Nat)<256 by decide) W (hE.tch hT noE)
  rw [Jhf wd b x y (by omega) hb hx hy] at this
  exact this
 have hb2:=YH key b
 have hif:(if bt key b=0 then dg.data.toList++oth.data.toList else oth.data.toList++dg.data.toList)=(if bt key b=0 then dg else oth).data.toList++(if bt key b=0 then oth else dg).data.toList:=by split <;> rfl
 rw [hif]
 obtain ⟨x,hx⟩:∃x,x=(if bt key b=0 then dg else oth):=⟨_,rfl⟩
 obtain ⟨y,hy⟩:∃y,y=(if bt key b=0 then oth else dg):=⟨_,rfl⟩
 rw [<-hx,<-hy]
 have hxs:x.size=wd:=by rw [hx];split <;> assumption
 have hys:y.size=wd:=by rw [hy];split <;> assumption
 have HT:=HTX.o x y hxs hys
 have HTT:Hid _:=HT
 generalize (⟨(78 :: (beL b 2 2++(x.data.toList++y.data.toList))).toArray⟩:BA)=res at *
 generalize (⟨key.toArray⟩:BA)=kk at *
 generalize bt key b=bb at *
 clear hE hds ho hb hif hxs hys HT HTX htx
 obtain ⟨W,hW⟩:∃W,W=((w.alloc (.cells #[.int .i64 (wd:Int),.string state,.string kb] 248)).alloc (.cells #[.int .i64 (b:Int),.string oth] 366)).alloc (.cells #[.string oth,.string oth] 277):=⟨_,rfl⟩
 have hA:Tch NoB w W:=by rw [hW];exact Tch.allocs3 _ _ _ _ _
 have hr0:W.heap[w.heap.size]? =some (.cells #[.int .i64 (wd:Int),.string state,.string kb] 248):=by rw [hW];exact JQ _ _ _ _
 have hr1:W.heap[w.heap.size+1]? =some (.cells #[.int .i64 (b:Int),.string oth] 366):=by rw [hW];exact JN _ _ _ _
 have hr2:W.heap[w.heap.size+1+1]? =some (.cells #[.string oth,.string oth] 277):=by rw [hW];exact JA _ _ _ _
 have HRR:Hid (∀V,Tch NoB W V->V.heap[w.heap.size]? =some (.cells #[.int .i64 (wd:Int),.string state,.string kb] 248)/\V.heap[w.heap.size+1]? =some (.cells #[.int .i64 (b:Int),.string oth] 366)/\V.heap[w.heap.size+1+1]? =some (.cells #[.string oth,.string oth] 277)):=λV hT=>⟨(hT.block _ (Jb hr0) (λh=>h)).trans hr0,(hT.block _ (Jb hr1) (λh=>h)).trans hr1,(hT.block _ (Jb hr2) (λh=>h)).trans hr2⟩
 have HC:Hid (∀V,Tch NoB W V->V.cell? ⟨w.heap.size,0,none⟩=some (.int .i64 (wd:Int))/\V.cell? ⟨w.heap.size+1,0,none⟩=some (.int .i64 (b:Int))/\V.cell? ⟨w.heap.size+1+1,0,none⟩=some (.string oth)/\V.cell? ⟨w.heap.size+1+1,1,none⟩=some (.string oth)/\(∀j,V.frozen? ⟨w.heap.size+1+1,j,none⟩=false)):=λV hT=>by
  obtain ⟨q0,q1,q2⟩:=HRR.o V hT
  exact ⟨Ja q0,Ja q1,Ja q2,Ja q2,λj=>Qg _ _ _ _ _ q2⟩
 have hwz:W.heap.size=w.heap.size+3:=by rw [hW];simp
 have HWZ:Hid _:=hwz
 have HA:Hid _:=hA
 have HW:Hid (W=_):=hW
 have HX:Hid _:=hx
 have HY:Hid _:=hy
 clear hA hr0 hr1 hr2 hW hwz hx hy
 obtain ⟨a0,a1,a2,a3,a4⟩:=HC.o W (Tch.refl _ _)
 go_enter func343,ntmps343
 go_upto_region 2 with fail
 rw [<-HW.o]
 go_cut [] (λwx=>∃V,wx=V.setRow (w.heap.size+1+1) #[.string x,.string y]/\Hid (Tch NoB W V))
 case first=>
  obtain rfl | rfl:bb=0\/bb=1:=by omega
  ·go_region_with (first
    | (go_at_call 288;refine (HB.o _).mono ?_;rintro _ _ ⟨rfl,rfl⟩)
    | (go_at_call 130;refine (HOF.o _ (HA.o.go (Tch.drewN _ _ 1))).mono ?_;rintro _ w2 ⟨rfl,ht2⟩;have HT2:Hid (Tch NoB W w2):=(Tch.drewN NoB W 1).go ht2;obtain ⟨b0,b1,b2,b3,b4⟩:=HC.o _ HT2.o;clear ht2))
   all_goals go_wp2
   all_goals go_meet
   all_goals exact ⟨w2,(Qj w2 _ 0 _ _ (0,0) _ (HRR.o w2 HT2.o).2.2).trans (by rw [HX.o,HY.o];rfl),HT2⟩
  ·go_region_with (first
    | (go_at_call 288;refine (HB.o _).mono ?_;rintro _ _ ⟨rfl,rfl⟩)
    | (go_at_call 130;refine (HOF.o _ (HA.o.go (Tch.drewN _ _ 1))).mono ?_;rintro _ w2 ⟨rfl,ht2⟩;have HT2:Hid (Tch NoB W w2):=(Tch.drewN NoB W 1).go ht2;obtain ⟨b0,b1,b2,b3,b4⟩:=HC.o _ HT2.o;clear ht2))
   all_goals go_wp2
   all_goals go_meet
   all_goals exact ⟨w2,(Qj w2 _ 1 _ _ (0,0) _ (HRR.o w2 HT2.o).2.2).trans (by rw [HX.o,HY.o];rfl),HT2⟩
 case rest=>
 obtain ⟨V,hV,HTV⟩:=hcut
 obtain ⟨wA,hwA⟩:∃wA,wA=wc:=⟨wc,rfl⟩
 subst hwA
 have tA:Tch NoB w wA:=by rw [hV];exact (HA.o.go HTV.o).trans (Tch.setRow _ _ _) (λj hj=>.inr (by omega))
 obtain ⟨q0,q1,q2⟩:=HRR.o V HTV.o
 have p0:wA.heap[w.heap.size]? =some (.cells #[.int .i64 (wd:Int),.string state,.string kb] 248):=by rw [hV];exact (setRow_other _ _ _ _ (by omega)).trans q0
 have p1:wA.heap[w.heap.size+1]? =some (.cells #[.int .i64 (b:Int),.string oth] 366):=by rw [hV];exact (setRow_other _ _ _ _ (by omega)).trans q1
 have p2:wA.heap[w.heap.size+1+1]? =some (.cells #[.string x,.string y] 277):=by rw [hV];exact Qi _ _ _ _ _ _ q2
 have HCA:Hid (∀U,Tch NoB wA U->U.cell? ⟨w.heap.size,0,none⟩=some (.int .i64 (wd:Int))/\U.cell? ⟨w.heap.size+1,0,none⟩=some (.int .i64 (b:Int))/\U.cell? ⟨w.heap.size+1+1,0,none⟩=some (.string x)/\U.cell? ⟨w.heap.size+1+1,1,none⟩=some (.string y)):=λU hT=>⟨Ja ((hT.block _ (Jb p0) (λh=>h)).trans p0),Ja ((hT.block _ (Jb p1) (λh=>h)).trans p1),Ja ((hT.block _ (Jb p2) (λh=>h)).trans p2),Ja ((hT.block _ (Jb p2) (λh=>h)).trans p2)⟩
 obtain ⟨c0,c1,c2,c3⟩:=HCA.o wA (Tch.refl _ _)
 have HTA:Hid _:=tA
 clear tA q0 q1 q2 p0 p1 p2 hV HTV HC HRR HB HOF HX HY a0 a1 a2 a3 a4 HA HW hb2
 go_upto_region 3 with fail
 go_region_held3 (λU=>U.cell? ⟨w.heap.size,0,none⟩=some (.int .i64 (wd:Int))/\U.cell? ⟨w.heap.size+1,0,none⟩=some (.int .i64 (b:Int))/\U.cell? ⟨w.heap.size+1+1,0,none⟩=some (.string x)/\U.cell? ⟨w.heap.size+1+1,1,none⟩=some (.string y)) (go_keep) ((first
  | (go_at_call 309;refine (YZ _ _ _ _).mono ?_;rintro _ w3 ⟨rfl,ht3⟩;have HT3:Hid (Tch NoB wA w3):=(Tch.drewN NoB wA 1).go ht3;obtain ⟨e0,e1,e2,e3⟩:=HCA.o _ HT3.o;clear ht3)
  | (go_at_call 154;refine (HTT.o _ (HTA.o.go HT3.o)).mono ?_;rintro _ w4 ⟨ht4,rfl⟩;have HT4:Hid (Tch NoB w w4):=(HTA.o.go HT3.o).go ht4;obtain ⟨g0,g1,g2,g3⟩:=HCA.o _ (HT3.o.go ht4);clear ht4)))
 all_goals
  go_wp2
  go_ret2
  exact ⟨rfl,HT4.o⟩
