import Derived.Test.YtighkdnooglfjaaGreatDoorBxLxA
import Derived.Test.YtighkdnooglfjaaGreatDoorBxLwH
namespace Go.Proofs.YtighkdnooglfjaaGreatDoor
open Tryz
set_option maxRecDepth 100000
set_option maxHeartbeats 4000000
open Go.RowKit

structure OpL where
 kind:Int
 a:Int
 b:Int
 which:Int
 s:BA
 t:BA
 u:BA
 cx:BA
 cn:Int
 os:Sl
 ts:Sl
abbrev opV (x:OpL):Value:=.agg #[.int .i64 x.kind,.int .i64 x.a,.int .i64 x.b,.int .i64 x.which,.string x.s,.string x.t,.string x.u,.string x.cx,.int .i64 x.cn,.slice x.os.1 x.os.2.1 x.os.2.2,.slice x.ts.1 x.ts.2.1 x.ts.2.2]
abbrev opC (x:OpL):Array Value:= #[.int .i64 x.kind,.int .i64 x.a,.int .i64 x.b,.int .i64 x.which,.string x.s,.string x.t,.string x.u,.string x.cx,.int .i64 x.cn,.slice x.os.1 x.os.2.1 x.os.2.2,.slice x.ts.1 x.ts.2.1 x.ts.2.2]
theorem Jct {B:Nat} (w:World) (wb:Nat) (x:OpL) (log:BA) (hx:x.kind=2) (hB:B<=w.heap.size) (l:List VV) (hl:l.length<=1000000) (hv:VR B w (.slice x.os.1 x.os.2.1 x.os.2.2) l) (hs:∀x∈l,ShO x) (code:Int) (QL:Nat->Option Addr->World->Prop) (QR:Nat->Option Addr->Option Addr->World->Prop) (Fin:World->Prop)
  (hL:∀V g,Tch NoB w V->w.heap.size<=g->V.heap[g]? =some (.cells (vvA (l++Xw)) 80)->Calls prog 37 #[.int .i64 x.a,.slice (some ⟨g,0,none⟩) l.length (l.length+8)] V λe V'=>∃pl,e=.returned (.tuple #[.pointer pl,.int .i64 code])/\Tch NoB V V'/\QL g pl V')
  (hR:∀V g pl,Tch NoB w V->QL g pl V->Calls prog 63 #[.int .i64 x.a,.slice x.os.1 x.os.2.1 x.os.2.2] V λe V'=>∃pr,e=.returned (.tuple #[.pointer pr,.int .i64 code])/\Tch NoB V V'/\QR g pl pr V')
  (hQ:∀V V' g pl pr,QR g pl pr V->Tch (λj=>j=g) V V'->QR g pl pr V')
  (hJ:∀V g pl pr,Tch NoB w V->QR g pl pr V->Calls prog 65 #[.pointer (some ⟨wb,0,none⟩),.pointer pl,.pointer pr] V λe V'=>e=.returned (.bool true)/\Fin V'):
  Calls prog 33 #[.pointer (some ⟨wb,0,none⟩),opV x,.string log] w λe w'=>e=.returned (.bool true)/\Fin w':=by
 obtain ⟨kind,a,b,which,s,t,u,cx,cn,⟨oa,on,oc⟩,⟨ta,tn,tc⟩⟩:=x
 simp only at *
 subst hx
 obtain rfl:on=l.length:=by
  obtain ⟨a',c',e⟩:=hv.shape
  simp only [Qy] at e
  exact e.2.1
 obtain ⟨w0,hw0⟩:∃w0,w0=w.alloc (.cells #[.int .i64 2,.int .i64 a,.int .i64 b,.int .i64 which,.string s,.string t,.string u,.string cx,.int .i64 cn,.slice oa l.length oc,.slice ta tn tc] 75):=⟨_,rfl⟩
 have t0:Tch NoB w w0:=by rw [hw0];exact Ta _ _ _
 have r0:w0.heap[w.heap.size]? =some (.cells #[.int .i64 2,.int .i64 a,.int .i64 b,.int .i64 which,.string s,.string t,.string u,.string cx,.int .i64 cn,.slice oa l.length oc,.slice ta tn tc] 75):=by rw [hw0];exact Qf _ _
 have HW0:Hid (w0=w.alloc _):=hw0
 have HT0:Hid (Tch NoB w w0):=t0
 have HCE:Hid (∀V S,Tch S w0 V->(∀j,S j->w0.heap.size<=j)->V.cell? ⟨w.heap.size,0,none⟩=some (.int .i64 2)/\V.cell? ⟨w.heap.size,1,none⟩=some (.int .i64 a)/\V.cell? ⟨w.heap.size,9,none⟩=some (.slice oa l.length oc)):=λV S hV hS=>by
  have hr:=(hV.block w.heap.size (Jb r0) (λe=>by have:=hS _ e;have:=(Jb r0);omega)).trans r0
  exact ⟨Ja hr,Ja hr,Ja hr⟩
 have HLO:Hid (∀V,Tch NoB w V->Calls prog 62 #[.slice oa l.length oc] V λe w'=>∃g,e=.returned (.slice (some ⟨g,0,none⟩) (l.length+8) (l.length+8))/\V.heap.size<=g/\w'.heap[g]? =some (.cells (vvA (l++Xw)) 80)/\Tch NoB V w'):=λV hV=>Jcs V _ l hl (hv.tch hV (λ_ e=>e.elim)) hs
 have HBO:Hid (∀V g,Tch NoB w V->w.heap.size<=g->V.heap[g]? =some (.cells (vvA (l++Xw)) 80)->Calls prog 64 #[.slice (some ⟨g,0,none⟩) (l.length+8) (l.length+8),.slice oa l.length oc] V λe w'=>e=.returned (.bool true)/\w'.heap[g]? =some (.cells (vvA (List.replicate (l.length+8) qO)) 80)/\Tch (λk=>k=g) V w'):=λV g hV hg hr=>Jcr V g _ l hl (hv.tch hV (λ_ e=>e.elim)) (by omega) hs hr
 have HL:Hid (∀V g,_):=hL
 have HR:Hid (∀V g pl,_):=hR
 have HQ:Hid (∀V V' g pl pr,_):=hQ
 have HJ:Hid (∀V g pl pr,_):=hJ
 clear hL hR hQ hJ hv hs t0 r0 hw0
 generalize l.length=n at *
 generalize hn8:n+8=n8 at *
 have hl8:(n:Int)<=(n8:Int):=by omega
 clear hn8
 go_enter func33,ntmps33
 go_upto_region 1 with fail
 rw [<-HW0.o]
 obtain ⟨c0,c1,c9⟩:=HCE.o w0 _ (Te NoB _) (λ_ e=>e.elim)
 go_wp2_with fail
 refine (HLO.o w0 HT0.o).mono ?_
 rintro _ w1 ⟨g,rfl,hg,hr1,ht1⟩
 have HT1:Hid (Tch NoB w0 w1):=ht1
 have HG:Hid (w0.heap.size<=g/\w.heap.size<=g):=⟨hg,Qm HT0.o.size hg⟩
 have HR1:Hid (w1.heap[g]? =some _):=hr1
 clear ht1 hg hr1 c0 c1 c9
 obtain ⟨c0,c1,c9⟩:=HCE.o w1 _ HT1.o (λ_ e=>e.elim)
 go_upto_region 3 with fail
 go_cut [8,9] (λv8 v9 wx=>∃pl,v8=.pointer pl/\v9=.int .i64 code/\Hid (Tch NoB w1 wx)/\Hid (QL g pl wx))
 case first=>
  go_region_held3 (λV=>V.cell? ⟨w.heap.size,1,none⟩=some (.int .i64 a)/\V.cell? ⟨w.heap.size,9,none⟩=some (.slice oa n oc)) (go_keep) ((go_at_call 37;refine (HL.o _ g ((HT0.o.go HT1.o).go (Td _ w1 1)) HG.o.2 HR1.o).mono ?_;rintro _ w2 ⟨pl,rfl,ht2,hq2⟩;have HT2:Hid (Tch NoB w1 w2):=(Td NoB w1 1).go ht2;have HQ2:Hid (QL g pl w2):=hq2;obtain ⟨d0,d1,d9⟩:=HCE.o w2 _ (HT1.o.go HT2.o) (λ_ e=>e.elim);clear ht2 hq2))
  all_goals
   go_wp2
   go_meet
   exact ⟨pl,rfl,rfl,HT2,HQ2⟩
 case rest=>
 obtain ⟨pl,rfl,rfl,HT2,HQ2⟩:=hcut
 obtain ⟨w2,hw2⟩:∃w2,w2=wc:=⟨wc,rfl⟩
 subst hw2
 have HTA:Hid (Tch NoB w0 w2):=HT1.o.go HT2.o
 clear c0 c1 c9
 obtain ⟨c0,c1,c9⟩:=HCE.o w2 _ HTA.o (λ_ e=>e.elim)
 go_wp2_with fail
 refine (HR.o w2 g pl (HT0.o.go HTA.o) HQ2.o).mono ?_
 rintro _ w3 ⟨pr,rfl,ht3,hq3⟩
 have HT3:Hid (Tch NoB w0 w3):=HTA.o.go ht3
 have HQ3:Hid (QR g pl pr w3):=hq3
 have HR3:Hid (w3.heap[g]? =some (.cells (vvA (l++Xw)) 80)):=((HT2.o.go ht3).block g (Jb HR1.o) (λe=>e)).trans HR1.o
 clear c0 c1 c9 ht3 hq3
 obtain ⟨c0,c1,c9⟩:=HCE.o w3 _ HT3.o (λ_ e=>e.elim)
 go_wp2_with fail
 refine (HBO.o w3 g (HT0.o.go HT3.o) HG.o.2 HR3.o).mono ?_
 rintro _ w4 ⟨rfl,_,ht4⟩
 have HT4:Hid (Tch NoB w w4):=(HT0.o.go HT3.o).trans ht4 (λj hj=>.inr (by rw [hj];exact HG.o.2))
 have HQ4:Hid (QR g pl pr w4):=HQ.o _ _ _ _ _ HQ3.o ht4
 clear c0 c1 c9 ht4
 go_wp2_with fail
 refine (HJ.o w4 g pl pr HT4.o HQ4.o).mono ?_
 rintro _ w5 ⟨rfl,hf⟩
 have HF:Hid (Fin w5):=hf
 clear hf
 go_wp2_with fail
 refine (JdE _ _).mono ?_
 rintro _ _ ⟨rfl,rfl⟩
 go_wp2
 go_ret
 exact ⟨rfl,HF.o⟩

theorem JkD {B:Nat} (w:World) (wb lb rb:Nat) (x:OpL) (hB:B<=w.heap.size) (n:Nat) (sl:Nat->Sl×Sl) (c o:Nat->List VV) (hn:n<=1000000) (hv:TxV B w (.slice x.ts.1 x.ts.2.1 x.ts.2.2) n sl c o) (ha1: -9223372036854775808<=x.a) (ha2:x.a<9223372036854775808) (S:BA) (hS:S.size<=1000000) (code:Int) (Q:BA->Int->World->Prop) (Fin:World->Prop)
  (hL:∀V B' nb gt vi vo ga gb hb,Tch NoB w V->JQ B' V nb gt n vi vo c o ga gb hb 0->Calls prog 18 #[.pointer (some ⟨lb,0,none⟩),.slice (some ⟨gt,0,none⟩) n (n+8)] V λe V'=>e=.returned (.tuple #[.string S,.int .i64 code])/\Tch NoB V V')
  (hR:∀V,Tch NoB w V->Calls prog 180 #[.pointer (some ⟨rb,0,none⟩),.slice x.ts.1 x.ts.2.1 x.ts.2.2] V λe V'=>e=.returned (.tuple #[.string S,.int .i64 code])/\Tch NoB V V')
  (hM:∀q:BA,q.size<=S.size->∀V,Tch NoB w V->Calls prog 19 #[.pointer (some ⟨lb,0,none⟩),.string q] V λe V'=>∃k:Int,e=.returned (.int .i64 k)/\(∃S,(∀j,S j->j<w.heap.size)/\Tch S V V')/\Q q k V')
  (hQ:∀q k V V',Q q k V->Tch NoB V V'->Q q k V')
  (hU:∀q k V,Q q k V->Calls prog 110 #[.pointer (some ⟨rb,0,none⟩),.string q] V λe V'=>e=.returned (.int .i64 k)/\Fin V')
  (hF:∀V,Tch NoB w V->Fin V):
  Calls prog 117 #[.pointer (some ⟨wb,0,none⟩),.pointer (some ⟨lb,0,none⟩),.pointer (some ⟨rb,0,none⟩),opV x] w λe w'=>e=.returned (.bool true)/\Fin w':=by
 obtain ⟨kind,a,b,which,s,t,u,cx,cn,⟨oa,on,oc⟩,⟨ta,tn,tc⟩⟩:=x
 simp only at *
 obtain rfl:tn=n:=by
  obtain ⟨a',c',e⟩:=hv.shape
  simp only [Qy] at e
  exact e.2.1
 obtain ⟨w0,hw0⟩:∃w0,w0=w.alloc (.cells #[.int .i64 kind,.int .i64 a,.int .i64 b,.int .i64 which,.string s,.string t,.string u,.string cx,.int .i64 cn,.slice oa on oc,.slice ta tn tc] 75):=⟨_,rfl⟩
 have t0:Tch NoB w w0:=by rw [hw0];exact Ta _ _ _
 have r0:w0.heap[w.heap.size]? =some (.cells #[.int .i64 kind,.int .i64 a,.int .i64 b,.int .i64 which,.string s,.string t,.string u,.string cx,.int .i64 cn,.slice oa on oc,.slice ta tn tc] 75):=by rw [hw0];exact Qf _ _
 have HW0:Hid (w0=w.alloc _):=hw0
 have HT0:Hid (Tch NoB w w0):=t0
 have HZ0:Hid (w0.heap.size=w.heap.size+1):=by show _=_;rw [hw0,World.size_alloc]
 have HCE:Hid (∀V S,Tch S w0 V->(∀j,S j->j<w.heap.size\/w0.heap.size<=j)->V.cell? ⟨w.heap.size,0,none⟩=some (.int .i64 kind)/\V.cell? ⟨w.heap.size,1,none⟩=some (.int .i64 a)/\V.cell? ⟨w.heap.size,2,none⟩=some (.int .i64 b)/\V.cell? ⟨w.heap.size,10,none⟩=some (.slice ta tn tc)):=λV S hV hS=>by
  have hr:=(hV.block w.heap.size (Jb r0) (λe=>by have:=hS _ e;have:=(Jb r0);omega)).trans r0
  exact ⟨Ja hr,Ja hr,Ja hr,Ja hr⟩
 have HLD:Hid (Calls prog 179 #[.slice ta tn tc] w0 λe w'=>∃nb gt vi vo ga gb hb,e=.returned (.pointer (some ⟨nb,0,none⟩))/\JQ w0.heap.size w' nb gt tn vi vo c o ga gb hb 0/\Tch NoB w0 w'):=JlU w0 _ tn sl c o hn (Qm hB t0.size) (hv.tch t0 (λ_ e=>e.elim))
 obtain ⟨q,hq,hbt⟩:=JlT S hS a b ha1 ha2
 have HBT:Hid (∀w,Calls _ _ _ w _):=hbt
 have HBK:Hid (∀V B' nb gt vi vo ga gb hb,Tch NoB w V->w.heap.size<=B'->JQ B' V nb gt tn vi vo c o ga gb hb 0->Calls prog 181 #[.pointer (some ⟨nb,0,none⟩),.slice ta tn tc] V λe V'=>e=.returned (.bool true)/\Tch (λj=>B'<=j) V V'):=λV B' nb gt vi vo ga gb hb hV hB' hA=>JlS hA (hv.tch hV (λ_ e=>e.elim)) (Qm hB hB') hn
 have HL:Hid (∀V B' nb gt vi vo ga gb hb,_):=hL
 have HR:Hid (∀V,_):=hR
 have HM:Hid (∀V,_):=hM q hq
 have HQ:Hid (∀k V V',_):=hQ q
 have HU:Hid (∀k V,_):=hU q
 have HF:Hid (∀V,_):=hF
 obtain ⟨t8,ht8⟩:∃t8:Nat,tn+8=t8:=⟨_,rfl⟩
 have hl8:(tn:Int)<=(t8:Int):=by omega
 rw [ht8] at HL
 have HT8:Hid (tn+8=t8):=ht8
 clear ht8
 clear hL hR hM hQ hU hF hv t0 r0 hw0 hbt hq hS
 go_enter func117,ntmps117
 go_upto_region 1 with fail
 rw [<-HW0.o]
 obtain ⟨c0,c1,c2,c9⟩:=HCE.o w0 _ (Te NoB _) (λ_ e=>e.elim)
 go_wp2_with fail
 refine HLD.o.mono ?_
 rintro _ w1 ⟨nb,gt,vi,vo,ga,gb,hb,rfl,hln,ht1⟩
 have HT1:Hid (Tch NoB w0 w1):=ht1
 have HLN:Hid (JQ _ _ _ _ _ _ _ _ _ _ _ _ _):=hln
 have n0:w1.cell? ⟨nb,0,none⟩=some (.slice (some ⟨gt,0,none⟩) t8 t8):=by rw [<-HT8.o];exact Ja hln.row
 clear ht1 hln c0 c1 c2 c9 HLD
 obtain ⟨c0,c1,c2,c9⟩:=HCE.o w1 _ HT1.o (λ_ e=>e.elim)
 go_upto_region 2 with fail
 go_cut [10,11] (λv8 v9 wx=>v8=.string S/\v9=.int .i64 code/\Hid (Tch NoB w1 wx))
 case first=>
  go_region_held3 (λV=>V.cell? ⟨nb,0,none⟩=some (.slice (some ⟨gt,0,none⟩) t8 t8)/\V.cell? ⟨w.heap.size,10,none⟩=some (.slice ta tn tc)) (go_keep) ((go_at_call 18;refine (HL.o _ _ nb gt vi vo ga gb hb ((HT0.o.go HT1.o).go (Td _ w1 1)) (HLN.o.tch0 (Td _ w1 1))).mono ?_;rintro _ w2 ⟨rfl,ht2⟩;have HT2:Hid (Tch NoB w1 w2):=(Td NoB w1 1).go ht2;obtain ⟨d0,d1,d2,d9⟩:=HCE.o w2 _ (HT1.o.go HT2.o) (λ_ e=>e.elim);have d10:w2.cell? ⟨nb,0,none⟩=some (.slice (some ⟨gt,0,none⟩) t8 t8):=(by rw [<-HT8.o];exact Ja (HLN.o.tch0 HT2.o).row);clear ht2))
  all_goals
   go_wp2
   go_meet
   exact ⟨rfl,rfl,HT2⟩
 case rest=>
 obtain ⟨rfl,rfl,HT2⟩:=hcut
 obtain ⟨w2,hw2⟩:∃w2,w2=wc:=⟨wc,rfl⟩
 subst hw2
 have HTA:Hid (Tch NoB w0 w2):=HT1.o.go HT2.o
 clear c0 c1 c2 c9 n0
 obtain ⟨c0,c1,c2,c9⟩:=HCE.o w2 _ HTA.o (λ_ e=>e.elim)
 go_wp2_with fail
 refine (HR.o w2 (HT0.o.go HTA.o)).mono ?_
 rintro _ w3 ⟨rfl,ht3⟩
 have HT3:Hid (Tch NoB w0 w3):=HTA.o.go ht3
 have HLN3:Hid (JQ _ w3 _ _ _ _ _ _ _ _ _ _ _):=(HLN.o.tch0 HT2.o).tch0 ht3
 clear c0 c1 c2 c9 ht3
 obtain ⟨c0,c1,c2,c9⟩:=HCE.o w3 _ HT3.o (λ_ e=>e.elim)
 go_wp2_with fail
 refine (HBK.o w3 _ nb gt vi vo ga gb hb (HT0.o.go HT3.o) HT0.o.size HLN3.o).mono ?_
 rintro _ w4 ⟨rfl,ht4⟩
 have HT4:Hid (Tch NoB w0 w4):=HT3.o.trans ht4 (λj hj=>.inr hj)
 clear c0 c1 c2 c9 ht4
 obtain ⟨c0,c1,c2,c9⟩:=HCE.o w4 _ HT4.o (λ_ e=>e.elim)
 go_wp2_with fail
 refine (JdE _ _).mono ?_
 rintro _ _ ⟨rfl,rfl⟩
 by_cases hk:kind=3
 ·subst hk
  go_wp2
  go_ret
  exact ⟨rfl,HF.o _ (HT0.o.go HT4.o)⟩
 ·by_cases hc:code=0
  ·subst hc
   go_wp2_with fail
   refine (HBT.o _).mono ?_
   rintro _ w5 ⟨rfl,ht5⟩
   have HT5:Hid (Tch NoB w0 w5):=HT4.o.go ht5
   clear c0 c1 c2 c9 ht5
   go_wp2_with fail
   refine (HM.o w5 (HT0.o.go HT5.o)).mono ?_
   rintro _ w6 ⟨k,rfl,⟨S6,hS6,ht6⟩,hq6⟩
   have HQ6:Hid (Q q k w6):=hq6
   obtain ⟨c0,c1,c2,c9⟩:=HCE.o w6 _ ((HT5.o.mono noE).trans ht6 (λj hj=>.inl hj)) (λj hj=>.inl (hS6 j hj))
   clear ht6 hq6
   go_wp2_with fail
   refine (HBT.o _).mono ?_
   rintro _ w7 ⟨rfl,ht7⟩
   have HQ7:Hid (Q q k w7):=HQ.o _ _ _ HQ6.o ht7
   clear c0 c1 c2 c9 ht7
   go_wp2_with fail
   refine (HU.o k w7 HQ7.o).mono ?_
   rintro _ w8 ⟨rfl,hf8⟩
   have HF8:Hid (Fin w8):=hf8
   clear hf8
   go_wp2_with fail
   refine (JdE _ _).mono ?_
   rintro _ _ ⟨rfl,rfl⟩
   go_wp2
   go_ret
   exact ⟨rfl,HF8.o⟩
  ·have h1:(code != 0)=true:=by simpa using hc
   go_wp2
   go_ret
   exact ⟨rfl,HF.o _ (HT0.o.go HT4.o)⟩
