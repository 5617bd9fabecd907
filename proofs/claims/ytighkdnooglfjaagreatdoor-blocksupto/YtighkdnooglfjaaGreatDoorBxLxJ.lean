import Derived.Test.YtighkdnooglfjaaGreatDoorBxLxB
namespace Go.Proofs.YtighkdnooglfjaaGreatDoor
open Tryz
set_option maxRecDepth 100000
set_option maxHeartbeats 4000000
open Go.RowKit

theorem JkB {w:World} {wb:Nat} {vls vrs:Value} (h:w.heap[wb]? =some (.cells #[vls,vrs,.slice none 0 0,.slice none 0 0] 71)):
  Calls prog 35 #[.pointer (some ⟨wb,0,none⟩)] w λe w'=>e=.returned (.bool true)/\Tch NoB w w':=by
 have c2:w.cell? ⟨wb,2,none⟩=some (.slice none 0 0):=Ja h
 clear h
 go_enter func35,ntmps35
 go_wp2
 go_loopw [3] (λi wx=>i=.int .i64 0/\Hid (wx=w)) (λ_ _=>0)
 case atStart=>exact ⟨rfl,by show _=_;rfl⟩
 case round=>
  obtain ⟨rfl,HW⟩:=hrel
  have hw:=HW.o
  subst hw
  go_wp2
  go_ret
  exact ⟨rfl,Te _ _⟩
theorem JlV (E:Nat->Addr) {base:Nat} {w:World} {wb n:Nat} {vl vm:Value} (hF:XP E base w) (h:WSt base w wb n vl vm) (hn:n<=900000) (hbw:base<=w.heap.size) (x:OpL) (hk:x.kind<=7) {os:List (Nat×Nat)} {ts:List TxL} {sl:List (Sl×Sl)} (hx:OpOk base w x os ts sl):
  Calls prog 34 #[.pointer (some ⟨wb,0,none⟩),opV x] w (WTo base w wb (n+1) vl vm):=by
 obtain ⟨w0,hw0,t0,hbx⟩:=Jd6 w x
 have HAL:Hid (x.kind=1\/x.kind=2->Calls prog 68 #[.pointer (some ⟨wb,0,none⟩),opV x] w0 (WTo base w wb (n+1) vl vm)):=λhk=>(Jkz E (hF.tch t0 (λ_ e=>e.elim)) (h.tch0 t0) hn (Qm hbw t0.size) x hk (hx.tch t0 (λ_ e=>e.elim))).mono λe w' k=>⟨k.1,k.2.1,(t0.mono (λ_ e=>e.elim)).trans k.2.2 (λ_ e=>.inl e)⟩
 have HST:Hid (∀V,Tch NoB w V->WTo base w wb (n+1) vl vm (.returned (.bool true)) V):=λV hV=>⟨rfl,(h.tch0 hV).up (by omega),hV.mono (λ_ e=>e.elim)⟩
 obtain ⟨vls,vrs,ls,rs,c,hW⟩:=h
 have hfew:=hW.few
 obtain ⟨va,vc,hva⟩:=hW.at'.ls.shape
 obtain ⟨ua,uc,hua⟩:=hW.at'.rs.shape
 rw [QM] at hva hua
 have HPK:Hid (0<ls.length->∃r:Nat,r<ls.length/\∀w,Calls prog 69 #[.int .i64 x.which,.int .i64 (ls.length:Int)] w λe w'=>e=.returned (.int .i64 (r:Int))/\w'=w):=λh0=>Ji1 x.which ls.length hx.rw'.1 hx.rw'.2 h0 (by omega)
 have HBL:Hid (∀(r:Nat),r<ls.length->∃lb rb gl gr,va=some ⟨gl,0,none⟩/\ua=some ⟨gr,0,none⟩/\(∀V,Tch NoB w0 V->Calls prog 70 #[.pointer (some ⟨wb,0,none⟩),.pointer (some ⟨lb,0,none⟩),.pointer (some ⟨rb,0,none⟩),opV x] V λe w'=>e=.returned (.bool true)/\(WSt base w' wb (n+1) vl vm/\Tch (λj=>base<=j) w w')/\(BoxC w' w.heap.size x/\w'.cell? ⟨wb,0,none⟩=some (.slice va ls.length vc)/\w'.cell? ⟨wb,1,none⟩=some (.slice ua ls.length uc)/\w'.cell? ⟨gl,r,none⟩=some (.pointer (some ⟨lb,0,none⟩))/\w'.cell? ⟨gr,r,none⟩=some (.pointer (some ⟨rb,0,none⟩))))/\∀V,Tch NoB w0 V->BoxC V w.heap.size x/\V.cell? ⟨wb,0,none⟩=some (.slice va ls.length vc)/\V.cell? ⟨wb,1,none⟩=some (.slice ua ls.length uc)/\V.cell? ⟨gl,r,none⟩=some (.pointer (some ⟨lb,0,none⟩))/\V.cell? ⟨gr,r,none⟩=some (.pointer (some ⟨rb,0,none⟩))):=λr hr=>by
  have hr2:r<rs.length:=by rw [<-hW.len];exact hr
  obtain ⟨F,G,d1,d2,d3⟩:=hW.duo r _ _ (Qd hr) (Qd hr2)
  have e1:(ls.map ptrV)[r]? =some (ptrV ls[r]):=by rw [List.getElem?_map,Qd hr];rfl
  have e2:(rs.map ptrV)[r]? =some (ptrV rs[r]):=by rw [List.getElem?_map,Qd hr2];rfl
  obtain ⟨gl,_,e3,_,_⟩:=hW.at'.ls.at r _ e1
  obtain ⟨gr,_,e4,_,_⟩:=hW.at'.rs.at r _ e2
  have hva1:=hva
  have hua1:=hua
  rw [e3] at hva1
  rw [e4] at hua1
  simp only [Qy] at hva1 hua1
  have all:∀V S,Tch S w0 V->(∀j,S j->F j\/G j)->BoxC V w.heap.size x/\V.cell? ⟨wb,0,none⟩=some (.slice va ls.length vc)/\V.cell? ⟨wb,1,none⟩=some (.slice ua ls.length uc)/\V.cell? ⟨gl,r,none⟩=some (.pointer (some ⟨ls[r],0,none⟩))/\V.cell? ⟨gr,r,none⟩=some (.pointer (some ⟨rs[r],0,none⟩)):=λV S hV hS=>by
   have hA:WAt base V wb vls vrs vl vm (ls.map ptrV) (rs.map ptrV):=(hW.at'.tch t0 (λ_ e=>e.elim)).tch hV (λj hj o=>by
    have:=(hW.own j o).1
    rcases hS j hj with e | e
    ·have:=d2 j e;omega
    ·have:=d3 j e;omega)
   obtain ⟨g1,k1,f1,_,q1⟩:=hA.ls.at r _ e1
   obtain ⟨g2,k2,f2,_,q2⟩:=hA.rs.at r _ e2
   rw [e3] at f1
   rw [e4] at f2
   simp only [Qy,Qh,Addr.mk.injEq] at f1 f2
   rw [<-f1.1.1] at q1
   rw [<-f2.1.1] at q2
   refine ⟨hbx V S hV (λj hj=>.inl (d1.own j (hS j hj)).2),?_,?_,q1,q2⟩
   ·rw [<-hva];exact Ja hA.row
   ·rw [hW.len,<-hua];exact Ja hA.row
  refine ⟨ls[r],rs[r],gl,gr,hva1.1.symm,hua1.1.symm,λV hV=>?_,λV hV=>all V _ hV (λ_ e=>e.elim)⟩
  have hwV:Tch NoB w V:=t0.go hV
  refine (JfQ E (hF.tch hwV (λ_ e=>e.elim)) (d1.tch hwV (λ_ e=>e.elim)) hn (Qm hbw hwV.size) wb x (hx.tch hwV (λ_ e=>e.elim))).mono λe w' k=>⟨k.1,?_,all w' (λj=>F j\/G j) ((hV.mono (λ_ e=>e.elim)).trans k.2.1 (λ_ e=>.inl e)) (λ_ e=>e)⟩
  have:=(hW.tch hwV (λ_ e=>e.elim)).led (Qd hr) (Qd hr2) (d1.tch hwV (λ_ e=>e.elim)) d2 d3 k.2
  exact ⟨this.1,(hwV.mono (λ_ e=>e.elim)).trans this.2 (λ_ e=>.inl e)⟩
 have HWB:Hid (∀V,Tch NoB w0 V->V.cell? ⟨wb,0,none⟩=some (.slice va ls.length vc)):=λV hV=>by
  rw [<-hva]
  exact Ja (hW.at'.tch (t0.go hV) (λ_ e=>e.elim)).row
 have HW0:Hid (w0=w.alloc _):=hw0
 have HT0:Hid (Tch NoB w w0):=t0
 have HBX:Hid (∀V S,Tch S w0 V->(∀j,S j->j<w.heap.size\/w0.heap.size<=j)->BoxC V w.heap.size x):=hbx
 clear hF hbw hx hw0 t0 hbx hva hua hW
 generalize ls.length=m at *
 obtain ⟨kind,a,b',which,s,t,u,cx,cn,⟨oa,on,oc⟩,⟨ta,tn,tc⟩⟩:=x
 simp only [BoxC] at *
 obtain ⟨R,hR⟩:∃R,R=WTo base w wb (n+1) vl vm:=⟨_,rfl⟩
 rw [<-hR] at HAL HST ⊢
 go_enter func34,ntmps34
 go_upto_region 1 with fail
 rw [<-HW0.o]
 obtain ⟨c0,c1,c2,c3,c4,c5,c6,c7,c8,c9,c10⟩:=HBX.o w0 _ (Te NoB _) (λ_ e=>e.elim)
 by_cases k12:kind=1\/kind=2
 ·have HA:Hid (Calls _ _ _ _ _):=HAL.o k12
  rcases k12 with rfl | rfl
  all_goals
   go_wp2_with fail
   refine HA.o.mono ?_
   intro e w1 hr
   obtain ⟨rfl,hr2⟩:e=.returned (.bool true)/\R e w1:=⟨by rw [hR] at hr;exact hr.1,hr⟩
   have HR1:Hid (R _ _):=hr2
   clear hr hr2 c0 c1 c2 c3 c4 c5 c6 c7 c8 c9 c10
   go_wp2
   exact HR1.o
 ·have k1:¬kind=1:=λe=>k12 (.inl e)
  have k2:¬kind=2:=λe=>k12 (.inr e)
  have k10:¬kind=10:=by omega
  have k11:¬kind=11:=by omega
  have k14:¬kind=14:=by omega
  have k18:¬kind=18:=by omega
  have k19:¬19<kind:=by omega
  have b0:=HWB.o w0 (Te _ _)
  clear k12
  by_cases hm:m=0
  ·subst hm
   go_wp2
   rw [<-hR]
   exact HST.o _ HT0.o
  ·have hmi:¬(m:Int)=0:=by omega
   by_cases hk1:kind<1
   ·go_wp2
    rw [<-hR]
    exact HST.o _ HT0.o
   ·obtain ⟨r,hr,hpk⟩:=HPK.o (by omega)
    have HPR:Hid (∀w,Calls _ _ _ w _):=hpk
    obtain ⟨lb,rb,gl,gr,rfl,rfl,hb1,hb2⟩:=HBL.o r hr
    have HB1:Hid (∀V,_):=hb1
    have HB2:Hid (∀V,_):=hb2
    have hri:(r:Int)<(m:Int):=by omega
    clear hpk hb1 hb2
    go_upto_region 11 with fail
    go_cut [5] (λv5 wx=>v5=.int .i64 (r:Int)/\Hid (Tch NoB w0 wx))
    case first=>
     go_region_held3 (λV=>V.cell? ⟨w.heap.size,3,none⟩=some (.int .i64 which)/\V.cell? ⟨wb,0,none⟩=some (.slice (some ⟨gl,0,none⟩) m vc)) (go_keep) ((go_at_call 69;refine (HPR.o _).mono ?_;rintro _ X ⟨rfl,hX⟩;rw [hX];clear hX X))
     all_goals
      go_wp2
      go_meet
      exact ⟨rfl,Td _ _ 1⟩
    case rest=>
    obtain ⟨rfl,HT1⟩:=hcut
    obtain ⟨w1,hw1⟩:∃w1,w1=wc:=⟨wc,rfl⟩
    subst hw1
    clear c0 c1 c2 c3 c4 c5 c6 c7 c8 c9 c10 b0
    obtain ⟨⟨c0,c1,c2,c3,c4,c5,c6,c7,c8,c9,c10⟩,b0,b1,b2,b3⟩:=HB2.o w1 HT1.o
    go_upto_region 13 with fail
    go_region_held3 (λV=>(V.cell? ⟨w.heap.size,0,none⟩=some (.int .i64 kind)/\V.cell? ⟨w.heap.size,1,none⟩=some (.int .i64 a)/\V.cell? ⟨w.heap.size,2,none⟩=some (.int .i64 b')/\V.cell? ⟨w.heap.size,3,none⟩=some (.int .i64 which)/\V.cell? ⟨w.heap.size,4,none⟩=some (.string s)/\V.cell? ⟨w.heap.size,5,none⟩=some (.string t)/\V.cell? ⟨w.heap.size,6,none⟩=some (.string u)/\V.cell? ⟨w.heap.size,7,none⟩=some (.string cx)/\V.cell? ⟨w.heap.size,8,none⟩=some (.int .i64 cn)/\V.cell? ⟨w.heap.size,9,none⟩=some (.slice oa on oc)/\V.cell? ⟨w.heap.size,10,none⟩=some (.slice ta tn tc))/\V.cell? ⟨wb,0,none⟩=some (.slice (some ⟨gl,0,none⟩) m vc)/\V.cell? ⟨wb,1,none⟩=some (.slice (some ⟨gr,0,none⟩) m uc)/\V.cell? ⟨gl,r,none⟩=some (.pointer (some ⟨lb,0,none⟩))/\V.cell? ⟨gr,r,none⟩=some (.pointer (some ⟨rb,0,none⟩))) (go_keep) ((go_at_call 70;refine (HB1.o _ (HT1.o.go (Td _ w1 1))).mono ?_;rintro _ w2 ⟨rfl,hr2,hc2⟩;have HR2:Hid (_/\_):=hr2;obtain ⟨⟨y0,y1,y2,y3,y4,y5,y6,y7,y8,y9,y10⟩,z0,z1,z2,z3⟩:=hc2;clear hr2))
    all_goals
     go_wp2
     rw [hR]
     exact ⟨rfl,HR2.o⟩

def Jii (V:World) (g o:Nat) (x:OpL):Prop:=V.cell? ⟨g,o,none⟩=some (.int .i64 x.kind)/\V.cell? ⟨g,o+1,none⟩=some (.int .i64 x.a)/\V.cell? ⟨g,o+2,none⟩=some (.int .i64 x.b)/\V.cell? ⟨g,o+3,none⟩=some (.int .i64 x.which)/\V.cell? ⟨g,o+4,none⟩=some (.string x.s)/\V.cell? ⟨g,o+5,none⟩=some (.string x.t)/\V.cell? ⟨g,o+6,none⟩=some (.string x.u)/\V.cell? ⟨g,o+7,none⟩=some (.string x.cx)/\V.cell? ⟨g,o+8,none⟩=some (.int .i64 x.cn)/\V.cell? ⟨g,o+9,none⟩=some (.slice x.os.1 x.os.2.1 x.os.2.2)/\V.cell? ⟨g,o+10,none⟩=some (.slice x.ts.1 x.ts.2.1 x.ts.2.2)
structure JeG (base:Nat) (w:World) (v:Value) (l:List OpL):Prop where
 at':(v=.slice none 0 0/\l=[])\/∃g o c,v=.slice (some ⟨g,o,none⟩) l.length c/\g<base/\g<w.heap.size/\∀i (h:i<l.length),Jii w g (o+i * 11) l[i]
 ok:∀x∈l,∃os ts sl,OpOk base w x os ts sl
theorem JeG.shape {base:Nat} {w:World} {v:Value} {l:List OpL} (h:JeG base w v l):∃a c,v=.slice a l.length c:=by
 rcases h.at' with ⟨rfl,rfl⟩ | ⟨g,o,c,rfl,_⟩
 ·exact ⟨_,_,rfl⟩
 ·exact ⟨_,_,rfl⟩
theorem JkC (E:Nat->Addr) {base:Nat} {w:World} (hF:XP E base w) (hbw:base=w.heap.size) (c:Int) (hc: -9223372036854775808<=c/\c<9223372036854775808) (v1 v2:Value) (os:List (Nat×Nat)) (hO:Jr base w v1 os) (hOk:∀o∈os,JC o) (hol:os.length<1000000) (script:List OpL) (hS:JeG base w v2 script) (hl:script.length<=800000):
  Calls prog 13 #[.int .i64 c,v1,v2,.int .i64 7] w λe w'=>e=.returned (.bool true)/\Tch (λj=>base<=j) w w':=by
 obtain ⟨oa,oc,hv1⟩:=hO.shape
 subst hv1
 obtain ⟨sa,sc,hv2⟩:=hS.shape
 subst hv2
 obtain ⟨w0,hw0⟩:∃w0,w0=w.alloc (.cells #[.slice none 0 0,.slice none 0 0,.slice none 0 0,.slice none 0 0] 71):=⟨_,rfl⟩
 have t0:Tch NoB w w0:=by rw [hw0];exact Ta _ _ _
 have r0:w0.heap[w.heap.size]? =some (.cells #[.slice none 0 0,.slice none 0 0,.slice none 0 0,.slice none 0 0] 71):=by rw [hw0];exact Qf _ _
 have hst0:WSt base w0 w.heap.size 0 (.slice none 0 0) (.slice none 0 0):=⟨.slice none 0 0,.slice none 0 0,[],[],λj=>if j=w.heap.size then 1 else 0,⟨r0,VOwn.nil _ _ _,VOwn.nil _ _ _⟩,rfl,Ql _,(λj hj=>by
  rcases hj with e | e | e
  ·subst e;exact ⟨if_pos rfl,by omega,(Jb r0)⟩
  ·cases e
  ·cases e),λi lb rb h=>by simp at h⟩
 have HNE:Hid (Calls prog 33 #[.pointer (some ⟨w.heap.size,0,none⟩),.agg #[.int .i64 2,.int .i64 c,.int .i64 0,.int .i64 0,.string ⟨#[]⟩,.string ⟨#[]⟩,.string ⟨#[]⟩,.string ⟨#[]⟩,.int .i64 0,.slice oa os.length oc,.slice none 0 0],.string ⟨#[]⟩] w0 (WTo base w0 w.heap.size 1 (.slice none 0 0) (.slice none 0 0))):=
  Jlv E (hF.tch t0 (λ_ e=>e.elim)) hst0 (by omega) (by have:=t0.size;omega) ⟨2,c,0,0,⟨#[]⟩,⟨#[]⟩,⟨#[]⟩,⟨#[]⟩,0,(oa,os.length,oc),(none,0,0)⟩ ⟨#[]⟩ rfl (os:=os) (ts:=[]) (sl:=[]) ⟨hc,(by show -9223372036854775808<=(0:Int)/\(0:Int)<9223372036854775808;decide),(by show (0:Nat)<=1100000;decide),(hO.tch t0 (λ_ e=>e.elim)).raw,hOk,hol,.inl ⟨.inl rfl,rfl⟩,⟨rfl,λi h=>absurd h (by simp)⟩,λ_ h=>(QD h).elim,by decide,λ_ h=>(QD h).elim⟩
 have HSP:Hid (∀(V:World) (k:Nat) x,script[k]? =some x->Tch (λj=>base<=j) w V->WSt base V w.heap.size (k+1) (.slice none 0 0) (.slice none 0 0)->x.kind<=7->Calls prog 34 #[.pointer (some ⟨w.heap.size,0,none⟩),opV x] V (WTo base V w.heap.size (k+1+1) (.slice none 0 0) (.slice none 0 0))):=λV k x hk hV hW hkd=>by
  obtain ⟨os',ts',sl',hx⟩:=hS.ok _ (QT hk)
  have hk:=(Qo.1 hk).1
  exact JlV E (hF.tch hV (λ_ e=>e)) hW (by omega) (by have:=hV.size;omega) _ hkd (hx.tch hV (λ_ e=>e))
 have HCE:Hid (∀(k:Nat) x,script[k]? =some x->∃g o,sa=some ⟨g,o,none⟩/\∀V,Tch (λj=>base<=j) w V->Jii V g (o+k * 11) x):=λk x hk=>by
  rcases hS.at' with ⟨_,e2⟩ | ⟨g,o,c',e,h1,h2,h3⟩
  ·rw [e2] at hk;simp at hk
  ·simp only [Qy] at e
   refine ⟨g,o,e.1,λV hV=>?_⟩
   have hc:∀p,V.cell? ⟨g,p,none⟩=w.cell? ⟨g,p,none⟩:=λp=>hV.cell (p:=⟨g,p,none⟩) h2 (by show ¬base<=g;omega)
   obtain ⟨hk2,rfl⟩:=Qo.1 hk
   have:=h3 k hk2
   unfold Jii at this ⊢
   rw [hc,hc,hc,hc,hc,hc,hc,hc,hc,hc,hc]
   exact this
 have HKE:Hid (∀V n,WSt base V w.heap.size n (.slice none 0 0) (.slice none 0 0)->Calls prog 35 #[.pointer (some ⟨w.heap.size,0,none⟩)] V λe w'=>e=.returned (.bool true)/\Tch NoB V w'):=λV n h=>by
  obtain ⟨vls,vrs,ls,rs,c,h⟩:=h
  exact JkB h.at'.row
 have HW0:Hid (w0=w.alloc _):=hw0
 have HT0:Hid (Tch (λj=>base<=j) w w0):=t0.mono (λ_ e=>e.elim)
 clear hF hO hOk hS t0 r0 hst0 hw0 hbw
 generalize os.length=on at *
 generalize hsn:script.length=sn at *
 have HSN:Hid (script.length=sn):=hsn
 clear hsn
 go_enter func13,ntmps13
 go_upto_region 2 with fail
 rw [<-HW0.o]
 go_wp2_with fail
 refine HNE.o.mono ?_
 rintro _ w1 ⟨rfl,hw1,ht1⟩
 have HW1:Hid (WSt _ _ _ _ _ _):=hw1
 have HT1:Hid (Tch (λj=>base<=j) w w1):=HT0.o.trans ht1 (λ_ e=>.inl e)
 clear hw1 ht1 HNE
 go_wp2
 go_loopw [11,12,13] (λi _ _ wr=>∃k:Nat,k<=sn/\i=.int .i64 (k:Int)/\Hid (WSt base wr w.heap.size (k+1) (.slice none 0 0) (.slice none 0 0))/\Hid (Tch (λj=>base<=j) w wr)) (λi _ _ _=>sn - (intOf i).toNat)
 case atStart=>exact ⟨0,by omega,rfl,HW1.o,HT1.o⟩
 case round=>
  clear HW1 HT1
  obtain ⟨k,hk,rfl,HW,HT⟩:=hrel
  by_cases hlt:k<sn
  ·have hlti:(k:Int)<(sn:Int):=by omega
   obtain ⟨x,hx⟩:∃x,script[k]? =some x:=⟨_,Qd (by rw [HSN.o];exact hlt)⟩
   obtain ⟨g,o,rfl,hbx⟩:=HCE.o k x hx
   have hsp:=HSP.o wr k x hx HT.o HW.o
   obtain ⟨c0,c1,c2,c3,c4,c5,c6,c7,c8,c9,c10⟩:=hbx wr HT.o
   have HSTP:Hid _:=hsp
   clear hbx hsp hx
   obtain ⟨kind,a,b',which,s,t,u,cx,cn,⟨xa,xn,xc⟩,⟨ta,tn,tc⟩⟩:=x
   simp only at *
   by_cases h7:7<kind
   ·go_wp2
    go_roundw
    case rel=>exact ⟨k+1,by omega,by go_num,by obtain h:=HW.o;exact h.up (by omega),HT⟩
    case measure=>simp [intOf];omega
   ·go_wp2_with fail
    refine (HSTP.o (by omega)).mono ?_
    rintro _ w2 ⟨rfl,hw2,ht2⟩
    have HW2:Hid (WSt _ _ _ _ _ _):=hw2
    have HT2:Hid (Tch (λj=>base<=j) w w2):=HT.o.trans ht2 (λ_ e=>.inl e)
    clear hw2 ht2 c0 c1 c2 c3 c4 c5 c6 c7 c8 c9 c10
    go_wp2_with fail
    refine (HKE.o w2 _ HW2.o).mono ?_
    rintro _ w3 ⟨rfl,ht3⟩
    have HW3:Hid (WSt _ w3 _ _ _ _):=HW2.o.tch0 ht3
    have HT3:Hid (Tch (λj=>base<=j) w w3):=HT2.o.go ht3
    clear ht3
    go_wp2
    go_roundw
    case rel=>exact ⟨k+1,by omega,by go_num,HW3,HT3⟩
    case measure=>simp [intOf];omega
  ·obtain rfl:k=sn:=by omega
   have hge:¬(k:Int)<(k:Int):=by omega
   go_wp2
   go_ret
   exact ⟨rfl,HT.o⟩
theorem Ji0 (E:Nat->Addr) {base:Nat} {w:World} (hF:XP E base w) (hbw:base=w.heap.size) (c:Int) (hc: -9223372036854775808<=c/\c<9223372036854775808) (v1 v2:Value) (os:List (Nat×Nat)) (hO:Jr base w v1 os) (hOk:∀o∈os,JC o) (hol:os.length<1000000) (script:List OpL) (hS:JeG base w v2 script) (hl:script.length<=800000):
  Calls prog 3 #[.int .i64 c,v1,v2] w λe w'=>e=.returned (.bool true)/\Tch (λj=>base<=j) w w':=by
 have HP:Hid (Calls _ _ _ _ _):=JkC E hF hbw c hc v1 v2 os hO hOk hol script hS hl
 obtain ⟨oa,oc,hv1⟩:=hO.shape
 obtain ⟨sa,sc,hv2⟩:=hS.shape
 subst hv1
 subst hv2
 clear hF hbw hO hOk hS
 go_enter func3,ntmps3
 go_wp2_with fail
 refine HP.o.mono ?_
 rintro _ w1 ⟨rfl,ht⟩
 have HT:Hid (Tch (λj=>base<=j) w w1):=ht
 clear ht HP
 go_wp2
 go_ret
 exact ⟨rfl,HT.o⟩
