import Derived.Test.YtighkdnooglfjaaGreatDoorTcKSh
import Derived.Test.YtighkdnooglfjaaGreatDoorTcRgA
namespace Go.Proofs.YtighkdnooglfjaaGreatDoor
open Go.Proofs.Tryz
set_option maxRecDepth 100000
set_option maxHeartbeats 2000000
open Go.RowKit

theorem Jlb {E:Nat->Addr} {wd base:Nat} (L L':Led E wd base) (hP:JbN L L') {w:World} {xb lb:Nat} {F:Nat->Prop} {fl:Nat} {ch:Ch} {vst:Value} {sl:List Sl} {states:List (List Held)} (hF:JV E base w) (hS:JP L w xb lb F fl ch vst sl states) (hlen:states.length<=1000000000) (a b:Int) (ha1: -9223372036854775808<=a) (ha2:a<9223372036854775808) (p0:Option Addr) (pn p1:Nat):
  Calls prog 20 #[.pointer (some ⟨xb,0,none⟩),.agg #[.int .i64 2,.int .i64 a,.int .i64 b,.slice p0 pn p1]] w λe w'=>e=.returned (.bool true)/\∃F' fl',JP L' w' xb lb F' fl' ch vst sl states/\Tch (λj=>F j\/j=xb) w w'/\(∀j,F' j->F j\/w.heap.size<=j):=by
 obtain ⟨W1,hW1⟩:∃(W1:World),W1=w.alloc (.cells #[.int .i64 2,.int .i64 a,.int .i64 b,.slice p0 pn p1] 31):=⟨_,rfl⟩
 have t1:Tch NoB w W1:=by rw [hW1];exact Ta _ _ _
 have hr1:W1.heap[w.heap.size]? =some (.cells #[.int .i64 2,.int .i64 a,.int .i64 b,.slice p0 pn p1] 31):=by rw [hW1];exact Qf _ _
 have hS1:=hS.next t1
 have hF1:=hF.tch t1 (λ_ e=>e.elim)
 obtain ⟨va,vc,hv,c2,c0⟩:=hS1.len2
 subst hv
 have c3:W1.cell? ⟨xb,3,none⟩=some (.int .i64 (fl:Int)):=Ja hS1.row
 have f3:W1.frozen? ⟨xb,3,none⟩=false:=Qg _ _ _ _ _ hS1.row
 have b0:W1.cell? ⟨w.heap.size,0,none⟩=some (.int .i64 2):=Ja hr1
 have b1:W1.cell? ⟨w.heap.size,1,none⟩=some (.int .i64 a):=Ja hr1
 have hfl:=hS.floor
 have hsub:IntKind.i64.wrap ((states.length:Int) - (fl:Int))=((states.length - fl:Nat):Int):=by simp [IntKind.wrap,IntKind.bits,IntKind.signed];omega
 have HPK:Hid (∀V z,z=((states.length - fl:Nat):Int)->Calls prog 22 #[.int .i64 a,.int .i64 z] V λe w'=>(∃r:Nat,r<states.length - fl/\e=.returned (.int .i64 (r:Int)))/\w'=V):=λV z hz=>by rw [hz];exact ZQ a (states.length - fl) V ha1 ha2 (by omega) (by omega)
 have HADD:Hid (∀r:Nat,r<states.length - fl->IntKind.i64.wrap ((fl:Int)+(r:Int))=((fl+r:Nat):Int)):=λr hr=>by simp [IntKind.wrap,IntKind.bits,IntKind.signed];omega
 have HW:Hid (W1=_):=hW1
 have HS:Hid (JP L W1 xb lb F fl ch (.slice va states.length vc) sl states/\JV E base W1/\Tch NoB w W1):=⟨hS1,hF1,t1⟩
 clear hW1 t1 hr1 hS1 hF1 hS hF hfl
 go_enter func20,ntmps20
 go_upto_region 1 with fail
 rw [<-HW.o]
 go_upto_region 5 with fail
 go_cut [] (λwx=>∃r:Nat,Hid (r<states.length - fl)/\wx=W1.drew.setCell ⟨xb,3,none⟩ (.int .i64 ((fl+r:Nat):Int)))
 case first=>
  go_wp2_with fail
  as_aux_lemma=>
   have d0:W1.drew.cell? ⟨xb,2,none⟩=some (.slice va states.length vc)/\W1.drew.cell? ⟨xb,3,none⟩=some (.int .i64 (fl:Int))/\W1.drew.cell? ⟨w.heap.size,1,none⟩=some (.int .i64 a):=⟨c2,c3,b1⟩
   refine Xm (S:=λW=>W.cell? ⟨xb,2,none⟩=some (.slice va states.length vc)/\W.cell? ⟨xb,3,none⟩=some (.int .i64 (fl:Int))/\W.cell? ⟨w.heap.size,1,none⟩=some (.int .i64 a)) 12 (by simp) (by kernel_rfl) (by kernel_rfl) d0 ?_
   intro hHeld l o hl ho
   simp only [List.dropLast_cons_cons,List.dropLast_singleton] at hl
   simp only [List.getLast_cons_cons,List.getLast_singleton] at ho
   subst hl
   subst ho
   simp only [Qp,Qv,Nat.reduceAdd]
   refine tkL 0 ?_
   simp only [Act.put,Qa,Qb,Qc]
   refine tkL 1 ?_
   simp only [Act.put,Qa,Qb,Qc]
   refine tkL 2 ?_
   simp only [Act.put,Qa,Qb,Qc]
   refine tkL 3 ?_
   simp only [Act.put,Qa,Qb,Qc]
   refine tkL 4 ?_
   simp only [Act.put,Qa,Qb,Qc]
   refine tkL 5 ?_
   simp only [Act.put,Qa,Qb,Qc]
   refine tkL 6 ?_
   simp only [Act.put,Qa,Qb,Qc]
   refine tkL 7 ?_
   simp only [Act.put,Qa,Qb,Qc]
   refine tkL 8 ?_
   simp only [Act.put,Qa,Qb,Qc]
   refine tkL 9 ?_
   simp only [Act.put,Qa,Qb,Qc]
   refine tkL 10 ?_
   simp only [Act.put,Qa,Qb,Qc]
   refine tkL 12 ?_
   simp only [Act.put,Qa,Qb,Qc]
   refine tkL 13 ?_
   simp only [Act.put,Qa,Qb,Qc]
   refine tkL 14 ?_
   simp only [Act.put,Qa,Qb,Qc]
   refine tkL 15 ?_
   simp only [Act.put,Qa,Qb,Qc]
   refine YW (i:=11) rfl (by kernel_rfl) (λK hK=>?_)
   go_simp
   refine hK.out _ _ d0 (λhHeld11=>?_)
   clear hK K hHeld
   try simp only [Act.put,Qa,Qb,Qc]
   refine tkL 16 ?_
   simp only [Act.put,Qa,Qb,Qc]
   refine YW (i:=17) rfl (by kernel_rfl) (λK hK=>?_)
   go_simp
   go_at_call 22
   refine (HPK.o _ _ rfl).mono ?_
   rintro _ w'' ⟨⟨r,hr,rfl⟩,hw''⟩
   have hw3:=hw''.symm
   subst hw3
   have hadd:=HADD.o r hr
   go_wp2_with fail
   refine hK.out _ _ d0 (λhHeld17=>?_)
   clear hK K hHeld11
   try simp only [Act.put,Qa,Qb,Qc]
   refine tkL 18 ?_
   simp only [Act.put,Qa,Qb,Qc]
   refine tkL 19 ?_
   simp only [Act.put,Qa,Qb,Qc]
   refine tkL 20 ?_
   simp only [Act.put,Qa,Qb,Qc]
   refine wpAnyH_done (by kernel_rfl) ?_ _
   show wpList _ _ _ [_] _ _
   go_wp2
   go_meet
   exact ⟨r,hr,rfl⟩
 case rest=>
 obtain ⟨r,HR,hwx⟩:=hcut
 obtain ⟨W2,hW2⟩:∃W2,W2=wc:=⟨wc,rfl⟩
 rw [<-hW2] at hwx ⊢
 clear hW2
 have hS1:=HS.o.1
 have hrd:W1.drew.heap[xb]? =some (.cells #[.pointer (some ⟨lb,0,none⟩),.int .i64 (wd:Int),.slice va states.length vc,.int .i64 (fl:Int)] 35):=hS1.row
 have e2:=Qj W1.drew xb 3 _ _ _ (.int .i64 ((fl+r:Nat):Int)) hrd
 rw [e2] at hwx
 have hr2:W2.heap[xb]? =some (.cells #[.pointer (some ⟨lb,0,none⟩),.int .i64 (wd:Int),.slice va states.length vc,.int .i64 ((fl+r:Nat):Int)] 35):=by rw [hwx];exact Qi _ _ _ _ _ _ hrd
 have t2:Tch (λj=>j=xb) W1 W2:=by rw [hwx];exact ((Td NoB W1 1).mono noE).trans (Ts _ _ _) (λj hj=>.inl hj)
 have hA2:L.At W2 lb F fl ch:=L.keep hS1.led t2 (λj hj hF=>hS1.apart xb _ _ _ hS1.row (.inl rfl) (by rw [<-hj];exact hF))
 have hF2:JV E base W2:=HS.o.2.1.tch t2 (λj hj=>by rw [hj];exact hS1.low)
 have HPR:Hid (∀V,Tch NoB W2 V->Calls prog 28 #[.pointer (some ⟨lb,0,none⟩),.int .i64 ((fl+r:Nat):Int)] V λe w'=>e=.returned (.int .i64 0)/\Tch F V w'/\∃F':Nat->Prop,(∀j,F' j->F j\/V.heap.size<=j)/\L'.At w' lb F' (fl+r) ch):=λV hV=>hP.pin (fl+r) (L.keep hA2 hV (λ_ e=>e.elim)) (hF2.tch hV (λ_ e=>e.elim)) (by omega) (by have:=HR.o;have:=hS1.len;omega)
 have q0:W2.cell? ⟨xb,0,none⟩=some (.pointer (some ⟨lb,0,none⟩)):=Ja hr2
 have q3:W2.cell? ⟨xb,3,none⟩=some (.int .i64 ((fl+r:Nat):Int)):=Ja hr2
 have HX:Hid (xb<W2.heap.size/\¬F xb):=⟨(Jb hr2),hS1.apart xb _ _ _ hS1.row (.inl rfl)⟩
 have H2:Hid (W2.heap[xb]? =some (.cells #[.pointer (some ⟨lb,0,none⟩),.int .i64 (wd:Int),.slice va states.length vc,.int .i64 ((fl+r:Nat):Int)] 35)/\Tch (λj=>j=xb) W1 W2):=⟨hr2,t2⟩
 clear hS1 hrd e2 hwx hr2 t2 hA2 hF2 c0 c2 c3 f3 b0 b1
 have HFL:Hid (fl+r<states.length):=(by have:=HR.o;omega:fl+r<states.length)
 generalize fl+r=fl' at *
 go_upto_region 6 with fail
 go_cut [5] (λv wx=>v=.int .i64 0/\∃V F',Hid (Tch NoB W2 V)/\Hid (Tch F V wx)/\Hid (∀j,F' j->F j\/V.heap.size<=j)/\Hid (L'.At wx lb F' fl' ch))
 case first=>
  go_region_held3 (λW=>W.cell? ⟨xb,0,none⟩=some (.pointer (some ⟨lb,0,none⟩))/\W.cell? ⟨xb,3,none⟩=some (.int .i64 (fl':Int))) (go_keep) ((go_at_call 28;refine (HPR.o _ (Td _ W2 1)).mono ?_;rintro _ w3 ⟨rfl,ht3,F',hf3,ha3⟩;have e0:w3.cell? ⟨xb,0,none⟩=some (.pointer (some ⟨lb,0,none⟩)):=(ht3.cell (p:=⟨xb,0,none⟩) HX.o.1 HX.o.2).trans q0;have e3:w3.cell? ⟨xb,3,none⟩=some (.int .i64 (fl':Int)):=(ht3.cell (p:=⟨xb,3,none⟩) HX.o.1 HX.o.2).trans q3;have HT3:Hid (Tch F W2.drew w3):=ht3;have HF3:Hid (∀j,F' j->F j\/W2.drew.heap.size<=j):=hf3;have HA3:Hid (L'.At w3 lb F' fl' ch):=ha3;clear ht3 hf3 ha3))
  all_goals
   go_wp2
   go_meet
   exact ⟨rfl,W2.drew,F',Td _ W2 1,HT3,HF3,HA3⟩
 case rest=>
 obtain ⟨rfl,V,F',HV,HT3,HF3,HA3⟩:=hcut
 obtain ⟨w3,hw3⟩:∃w3,w3=wc:=⟨wc,rfl⟩
 subst hw3
 clear HPR
 go_wp2
 go_ret
 have hS1:=HS.o.1
 have T13:Tch (λj=>F j\/j=xb) W1 w3:=((H2.o.2.mono (λ_ h=>.inl (.inr h))).trans HV.o noE).trans HT3.o (λj hj=>.inl (.inl hj))
 have hne:∀j cur T m,W1.heap[j]? =some (.cells cur T m)->T=43\/T=87->¬(F j\/j=xb):=λj cur T m hr hT e=>by
  rcases e with e | e
  ·exact hS1.apart j cur T m hr (.inr hT) e
  ·rw [e,hS1.row] at hr
   simp only [Qh,Obj.cells.injEq] at hr
   rcases hT with rfl | rfl
   ·exact absurd hr.2.1 (by decide)
   ·exact absurd hr.2.1 (by decide)
 have hr3:=((HV.o.go (Te _ _)).block xb HX.o.1 (λe=>e)).trans H2.o.1
 refine ⟨rfl,F',fl',⟨(HT3.o.block xb (Qk HX.o.1 HV.o.size) HX.o.2).trans hr3,HA3.o,hS1.st.tch T13 (λj hj=>?_),hS1.low,λi x l h1 h2=>(hS1.held i x l h1 h2).tch T13 (λj hj=>?_),hS1.len,HFL.o,hS1.book⟩,?_,λj hj=>?_⟩
 ·obtain ⟨c,m,hr⟩:=SOwn.kind hS1.st j hj
  exact hne j c _ m hr (.inl rfl)
 ·obtain ⟨c,m,hr⟩:=(hS1.held i x l h1 h2).2 j hj
  exact hne j c _ m hr (.inr rfl)
 ·exact (HS.o.2.2.mono noE).trans T13 (λj hj=>.inl hj)
 ·rcases HF3.o j hj with h | h
  ·exact .inl h
  ·exact .inr (Qm (Qm HS.o.2.2.size H2.o.2.size) (Qm HV.o.size h))

theorem Jl4 (k:List UInt8) (i:Nat) (hi:i<8 * k.length) (hl:k.length<=1000000) (w:World):
  Calls prog 59 #[.string ⟨k.toArray⟩,.int .i64 (i:Int)] w λe w'=>e=.returned (.int .i64 (bt k i:Int))/\w'=w:=by
 have hsz:(⟨k.toArray⟩:BA).size=k.length:=JA k
 have hix:i / 8<(⟨k.toArray⟩:BA).size:=by omega
 have HB:Hid ((⟨k.toArray⟩:BA)[i / 8].toNat=(k.getD (i / 8) 0).toNat):=by
  show UInt8.toNat _=_
  congr 1
  simp [List.getD_eq_getElem?_getD,show i / 8<k.length by omega]
  rfl
 have hlt:=UInt8.toNat_lt (⟨k.toArray⟩:BA)[i / 8]
 have HBT:Hid (bt k i=(k.getD (i / 8) 0).toNat / 2 ^ (7 - i % 8) % 2):=rfl
 clear hsz
 generalize (⟨k.toArray⟩:BA)=tb at *
 have hq:((i:Int) / 8).toNat=i / 8:=by omega
 go_enter func59,ntmps59
 go_wp2
 go_ret
 refine ⟨Jco ?_,rfl⟩
 have e1:((tb[i / 8].toNat:Int) / 2 ^ (7 - i % 8))=((tb[i / 8].toNat / 2 ^ (7 - i % 8):Nat):Int):=by simp
 have hle:tb[i / 8].toNat / 2 ^ (7 - i % 8)<=tb[i / 8].toNat:=Nat.div_le_self _ _
 rw [e1]
 have e2:wrap64 ((tb[i / 8].toNat / 2 ^ (7 - i % 8):Nat):Int)=((tb[i / 8].toNat / 2 ^ (7 - i % 8):Nat):Int):=by
  have h0:(0:Int)<=((tb[i / 8].toNat / 2 ^ (7 - i % 8):Nat):Int):=Int.natCast_nonneg _
  have h1:((tb[i / 8].toNat / 2 ^ (7 - i % 8):Nat):Int)<256:=by omega
  generalize ((tb[i / 8].toNat / 2 ^ (7 - i % 8):Nat):Int)=z at *
  unfold wrap64
  omega
 rw [e2,HBT.o,<-HB.o]
 rfl
def Xq (l:List Held) (b:Nat):Bool:=match l with
 | []=>true
 | h :: r=>r.all λx=>bt (Jd x.1) b == bt (Jd h.1) b
theorem Jk8 (xb wd b:Nat) (hb:b<8 * (wd+1)) (hw:wd<=32) (v:Value) (h0:Held) (r:List Held) (w:World) (hv:JH w v (h0 :: r)) (hco:∀h∈h0 :: r,Ji wd h.1) (hlen:(h0 :: r).length<=1000000000):
  Calls prog 58 #[.pointer (some ⟨xb,0,none⟩),v,.int .i64 (b:Int)] w λe w'=>e=.returned (.bool (Xq (h0 :: r) b))/\Tch NoB w w':=by
 rcases hv with ⟨_,e⟩ | ⟨g,o,c,rfl,hg,hcell⟩
 ·cases e
 have HKT:Hid (∀V (s:BA) (N:Int),Ji wd (s,N)->Calls prog 54 #[.agg #[.string s,.int .i64 N]] V λe w'=>e=.returned (.string ⟨(Jd (s,N)).toArray⟩)/\Tch NoB V w'):=λV s N hc=>Jay (s,N) V hc.2.1 (by have:=hc.2.2;omega) (by have:=hc.1;dsimp only at this;show s.size<=_;omega)
 have HBT:Hid (∀V (c:BA×Int),Ji wd c->Calls prog 59 #[.string ⟨(Jd c).toArray⟩,.int .i64 (b:Int)] V λe w'=>e=.returned (.int .i64 (bt (Jd c) b:Int))/\w'=V):=λV c hc=>by
  have hl:(Jd c).length=wd+1:=by unfold Jd;rw [Qe,Xw,Je,hc.1]
  exact Jl4 (Jd c) b (by rw [hl];exact hb) (by rw [hl];omega) V
 have HC:Hid (∀(i:Nat) (h:i<(h0 :: r).length),Ji wd (h0 :: r)[i].1/\∀V,Tch NoB w V->V.cell? ⟨g,o+i * 4,none⟩=some (.string (h0 :: r)[i].1.1)/\V.cell? ⟨g,o+i * 4+1,none⟩=some (.int .i64 (h0 :: r)[i].1.2)):=λi h=>⟨hco _ (Qx h),λV hV=>⟨(hV.cell (p:=⟨g,o+i * 4,none⟩) hg (λe=>e)).trans (hcell i h).1,(hV.cell (p:=⟨g,o+i * 4+1,none⟩) hg (λe=>e)).trans (hcell i h).2.1⟩⟩
 have HAL:Hid (Xq (h0 :: r) b=r.all λx=>bt (Jd x.1) b == bt (Jd h0.1) b):=rfl
 generalize Xq (h0 :: r) b=al at *
 have hn:(h0 :: r).length=r.length+1:=rfl
 have hlen':r.length<=1000000000:=by omega
 rw [hn]
 clear hcell hco hlen hn hb
 go_enter func58,ntmps58
 go_upto_region 2 with fail
 go_loopw [7] (λi wr=>∃k:Nat,k<=r.length/\i=.int .i64 ((k:Int)+1)/\Hid ((r.take k).all (λx=>bt (Jd x.1) b == bt (Jd h0.1) b)=true)/\Hid (Tch NoB w wr)) (λi _=>r.length+1 - (intOf i).toNat)
 case atStart=>exact ⟨0,Nat.zero_le _,rfl,(by simp:((r.take 0).all (λx=>bt (Jd x.1) b == bt (Jd h0.1) b))=true),Te _ _⟩
 case round=>
  obtain ⟨k,hk,rfl,HA,HT⟩:=hrel
  by_cases hgo:k<r.length
  ·have hki:(k:Int)+1<((r.length+1:Nat):Int):=by omega
   obtain ⟨ok0,c0⟩:=HC.o 0 (by simp)
   obtain ⟨okk,ck⟩:=HC.o (k+1) (by simp;omega)
   have hxe:(h0 :: r)[k+1]'(by simp;omega)=r[k]:=rfl
   rw [hxe] at okk ck
   have hx0:(h0 :: r)[0]'(by simp)=h0:=rfl
   rw [hx0] at ok0 c0
   have HNX:Hid ((r.take (k+1)).all (λx=>bt (Jd x.1) b == bt (Jd h0.1) b)=(bt (Jd r[k].1) b == bt (Jd h0.1) b)):=by
    show List.all _ _=_
    rw [QQ hgo,List.all_append,HA.o]
    simp
   have HNO:Hid (¬bt (Jd r[k].1) b=bt (Jd h0.1) b->al=false):=λhne=>by
    rw [HAL.o,List.all_eq_false]
    exact ⟨r[k],Qx hgo,by simpa using hne⟩
   obtain ⟨⟨⟨s0,N0⟩,o0⟩,hh0⟩:∃x:Held,x=h0:=⟨_,rfl⟩
   obtain ⟨⟨⟨sk,Nk⟩,ok⟩,hhk⟩:∃x:Held,x=r[k]:=⟨_,rfl⟩
   rw [<-hh0] at ok0 c0 HNO
   rw [<-hhk] at okk ck HNO
   have HNX2:Hid (bt (Jd (sk,Nk)) b=bt (Jd (s0,N0)) b->(r.take (k+1)).all (λx=>bt (Jd x.1) b == bt (Jd h0.1) b)=true):=λe=>by rw [HNX.o,<-hh0,<-hhk];simpa using e
   clear HNX
   have HO:Hid (Ji wd (s0,N0)/\Ji wd (sk,Nk)):=⟨ok0,okk⟩
   have HCC:Hid (∀V,Tch NoB w V->V.cell? ⟨g,o,none⟩=some (.string s0)/\V.cell? ⟨g,o+1,none⟩=some (.int .i64 N0)/\V.cell? ⟨g,o+(k+1) * 4,none⟩=some (.string sk)/\V.cell? ⟨g,o+(k+1) * 4+1,none⟩=some (.int .i64 Nk)):=λV hV=>by
    have a0:=c0 V hV
    have ak:=ck V hV
    simp only [Nat.zero_mul,Nat.add_zero] at a0
    exact ⟨a0.1,a0.2,ak.1,ak.2⟩
   obtain ⟨x0,x1,xk,xl⟩:=HCC.o wr HT.o
   have hk0:(0:Int)<=(k:Int)+1:=by omega
   have HGO:Hid _:=hgo
   clear ok0 c0 okk ck hxe hx0 hgo hh0 hhk hk
   go_upto_region 4 with fail
   go_cut [29] (λv wx=>v=.bool (decide (¬bt (Jd (sk,Nk)) b=bt (Jd (s0,N0)) b))/\Hid (Tch NoB w wx))
   case first=>
    have hkt:((k:Int)+1).toNat=k+1:=by omega
    have HTd:Hid (Tch NoB w wr.drew):=HT.o.go (Td _ wr 1)
    go_region_held3 (λV=>V.cell? ⟨g,o,none⟩=some (.string s0)/\V.cell? ⟨g,o+1,none⟩=some (.int .i64 N0)/\V.cell? ⟨g,o+(k+1) * 4,none⟩=some (.string sk)/\V.cell? ⟨g,o+(k+1) * 4+1,none⟩=some (.int .i64 Nk)) (go_keep) ((first | (go_at_call 54;refine (HKT.o _ _ _ (by first | exact HO.o.2 | exact HO.o.1)).mono ?_;rintro _ w5 ⟨rfl,ht5⟩;have HT5:Hid (Tch NoB w w5):=(by first | exact HTd.o.go ht5 | exact HT5.o.go ht5);obtain ⟨y0,y1,yk,yl⟩:=HCC.o w5 HT5.o;clear ht5) | (go_at_call 59;refine (HBT.o _ _ (by first | exact HO.o.2 | exact HO.o.1)).mono ?_;rintro _ _ ⟨rfl,rfl⟩)))
    all_goals
     go_wp2
     go_meet
     refine ⟨?_,by first | exact HT5⟩
     rw [Value.bool.injEq,Bool.eq_iff_iff]
     simp only [bne_iff_ne,ne_eq,decide_eq_true_eq]
     omega
   case rest=>
   obtain ⟨rfl,HT6⟩:=hcut
   obtain ⟨w6,hw6⟩:∃w6,w6=wc:=⟨wc,rfl⟩
   subst hw6
   clear HCC x0 x1 xk xl
   by_cases hne:bt (Jd (sk,Nk)) b=bt (Jd (s0,N0)) b
   ·have hd:(decide (¬bt (Jd (sk,Nk)) b=bt (Jd (s0,N0)) b))=false:=by simp [hne]
    rw [hd]
    have HN:Hid ((r.take (k+1)).all (λx=>bt (Jd x.1) b == bt (Jd h0.1) b)=true):=by
     exact HNX2.o hne
    go_wp2
    go_roundw
    case rel=>exact ⟨k+1,HGO.o,by have:=HGO.o;go_num,HN,HT6⟩
    case measure=>have:=HGO.o;simp [intOf];omega
   ·have hd:(decide (¬bt (Jd (sk,Nk)) b=bt (Jd (s0,N0)) b))=true:=by simp [hne]
    rw [hd]
    have HN:Hid (al=false):=HNO.o hne
    go_wp2
    go_ret
    rw [HN.o]
    exact ⟨rfl,HT6.o⟩
  ·have hki:¬(k:Int)+1<((r.length+1:Nat):Int):=by omega
   have HAL2:Hid (al=true):=by
    show al=true
    rw [HAL.o]
    have:=HA.o
    rw [QR (by omega)] at this
    exact this
   go_wp2
   go_ret
   rw [HAL2.o]
   exact ⟨rfl,HT.o⟩

def koL (l:List Held):List KO:=l.map λh=>(Jd h.1,h.2)
theorem ZO (h0:Held) (r:List Held) (b:Nat):Xq (h0 :: r) b=true↔∀x∈h0 :: r,bt (Jd x.1) b=bt (Jd h0.1) b:=by
 unfold Xq
 simp only [List.all_eq_true,beq_iff_eq,List.mem_cons,forall_eq_or_imp,true_and]
theorem Jk5 (h0:Held) (r:List Held) (b:Nat) (hno:Xq (h0 :: r) b=false) (hyes:∀i,i<b->Xq (h0 :: r) i=true):Fork (koL (h0 :: r)) b:=by
 constructor
 ·intro x hx y hy i hi
  have h:=(ZO h0 r i).1 (hyes i hi)
  obtain ⟨u,hu,rfl⟩:=QK.1 hx
  obtain ⟨v,hv,rfl⟩:=QK.1 hy
  exact (h u hu).trans (h v hv).symm
 ·apply Classical.byContradiction
  intro hc
  have:Xq (h0 :: r) b=true:=(ZO h0 r b).2 λx hx=>by
   apply Classical.byContradiction
   intro hne
   exact hc ⟨_,QK.2 ⟨x,hx,rfl⟩,_,QK.2 ⟨h0,QM,rfl⟩,hne⟩
  rw [hno] at this
  cases this
theorem Jk4 {wd:Nat} (h0 x:Held) (r:List Held) (hok:∀h∈h0 :: x :: r,Ji wd h.1) (hnd:((h0 :: x :: r).map (·.1)).Nodup):∃b,b<8 * (wd+1)/\Xq (h0 :: x :: r) b=false:=by
 have k0:=hok h0 (by simp)
 have kx:=hok x (by simp)
 have hne:Jd h0.1 ≠ Jd x.1:=λe=>by
  have:=Jaw k0 kx e
  simp [this] at hnd
 obtain ⟨h1,h2,_⟩:=Jhh (Jd h0.1) (Jd x.1) (by rw [Xt k0,Xt kx]) hne
 rw [Xt k0] at h1
 refine ⟨_,h1,?_⟩
 cases ha:Xq (h0 :: x :: r) (fd (Jd h0.1) (Jd x.1)) with
 | false=>rfl
 | true=>exact absurd ((ZO h0 (x :: r) _).1 ha x (by simp)).symm h2
def JO (l:List Held) (b v:Nat):List Held:=l.filter λh=>bt (Jd h.1) b=v
theorem JcB (l:List Held) (b v:Nat):koL (JO l b v)=side (koL l) b v:=by
 unfold koL JO side
 rw [List.filter_map]
 rfl
theorem ZX (l:List Held) (x:Held) (b v:Nat):JO (l++[x]) b v=if bt (Jd x.1) b=v then JO l b v++[x] else JO l b v:=by
 unfold JO
 rw [List.filter_append]
 by_cases h:bt (Jd x.1) b=v
 ·rw [if_pos h,List.filter_cons_of_pos (by simpa using h)];rfl
 ·rw [if_neg h,List.filter_cons_of_neg (by simpa using h)];simp
theorem JdT (l:List Held) (b:Nat):(JO l b 0).length+(JO l b 1).length=l.length:=by
 have:=JfD (koL l) b
 rw [<-JcB,<-JcB] at this
 simpa [koL] using this
theorem Jkr (h0:Held) (r:List Held) (b:Nat) (hno:Xq (h0 :: r) b=false):(JO (h0 :: r) b 0).length<(h0 :: r).length/\(JO (h0 :: r) b 1).length<(h0 :: r).length:=by
 have hl:=JdT (h0 :: r) b
 have hx:∃x∈h0 :: r,¬bt (Jd x.1) b=bt (Jd h0.1) b:=by
  apply Classical.byContradiction
  intro hc
  have:Xq (h0 :: r) b=true:=(ZO h0 r b).2 λx hx=>by
   apply Classical.byContradiction
   intro hne
   exact hc ⟨x,hx,hne⟩
  rw [hno] at this
  cases this
 obtain ⟨x,hx,hne⟩:=hx
 have b0:=Xz (Jd h0.1) b
 have bx:=Xz (Jd x.1) b
 have m0:h0∈JO (h0 :: r) b (bt (Jd h0.1) b):=QN.2 ⟨QM,by simp⟩
 have mx:x∈JO (h0 :: r) b (bt (Jd x.1) b):=QN.2 ⟨hx,by simp⟩
 have p0:=List.length_pos_of_mem m0
 have px:=List.length_pos_of_mem mx
 have h2:(bt (Jd h0.1) b=0/\bt (Jd x.1) b=1)\/(bt (Jd h0.1) b=1/\bt (Jd x.1) b=0):=by omega
 rcases h2 with ⟨e1,e2⟩ | ⟨e1,e2⟩
 ·rw [e1] at p0;rw [e2] at px;omega
 ·rw [e1] at p0;rw [e2] at px;omega
theorem Jge {wd:Nat} (h0 x:Held) (r:List Held) (hok:∀h∈h0 :: x :: r,Ji wd h.1) (hnd:((h0 :: x :: r).map (·.1)).Nodup):∃b,b<8 * (wd+1)/\Xq (h0 :: x :: r) b=false/\∀i,i<b->Xq (h0 :: x :: r) i=true:=by
 obtain ⟨b,hb,hf⟩:=Jk4 h0 x r hok hnd
 generalize 8 * (wd+1)=M at *
 generalize h0 :: x :: r=l at *
 clear hok hnd
 induction b using Nat.strongRecOn with
 | _ b ih=>
  by_cases hall:∀i,i<b->Xq l i=true
  ·exact ⟨b,hb,hf,hall⟩
  ·obtain ⟨i,hi⟩:=Classical.not_forall.1 hall
   obtain ⟨hib,hia⟩:=Classical.not_imp.1 hi
   exact ih i hib (by omega) (by simpa using hia)
theorem JiC {d:List UInt8->BA} (h0:Held) (r:List Held) (b:Nat) (hno:Xq (h0 :: r) b=false) (hyes:∀i,i<b->Xq (h0 :: r) i=true) {s t:List UInt8} {p q:List (List UInt8)} (hs:JQ d (koL (JO (h0 :: r) b 0)) s p) (ht:JQ d (koL (JO (h0 :: r) b 1)) t q):
  JQ d (koL (h0 :: r)) (78 :: (beL b 2 2++((d s).data.toList++(d t).data.toList))) (p++q++[78 :: (beL b 2 2++((d s).data.toList++(d t).data.toList))]):=by
 rw [JcB] at hs ht
 exact .two _ b s t p q (Jk5 h0 r b hno hyes) hs ht
theorem Jbm {P:Held->Prop} (l:List Held) (b v:Nat) (h:∀x∈l,P x):∀x∈JO l b v,P x:=λx hx=>h x (QN.1 hx).1
theorem Jb5 (l:List Held) (b v:Nat) (h:(l.map (·.1)).Nodup):((JO l b v).map (·.1)).Nodup:=h.sublist (List.Sublist.map _ List.filter_sublist)
theorem JQ.tlen {wd:Nat} (hw:wd<=32) {l:List Held} (hok:∀h∈l,Ji wd h.1) {s:List UInt8} {a:List (List UInt8)} (h:JQ (dgW wd) (koL l) s a):s.length<=1000:=by
 have hd:∀y,(dgW wd y).data.toList.length=wd:=λy=>by rw [Xw,Jp wd hw]
 generalize hk:koL l=kl at h
 cases h using JQ.ri with
 | none=>simp
 | one k o=>
  have hm:(k,o)∈koL l:=by rw [hk];simp
  obtain ⟨x,hx,e⟩:=QK.1 hm
  have hl:=Xt (hok x hx)
  have e1:Jd x.1=k:=congrArg Prod.fst e
  rw [e1] at hl
  simp only [Qp,Qe,hl,Jaq]
  omega
 | two _ b x y p q hf _ _=>
  simp only [Qp,Qe,Je,hd]
  omega

def strB (l:List (List UInt8)):List BA:=l.map λx=>⟨x.toArray⟩
def SRow (base:Nat) (w:World) (j:Nat):Prop:=base<=j/\∃cs m,w.heap[j]? =some (.cells cs 9 m)
theorem SRow.not {base j:Nat} {w:World} {cs:Array Value} {T:TypeId} {m:Nat×Nat} (h:w.heap[j]? =some (.cells cs T m)) (hT:¬T=9):¬SRow base w j:=λe=>by
 obtain ⟨_,cs',m',h'⟩:=e
 rw [h] at h'
 simp only [Qh,Obj.cells.injEq] at h'
 exact hT h'.2.1
theorem SRow.back {base j:Nat} {w w':World} (k:Tch (SRow base w) w w') (h:SRow base w' j):SRow base w j\/w.heap.size<=j:=by
 by_cases hj:w.heap.size<=j
 ·exact .inr hj
 ·refine .inl ?_
  apply Classical.byContradiction
  intro hn
  obtain ⟨h1,cs,m,h2⟩:=h
  exact hn ⟨h1,cs,m,(k.block j (by omega) hn).symm.trans h2⟩
def ZN (wd base:Nat) (l:List Held) (w:World) (al:List BA) (e:Ending) (w':World):Prop:=
 ∃s a va',e=.returned (.tuple #[.string ⟨s.toArray⟩,va'])/\JQ (dgW wd) (koL l) s a/\NOwn base w' va' (al++strB a)/\Tch (SRow base w) w w'
theorem Jlc (wd base xb:Nat) (w:World) (v va:Value) (al:List BA) (hv:JH w v []) (ha:NOwn base w va al) (hb:base<=w.heap.size) (hl:al.length<=1000000000):
  Calls prog 30 #[.pointer (some ⟨xb,0,none⟩),v,va] w λe w'=>ZN wd base [] w al e w':=by
 obtain ⟨p,q,hvs⟩:∃p q,v=.slice p 0 q:=by
  rcases hv with ⟨rfl,_⟩ | ⟨g,o,c,rfl,_⟩
  ·exact ⟨_,_,rfl⟩
  ·exact ⟨_,_,rfl⟩
 subst hvs
 have tA:=Ta NoB w (.cells #[.string ⟨#[69]⟩] 9)
 have hrA:=Qf w (.cells #[.string ⟨#[69]⟩] 9)
 obtain ⟨v',w3,hrun,hown,hg⟩:=Yr (ha.tch tA (λ_ _ h=>h)) w.heap.size ⟨#[69]⟩ (Ja hrA) 58 (by omega) (Qm hb tA.size)
 obtain ⟨a1,c1,hva⟩:=ha.shape
 subst hva
 obtain ⟨a2,c2,hv2⟩:=hown.shape
 generalize (al++[(⟨#[69]⟩:BA)]).length=n2 at hv2
 subst hv2
 have HEND:Hid (ZN wd base [] w al (.returned (.tuple #[.string ⟨#[69]⟩,.slice a2 n2 c2])) w3):=⟨[69],[[69]],_,rfl,.none,hown,(tA.mono noE).trans (Tg hg) (λj hj=>.inl (ha.own j hj.symm))⟩
 clear hv ha tA hrA hown hg hb hl
 go_enter func30,ntmps30
 go_wp2_with (at_builtin;refine XJ rfl _ _ 58 rfl rfl rfl hrun ?_)
 go_ret2
 exact HEND.o
theorem Jld (wd base xb:Nat) (hw:wd<=32) (w:World) (v va:Value) (x:Held) (al:List BA) (hv:JH w v [x]) (hx:Ji wd x.1/\Jq x.2) (ha:NOwn base w va al) (hb:base<=w.heap.size) (hl:al.length<=1000000000):
  Calls prog 30 #[.pointer (some ⟨xb,0,none⟩),v,va] w λe w'=>ZN wd base [x] w al e w':=by
 rcases hv with ⟨_,e⟩ | ⟨g,o,c,hvs,hg,hcell⟩
 ·cases e
 have hvs:v=.slice (some ⟨g,o,none⟩) 1 c:=hvs
 subst hvs
 obtain ⟨f0,f1,f2,f3⟩:=hcell 0 (by simp)
 simp only [Nat.zero_mul,Nat.add_zero,List.getElem_cons_zero] at f0 f1 f2 f3
 obtain ⟨⟨cs,cN⟩,oa,oo⟩:=x
 simp only at f0 f1 f2 f3
 obtain ⟨T,hT⟩:∃T:List UInt8,T=76 :: (Jd (cs,cN)++outB (oa,oo)):=⟨_,rfl⟩
 have HEND:Hid (∀V,Tch NoB w V->∃v' w3,(Builtin.append_ #[58,58] 58 #[va,.slice (some ⟨V.heap.size,0,none⟩) 1 1]).run prog (V.alloc (.cells #[.string ⟨T.toArray⟩] 9))=.ok v' w3/\ZN wd base [((cs,cN),(oa,oo))] w al (.returned (.tuple #[.string ⟨T.toArray⟩,v'])) w3):=λV hV=>by
  have tA:=Ta NoB V (.cells #[.string ⟨T.toArray⟩] 9)
  obtain ⟨v',w3,hrun,hown,hg⟩:=Yr (ha.tch (hV.go tA) (λ_ _ h=>h)) V.heap.size ⟨T.toArray⟩ (Ja (Qf V _)) 58 (by omega) (Qm hb (hV.go tA).size)
  exact ⟨v',w3,hrun,T,[T],v',rfl,by rw [hT];exact .one _ _,hown,((hV.go tA).mono noE).trans (Tg hg) (λj hj=>.inl (ha.own j hj.symm))⟩
 have hcl:(Jd (cs,cN)).length=wd+1:=Xt hx.1
 have hT2:T=[76]++Jd (cs,cN)++outB (oa,oo):=by rw [hT];simp
 obtain ⟨kB,hkB⟩:∃kB:BA,kB=⟨(Jd (cs,cN)).toArray⟩:=⟨_,rfl⟩
 obtain ⟨oB,hoB⟩:∃oB:BA,oB=⟨(outB (oa,oo)).toArray⟩:=⟨_,rfl⟩
 obtain ⟨mB,hmB⟩:∃mB:BA,mB=⟨([76]++Jd (cs,cN)).toArray⟩:=⟨_,rfl⟩
 obtain ⟨tB,htB⟩:∃tB:BA,tB=⟨T.toArray⟩:=⟨_,rfl⟩
 have hadd1:∀W,(Op.stringOp .add (⟨#[76]⟩:BA) kB).run prog W=.ok (.string mB) W:=λW=>by rw [hkB,hmB];exact YI [76] (Jd (cs,cN)) (by rw [hcl];simp;omega) W
 have hadd2:∀W,(Op.stringOp .add mB oB).run prog W=.ok (.string tB) W:=λW=>by rw [hmB,hoB,htB,hT2];exact YI ([76]++Jd (cs,cN)) (outB (oa,oo)) (by rw [Qe,hcl,Jaq];simp;omega) W
 have HKT:Hid (∀V,Calls prog 54 #[.agg #[.string cs,.int .i64 cN]] V λe w'=>e=.returned (.string kB)/\Tch NoB V w'):=λV=>by rw [hkB];exact Jay (cs,cN) V hx.1.2.1 (by have:=hx.1.2.2;dsimp only at this;show cN<256;omega) (by have:=hx.1.1;dsimp only at this;show cs.size<=_;omega)
 have HOT:Hid (∀V,Calls prog 38 #[.agg #[.int .u64 (oa:Int),.int .u8 (oo:Int)]] V λe w'=>e=.returned (.string oB)/\Tch NoB V w'):=λV=>by rw [hoB];exact JbB oa oo V hx.2.2
 have HCC:Hid (∀V,Tch NoB w V->V.cell? ⟨g,o,none⟩=some (.string cs)/\V.cell? ⟨g,o+1,none⟩=some (.int .i64 cN)/\V.cell? ⟨g,o+2,none⟩=some (.int .u64 (oa:Int))/\V.cell? ⟨g,o+3,none⟩=some (.int .u8 (oo:Int))):=λV hV=>⟨(hV.cell (p:=⟨g,o,none⟩) hg (λe=>e)).trans f0,(hV.cell (p:=⟨g,o+1,none⟩) hg (λe=>e)).trans f1,(hV.cell (p:=⟨g,o+2,none⟩) hg (λe=>e)).trans f2,(hV.cell (p:=⟨g,o+3,none⟩) hg (λe=>e)).trans f3⟩
 rw [<-htB] at HEND
 obtain ⟨a1,c1,hva⟩:=ha.shape
 subst hva
 clear hcell ha hb hl hT hT2 hkB hoB hmB htB hcl hx
 go_enter func30,ntmps30
 go_upto_region 3 with fail
 have HTd:Hid (Tch NoB w w.drew):=Td _ w 1
 go_region_held3 (λV=>V.cell? ⟨g,o,none⟩=some (.string cs)/\V.cell? ⟨g,o+1,none⟩=some (.int .i64 cN)/\V.cell? ⟨g,o+2,none⟩=some (.int .u64 (oa:Int))/\V.cell? ⟨g,o+3,none⟩=some (.int .u8 (oo:Int))) (go_keep) ((first | (go_at_call 54;refine (HKT.o _).mono ?_;rintro _ w5 ⟨rfl,ht5⟩;have HT5:Hid (Tch NoB w w5):=HTd.o.go ht5;obtain ⟨y0,y1,yk,yl⟩:=HCC.o w5 HT5.o;clear ht5) | (go_at_call 38;refine (HOT.o _).mono ?_;rintro _ w6 ⟨rfl,ht6⟩;have HT6:Hid (Tch NoB w w6):=HT5.o.go ht6;obtain ⟨z0,z1,zk,zl⟩:=HCC.o w6 HT6.o;clear ht6)))
 all_goals
  clear HCC f0 f1 f2 f3
  obtain ⟨v',w3,hrun,hE⟩:=HEND.o _ HT6.o
  have HE:Hid _:=hE
  clear hE HEND
  go_wp2_with (at_builtin;refine XJ rfl _ _ 58 rfl rfl rfl hrun ?_)
  go_ret2
  exact HE.o

def txtN (n:JD):List UInt8:=if n.1=⟨#[76]⟩ then 76 :: (n.2.1.data.toList++outB n.2.2.1) else if n.1=⟨#[78]⟩ then 78 :: (beL n.2.2.2.1.toNat 2 2++(n.2.2.2.2.1.data.toList++n.2.2.2.2.2.data.toList)) else [69]
theorem Zl (d:List UInt8->BA) (t:Tr):txtN (Xr d t)=t.text d:=by
 cases t using Tr.ri with
 | leaf k o=>unfold txtN;exact if_pos rfl
 | br b l r=>
  unfold txtN
  exact (if_neg (by show ¬(⟨#[78]⟩:BA)=⟨#[76]⟩;decide)).trans (if_pos rfl)
theorem Yj {wd:Nat} (d:List UInt8->BA):∀(t:Tr),TrOk wd t->(∀x∈JZ d t,∃s,x=Xr d s/\TrOk wd s/\s.text d∈t.posts d)/\∀y∈t.posts d,∃x∈JZ d t,txtN x=y
 | ⟨.inl (k,o)⟩,h=>by
  constructor
  ·intro x hx
   rw [JZ,Qt] at hx
   exact ⟨.leaf k o,hx,h,by simp [Tr.posts]⟩
  ·intro y hy
   rw [Tr.posts,Qt] at hy
   exact ⟨Xr d (.leaf k o),by simp [JZ],by rw [hy];exact Zl d _⟩
 | ⟨.inr (b,l,r)⟩,h=>by
  obtain ⟨l1,l2⟩:=Yj d l h.2.1
  obtain ⟨r1,r2⟩:=Yj d r h.2.2
  constructor
  ·intro x hx
   rw [JZ,List.mem_cons,QE] at hx
   rcases hx with hx | hx | hx
   ·exact ⟨.br b l r,hx,h,by simp [Tr.posts]⟩
   ·obtain ⟨s,k1,k2,k3⟩:=l1 x hx
    exact ⟨s,k1,k2,by simp [Tr.posts,k3]⟩
   ·obtain ⟨s,k1,k2,k3⟩:=r1 x hx
    exact ⟨s,k1,k2,by simp [Tr.posts,k3]⟩
  ·intro y hy
   rw [Tr.posts,QE,QE,Qt] at hy
   rcases hy with (hy | hy) | hy
   ·obtain ⟨x,k1,k2⟩:=l2 y hy
    exact ⟨x,by simp [JZ,k1],k2⟩
   ·obtain ⟨x,k1,k2⟩:=r2 y hy
    exact ⟨x,by simp [JZ,k1],k2⟩
   ·exact ⟨Xr d (.br b l r),by simp [JZ],by rw [hy];exact Zl d _⟩
theorem Jee:∀(l acc:List JD),acc.Nodup->(l.foldl insN acc).Nodup/\∀x,x∈l.foldl insN acc↔x∈acc\/x∈l
 | [],acc,h=>⟨h,λx=>by simp⟩
 | y :: r,acc,h=>by
  rw [List.foldl_cons]
  by_cases hy:y∈acc
  ·have e:insN acc y=acc:=by unfold insN;exact if_pos hy
   rw [e]
   obtain ⟨h1,h2⟩:=Jee r acc h
   refine ⟨h1,λx=>?_⟩
   rw [h2,List.mem_cons]
   constructor
   ·rintro (h | h)
    ·exact .inl h
    ·exact .inr (.inr h)
   ·rintro (h | rfl | h)
    ·exact .inl h
    ·exact .inl hy
    ·exact .inr h
  ·have e:insN acc y=acc++[y]:=by unfold insN;exact if_neg hy
   rw [e]
   obtain ⟨h1,h2⟩:=Jee r (acc++[y]) (List.nodup_append.2 ⟨h,by simp,λa ha b hb e=>hy (by rw [Qt] at hb;rw [<-hb,<-e];exact ha)⟩)
   refine ⟨h1,λx=>?_⟩
   rw [h2,QE,Qt,List.mem_cons]
   constructor
   ·rintro ((h | h) | h)
    ·exact .inl h
    ·exact .inr (.inl h)
    ·exact .inr (.inr h)
   ·rintro (h | h | h)
    ·exact .inl (.inl h)
    ·exact .inl (.inr h)
    ·exact .inr h
theorem Jd6 (k a b:Nat) (ha:a<2 ^ (8 * k)) (hb:b<2 ^ (8 * k)) (h:beL a k k=beL b k k):a=b:=by
 have e1:=Ja7 a k ha k (Ql _)
 have e2:=Ja7 b k hb k (Ql _)
 rw [h] at e1
 rw [e1] at e2
 rw [Nat.sub_self] at e2
 simpa using e2
theorem JkG {wd:Nat} (hw:wd<=32) (s t:Tr) (hs:TrOk wd s) (ht:TrOk wd t) (h:s.text (dgW wd)=t.text (dgW wd)):Xr (dgW wd) s=Xr (dgW wd) t:=by
 have hd:∀t:Tr,(Tr.dig (dgW wd) t).data.toList.length=wd:=λt=>by rw [Xw];cases t using Tr.ri <;> exact Jp wd hw _
 cases s using Tr.ri with
 | leaf k o=>
  cases t using Tr.ri with
  | leaf k' o'=>
   unfold Tr.text at h
   simp only [QH,true_and] at h
   have hl:k.length=k'.length:=by rw [hs.1,ht.1]
   obtain ⟨rfl,h2⟩:=List.append_inj h hl
   unfold outB at h2
   obtain ⟨h3,h4⟩:=List.append_inj h2 (by rw [Je,Je])
   have e1:=Jd6 8 o.1 o'.1 hs.2.2.1 ht.2.2.1 h3
   have e2:=Jd6 1 o.2 o'.2 hs.2.2.2 ht.2.2.2 h4
   obtain ⟨o1,o2⟩:=o
   obtain ⟨o1',o2'⟩:=o'
   simp only at e1 e2
   rw [e1,e2]
  | br b l r=>unfold Tr.text at h;simp at h
 | br b l r=>
  cases t using Tr.ri with
  | leaf k' o'=>unfold Tr.text at h;simp at h
  | br b' l' r'=>
   unfold Tr.text at h
   simp only [QH,true_and] at h
   obtain ⟨h1,h2⟩:=List.append_inj h (by rw [Je,Je])
   obtain ⟨h3,h4⟩:=List.append_inj h2 (by rw [hd,hd])
   have e:=Jd6 2 b b' (by have:=hs.1;omega) (by have:=ht.1;omega) h1
   have e3:Tr.dig (dgW wd) l=Tr.dig (dgW wd) l':=by rw [<-strL (Tr.dig (dgW wd) l),h3,strL]
   have e4:Tr.dig (dgW wd) r=Tr.dig (dgW wd) r':=by rw [<-strL (Tr.dig (dgW wd) r),h4,strL]
   rw [Xr,Xr,e,e3,e4]
theorem JjA {wd:Nat} (hw:wd<=32) (st:Option Tr) (hok:StOk wd st):((JF (dgW wd) st).foldl insN []).length=(Xf [] (JaH (dgW wd) st)).length:=by
 obtain ⟨u1,u2⟩:=Jee (JF (dgW wd) st) [] List.nodup_nil
 obtain ⟨f1,f2⟩:=Jax (JaH (dgW wd) st) [] List.nodup_nil
 have hinj:∀x∈JF (dgW wd) st,∀y∈JF (dgW wd) st,txtN x=txtN y->x=y:=by
  cases st with
  | none=>intro x hx y hy _;rw [JF,Qt] at hx hy;rw [hx,hy]
  | some t=>
   intro x hx y hy e
   obtain ⟨s,rfl,k2,_⟩:=(Yj (dgW wd) t hok).1 x hx
   obtain ⟨s',rfl,m2,_⟩:=(Yj (dgW wd) t hok).1 y hy
   rw [Zl,Zl] at e
   exact JkG hw s s' k2 m2 e
 have hmem:∀y,y∈(JF (dgW wd) st).map txtN↔y∈JaH (dgW wd) st:=by
  cases st with
  | none=>intro y;rw [JF,JaH];rfl
  | some t=>
   intro y
   rw [QK]
   constructor
   ·rintro ⟨x,hx,rfl⟩
    obtain ⟨s,rfl,_,k3⟩:=(Yj (dgW wd) t hok).1 x hx
    rw [Zl]
    exact k3
   ·intro hy
    exact (Yj (dgW wd) t hok).2 y hy
 have hlm:(((JF (dgW wd) st).foldl insN []).map txtN).length=((JF (dgW wd) st).foldl insN []).length:=QL _
 rw [<-hlm]
 refine Jil _ _ ?_ f1 λy=>?_
 ·refine List.pairwise_map.2 (List.Pairwise.imp_of_mem ?_ u1)
  intro a b ha hb hne e
  exact hne (hinj a (by simpa using (u2 a).1 ha) b (by simpa using (u2 b).1 hb) e)
 ·rw [f2,QK]
  constructor
  ·rintro ⟨x,hx,rfl⟩
   exact .inr ((hmem _).1 (QK.2 ⟨x,by simpa using (u2 x).1 hx,rfl⟩))
  ·rintro (h | h)
   ·simp at h
   ·obtain ⟨x,hx,e⟩:=QK.1 ((hmem y).2 h)
    exact ⟨x,(u2 x).2 (.inr hx),e⟩

theorem JbV:∀(l acc:List (List UInt8)) (x:List UInt8),Xf acc (l++[x])=if x∈Xf acc l then Xf acc l else Xf acc l++[x]
 | [],acc,x=>by
  simp only [List.nil_append,Xf]
  by_cases h:x∈acc
  ·simp only [h,if_true]
  ·simp only [h,if_false]
 | y :: r,acc,x=>by simp only [List.cons_append,Xf];exact JbV r _ x
theorem JbW (l:List (List UInt8)) (i:Nat) (hi:i<l.length):(Xf [] (l.take (i+1))).length=(Xf [] (l.take i)).length+(if l[i]∈l.take i then 0 else 1):=by
 have hm:l[i]∈Xf [] (l.take i)↔l[i]∈l.take i:=by
  have:=(Jax (l.take i) [] List.nodup_nil).2 l[i]
  simp only [QD,false_or] at this
  exact this
 rw [QQ hi,JbV]
 by_cases h:l[i]∈l.take i
 ·rw [if_pos (hm.2 h),if_pos h];rfl
 ·rw [if_neg (λe=>h (hm.1 e)),if_neg h];simp
theorem Jbz (l:List (List UInt8)):∀i,i<=l.length->(Xf [] (l.take i)).length<=i
 | 0,_=>by simp [Xf]
 | i+1,h=>by
  have:=Jbz l i (by omega)
  rw [JbW l i (by omega)]
  split <;> omega
theorem JdG {wd:Nat}:∀(l:List Held),(∀h∈l,Ji wd h.1)->(l.map (·.1)).Nodup->((koL l).map (·.1)).Nodup
 | [],_,_=>by simp [koL]
 | x :: r,hok,hn=>by
  rw [List.map_cons,List.nodup_cons] at hn
  have ih:=JdG r (λh hh=>hok h (QP _ hh)) hn.2
  unfold koL at ih ⊢
  rw [List.map_cons,List.map_cons,List.nodup_cons]
  refine ⟨λhm=>hn.1 ?_,ih⟩
  rw [List.map_map,QK] at hm
  obtain ⟨y,hy,e⟩:=hm
  have e2:y.1=x.1:=Jaw (hok y (QP _ hy)) (hok x QM) e
  exact QK.2 ⟨y,hy,e2⟩
theorem JgC {wd:Nat} {d:List UInt8->BA} {st:Option Tr} {l:List Held} (B:Book wd st l) {s:List UInt8} {a:List (List UInt8)} (h:JQ d (koL l) s a):a=JaH d st:=by
 refine JQ.of_state B.wf (λx=>?_) (JdG l (λh hh=>(B.ok h hh).1) B.nodup) h
 unfold koL
 rw [QK]
 obtain ⟨k,o⟩:=x
 rw [B.mem]
 constructor
 ·rintro ⟨h,h1,h2⟩
  simp only [Qw] at h2
  exact ⟨h,h1,h2⟩
 ·rintro ⟨h,h1,h2,h3⟩
  exact ⟨h,h1,by rw [h2,h3]⟩
theorem JQ.ne {d:List UInt8->BA} {l:List KO} {s:List UInt8} {a:List (List UInt8)} (h:JQ d l s a):a ≠ []:=by cases h using JQ.ri <;> simp
theorem Jeu {wd:Nat} (hw:wd<=32) {st:Option Tr} {l:List Held} (B:Book wd st l) (hok:StOk wd st) {s:List UInt8} {a:List (List UInt8)} (h:JQ (dgW wd) (koL l) s a):
  ((JF (dgW wd) st).foldl insN []).length=(Xf [] a).length/\(l=[]\/(Xf [] a).length<2 * l.length)/\a.length<=2 * l.length+1/\a ≠ []:=by
 have hl:(koL l).length=l.length:=by simp [koL]
 refine ⟨by rw [JjA hw st hok,<-JgC B h],?_,?_,h.ne⟩
 ·by_cases e:l=[]
  ·exact .inl e
  ·refine .inr ?_
   have h1:=h.len (λe2=>e (QO (by rw [<-hl,e2];rfl)))
   have h2:=Jbz a a.length (Ql _)
   rw [List.take_length] at h2
   omega
 ·by_cases e:l=[]
  ·subst e
   have:a=[[69]]:=by
    obtain ⟨_,_,h⟩ | ⟨_,_,h,_⟩ | ⟨b,x,y,p,q,hf,_⟩:=h.inv
    ·exact h
    ·simp [koL] at h
    ·exact absurd hf.two (by simp [koL])
   rw [this];simp
  ·have h1:=h.len (λe2=>e (QO (by rw [<-hl,e2];rfl)))
   omega
