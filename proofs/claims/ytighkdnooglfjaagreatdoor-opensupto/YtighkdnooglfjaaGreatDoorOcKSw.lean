import Derived.Test.YtighkdnooglfjaaGreatDoorOcKSh
import Derived.Test.YtighkdnooglfjaaGreatDoorOcStC
namespace Go.Proofs.YtighkdnooglfjaaGreatDoor
open Go.Proofs.Tryz
set_option maxRecDepth 100000
set_option maxHeartbeats 2000000
open Go.RowKit

theorem Jk7 {w:World} (xb:Nat) (a b:Int) (p0:Option Addr) (pn p1:Nat) (R:World->World->Prop) (hP:∀W,Tch NoB w W->Calls prog 17 #[.pointer (some ⟨xb,0,none⟩),.slice p0 pn p1] W λe w'=>e=.returned (.bool true)/\R W w'):
  Calls prog 20 #[.pointer (some ⟨xb,0,none⟩),.agg #[.int .i64 1,.int .i64 a,.int .i64 b,.slice p0 pn p1]] w λe w'=>e=.returned (.bool true)/\∃W,Tch NoB w W/\R W w':=by
 have HP:Hid _:=hP
 clear hP
 go_enter func20,ntmps20
 go_wp2_with fail
 refine (HP.o _ (Ta _ _ _)).mono ?_
 rintro _ w1 ⟨rfl,hR⟩
 have HR:Hid (R _ w1):=hR
 clear hR HP
 go_wp2
 go_ret
 exact ⟨rfl,_,Ta _ _ _,HR.o⟩
theorem Jk6 {w:World} (xb:Nat) (kd a b:Int) (p0:Option Addr) (pn p1:Nat) (h1:¬kd=1) (h2:¬kd=2):
  Calls prog 20 #[.pointer (some ⟨xb,0,none⟩),.agg #[.int .i64 kd,.int .i64 a,.int .i64 b,.slice p0 pn p1]] w λe w'=>e=.returned (.bool true)/\Tch NoB w w':=by
 go_enter func20,ntmps20
 go_wp2
 go_ret
 exact ⟨rfl,Ta _ _ _⟩
theorem JO.coins {E:Nat->Addr} {wd base:Nat} {L:Led E wd base} {w:World} {xb lb:Nat} {F:Nat->Prop} {fl:Nat} {ch:Ch} {vst:Value} {sl:List Sl} {states:List (List Held)} (h:JO L w xb lb F fl ch vst sl states):∀l∈states,∀x∈l,Jn wd x.1:=λl hl x hx=>by
 obtain ⟨i,hi,rfl⟩:=List.getElem_of_mem hl
 have hc:i<ch.length:=by have:=h.len;omega
 exact ((h.book i ch[i] states[i] (Nat.zero_le _) (Qd hc) (Qd hi)).ok x hx).1
theorem JO.len2 {E:Nat->Addr} {wd base:Nat} {L:Led E wd base} {w:World} {xb lb:Nat} {F:Nat->Prop} {fl:Nat} {ch:Ch} {vst:Value} {sl:List Sl} {states:List (List Held)} (h:JO L w xb lb F fl ch vst sl states):∃va vc,vst=.slice va states.length vc/\w.cell? ⟨xb,2,none⟩=some (.slice va states.length vc)/\w.cell? ⟨xb,0,none⟩=some (.pointer (some ⟨lb,0,none⟩)):=by
 have hsl:=h.len.1
 obtain ⟨g,cap,hv,_⟩:=h.st.at (λe=>by have:=h.len;rw [e] at this;simp at this;omega)
 have hr:=h.row
 rw [hv,hsl] at hr
 exact ⟨_,_,by rw [hv,hsl],Ja hr,Ja hr⟩

theorem Jk8 {E:Nat->Addr} {wd base:Nat} (L L':Led E wd base) (hP:JlZ L L') {w:World} {xb lb:Nat} {F:Nat->Prop} {fl:Nat} {ch:Ch} {vst:Value} {sl:List Sl} {states:List (List Held)} (hF:JT E base w) (hS:JO L w xb lb F fl ch vst sl states) (hlen:states.length<=1000000000) (a b:Int) (ha1: -9223372036854775808<=a) (ha2:a<9223372036854775808) (p0:Option Addr) (pn p1:Nat):
  Calls prog 20 #[.pointer (some ⟨xb,0,none⟩),.agg #[.int .i64 2,.int .i64 a,.int .i64 b,.slice p0 pn p1]] w λe w'=>e=.returned (.bool true)/\∃F' fl',JO L' w' xb lb F' fl' ch vst sl states/\Tch (λj=>F j\/j=xb) w w'/\(∀j,F' j->F j\/w.heap.size<=j):=by
 obtain ⟨W1,hW1⟩:∃(W1:World),W1=w.alloc (.cells #[.int .i64 2,.int .i64 a,.int .i64 b,.slice p0 pn p1] 31):=⟨_,rfl⟩
 have t1:Tch NoB w W1:=by rw [hW1];exact Ta _ _ _
 have hr1:W1.heap[w.heap.size]? =some (.cells #[.int .i64 2,.int .i64 a,.int .i64 b,.slice p0 pn p1] 31):=by rw [hW1];exact Qf _ _
 have hS1:=hS.next t1
 have hF1:=hF.tch t1 (λ_ e=>e.elim)
 obtain ⟨va,vc,hv,c2,c0⟩:=hS1.len2
 subst hv
 have c3:W1.cell? ⟨xb,3,none⟩=some (.int .i64 (fl:Int)):=Ja hS1.row
 have f3:W1.frozen? ⟨xb,3,none⟩=false:=Qg _ _ _ _ _ hS1.row
 have b0:W1.cell? ⟨w.heap.size,0,none⟩=some (.int .i64 2):=Ja hr1
 have b1:W1.cell? ⟨w.heap.size,1,none⟩=some (.int .i64 a):=Ja hr1
 have hfl:=hS.floor
 have hsub:IntKind.i64.wrap ((states.length:Int) - (fl:Int))=((states.length - fl:Nat):Int):=by simp [IntKind.wrap,IntKind.bits,IntKind.signed];omega
 have HPK:Hid (∀V z,z=((states.length - fl:Nat):Int)->Calls prog 22 #[.int .i64 a,.int .i64 z] V λe w'=>(∃r:Nat,r<states.length - fl/\e=.returned (.int .i64 (r:Int)))/\w'=V):=λV z hz=>by rw [hz];exact ZN a (states.length - fl) V ha1 ha2 (by omega) (by omega)
 have HADD:Hid (∀r:Nat,r<states.length - fl->IntKind.i64.wrap ((fl:Int)+(r:Int))=((fl+r:Nat):Int)):=λr hr=>by simp [IntKind.wrap,IntKind.bits,IntKind.signed];omega
 have HW:Hid (W1=_):=hW1
 have HS:Hid (JO L W1 xb lb F fl ch (.slice va states.length vc) sl states/\JT E base W1/\Tch NoB w W1):=⟨hS1,hF1,t1⟩
 clear hW1 t1 hr1 hS1 hF1 hS hF hfl
 go_enter func20,ntmps20
 go_upto_region 1 with fail
 rw [<-HW.o]
 go_upto_region 5 with fail
 go_cut [] (λwx=>∃r:Nat,Hid (r<states.length - fl)/\wx=W1.drew.setCell ⟨xb,3,none⟩ (.int .i64 ((fl+r:Nat):Int)))
 case first=>
  go_wp2_with fail
  as_aux_lemma=>
   have d0:W1.drew.cell? ⟨xb,2,none⟩=some (.slice va states.length vc)/\W1.drew.cell? ⟨xb,3,none⟩=some (.int .i64 (fl:Int))/\W1.drew.cell? ⟨w.heap.size,1,none⟩=some (.int .i64 a):=⟨c2,c3,b1⟩
   refine XO (S:=λW=>W.cell? ⟨xb,2,none⟩=some (.slice va states.length vc)/\W.cell? ⟨xb,3,none⟩=some (.int .i64 (fl:Int))/\W.cell? ⟨w.heap.size,1,none⟩=some (.int .i64 a)) 12 (by simp) (by kernel_rfl) (by kernel_rfl) d0 ?_
   intro hHeld l o hl ho
   simp only [List.dropLast_cons_cons,List.dropLast_singleton] at hl
   simp only [List.getLast_cons_cons,List.getLast_singleton] at ho
   subst hl
   subst ho
   simp only [Qp,Qv,Nat.reduceAdd]
   refine tkL 0 ?_
   simp only [Act.put,Qa,Qb,Qc]
   refine tkL 1 ?_
   simp only [Act.put,Qa,Qb,Qc]
   refine tkL 2 ?_
   simp only [Act.put,Qa,Qb,Qc]
   refine tkL 3 ?_
   simp only [Act.put,Qa,Qb,Qc]
   refine tkL 4 ?_
   simp only [Act.put,Qa,Qb,Qc]
   refine tkL 5 ?_
   simp only [Act.put,Qa,Qb,Qc]
   refine tkL 6 ?_
   simp only [Act.put,Qa,Qb,Qc]
   refine tkL 7 ?_
   simp only [Act.put,Qa,Qb,Qc]
   refine tkL 8 ?_
   simp only [Act.put,Qa,Qb,Qc]
   refine tkL 9 ?_
   simp only [Act.put,Qa,Qb,Qc]
   refine tkL 10 ?_
   simp only [Act.put,Qa,Qb,Qc]
   refine tkL 12 ?_
   simp only [Act.put,Qa,Qb,Qc]
   refine tkL 13 ?_
   simp only [Act.put,Qa,Qb,Qc]
   refine tkL 14 ?_
   simp only [Act.put,Qa,Qb,Qc]
   refine tkL 15 ?_
   simp only [Act.put,Qa,Qb,Qc]
   refine Zk (i:=11) rfl (by kernel_rfl) (λK hK=>?_)
   go_simp
   refine hK.out _ _ d0 (λhHeld11=>?_)
   clear hK K hHeld
   try simp only [Act.put,Qa,Qb,Qc]
   refine tkL 16 ?_
   simp only [Act.put,Qa,Qb,Qc]
   refine Zk (i:=17) rfl (by kernel_rfl) (λK hK=>?_)
   go_simp
   go_at_call 22
   refine (HPK.o _ _ rfl).mono ?_
   rintro _ w'' ⟨⟨r,hr,rfl⟩,hw''⟩
   have hw3:=hw''.symm
   subst hw3
   have hadd:=HADD.o r hr
   go_wp2_with fail
   refine hK.out _ _ d0 (λhHeld17=>?_)
   clear hK K hHeld11
   try simp only [Act.put,Qa,Qb,Qc]
   refine tkL 18 ?_
   simp only [Act.put,Qa,Qb,Qc]
   refine tkL 19 ?_
   simp only [Act.put,Qa,Qb,Qc]
   refine tkL 20 ?_
   simp only [Act.put,Qa,Qb,Qc]
   refine wpAnyH_done (by kernel_rfl) ?_ _
   show wpList _ _ _ [_] _ _
   go_wp2
   go_meet
   exact ⟨r,hr,rfl⟩
 case rest=>
 obtain ⟨r,HR,hwx⟩:=hcut
 obtain ⟨W2,hW2⟩:∃W2,W2=wc:=⟨wc,rfl⟩
 rw [<-hW2] at hwx ⊢
 clear hW2
 have hS1:=HS.o.1
 have hrd:W1.drew.heap[xb]? =some (.cells #[.pointer (some ⟨lb,0,none⟩),.int .i64 (wd:Int),.slice va states.length vc,.int .i64 (fl:Int)] 35):=hS1.row
 have e2:=Qj W1.drew xb 3 _ _ _ (.int .i64 ((fl+r:Nat):Int)) hrd
 rw [e2] at hwx
 have hr2:W2.heap[xb]? =some (.cells #[.pointer (some ⟨lb,0,none⟩),.int .i64 (wd:Int),.slice va states.length vc,.int .i64 ((fl+r:Nat):Int)] 35):=by rw [hwx];exact Qi _ _ _ _ _ _ hrd
 have t2:Tch (λj=>j=xb) W1 W2:=by rw [hwx];exact ((Td NoB W1 1).mono noE).trans (Ts _ _ _) (λj hj=>.inl hj)
 have hA2:L.At W2 lb F fl ch:=L.keep hS1.led t2 (λj hj hF=>hS1.apart xb _ _ _ hS1.row (.inl rfl) (by rw [<-hj];exact hF))
 have hF2:JT E base W2:=HS.o.2.1.tch t2 (λj hj=>by rw [hj];exact hS1.low)
 have HPR:Hid (∀V,Tch NoB W2 V->Calls prog 28 #[.pointer (some ⟨lb,0,none⟩),.int .i64 ((fl+r:Nat):Int)] V λe w'=>e=.returned (.int .i64 0)/\Tch F V w'/\∃F':Nat->Prop,(∀j,F' j->F j\/V.heap.size<=j)/\L'.At w' lb F' (fl+r) ch):=λV hV=>hP.pin (fl+r) (L.keep hA2 hV (λ_ e=>e.elim)) (hF2.tch hV (λ_ e=>e.elim)) (by omega) (by have:=HR.o;have:=hS1.len;omega)
 have q0:W2.cell? ⟨xb,0,none⟩=some (.pointer (some ⟨lb,0,none⟩)):=Ja hr2
 have q3:W2.cell? ⟨xb,3,none⟩=some (.int .i64 ((fl+r:Nat):Int)):=Ja hr2
 have HX:Hid (xb<W2.heap.size/\¬F xb):=⟨(Jb hr2),hS1.apart xb _ _ _ hS1.row (.inl rfl)⟩
 have H2:Hid (W2.heap[xb]? =some (.cells #[.pointer (some ⟨lb,0,none⟩),.int .i64 (wd:Int),.slice va states.length vc,.int .i64 ((fl+r:Nat):Int)] 35)/\Tch (λj=>j=xb) W1 W2):=⟨hr2,t2⟩
 clear hS1 hrd e2 hwx hr2 t2 hA2 hF2 c0 c2 c3 f3 b0 b1
 have HFL:Hid (fl+r<states.length):=(by have:=HR.o;omega:fl+r<states.length)
 generalize fl+r=fl' at *
 go_upto_region 6 with fail
 go_cut [5] (λv wx=>v=.int .i64 0/\∃V F',Hid (Tch NoB W2 V)/\Hid (Tch F V wx)/\Hid (∀j,F' j->F j\/V.heap.size<=j)/\Hid (L'.At wx lb F' fl' ch))
 case first=>
  go_region_held3 (λW=>W.cell? ⟨xb,0,none⟩=some (.pointer (some ⟨lb,0,none⟩))/\W.cell? ⟨xb,3,none⟩=some (.int .i64 (fl':Int))) (go_keep) ((go_at_call 28;refine (HPR.o _ (Td _ W2 1)).mono ?_;rintro _ w3 ⟨rfl,ht3,F',hf3,ha3⟩;have e0:w3.cell? ⟨xb,0,none⟩=some (.pointer (some ⟨lb,0,none⟩)):=(ht3.cell (p:=⟨xb,0,none⟩) HX.o.1 HX.o.2).trans q0;have e3:w3.cell? ⟨xb,3,none⟩=some (.int .i64 (fl':Int)):=(ht3.cell (p:=⟨xb,3,none⟩) HX.o.1 HX.o.2).trans q3;have HT3:Hid (Tch F W2.drew w3):=ht3;have HF3:Hid (∀j,F' j->F j\/W2.drew.heap.size<=j):=hf3;have HA3:Hid (L'.At w3 lb F' fl' ch):=ha3;clear ht3 hf3 ha3))
  all_goals
   go_wp2
   go_meet
   exact ⟨rfl,W2.drew,F',Td _ W2 1,HT3,HF3,HA3⟩
 case rest=>
 obtain ⟨rfl,V,F',HV,HT3,HF3,HA3⟩:=hcut
 obtain ⟨w3,hw3⟩:∃w3,w3=wc:=⟨wc,rfl⟩
 subst hw3
 clear HPR
 go_wp2
 go_ret
 have hS1:=HS.o.1
 have T13:Tch (λj=>F j\/j=xb) W1 w3:=((H2.o.2.mono (λ_ h=>.inl (.inr h))).trans HV.o noE).trans HT3.o (λj hj=>.inl (.inl hj))
 have hne:∀j cur T m,W1.heap[j]? =some (.cells cur T m)->T=43\/T=87->¬(F j\/j=xb):=λj cur T m hr hT e=>by
  rcases e with e | e
  ·exact hS1.apart j cur T m hr (.inr hT) e
  ·rw [e,hS1.row] at hr
   simp only [Qh,Obj.cells.injEq] at hr
   rcases hT with rfl | rfl
   ·exact absurd hr.2.1 (by decide)
   ·exact absurd hr.2.1 (by decide)
 have hr3:=((HV.o.go (Te _ _)).block xb HX.o.1 (λe=>e)).trans H2.o.1
 refine ⟨rfl,F',fl',⟨(HT3.o.block xb (Qk HX.o.1 HV.o.size) HX.o.2).trans hr3,HA3.o,hS1.st.tch T13 (λj hj=>?_),hS1.low,λi x l h1 h2=>(hS1.held i x l h1 h2).tch T13 (λj hj=>?_),hS1.len,HFL.o,hS1.book⟩,?_,λj hj=>?_⟩
 ·obtain ⟨c,m,hr⟩:=SOwn.kind hS1.st j hj
  exact hne j c _ m hr (.inl rfl)
 ·obtain ⟨c,m,hr⟩:=(hS1.held i x l h1 h2).2 j hj
  exact hne j c _ m hr (.inr rfl)
 ·exact (HS.o.2.2.mono noE).trans T13 (λj hj=>.inl hj)
 ·rcases HF3.o j hj with h | h
  ·exact .inl h
  ·exact .inr (Qm (Qm HS.o.2.2.size H2.o.2.size) (Qm HV.o.size h))
