import Derived.Test.YtighkdnooglfjaaGreatDoorPcTree9
namespace Go.Proofs.YtighkdnooglfjaaGreatDoor
open Tryz
set_option maxRecDepth 100000
set_option maxHeartbeats 1000000
open Go.RowKit

theorem XM {P:Program} {fn:Func} {p p2 t:Tmp} {ty ty2:TypeId} (h:fn.results= #[.cell p ty,.cell p2 ty2,.tmp t]) (tmps:Array Value) (w:World) (g g2:Nat) (T T2:TypeId) (cs cs2:Array Value) (fr fr2:Nat×Nat) (d d2:TypeDesc)
  (hp:tmps.getD p undef=.pointer (some ⟨g,0,none⟩)) (hg:w.heap[g]? =some (.cells cs T fr))
  (hu:P.underlying ty=some d) (hd:(match d with | .struct _ | .array _ _=>true | _=>false)=true) (hi:(P.info? ty).map (·.size)=some cs.size)
  (hp2:tmps.getD p2 undef=.pointer (some ⟨g2,0,none⟩)) (hg2:w.heap[g2]? =some (.cells cs2 T2 fr2))
  (hu2:P.underlying ty2=some d2) (hd2:(match d2 with | .struct _ | .array _ _=>true | _=>false)=true) (hi2:(P.info? ty2).map (·.size)=some cs2.size):
  (results fn tmps).run P w=.ok (.tuple #[.agg cs,.agg cs2,tmps.getD t undef]) w:=by
 have hp':tmps[p]?.getD undef=.pointer (some ⟨g,0,none⟩):=by simpa using hp
 have hp2':tmps[p2]?.getD undef=.pointer (some ⟨g2,0,none⟩):=by simpa using hp2
 simp [results,h,hp',hp2',asAddr,run_loadVar_row w g T ty cs fr d hg hu hd hi,run_loadVar_row w g2 T2 ty2 cs2 fr2 d2 hg2 hu2 hd2 hi2]
structure Jar (w W:World) (wd:Nat) (q:Option Nat) (c:BA×Int):Prop where
 t:W.heap[w.heap.size]? =some (.cells #[.int .i64 (wd:Int),Jh q] 146)
 c:W.heap[w.heap.size+1]? =some (.cells #[.string c.1,.int .i64 c.2] 49)
 r:W.heap[w.heap.size+2]? =some (.cells #[.int .i64 0,.pointer none] 146)
 oo:W.heap[w.heap.size+3]? =some (.cells #[.int .u64 0,.int .u8 0] 80)
theorem Jar.next {w W W':World} {wd:Nat} {q:Option Nat} {c:BA×Int} (h:Jar w W wd q c) (k:Tch NoB W W'):Jar w W' wd q c:=
 ⟨(k.block _ (Jb h.t) (λh=>h)).trans h.t,(k.block _ (Jb h.c) (λh=>h)).trans h.c,(k.block _ (Jb h.r) (λh=>h)).trans h.r,(k.block _ (Jb h.oo) (λh=>h)).trans h.oo⟩
theorem Jef (w:World) (wd:Nat) (q:Option Nat) (c:BA×Int):Jar w ((((w.alloc (.cells #[.int .i64 (wd:Int),Jh q] 146)).alloc (.cells #[.string c.1,.int .i64 c.2] 49)).alloc (.cells #[.int .i64 0,.pointer none] 146)).alloc (.cells #[.int .u64 0,.int .u8 0] 80)) wd q c:=
 ⟨(Xa _ _ _ _ _ _ (by omega)).trans (JI _ _ _ _),(Xa _ _ _ _ _ _ (by omega)).trans (JE _ _ _ _),(Xa _ _ _ _ _ _ (by omega)).trans (JF _ _ _ _),ZD _ _ _ _ _⟩
theorem ZO {d:List UInt8->BA} {F:Nat->Prop} {w W:World} {wd:Nat} {q:Option Nat} {c:BA×Int} (h:Jar w W wd q c) (hT:Tch NoB w W) (v0 v1 u0 u1:Value):
  ((((W.setCell ⟨w.heap.size+2,0,none⟩ v0).setCell ⟨w.heap.size+2,1,none⟩ v1).setCell ⟨w.heap.size+3,0,none⟩ u0).setCell ⟨w.heap.size+3,1,none⟩ u1).heap[w.heap.size+2]? =some (.cells #[v0,v1] 146)/\
  ((((W.setCell ⟨w.heap.size+2,0,none⟩ v0).setCell ⟨w.heap.size+2,1,none⟩ v1).setCell ⟨w.heap.size+3,0,none⟩ u0).setCell ⟨w.heap.size+3,1,none⟩ u1).heap[w.heap.size+3]? =some (.cells #[u0,u1] 80)/\
  Tch NoB w ((((W.setCell ⟨w.heap.size+2,0,none⟩ v0).setCell ⟨w.heap.size+2,1,none⟩ v1).setCell ⟨w.heap.size+3,0,none⟩ u0).setCell ⟨w.heap.size+3,1,none⟩ u1)/\
  ∀q' st',StAt d F W q' st'->StAt d F ((((W.setCell ⟨w.heap.size+2,0,none⟩ v0).setCell ⟨w.heap.size+2,1,none⟩ v1).setCell ⟨w.heap.size+3,0,none⟩ u0).setCell ⟨w.heap.size+3,1,none⟩ u1) q' st':=by
 rw [set2 W (w.heap.size+2) _ _ _ _ _ h.r]
 have t1:=Ts W (w.heap.size+2) #[v0,v1]
 have o1:=(t1.block _ (Jb h.oo) (by omega)).trans h.oo
 have r1:(W.setRow (w.heap.size+2) #[v0,v1]).heap[w.heap.size+2]? =some (.cells #[v0,v1] 146):=Qi _ _ _ _ _ _ h.r
 rw [set2 _ (w.heap.size+3) _ _ _ _ _ o1]
 have t2:=Ts (W.setRow (w.heap.size+2) #[v0,v1]) (w.heap.size+3) #[u0,u1]
 refine ⟨(t2.block _ (Jb r1) (by omega)).trans r1,Qi _ _ _ _ _ _ o1,(hT.trans t1 (λj hj=>.inr (by omega))).trans t2 (λj hj=>.inr (by omega)),λq' st' hs=>?_⟩
 exact (hs.row h.r (by decide)).row o1 (by decide)
def WoTo (E:Nat->Addr) (wd:Nat) (F:Nat->Prop) (r:Except Er (Option Tr×(Nat×Nat))) (e:Ending) (w':World):Prop:=match r with
 | .ok (st',o)=>∃q',e=.returned (.tuple #[Jw wd q',.agg #[.int .u64 (o.1:Int),.int .u8 (o.2:Int)],.nilIface])/\StAt (dgW wd) F w' q' st'
 | .error _=>e=.returned (.tuple #[.agg #[.int .i64 0,.pointer none],.agg #[.int .u64 0,.int .u8 0],eV E 1])
theorem JdV (E:Nat->Addr) (wd:Nat) (hw1:1<=wd) (hw:wd<=32) (F:Nat->Prop) (q:Option Nat) (st:Option Tr) (c:BA×Int) (hc:Jr wd c) (w:World) (hE:Env E w) (hF:∀j,w.heap.size<=j->F j) (hs:StAt (dgW wd) F w q st) (hok:StOk wd st):
  Calls prog 284 #[Jw wd q,.agg #[.string c.1,.int .i64 c.2]] w λe w'=>Tch NoB w w'/\WoTo E wd F (JL st (Jd c)) e w':=by
 have hkl:=XH hc
 have HKO:Hid (∀W,Tch NoB w W->_):=λW hT=>Jca E wd hw c hc W (hE.tch hT noE)
 have HS:Hid (StAt (dgW wd) F w q st):=hs
 have HE:Hid _:=hE
 have HF:Hid _:=hF
 have HOK:Hid _:=hok
 have HBX:=Jef w wd q c
 obtain ⟨rv,hrv⟩:∃rv,rv=(q.map λn=>(⟨n,0,none⟩:Addr)):=⟨_,rfl⟩
 have hrq:Jh q=.pointer rv:=by rw [hrv]
 clear hs hE hF hok hc
 obtain ⟨cs,cn⟩:=c
 dsimp only at HKO HBX ⊢
 show Calls _ _ #[.agg #[_,Jh q],_] _ _
 rw [hrq]
 have HRQ:Hid _:=hrq
 clear hrq hrv
 have HA0:Hid (Tch NoB w ((((w.alloc (.cells #[.int .i64 (wd:Int),.pointer rv] 146)).alloc (.cells #[.string cs,.int .i64 cn] 49)).alloc (.cells #[.int .i64 0,.pointer none] 146)).alloc (.cells #[.int .u64 0,.int .u8 0] 80))):=(Tch.allocs3 NoB w _ _ _).trans (Ta _ _ _) (λ_ h=>.inl h)
 have HB0:Hid (Jar w ((((w.alloc (.cells #[.int .i64 (wd:Int),.pointer rv] 146)).alloc (.cells #[.string cs,.int .i64 cn] 49)).alloc (.cells #[.int .i64 0,.pointer none] 146)).alloc (.cells #[.int .u64 0,.int .u8 0] 80)) wd q (cs,cn)):=by rw [<-HRQ.o];exact HBX
 clear HBX
 go_enter func284,ntmps284
 go_wp2_with fail
 refine (HKO _ HA0).mono ?_
 rintro _ w2 ⟨rfl,ht1⟩
 have HT2:Hid _:=HA0.trans ht1 noE
 have b2:=HB0.o.next ht1
 have HB2:Hid _:=b2
 obtain ⟨d0, -⟩:=rows b2.t
 have d1:w2.cell? ⟨w.heap.size,1,none⟩=some (.pointer rv):=by rw [<-HRQ.o];exact Ja b2.t
 generalize hKB:(⟨(Jd (cs,cn)).toArray⟩:BA)=kb at *
 have HKB:Hid _:=hKB
 clear hKB ht1 b2 HKO HB0 HA0
 cases st with
 | none=>
  obtain rfl:=HS.of_none
  obtain rfl:rv=none:=by have:=HRQ.o;simpa [Jh] using this.symm
  have HN:Hid (Calls prog 269 #[.agg #[.int .i64 (wd:Int),.pointer none],.string kb] w2 λe w'=>e=.returned (.pointer none)/\Tch NoB w2 w'):=by
   have:=Jad (wd:Int) (Jd (cs,cn)) (by omega) (by omega) w2
   rw [HKB.o] at this
   exact this
  go_wp2_with fail
  refine HN.mono ?_
  rintro _ w3 ⟨rfl,ht3⟩
  have b3:=HB2.o.next ht3
  have HT3:Hid _:=HT2.trans ht3 noE
  have hin:=(HE.tch HT3 noE).input
  obtain ⟨r0,r1⟩:=rows b3.r
  have fR:∀j,w3.frozen? ⟨w.heap.size+1+1,j,none⟩=false:=λj=>Qg _ _ _ _ _ b3.r
  obtain ⟨o0,o1⟩:=rows b3.oo
  have fO:∀j,w3.frozen? ⟨w.heap.size+1+1+1,j,none⟩=false:=λj=>Qg _ _ _ _ _ b3.oo
  have HB3:Hid _:=b3
  clear ht3 b3 HN d0 d1
  go_wp2
  go_region
  all_goals
   go_wp2
   obtain ⟨q1,q2,q3,_⟩:=ZO (d:=dgW wd) (F:=F) (W:=w3.drew) (HB3.next (Td NoB w3 1)) (HT3.trans (Td NoB w3 1) noE) (.int .i64 0) (.pointer none) (.int .u64 0) (.int .u8 0)
   refine QJ (v:=.tuple #[.agg #[.int .i64 0,.pointer none],.agg #[.int .u64 0,.int .u8 0],eV E 1]) (XM results284 _ _ (w.heap.size+1+1) (w.heap.size+1+1+1) _ _ _ _ (0,0) (0,0) _ _ rfl q1 underlying146 rfl (by kernel_rfl) rfl q2 underlying80 rfl (by kernel_rfl)) rfl ⟨q3,?_⟩
   rfl
 | some t=>
  obtain ⟨n,rfl,hn⟩:=HS.of_some
  obtain rfl:rv=some ⟨n,0,none⟩:=by have:=HRQ.o;simpa [Jh] using this.symm
  have HTO:Hid _:=HOK.o
  have HNT:Hid _:=hn.next HT2.o
  have HN:Hid (Calls prog 269 #[.agg #[.int .i64 (wd:Int),.pointer (some ⟨n,0,none⟩)],.string kb] w2 λe w'=>∃m,e=.returned (.pointer (some ⟨m,0,none⟩))/\Je (dgW wd) F w' m (.leaf (t.near (Jd (cs,cn))).1 (t.near (Jd (cs,cn))).2)/\Tch NoB w2 w'):=by
   have:=Jae wd (by omega) (dgW wd) F n t (Jd (cs,cn)) hkl w2 HNT HTO.o
   rw [HKB.o] at this
   exact this
  clear hn
  go_wp2_with fail
  refine HN.mono ?_
  rintro _ w3 ⟨m,rfl,hm,ht3⟩
  have b3:=HB2.o.next ht3
  obtain ⟨e0,e1⟩:=rows b3.t
  obtain ⟨r0,r1⟩:=rows b3.r
  have fR:∀j,w3.frozen? ⟨w.heap.size+1+1,j,none⟩=false:=λj=>Qg _ _ _ _ _ b3.r
  obtain ⟨o0,o1⟩:=rows b3.oo
  have fO:∀j,w3.frozen? ⟨w.heap.size+1+1+1,j,none⟩=false:=λj=>Qg _ _ _ _ _ b3.oo
  have hmk:w3.cell? ⟨m,1,none⟩=some (.string ⟨(t.near (Jd (cs,cn))).1.toArray⟩):=Ja hm.a.2
  have hm2:w3.cell? ⟨m,2,none⟩=some (.int .u64 ((t.near (Jd (cs,cn))).2.1:Int)):=Ja hm.a.2
  have hm3:w3.cell? ⟨m,3,none⟩=some (.int .u8 ((t.near (Jd (cs,cn))).2.2:Int)):=Ja hm.a.2
  have hmlt:=hm.own.2
  have HT3:Hid _:=HT2.trans ht3 noE
  have HNT3:Hid _:=HNT.next ht3
  have HB3:Hid _:=b3
  have hin:=(HE.tch HT3 noE).input
  clear ht3 b3 HN d0 d1 hm HNT HB2
  generalize hNB:(⟨(t.near (Jd (cs,cn))).1.toArray⟩:BA)=nb at *
  have HNB:Hid _:=hNB
  clear hNB
  have hnl:nb.data.toList=(t.near (Jd (cs,cn))).1:=by rw [<-HNB.o]
  have hkl2:kb.data.toList=Jd (cs,cn):=by rw [<-HKB.o]
  by_cases heq:(t.near (Jd (cs,cn))).1=Jd (cs,cn)
  ·have hkk:nb=kb:=by rw [<-HNB.o,heq];exact HKB.o
   have HWO:Hid (JL (some t) (Jd (cs,cn))=.ok (t.cut (Jd (cs,cn)),(t.near (Jd (cs,cn))).2)):=if_pos heq
   have HCU:Hid (∀W,Tch NoB w3 W->Calls prog 339 #[.agg #[.int .i64 (wd:Int),.pointer (some ⟨n,0,none⟩)],.pointer (some ⟨n,0,none⟩),.string kb] W λe w'=>Jc2 wd F (t.cut (Jd (cs,cn))) W e w'):=λW hT=>by
    have:=JhJ E wd hw1 hw F (some ⟨n,0,none⟩) (Jd (cs,cn)) hkl t n W HTO (HE.tch (HT3.trans hT noE) noE) (λj hj=>HF j (Qm (HT3.trans hT noE).size hj)) (HNT3.next hT)
    rw [HKB.o] at this
    exact this
   subst hkk
   clear heq hnl hkl2
   have hz3:=(Jb HB3.oo)
   obtain ⟨xa,hXA⟩:∃x,(t.near (Jd (cs,cn))).2.1=x:=⟨_,rfl⟩
   obtain ⟨xo,hXO⟩:∃x,(t.near (Jd (cs,cn))).2.2=x:=⟨_,rfl⟩
   rw [hXA] at hm2
   rw [hXO] at hm3
   have HX:Hid ((t.near (Jd (cs,cn))).2=(xa,xo)):=Prod.ext hXA hXO
   clear hXA hXO
   go_wp2_with fail
   refine (HCU _ (Te _ _)).mono ?_
   rintro _ w4 ⟨q4,rfl,(HQ4:Hid _),ht4⟩
   have b4:=HB3.o.next ht4
   have HB4:Hid _:=b4
   have HT4:Hid (Tch NoB w w4):=HT3.trans ht4 noE
   obtain ⟨s0,s1⟩:=rows b4.r
   have gR:∀j,w4.frozen? ⟨w.heap.size+1+1,j,none⟩=false:=λj=>Qg _ _ _ _ _ b4.r
   have p0:w4.cell? ⟨w.heap.size+1+1+1,0,none⟩=some (.int .u64 0):=Ja b4.oo
   have p1:w4.cell? ⟨w.heap.size+1+1+1,1,none⟩=some (.int .u8 0):=Ja b4.oo
   have gO:∀j,w4.frozen? ⟨w.heap.size+1+1+1,j,none⟩=false:=λj=>Qg _ _ _ _ _ b4.oo
   have f0:w4.cell? ⟨w.heap.size,0,none⟩=some (.int .i64 (wd:Int)):=Ja b4.t
   have n2:w4.cell? ⟨m,2,none⟩=some (.int .u64 (xa:Int)):=(ht4.cell (p:=⟨m,2,none⟩) hmlt (λh=>h)).trans hm2
   have n3:w4.cell? ⟨m,3,none⟩=some (.int .u8 (xo:Int)):=(ht4.cell (p:=⟨m,3,none⟩) hmlt (λh=>h)).trans hm3
   clear ht4 b4 e0 e1 r0 r1 fR o0 o1 fO hm2 hm3 hmk HCU
   obtain ⟨v4,hv4⟩:∃v,Jh q4=.pointer v:=⟨_,rfl⟩
   rw [hv4]
   have HV4:Hid (Jh q4=.pointer v4):=hv4
   clear hv4
   go_wp2
   go_region
   all_goals
    go_wp2
    obtain ⟨q1,q2,q3,q5⟩:=ZO (d:=dgW wd) (F:=F) (W:=w4) HB4.o HT4.o (.int .i64 (wd:Int)) (.pointer v4) (.int .u64 (xa:Int)) (.int .u8 (xo:Int))
    refine QJ (v:=.tuple #[.agg #[.int .i64 (wd:Int),.pointer v4],.agg #[.int .u64 (xa:Int),.int .u8 (xo:Int)],.nilIface]) (XM results284 _ _ (w.heap.size+1+1) (w.heap.size+1+1+1) _ _ _ _ (0,0) (0,0) _ _ rfl q1 underlying146 rfl (by kernel_rfl) rfl q2 underlying80 rfl (by kernel_rfl)) rfl ⟨q3.trans (Td NoB _ 1) noE,?_⟩
    rw [HWO.o,HX.o]
    refine ⟨q4,?_,(q5 _ _ HQ4.o).next (Td NoB _ 1)⟩
    rw [Jw,HV4.o]
  ·have hne:(nb.toList == kb.toList)=false:=by
    rw [ByteArray.toList_eq,ByteArray.toList_eq,hnl,hkl2]
    simpa using heq
   have hne2:(nb.toList != kb.toList)=true:=by rw [bne,hne];rfl
   have HWO:Hid (JL (some t) (Jd (cs,cn))=.error .input):=if_neg heq
   clear hnl hkl2 heq hm2 hm3
   go_wp2
   go_region
   all_goals
    go_wp2
    obtain ⟨q1,q2,q3,_⟩:=ZO (d:=dgW wd) (F:=F) (W:=w3.drew) (HB3.o.next (Td NoB w3 1)) (HT3.o.trans (Td NoB w3 1) noE) (.int .i64 0) (.pointer none) (.int .u64 0) (.int .u8 0)
    refine QJ (v:=.tuple #[.agg #[.int .i64 0,.pointer none],.agg #[.int .u64 0,.int .u8 0],eV E 1]) (XM results284 _ _ (w.heap.size+1+1) (w.heap.size+1+1+1) _ _ _ _ (0,0) (0,0) _ _ rfl q1 underlying146 rfl (by kernel_rfl) rfl q2 underlying80 rfl (by kernel_rfl)) rfl ⟨q3,?_⟩
    rw [HWO.o];rfl
