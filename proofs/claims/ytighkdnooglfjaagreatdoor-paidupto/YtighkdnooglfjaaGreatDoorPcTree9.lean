import Derived.Test.YtighkdnooglfjaaGreatDoorPcTree8
import Derived.Test.YtighkdnooglfjaaGreatDoorPcIs
namespace Go.Proofs.YtighkdnooglfjaaGreatDoor
open Tryz
set_option maxRecDepth 100000
set_option maxHeartbeats 1000000
open Go.RowKit

abbrev Jw (wd:Nat) (q:Option Nat):Value:=.agg #[.int .i64 (wd:Int),Jh q]
theorem Jca (E:Nat->Addr) (wd:Nat) (hw:wd<=32) (c:BA×Int) (hc:Jr wd c) (w:World) (hE:Env E w):
  Calls prog 145 #[.int .i64 (wd:Int),.agg #[.string c.1,.int .i64 c.2]] w λe w'=>e=.returned (.tuple #[.string ⟨(Jd c).toArray⟩,.nilIface])/\Tch NoB w w':=by
 refine (Jeb E wd (by omega) c w hE).mono ?_
 rintro e w' ⟨h1,h2⟩
 have:=(JaW wd c c (.wr []) _ ((JeO wd c c hc).wr [])).1
 rw [this] at h2
 exact ⟨h2,h1⟩
theorem Jb3 {wd:Nat} {c:BA×Int} (hc:Jr wd c) {o:Nat×Nat} (ho:Jq o):TrOk wd (.leaf (Jd c) o):=by
 obtain ⟨h1,h2,h3⟩:=hc
 have hl:c.1.data.toList.length=wd:=by simpa using h1
 refine ⟨by simp [Jd,Jg];exact h1,?_,ho⟩
 have hx:=XW c.2 h2 (by omega)
 have e:(Jd c).getD wd 0=UInt8.ofNat (Jt c.2):=by
  unfold Jd
  rw [Qn,Qz (by omega),hl,Nat.sub_self]
  simp [beL]
 rw [e,UInt8.toNat_ofNat']
 omega
theorem Yq (E:Nat->Addr) (wd:Nat) (hw1:1<=wd) (hw:wd<=32) (F:Nat->Prop) (q:Option Nat) (st:Option Tr) (w:World) (hE:Env E w) (h:StAt (dgW wd) F w q st):
  Calls prog 83 #[Jw wd q] w λe w'=>e=.returned (.string (JT (dgW wd) st))/\Tch NoB w w':=by
 cases st with
 | none=>
  obtain rfl:=h.of_none
  have HO:Hid (∀W,Tch NoB w W->_):=λW hT=>Jaz E wd ⟨#[69]⟩ W (hE.tch hT noE) hw1 hw (by decide)
  show Calls _ _ #[.agg #[_,.pointer none]] _ _
  go_enter func83,ntmps83
  go_wp2_with fail
  refine (HO _ (Ta _ _ _)).mono ?_
  rintro _ w1 ⟨rfl,ht⟩
  have HT:Hid _:=(Ta NoB w _).trans ht noE
  go_wp2
  go_ret
  exact ⟨rfl,HT⟩
 | some t=>
  obtain ⟨n,rfl,hn⟩:=h.of_some
  have c0:=hn.digCell
  have hlt:=hn.own.2
  show Calls _ _ #[.agg #[_,.pointer (some ⟨n,0,none⟩)]] _ _
  go_enter func83,ntmps83
  go_wp2
  go_ret
  exact ⟨rfl,Ta _ _ _⟩
theorem Jn {P:Program} {fn:Func} {p t:Tmp} {ty:TypeId} (h:fn.results= #[.cell p ty,.tmp t]) (tmps:Array Value) (w:World) (g:Nat) (T:TypeId) (cs:Array Value) (fr:Nat×Nat) (d:TypeDesc)
  (hp:tmps.getD p undef=.pointer (some ⟨g,0,none⟩)) (hg:w.heap[g]? =some (.cells cs T fr))
  (hu:P.underlying ty=some d) (hd:(match d with | .struct _ | .array _ _=>true | _=>false)=true) (hi:(P.info? ty).map (·.size)=some cs.size):
  (results fn tmps).run P w=.ok (.tuple #[.agg cs,tmps.getD t undef]) w:=by
 have hp':tmps[p]?.getD undef=.pointer (some ⟨g,0,none⟩):=by simpa using hp
 simp [results,h,hp',asAddr,run_loadVar_row w g T ty cs fr d hg hu hd hi]
structure ZU (w W:World) (wd:Nat) (q:Option Nat) (c:BA×Int) (o:Nat×Nat):Prop where
 t:W.heap[w.heap.size]? =some (.cells #[.int .i64 (wd:Int),Jh q] 146)
 c:W.heap[w.heap.size+1]? =some (.cells #[.string c.1,.int .i64 c.2] 49)
 oo:W.heap[w.heap.size+2]? =some (.cells #[.int .u64 (o.1:Int),.int .u8 (o.2:Int)] 80)
 r:W.heap[w.heap.size+3]? =some (.cells #[.int .i64 0,.pointer none] 146)
theorem ZU.next {w W W':World} {wd:Nat} {q:Option Nat} {c:BA×Int} {o:Nat×Nat} (h:ZU w W wd q c o) (k:Tch NoB W W'):ZU w W' wd q c o:=
 ⟨(k.block _ (Jb h.t) (λh=>h)).trans h.t,(k.block _ (Jb h.c) (λh=>h)).trans h.c,(k.block _ (Jb h.oo) (λh=>h)).trans h.oo,(k.block _ (Jb h.r) (λh=>h)).trans h.r⟩
theorem ZD (w:World) (o0 o1 o2 o3:Obj):((((w.alloc o0).alloc o1).alloc o2).alloc o3).heap[w.heap.size+3]? =some o3:=by
 have:=Qf (((w.alloc o0).alloc o1).alloc o2) o3
 simpa using this
theorem Xa (w:World) (o0 o1 o2 o3:Obj) (k:Nat) (h:k<w.heap.size+3):((((w.alloc o0).alloc o1).alloc o2).alloc o3).heap[k]? =(((w.alloc o0).alloc o1).alloc o2).heap[k]? :=Below.heap_alloc _ _ _ (by simp;omega)
theorem JdU (w:World) (wd:Nat) (q:Option Nat) (c:BA×Int) (o:Nat×Nat):ZU w ((((w.alloc (.cells #[.int .i64 (wd:Int),Jh q] 146)).alloc (.cells #[.string c.1,.int .i64 c.2] 49)).alloc (.cells #[.int .u64 (o.1:Int),.int .u8 (o.2:Int)] 80)).alloc (.cells #[.int .i64 0,.pointer none] 146)) wd q c o:=
 ⟨(Xa _ _ _ _ _ _ (by omega)).trans (JI _ _ _ _),(Xa _ _ _ _ _ _ (by omega)).trans (JE _ _ _ _),(Xa _ _ _ _ _ _ (by omega)).trans (JF _ _ _ _),ZD _ _ _ _ _⟩
theorem Je.tchT {d:List UInt8->BA} {F:Nat->Prop} {w w':World} {n:Nat} {t:Tr} {S:Nat->Prop} (h:Je d F w n t) (k:Tch S w w') (hs:∀j cs,S j->w.heap[j]? ≠ some (.cells cs 243)):Je d F w' n t:=by
 induction h using Je.ri with
 | leaf n key o hF hr=>exact .leaf n key o hF ((k.block n (Jb hr) (λe=>hs n _ e hr)).trans hr)
 | br n b nl nr l r hF hr _ _ ihl ihr=>exact .br n b nl nr l r hF ((k.block n (Jb hr) (λe=>hs n _ e hr)).trans hr) ihl ihr
theorem StAt.row {d:List UInt8->BA} {F:Nat->Prop} {w:World} {q:Option Nat} {st:Option Tr} {g:Nat} {cur cs:Array Value} {T:TypeId} (h:StAt d F w q st) (hr:w.heap[g]? =some (.cells cur T)) (hT:T ≠ 243):StAt d F (w.setRow g cs) q st:=by
 have hs:∀j c,j=g->w.heap[j]? ≠ some (.cells c 243):=λj c e e'=>by
  subst e
  rw [hr] at e'
  simp at e'
  exact hT e'.2
 cases q <;> cases st <;> first | exact h | exact Je.tchT h (Ts w g cs) hs
def Jgl (E:Nat->Addr) (wd:Nat) (F:Nat->Prop) (r:Except Er (Option Tr)) (e:Ending) (w':World):Prop:=match r with
 | .ok st'=>∃q',e=.returned (.tuple #[Jw wd q',.nilIface])/\StAt (dgW wd) F w' q' st'
 | .error _=>e=.returned (.tuple #[.agg #[.int .i64 0,.pointer none],eV E 2])
theorem TrOk.near {wd:Nat} {t:Tr} {k:Key} (h:TrOk wd t):(t.near k).1.length=wd+1:=by
 induction t using Tr.ri with
 | leaf k' o=>exact h.1
 | br b l r ihl ihr=>
  simp only [Tr.near]
  split
  ·exact ihl h.2.1
  ·exact ihr h.2.2
theorem Jhz (E:Nat->Addr) (wd:Nat) (hw1:1<=wd) (hw:wd<=32) (F:Nat->Prop) (q:Option Nat) (st:Option Tr) (c:BA×Int) (hc:Jr wd c) (o:Nat×Nat) (ho:Jq o) (w:World) (hE:Env E w) (hF:∀j,w.heap.size<=j->F j) (hs:StAt (dgW wd) F w q st) (hok:StOk wd st):
  Calls prog 191 #[Jw wd q,.agg #[.string c.1,.int .i64 c.2],.agg #[.int .u64 (o.1:Int),.int .u8 (o.2:Int)]] w λe w'=>Tch NoB w w'/\Jgl E wd F (XZ st (Jd c) o) e w':=by
 have hkl:=XH hc
 have HL:Hid _:=Jb3 hc ho
 have HKO:Hid (∀W,Tch NoB w W->_):=λW hT=>Jca E wd hw c hc W (hE.tch hT noE)
 have HNL:Hid (∀W,Tch NoB w W->Calls prog 268 #[.int .i64 (wd:Int),.string ⟨(Jd c).toArray⟩,.agg #[.int .u64 (o.1:Int),.int .u8 (o.2:Int)]] W λe w'=>∃n,e=.returned (.tuple #[.pointer (some ⟨n,0,none⟩),.nilIface])/\Je (dgW wd) F w' n (.leaf (Jd c) o)/\Tch NoB W w'):=λW hT=>(Jdy E wd hw1 hw (Jd c) o HL W (hE.tch hT noE)).mono λe w' ⟨n,h1,h2,h3,h4⟩=>⟨n,h1,.leaf n _ _ (hF n (Qm hT.size h2)) h3,h4⟩
 have HS:Hid (StAt (dgW wd) F w q st):=hs
 have HE:Hid _:=hE
 have HF:Hid _:=hF
 have HOK:Hid _:=hok
 have HBX:=JdU w wd q c o
 obtain ⟨rv,hrv⟩:∃rv,rv=(q.map λn=>(⟨n,0,none⟩:Addr)):=⟨_,rfl⟩
 have hrq:Jh q=.pointer rv:=by rw [hrv]
 obtain ⟨cs,cn⟩:=c
 obtain ⟨oa,oo⟩:=o
 dsimp only at HKO HNL HBX ⊢
 show Calls _ _ #[.agg #[_,Jh q],_,_] _ _
 rw [hrq]
 have HRQ:Hid _:=hrq
 clear hrq hrv
 have hA0:Tch NoB w ((((w.alloc (.cells #[.int .i64 (wd:Int),.pointer rv] 146)).alloc (.cells #[.string cs,.int .i64 cn] 49)).alloc (.cells #[.int .u64 (oa:Int),.int .u8 (oo:Int)] 80)).alloc (.cells #[.int .i64 0,.pointer none] 146)):=(Tch.allocs3 NoB w _ _ _).trans (Ta _ _ _) (λ_ h=>.inl h)
 have HA0:Hid _:=hA0
 have HB0:Hid (ZU w ((((w.alloc (.cells #[.int .i64 (wd:Int),.pointer rv] 146)).alloc (.cells #[.string cs,.int .i64 cn] 49)).alloc (.cells #[.int .u64 (oa:Int),.int .u8 (oo:Int)] 80)).alloc (.cells #[.int .i64 0,.pointer none] 146)) wd q (cs,cn) (oa,oo)):=by rw [<-HRQ.o];exact HBX
 go_enter func191,ntmps191
 go_wp2_with fail
 refine (HKO _ HA0).mono ?_
 rintro _ w1 ⟨rfl,ht1⟩
 have HT1:Hid (Tch NoB w w1):=HA0.trans ht1 noE
 have b1:=HB0.o.next ht1
 have HB1:Hid _:=b1
 obtain ⟨a0, -⟩:=rows b1.t
 obtain ⟨a1,a2⟩:=rows b1.oo
 generalize hKB:(⟨(Jd (cs,cn)).toArray⟩:BA)=kb at *
 have HKB:Hid _:=hKB
 go_wp2_with fail
 refine (HNL.o _ HT1.o).mono ?_
 rintro _ w2 ⟨ln,rfl,(HLN:Hid _),ht2⟩
 have HT2:Hid _:=HT1.trans ht2 noE
 have b2:=HB1.o.next ht2
 have HB2:Hid _:=b2
 obtain ⟨d0, -⟩:=rows b2.t
 have d1:w2.cell? ⟨w.heap.size,1,none⟩=some (.pointer rv):=by rw [<-HRQ.o];exact Ja b2.t
 clear ht2 b2 HNL HB1 HT1 a0 a1 a2
 cases st with
 | none=>
  obtain rfl:=HS.of_none
  obtain rfl:rv=none:=by have:=HRQ.o;simpa [Jh] using this.symm
  have HN:Hid (Calls prog 269 #[.agg #[.int .i64 (wd:Int),.pointer none],.string kb] w2 λe w'=>e=.returned (.pointer none)/\Tch NoB w2 w'):=by
   have:=Jad (wd:Int) (Jd (cs,cn)) (by omega) (by omega) w2
   rw [HKB.o] at this
   exact this
  go_wp2_with fail
  refine HN.o.mono ?_
  rintro _ w3 ⟨rfl,ht3⟩
  have b3:=HB2.o.next ht3
  obtain ⟨e0, -⟩:=rows b3.t
  obtain ⟨r0,r1⟩:=rows b3.r
  have fR:∀j,w3.frozen? ⟨w.heap.size+1+1+1,j,none⟩=false:=λj=>Qg _ _ _ _ _ b3.r
  have RR:Hid _:=b3.r
  have HT3:Hid _:=HT2.trans ht3 noE
  have HLN3:Hid _:=HLN.next ht3
  go_wp2
  rw [set2 _ _ _ _ _ _ _ RR.out]
  refine QJ (v:=.tuple #[.agg #[.int .i64 (wd:Int),.pointer (some ⟨ln,0,none⟩)],.nilIface]) (Jn results191 _ _ (w.heap.size+1+1+1) _ _ (0,0) _ rfl (Qi _ _ _ _ _ _ RR) underlying146 rfl (by kernel_rfl)) rfl ⟨?_,some ln,rfl,?_⟩
  ·exact HT3.trans (Ts _ _ _) (λj hj=>.inr (by omega))
  ·exact StAt.row (q:=some ln) (st:=some _) HLN3 RR (by decide)
 | some t=>
  obtain ⟨n,rfl,hn⟩:=HS.of_some
  obtain rfl:rv=some ⟨n,0,none⟩:=by have:=HRQ.o;simpa [Jh] using this.symm
  have HTO:Hid _:=HOK.o
  have HNT:Hid _:=hn.next HT2.o
  have HN:Hid (Calls prog 269 #[.agg #[.int .i64 (wd:Int),.pointer (some ⟨n,0,none⟩)],.string kb] w2 λe w'=>∃m,e=.returned (.pointer (some ⟨m,0,none⟩))/\Je (dgW wd) F w' m (.leaf (t.near (Jd (cs,cn))).1 (t.near (Jd (cs,cn))).2)/\Tch NoB w2 w'):=by
   have:=Jae wd (by omega) (dgW wd) F n t (Jd (cs,cn)) hkl w2 HNT HTO.o
   rw [HKB.o] at this
   exact this
  go_wp2_with fail
  refine HN.mono ?_
  rintro _ w3 ⟨m,rfl,hm,ht3⟩
  have b3:=HB2.o.next ht3
  obtain ⟨e0,e1⟩:=rows b3.t
  obtain ⟨r0,r1⟩:=rows b3.r
  have fR:∀j,w3.frozen? ⟨w.heap.size+1+1+1,j,none⟩=false:=λj=>Qg _ _ _ _ _ b3.r
  have hmk:w3.cell? ⟨m,1,none⟩=some (.string ⟨(t.near (Jd (cs,cn))).1.toArray⟩):=Ja hm.a.2
  have hmlt:=hm.own.2
  have hnk:=HTO.o.near (k:=Jd (cs,cn))
  have HT3:Hid _:=HT2.trans ht3 noE
  have HLN3:Hid _:=HLN.next ht3
  have HNT3:Hid _:=HNT.next ht3
  have HB3:Hid _:=b3
  have hex:=(HE.tch HT3 noE).exist
  generalize hNB:(⟨(t.near (Jd (cs,cn))).1.toArray⟩:BA)=nb at *
  have HNB:Hid _:=hNB
  by_cases heq:(t.near (Jd (cs,cn))).1=Jd (cs,cn)
  ·have hkk:nb=kb:=by rw [<-HNB.o,heq];exact HKB.o
   have HWE:Hid (XZ (some t) (Jd (cs,cn)) (oa,oo)=.error .exist):=if_pos heq
   subst hkk
   go_wp2
   go_region
   all_goals
    go_wp2
    rw [set2 _ _ _ _ _ _ _ HB3.o.r]
    refine QJ (v:=.tuple #[.agg #[.int .i64 0,.pointer none],eV E 2]) (Jn results191 _ _ (w.heap.size+1+1+1) _ _ (0,0) _ rfl (Qi _ _ _ _ _ _ HB3.r) underlying146 rfl (by kernel_rfl)) rfl ⟨?_,?_⟩
    ·exact (HT3.trans (Td NoB w3 1) noE).trans (Ts _ _ _) (λj hj=>.inr (by omega))
    ·rw [HWE.o];rfl
  ·have hnl:nb.data.toList=(t.near (Jd (cs,cn))).1:=by rw [<-HNB.o]
   have hkl2:kb.data.toList=Jd (cs,cn):=by rw [<-HKB.o]
   have hne:(nb.toList == kb.toList)=false:=by
    rw [ByteArray.toList_eq,ByteArray.toList_eq,hnl,hkl2]
    simpa using heq
   have HWO:Hid (XZ (some t) (Jd (cs,cn)) (oa,oo)=.ok (some (t.graft (Jd (cs,cn)) (oa,oo) (fd (t.near (Jd (cs,cn))).1 (Jd (cs,cn)))))):=if_neg heq
   have hfd:=JgB (t.near (Jd (cs,cn))).1 (Jd (cs,cn)) (by omega) heq
   have HFD:Hid (∀W,Calls prog 271 #[.string nb,.string kb] W λe w'=>e=.returned (.int .i64 (fd (t.near (Jd (cs,cn))).1 (Jd (cs,cn)):Int))/\∃n,w'=W.drewN n):=λW=>by
    have:=Jfe (t.near (Jd (cs,cn))).1 (Jd (cs,cn)) (by omega) heq (by omega) W
    rw [HNB.o,HKB.o] at this
    exact this
   have HGR:Hid (∀W,Tch NoB w3 W->Calls prog 270 #[.agg #[.int .i64 (wd:Int),.pointer (some ⟨n,0,none⟩)],.pointer (some ⟨n,0,none⟩),.pointer (some ⟨ln,0,none⟩),.int .i64 (fd (t.near (Jd (cs,cn))).1 (Jd (cs,cn)):Int)] W λe w'=>∃m,e=.returned (.tuple #[.pointer (some ⟨m,0,none⟩),.nilIface])/\Je (dgW wd) F w' m (t.graft (Jd (cs,cn)) (oa,oo) (fd (t.near (Jd (cs,cn))).1 (Jd (cs,cn))))/\Tch NoB W w'):=λW hT=>
    Jfh E wd hw1 hw F _ _ _ HL _ (by have:=hfd.1;omega) ln t n W HTO (HE.tch (HT3.trans hT noE) noE) (λj hj=>HF j (Qm (HT3.trans hT noE).size hj)) (HNT3.next hT) (HLN3.next hT)
   generalize fd (t.near (Jd (cs,cn))).1 (Jd (cs,cn))=dd at *
   have hz3:=(Jb HB3.r)
   go_wp2_with fail
   go_region_held3 (λW=>W.cell? ⟨w.heap.size,0,none⟩=some (.int .i64 (wd:Int))/\W.cell? ⟨w.heap.size,1,none⟩=some (.pointer (some ⟨n,0,none⟩))/\W.cell? ⟨m,1,none⟩=some (.string nb)) (go_keep) ((first | (go_at_call 271;refine (HFD _).mono ?_;rintro _ _ ⟨rfl,m5,rfl⟩) | (go_at_call 270;refine (HGR _ (Td NoB w3 _)).mono ?_;rintro _ w4 ⟨g4,rfl,(HG4:Hid _),ht4⟩;have hT4:=(Td NoB w3 _).trans ht4 noE;have f0:=(hT4.cell (p:=⟨w.heap.size,0,none⟩) (by show w.heap.size<_;omega) (λh=>h)).trans e0;have f1:=(hT4.cell (p:=⟨w.heap.size,1,none⟩) (by show w.heap.size<_;omega) (λh=>h)).trans e1;have f2:=(hT4.cell (p:=⟨m,1,none⟩) hmlt (λh=>h)).trans hmk;have HT4:Hid _:=hT4;clear ht4 hT4)))
   all_goals
    have b4:=HB3.o.next HT4.o
    obtain ⟨s0,s1⟩:=rows b4.r
    have fS:∀j,w4.frozen? ⟨w.heap.size+1+1+1,j,none⟩=false:=λj=>Qg _ _ _ _ _ b4.r
    have RR:Hid _:=b4.r
    go_wp2
    rw [set2 _ _ _ _ _ _ _ RR.out]
    refine QJ (v:=.tuple #[.agg #[.int .i64 (wd:Int),.pointer (some ⟨g4,0,none⟩)],.nilIface]) (Jn results191 _ _ (w.heap.size+1+1+1) _ _ (0,0) _ rfl (Qi _ _ _ _ _ _ RR) underlying146 rfl (by kernel_rfl)) rfl ⟨?_,?_⟩
    ·exact (HT3.trans HT4 noE).trans (Ts _ _ _) (λj hj=>.inr (by omega))
    ·rw [HWO.o]
     exact ⟨some g4,rfl,StAt.row (q:=some g4) (st:=some _) HG4 RR (by decide)⟩
