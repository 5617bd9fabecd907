import Derived.Test.YtighkdnooglfjaaGreatDoorSxTree7
import Derived.Test.YtighkdnooglfjaaGreatDoorSxIs
namespace Go.Proofs.YtighkdnooglfjaaGreatDoor
open Tryz
set_option maxRecDepth 100000
set_option maxHeartbeats 1000000
open Go.RowKit

abbrev JC (wd:Nat) (q:Option Nat):Value:=.agg #[.int .i64 (wd:Int),Jj q]
theorem JaI (E:Nat->Addr) (wd:Nat) (hw:wd<=32) (c:BA×Int) (hc:Jo wd c) (w:World) (hE:Env E w):
  Calls prog 145 #[.int .i64 (wd:Int),.agg #[.string c.1,.int .i64 c.2]] w λe w'=>e=.returned (.tuple #[.string ⟨(Jd c).toArray⟩,.nilIface])/\Tch NoB w w':=by
 refine (Jf5 E wd (by omega) c w hE).mono ?_
 rintro e w' ⟨h1,h2⟩
 have:=(JbZ wd c c (.wr []) _ ((Jg0 wd c c hc).wr [])).1
 rw [this] at h2
 exact ⟨h2,h1⟩
theorem Jby {wd:Nat} {c:BA×Int} (hc:Jo wd c) {o:Nat×Nat} (ho:Jy o):TrOk wd (.leaf (Jd c) o):=by
 obtain ⟨h1,h2,h3⟩:=hc
 have hl:c.1.data.toList.length=wd:=by simpa using h1
 refine ⟨by simp [Jd,Jh];exact h1,?_,ho⟩
 have hx:=YJ c.2 h2 (by omega)
 have e:(Jd c).getD wd 0=UInt8.ofNat (JF c.2):=by
  unfold Jd
  rw [Qn,Qz (by omega),hl,Nat.sub_self]
  simp [beL]
 rw [e,UInt8.toNat_ofNat']
 omega
theorem Zl (E:Nat->Addr) (wd:Nat) (hw1:1<=wd) (hw:wd<=32) (F:Nat->Prop) (q:Option Nat) (st:Option Tr) (w:World) (hE:Env E w) (h:StAt (dgW wd) F w q st):
  Calls prog 83 #[JC wd q] w λe w'=>e=.returned (.string (Xo (dgW wd) st))/\Tch NoB w w':=by
 cases st with
 | none=>
  obtain rfl:=h.of_none
  have HO:Hid (∀W,Tch NoB w W->Calls prog 130 _ W _):=λW hT=>Zz E wd ⟨#[69]⟩ W (hE.tch hT noE) hw1 hw (by decide)
  clear hE h
  show Calls _ _ #[.agg #[_,.pointer none]] _ _
  go_enter func83,ntmps83
  go_wp2_with fail
  refine (HO.o _ (Tch.alloc _ _ _)).mono ?_
  rintro _ w1 ⟨rfl,ht⟩
  have HT:Hid (Tch NoB w w1):=(Tch.alloc NoB w _).trans ht noE
  clear ht HO
  go_wp2
  go_ret
  exact ⟨rfl,HT.o⟩
 | some t=>
  obtain ⟨n,rfl,hn⟩:=h.of_some
  have c0:=hn.digCell
  have hlt:=hn.own.2
  clear hE h hn
  show Calls _ _ #[.agg #[_,.pointer (some ⟨n,0,none⟩)]] _ _
  go_enter func83,ntmps83
  go_wp2
  go_ret
  exact ⟨rfl,Tch.alloc _ _ _⟩
theorem Ji {P:Program} {fn:Func} {p t:Tmp} {ty:TypeId} (h:fn.results= #[.cell p ty,.tmp t]) (tmps:Array Value) (w:World) (g:Nat) (T:TypeId) (cs:Array Value) (fr:Nat×Nat) (d:TypeDesc)
  (hp:tmps.getD p undef=.pointer (some ⟨g,0,none⟩)) (hg:w.heap[g]? =some (.cells cs T fr))
  (hu:P.underlying ty=some d) (hd:(match d with | .struct _ | .array _ _=>true | _=>false)=true) (hi:(P.info? ty).map (·.size)=some cs.size):
  (results fn tmps).run P w=.ok (.tuple #[.agg cs,tmps.getD t undef]) w:=by
 have hp':tmps[p]?.getD undef=.pointer (some ⟨g,0,none⟩):=by simpa using hp
 simp [results,h,hp',asAddr,run_loadVar_row w g T ty cs fr d hg hu hd hi]
structure Zo (w W:World) (wd:Nat) (q:Option Nat) (c:BA×Int) (o:Nat×Nat):Prop where
 t:W.heap[w.heap.size]? =some (.cells #[.int .i64 (wd:Int),Jj q] 146)
 c:W.heap[w.heap.size+1]? =some (.cells #[.string c.1,.int .i64 c.2] 49)
 o:W.heap[w.heap.size+2]? =some (.cells #[.int .u64 (o.1:Int),.int .u8 (o.2:Int)] 80)
 r:W.heap[w.heap.size+3]? =some (.cells #[.int .i64 0,.pointer none] 146)
theorem Zo.next {w W W':World} {wd:Nat} {q:Option Nat} {c:BA×Int} {o:Nat×Nat} (h:Zo w W wd q c o) (k:Tch NoB W W'):Zo w W' wd q c o:=
 ⟨(k.block _ (Jb h.t) (λh=>h)).trans h.t,(k.block _ (Jb h.c) (λh=>h)).trans h.c,(k.block _ (Jb h.o) (λh=>h)).trans h.o,(k.block _ (Jb h.r) (λh=>h)).trans h.r⟩
theorem JaQ (w:World) (o0 o1 o2 o3:Obj):((((w.alloc o0).alloc o1).alloc o2).alloc o3).heap[w.heap.size+3]? =some o3:=by
 have:=Qf (((w.alloc o0).alloc o1).alloc o2) o3
 simpa using this
theorem Xv (w:World) (o0 o1 o2 o3:Obj) (k:Nat) (h:k<w.heap.size+3):((((w.alloc o0).alloc o1).alloc o2).alloc o3).heap[k]? =(((w.alloc o0).alloc o1).alloc o2).heap[k]? :=Below.heap_alloc _ _ _ (by simp;omega)
theorem JfK (w:World) (wd:Nat) (q:Option Nat) (c:BA×Int) (o:Nat×Nat):Zo w ((((w.alloc (.cells #[.int .i64 (wd:Int),Jj q] 146)).alloc (.cells #[.string c.1,.int .i64 c.2] 49)).alloc (.cells #[.int .u64 (o.1:Int),.int .u8 (o.2:Int)] 80)).alloc (.cells #[.int .i64 0,.pointer none] 146)) wd q c o:=
 ⟨(Xv _ _ _ _ _ _ (by omega)).trans (Js _ _ _ _),(Xv _ _ _ _ _ _ (by omega)).trans (Jp _ _ _ _),(Xv _ _ _ _ _ _ (by omega)).trans (Jm _ _ _ _),JaQ _ _ _ _ _⟩
theorem Je.tchT {d:List UInt8->BA} {F:Nat->Prop} {w w':World} {n:Nat} {t:Tr} {S:Nat->Prop} (h:Je d F w n t) (k:Tch S w w') (hs:∀j cs,S j->w.heap[j]? ≠ some (.cells cs 243)):Je d F w' n t:=by
 induction h with
 | leaf n key o hF hr=>exact .leaf n key o hF ((k.block n (Jb hr) (λe=>hs n _ e hr)).trans hr)
 | br n b nl nr l r hF hr _ _ ihl ihr=>exact .br n b nl nr l r hF ((k.block n (Jb hr) (λe=>hs n _ e hr)).trans hr) ihl ihr
theorem StAt.row {d:List UInt8->BA} {F:Nat->Prop} {w:World} {q:Option Nat} {st:Option Tr} {g:Nat} {cur cs:Array Value} {T:TypeId} (h:StAt d F w q st) (hr:w.heap[g]? =some (.cells cur T)) (hT:T ≠ 243):StAt d F (w.setRow g cs) q st:=by
 have hs:∀j c,j=g->w.heap[j]? ≠ some (.cells c 243):=λj c e e'=>by
  subst e
  rw [hr] at e'
  simp at e'
  exact hT e'.2
 cases q <;> cases st <;> first | exact h | exact Je.tchT h (Tch.setRow w g cs) hs
def JiW (E:Nat->Addr) (wd:Nat) (F:Nat->Prop) (r:Except Er (Option Tr)) (e:Ending) (w':World):Prop:=match r with
 | .ok st'=>∃q',e=.returned (.tuple #[JC wd q',.nilIface])/\StAt (dgW wd) F w' q' st'
 | .error _=>e=.returned (.tuple #[.agg #[.int .i64 0,.pointer none],eV E 2])
theorem TrOk.near {wd:Nat} {t:Tr} {k:Key} (h:TrOk wd t):(t.near k).1.length=wd+1:=by
 induction t with
 | leaf k' o=>exact h.1
 | br b l r ihl ihr=>
  simp only [Tr.near]
  split
  ·exact ihl h.2.1
  ·exact ihr h.2.2
theorem Jkt (E:Nat->Addr) (wd:Nat) (hw1:1<=wd) (hw:wd<=32) (F:Nat->Prop) (q:Option Nat) (st:Option Tr) (c:BA×Int) (hc:Jo wd c) (o:Nat×Nat) (ho:Jy o) (w:World) (hE:Env E w) (hF:∀j,w.heap.size<=j->F j) (hs:StAt (dgW wd) F w q st) (hok:StOk wd st):
  Calls prog 191 #[JC wd q,.agg #[.string c.1,.int .i64 c.2],.agg #[.int .u64 (o.1:Int),.int .u8 (o.2:Int)]] w λe w'=>Tch NoB w w'/\JiW E wd F (YO st (Jd c) o) e w':=by
 have hkl:(Jd c).length=wd+1:=Yg hc
 have HL:Hid (TrOk wd (.leaf (Jd c) o)):=Jby hc ho
 have HKO:Hid (∀W,Tch NoB w W->Calls prog 145 #[.int .i64 (wd:Int),.agg #[.string c.1,.int .i64 c.2]] W λe w'=>e=.returned (.tuple #[.string ⟨(Jd c).toArray⟩,.nilIface])/\Tch NoB W w'):=λW hT=>JaI E wd hw c hc W (hE.tch hT noE)
 have HNL:Hid (∀W,Tch NoB w W->Calls prog 268 #[.int .i64 (wd:Int),.string ⟨(Jd c).toArray⟩,.agg #[.int .u64 (o.1:Int),.int .u8 (o.2:Int)]] W λe w'=>∃n,e=.returned (.tuple #[.pointer (some ⟨n,0,none⟩),.nilIface])/\Je (dgW wd) F w' n (.leaf (Jd c) o)/\Tch NoB W w'):=λW hT=>(Je9 E wd hw1 hw (Jd c) o HL.o W (hE.tch hT noE)).mono λe w' ⟨n,h1,h2,h3,h4⟩=>⟨n,h1,.leaf n _ _ (hF n (Qm hT.size h2)) h3,h4⟩
 have HS:Hid (StAt (dgW wd) F w q st):=hs
 have HE:Hid (Env E w):=hE
 have HF:Hid (∀j,w.heap.size<=j->F j):=hF
 have HOK:Hid (StOk wd st):=hok
 have HBX:=JfK w wd q c o
 obtain ⟨rv,hrv⟩:∃rv,rv=(q.map λn=>(⟨n,0,none⟩:Addr)):=⟨_,rfl⟩
 have hrq:Jj q=.pointer rv:=by rw [hrv]
 clear hs hE hF hok ho hc
 obtain ⟨cs,cn⟩:=c
 obtain ⟨oa,oo⟩:=o
 dsimp only at HKO HNL HBX ⊢
 show Calls _ _ #[.agg #[_,Jj q],_,_] _ _
 rw [hrq]
 have HRQ:Hid (Jj q=.pointer rv):=hrq
 clear hrq hrv
 have hA0:Tch NoB w ((((w.alloc (.cells #[.int .i64 (wd:Int),.pointer rv] 146)).alloc (.cells #[.string cs,.int .i64 cn] 49)).alloc (.cells #[.int .u64 (oa:Int),.int .u8 (oo:Int)] 80)).alloc (.cells #[.int .i64 0,.pointer none] 146)):=(Tch.allocs3 NoB w _ _ _).trans (Tch.alloc _ _ _) (λ_ h=>.inl h)
 have HA0:Hid (Tch _ _ _):=hA0
 have HB0:Hid (Zo w ((((w.alloc (.cells #[.int .i64 (wd:Int),.pointer rv] 146)).alloc (.cells #[.string cs,.int .i64 cn] 49)).alloc (.cells #[.int .u64 (oa:Int),.int .u8 (oo:Int)] 80)).alloc (.cells #[.int .i64 0,.pointer none] 146)) wd q (cs,cn) (oa,oo)):=by rw [<-HRQ.o];exact HBX
 clear HBX hA0
 go_enter func191,ntmps191
 go_wp2_with fail
 refine (HKO.o _ HA0.o).mono ?_
 rintro _ w1 ⟨rfl,ht1⟩
 have HT1:Hid (Tch NoB w w1):=HA0.o.trans ht1 noE
 have b1:=HB0.o.next ht1
 have HB1:Hid (Zo w w1 wd q (cs,cn) (oa,oo)):=b1
 have a0:w1.cell? ⟨w.heap.size,0,none⟩=some (.int .i64 (wd:Int)):=Ja b1.t
 have a1:w1.cell? ⟨w.heap.size+1+1,0,none⟩=some (.int .u64 (oa:Int)):=Ja b1.o
 have a2:w1.cell? ⟨w.heap.size+1+1,1,none⟩=some (.int .u8 (oo:Int)):=Ja b1.o
 generalize hKB:(⟨(Jd (cs,cn)).toArray⟩:BA)=kb at *
 have HKB:Hid (_=kb):=hKB
 clear hKB ht1 b1 HKO HB0 HA0
 go_wp2_with fail
 refine (HNL.o _ HT1.o).mono ?_
 rintro _ w2 ⟨ln,rfl,hln,ht2⟩
 have HT2:Hid (Tch NoB w w2):=HT1.o.trans ht2 noE
 have b2:=HB1.o.next ht2
 have HB2:Hid (Zo w w2 wd q (cs,cn) (oa,oo)):=b2
 have d0:w2.cell? ⟨w.heap.size,0,none⟩=some (.int .i64 (wd:Int)):=Ja b2.t
 have d1:w2.cell? ⟨w.heap.size,1,none⟩=some (.pointer rv):=by rw [<-HRQ.o];exact Ja b2.t
 have HLN:Hid (Je _ _ _ _ _):=hln
 clear ht2 b2 HNL HB1 HT1 hln a0 a1 a2
 cases st with
 | none=>
  obtain rfl:=HS.o.of_none
  obtain rfl:rv=none:=by have:=HRQ.o;simpa [Jj] using this.symm
  have HN:Hid (Calls prog 269 #[.agg #[.int .i64 (wd:Int),.pointer none],.string kb] w2 λe w'=>e=.returned (.pointer none)/\Tch NoB w2 w'):=by
   have:=Jbh (wd:Int) (Jd (cs,cn)) (by omega) (by omega) w2
   rw [HKB.o] at this
   exact this
  go_wp2_with fail
  refine HN.o.mono ?_
  rintro _ w3 ⟨rfl,ht3⟩
  have b3:=HB2.o.next ht3
  have e0:w3.cell? ⟨w.heap.size,0,none⟩=some (.int .i64 (wd:Int)):=Ja b3.t
  have r0:w3.cell? ⟨w.heap.size+1+1+1,0,none⟩=some (.int .i64 0):=Ja b3.r
  have r1:w3.cell? ⟨w.heap.size+1+1+1,1,none⟩=some (.pointer none):=Ja b3.r
  have fR:∀j,w3.frozen? ⟨w.heap.size+1+1+1,j,none⟩=false:=λj=>Qg _ _ _ _ _ b3.r
  have RR:Hid (_=_):=b3.r
  have HT3:Hid (Tch NoB w w3):=HT2.o.trans ht3 noE
  have HLN3:Hid (Je (dgW wd) F w3 ln _):=HLN.o.next ht3
  clear ht3 b3 HN d0 d1
  go_wp2
  rw [set2 _ _ _ _ _ _ _ RR.out]
  refine QJ (v:=.tuple #[.agg #[.int .i64 (wd:Int),.pointer (some ⟨ln,0,none⟩)],.nilIface]) (Ji results191 _ _ (w.heap.size+1+1+1) _ _ (0,0) _ rfl (Qi _ _ _ _ _ _ RR.out) underlying146 rfl (by kernel_rfl)) rfl ⟨?_,some ln,rfl,?_⟩
  ·exact HT3.o.trans (Tch.setRow _ _ _) (λj hj=>.inr (by omega))
  ·exact StAt.row (q:=some ln) (st:=some _) HLN3.o RR.out (by decide)
 | some t=>
  obtain ⟨n,rfl,hn⟩:=HS.o.of_some
  obtain rfl:rv=some ⟨n,0,none⟩:=by have:=HRQ.o;simpa [Jj] using this.symm
  have HTO:Hid (TrOk wd t):=HOK.o
  have HNT:Hid (Je (dgW wd) F w2 n t):=hn.next HT2.o
  have HN:Hid (Calls prog 269 #[.agg #[.int .i64 (wd:Int),.pointer (some ⟨n,0,none⟩)],.string kb] w2 λe w'=>∃m,e=.returned (.pointer (some ⟨m,0,none⟩))/\Je (dgW wd) F w' m (.leaf (t.near (Jd (cs,cn))).1 (t.near (Jd (cs,cn))).2)/\Tch NoB w2 w'):=by
   have:=Jbi wd (by omega) (dgW wd) F n t (Jd (cs,cn)) hkl w2 HNT.o HTO.o
   rw [HKB.o] at this
   exact this
  clear hn
  go_wp2_with fail
  refine HN.o.mono ?_
  rintro _ w3 ⟨m,rfl,hm,ht3⟩
  have b3:=HB2.o.next ht3
  have e0:w3.cell? ⟨w.heap.size,0,none⟩=some (.int .i64 (wd:Int)):=Ja b3.t
  have e1:w3.cell? ⟨w.heap.size,1,none⟩=some (.pointer (some ⟨n,0,none⟩)):=Ja b3.t
  have r0:w3.cell? ⟨w.heap.size+1+1+1,0,none⟩=some (.int .i64 0):=Ja b3.r
  have r1:w3.cell? ⟨w.heap.size+1+1+1,1,none⟩=some (.pointer none):=Ja b3.r
  have fR:∀j,w3.frozen? ⟨w.heap.size+1+1+1,j,none⟩=false:=λj=>Qg _ _ _ _ _ b3.r
  have hmk:w3.cell? ⟨m,1,none⟩=some (.string ⟨(t.near (Jd (cs,cn))).1.toArray⟩):=by cases hm with | leaf _ _ _ _ hr=>exact Ja hr
  have hmlt:=hm.own.2
  have hnk:=HTO.o.near (k:=Jd (cs,cn))
  have HT3:Hid (Tch NoB w w3):=HT2.o.trans ht3 noE
  have HLN3:Hid (Je (dgW wd) F w3 ln _):=HLN.o.next ht3
  have HNT3:Hid (Je (dgW wd) F w3 n t):=HNT.o.next ht3
  have HB3:Hid (Zo w w3 wd (some n) (cs,cn) (oa,oo)):=b3
  have hex:=(HE.o.tch HT3.o noE).exist
  clear ht3 b3 HN d0 d1 hm HNT HLN HB2
  generalize hNB:(⟨(t.near (Jd (cs,cn))).1.toArray⟩:BA)=nb at *
  have HNB:Hid (_=nb):=hNB
  clear hNB
  by_cases heq:(t.near (Jd (cs,cn))).1=Jd (cs,cn)
  ·have hkk:nb=kb:=by rw [<-HNB.o,heq];exact HKB.o
   have HWE:Hid (YO (some t) (Jd (cs,cn)) (oa,oo)=.error .exist):=if_pos heq
   subst hkk
   clear heq hnk
   go_wp2
   go_region
   all_goals
    go_wp2
    rw [set2 _ _ _ _ _ _ _ HB3.o.r]
    refine QJ (v:=.tuple #[.agg #[.int .i64 0,.pointer none],eV E 2]) (Ji results191 _ _ (w.heap.size+1+1+1) _ _ (0,0) _ rfl (Qi _ _ _ _ _ _ HB3.o.r) underlying146 rfl (by kernel_rfl)) rfl ⟨?_,?_⟩
    ·exact (HT3.o.trans (Tch.drewN NoB w3 1) noE).trans (Tch.setRow _ _ _) (λj hj=>.inr (by omega))
    ·rw [HWE.o];rfl
  ·have hnl:nb.data.toList=(t.near (Jd (cs,cn))).1:=by rw [<-HNB.o]
   have hkl2:kb.data.toList=Jd (cs,cn):=by rw [<-HKB.o]
   have hne:(nb.toList == kb.toList)=false:=by
    rw [ByteArray.toList_eq,ByteArray.toList_eq,hnl,hkl2]
    simpa using heq
   have HWO:Hid (YO (some t) (Jd (cs,cn)) (oa,oo)=.ok (some (t.graft (Jd (cs,cn)) (oa,oo) (fd (t.near (Jd (cs,cn))).1 (Jd (cs,cn)))))):=if_neg heq
   have hfd:=Jjl (t.near (Jd (cs,cn))).1 (Jd (cs,cn)) (by omega) heq
   have HFD:Hid (∀W,Calls prog 271 #[.string nb,.string kb] W λe w'=>e=.returned (.int .i64 (fd (t.near (Jd (cs,cn))).1 (Jd (cs,cn)):Int))/\∃n,w'=W.drewN n):=λW=>by
    have:=Jhz (t.near (Jd (cs,cn))).1 (Jd (cs,cn)) (by omega) heq (by omega) W
    rw [HNB.o,HKB.o] at this
    exact this
   have HGR:Hid (∀W,Tch NoB w3 W->Calls prog 270 #[.agg #[.int .i64 (wd:Int),.pointer (some ⟨n,0,none⟩)],.pointer (some ⟨n,0,none⟩),.pointer (some ⟨ln,0,none⟩),.int .i64 (fd (t.near (Jd (cs,cn))).1 (Jd (cs,cn)):Int)] W λe w'=>∃m,e=.returned (.tuple #[.pointer (some ⟨m,0,none⟩),.nilIface])/\Je (dgW wd) F w' m (t.graft (Jd (cs,cn)) (oa,oo) (fd (t.near (Jd (cs,cn))).1 (Jd (cs,cn))))/\Tch NoB W w'):=λW hT=>
    JhD E wd hw1 hw F _ _ _ HL.o _ (by have:=hfd.1;omega) ln t n W HTO.o (HE.o.tch (HT3.o.trans hT noE) noE) (λj hj=>HF.o j (Qm (HT3.o.trans hT noE).size hj)) (HNT3.o.next hT) (HLN3.o.next hT)
   clear hnl hkl2 heq hnk hfd HL
   generalize fd (t.near (Jd (cs,cn))).1 (Jd (cs,cn))=dd at *
   have hz3:=(Jb HB3.o.r)
   go_wp2_with fail
   go_region_held3 (λW=>W.cell? ⟨w.heap.size,0,none⟩=some (.int .i64 (wd:Int))/\W.cell? ⟨w.heap.size,1,none⟩=some (.pointer (some ⟨n,0,none⟩))/\W.cell? ⟨m,1,none⟩=some (.string nb)) (go_keep) ((first | (go_at_call 271;refine (HFD.o _).mono ?_;rintro _ _ ⟨rfl,m5,rfl⟩) | (go_at_call 270;refine (HGR.o _ (Tch.drewN NoB w3 _)).mono ?_;rintro _ w4 ⟨g4,rfl,hg4,ht4⟩;have hT4:Tch NoB w3 w4:=(Tch.drewN NoB w3 _).trans ht4 noE;have f0:=(hT4.cell (p:=⟨w.heap.size,0,none⟩) (by show w.heap.size<_;omega) (λh=>h)).trans e0;have f1:=(hT4.cell (p:=⟨w.heap.size,1,none⟩) (by show w.heap.size<_;omega) (λh=>h)).trans e1;have f2:=(hT4.cell (p:=⟨m,1,none⟩) hmlt (λh=>h)).trans hmk;have HG4:Hid (Je _ _ _ _ _):=hg4;have HT4:Hid (Tch NoB w3 w4):=hT4;clear hg4 ht4 hT4)))
   all_goals
    have b4:=HB3.o.next HT4.o
    have s0:w4.cell? ⟨w.heap.size+1+1+1,0,none⟩=some (.int .i64 0):=Ja b4.r
    have s1:w4.cell? ⟨w.heap.size+1+1+1,1,none⟩=some (.pointer none):=Ja b4.r
    have fS:∀j,w4.frozen? ⟨w.heap.size+1+1+1,j,none⟩=false:=λj=>Qg _ _ _ _ _ b4.r
    have RR:Hid (_=_):=b4.r
    clear b4 HFD HGR
    go_wp2
    rw [set2 _ _ _ _ _ _ _ RR.out]
    refine QJ (v:=.tuple #[.agg #[.int .i64 (wd:Int),.pointer (some ⟨g4,0,none⟩)],.nilIface]) (Ji results191 _ _ (w.heap.size+1+1+1) _ _ (0,0) _ rfl (Qi _ _ _ _ _ _ RR.out) underlying146 rfl (by kernel_rfl)) rfl ⟨?_,?_⟩
    ·exact (HT3.o.trans HT4.o noE).trans (Tch.setRow _ _ _) (λj hj=>.inr (by omega))
    ·rw [HWO.o]
     exact ⟨some g4,rfl,StAt.row (q:=some g4) (st:=some _) HG4.o RR.out (by decide)⟩

theorem Yn {P:Program} {fn:Func} {p p2 t:Tmp} {ty ty2:TypeId} (h:fn.results= #[.cell p ty,.cell p2 ty2,.tmp t]) (tmps:Array Value) (w:World) (g g2:Nat) (T T2:TypeId) (cs cs2:Array Value) (fr fr2:Nat×Nat) (d d2:TypeDesc)
  (hp:tmps.getD p undef=.pointer (some ⟨g,0,none⟩)) (hg:w.heap[g]? =some (.cells cs T fr))
  (hu:P.underlying ty=some d) (hd:(match d with | .struct _ | .array _ _=>true | _=>false)=true) (hi:(P.info? ty).map (·.size)=some cs.size)
  (hp2:tmps.getD p2 undef=.pointer (some ⟨g2,0,none⟩)) (hg2:w.heap[g2]? =some (.cells cs2 T2 fr2))
  (hu2:P.underlying ty2=some d2) (hd2:(match d2 with | .struct _ | .array _ _=>true | _=>false)=true) (hi2:(P.info? ty2).map (·.size)=some cs2.size):
  (results fn tmps).run P w=.ok (.tuple #[.agg cs,.agg cs2,tmps.getD t undef]) w:=by
 have hp':tmps[p]?.getD undef=.pointer (some ⟨g,0,none⟩):=by simpa using hp
 have hp2':tmps[p2]?.getD undef=.pointer (some ⟨g2,0,none⟩):=by simpa using hp2
 simp [results,h,hp',hp2',asAddr,run_loadVar_row w g T ty cs fr d hg hu hd hi,run_loadVar_row w g2 T2 ty2 cs2 fr2 d2 hg2 hu2 hd2 hi2]
structure Zx (w W:World) (wd:Nat) (q:Option Nat) (c:BA×Int):Prop where
 t:W.heap[w.heap.size]? =some (.cells #[.int .i64 (wd:Int),Jj q] 146)
 c:W.heap[w.heap.size+1]? =some (.cells #[.string c.1,.int .i64 c.2] 49)
 r:W.heap[w.heap.size+2]? =some (.cells #[.int .i64 0,.pointer none] 146)
 o:W.heap[w.heap.size+3]? =some (.cells #[.int .u64 0,.int .u8 0] 80)
theorem Zx.next {w W W':World} {wd:Nat} {q:Option Nat} {c:BA×Int} (h:Zx w W wd q c) (k:Tch NoB W W'):Zx w W' wd q c:=
 ⟨(k.block _ (Jb h.t) (λh=>h)).trans h.t,(k.block _ (Jb h.c) (λh=>h)).trans h.c,(k.block _ (Jb h.r) (λh=>h)).trans h.r,(k.block _ (Jb h.o) (λh=>h)).trans h.o⟩
theorem Jga (w:World) (wd:Nat) (q:Option Nat) (c:BA×Int):Zx w ((((w.alloc (.cells #[.int .i64 (wd:Int),Jj q] 146)).alloc (.cells #[.string c.1,.int .i64 c.2] 49)).alloc (.cells #[.int .i64 0,.pointer none] 146)).alloc (.cells #[.int .u64 0,.int .u8 0] 80)) wd q c:=
 ⟨(Xv _ _ _ _ _ _ (by omega)).trans (Js _ _ _ _),(Xv _ _ _ _ _ _ (by omega)).trans (Jp _ _ _ _),(Xv _ _ _ _ _ _ (by omega)).trans (Jm _ _ _ _),JaQ _ _ _ _ _⟩
theorem JaY {d:List UInt8->BA} {F:Nat->Prop} {w W:World} {wd:Nat} {q:Option Nat} {c:BA×Int} (h:Zx w W wd q c) (hT:Tch NoB w W) (v0 v1 u0 u1:Value):
  ((((W.setCell ⟨w.heap.size+2,0,none⟩ v0).setCell ⟨w.heap.size+2,1,none⟩ v1).setCell ⟨w.heap.size+3,0,none⟩ u0).setCell ⟨w.heap.size+3,1,none⟩ u1).heap[w.heap.size+2]? =some (.cells #[v0,v1] 146)/\
  ((((W.setCell ⟨w.heap.size+2,0,none⟩ v0).setCell ⟨w.heap.size+2,1,none⟩ v1).setCell ⟨w.heap.size+3,0,none⟩ u0).setCell ⟨w.heap.size+3,1,none⟩ u1).heap[w.heap.size+3]? =some (.cells #[u0,u1] 80)/\
  Tch NoB w ((((W.setCell ⟨w.heap.size+2,0,none⟩ v0).setCell ⟨w.heap.size+2,1,none⟩ v1).setCell ⟨w.heap.size+3,0,none⟩ u0).setCell ⟨w.heap.size+3,1,none⟩ u1)/\
  ∀q' st',StAt d F W q' st'->StAt d F ((((W.setCell ⟨w.heap.size+2,0,none⟩ v0).setCell ⟨w.heap.size+2,1,none⟩ v1).setCell ⟨w.heap.size+3,0,none⟩ u0).setCell ⟨w.heap.size+3,1,none⟩ u1) q' st':=by
 rw [set2 W (w.heap.size+2) _ _ _ _ _ h.r]
 have t1:=Tch.setRow W (w.heap.size+2) #[v0,v1]
 have o1:(W.setRow (w.heap.size+2) #[v0,v1]).heap[w.heap.size+3]? =some (.cells #[.int .u64 0,.int .u8 0] 80):=(t1.block _ (Jb h.o) (by omega)).trans h.o
 have r1:(W.setRow (w.heap.size+2) #[v0,v1]).heap[w.heap.size+2]? =some (.cells #[v0,v1] 146):=Qi _ _ _ _ _ _ h.r
 rw [set2 _ (w.heap.size+3) _ _ _ _ _ o1]
 have t2:=Tch.setRow (W.setRow (w.heap.size+2) #[v0,v1]) (w.heap.size+3) #[u0,u1]
 refine ⟨(t2.block _ (Jb r1) (by omega)).trans r1,Qi _ _ _ _ _ _ o1,(hT.trans t1 (λj hj=>.inr (by omega))).trans t2 (λj hj=>.inr (by omega)),λq' st' hs=>?_⟩
 exact (hs.row h.r (by decide)).row o1 (by decide)
def WoTo (E:Nat->Addr) (wd:Nat) (F:Nat->Prop) (r:Except Er (Option Tr×(Nat×Nat))) (e:Ending) (w':World):Prop:=match r with
 | .ok (st',o)=>∃q',e=.returned (.tuple #[JC wd q',.agg #[.int .u64 (o.1:Int),.int .u8 (o.2:Int)],.nilIface])/\StAt (dgW wd) F w' q' st'
 | .error _=>e=.returned (.tuple #[.agg #[.int .i64 0,.pointer none],.agg #[.int .u64 0,.int .u8 0],eV E 1])
theorem JfL (E:Nat->Addr) (wd:Nat) (hw1:1<=wd) (hw:wd<=32) (F:Nat->Prop) (q:Option Nat) (st:Option Tr) (c:BA×Int) (hc:Jo wd c) (w:World) (hE:Env E w) (hF:∀j,w.heap.size<=j->F j) (hs:StAt (dgW wd) F w q st) (hok:StOk wd st):
  Calls prog 284 #[JC wd q,.agg #[.string c.1,.int .i64 c.2]] w λe w'=>Tch NoB w w'/\WoTo E wd F (JR st (Jd c)) e w':=by
 have hkl:(Jd c).length=wd+1:=Yg hc
 have HKO:Hid (∀W,Tch NoB w W->Calls prog 145 #[.int .i64 (wd:Int),.agg #[.string c.1,.int .i64 c.2]] W λe w'=>e=.returned (.tuple #[.string ⟨(Jd c).toArray⟩,.nilIface])/\Tch NoB W w'):=λW hT=>JaI E wd hw c hc W (hE.tch hT noE)
 have HS:Hid (StAt (dgW wd) F w q st):=hs
 have HE:Hid (Env E w):=hE
 have HF:Hid (∀j,w.heap.size<=j->F j):=hF
 have HOK:Hid (StOk wd st):=hok
 have HBX:=Jga w wd q c
 obtain ⟨rv,hrv⟩:∃rv,rv=(q.map λn=>(⟨n,0,none⟩:Addr)):=⟨_,rfl⟩
 have hrq:Jj q=.pointer rv:=by rw [hrv]
 clear hs hE hF hok hc
 obtain ⟨cs,cn⟩:=c
 dsimp only at HKO HBX ⊢
 show Calls _ _ #[.agg #[_,Jj q],_] _ _
 rw [hrq]
 have HRQ:Hid (Jj q=.pointer rv):=hrq
 clear hrq hrv
 have HA0:Hid (Tch NoB w ((((w.alloc (.cells #[.int .i64 (wd:Int),.pointer rv] 146)).alloc (.cells #[.string cs,.int .i64 cn] 49)).alloc (.cells #[.int .i64 0,.pointer none] 146)).alloc (.cells #[.int .u64 0,.int .u8 0] 80))):=(Tch.allocs3 NoB w _ _ _).trans (Tch.alloc _ _ _) (λ_ h=>.inl h)
 have HB0:Hid (Zx w ((((w.alloc (.cells #[.int .i64 (wd:Int),.pointer rv] 146)).alloc (.cells #[.string cs,.int .i64 cn] 49)).alloc (.cells #[.int .i64 0,.pointer none] 146)).alloc (.cells #[.int .u64 0,.int .u8 0] 80)) wd q (cs,cn)):=by rw [<-HRQ.o];exact HBX
 clear HBX
 go_enter func284,ntmps284
 go_wp2_with fail
 refine (HKO.o _ HA0.o).mono ?_
 rintro _ w2 ⟨rfl,ht1⟩
 have HT2:Hid (Tch NoB w w2):=HA0.o.trans ht1 noE
 have b2:=HB0.o.next ht1
 have HB2:Hid (Zx w w2 wd q (cs,cn)):=b2
 have d0:w2.cell? ⟨w.heap.size,0,none⟩=some (.int .i64 (wd:Int)):=Ja b2.t
 have d1:w2.cell? ⟨w.heap.size,1,none⟩=some (.pointer rv):=by rw [<-HRQ.o];exact Ja b2.t
 generalize hKB:(⟨(Jd (cs,cn)).toArray⟩:BA)=kb at *
 have HKB:Hid (_=kb):=hKB
 clear hKB ht1 b2 HKO HB0 HA0
 cases st with
 | none=>
  obtain rfl:=HS.o.of_none
  obtain rfl:rv=none:=by have:=HRQ.o;simpa [Jj] using this.symm
  have HN:Hid (Calls prog 269 #[.agg #[.int .i64 (wd:Int),.pointer none],.string kb] w2 λe w'=>e=.returned (.pointer none)/\Tch NoB w2 w'):=by
   have:=Jbh (wd:Int) (Jd (cs,cn)) (by omega) (by omega) w2
   rw [HKB.o] at this
   exact this
  go_wp2_with fail
  refine HN.o.mono ?_
  rintro _ w3 ⟨rfl,ht3⟩
  have b3:=HB2.o.next ht3
  have HT3:Hid (Tch NoB w w3):=HT2.o.trans ht3 noE
  have hin:=(HE.o.tch HT3.o noE).input
  have r0:w3.cell? ⟨w.heap.size+1+1,0,none⟩=some (.int .i64 0):=Ja b3.r
  have r1:w3.cell? ⟨w.heap.size+1+1,1,none⟩=some (.pointer none):=Ja b3.r
  have fR:∀j,w3.frozen? ⟨w.heap.size+1+1,j,none⟩=false:=λj=>Qg _ _ _ _ _ b3.r
  have o0:w3.cell? ⟨w.heap.size+1+1+1,0,none⟩=some (.int .u64 0):=Ja b3.o
  have o1:w3.cell? ⟨w.heap.size+1+1+1,1,none⟩=some (.int .u8 0):=Ja b3.o
  have fO:∀j,w3.frozen? ⟨w.heap.size+1+1+1,j,none⟩=false:=λj=>Qg _ _ _ _ _ b3.o
  have HB3:Hid (Zx w w3 wd none (cs,cn)):=b3
  clear ht3 b3 HN d0 d1
  go_wp2
  go_region
  all_goals
   go_wp2
   obtain ⟨q1,q2,q3,_⟩:=JaY (d:=dgW wd) (F:=F) (W:=w3.drew) (HB3.o.next (Tch.drewN NoB w3 1)) (HT3.o.trans (Tch.drewN NoB w3 1) noE) (.int .i64 0) (.pointer none) (.int .u64 0) (.int .u8 0)
   refine QJ (v:=.tuple #[.agg #[.int .i64 0,.pointer none],.agg #[.int .u64 0,.int .u8 0],eV E 1]) (Yn results284 _ _ (w.heap.size+1+1) (w.heap.size+1+1+1) _ _ _ _ (0,0) (0,0) _ _ rfl q1 underlying146 rfl (by kernel_rfl) rfl q2 underlying80 rfl (by kernel_rfl)) rfl ⟨q3,?_⟩
   rfl
 | some t=>
  obtain ⟨n,rfl,hn⟩:=HS.o.of_some
  obtain rfl:rv=some ⟨n,0,none⟩:=by have:=HRQ.o;simpa [Jj] using this.symm
  have HTO:Hid (TrOk wd t):=HOK.o
  have HNT:Hid (Je (dgW wd) F w2 n t):=hn.next HT2.o
  have HN:Hid (Calls prog 269 #[.agg #[.int .i64 (wd:Int),.pointer (some ⟨n,0,none⟩)],.string kb] w2 λe w'=>∃m,e=.returned (.pointer (some ⟨m,0,none⟩))/\Je (dgW wd) F w' m (.leaf (t.near (Jd (cs,cn))).1 (t.near (Jd (cs,cn))).2)/\Tch NoB w2 w'):=by
   have:=Jbi wd (by omega) (dgW wd) F n t (Jd (cs,cn)) hkl w2 HNT.o HTO.o
   rw [HKB.o] at this
   exact this
  clear hn
  go_wp2_with fail
  refine HN.o.mono ?_
  rintro _ w3 ⟨m,rfl,hm,ht3⟩
  have b3:=HB2.o.next ht3
  have e0:w3.cell? ⟨w.heap.size,0,none⟩=some (.int .i64 (wd:Int)):=Ja b3.t
  have e1:w3.cell? ⟨w.heap.size,1,none⟩=some (.pointer (some ⟨n,0,none⟩)):=Ja b3.t
  have r0:w3.cell? ⟨w.heap.size+1+1,0,none⟩=some (.int .i64 0):=Ja b3.r
  have r1:w3.cell? ⟨w.heap.size+1+1,1,none⟩=some (.pointer none):=Ja b3.r
  have fR:∀j,w3.frozen? ⟨w.heap.size+1+1,j,none⟩=false:=λj=>Qg _ _ _ _ _ b3.r
  have o0:w3.cell? ⟨w.heap.size+1+1+1,0,none⟩=some (.int .u64 0):=Ja b3.o
  have o1:w3.cell? ⟨w.heap.size+1+1+1,1,none⟩=some (.int .u8 0):=Ja b3.o
  have fO:∀j,w3.frozen? ⟨w.heap.size+1+1+1,j,none⟩=false:=λj=>Qg _ _ _ _ _ b3.o
  have hmk:w3.cell? ⟨m,1,none⟩=some (.string ⟨(t.near (Jd (cs,cn))).1.toArray⟩):=by cases hm with | leaf _ _ _ _ hr=>exact Ja hr
  have hm2:w3.cell? ⟨m,2,none⟩=some (.int .u64 ((t.near (Jd (cs,cn))).2.1:Int)):=by cases hm with | leaf _ _ _ _ hr=>exact Ja hr
  have hm3:w3.cell? ⟨m,3,none⟩=some (.int .u8 ((t.near (Jd (cs,cn))).2.2:Int)):=by cases hm with | leaf _ _ _ _ hr=>exact Ja hr
  have hmlt:=hm.own.2
  have HT3:Hid (Tch NoB w w3):=HT2.o.trans ht3 noE
  have HNT3:Hid (Je (dgW wd) F w3 n t):=HNT.o.next ht3
  have HB3:Hid (Zx w w3 wd (some n) (cs,cn)):=b3
  have hin:=(HE.o.tch HT3.o noE).input
  clear ht3 b3 HN d0 d1 hm HNT HB2
  generalize hNB:(⟨(t.near (Jd (cs,cn))).1.toArray⟩:BA)=nb at *
  have HNB:Hid (_=nb):=hNB
  clear hNB
  have hnl:nb.data.toList=(t.near (Jd (cs,cn))).1:=by rw [<-HNB.o]
  have hkl2:kb.data.toList=Jd (cs,cn):=by rw [<-HKB.o]
  by_cases heq:(t.near (Jd (cs,cn))).1=Jd (cs,cn)
  ·have hkk:nb=kb:=by rw [<-HNB.o,heq];exact HKB.o
   have HWO:Hid (JR (some t) (Jd (cs,cn))=.ok (t.cut (Jd (cs,cn)),(t.near (Jd (cs,cn))).2)):=if_pos heq
   have HCU:Hid (∀W,Tch NoB w3 W->Calls prog 339 #[.agg #[.int .i64 (wd:Int),.pointer (some ⟨n,0,none⟩)],.pointer (some ⟨n,0,none⟩),.string kb] W λe w'=>Jao wd F (t.cut (Jd (cs,cn))) W e w'):=λW hT=>by
    have:=JkE E wd hw1 hw F (some ⟨n,0,none⟩) (Jd (cs,cn)) hkl t n W HTO.o (HE.o.tch (HT3.o.trans hT noE) noE) (λj hj=>HF.o j (Qm (HT3.o.trans hT noE).size hj)) (HNT3.o.next hT)
    rw [HKB.o] at this
    exact this
   subst hkk
   clear heq hnl hkl2
   have hz3:=(Jb HB3.o.o)
   obtain ⟨xa,hXA⟩:∃x,(t.near (Jd (cs,cn))).2.1=x:=⟨_,rfl⟩
   obtain ⟨xo,hXO⟩:∃x,(t.near (Jd (cs,cn))).2.2=x:=⟨_,rfl⟩
   rw [hXA] at hm2
   rw [hXO] at hm3
   have HX:Hid ((t.near (Jd (cs,cn))).2=(xa,xo)):=Prod.ext hXA hXO
   clear hXA hXO
   go_wp2_with fail
   refine (HCU.o _ (Tch.refl _ _)).mono ?_
   rintro _ w4 ⟨q4,rfl,hq4,ht4⟩
   have b4:=HB3.o.next ht4
   have HB4:Hid (Zx w w4 wd (some n) (cs,cn)):=b4
   have HT4:Hid (Tch NoB w w4):=HT3.o.trans ht4 noE
   have HQ4:Hid (StAt (dgW wd) F w4 q4 (t.cut (Jd (cs,cn)))):=hq4
   have s0:w4.cell? ⟨w.heap.size+1+1,0,none⟩=some (.int .i64 0):=Ja b4.r
   have s1:w4.cell? ⟨w.heap.size+1+1,1,none⟩=some (.pointer none):=Ja b4.r
   have gR:∀j,w4.frozen? ⟨w.heap.size+1+1,j,none⟩=false:=λj=>Qg _ _ _ _ _ b4.r
   have p0:w4.cell? ⟨w.heap.size+1+1+1,0,none⟩=some (.int .u64 0):=Ja b4.o
   have p1:w4.cell? ⟨w.heap.size+1+1+1,1,none⟩=some (.int .u8 0):=Ja b4.o
   have gO:∀j,w4.frozen? ⟨w.heap.size+1+1+1,j,none⟩=false:=λj=>Qg _ _ _ _ _ b4.o
   have f0:w4.cell? ⟨w.heap.size,0,none⟩=some (.int .i64 (wd:Int)):=Ja b4.t
   have n2:w4.cell? ⟨m,2,none⟩=some (.int .u64 (xa:Int)):=(ht4.cell (p:=⟨m,2,none⟩) hmlt (λh=>h)).trans hm2
   have n3:w4.cell? ⟨m,3,none⟩=some (.int .u8 (xo:Int)):=(ht4.cell (p:=⟨m,3,none⟩) hmlt (λh=>h)).trans hm3
   clear ht4 b4 hq4 e0 e1 r0 r1 fR o0 o1 fO hm2 hm3 hmk HCU
   obtain ⟨v4,hv4⟩:∃v,Jj q4=.pointer v:=⟨_,rfl⟩
   rw [hv4]
   have HV4:Hid (Jj q4=.pointer v4):=hv4
   clear hv4
   go_wp2
   go_region
   all_goals
    go_wp2
    obtain ⟨q1,q2,q3,q5⟩:=JaY (d:=dgW wd) (F:=F) (W:=w4) HB4.o HT4.o (.int .i64 (wd:Int)) (.pointer v4) (.int .u64 (xa:Int)) (.int .u8 (xo:Int))
    refine QJ (v:=.tuple #[.agg #[.int .i64 (wd:Int),.pointer v4],.agg #[.int .u64 (xa:Int),.int .u8 (xo:Int)],.nilIface]) (Yn results284 _ _ (w.heap.size+1+1) (w.heap.size+1+1+1) _ _ _ _ (0,0) (0,0) _ _ rfl q1 underlying146 rfl (by kernel_rfl) rfl q2 underlying80 rfl (by kernel_rfl)) rfl ⟨q3.trans (Tch.drewN NoB _ 1) noE,?_⟩
    rw [HWO.o,HX.o]
    refine ⟨q4,?_,(q5 _ _ HQ4.o).next (Tch.drewN NoB _ 1)⟩
    rw [JC,HV4.o]
  ·have hne:(nb.toList == kb.toList)=false:=by
    rw [ByteArray.toList_eq,ByteArray.toList_eq,hnl,hkl2]
    simpa using heq
   have hne2:(nb.toList != kb.toList)=true:=by rw [bne,hne];rfl
   have HWO:Hid (JR (some t) (Jd (cs,cn))=.error .input):=if_neg heq
   clear hnl hkl2 heq hm2 hm3
   go_wp2
   go_region
   all_goals
    go_wp2
    obtain ⟨q1,q2,q3,_⟩:=JaY (d:=dgW wd) (F:=F) (W:=w3.drew) (HB3.o.next (Tch.drewN NoB w3 1)) (HT3.o.trans (Tch.drewN NoB w3 1) noE) (.int .i64 0) (.pointer none) (.int .u64 0) (.int .u8 0)
    refine QJ (v:=.tuple #[.agg #[.int .i64 0,.pointer none],.agg #[.int .u64 0,.int .u8 0],eV E 1]) (Yn results284 _ _ (w.heap.size+1+1) (w.heap.size+1+1+1) _ _ _ _ (0,0) (0,0) _ _ rfl q1 underlying146 rfl (by kernel_rfl) rfl q2 underlying80 rfl (by kernel_rfl)) rfl ⟨q3,?_⟩
    rw [HWO.o];rfl
