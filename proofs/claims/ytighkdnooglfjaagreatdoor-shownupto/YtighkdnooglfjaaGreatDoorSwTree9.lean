/-
  The contracts of (tree.Tree).Digest, With and Without.
  The contract of (tree.Tree).Without.
-/
import Derived.Test.YtighkdnooglfjaaGreatDoorSwTree7
import Derived.Test.YtighkdnooglfjaaGreatDoorSwPBook
import Derived.Test.YtighkdnooglfjaaGreatDoorSwIs
namespace Go.Proofs.YtighkdnooglfjaaGreatDoor
open Go.RowKit

abbrev treeV (width:Nat) (q:Option Nat):Value:=.agg #[.int .i64 (width:Int),rootV q]
theorem keysOf_ok (E:Nat->Addr) (width:Nat) (hw:width<=32) (c:ByteArray×Int) (hc:CoinOk width c) (w:World) (hE:Env E w):
  Calls Tryz.prog 145 #[.int .i64 (width:Int),.agg #[.string c.1,.int .i64 c.2]] w λe w'=>e=.returned (.tuple #[.string ⟨(coinB c).toArray⟩,.nilIface])/\Tch (λ_=>False) w w':=by
 refine (keysOf_any E width (by omega) c w hE).mono ?_
 rintro e w' ⟨h1,h2⟩
 have:=(stCoin_some width c c (.wr []) _ ((rt_coin width c c hc).wr [])).1
 rw [this] at h2
 exact ⟨h2,h1⟩
theorem coin_leaf {width:Nat} {c:ByteArray×Int} (hc:CoinOk width c) {o:Nat×Nat} (ho:OutOk o):TrOk width (.leaf (coinB c) o):=by
 obtain ⟨h1,h2,h3⟩:=hc
 have hl:c.1.data.toList.length=width:=by simpa using h1
 refine ⟨by simp [coinB,beL_length];exact h1,?_,ho⟩
 have hx:=coinX_small c.2 h2 (by omega)
 have e:(coinB c).getD width 0=UInt8.ofNat (coinX c.2):=by
  unfold coinB
  rw [List.getD_eq_getElem?_getD,List.getElem?_append_right (by omega),hl,Nat.sub_self]
  simp [beL]
 rw [e,UInt8.toNat_ofNat']
 omega
set_option maxRecDepth 100000 in
set_option maxHeartbeats 1000000 in
theorem treeDigest_any (E:Nat->Addr) (width:Nat) (hw1:1<=width) (hw:width<=32) (F:Nat->Prop) (q:Option Nat) (st:Option Tr) (w:World) (hE:Env E w) (h:StAt (dgW width) F w q st):
  Calls Tryz.prog 83 #[treeV width q] w λe w'=>e=.returned (.string (stDig (dgW width) st))/\Tch (λ_=>False) w w':=by
 cases st with
 | none=>
  obtain rfl:=h.of_none
  have HO:Hid (∀W,Tch (λ_=>False) w W->Calls Tryz.prog 130 _ W _):=λW hT=>of_env E width ⟨#[69]⟩ W (hE.tch hT noE) hw1 hw (by decide)
  clear hE h
  show Calls _ _ #[.agg #[_,.pointer none]] _ _
  go_enter Tryz.func83,Tryz.ntmps83
  go_wp2_with fail
  refine (HO.out _ (Tch.alloc _ _ _)).mono ?_
  rintro _ w1 ⟨rfl,ht⟩
  have HT:Hid (Tch (λ_=>False) w w1):=(Tch.alloc (λ_=>False) w _).trans ht noE
  clear ht HO
  go_wp2
  go_ret
  exact ⟨rfl,HT.out⟩
 | some t=>
  obtain ⟨n,rfl,hn⟩:=h.of_some
  have c0:=hn.digCell
  have hlt:=hn.own.2
  clear hE h hn
  show Calls _ _ #[.agg #[_,.pointer (some ⟨n,0,none⟩)]] _ _
  go_enter Tryz.func83,Tryz.ntmps83
  go_wp2
  go_ret
  exact ⟨rfl,Tch.alloc _ _ _⟩
theorem results_cell_tmp {P:Program} {fn:Func} {p t:Tmp} {ty:TypeId} (h:fn.results= #[.cell p ty,.tmp t]) (tmps:Array Value) (w:World) (g:Nat) (T:TypeId) (cs:Array Value) (fr:Nat×Nat) (d:TypeDesc)
  (hp:tmps.getD p undef=.pointer (some ⟨g,0,none⟩)) (hg:w.heap[g]? =some (.cells cs T fr))
  (hu:P.underlying ty=some d) (hd:(match d with | .struct _ | .array _ _=>true | _=>false)=true) (hi:(P.info? ty).map (·.size)=some cs.size):
  (results fn tmps).run P w=.ok (.tuple #[.agg cs,tmps.getD t undef]) w:=by
 have hp':tmps[p]?.getD undef=.pointer (some ⟨g,0,none⟩):=by simpa using hp
 simp [results,h,hp',asAddr,run_loadVar_row w g T ty cs fr d hg hu hd hi]
structure WithBox (w W:World) (width:Nat) (q:Option Nat) (c:ByteArray×Int) (o:Nat×Nat):Prop where
 t:W.heap[w.heap.size]? =some (.cells #[.int .i64 (width:Int),rootV q] 146)
 c:W.heap[w.heap.size+1]? =some (.cells #[.string c.1,.int .i64 c.2] 49)
 o:W.heap[w.heap.size+2]? =some (.cells #[.int .u64 (o.1:Int),.int .u8 (o.2:Int)] 80)
 r:W.heap[w.heap.size+3]? =some (.cells #[.int .i64 0,.pointer none] 146)
theorem WithBox.next {w W W':World} {width:Nat} {q:Option Nat} {c:ByteArray×Int} {o:Nat×Nat} (h:WithBox w W width q c o) (k:Tch (λ_=>False) W W'):WithBox w W' width q c o:=
 ⟨(k.block _ (row_lt h.t) (λh=>h)).trans h.t,(k.block _ (row_lt h.c) (λh=>h)).trans h.c,(k.block _ (row_lt h.o) (λh=>h)).trans h.o,(k.block _ (row_lt h.r) (λh=>h)).trans h.r⟩
theorem heap_alloc4_3 (w:World) (o0 o1 o2 o3:Obj):((((w.alloc o0).alloc o1).alloc o2).alloc o3).heap[w.heap.size+3]? =some o3:=by
 have:=heap_alloc_new (((w.alloc o0).alloc o1).alloc o2) o3
 simpa using this
theorem heap_alloc4_low (w:World) (o0 o1 o2 o3:Obj) (k:Nat) (h:k<w.heap.size+3):((((w.alloc o0).alloc o1).alloc o2).alloc o3).heap[k]? =(((w.alloc o0).alloc o1).alloc o2).heap[k]? :=Below.heap_alloc _ _ _ (by simp;omega)
theorem withBox_new (w:World) (width:Nat) (q:Option Nat) (c:ByteArray×Int) (o:Nat×Nat):WithBox w ((((w.alloc (.cells #[.int .i64 (width:Int),rootV q] 146)).alloc (.cells #[.string c.1,.int .i64 c.2] 49)).alloc (.cells #[.int .u64 (o.1:Int),.int .u8 (o.2:Int)] 80)).alloc (.cells #[.int .i64 0,.pointer none] 146)) width q c o:=
 ⟨(heap_alloc4_low _ _ _ _ _ _ (by omega)).trans (heap_alloc3_0 _ _ _ _),(heap_alloc4_low _ _ _ _ _ _ (by omega)).trans (heap_alloc3_1 _ _ _ _),(heap_alloc4_low _ _ _ _ _ _ (by omega)).trans (heap_alloc3_2 _ _ _ _),heap_alloc4_3 _ _ _ _ _⟩
theorem NodeAt.tchT {d:List UInt8->ByteArray} {F:Nat->Prop} {w w':World} {n:Nat} {t:Tr} {S:Nat->Prop} (h:NodeAt d F w n t) (k:Tch S w w') (hs:∀j cs,S j->w.heap[j]? ≠ some (.cells cs 243)):NodeAt d F w' n t:=by
 induction h with
 | leaf n key o hF hr=>exact .leaf n key o hF ((k.block n (row_lt hr) (λe=>hs n _ e hr)).trans hr)
 | br n b nl nr l r hF hr _ _ ihl ihr=>exact .br n b nl nr l r hF ((k.block n (row_lt hr) (λe=>hs n _ e hr)).trans hr) ihl ihr
theorem StAt.row {d:List UInt8->ByteArray} {F:Nat->Prop} {w:World} {q:Option Nat} {st:Option Tr} {g:Nat} {cur cs:Array Value} {T:TypeId} (h:StAt d F w q st) (hr:w.heap[g]? =some (.cells cur T)) (hT:T ≠ 243):StAt d F (w.setRow g cs) q st:=by
 have hs:∀j c,j=g->w.heap[j]? ≠ some (.cells c 243):=λj c e e'=>by
  subst e
  rw [hr] at e'
  simp at e'
  exact hT e'.2
 cases q <;> cases st <;> first | exact h | exact NodeAt.tchT h (Tch.setRow w g cs) hs
def WithTo (E:Nat->Addr) (width:Nat) (F:Nat->Prop) (r:Except Er (Option Tr)) (e:Ending) (w':World):Prop:=match r with
 | .ok st'=>∃q',e=.returned (.tuple #[treeV width q',.nilIface])/\StAt (dgW width) F w' q' st'
 | .error _=>e=.returned (.tuple #[.agg #[.int .i64 0,.pointer none],eV E 2])
theorem TrOk.near {width:Nat} {t:Tr} {k:Key} (h:TrOk width t):(t.near k).1.length=width+1:=by
 induction t with
 | leaf k' o=>exact h.1
 | br b l r ihl ihr=>
  simp only [Tr.near]
  split
  ·exact ihl h.2.1
  ·exact ihr h.2.2
set_option maxRecDepth 100000 in
set_option maxHeartbeats 1000000 in
theorem with_any (E:Nat->Addr) (width:Nat) (hw1:1<=width) (hw:width<=32) (F:Nat->Prop) (q:Option Nat) (st:Option Tr) (c:ByteArray×Int) (hc:CoinOk width c) (o:Nat×Nat) (ho:OutOk o) (w:World) (hE:Env E w) (hF:∀j,w.heap.size<=j->F j) (hs:StAt (dgW width) F w q st) (hok:StOk width st):
  Calls Tryz.prog 191 #[treeV width q,.agg #[.string c.1,.int .i64 c.2],.agg #[.int .u64 (o.1:Int),.int .u8 (o.2:Int)]] w λe w'=>Tch (λ_=>False) w w'/\WithTo E width F (withT st (coinB c) o) e w':=by
 have hkl:(coinB c).length=width+1:=coinB_len hc
 have HL:Hid (TrOk width (.leaf (coinB c) o)):=coin_leaf hc ho
 have HKO:Hid (∀W,Tch (λ_=>False) w W->Calls Tryz.prog 145 #[.int .i64 (width:Int),.agg #[.string c.1,.int .i64 c.2]] W λe w'=>e=.returned (.tuple #[.string ⟨(coinB c).toArray⟩,.nilIface])/\Tch (λ_=>False) W w'):=λW hT=>keysOf_ok E width hw c hc W (hE.tch hT noE)
 have HNL:Hid (∀W,Tch (λ_=>False) w W->Calls Tryz.prog 268 #[.int .i64 (width:Int),.string ⟨(coinB c).toArray⟩,.agg #[.int .u64 (o.1:Int),.int .u8 (o.2:Int)]] W λe w'=>∃n,e=.returned (.tuple #[.pointer (some ⟨n,0,none⟩),.nilIface])/\NodeAt (dgW width) F w' n (.leaf (coinB c) o)/\Tch (λ_=>False) W w'):=λW hT=>(newLeaf_any E width hw1 hw (coinB c) o HL.out W (hE.tch hT noE)).mono λe w' ⟨n,h1,h2,h3,h4⟩=>⟨n,h1,.leaf n _ _ (hF n (Nat.le_trans hT.size h2)) h3,h4⟩
 have HS:Hid (StAt (dgW width) F w q st):=hs
 have HE:Hid (Env E w):=hE
 have HF:Hid (∀j,w.heap.size<=j->F j):=hF
 have HOK:Hid (StOk width st):=hok
 have HBX:=withBox_new w width q c o
 obtain ⟨rv,hrv⟩:∃rv,rv=(q.map λn=>(⟨n,0,none⟩:Addr)):=⟨_,rfl⟩
 have hrq:rootV q=.pointer rv:=by rw [hrv]
 clear hs hE hF hok ho hc
 obtain ⟨cs,cn⟩:=c
 obtain ⟨oa,oo⟩:=o
 dsimp only at HKO HNL HBX ⊢
 show Calls _ _ #[.agg #[_,rootV q],_,_] _ _
 rw [hrq]
 have HRQ:Hid (rootV q=.pointer rv):=hrq
 clear hrq hrv
 have hA0:Tch (λ_=>False) w ((((w.alloc (.cells #[.int .i64 (width:Int),.pointer rv] 146)).alloc (.cells #[.string cs,.int .i64 cn] 49)).alloc (.cells #[.int .u64 (oa:Int),.int .u8 (oo:Int)] 80)).alloc (.cells #[.int .i64 0,.pointer none] 146)):=(Tch.allocs3 (λ_=>False) w _ _ _).trans (Tch.alloc _ _ _) (λ_ h=>.inl h)
 have HA0:Hid (Tch _ _ _):=hA0
 have HB0:Hid (WithBox w ((((w.alloc (.cells #[.int .i64 (width:Int),.pointer rv] 146)).alloc (.cells #[.string cs,.int .i64 cn] 49)).alloc (.cells #[.int .u64 (oa:Int),.int .u8 (oo:Int)] 80)).alloc (.cells #[.int .i64 0,.pointer none] 146)) width q (cs,cn) (oa,oo)):=by rw [<-HRQ.out];exact HBX
 clear HBX hA0
 go_enter Tryz.func191,Tryz.ntmps191
 go_wp2_with fail
 refine (HKO.out _ HA0.out).mono ?_
 rintro _ w1 ⟨rfl,ht1⟩
 have HT1:Hid (Tch (λ_=>False) w w1):=HA0.out.trans ht1 noE
 have b1:=HB0.out.next ht1
 have HB1:Hid (WithBox w w1 width q (cs,cn) (oa,oo)):=b1
 have a0:w1.cell? ⟨w.heap.size,0,none⟩=some (.int .i64 (width:Int)):=cell_row b1.t
 have a1:w1.cell? ⟨w.heap.size+1+1,0,none⟩=some (.int .u64 (oa:Int)):=cell_row b1.o
 have a2:w1.cell? ⟨w.heap.size+1+1,1,none⟩=some (.int .u8 (oo:Int)):=cell_row b1.o
 generalize hKB:(⟨(coinB (cs,cn)).toArray⟩:ByteArray)=kb at *
 have HKB:Hid (_=kb):=hKB
 clear hKB ht1 b1 HKO HB0 HA0
 go_wp2_with fail
 refine (HNL.out _ HT1.out).mono ?_
 rintro _ w2 ⟨ln,rfl,hln,ht2⟩
 have HT2:Hid (Tch (λ_=>False) w w2):=HT1.out.trans ht2 noE
 have b2:=HB1.out.next ht2
 have HB2:Hid (WithBox w w2 width q (cs,cn) (oa,oo)):=b2
 have d0:w2.cell? ⟨w.heap.size,0,none⟩=some (.int .i64 (width:Int)):=cell_row b2.t
 have d1:w2.cell? ⟨w.heap.size,1,none⟩=some (.pointer rv):=by rw [<-HRQ.out];exact cell_row b2.t
 have HLN:Hid (NodeAt _ _ _ _ _):=hln
 clear ht2 b2 HNL HB1 HT1 hln a0 a1 a2
 cases st with
 | none=>
  obtain rfl:=HS.out.of_none
  obtain rfl:rv=none:=by have:=HRQ.out;simpa [rootV] using this.symm
  have HN:Hid (Calls Tryz.prog 269 #[.agg #[.int .i64 (width:Int),.pointer none],.string kb] w2 λe w'=>e=.returned (.pointer none)/\Tch (λ_=>False) w2 w'):=by
   have:=nearest_none (width:Int) (coinB (cs,cn)) (by omega) (by omega) w2
   rw [HKB.out] at this
   exact this
  go_wp2_with fail
  refine HN.out.mono ?_
  rintro _ w3 ⟨rfl,ht3⟩
  have b3:=HB2.out.next ht3
  have e0:w3.cell? ⟨w.heap.size,0,none⟩=some (.int .i64 (width:Int)):=cell_row b3.t
  have r0:w3.cell? ⟨w.heap.size+1+1+1,0,none⟩=some (.int .i64 0):=cell_row b3.r
  have r1:w3.cell? ⟨w.heap.size+1+1+1,1,none⟩=some (.pointer none):=cell_row b3.r
  have fR:∀j,w3.frozen? ⟨w.heap.size+1+1+1,j,none⟩=false:=λj=>frozen_of_row _ _ _ _ _ b3.r
  have RR:Hid (_=_):=b3.r
  have HT3:Hid (Tch (λ_=>False) w w3):=HT2.out.trans ht3 noE
  have HLN3:Hid (NodeAt (dgW width) F w3 ln _):=HLN.out.next ht3
  clear ht3 b3 HN d0 d1
  go_wp2
  rw [set2 _ _ _ _ _ _ _ RR.out]
  refine bodyPost_ret (v:=.tuple #[.agg #[.int .i64 (width:Int),.pointer (some ⟨ln,0,none⟩)],.nilIface]) (results_cell_tmp Tryz.results191 _ _ (w.heap.size+1+1+1) _ _ (0,0) _ rfl (setRow_heap _ _ _ _ _ _ RR.out) Tryz.underlying146 rfl (by kernel_rfl)) rfl ⟨?_,some ln,rfl,?_⟩
  ·exact HT3.out.trans (Tch.setRow _ _ _) (λj hj=>.inr (by omega))
  ·exact StAt.row (q:=some ln) (st:=some _) HLN3.out RR.out (by decide)
 | some t=>
  obtain ⟨n,rfl,hn⟩:=HS.out.of_some
  obtain rfl:rv=some ⟨n,0,none⟩:=by have:=HRQ.out;simpa [rootV] using this.symm
  have HTO:Hid (TrOk width t):=HOK.out
  have HNT:Hid (NodeAt (dgW width) F w2 n t):=hn.next HT2.out
  have HN:Hid (Calls Tryz.prog 269 #[.agg #[.int .i64 (width:Int),.pointer (some ⟨n,0,none⟩)],.string kb] w2 λe w'=>∃m,e=.returned (.pointer (some ⟨m,0,none⟩))/\NodeAt (dgW width) F w' m (.leaf (t.near (coinB (cs,cn))).1 (t.near (coinB (cs,cn))).2)/\Tch (λ_=>False) w2 w'):=by
   have:=nearest_some width (by omega) (dgW width) F n t (coinB (cs,cn)) hkl w2 HNT.out HTO.out
   rw [HKB.out] at this
   exact this
  clear hn
  go_wp2_with fail
  refine HN.out.mono ?_
  rintro _ w3 ⟨m,rfl,hm,ht3⟩
  have b3:=HB2.out.next ht3
  have e0:w3.cell? ⟨w.heap.size,0,none⟩=some (.int .i64 (width:Int)):=cell_row b3.t
  have e1:w3.cell? ⟨w.heap.size,1,none⟩=some (.pointer (some ⟨n,0,none⟩)):=cell_row b3.t
  have r0:w3.cell? ⟨w.heap.size+1+1+1,0,none⟩=some (.int .i64 0):=cell_row b3.r
  have r1:w3.cell? ⟨w.heap.size+1+1+1,1,none⟩=some (.pointer none):=cell_row b3.r
  have fR:∀j,w3.frozen? ⟨w.heap.size+1+1+1,j,none⟩=false:=λj=>frozen_of_row _ _ _ _ _ b3.r
  have hmk:w3.cell? ⟨m,1,none⟩=some (.string ⟨(t.near (coinB (cs,cn))).1.toArray⟩):=by cases hm with | leaf _ _ _ _ hr=>exact cell_row hr
  have hmlt:=hm.own.2
  have hnk:=HTO.out.near (k:=coinB (cs,cn))
  have HT3:Hid (Tch (λ_=>False) w w3):=HT2.out.trans ht3 noE
  have HLN3:Hid (NodeAt (dgW width) F w3 ln _):=HLN.out.next ht3
  have HNT3:Hid (NodeAt (dgW width) F w3 n t):=HNT.out.next ht3
  have HB3:Hid (WithBox w w3 width (some n) (cs,cn) (oa,oo)):=b3
  have hex:=(HE.out.tch HT3.out noE).exist
  clear ht3 b3 HN d0 d1 hm HNT HLN HB2
  generalize hNB:(⟨(t.near (coinB (cs,cn))).1.toArray⟩:ByteArray)=nb at *
  have HNB:Hid (_=nb):=hNB
  clear hNB
  by_cases heq:(t.near (coinB (cs,cn))).1=coinB (cs,cn)
  ·have hkk:nb=kb:=by rw [<-HNB.out,heq];exact HKB.out
   have HWE:Hid (withT (some t) (coinB (cs,cn)) (oa,oo)=.error .exist):=if_pos heq
   subst hkk
   clear heq hnk
   go_wp2
   go_region
   all_goals
    go_wp2
    rw [set2 _ _ _ _ _ _ _ HB3.out.r]
    refine bodyPost_ret (v:=.tuple #[.agg #[.int .i64 0,.pointer none],eV E 2]) (results_cell_tmp Tryz.results191 _ _ (w.heap.size+1+1+1) _ _ (0,0) _ rfl (setRow_heap _ _ _ _ _ _ HB3.out.r) Tryz.underlying146 rfl (by kernel_rfl)) rfl ⟨?_,?_⟩
    ·exact (HT3.out.trans (Tch.drewN (λ_=>False) w3 1) noE).trans (Tch.setRow _ _ _) (λj hj=>.inr (by omega))
    ·rw [HWE.out];rfl
  ·have hnl:nb.data.toList=(t.near (coinB (cs,cn))).1:=by rw [<-HNB.out]
   have hkl2:kb.data.toList=coinB (cs,cn):=by rw [<-HKB.out]
   have hne:(nb.toList == kb.toList)=false:=by
    rw [ByteArray.toList_eq,ByteArray.toList_eq,hnl,hkl2]
    simpa using heq
   have HWO:Hid (withT (some t) (coinB (cs,cn)) (oa,oo)=.ok (some (t.graft (coinB (cs,cn)) (oa,oo) (fd (t.near (coinB (cs,cn))).1 (coinB (cs,cn)))))):=if_neg heq
   have hfd:=fd_ok (t.near (coinB (cs,cn))).1 (coinB (cs,cn)) (by omega) heq
   have HFD:Hid (∀W,Calls Tryz.prog 271 #[.string nb,.string kb] W λe w'=>e=.returned (.int .i64 (fd (t.near (coinB (cs,cn))).1 (coinB (cs,cn)):Int))/\∃n,w'=W.drewN n):=λW=>by
    have:=fdiff_any (t.near (coinB (cs,cn))).1 (coinB (cs,cn)) (by omega) heq (by omega) W
    rw [HNB.out,HKB.out] at this
    exact this
   have HGR:Hid (∀W,Tch (λ_=>False) w3 W->Calls Tryz.prog 270 #[.agg #[.int .i64 (width:Int),.pointer (some ⟨n,0,none⟩)],.pointer (some ⟨n,0,none⟩),.pointer (some ⟨ln,0,none⟩),.int .i64 (fd (t.near (coinB (cs,cn))).1 (coinB (cs,cn)):Int)] W λe w'=>∃m,e=.returned (.tuple #[.pointer (some ⟨m,0,none⟩),.nilIface])/\NodeAt (dgW width) F w' m (t.graft (coinB (cs,cn)) (oa,oo) (fd (t.near (coinB (cs,cn))).1 (coinB (cs,cn))))/\Tch (λ_=>False) W w'):=λW hT=>
    graft_any E width hw1 hw F _ _ _ HL.out _ (by have:=hfd.1;omega) ln t n W HTO.out (HE.out.tch (HT3.out.trans hT noE) noE) (λj hj=>HF.out j (Nat.le_trans (HT3.out.trans hT noE).size hj)) (HNT3.out.next hT) (HLN3.out.next hT)
   clear hnl hkl2 heq hnk hfd HL
   generalize fd (t.near (coinB (cs,cn))).1 (coinB (cs,cn))=dd at *
   have hz3:=(row_lt HB3.out.r)
   go_wp2_with fail
   go_region_held3 (λW=>W.cell? ⟨w.heap.size,0,none⟩=some (.int .i64 (width:Int))/\W.cell? ⟨w.heap.size,1,none⟩=some (.pointer (some ⟨n,0,none⟩))/\W.cell? ⟨m,1,none⟩=some (.string nb)) (go_keep) ((first | (go_at_call 271;refine (HFD.out _).mono ?_;rintro _ _ ⟨rfl,m5,rfl⟩) | (go_at_call 270;refine (HGR.out _ (Tch.drewN (λ_=>False) w3 _)).mono ?_;rintro _ w4 ⟨g4,rfl,hg4,ht4⟩;have hT4:Tch (λ_=>False) w3 w4:=(Tch.drewN (λ_=>False) w3 _).trans ht4 noE;have f0:=(hT4.cell (p:=⟨w.heap.size,0,none⟩) (by show w.heap.size<_;omega) (λh=>h)).trans e0;have f1:=(hT4.cell (p:=⟨w.heap.size,1,none⟩) (by show w.heap.size<_;omega) (λh=>h)).trans e1;have f2:=(hT4.cell (p:=⟨m,1,none⟩) hmlt (λh=>h)).trans hmk;have HG4:Hid (NodeAt _ _ _ _ _):=hg4;have HT4:Hid (Tch (λ_=>False) w3 w4):=hT4;clear hg4 ht4 hT4)))
   all_goals
    have b4:=HB3.out.next HT4.out
    have s0:w4.cell? ⟨w.heap.size+1+1+1,0,none⟩=some (.int .i64 0):=cell_row b4.r
    have s1:w4.cell? ⟨w.heap.size+1+1+1,1,none⟩=some (.pointer none):=cell_row b4.r
    have fS:∀j,w4.frozen? ⟨w.heap.size+1+1+1,j,none⟩=false:=λj=>frozen_of_row _ _ _ _ _ b4.r
    have RR:Hid (_=_):=b4.r
    clear b4 HFD HGR
    go_wp2
    rw [set2 _ _ _ _ _ _ _ RR.out]
    refine bodyPost_ret (v:=.tuple #[.agg #[.int .i64 (width:Int),.pointer (some ⟨g4,0,none⟩)],.nilIface]) (results_cell_tmp Tryz.results191 _ _ (w.heap.size+1+1+1) _ _ (0,0) _ rfl (setRow_heap _ _ _ _ _ _ RR.out) Tryz.underlying146 rfl (by kernel_rfl)) rfl ⟨?_,?_⟩
    ·exact (HT3.out.trans HT4.out noE).trans (Tch.setRow _ _ _) (λj hj=>.inr (by omega))
    ·rw [HWO.out]
     exact ⟨some g4,rfl,StAt.row (q:=some g4) (st:=some _) HG4.out RR.out (by decide)⟩
end Go.Proofs.YtighkdnooglfjaaGreatDoor
namespace Go.Proofs.YtighkdnooglfjaaGreatDoor
open Go.RowKit

theorem results_cell2_tmp {P:Program} {fn:Func} {p p2 t:Tmp} {ty ty2:TypeId} (h:fn.results= #[.cell p ty,.cell p2 ty2,.tmp t]) (tmps:Array Value) (w:World) (g g2:Nat) (T T2:TypeId) (cs cs2:Array Value) (fr fr2:Nat×Nat) (d d2:TypeDesc)
  (hp:tmps.getD p undef=.pointer (some ⟨g,0,none⟩)) (hg:w.heap[g]? =some (.cells cs T fr))
  (hu:P.underlying ty=some d) (hd:(match d with | .struct _ | .array _ _=>true | _=>false)=true) (hi:(P.info? ty).map (·.size)=some cs.size)
  (hp2:tmps.getD p2 undef=.pointer (some ⟨g2,0,none⟩)) (hg2:w.heap[g2]? =some (.cells cs2 T2 fr2))
  (hu2:P.underlying ty2=some d2) (hd2:(match d2 with | .struct _ | .array _ _=>true | _=>false)=true) (hi2:(P.info? ty2).map (·.size)=some cs2.size):
  (results fn tmps).run P w=.ok (.tuple #[.agg cs,.agg cs2,tmps.getD t undef]) w:=by
 have hp':tmps[p]?.getD undef=.pointer (some ⟨g,0,none⟩):=by simpa using hp
 have hp2':tmps[p2]?.getD undef=.pointer (some ⟨g2,0,none⟩):=by simpa using hp2
 simp [results,h,hp',hp2',asAddr,run_loadVar_row w g T ty cs fr d hg hu hd hi,run_loadVar_row w g2 T2 ty2 cs2 fr2 d2 hg2 hu2 hd2 hi2]
structure OutBox (w W:World) (width:Nat) (q:Option Nat) (c:ByteArray×Int):Prop where
 t:W.heap[w.heap.size]? =some (.cells #[.int .i64 (width:Int),rootV q] 146)
 c:W.heap[w.heap.size+1]? =some (.cells #[.string c.1,.int .i64 c.2] 49)
 r:W.heap[w.heap.size+2]? =some (.cells #[.int .i64 0,.pointer none] 146)
 o:W.heap[w.heap.size+3]? =some (.cells #[.int .u64 0,.int .u8 0] 80)
theorem OutBox.next {w W W':World} {width:Nat} {q:Option Nat} {c:ByteArray×Int} (h:OutBox w W width q c) (k:Tch (λ_=>False) W W'):OutBox w W' width q c:=
 ⟨(k.block _ (row_lt h.t) (λh=>h)).trans h.t,(k.block _ (row_lt h.c) (λh=>h)).trans h.c,(k.block _ (row_lt h.r) (λh=>h)).trans h.r,(k.block _ (row_lt h.o) (λh=>h)).trans h.o⟩
theorem outBox_new (w:World) (width:Nat) (q:Option Nat) (c:ByteArray×Int):OutBox w ((((w.alloc (.cells #[.int .i64 (width:Int),rootV q] 146)).alloc (.cells #[.string c.1,.int .i64 c.2] 49)).alloc (.cells #[.int .i64 0,.pointer none] 146)).alloc (.cells #[.int .u64 0,.int .u8 0] 80)) width q c:=
 ⟨(heap_alloc4_low _ _ _ _ _ _ (by omega)).trans (heap_alloc3_0 _ _ _ _),(heap_alloc4_low _ _ _ _ _ _ (by omega)).trans (heap_alloc3_1 _ _ _ _),(heap_alloc4_low _ _ _ _ _ _ (by omega)).trans (heap_alloc3_2 _ _ _ _),heap_alloc4_3 _ _ _ _ _⟩
theorem out_stored {d:List UInt8->ByteArray} {F:Nat->Prop} {w W:World} {width:Nat} {q:Option Nat} {c:ByteArray×Int} (h:OutBox w W width q c) (hT:Tch (λ_=>False) w W) (v0 v1 u0 u1:Value):
  ((((W.setCell ⟨w.heap.size+2,0,none⟩ v0).setCell ⟨w.heap.size+2,1,none⟩ v1).setCell ⟨w.heap.size+3,0,none⟩ u0).setCell ⟨w.heap.size+3,1,none⟩ u1).heap[w.heap.size+2]? =some (.cells #[v0,v1] 146)/\
  ((((W.setCell ⟨w.heap.size+2,0,none⟩ v0).setCell ⟨w.heap.size+2,1,none⟩ v1).setCell ⟨w.heap.size+3,0,none⟩ u0).setCell ⟨w.heap.size+3,1,none⟩ u1).heap[w.heap.size+3]? =some (.cells #[u0,u1] 80)/\
  Tch (λ_=>False) w ((((W.setCell ⟨w.heap.size+2,0,none⟩ v0).setCell ⟨w.heap.size+2,1,none⟩ v1).setCell ⟨w.heap.size+3,0,none⟩ u0).setCell ⟨w.heap.size+3,1,none⟩ u1)/\
  ∀q' st',StAt d F W q' st'->StAt d F ((((W.setCell ⟨w.heap.size+2,0,none⟩ v0).setCell ⟨w.heap.size+2,1,none⟩ v1).setCell ⟨w.heap.size+3,0,none⟩ u0).setCell ⟨w.heap.size+3,1,none⟩ u1) q' st':=by
 rw [set2 W (w.heap.size+2) _ _ _ _ _ h.r]
 have t1:=Tch.setRow W (w.heap.size+2) #[v0,v1]
 have o1:(W.setRow (w.heap.size+2) #[v0,v1]).heap[w.heap.size+3]? =some (.cells #[.int .u64 0,.int .u8 0] 80):=(t1.block _ (row_lt h.o) (by omega)).trans h.o
 have r1:(W.setRow (w.heap.size+2) #[v0,v1]).heap[w.heap.size+2]? =some (.cells #[v0,v1] 146):=setRow_heap _ _ _ _ _ _ h.r
 rw [set2 _ (w.heap.size+3) _ _ _ _ _ o1]
 have t2:=Tch.setRow (W.setRow (w.heap.size+2) #[v0,v1]) (w.heap.size+3) #[u0,u1]
 refine ⟨(t2.block _ (row_lt r1) (by omega)).trans r1,setRow_heap _ _ _ _ _ _ o1,(hT.trans t1 (λj hj=>.inr (by omega))).trans t2 (λj hj=>.inr (by omega)),λq' st' hs=>?_⟩
 exact (hs.row h.r (by decide)).row o1 (by decide)
def WoTo (E:Nat->Addr) (width:Nat) (F:Nat->Prop) (r:Except Er (Option Tr×(Nat×Nat))) (e:Ending) (w':World):Prop:=match r with
 | .ok (st',o)=>∃q',e=.returned (.tuple #[treeV width q',.agg #[.int .u64 (o.1:Int),.int .u8 (o.2:Int)],.nilIface])/\StAt (dgW width) F w' q' st'
 | .error _=>e=.returned (.tuple #[.agg #[.int .i64 0,.pointer none],.agg #[.int .u64 0,.int .u8 0],eV E 1])
set_option maxRecDepth 100000 in
set_option maxHeartbeats 1000000 in
theorem without_any (E:Nat->Addr) (width:Nat) (hw1:1<=width) (hw:width<=32) (F:Nat->Prop) (q:Option Nat) (st:Option Tr) (c:ByteArray×Int) (hc:CoinOk width c) (w:World) (hE:Env E w) (hF:∀j,w.heap.size<=j->F j) (hs:StAt (dgW width) F w q st) (hok:StOk width st):
  Calls Tryz.prog 284 #[treeV width q,.agg #[.string c.1,.int .i64 c.2]] w λe w'=>Tch (λ_=>False) w w'/\WoTo E width F (withoutT st (coinB c)) e w':=by
 have hkl:(coinB c).length=width+1:=coinB_len hc
 have HKO:Hid (∀W,Tch (λ_=>False) w W->Calls Tryz.prog 145 #[.int .i64 (width:Int),.agg #[.string c.1,.int .i64 c.2]] W λe w'=>e=.returned (.tuple #[.string ⟨(coinB c).toArray⟩,.nilIface])/\Tch (λ_=>False) W w'):=λW hT=>keysOf_ok E width hw c hc W (hE.tch hT noE)
 have HS:Hid (StAt (dgW width) F w q st):=hs
 have HE:Hid (Env E w):=hE
 have HF:Hid (∀j,w.heap.size<=j->F j):=hF
 have HOK:Hid (StOk width st):=hok
 have HBX:=outBox_new w width q c
 obtain ⟨rv,hrv⟩:∃rv,rv=(q.map λn=>(⟨n,0,none⟩:Addr)):=⟨_,rfl⟩
 have hrq:rootV q=.pointer rv:=by rw [hrv]
 clear hs hE hF hok hc
 obtain ⟨cs,cn⟩:=c
 dsimp only at HKO HBX ⊢
 show Calls _ _ #[.agg #[_,rootV q],_] _ _
 rw [hrq]
 have HRQ:Hid (rootV q=.pointer rv):=hrq
 clear hrq hrv
 have HA0:Hid (Tch (λ_=>False) w ((((w.alloc (.cells #[.int .i64 (width:Int),.pointer rv] 146)).alloc (.cells #[.string cs,.int .i64 cn] 49)).alloc (.cells #[.int .i64 0,.pointer none] 146)).alloc (.cells #[.int .u64 0,.int .u8 0] 80))):=(Tch.allocs3 (λ_=>False) w _ _ _).trans (Tch.alloc _ _ _) (λ_ h=>.inl h)
 have HB0:Hid (OutBox w ((((w.alloc (.cells #[.int .i64 (width:Int),.pointer rv] 146)).alloc (.cells #[.string cs,.int .i64 cn] 49)).alloc (.cells #[.int .i64 0,.pointer none] 146)).alloc (.cells #[.int .u64 0,.int .u8 0] 80)) width q (cs,cn)):=by rw [<-HRQ.out];exact HBX
 clear HBX
 go_enter Tryz.func284,Tryz.ntmps284
 go_wp2_with fail
 refine (HKO.out _ HA0.out).mono ?_
 rintro _ w2 ⟨rfl,ht1⟩
 have HT2:Hid (Tch (λ_=>False) w w2):=HA0.out.trans ht1 noE
 have b2:=HB0.out.next ht1
 have HB2:Hid (OutBox w w2 width q (cs,cn)):=b2
 have d0:w2.cell? ⟨w.heap.size,0,none⟩=some (.int .i64 (width:Int)):=cell_row b2.t
 have d1:w2.cell? ⟨w.heap.size,1,none⟩=some (.pointer rv):=by rw [<-HRQ.out];exact cell_row b2.t
 generalize hKB:(⟨(coinB (cs,cn)).toArray⟩:ByteArray)=kb at *
 have HKB:Hid (_=kb):=hKB
 clear hKB ht1 b2 HKO HB0 HA0
 cases st with
 | none=>
  obtain rfl:=HS.out.of_none
  obtain rfl:rv=none:=by have:=HRQ.out;simpa [rootV] using this.symm
  have HN:Hid (Calls Tryz.prog 269 #[.agg #[.int .i64 (width:Int),.pointer none],.string kb] w2 λe w'=>e=.returned (.pointer none)/\Tch (λ_=>False) w2 w'):=by
   have:=nearest_none (width:Int) (coinB (cs,cn)) (by omega) (by omega) w2
   rw [HKB.out] at this
   exact this
  go_wp2_with fail
  refine HN.out.mono ?_
  rintro _ w3 ⟨rfl,ht3⟩
  have b3:=HB2.out.next ht3
  have HT3:Hid (Tch (λ_=>False) w w3):=HT2.out.trans ht3 noE
  have hin:=(HE.out.tch HT3.out noE).input
  have r0:w3.cell? ⟨w.heap.size+1+1,0,none⟩=some (.int .i64 0):=cell_row b3.r
  have r1:w3.cell? ⟨w.heap.size+1+1,1,none⟩=some (.pointer none):=cell_row b3.r
  have fR:∀j,w3.frozen? ⟨w.heap.size+1+1,j,none⟩=false:=λj=>frozen_of_row _ _ _ _ _ b3.r
  have o0:w3.cell? ⟨w.heap.size+1+1+1,0,none⟩=some (.int .u64 0):=cell_row b3.o
  have o1:w3.cell? ⟨w.heap.size+1+1+1,1,none⟩=some (.int .u8 0):=cell_row b3.o
  have fO:∀j,w3.frozen? ⟨w.heap.size+1+1+1,j,none⟩=false:=λj=>frozen_of_row _ _ _ _ _ b3.o
  have HB3:Hid (OutBox w w3 width none (cs,cn)):=b3
  clear ht3 b3 HN d0 d1
  go_wp2
  go_region
  all_goals
   go_wp2
   obtain ⟨q1,q2,q3,_⟩:=out_stored (d:=dgW width) (F:=F) (W:=w3.drew) (HB3.out.next (Tch.drewN (λ_=>False) w3 1)) (HT3.out.trans (Tch.drewN (λ_=>False) w3 1) noE) (.int .i64 0) (.pointer none) (.int .u64 0) (.int .u8 0)
   refine bodyPost_ret (v:=.tuple #[.agg #[.int .i64 0,.pointer none],.agg #[.int .u64 0,.int .u8 0],eV E 1]) (results_cell2_tmp Tryz.results284 _ _ (w.heap.size+1+1) (w.heap.size+1+1+1) _ _ _ _ (0,0) (0,0) _ _ rfl q1 Tryz.underlying146 rfl (by kernel_rfl) rfl q2 Tryz.underlying80 rfl (by kernel_rfl)) rfl ⟨q3,?_⟩
   rfl
 | some t=>
  obtain ⟨n,rfl,hn⟩:=HS.out.of_some
  obtain rfl:rv=some ⟨n,0,none⟩:=by have:=HRQ.out;simpa [rootV] using this.symm
  have HTO:Hid (TrOk width t):=HOK.out
  have HNT:Hid (NodeAt (dgW width) F w2 n t):=hn.next HT2.out
  have HN:Hid (Calls Tryz.prog 269 #[.agg #[.int .i64 (width:Int),.pointer (some ⟨n,0,none⟩)],.string kb] w2 λe w'=>∃m,e=.returned (.pointer (some ⟨m,0,none⟩))/\NodeAt (dgW width) F w' m (.leaf (t.near (coinB (cs,cn))).1 (t.near (coinB (cs,cn))).2)/\Tch (λ_=>False) w2 w'):=by
   have:=nearest_some width (by omega) (dgW width) F n t (coinB (cs,cn)) hkl w2 HNT.out HTO.out
   rw [HKB.out] at this
   exact this
  clear hn
  go_wp2_with fail
  refine HN.out.mono ?_
  rintro _ w3 ⟨m,rfl,hm,ht3⟩
  have b3:=HB2.out.next ht3
  have e0:w3.cell? ⟨w.heap.size,0,none⟩=some (.int .i64 (width:Int)):=cell_row b3.t
  have e1:w3.cell? ⟨w.heap.size,1,none⟩=some (.pointer (some ⟨n,0,none⟩)):=cell_row b3.t
  have r0:w3.cell? ⟨w.heap.size+1+1,0,none⟩=some (.int .i64 0):=cell_row b3.r
  have r1:w3.cell? ⟨w.heap.size+1+1,1,none⟩=some (.pointer none):=cell_row b3.r
  have fR:∀j,w3.frozen? ⟨w.heap.size+1+1,j,none⟩=false:=λj=>frozen_of_row _ _ _ _ _ b3.r
  have o0:w3.cell? ⟨w.heap.size+1+1+1,0,none⟩=some (.int .u64 0):=cell_row b3.o
  have o1:w3.cell? ⟨w.heap.size+1+1+1,1,none⟩=some (.int .u8 0):=cell_row b3.o
  have fO:∀j,w3.frozen? ⟨w.heap.size+1+1+1,j,none⟩=false:=λj=>frozen_of_row _ _ _ _ _ b3.o
  have hmk:w3.cell? ⟨m,1,none⟩=some (.string ⟨(t.near (coinB (cs,cn))).1.toArray⟩):=by cases hm with | leaf _ _ _ _ hr=>exact cell_row hr
  have hm2:w3.cell? ⟨m,2,none⟩=some (.int .u64 ((t.near (coinB (cs,cn))).2.1:Int)):=by cases hm with | leaf _ _ _ _ hr=>exact cell_row hr
  have hm3:w3.cell? ⟨m,3,none⟩=some (.int .u8 ((t.near (coinB (cs,cn))).2.2:Int)):=by cases hm with | leaf _ _ _ _ hr=>exact cell_row hr
  have hmlt:=hm.own.2
  have HT3:Hid (Tch (λ_=>False) w w3):=HT2.out.trans ht3 noE
  have HNT3:Hid (NodeAt (dgW width) F w3 n t):=HNT.out.next ht3
  have HB3:Hid (OutBox w w3 width (some n) (cs,cn)):=b3
  have hin:=(HE.out.tch HT3.out noE).input
  clear ht3 b3 HN d0 d1 hm HNT HB2
  generalize hNB:(⟨(t.near (coinB (cs,cn))).1.toArray⟩:ByteArray)=nb at *
  have HNB:Hid (_=nb):=hNB
  clear hNB
  have hnl:nb.data.toList=(t.near (coinB (cs,cn))).1:=by rw [<-HNB.out]
  have hkl2:kb.data.toList=coinB (cs,cn):=by rw [<-HKB.out]
  by_cases heq:(t.near (coinB (cs,cn))).1=coinB (cs,cn)
  ·have hkk:nb=kb:=by rw [<-HNB.out,heq];exact HKB.out
   have HWO:Hid (withoutT (some t) (coinB (cs,cn))=.ok (t.cut (coinB (cs,cn)),(t.near (coinB (cs,cn))).2)):=if_pos heq
   have HCU:Hid (∀W,Tch (λ_=>False) w3 W->Calls Tryz.prog 339 #[.agg #[.int .i64 (width:Int),.pointer (some ⟨n,0,none⟩)],.pointer (some ⟨n,0,none⟩),.string kb] W λe w'=>CutTo width F (t.cut (coinB (cs,cn))) W e w'):=λW hT=>by
    have:=cut_any E width hw1 hw F (some ⟨n,0,none⟩) (coinB (cs,cn)) hkl t n W HTO.out (HE.out.tch (HT3.out.trans hT noE) noE) (λj hj=>HF.out j (Nat.le_trans (HT3.out.trans hT noE).size hj)) (HNT3.out.next hT)
    rw [HKB.out] at this
    exact this
   subst hkk
   clear heq hnl hkl2
   have hz3:=(row_lt HB3.out.o)
   obtain ⟨xa,hXA⟩:∃x,(t.near (coinB (cs,cn))).2.1=x:=⟨_,rfl⟩
   obtain ⟨xo,hXO⟩:∃x,(t.near (coinB (cs,cn))).2.2=x:=⟨_,rfl⟩
   rw [hXA] at hm2
   rw [hXO] at hm3
   have HX:Hid ((t.near (coinB (cs,cn))).2=(xa,xo)):=Prod.ext hXA hXO
   clear hXA hXO
   go_wp2_with fail
   refine (HCU.out _ (Tch.refl _ _)).mono ?_
   rintro _ w4 ⟨q4,rfl,hq4,ht4⟩
   have b4:=HB3.out.next ht4
   have HB4:Hid (OutBox w w4 width (some n) (cs,cn)):=b4
   have HT4:Hid (Tch (λ_=>False) w w4):=HT3.out.trans ht4 noE
   have HQ4:Hid (StAt (dgW width) F w4 q4 (t.cut (coinB (cs,cn)))):=hq4
   have s0:w4.cell? ⟨w.heap.size+1+1,0,none⟩=some (.int .i64 0):=cell_row b4.r
   have s1:w4.cell? ⟨w.heap.size+1+1,1,none⟩=some (.pointer none):=cell_row b4.r
   have gR:∀j,w4.frozen? ⟨w.heap.size+1+1,j,none⟩=false:=λj=>frozen_of_row _ _ _ _ _ b4.r
   have p0:w4.cell? ⟨w.heap.size+1+1+1,0,none⟩=some (.int .u64 0):=cell_row b4.o
   have p1:w4.cell? ⟨w.heap.size+1+1+1,1,none⟩=some (.int .u8 0):=cell_row b4.o
   have gO:∀j,w4.frozen? ⟨w.heap.size+1+1+1,j,none⟩=false:=λj=>frozen_of_row _ _ _ _ _ b4.o
   have f0:w4.cell? ⟨w.heap.size,0,none⟩=some (.int .i64 (width:Int)):=cell_row b4.t
   have n2:w4.cell? ⟨m,2,none⟩=some (.int .u64 (xa:Int)):=(ht4.cell (p:=⟨m,2,none⟩) hmlt (λh=>h)).trans hm2
   have n3:w4.cell? ⟨m,3,none⟩=some (.int .u8 (xo:Int)):=(ht4.cell (p:=⟨m,3,none⟩) hmlt (λh=>h)).trans hm3
   clear ht4 b4 hq4 e0 e1 r0 r1 fR o0 o1 fO hm2 hm3 hmk HCU
   obtain ⟨v4,hv4⟩:∃v,rootV q4=.pointer v:=⟨_,rfl⟩
   rw [hv4]
   have HV4:Hid (rootV q4=.pointer v4):=hv4
   clear hv4
   go_wp2
   go_region
   all_goals
    go_wp2
    obtain ⟨q1,q2,q3,q5⟩:=out_stored (d:=dgW width) (F:=F) (W:=w4) HB4.out HT4.out (.int .i64 (width:Int)) (.pointer v4) (.int .u64 (xa:Int)) (.int .u8 (xo:Int))
    refine bodyPost_ret (v:=.tuple #[.agg #[.int .i64 (width:Int),.pointer v4],.agg #[.int .u64 (xa:Int),.int .u8 (xo:Int)],.nilIface]) (results_cell2_tmp Tryz.results284 _ _ (w.heap.size+1+1) (w.heap.size+1+1+1) _ _ _ _ (0,0) (0,0) _ _ rfl q1 Tryz.underlying146 rfl (by kernel_rfl) rfl q2 Tryz.underlying80 rfl (by kernel_rfl)) rfl ⟨q3.trans (Tch.drewN (λ_=>False) _ 1) noE,?_⟩
    rw [HWO.out,HX.out]
    refine ⟨q4,?_,(q5 _ _ HQ4.out).next (Tch.drewN (λ_=>False) _ 1)⟩
    rw [treeV,HV4.out]
  ·have hne:(nb.toList == kb.toList)=false:=by
    rw [ByteArray.toList_eq,ByteArray.toList_eq,hnl,hkl2]
    simpa using heq
   have hne2:(nb.toList != kb.toList)=true:=by rw [bne,hne];rfl
   have HWO:Hid (withoutT (some t) (coinB (cs,cn))=.error .input):=if_neg heq
   clear hnl hkl2 heq hm2 hm3
   go_wp2
   go_region
   all_goals
    go_wp2
    obtain ⟨q1,q2,q3,_⟩:=out_stored (d:=dgW width) (F:=F) (W:=w3.drew) (HB3.out.next (Tch.drewN (λ_=>False) w3 1)) (HT3.out.trans (Tch.drewN (λ_=>False) w3 1) noE) (.int .i64 0) (.pointer none) (.int .u64 0) (.int .u8 0)
    refine bodyPost_ret (v:=.tuple #[.agg #[.int .i64 0,.pointer none],.agg #[.int .u64 0,.int .u8 0],eV E 1]) (results_cell2_tmp Tryz.results284 _ _ (w.heap.size+1+1) (w.heap.size+1+1+1) _ _ _ _ (0,0) (0,0) _ _ rfl q1 Tryz.underlying146 rfl (by kernel_rfl) rfl q2 Tryz.underlying80 rfl (by kernel_rfl)) rfl ⟨q3,?_⟩
    rw [HWO.out];rfl
end Go.Proofs.YtighkdnooglfjaaGreatDoor
