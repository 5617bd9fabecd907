/-
  What trees may be is kept; receive's step.
  The contract of chain.receive.
  The contract of chain.spend.
-/
import Derived.Test.YtighkdnooglfjaaGreatDoorSwTree9
import Derived.Test.YtighkdnooglfjaaGreatDoorSwPBook
import Derived.Test.YtighkdnooglfjaaGreatDoorSwLsO
import Derived.Test.YtighkdnooglfjaaGreatDoorSwLsC
import Derived.Test.YtighkdnooglfjaaGreatDoorSwLsT
import Derived.Test.YtighkdnooglfjaaGreatDoorSwCoinS
import Derived.Test.YtighkdnooglfjaaGreatDoorSwIds2
import Derived.Test.YtighkdnooglfjaaGreatDoorSwTotal
namespace Go.Proofs.YtighkdnooglfjaaGreatDoor
open Go.RowKit

theorem Tch.go {S:Nat->Prop} {a b c:World} (h:Tch S a b) (k:Tch (λ_=>False) b c):Tch S a c:=h.trans k noE
theorem Tch.dr {S:Nat->Prop} {a b:World} (h:Tch S a b) (n:Nat):Tch S a (b.drewN n):=h.go (Tch.drewN _ _ _)
theorem TrOk.pair {width:Nat} {n one:Tr} {b a:Nat} (h1:TrOk width n) (h2:TrOk width one) (hb:b<8 * (width+1)):TrOk width (Tr.pair n one b a):=by
 unfold Tr.pair
 split
 ·exact ⟨hb,h2,h1⟩
 ·exact ⟨hb,h1,h2⟩
theorem TrOk.graft {width:Nat} {t:Tr} {k:Key} {o:Nat×Nat} {d:Nat} (h:TrOk width t) (hl:TrOk width (.leaf k o)) (hd:d<8 * (width+1)):TrOk width (t.graft k o d):=by
 induction t with
 | leaf k' o'=>exact TrOk.pair h hl hd
 | br b l r ihl ihr=>
  unfold Tr.graft
  split
  ·exact TrOk.pair h hl hd
  ·split
   ·exact ⟨h.1,ihl h.2.1,h.2.2⟩
   ·exact ⟨h.1,h.2.1,ihr h.2.2⟩
theorem TrOk.cut {width:Nat} {t:Tr} {k:Key} (h:TrOk width t):StOk width (t.cut k):=by
 induction t with
 | leaf k' o'=>exact trivial
 | br b l r ihl ihr=>
  unfold Tr.cut
  split
  ·have:=ihl h.2.1
   split
   ·exact h.2.2
   ·rename_i l' hl';rw [hl'] at this;exact ⟨h.1,this,h.2.2⟩
  ·have:=ihr h.2.2
   split
   ·exact h.2.1
   ·rename_i l' hl';rw [hl'] at this;exact ⟨h.1,h.2.1,this⟩
theorem TrOk.nearO {width:Nat} {t:Tr} {k:Key} (h:TrOk width t):OutOk (t.near k).2:=by
 induction t with
 | leaf k' o=>exact h.2.2
 | br b l r ihl ihr=>
  unfold Tr.near
  split
  ·exact ihl h.2.1
  ·exact ihr h.2.2
theorem StOk.with {width:Nat} {st st':Option Tr} {c:ByteArray×Int} {o:Nat×Nat} (h:StOk width st) (hc:CoinOk width c) (ho:OutOk o) (e:withT st (coinB c) o=.ok st'):StOk width st':=by
 have hkl:(coinB c).length=width+1:=coinB_len hc
 have hlf:TrOk width (.leaf (coinB c) o):=coin_leaf hc ho
 cases st with
 | none=>cases e;exact hlf
 | some t=>
  unfold withT at e
  simp only at e
  split at e
  ·cases e
  ·rename_i hne
   cases e
   have hnl:(t.near (coinB c)).1.length=width+1:=TrOk.near h
   have:=(fd_ok (t.near (coinB c)).1 (coinB c) (by omega) hne).1
   exact TrOk.graft h hlf (by omega)
theorem StOk.without {width:Nat} {st st':Option Tr} {k:Key} {o:Nat×Nat} (h:StOk width st) (e:withoutT st k=.ok (st',o)):StOk width st'/\OutOk o:=by
 cases st with
 | none=>cases e
 | some t=>
  unfold withoutT at e
  simp only at e
  split at e
  ·cases e
   exact ⟨TrOk.cut h,TrOk.nearO h⟩
  ·cases e
structure RcvBox (w:World) (N width:Nat) (q:Option Nat) (id:ByteArray):Prop where
 s:w.heap[N]? =some (.cells #[.int .i64 (width:Int),rootV q] 146)
 i:w.heap[N+1]? =some (.cells #[.string id] 9)
theorem RcvBox.next {w w':World} {N width:Nat} {q:Option Nat} {id:ByteArray} (h:RcvBox w N width q id) (k:Tch (λ_=>False) w w'):RcvBox w' N width q id:=
 ⟨(k.block _ (row_lt h.s) (λh=>h)).trans h.s,(k.block _ (row_lt h.i) (λh=>h)).trans h.i⟩
theorem RcvBox.put {w W:World} {N width:Nat} {q:Option Nat} {id:ByteArray} (h:RcvBox W N width q id) (hT:Tch (λ_=>False) w W) (width':Int) (q':Option Nat) (v':Option Addr) (hv:rootV q'=.pointer v'):
  Tch (λk=>k=N) w ((W.setCell ⟨N,0,none⟩ (.int .i64 width')).setCell ⟨N,1,none⟩ (.pointer v'))/\
  ((W.setCell ⟨N,0,none⟩ (.int .i64 width')).setCell ⟨N,1,none⟩ (.pointer v')).heap[N]? =some (.cells #[.int .i64 width',rootV q'] 146)/\
  ((W.setCell ⟨N,0,none⟩ (.int .i64 width')).setCell ⟨N,1,none⟩ (.pointer v')).heap[N+1]? =some (.cells #[.string id] 9)/\
  ∀d F q' st',StAt d F W q' st'->StAt d F ((W.setCell ⟨N,0,none⟩ (.int .i64 width')).setCell ⟨N,1,none⟩ (.pointer v')) q' st':=by
 rw [set2 W N _ _ _ _ _ h.s,hv]
 have t1:=Tch.setRow W N #[.int .i64 width',.pointer v']
 exact ⟨(hT.mono (S':=λk=>k=N) noE).trans t1 (λj hj=>.inl hj),setRow_heap _ _ _ _ _ _ h.s,(t1.block _ (row_lt h.i) (by omega)).trans h.i,λd F q' st' hs=>hs.row h.s (by decide)⟩
def RcvTo (E:Nat->Addr) (width:Nat) (F:Nat->Prop) (N:Nat) (id:ByteArray) (r:Except Er (Option Tr)) (e:Ending) (w':World):Prop:=match r with
 | .ok st'=>∃q',e=.returned .nilIface/\RcvBox w' N width q' id/\StAt (dgW width) F w' q' st'
 | .error _=>e=.returned (eV E 2)/\RcvBox w' N 0 none id
set_option maxRecDepth 100000 in
set_option maxHeartbeats 1000000 in
theorem receiveStep (E:Nat->Addr) (width:Nat) (hw1:1<=width) (hw:width<=32) (F:Nat->Prop) (N:Nat) (q:Option Nat) (st:Option Tr) (id:ByteArray) (i:Nat) (hc:CoinOk width (id,(i:Int))) (o:Nat×Nat) (ho:OutOk o) (w:World) (hE:Env E w) (hF:∀j,w.heap.size<=j->F j) (hB:RcvBox w N width q id) (hs:StAt (dgW width) F w q st) (hok:StOk width st):
  Calls Tryz.prog 190 #[.int .i64 (i:Int),.agg #[.int .u64 (o.1:Int),.int .u8 (o.2:Int)],.pointer (some ⟨N,0,none⟩),.pointer (some ⟨N+1,0,none⟩)] w λe w'=>Tch (λk=>k=N) w w'/\RcvTo E width F N id (withT st (coinB (id,(i:Int))) o) e w':=by
 have HW:Hid (∀W,Tch (λ_=>False) w W->Calls Tryz.prog 191 #[treeV width q,.agg #[.string id,.int .i64 (i:Int)],.agg #[.int .u64 (o.1:Int),.int .u8 (o.2:Int)]] W λe w'=>Tch (λ_=>False) W w'/\WithTo E width F (withT st (coinB (id,(i:Int))) o) e w'):=λW hT=>
  with_any E width hw1 hw F q st (id,(i:Int)) hc o ho W (hE.tch hT noE) (λj hj=>hF j (Nat.le_trans hT.size hj)) (hs.next hT) hok
 have HBX:Hid (RcvBox w N width q id):=hB
 obtain ⟨rv,hrv⟩:∃rv,rootV q=.pointer rv:=⟨_,rfl⟩
 have hNb:N+1<w.heap.size:=(row_lt hB.i)
 have hNs:N<w.heap.size:=by omega
 have a0:w.cell? ⟨N,0,none⟩=some (.int .i64 (width:Int)):=cell_row hB.s
 have a1:w.cell? ⟨N,1,none⟩=some (.pointer rv):=by rw [<-hrv];exact cell_row hB.s
 have a2:w.cell? ⟨N+1,0,none⟩=some (.string id):=cell_row hB.i
 have HRV:Hid (rootV q=.pointer rv):=hrv
 unfold treeV at HW
 rw [hrv] at HW
 generalize hR:withT st (coinB (id,(i:Int))) o=R at *
 clear hE hF hB hs hok hrv hc ho
 obtain ⟨oa,oo⟩:=o
 dsimp only at HW ⊢
 have HTA:Hid (∀k,Tch (λ_=>False) w ((w.alloc (.cells #[.int .u64 (oa:Int),.int .u8 (oo:Int)] 80)).drewN k)):=λk=>(Tch.alloc _ _ _).dr k
 go_enter Tryz.func190,Tryz.ntmps190
 go_wp2_with fail
 refine (HW.out _ (HTA.out 0)).mono ?_
 have HR:Hid (_=R):=hR
 clear hR HW a0 a1 a2
 cases R with
 | ok st'=>
  rintro _ w2 ⟨ht2,q2,rfl,hs2⟩
  have hT:Tch (λ_=>False) w w2:=(HTA.out 0).go ht2
  have b2:=HBX.out.next hT
  have HB2:Hid (RcvBox w2 N width q id):=b2
  have c0:w2.cell? ⟨N,0,none⟩=some (.int .i64 (width:Int)):=cell_row b2.s
  have c1:w2.cell? ⟨N,1,none⟩=some (.pointer rv):=by rw [<-HRV.out];exact cell_row b2.s
  have fN:∀j,w2.frozen? ⟨N,j,none⟩=false:=λj=>frozen_of_row _ _ _ _ _ b2.s
  have HT:Hid (Tch (λ_=>False) w w2):=hT
  have HS2:Hid (StAt (dgW width) F w2 q2 st'):=hs2
  clear hT ht2 hs2 b2 HTA
  unfold treeV
  obtain ⟨v2,hv2⟩:∃v,rootV q2=.pointer v:=⟨_,rfl⟩
  rw [hv2]
  have HV2:Hid (rootV q2=.pointer v2):=hv2
  clear hv2
  go_wp2
  go_ret
  obtain ⟨p1,p2,p3,p4⟩:=HB2.out.put HT.out width q2 v2 HV2.out
  exact ⟨p1,q2,rfl,⟨p2,p3⟩,p4 _ _ _ _ HS2.out⟩
 | error er=>
  rintro _ w2 ⟨ht2,rfl⟩
  have hT:Tch (λ_=>False) w w2:=(HTA.out 0).go ht2
  have b2:=HBX.out.next hT
  have HB2:Hid (RcvBox w2 N width q id):=b2
  have c0:w2.cell? ⟨N,0,none⟩=some (.int .i64 (width:Int)):=cell_row b2.s
  have c1:w2.cell? ⟨N,1,none⟩=some (.pointer rv):=by rw [<-HRV.out];exact cell_row b2.s
  have fN:∀j,w2.frozen? ⟨N,j,none⟩=false:=λj=>frozen_of_row _ _ _ _ _ b2.s
  have HT:Hid (Tch (λ_=>False) w w2):=hT
  clear hT ht2 b2 HTA
  go_wp2
  go_ret
  obtain ⟨p1,p2,p3,p4⟩:=HB2.out.put HT.out 0 none none rfl
  exact ⟨p1,rfl,p2,p3⟩
end Go.Proofs.YtighkdnooglfjaaGreatDoor
namespace Go.Proofs.YtighkdnooglfjaaGreatDoor
open Go.RowKit

def erG:Er->Nat
 | .form=>7
 | .tip=>0
 | .input=>1
 | .exist=>2
 | .sum=>3
 | .root=>4
 | .range=>5
theorem withT_err {st:Option Tr} {k:Key} {o:Nat×Nat} {er:Er} (h:withT st k o=.error er):er=.exist:=by
 unfold withT at h
 split at h
 ·cases h
 ·split at h
  ·cases h;rfl
  ·cases h
theorem withoutT_err {st:Option Tr} {k:Key} {er:Er} (h:withoutT st k=.error er):er=.input:=by
 unfold withoutT at h
 split at h
 ·cases h;rfl
 ·split at h
  ·cases h
  ·cases h;rfl
set_option maxRecDepth 100000 in
theorem eachO_nil (fv:Value) (what:ByteArray) (w:World):Calls Tryz.prog 189 #[.string what,.slice none 0 0,fv] w λe w'=>e=.returned .nilIface/\w=w':=by
 go_enter Tryz.func189,Tryz.ntmps189
 go_wp2
 go_loopw [12] (λi wr=>i=.int .i64 0/\w=wr) (λi _=>0)
 case atStart=>exact ⟨rfl,rfl⟩
 case round=>
  obtain ⟨rfl,rfl⟩:=hrel
  go_wp2
  go_ret
  exact ⟨rfl,rfl⟩
theorem receiveT_step (id:ByteArray) (i:Nat) (outs:List (Nat×Nat)) (h:i<outs.length) (st:Option Tr):receiveT id i (outs.drop i) st=match withT st (coinB (id,(i:Int))) outs[i] with
  | .error e=>.error e
  | .ok st1=>receiveT id (i+1) (outs.drop (i+1)) st1:=by
 rw [List.drop_eq_getElem_cons h]
 rfl
theorem tree_put {S:Nat->Prop} {w W:World} {g:Nat} {a b:Value} (h:W.heap[g]? =some (.cells #[a,b] 146)) (hT:Tch S w W) (hg:w.heap.size<=g) (v0 v1:Value):
  ((W.setCell ⟨g,0,none⟩ v0).setCell ⟨g,1,none⟩ v1).heap[g]? =some (.cells #[v0,v1] 146)/\Tch S w ((W.setCell ⟨g,0,none⟩ v0).setCell ⟨g,1,none⟩ v1)/\
  (∀d F q' st',StAt d F W q' st'->StAt d F ((W.setCell ⟨g,0,none⟩ v0).setCell ⟨g,1,none⟩ v1) q' st')/\∀E k v,ErrIs E k W v->ErrIs E k ((W.setCell ⟨g,0,none⟩ v0).setCell ⟨g,1,none⟩ v1) v:=by
 rw [set2 W g _ _ _ _ _ h]
 have t1:=Tch.setRow W g #[v0,v1]
 refine ⟨setRow_heap _ _ _ _ _ _ h,hT.trans t1 (λj hj=>.inr (by omega)),λd F q' st' hs=>hs.row h (by decide),λE k v he=>he.tch t1 ?_⟩
 rintro p s u hp rfl
 rw [h] at hp
 injection hp with hp
 injection hp with _ h2
 exact absurd h2 (by decide)
structure RcvInv (width:Nat) (F:Nat->Prop) (id:ByteArray) (outs:List (Nat×Nat)) (R:Except Er (Option Tr)) (w0:World) (N:Nat) (i:Nat) (w:World) (q:Option Nat) (st:Option Tr):Prop where
 box:RcvBox w N width q id
 at_:StAt (dgW width) F w q st
 ok:StOk width st
 eq:receiveT id i (outs.drop i) st=R
 tch:Tch (λk=>k=N) w0 w
def RcvBad (E:Nat->Addr) (id:ByteArray) (R:Except Er (Option Tr)) (w0:World) (N:Nat) (v:Value) (w:World):Prop:=v=eV E 2/\R=.error .exist/\RcvBox w N 0 none id/\Tch (λk=>k=N) w0 w
set_option maxRecDepth 100000 in
theorem receive_stepV (E:Nat->Addr) (width:Nat) (hw1:1<=width) (hw:width<=32) (F:Nat->Prop) (id:ByteArray) (hid:id.size=width) (outs:List (Nat×Nat)) (ho:∀o∈outs,OutOk o) (h3:outs.length<=3) (R:Except Er (Option Tr)) (w0:World) (hE:Env E w0) (hF:∀j,w0.heap.size<=j->F j) (N:Nat) (hN:18<=N) (g off:Nat) (hg:g<N) (hz:g<w0.heap.size)
  (hr:∀i (h:i<outs.length),w0.cell? ⟨g,off+i * 2,none⟩=some (.int .u64 ((outs[i].1:Nat):Int))/\w0.cell? ⟨g,off+i * 2+1,none⟩=some (.int .u8 ((outs[i].2:Nat):Int))):
  StepV 190 #[.pointer (some ⟨N,0,none⟩),.pointer (some ⟨N+1,0,none⟩)] g off outs.length (λi=>(outs.map encO).getD i zO) (λi w=>∃q st,RcvInv width F id outs R w0 N i w q st) (RcvBad E id R w0 N):=by
 have hx:∀i (h:i<outs.length),(outs.map encO).getD i zO=encO outs[i]:=λi h=>by simp [List.getD_eq_getElem?_getD,h]
 refine ⟨λ_ _=>rfl,?_,?_,?_⟩
 ·rintro i w hi ⟨q,st,I⟩
  rw [hx i hi]
  have hc:∀o,w.cell? ⟨g,o,none⟩=w0.cell? ⟨g,o,none⟩:=λo=>I.tch.cell (p:=⟨g,o,none⟩) hz (by show ¬g=N;omega)
  rw [hc,hc]
  exact hr i hi
 ·rintro i w o ⟨q,st,I⟩
  have ha:=Tch.alloc (λ_=>False) w o
  exact ⟨q,st,I.box.next ha,I.at_.next ha,I.ok,I.eq,I.tch.go ha⟩
 ·rintro i w hi ⟨q,st,I⟩
  rw [hx i hi]
  have hco:CoinOk width (id,(i:Int)):=⟨hid,by omega,by show (i:Int)<3;omega⟩
  have hoo:OutOk outs[i]:=ho _ (List.getElem_mem hi)
  refine (receiveStep E width hw1 hw F N q st id i hco outs[i] hoo w (hE.tch I.tch (λj hj=>by subst hj;exact hN)) (λj hj=>hF j (Nat.le_trans I.tch.size hj)) I.box I.at_ I.ok).mono ?_
  rintro e w' ⟨ht,hr⟩
  have e1:=I.eq
  rw [receiveT_step id i outs hi] at e1
  have hT:Tch (λk=>k=N) w0 w':=I.tch.trans ht (λj hj=>.inl hj)
  cases hres:withT st (coinB (id,(i:Int))) outs[i] with
  | ok st'=>
   rw [hres] at hr e1
   obtain ⟨q',rfl,hb,hs⟩:=hr
   exact .inl ⟨rfl,q',st',hb,hs,I.ok.with hco hoo hres,e1,hT⟩
  | error er=>
   rw [hres] at hr e1
   obtain ⟨rfl,hb⟩:=hr
   have:=withT_err hres
   subst this
   exact .inr ⟨_,_,rfl,rfl,e1.symm,hb,hT⟩
def RecTo (E:Nat->Addr) (width:Nat) (F:Nat->Prop) (r:Except Er (Option Tr)) (e:Ending) (w':World):Prop:=match r with
 | .ok st'=>∃q',e=.returned (.tuple #[treeV width q',.nilIface])/\StAt (dgW width) F w' q' st'/\StOk width st'
 | .error er=>∃v,e=.returned (.tuple #[treeV 0 none,v])/\ErrIs E (erG er) w' v/\er=.exist
set_option maxRecDepth 100000 in
set_option maxHeartbeats 1000000 in
theorem receive_any (E:Nat->Addr) (width:Nat) (hw1:1<=width) (hw:width<=32) (F:Nat->Prop) (q:Option Nat) (st:Option Tr) (id:ByteArray) (hid:id.size=width) (v:Value) (outs:List (Nat×Nat)) (ho:∀o∈outs,OutOk o) (h3:outs.length<=3) (w:World) (hE:Env E w) (hF:∀j,w.heap.size<=j->F j) (hv:OutsAt w.heap.size w v outs) (hs:StAt (dgW width) F w q st) (hok:StOk width st):
  Calls Tryz.prog 126 #[treeV width q,.string id,v] w λe w'=>Tch (λ_=>False) w w'/\RecTo E width F (receiveT id 0 outs st) e w':=by
 obtain ⟨rv,hrv⟩:∃rv,rootV q=.pointer rv:=⟨_,rfl⟩
 obtain ⟨W,hW⟩:∃W,W=((w.alloc (.cells #[.int .i64 (width:Int),.pointer rv] 146)).alloc (.cells #[.string id] 9)).alloc (.cells #[.int .i64 0,.pointer none] 146):=⟨_,rfl⟩
 have hA:Tch (λ_=>False) w W:=by rw [hW];exact Tch.allocs3 _ _ _ _ _
 have hbx:RcvBox W w.heap.size width q id:=by rw [hW,hrv.symm];exact ⟨heap_alloc3_0 _ _ _ _,heap_alloc3_1 _ _ _ _⟩
 have hro:W.heap[w.heap.size+1+1]? =some (.cells #[.int .i64 0,.pointer none] 146):=by rw [hW];exact heap_alloc3_2 _ _ _ _
 generalize hR:receiveT id 0 outs st=R
 have hEW:=hE.tch hA noE
 have hi0:RcvInv width F id outs R W w.heap.size 0 W q st:=⟨hbx,hs.next hA,hok,hR,Tch.refl _ _⟩
 have HEA:Hid (∀what:ByteArray,what.size<=1000->Calls Tryz.prog 189 #[.string what,v,.func (.func 190) #[] #[.pointer (some ⟨w.heap.size,0,none⟩),.pointer (some ⟨w.heap.size+1,0,none⟩)]] W λe w'=>ToE (λi w'=>∃q st,RcvInv width F id outs R W w.heap.size i w' q st) (RcvBad E id R W w.heap.size) outs.length e w'):=λwhat hwh=>by
  rcases hv with ⟨rfl,rfl⟩ | ⟨gi,oi,c,rfl,h1,h2,h3'⟩
  ·refine (eachO_nil _ _ _).mono ?_
   rintro _ _ ⟨rfl,rfl⟩
   exact .inl ⟨rfl,q,st,hi0⟩
  ·refine eachO _ _ _ _ _ _ _ _ (λi hi=>?_) _ _ (receive_stepV E width hw1 hw F id hid outs ho h3 R W hEW (λj hj=>hF j (Nat.le_trans hA.size hj)) w.heap.size hE.size gi oi h1 (Nat.lt_of_lt_of_le h2 hA.size) (λi hi=>?_)) h3 hwh W ⟨q,st,hi0⟩
   ·simp only [List.getD_eq_getElem?_getD,List.getElem?_map,List.getElem?_eq_getElem hi];exact ⟨_,_,rfl⟩
   ·have hc:∀o,W.cell? ⟨gi,o,none⟩=w.cell? ⟨gi,o,none⟩:=λo=>hA.cell (p:=⟨gi,o,none⟩) h2 (λh=>h)
    rw [hc,hc];exact h3' i hi
 obtain ⟨ia,ic,hvs⟩:=hv.shape
 have HRV:Hid (rootV q=.pointer rv):=hrv
 have HRO:Hid (W.heap[w.heap.size+1+1]? =_):=hro
 have HA:Hid (Tch (λ_=>False) w W):=hA
 have hmf:∀(fn:Fn) (first cap:Array Value) (w:World),(Instr.makeFunc fn first cap).run Tryz.prog w=.ok (.func fn first cap) w:=λ_ _ _ _=>rfl
 have HW:Hid (W=_):=hW
 subst hvs
 unfold treeV
 rw [hrv]
 clear hE hF hv hs hok hrv hro hA hi0 hEW hbx hW ho h3 hid hR
 go_enter Tryz.func126,Tryz.ntmps126
 go_wp2_with fail
 rw [<-HW.out]
 refine (HEA.out _ (by decide)).mono ?_
 rintro e w2 (⟨rfl,q2,st2,I⟩ | ⟨p,sx,vx,w1,rfl,hp,⟨rfl,hR,hb,ht⟩,hbl⟩)
 ·have hsR:=(row_lt HRO.out)
  have hr2:w2.heap[w.heap.size+1+1]? =some (.cells #[.int .i64 0,.pointer none] 146):=(I.tch.block _ hsR (by omega)).trans HRO.out
  obtain ⟨v2,hv2⟩:∃v,rootV q2=.pointer v:=⟨_,rfl⟩
  have c0:w2.cell? ⟨w.heap.size,0,none⟩=some (.int .i64 (width:Int)):=cell_row I.box.s
  have c1:w2.cell? ⟨w.heap.size,1,none⟩=some (.pointer v2):=by rw [<-hv2];exact cell_row I.box.s
  have r0:w2.cell? ⟨w.heap.size+1+1,0,none⟩=some (.int .i64 0):=cell_row hr2
  have r1:w2.cell? ⟨w.heap.size+1+1,1,none⟩=some (.pointer none):=cell_row hr2
  have fR:∀j,w2.frozen? ⟨w.heap.size+1+1,j,none⟩=false:=λj=>frozen_of_row _ _ _ _ _ hr2
  have HR2:Hid (w2.heap[w.heap.size+1+1]? =_):=hr2
  have HI:Hid (RcvInv width F id outs R W w.heap.size outs.length w2 q2 st2):=I
  have HV2:Hid (rootV q2=.pointer v2):=hv2
  have hz2:w.heap.size+1+1<w2.heap.size:=(row_lt hr2)
  clear I hr2 hv2 HEA hsR
  go_wp2
  obtain ⟨p1,p2,p3,_⟩:=tree_put HR2.out ((HA.out.trans HI.out.tch (λj hj=>.inr (by omega))):Tch (λ_=>False) w w2) (by omega) (.int .i64 (width:Int)) (.pointer v2)
  refine bodyPost_ret (v:=.tuple #[.agg #[.int .i64 (width:Int),.pointer v2],.nilIface]) (results_cell_tmp Tryz.results126 _ _ (w.heap.size+1+1) _ _ (0,0) _ rfl p1 Tryz.underlying146 rfl (by kernel_rfl)) rfl ⟨p2,?_⟩
  have e1:=HI.out.eq
  rw [List.drop_length] at e1
  rw [<-e1]
  exact ⟨q2,by rw [treeV,HV2.out],p3 _ _ _ _ HI.out.at_,HI.out.ok⟩
 ·have hsR:=(row_lt HRO.out)
  have hr1:w1.heap[w.heap.size+1+1]? =some (.cells #[.int .i64 0,.pointer none] 146):=(ht.block _ hsR (by omega)).trans HRO.out
  have hz1:=(row_lt hr1)
  have hr2:w2.heap[w.heap.size+1+1]? =some (.cells #[.int .i64 0,.pointer none] 146):=(hbl.block _ hz1).trans hr1
  have hs2:w2.heap[w.heap.size]? =some (.cells #[.int .i64 0,.pointer none] 146):=(hbl.block _ (row_lt hb.s)).trans hb.s
  have hz2:w.heap.size+1+1<w2.heap.size:=(row_lt hr2)
  have c0:w2.cell? ⟨w.heap.size,0,none⟩=some (.int .i64 0):=cell_row hs2
  have c1:w2.cell? ⟨w.heap.size,1,none⟩=some (.pointer none):=cell_row hs2
  have r0:w2.cell? ⟨w.heap.size+1+1,0,none⟩=some (.int .i64 0):=cell_row hr2
  have r1:w2.cell? ⟨w.heap.size+1+1,1,none⟩=some (.pointer none):=cell_row hr2
  have fR:∀j,w2.frozen? ⟨w.heap.size+1+1,j,none⟩=false:=λj=>frozen_of_row _ _ _ _ _ hr2
  have HR2:Hid (w2.heap[w.heap.size+1+1]? =_):=hr2
  have HT2:Hid (Tch (λk=>k=w.heap.size) W w2):=ht.trans (Tch.of_below hbl) (λj hj=>.inr (Nat.le_trans ht.size hj))
  have HP:Hid (w2.heap[p]? =_):=hp
  have HR:Hid (R=_):=hR
  clear hr1 hr2 hs2 hbl ht hb hp hR HEA hsR hz1
  go_wp2
  obtain ⟨p1,p2,p3,p4⟩:=tree_put HR2.out ((HA.out.trans HT2.out (λj hj=>.inr (by omega))):Tch (λ_=>False) w w2) (by omega) (.int .i64 0) (.pointer none)
  refine bodyPost_ret (v:=.tuple #[.agg #[.int .i64 0,.pointer none],.iface 235 (.pointer (some ⟨p,0,none⟩))]) (results_cell_tmp Tryz.results126 _ _ (w.heap.size+1+1) _ _ (0,0) _ rfl p1 Tryz.underlying146 rfl (by kernel_rfl)) rfl ⟨p2,?_⟩
  rw [HR.out]
  exact ⟨_,rfl,p4 _ _ _ (.wrap p _ _ HP.out .base),rfl⟩
end Go.Proofs.YtighkdnooglfjaaGreatDoor
namespace Go.Proofs.YtighkdnooglfjaaGreatDoor
open Go.RowKit

structure SpBox (w:World) (N width:Nat) (q:Option Nat) (M G n:Nat) (sp:List VV):Prop where
 s:w.heap[N]? =some (.cells #[.int .i64 (width:Int),rootV q] 146)
 m:w.heap[M]? =some (.cells #[.slice (some ⟨G,0,none⟩) n n] 22)
 g:w.heap[G]? =some (.cells (vvA sp) 80)
 len:sp.length=n
theorem SpBox.next {w w':World} {N width:Nat} {q:Option Nat} {M G n:Nat} {sp:List VV} (h:SpBox w N width q M G n sp) (k:Tch (λ_=>False) w w'):SpBox w' N width q M G n sp:=
 ⟨(k.block _ (row_lt h.s) (λh=>h)).trans h.s,(k.block _ (row_lt h.m) (λh=>h)).trans h.m,(k.block _ (row_lt h.g) (λh=>h)).trans h.g,h.len⟩
theorem SpBox.cells {w:World} {N width:Nat} {q:Option Nat} {M G n:Nat} {sp:List VV} (h:SpBox w N width q M G n sp) (rv:Option Addr) (hrv:rootV q=.pointer rv) (i:Nat) (hi:i<n):w.cell? ⟨N,0,none⟩=some (.int .i64 (width:Int))/\w.cell? ⟨N,1,none⟩=some (.pointer rv)/\w.cell? ⟨M,0,none⟩=some (.slice (some ⟨G,0,none⟩) n n)/\
  (∃x0 y0,w.cell? ⟨G,i * 2,none⟩=some x0/\w.cell? ⟨G,i * 2+1,none⟩=some y0)/\(∀j,w.frozen? ⟨N,j,none⟩=false)/\(∀j,w.frozen? ⟨G,j,none⟩=false):=by
 refine ⟨cell_row h.s,?_,cell_row h.m,?_,λj=>frozen_of_row _ _ _ _ _ h.s,λj=>frozen_of_row _ _ _ _ _ h.g⟩
 ·rw [<-hrv];exact cell_row h.s
 ·obtain ⟨e0,e1⟩:=vvA_get sp i (by rw [h.len];exact hi)
  exact ⟨_,_,(cell_row h.g).trans e0,(cell_row h.g).trans e1⟩
theorem SpBox.apart {w:World} {N width:Nat} {q:Option Nat} {M G n:Nat} {sp:List VV} (h:SpBox w N width q M G n sp):N ≠ G/\M ≠ G/\N ≠ M:=by
 have h1:=h.s
 have h2:=h.m
 have h3:=h.g
 refine ⟨?_,?_,?_⟩
 ·rintro rfl;rw [h1] at h3;simp at h3
 ·rintro rfl;rw [h2] at h3;simp at h3
 ·rintro rfl;rw [h1] at h2;simp at h2
theorem SpBox.put {w W:World} {N width:Nat} {q:Option Nat} {M G n:Nat} {sp:List VV} (h:SpBox W N width q M G n sp) (hT:Tch (λ_=>False) w W) (i:Nat) (hi:i<n) (width':Nat) (q':Option Nat) (v':Option Addr) (hv:rootV q'=.pointer v') (a o:Value):
  Tch (λk=>k=N\/k=G) w ((((W.setCell ⟨N,0,none⟩ (.int .i64 (width':Int))).setCell ⟨N,1,none⟩ (.pointer v')).setCell ⟨G,i * 2,none⟩ a).setCell ⟨G,i * 2+1,none⟩ o)/\
  SpBox ((((W.setCell ⟨N,0,none⟩ (.int .i64 (width':Int))).setCell ⟨N,1,none⟩ (.pointer v')).setCell ⟨G,i * 2,none⟩ a).setCell ⟨G,i * 2+1,none⟩ o) N width' q' M G n (sp.set i (a,o))/\
  ∀d F q' st',StAt d F W q' st'->StAt d F ((((W.setCell ⟨N,0,none⟩ (.int .i64 (width':Int))).setCell ⟨N,1,none⟩ (.pointer v')).setCell ⟨G,i * 2,none⟩ a).setCell ⟨G,i * 2+1,none⟩ o) q' st':=by
 obtain ⟨hNG,hMG,hNM⟩:=h.apart
 rw [set2 W N _ _ _ _ _ h.s]
 have t1:=Tch.setRow W N #[.int .i64 (width':Int),.pointer v']
 have g1:(W.setRow N #[.int .i64 (width':Int),.pointer v']).heap[G]? =some (.cells (vvA sp) 80):=(t1.block _ (row_lt h.g) (by omega)).trans h.g
 have m1:(W.setRow N #[.int .i64 (width':Int),.pointer v']).heap[M]? =some (.cells #[.slice (some ⟨G,0,none⟩) n n] 22):=(t1.block _ (row_lt h.m) (by omega)).trans h.m
 have s1:(W.setRow N #[.int .i64 (width':Int),.pointer v']).heap[N]? =some (.cells #[.int .i64 (width':Int),.pointer v'] 146):=setRow_heap _ _ _ _ _ _ h.s
 have k1:∀d F q' st',StAt d F W q' st'->StAt d F (W.setRow N #[.int .i64 (width':Int),.pointer v']) q' st':=λd F q' st' hs=>hs.row h.s (by decide)
 have T1:Tch (λk=>k=N\/k=G) w (W.setRow N #[.int .i64 (width':Int),.pointer v']):=(hT.mono noE).trans t1 (λj hj=>.inl (.inl hj))
 generalize W.setRow N #[.int .i64 (width':Int),.pointer v']=W1 at *
 rw [setCell_eq_setRow W1 G (i * 2) _ _ (0,0) _ g1,setCell_eq_setRow _ G (i * 2+1) _ _ (0,0) _ (setRow_heap _ _ _ _ _ _ g1),setRow_setRow,vvA_set sp i a o (by rw [h.len];exact hi)]
 have t2:=Tch.setRow W1 G (vvA (sp.set i (a,o)))
 refine ⟨T1.trans t2 (λj hj=>.inl (.inr hj)),⟨?_,(t2.block _ (row_lt m1) (by omega)).trans m1,setRow_heap _ _ _ _ _ _ g1,by rw [List.length_set];exact h.len⟩,λd F q' st' hs=>(k1 _ _ _ _ hs).row g1 (by decide)⟩
 rw [hv]
 exact (t2.block _ (row_lt s1) (by omega)).trans s1
def SpTo (E:Nat->Addr) (width:Nat) (F:Nat->Prop) (N M G n i:Nat) (sp:List VV) (r:Except Er (Option Tr×(Nat×Nat))) (e:Ending) (w':World):Prop:=match r with
 | .ok (st',o)=>∃q',e=.returned .nilIface/\SpBox w' N width q' M G n (sp.set i (encO o))/\StAt (dgW width) F w' q' st'
 | .error _=>e=.returned (eV E 1)/\SpBox w' N 0 none M G n (sp.set i zO)
set_option maxRecDepth 100000 in
set_option maxHeartbeats 1000000 in
theorem spendStep (E:Nat->Addr) (width:Nat) (hw1:1<=width) (hw:width<=32) (F:Nat->Prop) (N:Nat) (q:Option Nat) (st:Option Tr) (M G n:Nat) (sp:List VV) (i:Nat) (hi:i<n) (c:ByteArray×Int) (hc:CoinOk width c) (w:World) (hE:Env E w) (hF:∀j,w.heap.size<=j->F j) (hB:SpBox w N width q M G n sp) (hs:StAt (dgW width) F w q st) (hok:StOk width st):
  Calls Tryz.prog 283 #[.int .i64 (i:Int),.agg #[.string c.1,.int .i64 c.2],.pointer (some ⟨N,0,none⟩),.pointer (some ⟨M,0,none⟩)] w λe w'=>Tch (λk=>k=N\/k=G) w w'/\SpTo E width F N M G n i sp (withoutT st (coinB c)) e w':=by
 have HW:Hid (∀W,Tch (λ_=>False) w W->Calls Tryz.prog 284 #[treeV width q,.agg #[.string c.1,.int .i64 c.2]] W λe w'=>Tch (λ_=>False) W w'/\WoTo E width F (withoutT st (coinB c)) e w'):=λW hT=>
  without_any E width hw1 hw F q st c hc W (hE.tch hT noE) (λj hj=>hF j (Nat.le_trans hT.size hj)) (hs.next hT) hok
 have HBX:Hid (SpBox w N width q M G n sp):=hB
 obtain ⟨rv,hrv⟩:∃rv,rootV q=.pointer rv:=⟨_,rfl⟩
 have hNs:N<w.heap.size:=(row_lt hB.s)
 have hMs:M<w.heap.size:=(row_lt hB.m)
 have hGs:G<w.heap.size:=(row_lt hB.g)
 have a0:w.cell? ⟨N,0,none⟩=some (.int .i64 (width:Int)):=cell_row hB.s
 have a1:w.cell? ⟨N,1,none⟩=some (.pointer rv):=by rw [<-hrv];exact cell_row hB.s
 have a2:w.cell? ⟨M,0,none⟩=some (.slice (some ⟨G,0,none⟩) n n):=cell_row hB.m
 obtain ⟨hNG,hMG,hNM⟩:=hB.apart
 have hGN:=hNG.symm
 have hGM:=hMG.symm
 have hMN:=hNM.symm
 have hii:(i:Int)<(n:Int):=by omega
 have hi0:(0:Int)<=(i:Int):=by omega
 have HRV:Hid (rootV q=.pointer rv):=hrv
 unfold treeV at HW
 rw [hrv] at HW
 generalize hR:withoutT st (coinB c)=R at *
 clear hE hF hB hs hok hrv hc
 obtain ⟨cs,cn⟩:=c
 dsimp only at HW ⊢
 have HTA:Hid (∀k,Tch (λ_=>False) w ((w.alloc (.cells #[.string cs,.int .i64 cn] 49)).drewN k)):=λk=>(Tch.alloc _ _ _).dr k
 go_enter Tryz.func283,Tryz.ntmps283
 go_wp2_with fail
 cases R with
 | ok r=>
  obtain ⟨st',o⟩:=r
  go_region_with (go_at_call 284;refine (HW.out _ (HTA.out 1)).mono ?_;rintro _ w2 ⟨ht2,q2,rfl,hs2⟩;have hT:Tch (λ_=>False) w w2:=(HTA.out 1).go ht2;obtain ⟨b0,b1,b2,⟨x0,y0,b3,b4⟩,fN,fG⟩:=(HBX.out.next hT).cells rv HRV.out i hi;obtain ⟨v2,hv2⟩:∃v,rootV q2=.pointer v:=⟨_,rfl⟩;have HV2:Hid (rootV q2=.pointer v2):=hv2;unfold treeV;rw [hv2];have HT:Hid (Tch (λ_=>False) w w2):=hT;have HS2:Hid (StAt _ _ _ _ _):=hs2;clear hv2 hT ht2 hs2)
  all_goals
   go_wp2
   go_ret
   obtain ⟨p1,p2,p3⟩:=(HBX.out.next HT.out).put HT.out i hi width q2 v2 HV2.out (.int .u64 (o.1:Int)) (.int .u8 (o.2:Int))
   exact ⟨p1,q2,rfl,p2,p3 _ _ _ _ HS2.out⟩
 | error er=>
  go_region_with (go_at_call 284;refine (HW.out _ (HTA.out 1)).mono ?_;rintro _ w2 ⟨ht2,rfl⟩;have hT:Tch (λ_=>False) w w2:=(HTA.out 1).go ht2;obtain ⟨b0,b1,b2,⟨x0,y0,b3,b4⟩,fN,fG⟩:=(HBX.out.next hT).cells rv HRV.out i hi;have HT:Hid (Tch (λ_=>False) w w2):=hT;clear hT ht2)
  all_goals
   go_wp2
   go_ret
   obtain ⟨p1,p2,p3⟩:=(HBX.out.next HT.out).put HT.out i hi 0 none none rfl (.int .u64 0) (.int .u8 0)
   exact ⟨p1,rfl,p2⟩
end Go.Proofs.YtighkdnooglfjaaGreatDoor
