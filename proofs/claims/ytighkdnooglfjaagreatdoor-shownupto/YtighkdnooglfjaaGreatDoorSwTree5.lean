/-
  The contracts of isLeaf, pairedWith, toward, graft and cut.
  The contract of (tree.Tree).cut: made by tools/mk_cut.py.
-/
import Derived.Test.YtighkdnooglfjaaGreatDoorSwTree1
namespace Go.Proofs.YtighkdnooglfjaaGreatDoor
open Go.RowKit

set_option maxRecDepth 100000 in
set_option maxHeartbeats 400000 in
theorem isLeaf_leaf (n:Nat) (dg:ByteArray) (k:Key) (o:Nat×Nat) (w:World) (h:w.heap[n]? =some (.cells (leafC dg k o) 243)):
  Calls Tryz.prog 224 #[.pointer (some ⟨n,0,none⟩)] w λe w'=>e=.returned (.bool true)/\w'=w:=by
 have c5:w.cell? ⟨n,5,none⟩=some (.pointer none):=cell_row h
 clear h
 go_enter Tryz.func224,Tryz.ntmps224
 go_wp2
 go_ret
 exact ⟨rfl,rfl⟩
set_option maxRecDepth 100000 in
set_option maxHeartbeats 400000 in
theorem isLeaf_br (n:Nat) (dg:ByteArray) (b nl nr:Nat) (w:World) (h:w.heap[n]? =some (.cells (brC dg b nl nr) 243)):
  Calls Tryz.prog 224 #[.pointer (some ⟨n,0,none⟩)] w λe w'=>e=.returned (.bool false)/\w'=w:=by
 have c5:w.cell? ⟨n,5,none⟩=some (.pointer (some ⟨nl,0,none⟩)):=cell_row h
 clear h
 go_enter Tryz.func224,Tryz.ntmps224
 go_wp2
 go_ret
 exact ⟨rfl,rfl⟩
set_option maxRecDepth 100000 in
set_option maxHeartbeats 400000 in
theorem paired_any (n one:Option Addr) (at_:Nat) (w:World):
  Calls Tryz.prog 333 #[.pointer n,.pointer one,.int .i64 (at_:Int)] w λe w'=>e=.returned (if at_=0 then .agg #[.pointer one,.pointer n] else .agg #[.pointer n,.pointer one])/\Tch (λ_=>False) w w':=by
 by_cases h:at_=0
 ·subst h
  rw [if_pos rfl]
  go_enter Tryz.func333,Tryz.ntmps333
  go_wp2
  exact bodyPost_ret (v:=.agg #[.pointer one,.pointer n]) (results_cell_row Tryz.results333 _ _ w.heap.size _ _ (0,0) _ rfl (heap_alloc_new _ _) Tryz.underlying241 rfl (by kernel_rfl)) rfl ⟨rfl,Tch.alloc _ _ _⟩
 ·rw [if_neg h]
  have hb:((at_:Int) == 0)=false:=by rw [beq_eq_false_iff_ne];omega
  go_enter Tryz.func333,Tryz.ntmps333
  go_wp2
  exact bodyPost_ret (v:=.agg #[.pointer n,.pointer one]) (results_cell_row Tryz.results333 _ _ w.heap.size _ _ (0,0) _ rfl (heap_alloc_new _ _) Tryz.underlying241 rfl (by kernel_rfl)) rfl ⟨rfl,Tch.alloc _ _ _⟩
set_option maxRecDepth 100000 in
set_option maxHeartbeats 1000000 in
theorem graft_top (E:Nat->Addr) (width:Nat) (hw1:1<=width) (hw:width<=32) (F:Nat->Prop) (rv:Option Addr) (k:Key) (o:Nat×Nat) (hk:TrOk width (.leaf k o)) (d:Nat) (hd:d<8 * (width+1)) (t:Tr) (n ln:Nat) (w:World) (hE:Env E w) (hF:∀j,w.heap.size<=j->F j) (hn:NodeAt (dgW width) F w n t) (hln:NodeAt (dgW width) F w ln (.leaf k o))
  (hc:∀W,Tch (λ_=>False) w W->Calls Tryz.prog 224 #[.pointer (some ⟨n,0,none⟩)] W λe w'=>e=.returned (.bool true)/\w'=W):
  Calls Tryz.prog 270 #[.agg #[.int .i64 (width:Int),.pointer rv],.pointer (some ⟨n,0,none⟩),.pointer (some ⟨ln,0,none⟩),.int .i64 (d:Int)] w λe w'=>∃m,e=.returned (.tuple #[.pointer (some ⟨m,0,none⟩),.nilIface])/\NodeAt (dgW width) F w' m (Tr.pair t (.leaf k o) d (bt k d))/\Tch (λ_=>False) w w':=by
 have HC:Hid (∀W,_):=hc
 have hkl:k.length=width+1:=hk.1
 have hlt:=hln.own.2
 have clk:w.cell? ⟨ln,1,none⟩=some (.string ⟨k.toArray⟩):=by cases hln with | leaf _ _ _ _ hr=>exact cell_row hr
 have HBIT:Hid (∀W,Calls Tryz.prog 288 #[.string ⟨k.toArray⟩,.int .i64 (d:Int)] W λe w'=>e=.returned (.int .i64 (bt k d:Int))/\w'=W):=λW=>keyBit_any k d (by omega) (by omega) W
 have HF:Hid (∀j,w.heap.size<=j->F j):=hF
 have HPR:Hid (∃a b l r,(if bt k d=0 then Value.agg #[.pointer (some ⟨ln,0,none⟩),.pointer (some ⟨n,0,none⟩)] else .agg #[.pointer (some ⟨n,0,none⟩),.pointer (some ⟨ln,0,none⟩)])=.agg #[.pointer (some ⟨a,0,none⟩),.pointer (some ⟨b,0,none⟩)]/\Tr.pair t (.leaf k o) d (bt k d)=.br d l r/\NodeAt (dgW width) F w a l/\NodeAt (dgW width) F w b r):=by
  unfold Tr.pair
  by_cases hb:bt k d=0
  ·rw [if_pos hb,if_pos hb];exact ⟨_,_,_,_,rfl,rfl,hln,hn⟩
  ·rw [if_neg hb,if_neg hb];exact ⟨_,_,_,_,rfl,rfl,hn,hln⟩
 obtain ⟨pa,pb,pl,pr,hpe,hpt,hpl,hpr⟩:=HPR.out
 have HPW:Hid (∀W,Calls Tryz.prog 333 #[.pointer (some ⟨n,0,none⟩),.pointer (some ⟨ln,0,none⟩),.int .i64 (bt k d:Int)] W λe w'=>e=.returned (.agg #[.pointer (some ⟨pa,0,none⟩),.pointer (some ⟨pb,0,none⟩)])/\Tch (λ_=>False) W w'):=λW=>by
  have:=paired_any (some ⟨n,0,none⟩) (some ⟨ln,0,none⟩) (bt k d) W
  rw [hpe] at this
  exact this
 have HNB:Hid (∀W,Tch (λ_=>False) w W->Calls Tryz.prog 332 #[.int .i64 (width:Int),.int .i64 (d:Int),.agg #[.pointer (some ⟨pa,0,none⟩),.pointer (some ⟨pb,0,none⟩)]] W λe w'=>∃m,e=.returned (.tuple #[.pointer (some ⟨m,0,none⟩),.nilIface])/\NodeAt (dgW width) F w' m (Tr.pair t (.leaf k o) d (bt k d))/\Tch (λ_=>False) W w'):=λW hT=>by
  refine (newBranch_any E width hw1 hw d pa pb pl pr F hd W (hE.tch hT noE) (hpl.next hT) (hpr.next hT)).mono ?_
  rintro e w' ⟨m,rfl,h1,h2,h3⟩
  refine ⟨m,rfl,?_,h3⟩
  rw [hpt]
  exact .br m d pa pb pl pr (HF.out m (Nat.le_trans hT.size h1)) h2 ((hpl.next hT).next h3) ((hpr.next hT).next h3)
 clear hc hE hn hln hpe hpt hpl hpr HPR hF hk
 generalize (⟨k.toArray⟩:ByteArray)=kb at *
 generalize Tr.pair t (.leaf k o) d (bt k d)=tr at *
 generalize bt k d=bk at *
 go_enter Tryz.func270,Tryz.ntmps270
 go_wp2_with fail
 refine (HC.out _ (Tch.alloc _ _ _)).mono ?_
 rintro _ _ ⟨rfl,rfl⟩
 have HA:Hid (Tch (λ_=>False) w (w.alloc (.cells #[.int .i64 (width:Int),.pointer rv] 146)).drew):=(Tch.alloc (λ_=>False) w _).trans (Tch.drewN _ _ 1) (λ_ h=>.inl h)
 clear HC
 go_wp2_with fail
 go_region_held3 (λW=>W.cell? ⟨w.heap.size,0,none⟩=some (.int .i64 (width:Int))/\W.cell? ⟨ln,1,none⟩=some (.string kb)) (go_keep) ((first | (go_at_call 288;refine (HBIT.out _).mono ?_;rintro _ _ ⟨rfl,rfl⟩) | (go_at_call 333;refine (HPW.out _).mono ?_;rintro _ w1 ⟨rfl,ht1⟩;have hz1:w.heap.size<w1.heap.size:=Nat.lt_of_lt_of_le (by simp) ht1.size;have hk0:w1.cell? ⟨w.heap.size,0,none⟩=some (.int .i64 (width:Int)):=(ht1.cell (p:=⟨w.heap.size,0,none⟩) (by simp) (λh=>h)).trans (cell_row (heap_alloc_new _ _));have hk1:w1.cell? ⟨ln,1,none⟩=some (.string kb):=((HA.out.trans ht1 noE).cell (p:=⟨ln,1,none⟩) hlt (λh=>h)).trans clk;have HT1:Hid (Tch (λ_=>False) w w1):=HA.out.trans ht1 noE;clear ht1) | (go_at_call 332;refine (HNB.out _ HT1.out).mono ?_;rintro _ w2 ⟨m,rfl,hm,ht2⟩;have hj0:=(ht2.cell (p:=⟨w.heap.size,0,none⟩) hz1 (λh=>h)).trans hk0;have hj1:=(ht2.cell (p:=⟨ln,1,none⟩) (by have:=HT1.out.size;show ln<_;omega) (λh=>h)).trans hk1;have HM:Hid (NodeAt _ _ _ _ _):=hm;have HT2:Hid (Tch (λ_=>False) w w2):=HT1.out.trans ht2 noE;clear hm ht2)))
 all_goals
  go_wp2
  go_ret2
  exact ⟨m,rfl,HM.out,HT2.out⟩
set_option maxRecDepth 100000 in
set_option maxHeartbeats 1000000 in
theorem graft_mid (E:Nat->Addr) (width:Nat) (hw1:1<=width) (hw:width<=32) (F:Nat->Prop) (rv:Option Addr) (k:Key) (o:Nat×Nat) (hk:TrOk width (.leaf k o)) (d:Nat) (hd:d<8 * (width+1)) (t:Tr) (n ln:Nat) (w:World) (hE:Env E w) (hF:∀j,w.heap.size<=j->F j) (hn:NodeAt (dgW width) F w n t) (hln:NodeAt (dgW width) F w ln (.leaf k o))
  (hc:∀W,Tch (λ_=>False) w W->Calls Tryz.prog 224 #[.pointer (some ⟨n,0,none⟩)] W λe w'=>e=.returned (.bool false)/\w'=W) (b:Nat) (hb4:w.cell? ⟨n,4,none⟩=some (.int .i64 (b:Int))) (hdb:d<b):
  Calls Tryz.prog 270 #[.agg #[.int .i64 (width:Int),.pointer rv],.pointer (some ⟨n,0,none⟩),.pointer (some ⟨ln,0,none⟩),.int .i64 (d:Int)] w λe w'=>∃m,e=.returned (.tuple #[.pointer (some ⟨m,0,none⟩),.nilIface])/\NodeAt (dgW width) F w' m (Tr.pair t (.leaf k o) d (bt k d))/\Tch (λ_=>False) w w':=by
 have HC:Hid (∀W,_):=hc
 have hkl:k.length=width+1:=hk.1
 have hdi:(d:Int)<(b:Int):=by omega
 have hnt:=hn.own.2
 have hlt:=hln.own.2
 have clk:w.cell? ⟨ln,1,none⟩=some (.string ⟨k.toArray⟩):=by cases hln with | leaf _ _ _ _ hr=>exact cell_row hr
 have HBIT:Hid (∀W,Calls Tryz.prog 288 #[.string ⟨k.toArray⟩,.int .i64 (d:Int)] W λe w'=>e=.returned (.int .i64 (bt k d:Int))/\w'=W):=λW=>keyBit_any k d (by omega) (by omega) W
 have HF:Hid (∀j,w.heap.size<=j->F j):=hF
 have HPR:Hid (∃a b l r,(if bt k d=0 then Value.agg #[.pointer (some ⟨ln,0,none⟩),.pointer (some ⟨n,0,none⟩)] else .agg #[.pointer (some ⟨n,0,none⟩),.pointer (some ⟨ln,0,none⟩)])=.agg #[.pointer (some ⟨a,0,none⟩),.pointer (some ⟨b,0,none⟩)]/\Tr.pair t (.leaf k o) d (bt k d)=.br d l r/\NodeAt (dgW width) F w a l/\NodeAt (dgW width) F w b r):=by
  unfold Tr.pair
  by_cases hb:bt k d=0
  ·rw [if_pos hb,if_pos hb];exact ⟨_,_,_,_,rfl,rfl,hln,hn⟩
  ·rw [if_neg hb,if_neg hb];exact ⟨_,_,_,_,rfl,rfl,hn,hln⟩
 obtain ⟨pa,pb,pl,pr,hpe,hpt,hpl,hpr⟩:=HPR.out
 have HPW:Hid (∀W,Calls Tryz.prog 333 #[.pointer (some ⟨n,0,none⟩),.pointer (some ⟨ln,0,none⟩),.int .i64 (bt k d:Int)] W λe w'=>e=.returned (.agg #[.pointer (some ⟨pa,0,none⟩),.pointer (some ⟨pb,0,none⟩)])/\Tch (λ_=>False) W w'):=λW=>by
  have:=paired_any (some ⟨n,0,none⟩) (some ⟨ln,0,none⟩) (bt k d) W
  rw [hpe] at this
  exact this
 have HNB:Hid (∀W,Tch (λ_=>False) w W->Calls Tryz.prog 332 #[.int .i64 (width:Int),.int .i64 (d:Int),.agg #[.pointer (some ⟨pa,0,none⟩),.pointer (some ⟨pb,0,none⟩)]] W λe w'=>∃m,e=.returned (.tuple #[.pointer (some ⟨m,0,none⟩),.nilIface])/\NodeAt (dgW width) F w' m (Tr.pair t (.leaf k o) d (bt k d))/\Tch (λ_=>False) W w'):=λW hT=>by
  refine (newBranch_any E width hw1 hw d pa pb pl pr F hd W (hE.tch hT noE) (hpl.next hT) (hpr.next hT)).mono ?_
  rintro e w' ⟨m,rfl,h1,h2,h3⟩
  refine ⟨m,rfl,?_,h3⟩
  rw [hpt]
  exact .br m d pa pb pl pr (HF.out m (Nat.le_trans hT.size h1)) h2 ((hpl.next hT).next h3) ((hpr.next hT).next h3)
 clear hc hE hn hln hpe hpt hpl hpr HPR hF hk
 generalize (⟨k.toArray⟩:ByteArray)=kb at *
 generalize Tr.pair t (.leaf k o) d (bt k d)=tr at *
 generalize bt k d=bk at *
 go_enter Tryz.func270,Tryz.ntmps270
 go_wp2_with fail
 refine (HC.out _ (Tch.alloc _ _ _)).mono ?_
 rintro _ _ ⟨rfl,rfl⟩
 have HA:Hid (Tch (λ_=>False) w (w.alloc (.cells #[.int .i64 (width:Int),.pointer rv] 146)).drew):=(Tch.alloc (λ_=>False) w _).trans (Tch.drewN _ _ 1) (λ_ h=>.inl h)
 clear HC
 go_wp2_with fail
 go_region_held3 (λW=>W.cell? ⟨w.heap.size,0,none⟩=some (.int .i64 (width:Int))/\W.cell? ⟨ln,1,none⟩=some (.string kb)) (go_keep) ((first | (go_at_call 288;refine (HBIT.out _).mono ?_;rintro _ _ ⟨rfl,rfl⟩) | (go_at_call 333;refine (HPW.out _).mono ?_;rintro _ w1 ⟨rfl,ht1⟩;have hz1:w.heap.size<w1.heap.size:=Nat.lt_of_lt_of_le (by simp) ht1.size;have hk0:w1.cell? ⟨w.heap.size,0,none⟩=some (.int .i64 (width:Int)):=(ht1.cell (p:=⟨w.heap.size,0,none⟩) (by simp) (λh=>h)).trans (cell_row (heap_alloc_new _ _));have hk1:w1.cell? ⟨ln,1,none⟩=some (.string kb):=((HA.out.trans ht1 noE).cell (p:=⟨ln,1,none⟩) hlt (λh=>h)).trans clk;have HT1:Hid (Tch (λ_=>False) w w1):=HA.out.trans ht1 noE;clear ht1) | (go_at_call 332;refine (HNB.out _ HT1.out).mono ?_;rintro _ w2 ⟨m,rfl,hm,ht2⟩;have hj0:=(ht2.cell (p:=⟨w.heap.size,0,none⟩) hz1 (λh=>h)).trans hk0;have hj1:=(ht2.cell (p:=⟨ln,1,none⟩) (by have:=HT1.out.size;show ln<_;omega) (λh=>h)).trans hk1;have HM:Hid (NodeAt _ _ _ _ _):=hm;have HT2:Hid (Tch (λ_=>False) w w2):=HT1.out.trans ht2 noE;clear hm ht2)))
 all_goals
  go_wp2
  go_ret2
  exact ⟨m,rfl,HM.out,HT2.out⟩
set_option maxRecDepth 100000 in
set_option maxHeartbeats 1000000 in
theorem graft_br (E:Nat->Addr) (width:Nat) (hw1:1<=width) (hw:width<=32) (F:Nat->Prop) (rv:Option Addr) (k:Key) (o:Nat×Nat) (hk:TrOk width (.leaf k o)) (d:Nat) (b:Nat) (hb:b<8 * (width+1)) (hdb:¬d<b) (l r:Tr) (n nl nr ln:Nat) (w:World) (hE:Env E w) (hF:∀j,w.heap.size<=j->F j) (hrow:w.heap[n]? =some (.cells (brC (Tr.dig (dgW width) (.br b l r)) b nl nr) 243)) (hnl:NodeAt (dgW width) F w nl l) (hnr:NodeAt (dgW width) F w nr r) (hln:NodeAt (dgW width) F w ln (.leaf k o))
  (ih:∀(s:Nat) (tg:Tr),((s=nl/\tg=l.graft k o d/\bt k b=0)\/(s=nr/\tg=r.graft k o d/\bt k b ≠ 0))->∀W,Tch (λ_=>False) w W->Calls Tryz.prog 270 #[.agg #[.int .i64 (width:Int),.pointer rv],.pointer (some ⟨s,0,none⟩),.pointer (some ⟨ln,0,none⟩),.int .i64 (d:Int)] W λe w'=>∃m,e=.returned (.tuple #[.pointer (some ⟨m,0,none⟩),.nilIface])/\NodeAt (dgW width) F w' m tg/\Tch (λ_=>False) W w'):
  Calls Tryz.prog 270 #[.agg #[.int .i64 (width:Int),.pointer rv],.pointer (some ⟨n,0,none⟩),.pointer (some ⟨ln,0,none⟩),.int .i64 (d:Int)] w λe w'=>∃m,e=.returned (.tuple #[.pointer (some ⟨m,0,none⟩),.nilIface])/\NodeAt (dgW width) F w' m (Tr.graft k o d (.br b l r))/\Tch (λ_=>False) w w':=by
 have hkl:k.length=width+1:=hk.1
 have hlt:=hln.own.2
 have hnt:n<w.heap.size:=(row_lt hrow)
 have clk:w.cell? ⟨ln,1,none⟩=some (.string ⟨k.toArray⟩):=by cases hln with | leaf _ _ _ _ hr=>exact cell_row hr
 have c4:w.cell? ⟨n,4,none⟩=some (.int .i64 (b:Int)):=cell_row hrow
 have c5:w.cell? ⟨n,5,none⟩=some (.pointer (some ⟨nl,0,none⟩)):=cell_row hrow
 have c6:w.cell? ⟨n,6,none⟩=some (.pointer (some ⟨nr,0,none⟩)):=cell_row hrow
 have HBIT:Hid (∀W,Calls Tryz.prog 288 #[.string ⟨k.toArray⟩,.int .i64 (b:Int)] W λe w'=>e=.returned (.int .i64 (bt k b:Int))/\w'=W):=λW=>keyBit_any k b (by omega) (by omega) W
 have HIL:Hid (∀W,Tch (λ_=>False) w W->Calls Tryz.prog 224 #[.pointer (some ⟨n,0,none⟩)] W λe w'=>e=.returned (.bool false)/\w'=W):=λW hT=>isLeaf_br n _ b nl nr W ((hT.block n hnt (λh=>h)).trans hrow)
 have hdi:¬(d:Int)<(b:Int):=by omega
 have hbt:=bt_two k b
 have HIH:Hid (∀(s:Nat) (tg:Tr),_):=ih
 clear ih hk hrow
 have hsd:(bt k b=0/\Tr.graft k o d (.br b l r)=.br b (l.graft k o d) r)\/(bt k b=1/\Tr.graft k o d (.br b l r)=.br b l (r.graft k o d)):=by
  simp only [Tr.graft]
  rw [if_neg hdb]
  by_cases h0:bt k b=0
  ·exact .inl ⟨h0,by rw [if_pos h0]⟩
  ·exact .inr ⟨by omega,by rw [if_neg h0]⟩
 generalize (⟨k.toArray⟩:ByteArray)=kb at *
 have HE:Hid (Env E w):=hE
 have HF:Hid (∀j,w.heap.size<=j->F j):=hF
 have HNL:Hid (NodeAt _ _ _ _ _):=hnl
 have HNR:Hid (NodeAt _ _ _ _ _):=hnr
 clear hE hF hnl hnr hln hdb hbt
 rcases hsd with ⟨h0,hg⟩ | ⟨h1,hg⟩
 ·rw [hg]
  have HB0:Hid (bt k b=0):=h0
  rw [h0] at HBIT
  have HREC:Hid (∀W,Tch (λ_=>False) w W->Calls Tryz.prog 270 #[.agg #[.int .i64 (width:Int),.pointer rv],.pointer (some ⟨nl,0,none⟩),.pointer (some ⟨ln,0,none⟩),.int .i64 (d:Int)] W λe w'=>∃m,e=.returned (.tuple #[.pointer (some ⟨m,0,none⟩),.nilIface])/\NodeAt (dgW width) F w' m (l.graft k o d)/\Tch (λ_=>False) W w'):=HIH.out nl (l.graft k o d) (.inl ⟨rfl,rfl,h0⟩)
  have HPW:Hid (∀(m:Nat) W,Calls Tryz.prog 333 #[.pointer (some ⟨nr,0,none⟩),.pointer (some ⟨m,0,none⟩),.int .i64 0] W λe w'=>e=.returned (.agg #[.pointer (some ⟨m,0,none⟩),.pointer (some ⟨nr,0,none⟩)])/\Tch (λ_=>False) W w'):=λm W=>paired_any (some ⟨nr,0,none⟩) (some ⟨m,0,none⟩) 0 W
  have HNB:Hid (∀(m:Nat) W,Tch (λ_=>False) w W->NodeAt (dgW width) F W m (l.graft k o d)->Calls Tryz.prog 332 #[.int .i64 (width:Int),.int .i64 (b:Int),.agg #[.pointer (some ⟨m,0,none⟩),.pointer (some ⟨nr,0,none⟩)]] W λe w'=>∃q,e=.returned (.tuple #[.pointer (some ⟨q,0,none⟩),.nilIface])/\NodeAt (dgW width) F w' q (.br b (l.graft k o d) r)/\Tch (λ_=>False) W w'):=λm W hT hm=>by
   refine (newBranch_any E width hw1 hw b m nr (l.graft k o d) r F hb W (HE.out.tch hT noE) hm (HNR.out.next hT)).mono ?_
   rintro e w' ⟨q,rfl,h1,h2,h3⟩
   exact ⟨q,rfl,.br q b m nr (l.graft k o d) r (HF.out q (Nat.le_trans hT.size h1)) h2 (hm.next h3) ((HNR.out.next hT).next h3),h3⟩
  clear hg h0 HIH
  go_enter Tryz.func270,Tryz.ntmps270
  go_wp2_with fail
  refine (HIL.out _ (Tch.alloc _ _ _)).mono ?_
  rintro _ _ ⟨rfl,rfl⟩
  have hA0:Tch (λ_=>False) w (w.alloc (.cells #[.int .i64 (width:Int),.pointer rv] 146)):=Tch.alloc _ _ _
  obtain ⟨wA,hwA⟩:∃wA,wA=w.alloc (.cells #[.int .i64 (width:Int),.pointer rv] 146):=⟨_,rfl⟩
  rw [<-hwA] at hA0 ⊢
  have hrA:wA.heap[w.heap.size]? =some (.cells #[.int .i64 (width:Int),.pointer rv] 146):=by rw [hwA];exact heap_alloc_new _ _
  have hzA:w.heap.size<wA.heap.size:=(row_lt hrA)
  have HCL:Hid (∀W,Tch (λ_=>False) wA W->(W.cell? ⟨w.heap.size,0,none⟩=some (.int .i64 (width:Int))/\W.cell? ⟨w.heap.size,1,none⟩=some (.pointer rv)/\W.cell? ⟨ln,1,none⟩=some (.string kb)/\W.cell? ⟨n,4,none⟩=some (.int .i64 (b:Int))/\W.cell? ⟨n,5,none⟩=some (.pointer (some ⟨nl,0,none⟩))/\W.cell? ⟨n,6,none⟩=some (.pointer (some ⟨nr,0,none⟩)))/\Tch (λ_=>False) w W):=λW hT=>
   ⟨⟨(hT.cell (p:=⟨w.heap.size,0,none⟩) hzA (λh=>h)).trans (cell_row hrA),(hT.cell (p:=⟨w.heap.size,1,none⟩) hzA (λh=>h)).trans (cell_row hrA),((hA0.trans hT noE).cell (p:=⟨ln,1,none⟩) hlt (λh=>h)).trans clk,((hA0.trans hT noE).cell (p:=⟨n,4,none⟩) hnt (λh=>h)).trans c4,((hA0.trans hT noE).cell (p:=⟨n,5,none⟩) hnt (λh=>h)).trans c5,((hA0.trans hT noE).cell (p:=⟨n,6,none⟩) hnt (λh=>h)).trans c6⟩,hA0.trans hT noE⟩
  obtain ⟨⟨a0,a1,a2,a3,a4,a5⟩,_⟩:=HCL.out wA (Tch.refl _ _)
  clear hA0 hrA hwA clk c4 c5 c6
  go_wp2_with fail
  go_region_held3 (λW=>W.cell? ⟨ln,1,none⟩=some (.string kb)/\W.cell? ⟨n,4,none⟩=some (.int .i64 (b:Int))) (go_keep) ((go_at_call 288;refine (HBIT.out _).mono ?_;rintro _ _ ⟨rfl,rfl⟩))
  have HTW:Hid (∀q,Tch (λ_=>False) w (wA.drewN q)):=λq=>(HCL.out _ (Tch.drewN _ wA q)).2
  clear HBIT
  go_wp2_with fail
  go_region_held3 (λW=>W.cell? ⟨w.heap.size,0,none⟩=some (.int .i64 (width:Int))/\W.cell? ⟨w.heap.size,1,none⟩=some (.pointer rv)/\W.cell? ⟨n,5,none⟩=some (.pointer (some ⟨nl,0,none⟩))/\W.cell? ⟨n,6,none⟩=some (.pointer (some ⟨nr,0,none⟩))) (go_keep) ((go_at_call 270;refine (HREC.out _ (HTW.out 2)).mono ?_;rintro _ w2 ⟨m,rfl,hm,ht2⟩;have hT2:Tch (λ_=>False) wA w2:=(Tch.drewN (λ_=>False) wA 2).trans ht2 noE;obtain ⟨⟨b0,b1,b2,b3,b4,b5⟩,hTw2⟩:=HCL.out w2 hT2;have HM:Hid (NodeAt _ _ _ _ _):=hm;have HT2:Hid (Tch (λ_=>False) wA w2):=hT2;have HW2:Hid (Tch (λ_=>False) w w2):=hTw2;clear hm ht2 hT2 hTw2))
  all_goals
   clear HREC a0 a1 a2 a3 a4 a5 HTW
   have hz0:IntKind.i64.wrap 0=0:=by decide
   have hz1:IntKind.i64.wrap 1=1:=by decide
   have HTW:Hid (∀q,Tch (λ_=>False) wA (w2.drewN q)):=λq=>HT2.out.trans (Tch.drewN (λ_=>False) w2 q) noE
   go_wp2_with fail
   go_region_held3 (λW=>W.cell? ⟨w.heap.size,0,none⟩=some (.int .i64 (width:Int))/\W.cell? ⟨n,4,none⟩=some (.int .i64 (b:Int))/\W.cell? ⟨n,5,none⟩=some (.pointer (some ⟨nl,0,none⟩))/\W.cell? ⟨n,6,none⟩=some (.pointer (some ⟨nr,0,none⟩))) (go_keep) ((first | (go_at_call 333;refine (HPW.out m _).mono ?_;rintro _ w3 ⟨rfl,ht3⟩;have hT3:Tch (λ_=>False) wA w3:=(HTW.out 1).trans ht3 noE;obtain ⟨⟨d0,d1,d2,d3,d4,d5⟩,hTw3⟩:=HCL.out w3 hT3;have HM3:Hid (NodeAt (dgW width) F w3 m _):=(HM.out.next (Tch.drewN (λ_=>False) w2 1)).next ht3;have HT3:Hid (Tch (λ_=>False) wA w3):=hT3;have HW3:Hid (Tch (λ_=>False) w w3):=hTw3;clear ht3 hT3 hTw3) | (go_at_call 332;refine (HNB.out m _ HW3.out HM3.out).mono ?_;rintro _ w4 ⟨q,rfl,hq,ht4⟩;have hT4:Tch (λ_=>False) wA w4:=HT3.out.trans ht4 noE;obtain ⟨⟨f0,f1,f2,f3,f4,f5⟩,hTw4⟩:=HCL.out w4 hT4;have HQ:Hid (NodeAt _ _ _ _ _):=hq;have HW4:Hid (Tch (λ_=>False) w w4):=hTw4;clear ht4 hT4 hq hTw4)))
   all_goals
    go_wp2
    go_ret2
    exact ⟨q,rfl,HQ.out,HW4.out⟩
 ·rw [hg]
  have HB0:Hid (bt k b=1):=h1
  rw [h1] at HBIT
  have HREC:Hid (∀W,Tch (λ_=>False) w W->Calls Tryz.prog 270 #[.agg #[.int .i64 (width:Int),.pointer rv],.pointer (some ⟨nr,0,none⟩),.pointer (some ⟨ln,0,none⟩),.int .i64 (d:Int)] W λe w'=>∃m,e=.returned (.tuple #[.pointer (some ⟨m,0,none⟩),.nilIface])/\NodeAt (dgW width) F w' m (r.graft k o d)/\Tch (λ_=>False) W w'):=HIH.out nr (r.graft k o d) (.inr ⟨rfl,rfl,by omega⟩)
  have HPW:Hid (∀(m:Nat) W,Calls Tryz.prog 333 #[.pointer (some ⟨nl,0,none⟩),.pointer (some ⟨m,0,none⟩),.int .i64 1] W λe w'=>e=.returned (.agg #[.pointer (some ⟨nl,0,none⟩),.pointer (some ⟨m,0,none⟩)])/\Tch (λ_=>False) W w'):=λm W=>paired_any (some ⟨nl,0,none⟩) (some ⟨m,0,none⟩) 1 W
  have HNB:Hid (∀(m:Nat) W,Tch (λ_=>False) w W->NodeAt (dgW width) F W m (r.graft k o d)->Calls Tryz.prog 332 #[.int .i64 (width:Int),.int .i64 (b:Int),.agg #[.pointer (some ⟨nl,0,none⟩),.pointer (some ⟨m,0,none⟩)]] W λe w'=>∃q,e=.returned (.tuple #[.pointer (some ⟨q,0,none⟩),.nilIface])/\NodeAt (dgW width) F w' q (.br b l (r.graft k o d))/\Tch (λ_=>False) W w'):=λm W hT hm=>by
   refine (newBranch_any E width hw1 hw b nl m l (r.graft k o d) F hb W (HE.out.tch hT noE) (HNL.out.next hT) hm).mono ?_
   rintro e w' ⟨q,rfl,h1,h2,h3⟩
   exact ⟨q,rfl,.br q b nl m l (r.graft k o d) (HF.out q (Nat.le_trans hT.size h1)) h2 ((HNL.out.next hT).next h3) (hm.next h3),h3⟩
  clear hg h1 HIH
  go_enter Tryz.func270,Tryz.ntmps270
  go_wp2_with fail
  refine (HIL.out _ (Tch.alloc _ _ _)).mono ?_
  rintro _ _ ⟨rfl,rfl⟩
  have hA0:Tch (λ_=>False) w (w.alloc (.cells #[.int .i64 (width:Int),.pointer rv] 146)):=Tch.alloc _ _ _
  obtain ⟨wA,hwA⟩:∃wA,wA=w.alloc (.cells #[.int .i64 (width:Int),.pointer rv] 146):=⟨_,rfl⟩
  rw [<-hwA] at hA0 ⊢
  have hrA:wA.heap[w.heap.size]? =some (.cells #[.int .i64 (width:Int),.pointer rv] 146):=by rw [hwA];exact heap_alloc_new _ _
  have hzA:w.heap.size<wA.heap.size:=(row_lt hrA)
  have HCL:Hid (∀W,Tch (λ_=>False) wA W->(W.cell? ⟨w.heap.size,0,none⟩=some (.int .i64 (width:Int))/\W.cell? ⟨w.heap.size,1,none⟩=some (.pointer rv)/\W.cell? ⟨ln,1,none⟩=some (.string kb)/\W.cell? ⟨n,4,none⟩=some (.int .i64 (b:Int))/\W.cell? ⟨n,5,none⟩=some (.pointer (some ⟨nl,0,none⟩))/\W.cell? ⟨n,6,none⟩=some (.pointer (some ⟨nr,0,none⟩)))/\Tch (λ_=>False) w W):=λW hT=>
   ⟨⟨(hT.cell (p:=⟨w.heap.size,0,none⟩) hzA (λh=>h)).trans (cell_row hrA),(hT.cell (p:=⟨w.heap.size,1,none⟩) hzA (λh=>h)).trans (cell_row hrA),((hA0.trans hT noE).cell (p:=⟨ln,1,none⟩) hlt (λh=>h)).trans clk,((hA0.trans hT noE).cell (p:=⟨n,4,none⟩) hnt (λh=>h)).trans c4,((hA0.trans hT noE).cell (p:=⟨n,5,none⟩) hnt (λh=>h)).trans c5,((hA0.trans hT noE).cell (p:=⟨n,6,none⟩) hnt (λh=>h)).trans c6⟩,hA0.trans hT noE⟩
  obtain ⟨⟨a0,a1,a2,a3,a4,a5⟩,_⟩:=HCL.out wA (Tch.refl _ _)
  clear hA0 hrA hwA clk c4 c5 c6
  go_wp2_with fail
  go_region_held3 (λW=>W.cell? ⟨ln,1,none⟩=some (.string kb)/\W.cell? ⟨n,4,none⟩=some (.int .i64 (b:Int))) (go_keep) ((go_at_call 288;refine (HBIT.out _).mono ?_;rintro _ _ ⟨rfl,rfl⟩))
  have HTW:Hid (∀q,Tch (λ_=>False) w (wA.drewN q)):=λq=>(HCL.out _ (Tch.drewN _ wA q)).2
  clear HBIT
  go_wp2_with fail
  go_region_held3 (λW=>W.cell? ⟨w.heap.size,0,none⟩=some (.int .i64 (width:Int))/\W.cell? ⟨w.heap.size,1,none⟩=some (.pointer rv)/\W.cell? ⟨n,5,none⟩=some (.pointer (some ⟨nl,0,none⟩))/\W.cell? ⟨n,6,none⟩=some (.pointer (some ⟨nr,0,none⟩))) (go_keep) ((go_at_call 270;refine (HREC.out _ (HTW.out 2)).mono ?_;rintro _ w2 ⟨m,rfl,hm,ht2⟩;have hT2:Tch (λ_=>False) wA w2:=(Tch.drewN (λ_=>False) wA 2).trans ht2 noE;obtain ⟨⟨b0,b1,b2,b3,b4,b5⟩,hTw2⟩:=HCL.out w2 hT2;have HM:Hid (NodeAt _ _ _ _ _):=hm;have HT2:Hid (Tch (λ_=>False) wA w2):=hT2;have HW2:Hid (Tch (λ_=>False) w w2):=hTw2;clear hm ht2 hT2 hTw2))
  all_goals
   clear HREC a0 a1 a2 a3 a4 a5 HTW
   have hz0:IntKind.i64.wrap 0=0:=by decide
   have hz1:IntKind.i64.wrap 1=1:=by decide
   have HTW:Hid (∀q,Tch (λ_=>False) wA (w2.drewN q)):=λq=>HT2.out.trans (Tch.drewN (λ_=>False) w2 q) noE
   go_wp2_with fail
   go_region_held3 (λW=>W.cell? ⟨w.heap.size,0,none⟩=some (.int .i64 (width:Int))/\W.cell? ⟨n,4,none⟩=some (.int .i64 (b:Int))/\W.cell? ⟨n,5,none⟩=some (.pointer (some ⟨nl,0,none⟩))/\W.cell? ⟨n,6,none⟩=some (.pointer (some ⟨nr,0,none⟩))) (go_keep) ((first | (go_at_call 333;refine (HPW.out m _).mono ?_;rintro _ w3 ⟨rfl,ht3⟩;have hT3:Tch (λ_=>False) wA w3:=(HTW.out 1).trans ht3 noE;obtain ⟨⟨d0,d1,d2,d3,d4,d5⟩,hTw3⟩:=HCL.out w3 hT3;have HM3:Hid (NodeAt (dgW width) F w3 m _):=(HM.out.next (Tch.drewN (λ_=>False) w2 1)).next ht3;have HT3:Hid (Tch (λ_=>False) wA w3):=hT3;have HW3:Hid (Tch (λ_=>False) w w3):=hTw3;clear ht3 hT3 hTw3) | (go_at_call 332;refine (HNB.out m _ HW3.out HM3.out).mono ?_;rintro _ w4 ⟨q,rfl,hq,ht4⟩;have hT4:Tch (λ_=>False) wA w4:=HT3.out.trans ht4 noE;obtain ⟨⟨f0,f1,f2,f3,f4,f5⟩,hTw4⟩:=HCL.out w4 hT4;have HQ:Hid (NodeAt _ _ _ _ _):=hq;have HW4:Hid (Tch (λ_=>False) w w4):=hTw4;clear ht4 hT4 hq hTw4)))
   all_goals
    go_wp2
    go_ret2
    exact ⟨q,rfl,HQ.out,HW4.out⟩
theorem graft_any (E:Nat->Addr) (width:Nat) (hw1:1<=width) (hw:width<=32) (F:Nat->Prop) (rv:Option Addr) (k:Key) (o:Nat×Nat) (hk:TrOk width (.leaf k o)) (d:Nat) (hd:d<8 * (width+1)) (ln:Nat):∀(t:Tr) (n:Nat) (w:World),TrOk width t->Env E w->(∀j,w.heap.size<=j->F j)->NodeAt (dgW width) F w n t->NodeAt (dgW width) F w ln (.leaf k o)->
  Calls Tryz.prog 270 #[.agg #[.int .i64 (width:Int),.pointer rv],.pointer (some ⟨n,0,none⟩),.pointer (some ⟨ln,0,none⟩),.int .i64 (d:Int)] w λe w'=>∃m,e=.returned (.tuple #[.pointer (some ⟨m,0,none⟩),.nilIface])/\NodeAt (dgW width) F w' m (t.graft k o d)/\Tch (λ_=>False) w w':=by
 intro t
 induction t with
 | leaf k' o'=>
  intro n w _ hE hF hn hln
  refine graft_top E width hw1 hw F rv k o hk d hd (.leaf k' o') n ln w hE hF hn hln (λW hT=>?_)
  cases hn with
  | leaf _ _ _ _ hr=>exact isLeaf_leaf n _ k' o' W ((hT.block n (row_lt hr) (λh=>h)).trans hr)
 | br b l r ihl ihr=>
  intro n w hok hE hF hn hln
  obtain ⟨hb,hokl,hokr⟩:=hok
  have hn':=hn
  cases hn with
  | br _ _ nl nr _ _ hFn hr hnl hnr=>
   by_cases hdb:d<b
   ·have:=graft_mid E width hw1 hw F rv k o hk d hd (.br b l r) n ln w hE hF hn' hln (λW hT=>isLeaf_br n _ b nl nr W ((hT.block n (row_lt hr) (λh=>h)).trans hr)) b (cell_row hr) hdb
    have e:Tr.graft k o d (.br b l r)=Tr.pair (.br b l r) (.leaf k o) d (bt k d):=by simp only [Tr.graft];rw [if_pos hdb]
    rw [e]
    exact this
   ·refine graft_br E width hw1 hw F rv k o hk d b hb hdb l r n nl nr ln w hE hF hr hnl hnr hln ?_
    rintro s tg (⟨rfl,rfl,_⟩ | ⟨rfl,rfl,_⟩) W hT
    ·exact ihl s W hokl (hE.tch hT noE) (λj hj=>hF j (Nat.le_trans hT.size hj)) (hnl.next hT) (hln.next hT)
    ·exact ihr s W hokr (hE.tch hT noE) (λj hj=>hF j (Nat.le_trans hT.size hj)) (hnr.next hT) (hln.next hT)
end Go.Proofs.YtighkdnooglfjaaGreatDoor
namespace Go.Proofs.YtighkdnooglfjaaGreatDoor
open Go.RowKit

def StAt (d:List UInt8->ByteArray) (F:Nat->Prop) (w:World):Option Nat->Option Tr->Prop
 | none,none=>True
 | some n,some t=>NodeAt d F w n t
 | _,_=>False
abbrev rootV (q:Option Nat):Value:=.pointer (q.map λn=>⟨n,0,none⟩)
theorem StAt.tch {d:List UInt8->ByteArray} {F:Nat->Prop} {w w':World} {q:Option Nat} {st:Option Tr} {S:Nat->Prop} (h:StAt d F w q st) (k:Tch S w w') (hs:∀j,S j->¬F j):StAt d F w' q st:=by
 cases q <;> cases st <;> first | exact h | exact NodeAt.tch h k hs
theorem StAt.next {d:List UInt8->ByteArray} {F:Nat->Prop} {w w':World} {q:Option Nat} {st:Option Tr} (h:StAt d F w q st) (k:Tch (λ_=>False) w w'):StAt d F w' q st:=h.tch k noE
theorem StAt.mono {d:List UInt8->ByteArray} {F F':Nat->Prop} {w:World} {q:Option Nat} {st:Option Tr} (h:StAt d F w q st) (hF:∀j,F j->F' j):StAt d F' w q st:=by
 cases q <;> cases st <;> first | exact h | exact NodeAt.mono h hF
def StOk (width:Nat):Option Tr->Prop
 | none=>True
 | some t=>TrOk width t
abbrev CutTo (width:Nat) (F:Nat->Prop) (r:Option Tr) (W:World) (e:Ending) (w':World):Prop:=∃q,e=.returned (.tuple #[rootV q,.nilIface])/\StAt (dgW width) F w' q r/\Tch (λ_=>False) W w'
theorem StAt.of_some {d:List UInt8->ByteArray} {F:Nat->Prop} {w:World} {q:Option Nat} {t:Tr} (h:StAt d F w q (some t)):∃m,q=Option.some m/\NodeAt d F w m t:=by
 cases q with
 | none=>exact h.elim
 | some m=>exact ⟨m,rfl,h⟩
theorem StAt.of_none {d:List UInt8->ByteArray} {F:Nat->Prop} {w:World} {q:Option Nat} (h:StAt d F w q Option.none):q=Option.none:=by
 cases q with
 | none=>rfl
 | some m=>exact h.elim
set_option maxRecDepth 100000 in
set_option maxHeartbeats 1000000 in
theorem cut_leaf (width:Nat) (F:Nat->Prop) (rv:Option Addr) (k:Key) (n:Nat) (w:World) (k':Key) (o':Nat×Nat) (hn:NodeAt (dgW width) F w n (.leaf k' o')):
  Calls Tryz.prog 339 #[.agg #[.int .i64 (width:Int),.pointer rv],.pointer (some ⟨n,0,none⟩),.string ⟨k.toArray⟩] w λe w'=>CutTo width F none w e w':=by
 have HIL:Hid (∀W,Tch (λ_=>False) w W->Calls Tryz.prog 224 #[.pointer (some ⟨n,0,none⟩)] W λe w'=>e=.returned (.bool true)/\w'=W):=λW hT=>by
  cases hn with
  | leaf _ _ _ _ hr=>exact isLeaf_leaf n _ k' o' W ((hT.block n (row_lt hr) (λh=>h)).trans hr)
 clear hn
 generalize (⟨k.toArray⟩:ByteArray)=kb at *
 go_enter Tryz.func339,Tryz.ntmps339
 go_wp2_with fail
 refine (HIL.out _ (Tch.alloc _ _ _)).mono ?_
 rintro _ _ ⟨rfl,rfl⟩
 go_wp2
 go_ret2
 exact ⟨none,rfl,trivial,Tch.alloc _ _ _⟩
set_option maxRecDepth 100000 in
set_option maxHeartbeats 1000000 in
theorem cut_lsome (E:Nat->Addr) (width:Nat) (hw1:1<=width) (hw:width<=32) (F:Nat->Prop) (rv:Option Addr) (k:Key) (hkl:k.length=width+1) (b:Nat) (hb:b<8 * (width+1)) (l r:Tr) (n nl nr:Nat) (w:World) (hE:Env E w) (hF:∀j,w.heap.size<=j->F j) (hrow:w.heap[n]? =some (.cells (brC (Tr.dig (dgW width) (.br b l r)) b nl nr) 243)) (hnl:NodeAt (dgW width) F w nl l) (hnr:NodeAt (dgW width) F w nr r) (hbt:bt k b=0) (s:Tr)
  (ih:∀W,Tch (λ_=>False) w W->Calls Tryz.prog 339 #[.agg #[.int .i64 (width:Int),.pointer rv],.pointer (some ⟨nl,0,none⟩),.string ⟨k.toArray⟩] W λe w'=>CutTo width F (some s) W e w'):
  Calls Tryz.prog 339 #[.agg #[.int .i64 (width:Int),.pointer rv],.pointer (some ⟨n,0,none⟩),.string ⟨k.toArray⟩] w λe w'=>CutTo width F (some (.br b s r)) w e w':=by
 have hnt:n<w.heap.size:=(row_lt hrow)
 have c4:w.cell? ⟨n,4,none⟩=some (.int .i64 (b:Int)):=cell_row hrow
 have c5:w.cell? ⟨n,5,none⟩=some (.pointer (some ⟨nl,0,none⟩)):=cell_row hrow
 have c6:w.cell? ⟨n,6,none⟩=some (.pointer (some ⟨nr,0,none⟩)):=cell_row hrow
 have HBIT:Hid (∀W,Calls Tryz.prog 288 #[.string ⟨k.toArray⟩,.int .i64 (b:Int)] W λe w'=>e=.returned (.int .i64 0)/\W=w'):=λW=>by
  have:=keyBit_any k b (by omega) (by omega) W
  rw [hbt] at this
  exact this.mono λe w' h=>⟨h.1,h.2.symm⟩
 have HIL:Hid (∀W,Tch (λ_=>False) w W->Calls Tryz.prog 224 #[.pointer (some ⟨n,0,none⟩)] W λe w'=>e=.returned (.bool false)/\w'=W):=λW hT=>isLeaf_br n _ b nl nr W ((hT.block n hnt (λh=>h)).trans hrow)
 have HREC:Hid (∀W,Tch (λ_=>False) w W->Calls Tryz.prog 339 #[.agg #[.int .i64 (width:Int),.pointer rv],.pointer (some ⟨nl,0,none⟩),.string ⟨k.toArray⟩] W λe w'=>∃q,e=.returned (.tuple #[rootV q,.nilIface])/\StAt (dgW width) F w' q (some s)/\Tch (λ_=>False) W w'):=ih
 have HE:Hid (Env E w):=hE
 have HF:Hid (∀j,w.heap.size<=j->F j):=hF
 have HNL:Hid (NodeAt _ _ _ _ _):=hnl
 have HNR:Hid (NodeAt _ _ _ _ _):=hnr
 have HPW:Hid (∀(m:Nat) W,Calls Tryz.prog 333 #[.pointer (some ⟨nr,0,none⟩),.pointer (some ⟨m,0,none⟩),.int .i64 0] W λe w'=>e=.returned (.agg #[.pointer (some ⟨m,0,none⟩),.pointer (some ⟨nr,0,none⟩)])/\Tch (λ_=>False) W w'):=λm W=>paired_any (some ⟨nr,0,none⟩) (some ⟨m,0,none⟩) 0 W
 have HNB:Hid (∀(m:Nat) W,Tch (λ_=>False) w W->NodeAt (dgW width) F W m s->Calls Tryz.prog 332 #[.int .i64 (width:Int),.int .i64 (b:Int),.agg #[.pointer (some ⟨m,0,none⟩),.pointer (some ⟨nr,0,none⟩)]] W λe w'=>∃q,e=.returned (.tuple #[.pointer (some ⟨q,0,none⟩),.nilIface])/\NodeAt (dgW width) F w' q (.br b s r)/\Tch (λ_=>False) W w'):=λm W hT hm=>by
  refine (newBranch_any E width hw1 hw b m nr s r F hb W (HE.out.tch hT noE) hm (HNR.out.next hT)).mono ?_
  rintro e w' ⟨q,rfl,h1,h2,h3⟩
  exact ⟨q,rfl,.br q b m nr s r (HF.out q (Nat.le_trans hT.size h1)) h2 (hm.next h3) ((HNR.out.next hT).next h3),h3⟩
 clear ih hrow hE hF hnl hnr hbt
 generalize (⟨k.toArray⟩:ByteArray)=kb at *
 go_enter Tryz.func339,Tryz.ntmps339
 go_wp2_with fail
 refine (HIL.out _ (Tch.alloc _ _ _)).mono ?_
 rintro _ _ ⟨rfl,rfl⟩
 have hA0:Tch (λ_=>False) w (w.alloc (.cells #[.int .i64 (width:Int),.pointer rv] 146)):=Tch.alloc _ _ _
 obtain ⟨wA,hwA⟩:∃wA,wA=w.alloc (.cells #[.int .i64 (width:Int),.pointer rv] 146):=⟨_,rfl⟩
 rw [<-hwA] at hA0 ⊢
 have hrA:wA.heap[w.heap.size]? =some (.cells #[.int .i64 (width:Int),.pointer rv] 146):=by rw [hwA];exact heap_alloc_new _ _
 have hzA:w.heap.size<wA.heap.size:=(row_lt hrA)
 have HCL:Hid (∀W,Tch (λ_=>False) wA W->(W.cell? ⟨w.heap.size,0,none⟩=some (.int .i64 (width:Int))/\W.cell? ⟨w.heap.size,1,none⟩=some (.pointer rv)/\W.cell? ⟨n,4,none⟩=some (.int .i64 (b:Int))/\W.cell? ⟨n,5,none⟩=some (.pointer (some ⟨nl,0,none⟩))/\W.cell? ⟨n,6,none⟩=some (.pointer (some ⟨nr,0,none⟩)))/\Tch (λ_=>False) w W):=λW hT=>
  ⟨⟨(hT.cell (p:=⟨w.heap.size,0,none⟩) hzA (λh=>h)).trans (cell_row hrA),(hT.cell (p:=⟨w.heap.size,1,none⟩) hzA (λh=>h)).trans (cell_row hrA),((hA0.trans hT noE).cell (p:=⟨n,4,none⟩) hnt (λh=>h)).trans c4,((hA0.trans hT noE).cell (p:=⟨n,5,none⟩) hnt (λh=>h)).trans c5,((hA0.trans hT noE).cell (p:=⟨n,6,none⟩) hnt (λh=>h)).trans c6⟩,hA0.trans hT noE⟩
 obtain ⟨⟨a0,a1,a3,a4,a5⟩,_⟩:=HCL.out wA (Tch.refl _ _)
 have hz0:IntKind.i64.wrap 0=0:=by decide
 have hz1:IntKind.i64.wrap 1=1:=by decide
 clear hA0 hrA hwA c4 c5 c6 HIL
 have HTW:Hid (∀q,Tch (λ_=>False) w (wA.drewN q)):=λq=>(HCL.out _ (Tch.drewN _ wA q)).2
 go_wp2_with fail
 refine (HBIT.out _).mono ?_
 rintro _ _ ⟨rfl,rfl⟩
 clear HBIT
 go_wp2_with fail
 go_region_held3 (λW=>W.cell? ⟨w.heap.size,0,none⟩=some (.int .i64 (width:Int))/\W.cell? ⟨w.heap.size,1,none⟩=some (.pointer rv)/\W.cell? ⟨n,5,none⟩=some (.pointer (some ⟨nl,0,none⟩))/\W.cell? ⟨n,6,none⟩=some (.pointer (some ⟨nr,0,none⟩))) (go_keep) ((go_at_call 339;refine (HREC.out _ (HTW.out 1)).mono ?_;rintro _ w2 ⟨q,rfl,hq,ht2⟩;have hT2:Tch (λ_=>False) wA w2:=(Tch.drewN (λ_=>False) wA 1).trans ht2 noE;obtain ⟨⟨b0,b1,b3,b4,b5⟩,hTw2⟩:=HCL.out w2 hT2;obtain ⟨m,rfl,hm⟩:=hq.of_some;have HM:Hid (NodeAt _ _ _ _ _):=hm;clear hm hq;have HT2:Hid (Tch (λ_=>False) wA w2):=hT2;have HW2:Hid (Tch (λ_=>False) w w2):=hTw2;clear ht2 hT2 hTw2))
 all_goals
  clear HREC a0 a1 a3 a4 a5 HTW
  have HTW:Hid (∀q,Tch (λ_=>False) wA (w2.drewN q)):=λq=>HT2.out.trans (Tch.drewN (λ_=>False) w2 q) noE
  go_wp2_with fail
  go_region_held3 (λW=>W.cell? ⟨w.heap.size,0,none⟩=some (.int .i64 (width:Int))/\W.cell? ⟨n,4,none⟩=some (.int .i64 (b:Int))) (go_keep) ((first | (go_at_call 333;refine (HPW.out m _).mono ?_;rintro _ w3 ⟨rfl,ht3⟩;have hT3:Tch (λ_=>False) wA w3:=(HTW.out 1).trans ht3 noE;obtain ⟨⟨d0,d1,d3,d4,d5⟩,hTw3⟩:=HCL.out w3 hT3;have HM3:Hid (NodeAt (dgW width) F w3 m _):=(HM.out.next (Tch.drewN (λ_=>False) w2 1)).next ht3;have HT3:Hid (Tch (λ_=>False) wA w3):=hT3;have HW3:Hid (Tch (λ_=>False) w w3):=hTw3;clear ht3 hT3 hTw3) | (go_at_call 332;refine (HNB.out m _ HW3.out HM3.out).mono ?_;rintro _ w4 ⟨q,rfl,hq,ht4⟩;have hT4:Tch (λ_=>False) wA w4:=HT3.out.trans ht4 noE;obtain ⟨⟨f0,f1,f3,f4,f5⟩,hTw4⟩:=HCL.out w4 hT4;have HQ:Hid (NodeAt _ _ _ _ _):=hq;have HW4:Hid (Tch (λ_=>False) w w4):=hTw4;clear ht4 hT4 hq hTw4)))
  all_goals
   go_wp2
   go_ret2
   exact ⟨some q,rfl,HQ.out,HW4.out⟩
set_option maxRecDepth 100000 in
set_option maxHeartbeats 1000000 in
theorem cut_lnone (E:Nat->Addr) (width:Nat) (hw1:1<=width) (hw:width<=32) (F:Nat->Prop) (rv:Option Addr) (k:Key) (hkl:k.length=width+1) (b:Nat) (hb:b<8 * (width+1)) (l r:Tr) (n nl nr:Nat) (w:World) (hE:Env E w) (hF:∀j,w.heap.size<=j->F j) (hrow:w.heap[n]? =some (.cells (brC (Tr.dig (dgW width) (.br b l r)) b nl nr) 243)) (hnl:NodeAt (dgW width) F w nl l) (hnr:NodeAt (dgW width) F w nr r) (hbt:bt k b=0)
  (ih:∀W,Tch (λ_=>False) w W->Calls Tryz.prog 339 #[.agg #[.int .i64 (width:Int),.pointer rv],.pointer (some ⟨nl,0,none⟩),.string ⟨k.toArray⟩] W λe w'=>CutTo width F none W e w'):
  Calls Tryz.prog 339 #[.agg #[.int .i64 (width:Int),.pointer rv],.pointer (some ⟨n,0,none⟩),.string ⟨k.toArray⟩] w λe w'=>CutTo width F (some r) w e w':=by
 have hnt:n<w.heap.size:=(row_lt hrow)
 have c4:w.cell? ⟨n,4,none⟩=some (.int .i64 (b:Int)):=cell_row hrow
 have c5:w.cell? ⟨n,5,none⟩=some (.pointer (some ⟨nl,0,none⟩)):=cell_row hrow
 have c6:w.cell? ⟨n,6,none⟩=some (.pointer (some ⟨nr,0,none⟩)):=cell_row hrow
 have HBIT:Hid (∀W,Calls Tryz.prog 288 #[.string ⟨k.toArray⟩,.int .i64 (b:Int)] W λe w'=>e=.returned (.int .i64 0)/\W=w'):=λW=>by
  have:=keyBit_any k b (by omega) (by omega) W
  rw [hbt] at this
  exact this.mono λe w' h=>⟨h.1,h.2.symm⟩
 have HIL:Hid (∀W,Tch (λ_=>False) w W->Calls Tryz.prog 224 #[.pointer (some ⟨n,0,none⟩)] W λe w'=>e=.returned (.bool false)/\w'=W):=λW hT=>isLeaf_br n _ b nl nr W ((hT.block n hnt (λh=>h)).trans hrow)
 have HREC:Hid (∀W,Tch (λ_=>False) w W->Calls Tryz.prog 339 #[.agg #[.int .i64 (width:Int),.pointer rv],.pointer (some ⟨nl,0,none⟩),.string ⟨k.toArray⟩] W λe w'=>∃q,e=.returned (.tuple #[rootV q,.nilIface])/\StAt (dgW width) F w' q none/\Tch (λ_=>False) W w'):=ih
 have HE:Hid (Env E w):=hE
 have HF:Hid (∀j,w.heap.size<=j->F j):=hF
 have HNL:Hid (NodeAt _ _ _ _ _):=hnl
 have HNR:Hid (NodeAt _ _ _ _ _):=hnr
 clear ih hrow hE hF hnl hnr hbt
 generalize (⟨k.toArray⟩:ByteArray)=kb at *
 go_enter Tryz.func339,Tryz.ntmps339
 go_wp2_with fail
 refine (HIL.out _ (Tch.alloc _ _ _)).mono ?_
 rintro _ _ ⟨rfl,rfl⟩
 have hA0:Tch (λ_=>False) w (w.alloc (.cells #[.int .i64 (width:Int),.pointer rv] 146)):=Tch.alloc _ _ _
 obtain ⟨wA,hwA⟩:∃wA,wA=w.alloc (.cells #[.int .i64 (width:Int),.pointer rv] 146):=⟨_,rfl⟩
 rw [<-hwA] at hA0 ⊢
 have hrA:wA.heap[w.heap.size]? =some (.cells #[.int .i64 (width:Int),.pointer rv] 146):=by rw [hwA];exact heap_alloc_new _ _
 have hzA:w.heap.size<wA.heap.size:=(row_lt hrA)
 have HCL:Hid (∀W,Tch (λ_=>False) wA W->(W.cell? ⟨w.heap.size,0,none⟩=some (.int .i64 (width:Int))/\W.cell? ⟨w.heap.size,1,none⟩=some (.pointer rv)/\W.cell? ⟨n,4,none⟩=some (.int .i64 (b:Int))/\W.cell? ⟨n,5,none⟩=some (.pointer (some ⟨nl,0,none⟩))/\W.cell? ⟨n,6,none⟩=some (.pointer (some ⟨nr,0,none⟩)))/\Tch (λ_=>False) w W):=λW hT=>
  ⟨⟨(hT.cell (p:=⟨w.heap.size,0,none⟩) hzA (λh=>h)).trans (cell_row hrA),(hT.cell (p:=⟨w.heap.size,1,none⟩) hzA (λh=>h)).trans (cell_row hrA),((hA0.trans hT noE).cell (p:=⟨n,4,none⟩) hnt (λh=>h)).trans c4,((hA0.trans hT noE).cell (p:=⟨n,5,none⟩) hnt (λh=>h)).trans c5,((hA0.trans hT noE).cell (p:=⟨n,6,none⟩) hnt (λh=>h)).trans c6⟩,hA0.trans hT noE⟩
 obtain ⟨⟨a0,a1,a3,a4,a5⟩,_⟩:=HCL.out wA (Tch.refl _ _)
 have hz0:IntKind.i64.wrap 0=0:=by decide
 have hz1:IntKind.i64.wrap 1=1:=by decide
 clear hA0 hrA hwA c4 c5 c6 HIL
 have HTW:Hid (∀q,Tch (λ_=>False) w (wA.drewN q)):=λq=>(HCL.out _ (Tch.drewN _ wA q)).2
 go_wp2_with fail
 refine (HBIT.out _).mono ?_
 rintro _ _ ⟨rfl,rfl⟩
 clear HBIT
 go_wp2_with fail
 go_region_held3 (λW=>W.cell? ⟨w.heap.size,0,none⟩=some (.int .i64 (width:Int))/\W.cell? ⟨w.heap.size,1,none⟩=some (.pointer rv)/\W.cell? ⟨n,5,none⟩=some (.pointer (some ⟨nl,0,none⟩))/\W.cell? ⟨n,6,none⟩=some (.pointer (some ⟨nr,0,none⟩))) (go_keep) ((go_at_call 339;refine (HREC.out _ (HTW.out 1)).mono ?_;rintro _ w2 ⟨q,rfl,hq,ht2⟩;have hT2:Tch (λ_=>False) wA w2:=(Tch.drewN (λ_=>False) wA 1).trans ht2 noE;obtain ⟨⟨b0,b1,b3,b4,b5⟩,hTw2⟩:=HCL.out w2 hT2;obtain rfl:=hq.of_none;clear hq;have HT2:Hid (Tch (λ_=>False) wA w2):=hT2;have HW2:Hid (Tch (λ_=>False) w w2):=hTw2;clear ht2 hT2 hTw2))
 all_goals
  clear HREC a0 a1 a3 a4 a5 HTW
  go_wp2
  go_ret2
  exact ⟨some nr,rfl,HNR.out.next HW2.out,HW2.out⟩
set_option maxRecDepth 100000 in
set_option maxHeartbeats 1000000 in
theorem cut_rsome (E:Nat->Addr) (width:Nat) (hw1:1<=width) (hw:width<=32) (F:Nat->Prop) (rv:Option Addr) (k:Key) (hkl:k.length=width+1) (b:Nat) (hb:b<8 * (width+1)) (l r:Tr) (n nl nr:Nat) (w:World) (hE:Env E w) (hF:∀j,w.heap.size<=j->F j) (hrow:w.heap[n]? =some (.cells (brC (Tr.dig (dgW width) (.br b l r)) b nl nr) 243)) (hnl:NodeAt (dgW width) F w nl l) (hnr:NodeAt (dgW width) F w nr r) (hbt:bt k b=1) (s:Tr)
  (ih:∀W,Tch (λ_=>False) w W->Calls Tryz.prog 339 #[.agg #[.int .i64 (width:Int),.pointer rv],.pointer (some ⟨nr,0,none⟩),.string ⟨k.toArray⟩] W λe w'=>CutTo width F (some s) W e w'):
  Calls Tryz.prog 339 #[.agg #[.int .i64 (width:Int),.pointer rv],.pointer (some ⟨n,0,none⟩),.string ⟨k.toArray⟩] w λe w'=>CutTo width F (some (.br b l s)) w e w':=by
 have hnt:n<w.heap.size:=(row_lt hrow)
 have c4:w.cell? ⟨n,4,none⟩=some (.int .i64 (b:Int)):=cell_row hrow
 have c5:w.cell? ⟨n,5,none⟩=some (.pointer (some ⟨nl,0,none⟩)):=cell_row hrow
 have c6:w.cell? ⟨n,6,none⟩=some (.pointer (some ⟨nr,0,none⟩)):=cell_row hrow
 have HBIT:Hid (∀W,Calls Tryz.prog 288 #[.string ⟨k.toArray⟩,.int .i64 (b:Int)] W λe w'=>e=.returned (.int .i64 1)/\W=w'):=λW=>by
  have:=keyBit_any k b (by omega) (by omega) W
  rw [hbt] at this
  exact this.mono λe w' h=>⟨h.1,h.2.symm⟩
 have HIL:Hid (∀W,Tch (λ_=>False) w W->Calls Tryz.prog 224 #[.pointer (some ⟨n,0,none⟩)] W λe w'=>e=.returned (.bool false)/\w'=W):=λW hT=>isLeaf_br n _ b nl nr W ((hT.block n hnt (λh=>h)).trans hrow)
 have HREC:Hid (∀W,Tch (λ_=>False) w W->Calls Tryz.prog 339 #[.agg #[.int .i64 (width:Int),.pointer rv],.pointer (some ⟨nr,0,none⟩),.string ⟨k.toArray⟩] W λe w'=>∃q,e=.returned (.tuple #[rootV q,.nilIface])/\StAt (dgW width) F w' q (some s)/\Tch (λ_=>False) W w'):=ih
 have HE:Hid (Env E w):=hE
 have HF:Hid (∀j,w.heap.size<=j->F j):=hF
 have HNL:Hid (NodeAt _ _ _ _ _):=hnl
 have HNR:Hid (NodeAt _ _ _ _ _):=hnr
 have HPW:Hid (∀(m:Nat) W,Calls Tryz.prog 333 #[.pointer (some ⟨nl,0,none⟩),.pointer (some ⟨m,0,none⟩),.int .i64 1] W λe w'=>e=.returned (.agg #[.pointer (some ⟨nl,0,none⟩),.pointer (some ⟨m,0,none⟩)])/\Tch (λ_=>False) W w'):=λm W=>paired_any (some ⟨nl,0,none⟩) (some ⟨m,0,none⟩) 1 W
 have HNB:Hid (∀(m:Nat) W,Tch (λ_=>False) w W->NodeAt (dgW width) F W m s->Calls Tryz.prog 332 #[.int .i64 (width:Int),.int .i64 (b:Int),.agg #[.pointer (some ⟨nl,0,none⟩),.pointer (some ⟨m,0,none⟩)]] W λe w'=>∃q,e=.returned (.tuple #[.pointer (some ⟨q,0,none⟩),.nilIface])/\NodeAt (dgW width) F w' q (.br b l s)/\Tch (λ_=>False) W w'):=λm W hT hm=>by
  refine (newBranch_any E width hw1 hw b nl m l s F hb W (HE.out.tch hT noE) (HNL.out.next hT) hm).mono ?_
  rintro e w' ⟨q,rfl,h1,h2,h3⟩
  exact ⟨q,rfl,.br q b nl m l s (HF.out q (Nat.le_trans hT.size h1)) h2 ((HNL.out.next hT).next h3) (hm.next h3),h3⟩
 clear ih hrow hE hF hnl hnr hbt
 generalize (⟨k.toArray⟩:ByteArray)=kb at *
 go_enter Tryz.func339,Tryz.ntmps339
 go_wp2_with fail
 refine (HIL.out _ (Tch.alloc _ _ _)).mono ?_
 rintro _ _ ⟨rfl,rfl⟩
 have hA0:Tch (λ_=>False) w (w.alloc (.cells #[.int .i64 (width:Int),.pointer rv] 146)):=Tch.alloc _ _ _
 obtain ⟨wA,hwA⟩:∃wA,wA=w.alloc (.cells #[.int .i64 (width:Int),.pointer rv] 146):=⟨_,rfl⟩
 rw [<-hwA] at hA0 ⊢
 have hrA:wA.heap[w.heap.size]? =some (.cells #[.int .i64 (width:Int),.pointer rv] 146):=by rw [hwA];exact heap_alloc_new _ _
 have hzA:w.heap.size<wA.heap.size:=(row_lt hrA)
 have HCL:Hid (∀W,Tch (λ_=>False) wA W->(W.cell? ⟨w.heap.size,0,none⟩=some (.int .i64 (width:Int))/\W.cell? ⟨w.heap.size,1,none⟩=some (.pointer rv)/\W.cell? ⟨n,4,none⟩=some (.int .i64 (b:Int))/\W.cell? ⟨n,5,none⟩=some (.pointer (some ⟨nl,0,none⟩))/\W.cell? ⟨n,6,none⟩=some (.pointer (some ⟨nr,0,none⟩)))/\Tch (λ_=>False) w W):=λW hT=>
  ⟨⟨(hT.cell (p:=⟨w.heap.size,0,none⟩) hzA (λh=>h)).trans (cell_row hrA),(hT.cell (p:=⟨w.heap.size,1,none⟩) hzA (λh=>h)).trans (cell_row hrA),((hA0.trans hT noE).cell (p:=⟨n,4,none⟩) hnt (λh=>h)).trans c4,((hA0.trans hT noE).cell (p:=⟨n,5,none⟩) hnt (λh=>h)).trans c5,((hA0.trans hT noE).cell (p:=⟨n,6,none⟩) hnt (λh=>h)).trans c6⟩,hA0.trans hT noE⟩
 obtain ⟨⟨a0,a1,a3,a4,a5⟩,_⟩:=HCL.out wA (Tch.refl _ _)
 have hz0:IntKind.i64.wrap 0=0:=by decide
 have hz1:IntKind.i64.wrap 1=1:=by decide
 clear hA0 hrA hwA c4 c5 c6 HIL
 have HTW:Hid (∀q,Tch (λ_=>False) w (wA.drewN q)):=λq=>(HCL.out _ (Tch.drewN _ wA q)).2
 go_wp2_with fail
 refine (HBIT.out _).mono ?_
 rintro _ _ ⟨rfl,rfl⟩
 clear HBIT
 go_wp2_with fail
 go_region_held3 (λW=>W.cell? ⟨w.heap.size,0,none⟩=some (.int .i64 (width:Int))/\W.cell? ⟨w.heap.size,1,none⟩=some (.pointer rv)/\W.cell? ⟨n,5,none⟩=some (.pointer (some ⟨nl,0,none⟩))/\W.cell? ⟨n,6,none⟩=some (.pointer (some ⟨nr,0,none⟩))) (go_keep) ((go_at_call 339;refine (HREC.out _ (HTW.out 1)).mono ?_;rintro _ w2 ⟨q,rfl,hq,ht2⟩;have hT2:Tch (λ_=>False) wA w2:=(Tch.drewN (λ_=>False) wA 1).trans ht2 noE;obtain ⟨⟨b0,b1,b3,b4,b5⟩,hTw2⟩:=HCL.out w2 hT2;obtain ⟨m,rfl,hm⟩:=hq.of_some;have HM:Hid (NodeAt _ _ _ _ _):=hm;clear hm hq;have HT2:Hid (Tch (λ_=>False) wA w2):=hT2;have HW2:Hid (Tch (λ_=>False) w w2):=hTw2;clear ht2 hT2 hTw2))
 all_goals
  clear HREC a0 a1 a3 a4 a5 HTW
  have HTW:Hid (∀q,Tch (λ_=>False) wA (w2.drewN q)):=λq=>HT2.out.trans (Tch.drewN (λ_=>False) w2 q) noE
  go_wp2_with fail
  go_region_held3 (λW=>W.cell? ⟨w.heap.size,0,none⟩=some (.int .i64 (width:Int))/\W.cell? ⟨n,4,none⟩=some (.int .i64 (b:Int))) (go_keep) ((first | (go_at_call 333;refine (HPW.out m _).mono ?_;rintro _ w3 ⟨rfl,ht3⟩;have hT3:Tch (λ_=>False) wA w3:=(HTW.out 1).trans ht3 noE;obtain ⟨⟨d0,d1,d3,d4,d5⟩,hTw3⟩:=HCL.out w3 hT3;have HM3:Hid (NodeAt (dgW width) F w3 m _):=(HM.out.next (Tch.drewN (λ_=>False) w2 1)).next ht3;have HT3:Hid (Tch (λ_=>False) wA w3):=hT3;have HW3:Hid (Tch (λ_=>False) w w3):=hTw3;clear ht3 hT3 hTw3) | (go_at_call 332;refine (HNB.out m _ HW3.out HM3.out).mono ?_;rintro _ w4 ⟨q,rfl,hq,ht4⟩;have hT4:Tch (λ_=>False) wA w4:=HT3.out.trans ht4 noE;obtain ⟨⟨f0,f1,f3,f4,f5⟩,hTw4⟩:=HCL.out w4 hT4;have HQ:Hid (NodeAt _ _ _ _ _):=hq;have HW4:Hid (Tch (λ_=>False) w w4):=hTw4;clear ht4 hT4 hq hTw4)))
  all_goals
   go_wp2
   go_ret2
   exact ⟨some q,rfl,HQ.out,HW4.out⟩
set_option maxRecDepth 100000 in
set_option maxHeartbeats 1000000 in
theorem cut_rnone (E:Nat->Addr) (width:Nat) (hw1:1<=width) (hw:width<=32) (F:Nat->Prop) (rv:Option Addr) (k:Key) (hkl:k.length=width+1) (b:Nat) (hb:b<8 * (width+1)) (l r:Tr) (n nl nr:Nat) (w:World) (hE:Env E w) (hF:∀j,w.heap.size<=j->F j) (hrow:w.heap[n]? =some (.cells (brC (Tr.dig (dgW width) (.br b l r)) b nl nr) 243)) (hnl:NodeAt (dgW width) F w nl l) (hnr:NodeAt (dgW width) F w nr r) (hbt:bt k b=1)
  (ih:∀W,Tch (λ_=>False) w W->Calls Tryz.prog 339 #[.agg #[.int .i64 (width:Int),.pointer rv],.pointer (some ⟨nr,0,none⟩),.string ⟨k.toArray⟩] W λe w'=>CutTo width F none W e w'):
  Calls Tryz.prog 339 #[.agg #[.int .i64 (width:Int),.pointer rv],.pointer (some ⟨n,0,none⟩),.string ⟨k.toArray⟩] w λe w'=>CutTo width F (some l) w e w':=by
 have hnt:n<w.heap.size:=(row_lt hrow)
 have c4:w.cell? ⟨n,4,none⟩=some (.int .i64 (b:Int)):=cell_row hrow
 have c5:w.cell? ⟨n,5,none⟩=some (.pointer (some ⟨nl,0,none⟩)):=cell_row hrow
 have c6:w.cell? ⟨n,6,none⟩=some (.pointer (some ⟨nr,0,none⟩)):=cell_row hrow
 have HBIT:Hid (∀W,Calls Tryz.prog 288 #[.string ⟨k.toArray⟩,.int .i64 (b:Int)] W λe w'=>e=.returned (.int .i64 1)/\W=w'):=λW=>by
  have:=keyBit_any k b (by omega) (by omega) W
  rw [hbt] at this
  exact this.mono λe w' h=>⟨h.1,h.2.symm⟩
 have HIL:Hid (∀W,Tch (λ_=>False) w W->Calls Tryz.prog 224 #[.pointer (some ⟨n,0,none⟩)] W λe w'=>e=.returned (.bool false)/\w'=W):=λW hT=>isLeaf_br n _ b nl nr W ((hT.block n hnt (λh=>h)).trans hrow)
 have HREC:Hid (∀W,Tch (λ_=>False) w W->Calls Tryz.prog 339 #[.agg #[.int .i64 (width:Int),.pointer rv],.pointer (some ⟨nr,0,none⟩),.string ⟨k.toArray⟩] W λe w'=>∃q,e=.returned (.tuple #[rootV q,.nilIface])/\StAt (dgW width) F w' q none/\Tch (λ_=>False) W w'):=ih
 have HE:Hid (Env E w):=hE
 have HF:Hid (∀j,w.heap.size<=j->F j):=hF
 have HNL:Hid (NodeAt _ _ _ _ _):=hnl
 have HNR:Hid (NodeAt _ _ _ _ _):=hnr
 clear ih hrow hE hF hnl hnr hbt
 generalize (⟨k.toArray⟩:ByteArray)=kb at *
 go_enter Tryz.func339,Tryz.ntmps339
 go_wp2_with fail
 refine (HIL.out _ (Tch.alloc _ _ _)).mono ?_
 rintro _ _ ⟨rfl,rfl⟩
 have hA0:Tch (λ_=>False) w (w.alloc (.cells #[.int .i64 (width:Int),.pointer rv] 146)):=Tch.alloc _ _ _
 obtain ⟨wA,hwA⟩:∃wA,wA=w.alloc (.cells #[.int .i64 (width:Int),.pointer rv] 146):=⟨_,rfl⟩
 rw [<-hwA] at hA0 ⊢
 have hrA:wA.heap[w.heap.size]? =some (.cells #[.int .i64 (width:Int),.pointer rv] 146):=by rw [hwA];exact heap_alloc_new _ _
 have hzA:w.heap.size<wA.heap.size:=(row_lt hrA)
 have HCL:Hid (∀W,Tch (λ_=>False) wA W->(W.cell? ⟨w.heap.size,0,none⟩=some (.int .i64 (width:Int))/\W.cell? ⟨w.heap.size,1,none⟩=some (.pointer rv)/\W.cell? ⟨n,4,none⟩=some (.int .i64 (b:Int))/\W.cell? ⟨n,5,none⟩=some (.pointer (some ⟨nl,0,none⟩))/\W.cell? ⟨n,6,none⟩=some (.pointer (some ⟨nr,0,none⟩)))/\Tch (λ_=>False) w W):=λW hT=>
  ⟨⟨(hT.cell (p:=⟨w.heap.size,0,none⟩) hzA (λh=>h)).trans (cell_row hrA),(hT.cell (p:=⟨w.heap.size,1,none⟩) hzA (λh=>h)).trans (cell_row hrA),((hA0.trans hT noE).cell (p:=⟨n,4,none⟩) hnt (λh=>h)).trans c4,((hA0.trans hT noE).cell (p:=⟨n,5,none⟩) hnt (λh=>h)).trans c5,((hA0.trans hT noE).cell (p:=⟨n,6,none⟩) hnt (λh=>h)).trans c6⟩,hA0.trans hT noE⟩
 obtain ⟨⟨a0,a1,a3,a4,a5⟩,_⟩:=HCL.out wA (Tch.refl _ _)
 have hz0:IntKind.i64.wrap 0=0:=by decide
 have hz1:IntKind.i64.wrap 1=1:=by decide
 clear hA0 hrA hwA c4 c5 c6 HIL
 have HTW:Hid (∀q,Tch (λ_=>False) w (wA.drewN q)):=λq=>(HCL.out _ (Tch.drewN _ wA q)).2
 go_wp2_with fail
 refine (HBIT.out _).mono ?_
 rintro _ _ ⟨rfl,rfl⟩
 clear HBIT
 go_wp2_with fail
 go_region_held3 (λW=>W.cell? ⟨w.heap.size,0,none⟩=some (.int .i64 (width:Int))/\W.cell? ⟨w.heap.size,1,none⟩=some (.pointer rv)/\W.cell? ⟨n,5,none⟩=some (.pointer (some ⟨nl,0,none⟩))/\W.cell? ⟨n,6,none⟩=some (.pointer (some ⟨nr,0,none⟩))) (go_keep) ((go_at_call 339;refine (HREC.out _ (HTW.out 1)).mono ?_;rintro _ w2 ⟨q,rfl,hq,ht2⟩;have hT2:Tch (λ_=>False) wA w2:=(Tch.drewN (λ_=>False) wA 1).trans ht2 noE;obtain ⟨⟨b0,b1,b3,b4,b5⟩,hTw2⟩:=HCL.out w2 hT2;obtain rfl:=hq.of_none;clear hq;have HT2:Hid (Tch (λ_=>False) wA w2):=hT2;have HW2:Hid (Tch (λ_=>False) w w2):=hTw2;clear ht2 hT2 hTw2))
 all_goals
  clear HREC a0 a1 a3 a4 a5 HTW
  go_wp2
  go_ret2
  exact ⟨some nl,rfl,HNL.out.next HW2.out,HW2.out⟩
theorem cut_any (E:Nat->Addr) (width:Nat) (hw1:1<=width) (hw:width<=32) (F:Nat->Prop) (rv:Option Addr) (k:Key) (hkl:k.length=width+1):∀(t:Tr) (n:Nat) (w:World),TrOk width t->Env E w->(∀j,w.heap.size<=j->F j)->NodeAt (dgW width) F w n t->
  Calls Tryz.prog 339 #[.agg #[.int .i64 (width:Int),.pointer rv],.pointer (some ⟨n,0,none⟩),.string ⟨k.toArray⟩] w λe w'=>CutTo width F (t.cut k) w e w':=by
 intro t
 induction t with
 | leaf k' o'=>
  intro n w _ _ _ hn
  exact cut_leaf width F rv k n w k' o' hn
 | br b l r ihl ihr=>
  intro n w hok hE hF hn
  obtain ⟨hb,hokl,hokr⟩:=hok
  cases hn with
  | br _ _ nl nr _ _ hFn hr hnl hnr=>
   have il:∀W,Tch (λ_=>False) w W->_:=λW (hT:Tch (λ_=>False) w W)=>ihl nl W hokl (hE.tch hT noE) (λj hj=>hF j (Nat.le_trans hT.size hj)) (hnl.next hT)
   have ir:∀W,Tch (λ_=>False) w W->_:=λW (hT:Tch (λ_=>False) w W)=>ihr nr W hokr (hE.tch hT noE) (λj hj=>hF j (Nat.le_trans hT.size hj)) (hnr.next hT)
   simp only [Tr.cut]
   by_cases h0:bt k b=0
   ·rw [if_pos h0]
    cases hc:l.cut k with
    | none=>rw [hc] at il;exact cut_lnone E width hw1 hw F rv k hkl b hb l r n nl nr w hE hF hr hnl hnr h0 il
    | some s=>rw [hc] at il;exact cut_lsome E width hw1 hw F rv k hkl b hb l r n nl nr w hE hF hr hnl hnr h0 s il
   ·have h1:bt k b=1:=by have:=bt_two k b;omega
    rw [if_neg h0]
    cases hc:r.cut k with
    | none=>rw [hc] at ir;exact cut_rnone E width hw1 hw F rv k hkl b hb l r n nl nr w hE hF hr hnl hnr h1 ir
    | some s=>rw [hc] at ir;exact cut_rsome E width hw1 hw F rv k hkl b hb l r n nl nr w hE hF hr hnl hnr h1 s ir
end Go.Proofs.YtighkdnooglfjaaGreatDoor
