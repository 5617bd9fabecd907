/-
  The contract of (*wire.Coder).Coin, whatever the port's state is; outputs and coins as parts of lists ('partO', 'partC'), and (*wire.Coder).FirstOuts.
  The contract of (*wire.Coder).Tx; transactions as parts of lists ('partT'), and (*wire.Coder).Body.
-/
import Derived.Test.YtighkdnooglfjaaGreatDoorSwLst
import Derived.Test.YtighkdnooglfjaaGreatDoorSwLsO
import Derived.Test.YtighkdnooglfjaaGreatDoorSwLsC
import Derived.Test.YtighkdnooglfjaaGreatDoorSwPRt
import Derived.Test.YtighkdnooglfjaaGreatDoorSwLsT
namespace Go.Proofs.YtighkdnooglfjaaGreatDoor
open Go.RowKit

theorem coinX_wrap (n:Int):IntKind.u64.wrap n=(coinX n:Int):=by
 simp [IntKind.wrap,IntKind.bits,IntKind.signed,coinX];omega
def stCoin (width:Nat) (c:ByteArray×Int) (st:Option PS):(List UInt8×Nat)×Option PS:=
 (((stTxt c.1.data.toList width st).1,(stNum (coinX c.2) 1 (stTxt c.1.data.toList width st).2).1),if 3<=(stNum (coinX c.2) 1 (stTxt c.1.data.toList width st).2).1 then none else (stNum (coinX c.2) 1 (stTxt c.1.data.toList width st).2).2)
theorem stCoin_none (width:Nat) (c:ByteArray×Int) (p:PS) (h:p.coin width c=none):(stCoin width c (some p)).2=none:=by
 unfold stCoin
 unfold PS.coin at h
 cases h1:p.txt c.1.data.toList width with
 | none=>rw [stTxt_none h1,stNum_bad];rfl
 | some r=>
  obtain ⟨t,p1⟩:=r
  rw [stTxt_some h1]
  simp only [h1] at h
  cases h2:p1.num (coinX c.2) 1 with
  | none=>rw [stNum_none h2];rfl
  | some r=>
   obtain ⟨m,p2⟩:=r
   rw [stNum_some h2]
   simp only [h2] at h
   split at h
   ·cases h
   ·exact if_pos (by simp only;omega)
theorem stCoin_some (width:Nat) (c y:ByteArray×Int) (p p2:PS) (h:p.coin width c=some (y,p2)):(stCoin width c (some p)).2=some p2/\y=(⟨(stCoin width c (some p)).1.1.toArray⟩,((stCoin width c (some p)).1.2:Int)):=by
 unfold stCoin
 unfold PS.coin at h
 cases h1:p.txt c.1.data.toList width with
 | none=>rw [h1] at h;cases h
 | some r=>
  obtain ⟨t,p1⟩:=r
  rw [stTxt_some h1]
  simp only [h1] at h
  cases h2:p1.num (coinX c.2) 1 with
  | none=>rw [h2] at h;cases h
  | some r=>
   obtain ⟨m,p2'⟩:=r
   rw [stNum_some h2]
   simp only [h2] at h
   split at h
   ·rename_i h3
    simp only [Option.some.injEq,Prod.mk.injEq] at h
    obtain ⟨rfl,rfl⟩:=h
    exact ⟨if_neg (by simp only;omega),rfl⟩
   ·cases h
theorem i64wrap_id (m:Nat) (h:m<256):IntKind.i64.wrap (m:Int)=(m:Int):=i64wrap_small _ (by omega) (by omega)

set_option maxRecDepth 100000 in
set_option maxHeartbeats 1000000 in
theorem coin_st (E:Nat->Addr) (b:Nat) (hb12:18<=b) (g:Option Nat) (width:Nat) (c:ByteArray×Int) (st:Option PS) (w:World) (hE:Env E w) (hp:PortSt E w b g width st) (hd:stLen st+width<=90000000):
  Calls Tryz.prog 203 #[.pointer (some ⟨b,0,none⟩),.agg #[.string c.1,.int .i64 c.2]] w λe w'=>e=.returned (.agg #[.string ⟨(stCoin width c st).1.1.toArray⟩,.int .i64 ((stCoin width c st).1.2:Int)])/\StTo E w w' b g width (stCoin width c st).2:=by
 have hlt:=hp.lt
 have hx:=coinX_wrap c.2
 obtain ⟨s,N⟩:=c
 simp only at hx
 have HC:Hid (stCoin width (s,N) st=(((stTxt s.data.toList width st).1,(stNum (coinX N) 1 (stTxt s.data.toList width st).2).1),if 3<=(stNum (coinX N) 1 (stTxt s.data.toList width st).2).1 then none else (stNum (coinX N) 1 (stTxt s.data.toList width st).2).2)):=rfl
 simp only
 go_enter Tryz.func203,Tryz.ntmps203
 go_wp2_with fail
 refine (digest_st E b g width s st _ (hE.allocs _ _) (hp.next (Tch.allocs _ _ _ _)) (by omega)).mono ?_
 rintro _ w1 ⟨rfl,g1,hp1,hm1,ht1⟩
 have hl1:=stTxt_len s.data.toList width st
 generalize hS1:(stTxt s.data.toList width st).2=st1 at *
 generalize hTB:(⟨(stTxt s.data.toList width st).1.toArray⟩:ByteArray)=tb at *
 have HS1:Hid (_=st1):=hS1
 have HTB:Hid (_=tb):=hTB
 clear hS1 hTB
 have cB:w1.cell? ⟨w.heap.size,1,none⟩=some (.int .i64 N):=(ht1.cell (p:=⟨w.heap.size,1,none⟩) (by simp;omega) (st_new hp _ (Nat.le_refl _))).trans (cell_row (heap_alloc2_old _ _ _))
 have rR:w1.heap[w.heap.size+1]? =some (.cells #[.string ⟨#[]⟩,.int .i64 0] 49):=(ht1.block _ (by simp) (st_new hp _ (by omega))).trans (heap_alloc2_new _ _ _)
 have hsz1:=ht1.size
 simp at hsz1
 have HE1:Hid (Env E w1):=(hE.allocs _ _).tch ht1 (st_high hb12 hp)
 have HN:Hid (∀g',Moved w1 g1 g'->¬(w.heap.size+1=b\/some (w.heap.size+1)=g')):=λg' hm=>st_new_moved hp (hm1.trans hm ht1.size) _ (by omega) (by simp)
 have RR:Hid (_=_):=rR
 have HM1:Hid (Moved _ _ _):=hm1
 have HT1:Hid (Tch _ _ _):=ht1
 have HP1:Hid (PortSt _ _ _ _ _ _):=hp1
 clear rR hm1 ht1 hp hE hp1
 go_wp2_with fail
 refine (number_st E b g1 width (coinX N) 1 st1 _ HE1.out HP1.out (by omega) (by omega)).mono ?_
 rintro _ w2 ⟨rfl,g2,hp2,hm2,ht2⟩
 have hm:=stNum_lt (coinX N) 1 st1
 generalize hS2:(stNum (coinX N) 1 st1).2=st2 at *
 generalize hM:(stNum (coinX N) 1 st1).1=m at *
 have HS2:Hid (_=st2):=hS2
 have HMM:Hid (_=m):=hM
 clear hS2 hM
 have hw2:=i64wrap_id m (by omega)
 have rR2:w2.heap[w.heap.size+1]? =some (.cells #[.string ⟨#[]⟩,.int .i64 0] 49):=(ht2.block _ (by omega) (HN.out g1 (.inl rfl))).trans RR.out
 have RR2:Hid (_=_):=rR2
 have HE2:Hid (Env E w2):=HE1.out.tch ht2 (st_high hb12 HP1.out)
 have HP2:Hid (PortSt _ _ _ _ _ _):=hp2
 have HM2:Hid (Moved _ _ _):=hm2
 have HT2:Hid (Tch _ _ _):=ht2
 have TA:Hid (Tch (λk=>k=b\/some k=g) _ w2):=port_trans HT1.out ht2 HM1.out
 have MA:Hid (Moved _ g g2):=HM1.out.trans hm2 HT1.out.size
 by_cases h3:3<=m
 ·have h3i:(3:Int)<=(m:Int):=by omega
  clear rR2 hp2 hm2 ht2
  go_wp2_with fail
  refine (refuse_st E b g2 width _ st2 w2 HE2.out HP2.out).mono ?_
  rintro _ w3 ⟨rfl,g3,hp3,hm3,ht3⟩
  have rR3:w3.heap[w.heap.size+1]? =some (.cells #[.string ⟨#[]⟩,.int .i64 0] 49):=(ht3.block _ (row_lt RR2.out) (HN.out g2 HM2.out)).trans RR2.out
  have e0:w3.cell? ⟨w.heap.size+1,0,none⟩=some (.string ⟨#[]⟩):=cell_row rR3
  have e1:w3.cell? ⟨w.heap.size+1,1,none⟩=some (.int .i64 0):=cell_row rR3
  have fR:∀j,w3.frozen? ⟨w.heap.size+1,j,none⟩=false:=λj=>frozen_of_row _ _ _ _ _ rR3
  have RR3:Hid (_=_):=rR3
  have HP3:Hid (PortSt _ _ _ _ _ _):=hp3
  have HM3:Hid (Moved _ _ _):=hm3
  have HT3:Hid (Tch _ _ _):=ht3
  clear rR3 hp3 hm3 ht3
  go_wp2
  rw [set2 _ _ _ _ _ _ _ RR3.out]
  obtain rfl:=HTB.out
  obtain rfl:=HS2.out
  obtain rfl:=HMM.out
  obtain rfl:=HS1.out
  refine bodyPost_ret (v:=.agg #[.string _,.int .i64 _]) (results_cell_row Tryz.results203 _ _ (w.heap.size+1) _ _ (0,0) _ rfl (setRow_heap _ _ _ _ _ _ RR3.out) Tryz.underlying49 rfl (by kernel_rfl)) rfl ⟨by rw [HC.out],?_⟩
  rw [HC.out,if_pos h3]
  refine StTo.row (StTo.fresh (Tch.allocs _ _ _ _) (StTo.trans MA.out TA.out ⟨g3,HP3.out,HM3.out,HT3.out⟩)) (by omega) RR3.out (by decide) (by omega) (λg' _ hg e=>?_)
  exact HN.out g3 (HM2.out.trans HM3.out HT2.out.size) (.inr (by rw [e];exact hg.same HP3.out))
 ·have h3i:¬(3:Int)<=(m:Int):=by omega
  have e0:w2.cell? ⟨w.heap.size+1,0,none⟩=some (.string ⟨#[]⟩):=cell_row rR2
  have e1:w2.cell? ⟨w.heap.size+1,1,none⟩=some (.int .i64 0):=cell_row rR2
  have fR:∀j,w2.frozen? ⟨w.heap.size+1,j,none⟩=false:=λj=>frozen_of_row _ _ _ _ _ rR2
  clear rR2 hp2 hm2 ht2
  go_wp2
  rw [set2 _ _ _ _ _ _ _ RR2.out]
  obtain rfl:=HTB.out
  obtain rfl:=HS2.out
  obtain rfl:=HMM.out
  obtain rfl:=HS1.out
  refine bodyPost_ret (v:=.agg #[.string _,.int .i64 _]) (results_cell_row Tryz.results203 _ _ (w.heap.size+1) _ _ (0,0) _ rfl (setRow_heap _ _ _ _ _ _ RR2.out) Tryz.underlying49 rfl (by kernel_rfl)) rfl ⟨by rw [HC.out],?_⟩
  rw [HC.out,if_neg h3]
  refine StTo.row (StTo.fresh (Tch.allocs _ _ _ _) ⟨g2,HP2.out,MA.out,TA.out⟩) (by omega) RR2.out (by decide) (by omega) (λg' _ hg e=>?_)
  exact HN.out g2 HM2.out (.inr (by rw [e];exact hg.same HP2.out))

theorem num1_lt (x m:Nat) (p p1:PS) (h:p.num x 1=some (m,p1)):m<256:=by
 have:=stNum_lt x 1 (some p)
 rw [stNum_some h] at this
 simpa using this
theorem out_inv (a o:Nat) (y:Nat×Nat) (p p2:PS) (h:p.out a o=some (y,p2)):∃p1,p.num a 8=some (y.1,p1)/\p1.num o 1=some (y.2,p2)/\p1.len<=p.len+8/\p2.len<=p.len+9/\y.2<256:=by
 unfold PS.out at h
 cases q:p.num a 8 with
 | none=>simp [q] at h
 | some r=>
  obtain ⟨a',p1⟩:=r
  simp only [q] at h
  cases q2:p1.num o 1 with
  | none=>simp [q2] at h
  | some s=>
   obtain ⟨o',p2'⟩:=s
   simp only [q2,Option.some.injEq,Prod.mk.injEq] at h
   obtain ⟨rfl,rfl⟩:=h
   have l1:=num_len _ _ _ _ _ q
   have l2:=num_len _ _ _ _ _ q2
   exact ⟨p1,rfl,q2,l1,by omega,num1_lt _ _ _ _ q2⟩
def encO (o:Nat×Nat):VV:=(.int .u64 (o.1:Int),.int .u8 (o.2:Int))
def partO:PartOf (Nat×Nat) where
 f:=λo p=>p.out o.1 o.2
 grow:=9
 zero:=(0,0)
 zeroV:=zO
 Init:=λ_ _ _ x o=>x=encO o/\o.2<256
 Done:=λ_ _ _ x o=>x=encO o
theorem lawO (E:Nat->Addr) (b:Nat) (hb12:18<=b) (width lim:Nat) (hl:lim<=80000000):PartLaw E b width lim lkO.fP partO ShO where
 init_tch:=λh _ _ _=>h
 init_zero:=λ_ _=>⟨rfl,by decide⟩
 init_shape:=λh=>⟨_,_,h.1⟩
 done_tch:=λh _ _ _=>h
 done_mono:=λh _=>h
 like:=λ{a a' p p'} h=>by
  obtain ⟨p1,h1,h2,_⟩:=out_inv _ _ _ _ _ h
  exact (num_like h1).trans (num_like h2)
 len:=λ{w x a a' p p'} _ h=>by
  obtain ⟨p1,_,_,_,h2,_⟩:=out_inv _ _ _ _ _ h
  exact h2
 call:=λ{w g p x a} hE hp hI hd=>by
  obtain ⟨rfl,ha⟩:=hI
  show Calls _ _ #[_,.agg #[.int .u64 (a.1:Int),.int .u8 (a.2:Int)]] _ _
  show Calls _ _ _ _ λe w'=>∃y,ShO y/\e=_/\ToP E w b g width partO (p.out a.1 a.2) y w'
  cases h:p.out a.1 a.2 with
  | none=>
   have hno:Calls Tryz.prog 205 #[.pointer (some ⟨b,0,none⟩),.agg #[.int .u64 (a.1:Int),.int .u8 (a.2:Int)]] w λe w'=>∃x y:Int,e=.returned (.agg #[.int .u64 x,.int .u8 y])/\PortNo E w w' b g width:=by
    unfold PS.out at h
    cases h1:p.num a.1 8 with
    | none=>exact out_none1 E b g width a.1 a.2 p w hE hp (by omega) h1
    | some r=>
     obtain ⟨a',p1⟩:=r
     simp only [h1] at h
     cases h2:p1.num a.2 1 with
     | none=>exact out_none2 E b hb12 g width a.1 a.2 a' p p1 w hE hp (by omega) ha h1 h2
     | some r=>simp [h2] at h
   refine hno.mono ?_
   rintro e w' ⟨x,y,rfl,g',p',h1,h2,h3⟩
   exact ⟨(.int .u64 x,.int .u8 y),⟨_,_,rfl⟩,rfl,g',_,p',h1,h2,h3,.base⟩
  | some r=>
   obtain ⟨y,p2⟩:=r
   obtain ⟨p1,h1,h2,l1,l2,hy⟩:=out_inv _ _ _ _ _ h
   refine (out_some b g width a.1 a.2 y.1 y.2 p p1 p2 w hp (by omega) (by omega) ha h1 h2 hy).mono ?_
   rintro e w' ⟨rfl,g',k1,k2,k3⟩
   exact ⟨encO y,⟨_,_,rfl⟩,rfl,g',_,p2,k1,k2,k3,rfl,rfl,rfl⟩
def encC (c:ByteArray×Int):VV:=(.string c.1,.int .i64 c.2)
def partC (width:Nat):PartOf (ByteArray×Int) where
 f:=λc p=>p.coin width c
 grow:=width+1
 zero:=(⟨#[]⟩,0)
 zeroV:=zC
 Init:=λ_ _ _ x c=>x=encC c
 Done:=λ_ _ _ x c=>x=encC c
theorem coin_parts {width:Nat} {c y:ByteArray×Int} {p p2:PS} (h:p.coin width c=some (y,p2)):p.like p2/\p2.len<=p.len+(width+1):=by
 unfold PS.coin at h
 cases q:p.txt c.1.data.toList width with
 | none=>simp [q] at h
 | some r=>
  obtain ⟨t,p1⟩:=r
  simp only [q] at h
  cases q2:p1.num (coinX c.2) 1 with
  | none=>simp [q2] at h
  | some s=>
   obtain ⟨m,p2'⟩:=s
   simp only [q2] at h
   split at h
   ·simp only [Option.some.injEq,Prod.mk.injEq] at h
    obtain ⟨_,rfl⟩:=h
    have l1:=txt_len _ _ _ _ _ q
    have l2:=num_len _ _ _ _ _ q2
    exact ⟨(txt_like q).trans (num_like q2),by omega⟩
   ·cases h
theorem lawC (E:Nat->Addr) (b:Nat) (hb12:18<=b) (width lim:Nat) (hl:lim+width<=80000000):PartLaw E b width lim lkC.fP (partC width) ShC where
 init_tch:=λh _ _ _=>h
 init_zero:=λ_ _=>rfl
 init_shape:=λh=>⟨_,_,h⟩
 done_tch:=λh _ _ _=>h
 done_mono:=λh _=>h
 like:=λh=>(coin_parts h).1
 len:=λ_ h=>(coin_parts h).2
 call:=λ{w g p x a} hE hp hI hd=>by
  obtain rfl:=hI
  show Calls _ _ #[_,.agg #[.string a.1,.int .i64 a.2]] _ _
  refine (coin_st E b hb12 g width a (some p) w hE hp (by simp only [stLen];omega)).mono ?_
  rintro e w' ⟨rfl,g',k1,k2,k3⟩
  refine ⟨(.string _,.int .i64 _),⟨_,_,rfl⟩,rfl,?_⟩
  show ToP E w b g width (partC width) (p.coin width a) _ w'
  cases h:p.coin width a with
  | none=>
   rw [stCoin_none width a p h] at k1
   obtain ⟨p',t,u,h1,h2⟩:=k1
   exact ⟨g',_,p',h1,k2,k3,h2⟩
  | some r=>
   obtain ⟨y,p2⟩:=r
   obtain ⟨e1,e2⟩:=stCoin_some width a y p p2 h
   rw [e1] at k1
   exact ⟨g',_,p2,k1,k2,k3,rfl,rfl,by rw [e2];rfl⟩
theorem many_outs:∀(l:List (Nat×Nat)) (p:PS),PS.many partO.f l p=PS.outs l p
 | [],_=>rfl
 | x :: r,p=>by
  simp only [PS.many,PS.outs]
  have e:partO.f x p=p.out x.1 x.2:=rfl
  rw [e]
  cases p.out x.1 x.2 with
  | none=>rfl
  | some q=>simp only [many_outs r];cases PS.outs r q.2 <;> rfl
theorem many_coins (width:Nat):∀(l:List (ByteArray×Int)) (p:PS),PS.many (partC width).f l p=PS.coins width l p
 | [],_=>rfl
 | x :: r,p=>by
  simp only [PS.many,PS.coins]
  have e:(partC width).f x p=p.coin width x:=rfl
  rw [e]
  cases p.coin width x with
  | none=>rfl
  | some q=>simp only [many_coins width r];cases PS.coins width r q.2 <;> rfl
theorem startV_O (l:List (Nat×Nat)) (cnt:Nat):startV (0,0) l cnt=startO l cnt:=by
 unfold startV startO
 cases l <;> simp
theorem startV_C (l:List (ByteArray×Int)) (cnt:Nat):startV (⟨#[]⟩,0) l cnt=startC l cnt:=by
 unfold startV startC
 cases l <;> simp
theorem lst_O (least most:Nat) (l:List (Nat×Nat)) (p:PS):p.lst partO.f partO.zero 1 least most l=p.listO least most l:=by
 unfold PS.lst PS.listO
 cases p.num l.length 1 with
 | none=>rfl
 | some r=>simp only [many_outs,<-startV_O];rfl
theorem lst_C (width least most:Nat) (l:List (ByteArray×Int)) (p:PS):p.lst (partC width).f (partC width).zero 1 least most l=p.listC width least most l:=by
 unfold PS.lst PS.listC
 cases p.num l.length 1 with
 | none=>rfl
 | some r=>simp only [many_coins,<-startV_C];rfl
theorem OutsAt.vat {B:Nat} {w:World} {v:Value} {l:List (Nat×Nat)} (h:OutsAt B w v l):VAt B w v (l.map encO):=by
 rcases h with ⟨h1,h2⟩ | ⟨gi,oi,c,h1,h2,h3,h4⟩
 ·exact .inl ⟨h1,by rw [h2];rfl⟩
 ·exact .inr ⟨gi,oi,c,by rw [List.length_map];exact h1,h2,h3,λi hi=>by
   rw [List.getElem_map];exact h4 i (by simpa using hi)⟩
theorem CoinsAt.vat {B:Nat} {w:World} {v:Value} {l:List (ByteArray×Int)} (h:CoinsAt B w v l):VAt B w v (l.map encC):=by
 rcases h with ⟨h1,h2⟩ | ⟨gi,oi,c,h1,h2,h3,h4⟩
 ·exact .inl ⟨h1,by rw [h2];rfl⟩
 ·exact .inr ⟨gi,oi,c,by rw [List.length_map];exact h1,h2,h3,λi hi=>by
   rw [List.getElem_map];exact h4 i (by simpa using hi)⟩
theorem map_of_done {α:Type} (enc:α->VV):∀(xs:List VV) (ys:List α),xs.length=ys.length->(∀(j:Nat) x a,xs[j]? =some x->ys[j]? =some a->x=enc a)->xs=ys.map enc:=by
 intro xs ys hl h
 apply List.ext_getElem (by simpa using hl)
 intro j h1 h2
 rw [List.getElem_map]
 exact h j _ _ (List.getElem?_eq_getElem h1) (List.getElem?_eq_getElem (by omega))
def ToO (E:Nat->Addr) (w:World) (b:Nat) (g:Option Nat) (width:Nat) (r:Option (List (Nat×Nat)×PS)) (e:Ending) (w':World):Prop:=
 match r with
 | some (ys,p2)=>∃gp,e=.returned (.slice (some ⟨gp,0,none⟩) ys.length ys.length)/\w.heap.size<=gp/\w'.heap[gp]? =some (.cells (vvA (ys.map encO)) 80)/\∃g',PortAt w' b g' width .nilIface p2/\some gp ≠ g'/\Moved w g g'/\Tch (λk=>k=b\/some k=g) w w'
 | none=>(∃a n c,e=.returned (.slice a n c))/\PortBad E w w' b g width
def ToC (E:Nat->Addr) (w:World) (b:Nat) (g:Option Nat) (width:Nat) (r:Option (List (ByteArray×Int)×PS)) (e:Ending) (w':World):Prop:=
 match r with
 | some (ys,p2)=>∃gp,e=.returned (.slice (some ⟨gp,0,none⟩) ys.length ys.length)/\w.heap.size<=gp/\w'.heap[gp]? =some (.cells (vvA (ys.map encC)) 49)/\∃g',PortAt w' b g' width .nilIface p2/\some gp ≠ g'/\Moved w g g'/\Tch (λk=>k=b\/some k=g) w w'
 | none=>(∃a n c,e=.returned (.slice a n c))/\PortBad E w w' b g width
theorem ToO.of {E:Nat->Addr} {w w':World} {b:Nat} {g:Option Nat} {width:Nat} {r:Option (List (Nat×Nat)×PS)} {e:Ending} (h:ToL lkO E w b g width partO r e w'):ToO E w b g width r e w':=by
 cases r with
 | none=>exact h
 | some r=>
  obtain ⟨ys,p2⟩:=r
  obtain ⟨gp,xs,h1,h2,h3,h4,g',h5,h6,h7,h8,h9⟩:=h
  exact ⟨gp,h1,h2,by rw [map_of_done encO xs ys h4 h7] at h3;exact h3,g',h5,h6,h8,h9⟩
theorem ToC.of {E:Nat->Addr} {w w':World} {b:Nat} {g:Option Nat} {width:Nat} {r:Option (List (ByteArray×Int)×PS)} {e:Ending} (h:ToL lkC E w b g width (partC width) r e w'):ToC E w b g width r e w':=by
 cases r with
 | none=>exact h
 | some r=>
  obtain ⟨ys,p2⟩:=r
  obtain ⟨gp,xs,h1,h2,h3,h4,g',h5,h6,h7,h8,h9⟩:=h
  exact ⟨gp,h1,h2,by rw [map_of_done encC xs ys h4 h7] at h3;exact h3,g',h5,h6,h8,h9⟩
theorem ToO.shape {E:Nat->Addr} {w w':World} {b:Nat} {g:Option Nat} {width:Nat} {r:Option (List (Nat×Nat)×PS)} {e:Ending} (h:ToO E w b g width r e w'):∃a n c,e=.returned (.slice a n c):=by
 cases r with
 | none=>exact h.1
 | some r=>obtain ⟨gp,he,_⟩:=h;exact ⟨_,_,_,he⟩
theorem ToC.shape {E:Nat->Addr} {w w':World} {b:Nat} {g:Option Nat} {width:Nat} {r:Option (List (ByteArray×Int)×PS)} {e:Ending} (h:ToC E w b g width r e w'):∃a n c,e=.returned (.slice a n c):=by
 cases r with
 | none=>exact h.1
 | some r=>obtain ⟨gp,he,_⟩:=h;exact ⟨_,_,_,he⟩
theorem listO_all (E:Nat->Addr) (b:Nat) (hb12:18<=b) (g:Option Nat) (width:Nat) (what:ByteArray) (v:Value) (l:List (Nat×Nat)) (least most:Nat) (p0:PS) (w:World)
  (hE:Env E w) (hp:PortAt w b g width .nilIface p0) (hv:OutsAt b w v l) (hwh:what.size<=1000) (hl3:l.length<1000000) (hm3:most<=3) (hvc:p0.takes v) (ho:∀x∈l,x.2<256) (hd:p0.len<=70000000):
  Calls Tryz.prog 204 #[.pointer (some ⟨b,0,none⟩),.agg #[.string what,.int .i64 ((1:Nat):Int),.int .u64 (least:Int),.int .u64 (most:Int)],v,.func (.func 205) #[.pointer (some ⟨b,0,none⟩)] #[]] w λe w'=>ToO E w b g width (p0.listO least most l) e w':=by
 rw [<-lst_O]
 exact (lsO_all (lawO E b hb12 width 80000000 (by omega)) rfl hb12 g what hwh 1 least most v (l.map encO) l p0 w hE hp hv.vat (by simp) hl3 (by simp only [partO];omega) (by omega) (by omega) hm3 hvc (λj x a h1 h2=>by
  rw [List.getElem?_map,h2] at h1
  simp only [Option.map_some,Option.some.injEq] at h1
  exact ⟨h1.symm,ho a (List.mem_of_getElem? h2)⟩)).mono λe w' h=>ToO.of h
theorem listC_all (E:Nat->Addr) (b:Nat) (hb12:18<=b) (g:Option Nat) (width:Nat) (hw:width<=1000) (what:ByteArray) (v:Value) (l:List (ByteArray×Int)) (least most:Nat) (p0:PS) (w:World)
  (hE:Env E w) (hp:PortAt w b g width .nilIface p0) (hv:CoinsAt b w v l) (hwh:what.size<=1000) (hl3:l.length<1000000) (hm3:most<=3) (hvc:p0.takes v) (hd:p0.len<=70000000):
  Calls Tryz.prog 202 #[.pointer (some ⟨b,0,none⟩),.agg #[.string what,.int .i64 ((1:Nat):Int),.int .u64 (least:Int),.int .u64 (most:Int)],v,.func (.func 203) #[.pointer (some ⟨b,0,none⟩)] #[]] w λe w'=>ToC E w b g width (p0.listC width least most l) e w':=by
 rw [<-lst_C]
 exact (lsC_all (lawC E b hb12 width 79000000 (by omega)) rfl hb12 g what hwh 1 least most v (l.map encC) l p0 w hE hp hv.vat (by simp) hl3 (by simp only [partC];omega) (by omega) (by omega) hm3 hvc (λj x a h1 h2=>by
  rw [List.getElem?_map,h2] at h1
  simp only [Option.map_some,Option.some.injEq] at h1
  exact h1.symm)).mono λe w' h=>ToC.of h
set_option maxRecDepth 100000 in
set_option maxHeartbeats 400000 in
theorem firstOuts_all (E:Nat->Addr) (b:Nat) (hb12:18<=b) (g:Option Nat) (width:Nat) (v:Value) (l:List (Nat×Nat)) (p0:PS) (w:World)
  (hE:Env E w) (hp:PortAt w b g width .nilIface p0) (hv:OutsAt b w v l) (hl3:l.length<1000000) (hvc:p0.takes v) (ho:∀x∈l,x.2<256) (hd:p0.len<=70000000):
  Calls Tryz.prog 188 #[.pointer (some ⟨b,0,none⟩),v] w λe w'=>
   ToO E w b g width (p0.listO 1 3 l) e w':=by
 obtain ⟨ia,ic,hvs⟩:=hv.shape
 have hmf:∀(fn:Fn) (first cap:Array Value) (w:World),(Instr.makeFunc fn first cap).run Tryz.prog w=.ok (.func fn first cap) w:=λ_ _ _ _=>rfl
 have HL':Hid (∀what:ByteArray,what.size<=1000->_):=λwhat hwh=>listO_all E b hb12 g width what v l 1 3 p0 w hE hp hv hwh hl3 (by omega) hvc ho hd
 clear hE hp hv hvc ho
 subst hvs
 go_enter Tryz.func188,Tryz.ntmps188
 go_wp2_with fail
 refine (HL'.out _ (by decide)).mono ?_
 clear HL'
 intro e w1 h
 obtain ⟨a,n,c,rfl⟩:=h.shape
 have HH:Hid (ToO _ _ _ _ _ _ _ _):=h
 clear h
 go_wp2
 go_ret
 exact HH.out
end Go.Proofs.YtighkdnooglfjaaGreatDoor
namespace Go.Proofs.YtighkdnooglfjaaGreatDoor
open Go.RowKit

def NewC (w:World) (B:Nat) (g:Option Nat) (x:Sl) (ys:List (ByteArray×Int)):Prop:=∃gp,x=(some ⟨gp,0,none⟩,ys.length,ys.length)/\B<=gp/\some gp ≠ g/\w.heap[gp]? =some (.cells (vvA (ys.map encC)) 49)
def NewO (w:World) (B:Nat) (g:Option Nat) (x:Sl) (ys:List (Nat×Nat)):Prop:=∃gp,x=(some ⟨gp,0,none⟩,ys.length,ys.length)/\B<=gp/\some gp ≠ g/\w.heap[gp]? =some (.cells (vvA (ys.map encO)) 80)
theorem NewC.tch {w w':World} {B:Nat} {g g':Option Nat} {x:Sl} {ys:List (ByteArray×Int)} {S:Nat->Prop} (h:NewC w B g x ys) (k:Tch S w w') (hs:∀j,S j->j<B\/some j=g\/w.heap.size<=j) (hm:Moved w g g'):NewC w' B g' x ys:=by
 obtain ⟨gp,h1,h2,h3,h4⟩:=h
 have l:=(row_lt h4)
 refine ⟨gp,h1,h2,?_,(k.block gp l (λe=>by rcases hs gp e with e | e | e;omega;exact h3 e;omega)).trans h4⟩
 rcases hm with rfl | ⟨i,rfl,hi⟩
 ·exact h3
 ·intro e;cases e;omega
theorem NewO.tch {w w':World} {B:Nat} {g g':Option Nat} {x:Sl} {ys:List (Nat×Nat)} {S:Nat->Prop} (h:NewO w B g x ys) (k:Tch S w w') (hs:∀j,S j->j<B\/some j=g\/w.heap.size<=j) (hm:Moved w g g'):NewO w' B g' x ys:=by
 obtain ⟨gp,h1,h2,h3,h4⟩:=h
 have l:=(row_lt h4)
 refine ⟨gp,h1,h2,?_,(k.block gp l (λe=>by rcases hs gp e with e | e | e;omega;exact h3 e;omega)).trans h4⟩
 rcases hm with rfl | ⟨i,rfl,hi⟩
 ·exact h3
 ·intro e;cases e;omega
theorem NewC.mono {w:World} {B B':Nat} {g:Option Nat} {x:Sl} {ys:List (ByteArray×Int)} (h:NewC w B g x ys) (hB:B'<=B):NewC w B' g x ys:=by
 obtain ⟨gp,h1,h2,h3⟩:=h;exact ⟨gp,h1,by omega,h3⟩
theorem NewO.mono {w:World} {B B':Nat} {g:Option Nat} {x:Sl} {ys:List (Nat×Nat)} (h:NewO w B g x ys) (hB:B'<=B):NewO w B' g x ys:=by
 obtain ⟨gp,h1,h2,h3⟩:=h;exact ⟨gp,h1,by omega,h3⟩
theorem listC_st (E:Nat->Addr) (b:Nat) (hb12:18<=b) (g:Option Nat) (width:Nat) (hw:width<=1000) (what:ByteArray) (v:Value) (l:List (ByteArray×Int)) (least most:Nat) (st:Option PS) (w:World)
  (hE:Env E w) (hp:PortSt E w b g width st) (hv:CoinsAt b w v l) (hwh:what.size<=1000) (hl3:l.length<1000000) (hm3:most<=3) (hvc:∀p,st=some p->p.takes v) (hd:stLen st<=70000000):
  Calls Tryz.prog 202 #[.pointer (some ⟨b,0,none⟩),.agg #[.string what,.int .i64 ((1:Nat):Int),.int .u64 (least:Int),.int .u64 (most:Int)],v,.func (.func 203) #[.pointer (some ⟨b,0,none⟩)] #[]] w λe w'=>∃(x:Sl) (g':Option Nat),e=.returned (.slice x.1 x.2.1 x.2.2)/\PortSt E w' b g' width ((st.bind (PS.listC width least most l)).map (·.2))/\Moved w g g'/\Tch (λk=>k=b\/some k=g) w w'/\∀ys p2,st.bind (PS.listC width least most l)=some (ys,p2)->NewC w' w.heap.size g' x ys:=by
 cases st with
 | none=>
  obtain ⟨p,t,u,h1,h2⟩:=hp
  obtain ⟨ia,ic,hvs⟩:=hv.shape
  refine (lsC_err b g width what hwh 1 least most v ia _ ic hvs p t u w h1).mono ?_
  rintro e w' ⟨rfl,h3,h4⟩
  exact ⟨(none,0,0),g,rfl,⟨p,t,u,h3,h2.tch h4 (λ_ _ _ _ h=>h)⟩,.inl rfl,h4.mono noE,λys p2 h=>by simp at h⟩
 | some p=>
  refine (listC_all E b hb12 g width hw what v l least most p w hE hp hv hwh hl3 hm3 (hvc p rfl) hd).mono ?_
  intro e w' h
  obtain ⟨xa,xn,xc,rfl⟩:=h.shape
  simp only [Option.bind_some]
  cases hq:p.listC width least most l with
  | none=>
   rw [hq] at h
   obtain ⟨_,g',p',vv,h1,h2,h3,h4⟩:=h
   obtain ⟨t,u,rfl⟩:=h2.iface
   exact ⟨(xa,xn,xc),g',rfl,⟨p',t,u,h1,h2⟩,h3,h4,λys p2 h=>by simp at h⟩
  | some r=>
   obtain ⟨ys,p2⟩:=r
   rw [hq] at h
   obtain ⟨gp,he,h1,h2,g',h3,h4,h5,h6⟩:=h
   cases he
   refine ⟨(_,_,_),g',rfl,h3,h5,h6,λzs p3 hz=>?_⟩
   simp only [Option.some.injEq,Prod.mk.injEq] at hz
   obtain ⟨rfl,rfl⟩:=hz
   exact ⟨gp,rfl,h1,h4,h2⟩
theorem listO_st (E:Nat->Addr) (b:Nat) (hb12:18<=b) (g:Option Nat) (width:Nat) (what:ByteArray) (v:Value) (l:List (Nat×Nat)) (least most:Nat) (st:Option PS) (w:World)
  (hE:Env E w) (hp:PortSt E w b g width st) (hv:OutsAt b w v l) (hwh:what.size<=1000) (hl3:l.length<1000000) (hm3:most<=3) (hvc:∀p,st=some p->p.takes v) (ho:∀x∈l,x.2<256) (hd:stLen st<=70000000):
  Calls Tryz.prog 204 #[.pointer (some ⟨b,0,none⟩),.agg #[.string what,.int .i64 ((1:Nat):Int),.int .u64 (least:Int),.int .u64 (most:Int)],v,.func (.func 205) #[.pointer (some ⟨b,0,none⟩)] #[]] w λe w'=>∃(x:Sl) (g':Option Nat),e=.returned (.slice x.1 x.2.1 x.2.2)/\PortSt E w' b g' width ((st.bind (PS.listO least most l)).map (·.2))/\Moved w g g'/\Tch (λk=>k=b\/some k=g) w w'/\∀ys p2,st.bind (PS.listO least most l)=some (ys,p2)->NewO w' w.heap.size g' x ys:=by
 cases st with
 | none=>
  obtain ⟨p,t,u,h1,h2⟩:=hp
  obtain ⟨ia,ic,hvs⟩:=hv.shape
  refine (lsO_err b g width what hwh 1 least most v ia _ ic hvs p t u w h1).mono ?_
  rintro e w' ⟨rfl,h3,h4⟩
  exact ⟨(none,0,0),g,rfl,⟨p,t,u,h3,h2.tch h4 (λ_ _ _ _ h=>h)⟩,.inl rfl,h4.mono noE,λys p2 h=>by simp at h⟩
 | some p=>
  refine (listO_all E b hb12 g width what v l least most p w hE hp hv hwh hl3 hm3 (hvc p rfl) ho hd).mono ?_
  intro e w' h
  obtain ⟨xa,xn,xc,rfl⟩:=h.shape
  simp only [Option.bind_some]
  cases hq:p.listO least most l with
  | none=>
   rw [hq] at h
   obtain ⟨_,g',p',vv,h1,h2,h3,h4⟩:=h
   obtain ⟨t,u,rfl⟩:=h2.iface
   exact ⟨(xa,xn,xc),g',rfl,⟨p',t,u,h1,h2⟩,h3,h4,λys p2 h=>by simp at h⟩
  | some r=>
   obtain ⟨ys,p2⟩:=r
   rw [hq] at h
   obtain ⟨gp,he,h1,h2,g',h3,h4,h5,h6⟩:=h
   cases he
   refine ⟨(_,_,_),g',rfl,h3,h5,h6,λzs p3 hz=>?_⟩
   simp only [Option.some.injEq,Prod.mk.injEq] at hz
   obtain ⟨rfl,rfl⟩:=hz
   exact ⟨gp,rfl,h1,h4,h2⟩
theorem many_len {α:Type} (f:α->PS->Option (α×PS)) (n:Nat) (hf:∀a p a' p',f a p=some (a',p')->p'.len<=p.len+n) (l:List α):∀(p p1:PS) (ys:List α),PS.many f l p=some (ys,p1)->p1.len<=p.len+n * l.length:=by
 induction l with
 | nil=>intro p p1 ys h;simp [PS.many] at h;rw [<-h.2];simp
 | cons z l ih=>
  intro p p1 ys h
  simp only [PS.many] at h
  cases q:f z p with
  | none=>simp [q] at h
  | some r=>
   obtain ⟨r1,r2⟩:=r
   simp only [q] at h
   cases q2:PS.many f l r2 with
   | none=>simp [q2] at h
   | some s=>
    obtain ⟨s1,s2⟩:=s
    simp only [q2,Option.some.injEq,Prod.mk.injEq] at h
    obtain ⟨rfl,rfl⟩:=h
    have h1:=hf _ _ _ _ q
    have h2:=ih _ _ _ q2
    rw [List.length_cons,Nat.mul_add];omega
theorem lst_facts {α:Type} {f:α->PS->Option (α×PS)} {z:α} {size least most n:Nat} (hf:∀a p a' p',f a p=some (a',p')->p.like p'/\p'.len<=p.len+n) {l:List α} {p p2:PS} {ys:List α} {v:Value} (ht:p.takes v) (hv:v=.slice none 0 0->l=[]) (h:p.lst f z size least most l=some (ys,p2)):
  p.like p2/\least<=ys.length/\ys.length<=most/\p2.len<=p.len+size+n * ys.length:=by
 unfold PS.lst at h
 split at h
 ·cases h
 ·rename_i cnt p1 q1
  split at h
  ·cases h
  ·rename_i hr
   have e1:=many_length _ _ _ _ _ h
   have e2:(startV z l cnt).length=cnt:=by
    unfold startV
    split
    ·simp
    ·rename_i hl
     rcases num_takes ht q1 with e | e
     ·exact absurd (by rw [hv e];rfl) hl
     ·exact e
   have e3:=many_len f n (λa p a' p' h=>(hf a p a' p' h).2) _ _ _ _ h
   have e4:=num_len _ _ _ _ _ q1
   refine ⟨(num_like q1).trans (many_like f (λa p a' p' h=>(hf a p a' p' h).1) _ _ _ _ h),by omega,by omega,?_⟩
   rw [e1];omega
theorem listC_facts {p p2:PS} {v:Value} {width least most:Nat} {l ys:List (ByteArray×Int)} {B:Nat} {w:World} (hv:CoinsAt B w v l) (ht:p.takes v) (h:p.listC width least most l=some (ys,p2)):
  p.like p2/\least<=ys.length/\ys.length<=most/\p2.len<=p.len+1+(width+1) * ys.length:=by
 rw [<-lst_C] at h
 exact lst_facts (λa p a' p' h=>coin_parts h) ht (λe=>by rcases hv with ⟨_,h⟩ | ⟨_,_,_,h,_⟩;exact h;rw [h] at e;cases e) h
theorem out_parts {a:Nat×Nat} {y:Nat×Nat} {p p2:PS} (h:p.out a.1 a.2=some (y,p2)):p.like p2/\p2.len<=p.len+9:=by
 obtain ⟨p1,h1,h2,h3,h4,h5⟩:=out_inv _ _ _ _ _ h
 exact ⟨(num_like h1).trans (num_like h2),h4⟩
theorem listO_facts {p p2:PS} {v:Value} {least most:Nat} {l ys:List (Nat×Nat)} {B:Nat} {w:World} (hv:OutsAt B w v l) (ht:p.takes v) (h:p.listO least most l=some (ys,p2)):
  p.like p2/\least<=ys.length/\ys.length<=most/\p2.len<=p.len+1+9 * ys.length:=by
 rw [<-lst_O] at h
 exact lst_facts (λa p a' p' h=>out_parts h) ht (λe=>by rcases hv with ⟨_,h⟩ | ⟨_,_,_,h,_⟩;exact h;rw [h] at e;cases e) h
structure InitT (b:Nat) (w:World) (p:PS) (x:Sl×Sl) (t:TxL):Prop where
 coins:CoinsAt b w (.slice x.1.1 x.1.2.1 x.1.2.2) t.1
 outs:OutsAt b w (.slice x.2.1 x.2.2.1 x.2.2.2) t.2
 few1:t.1.length<1000000
 few2:t.2.length<1000000
 takes1:p.takes (.slice x.1.1 x.1.2.1 x.1.2.2)
 takes2:p.takes (.slice x.2.1 x.2.2.1 x.2.2.2)
 small:∀o∈t.2,o.2<256
theorem InitT.tch {b:Nat} {w w':World} {p p':PS} {x:Sl×Sl} {t:TxL} {S:Nat->Prop} (h:InitT b w p x t) (k:Tch S w w') (hs:∀j,S j->b<=j) (hl:p.like p'):InitT b w' p' x t:=
 ⟨h.coins.tch k hs,h.outs.tch k hs,h.few1,h.few2,hl.takes h.takes1,hl.takes h.takes2,h.small⟩
def DoneT (w:World) (B:Nat) (g:Option Nat) (x:Sl×Sl) (t:TxL):Prop:=NewC w B g x.1 t.1/\NewO w B g x.2 t.2
def encT (x:Sl×Sl):VV:=(.slice x.1.1 x.1.2.1 x.1.2.2,.slice x.2.1 x.2.2.1 x.2.2.2)
theorem tx_facts {b width:Nat} {w:World} {p p2:PS} {x:Sl×Sl} {t t':TxL} (hw:width<=32) (hI:InitT b w p x t) (h:p.tx width t=some (t',p2)):p.like p2/\p2.len<=p.len+200/\t'.1.length<=3/\t'.2.length<=3:=by
 unfold PS.tx at h
 split at h
 ·cases h
 ·rename_i ys p1 q1
  obtain ⟨k1,_,k2,k3⟩:=listC_facts hI.coins hI.takes1 q1
  split at h
  ·cases h
  ·rename_i zs p3 q2
   obtain ⟨m1,_,m2,m3⟩:=listO_facts hI.outs (k1.takes hI.takes2) q2
   simp only [Option.some.injEq,Prod.mk.injEq] at h
   obtain ⟨rfl,rfl⟩:=h
   have:(width+1) * ys.length<=33 * 3:=Nat.mul_le_mul (by omega) k2
   exact ⟨k1.trans m1,by omega,k2,m2⟩

set_option maxRecDepth 100000 in
set_option maxHeartbeats 2000000 in
theorem tx_all (E:Nat->Addr) (b:Nat) (hb12:18<=b) (g:Option Nat) (width:Nat) (hw:width<=32) (x:Sl×Sl) (t:TxL) (p:PS) (w:World) (hE:Env E w) (hp:PortAt w b g width .nilIface p) (hI:InitT b w p x t) (hd:p.len<=60000000):
  Calls Tryz.prog 134 #[.pointer (some ⟨b,0,none⟩),.agg #[.slice x.1.1 x.1.2.1 x.1.2.2,.slice x.2.1 x.2.2.1 x.2.2.2]] w λe w'=>∃(y:Sl×Sl) (g':Option Nat),e=.returned (.agg #[.slice y.1.1 y.1.2.1 y.1.2.2,.slice y.2.1 y.2.2.1 y.2.2.2])/\PortSt E w' b g' width ((p.tx width t).map (·.2))/\Moved w g g'/\Tch (λk=>k=b\/some k=g) w w'/\∀t' p2,p.tx width t=some (t',p2)->DoneT w' w.heap.size g' y t':=by
 obtain ⟨⟨x1,x2,x3⟩,y1,y2,y3⟩:=x
 obtain ⟨hv1,hv2,hl1,hl2,ht1,ht2,ho⟩:=hI
 simp only at hv1 hv2 ht1 ht2
 have hlt:=hp.lt
 have hmf:∀(fn:Fn) (first cap:Array Value) (w:World),(Instr.makeFunc fn first cap).run Tryz.prog w=.ok (.func fn first cap) w:=λ_ _ _ _=>rfl
 have tA:=Tch.allocs (λ_=>False) w (.cells #[.slice x1 x2 x3,.slice y1 y2 y3] 98) (.cells #[.slice none 0 0,.slice none 0 0] 98)
 have HC1:Hid (∀what:ByteArray,what.size<=1000->_):=λwhat hwh=>listC_st E b hb12 g width (by omega) what (.slice x1 x2 x3) t.1 1 3 (some p) _ (hE.tch tA noE) (hp.tch tA (λh=>h) (λ_ _ h=>h)) (hv1.tch tA noE) hwh hl1 (by omega) (λq hq=>by cases hq;exact ht1) (by simp only [stLen];omega)
 have HV2:Hid (OutsAt b w (.slice y1 y2 y3) t.2):=hv2
 have HE:Hid (Env E w):=hE
 have HP:Hid (PortAt w b g width .nilIface p):=hp
 have HT2:Hid (p.takes (.slice y1 y2 y3)):=ht2
 have HF:Hid (∀ys p1,p.listC width 1 3 t.1=some (ys,p1)->p.like p1/\p1.len<=p.len+200):=λys p1 h=>by
  obtain ⟨k1,_,k2,k3⟩:=listC_facts hv1 ht1 h
  have:(width+1) * ys.length<=33 * 3:=Nat.mul_le_mul (by omega) k2
  exact ⟨k1,by omega⟩
 have HO:Hid (∀x∈t.2,x.2<256):=ho
 clear hv1 hv2 hE hp ht1 ht2 ho tA
 go_enter Tryz.func134,Tryz.ntmps134
 go_wp2_with fail
 refine (HC1.out _ (by decide)).mono ?_
 rintro _ w1 ⟨⟨a1,a2,a3⟩,g1,rfl,hp1,hm1,ht1,hn1⟩
 have c2:w1.cell? ⟨w.heap.size,1,none⟩=some (.slice y1 y2 y3):=(ht1.cell (p:=⟨w.heap.size,1,none⟩) (by simp;omega) (port_new HP.out _ (Nat.le_refl _))).trans (cell_row (heap_alloc2_old _ _ _))
 have rR:w1.heap[w.heap.size+1]? =some (.cells #[.slice none 0 0,.slice none 0 0] 98):=(ht1.block _ (by simp) (port_new HP.out _ (by omega))).trans (heap_alloc2_new _ _ _)
 have hsz1:=ht1.size
 simp at hsz1
 have hS:∀j,(j=b\/some j=g)->b<=j:=by
  rintro j (rfl | hj)
  ·exact Nat.le_refl _
  ·have:=(HP.out.own j hj.symm).1;omega
 have HPS:Hid (PortSt E w b g width (some p)):=HP.out
 have HN:Hid (∀g',Moved w1 g1 g'->¬(w.heap.size+1=b\/some (w.heap.size+1)=g')):=λg' hm=>st_new_moved HPS.out (hm1.trans hm ht1.size) _ (by omega) (by simp)
 simp only [Option.bind_some] at hp1 hn1
 have HC2:Hid (∀what:ByteArray,what.size<=1000->_):=λwhat hwh=>listO_st E b hb12 g1 width what (.slice y1 y2 y3) t.2 0 3 _ w1 ((HE.out.tch (Tch.allocs (λ_=>False) w _ _) noE).tch ht1 (port_high hb12 HP.out)) hp1 ((HV2.out.tch (Tch.allocs (λ_=>False) w _ _) noE).tch ht1 hS) hwh hl2 (by omega) (λq hq=>by
   cases hl:p.listC width 1 3 t.1 with
   | none=>rw [hl] at hq;cases hq
   | some r=>
    obtain ⟨ys,p1⟩:=r
    rw [hl] at hq
    cases hq
    exact (HF.out _ _ hl).1.takes HT2.out) HO.out (by
   cases hl:p.listC width 1 3 t.1 with
   | none=>simp [stLen]
   | some r=>
    obtain ⟨ys,p1⟩:=r
    have:=(HF.out _ _ hl).2
    simp only [Option.map_some,stLen];omega)
 have RR:Hid (_=_):=rR
 have HM1:Hid (Moved _ _ _):=hm1
 have HT1:Hid (Tch _ _ _):=ht1
 have HN1:Hid (∀ys p2,p.listC width 1 3 t.1=some (ys,p2)->NewC w1 _ g1 (a1,a2,a3) ys):=hn1
 clear rR hm1 ht1 hp1 hn1 HC1 hS
 go_wp2_with fail
 refine (HC2.out _ (by decide)).mono ?_
 rintro _ w2 ⟨⟨b1,b2,b3⟩,g2,rfl,hp2,hm2,ht2,hn2⟩
 have rR2:w2.heap[w.heap.size+1]? =some (.cells #[.slice none 0 0,.slice none 0 0] 98):=(ht2.block _ (by omega) (HN.out g1 (.inl rfl))).trans RR.out
 have e0:w2.cell? ⟨w.heap.size+1,0,none⟩=some (.slice none 0 0):=cell_row rR2
 have e1:w2.cell? ⟨w.heap.size+1,1,none⟩=some (.slice none 0 0):=cell_row rR2
 have fR:∀j,w2.frozen? ⟨w.heap.size+1,j,none⟩=false:=λj=>frozen_of_row _ _ _ _ _ rR2
 have RR2:Hid (_=_):=rR2
 have HP2:Hid (PortSt _ _ _ _ _ _):=hp2
 have HM2:Hid (Moved _ _ _):=hm2
 have HT2':Hid (Tch _ _ _):=ht2
 have HN2:Hid (∀ys p2,_->NewO w2 _ g2 (b1,b2,b3) ys):=hn2
 clear rR2 hp2 hm2 ht2 hn2 HC2
 go_wp2
 rw [set2 _ _ _ _ _ _ _ RR2.out]
 refine bodyPost_ret (v:=.agg #[.slice a1 a2 a3,.slice b1 b2 b3]) (results_cell_row Tryz.results134 _ _ (w.heap.size+1) _ _ (0,0) _ rfl (setRow_heap w2 _ _ _ _ _ RR2.out) Tryz.underlying98 rfl (by kernel_rfl)) rfl ⟨((a1,a2,a3),(b1,b2,b3)),g2,rfl,?_,?_,?_,?_⟩
 ·have hst:((((p.listC width 1 3 t.1).map (·.2)).bind (PS.listO 0 3 t.2)).map (·.2))=(p.tx width t).map (·.2):=by
   unfold PS.tx
   cases p.listC width 1 3 t.1 with
   | none=>rfl
   | some r=>
    obtain ⟨ys,p1⟩:=r
    simp only [Option.map_some,Option.bind_some]
    cases p1.listO 0 3 t.2 <;> rfl
  have:=HP2.out
  rw [hst] at this
  exact this.row RR2.out (by decide) (HN.out g2 HM2.out)
 ·have:=HM1.out.trans HM2.out HT1.out.size
  rcases this with h | ⟨i,h,hi⟩
  ·exact .inl h
  ·exact .inr ⟨i,h,by simp at hi;omega⟩
 ·exact ((Tch.allocs _ w _ _).trans (port_trans HT1.out HT2'.out HM1.out) (λ_ h=>.inl h)).trans (Tch.setRow w2 (w.heap.size+1) _) (λj hj=>.inr (by omega))
 ·intro t' p2 h
  unfold PS.tx at h
  cases hl:p.listC width 1 3 t.1 with
  | none=>rw [hl] at h;cases h
  | some r=>
   obtain ⟨ys,p1⟩:=r
   rw [hl] at h
   simp only at h
   have k1:=HN1.out ys p1 hl
   have k2:=HN2.out
   rw [hl] at k2
   simp only [Option.map_some,Option.bind_some] at k2
   cases hl2:p1.listO 0 3 t.2 with
   | none=>rw [hl2] at h;cases h
   | some r=>
    obtain ⟨zs,p3⟩:=r
    rw [hl2] at h
    cases h
    have tR:=Tch.setRow w2 (w.heap.size+1) #[.slice a1 a2 a3,.slice b1 b2 b3]
    refine ⟨?_,?_⟩
    ·refine NewC.mono (NewC.tch (NewC.tch k1 HT2'.out (λj h=>?_) HM2.out) tR (λj h=>.inl (by simp;omega)) (.inl rfl)) (by simp;omega)
     rcases h with h | h
     ·exact .inl (by simp;omega)
     ·exact .inr (.inl h)
    ·exact NewO.mono (NewO.tch (k2 _ _ hl2) tR (λj h=>.inl (by omega)) (.inl rfl)) (by omega)
def partT (width:Nat):PartOf TxL where
 f:=λt p=>p.tx width t
 grow:=200
 zero:=([],[])
 zeroV:=zT
 Init:=λb w p x t=>∃y:Sl×Sl,x=encT y/\InitT b w p y t
 Done:=λw B g x t=>∃y:Sl×Sl,x=encT y/\DoneT w B g y t
theorem tx_like {width:Nat} {t t':TxL} {p p2:PS} (h:p.tx width t=some (t',p2)):p.like p2:=by
 unfold PS.tx at h
 split at h
 ·cases h
 ·rename_i ys p1 q1
  split at h
  ·cases h
  ·rename_i zs p3 q2
   cases h
   rw [<-lst_C] at q1
   rw [<-lst_O] at q2
   unfold PS.lst at q1 q2
   split at q1
   ·cases q1
   ·rename_i h1
    split at q1
    ·cases q1
    ·split at q2
     ·cases q2
     ·rename_i h2
      split at q2
      ·cases q2
      ·exact (((num_like h1).trans (many_like _ (λa p a' p' h=>(coin_parts h).1) _ _ _ _ q1)).trans (num_like h2)).trans (many_like _ (λa p a' p' h=>(out_parts h).1) _ _ _ _ q2)
theorem lawT (E:Nat->Addr) (b:Nat) (hb12:18<=b) (width lim:Nat) (hw:width<=32) (hl:lim<=60000000):PartLaw E b width lim lkT.fP (partT width) ShT where
 init_tch:=λ⟨y,h1,h2⟩ k hs hl=>⟨y,h1,h2.tch k hs hl⟩
 init_zero:=λ_ _=>⟨((none,0,0),(none,0,0)),rfl,.inl ⟨rfl,rfl⟩,.inl ⟨rfl,rfl⟩,by simp [partT],by simp [partT],λ_ _ _=>rfl,λ_ _ _=>rfl,λo ho=>by simp [partT] at ho⟩
 init_shape:=λ⟨y,h1,_⟩=>⟨y.1,y.2,h1⟩
 done_tch:=λ⟨y,h1,h2,h3⟩ k hs hm=>⟨y,h1,h2.tch k hs hm,h3.tch k hs hm⟩
 done_mono:=λ⟨y,h1,h2,h3⟩ hB=>⟨y,h1,h2.mono hB,h3.mono hB⟩
 like:=λh=>tx_like h
 len:=λ⟨y,_,hI⟩ h=>(tx_facts hw hI h).2.1
 call:=λ{w g p x a} hE hp hI hd=>by
  obtain ⟨y,rfl,hI⟩:=hI
  refine (tx_all E b hb12 g width hw y a p w hE hp hI (by omega)).mono ?_
  rintro e w' ⟨z,g',rfl,k1,k2,k3,k4⟩
  refine ⟨encT z,⟨z.1,z.2,rfl⟩,rfl,?_⟩
  show ToP E w b g width (partT width) (p.tx width a) _ w'
  cases h:p.tx width a with
  | none=>
   rw [h] at k1
   obtain ⟨p',t,u,h1,h2⟩:=k1
   exact ⟨g',_,p',h1,k2,k3,h2⟩
  | some r=>
   obtain ⟨t',p2⟩:=r
   rw [h] at k1
   exact ⟨g',_,p2,k1,k2,k3,rfl,rfl,z,rfl,k4 t' p2 h⟩
theorem many_txs (width:Nat):∀(l:List TxL) (p:PS),PS.many (partT width).f l p=PS.txs width l p
 | [],_=>rfl
 | x :: r,p=>by
  simp only [PS.many,PS.txs]
  have e:(partT width).f x p=p.tx width x:=rfl
  rw [e]
  cases p.tx width x with
  | none=>rfl
  | some q=>simp only [many_txs width r];cases PS.txs width r q.2 <;> rfl
theorem startV_T (l:List TxL) (cnt:Nat):startV ([],[]) l cnt=startL l cnt:=by
 unfold startV startL
 cases l <;> simp
theorem lst_T (width:Nat) (l:List TxL) (p:PS):p.lst (partT width).f (partT width).zero 1 0 3 l=p.body width l:=by
 unfold PS.lst PS.body
 cases p.num l.length 1 with
 | none=>rfl
 | some r=>
  simp only [many_txs,<-startV_T,Nat.not_lt_zero,false_or]
  rfl
theorem TxsAt.vat {B:Nat} {w:World} {v:Value} {l:List (Sl×Sl)} (h:TxsAt B w v l):VAt B w v (l.map encT):=by
 rcases h with ⟨h1,h2⟩ | ⟨gi,oi,c,h1,h2,h3,h4⟩
 ·exact .inl ⟨h1,by rw [h2];rfl⟩
 ·exact .inr ⟨gi,oi,c,by rw [List.length_map];exact h1,h2,h3,λi hi=>by
   rw [List.getElem_map];exact h4 i (by simpa using hi)⟩
def ToB (E:Nat->Addr) (w:World) (b:Nat) (g:Option Nat) (width:Nat) (r:Option (List TxL×PS)) (e:Ending) (w':World):Prop:=
 ∃(x:Sl) (g':Option Nat),e=.returned (.slice x.1 x.2.1 x.2.2)/\PortSt E w' b g' width (r.map (·.2))/\Moved w g g'/\Tch (λk=>k=b\/some k=g) w w'/\
  ∀ts p2,r=some (ts,p2)->∃(gp:Nat) (zs:List (Sl×Sl)),x=(some ⟨gp,0,none⟩,ts.length,ts.length)/\w.heap.size<=gp/\some gp ≠ g'/\w'.heap[gp]? =some (.cells (vvA (zs.map encT)) 98)/\zs.length=ts.length/\∀(j:Nat) z t,zs[j]? =some z->ts[j]? =some t->DoneT w' w.heap.size g' z t
theorem ToB.of {E:Nat->Addr} {w w':World} {b:Nat} {g:Option Nat} {width:Nat} {r:Option (List TxL×PS)} {e:Ending} (h:ToL lkT E w b g width (partT width) r e w'):ToB E w b g width r e w':=by
 cases r with
 | none=>
  obtain ⟨⟨x1,x2,x3,rfl⟩,g',p',v,h1,h2,h3,h4⟩:=h
  obtain ⟨t,u,rfl⟩:=h2.iface
  exact ⟨(x1,x2,x3),g',rfl,⟨p',t,u,h1,h2⟩,h3,h4,λts p2 h=>by cases h⟩
 | some r=>
  obtain ⟨ys,p2⟩:=r
  obtain ⟨gp,xs,rfl,h2,h3,h4,g',h5,h6,h7,h8,h9⟩:=h
  refine ⟨(some ⟨gp,0,none⟩,ys.length,ys.length),g',rfl,h5,h8,h9,λts p3 h=>?_⟩
  simp only [Option.some.injEq,Prod.mk.injEq] at h
  obtain ⟨rfl,rfl⟩:=h
  have hz:∃zs:List (Sl×Sl),xs=zs.map encT/\∀(j:Nat) z t,zs[j]? =some z->ys[j]? =some t->DoneT w' w.heap.size g' z t:=by
   have key:∀(xs:List VV) (ys:List TxL),xs.length=ys.length->(∀(j:Nat) x a,xs[j]? =some x->ys[j]? =some a->(partT width).Done w' (gp+1) g' x a)->∃zs:List (Sl×Sl),xs=zs.map encT/\∀(j:Nat) z t,zs[j]? =some z->ys[j]? =some t->DoneT w' w.heap.size g' z t:=by
    intro xs
    induction xs with
    | nil=>intro ys _ _;exact ⟨[],rfl,λj z t h=>by simp at h⟩
    | cons x xs ih=>
     intro ys hl h
     cases ys with
     | nil=>simp at hl
     | cons y ys=>
      obtain ⟨zs,e,hzs⟩:=ih ys (by simpa using hl) (λj x a h1 h2=>h (j+1) x a (by simpa using h1) (by simpa using h2))
      obtain ⟨z,ez,hz⟩:=h 0 x y rfl rfl
      refine ⟨z :: zs,by rw [e,ez];rfl,λj z' t h1 h2=>?_⟩
      cases j with
      | zero=>simp at h1 h2;subst h1 h2;exact ⟨hz.1.mono (by omega),hz.2.mono (by omega)⟩
      | succ j=>exact hzs j z' t (by simpa using h1) (by simpa using h2)
   exact key xs ys h4 h7
  obtain ⟨zs,rfl,hzs⟩:=hz
  exact ⟨gp,zs,rfl,h2,h6,h3,by simpa using h4,hzs⟩
theorem listT_all (E:Nat->Addr) (b:Nat) (hb12:18<=b) (g:Option Nat) (width:Nat) (hw:width<=32) (what:ByteArray) (hwh:what.size<=1000) (v:Value) (l:List (Sl×Sl)) (ts:List TxL) (p0:PS) (w:World)
  (hE:Env E w) (hp:PortAt w b g width .nilIface p0) (hv:TxsAt b w v l) (hl:l.length=ts.length) (hl3:ts.length<1000000) (hvc:p0.takes v) (hin:∀(j:Nat) x t,l[j]? =some x->ts[j]? =some t->InitT b w p0 x t) (hd:p0.len<=50000000):
  Calls Tryz.prog 133 #[.pointer (some ⟨b,0,none⟩),.agg #[.string what,.int .i64 1,.int .u64 0,.int .u64 3],v,.func (.func 134) #[.pointer (some ⟨b,0,none⟩)] #[]] w λe w'=>ToB E w b g width (p0.body width ts) e w':=by
 obtain ⟨lim,hlim,hlaw⟩:∃lim,lim=60000000/\PartLaw E b width lim lkT.fP (partT width) ShT:=⟨_,rfl,lawT E b hb12 width 60000000 hw (by omega)⟩
 have hgrow:(partT width).grow=200:=rfl
 rw [<-lst_T]
 exact (lsT_all hlaw rfl hb12 g what hwh 1 0 3 v (l.map encT) ts p0 w hE hp hv.vat (by simpa using hl) hl3 (by rw [hgrow];omega) (by omega) (by omega) (by omega) hvc (λj x a h1 h2=>by
  rw [List.getElem?_map] at h1
  cases hz:l[j]? with
  | none=>rw [hz] at h1;cases h1
  | some z=>rw [hz] at h1;cases h1;exact ⟨z,rfl,hin j z a hz h2⟩)).mono λe w' h=>ToB.of h
set_option maxRecDepth 100000 in
set_option maxHeartbeats 400000 in
theorem body_all (E:Nat->Addr) (b:Nat) (hb12:18<=b) (g:Option Nat) (width:Nat) (hw:width<=32) (v:Value) (l:List (Sl×Sl)) (ts:List TxL) (p0:PS) (w:World)
  (hE:Env E w) (hp:PortAt w b g width .nilIface p0) (hv:TxsAt b w v l) (hl:l.length=ts.length) (hl3:ts.length<1000000) (hvc:p0.takes v) (hin:∀(j:Nat) x t,l[j]? =some x->ts[j]? =some t->InitT b w p0 x t) (hd:p0.len<=50000000):
  Calls Tryz.prog 78 #[.pointer (some ⟨b,0,none⟩),v] w λe w'=>ToB E w b g width (p0.body width ts) e w':=by
 obtain ⟨ia,ic,hvs⟩:=hv.shape
 have hmf:∀(fn:Fn) (first cap:Array Value) (w:World),(Instr.makeFunc fn first cap).run Tryz.prog w=.ok (.func fn first cap) w:=λ_ _ _ _=>rfl
 have HL:Hid (∀what:ByteArray,what.size<=1000->_):=λwhat hwh=>listT_all E b hb12 g width hw what hwh v l ts p0 w hE hp hv hl hl3 hvc hin hd
 clear hE hp hv hvc hin hl
 subst hvs
 go_enter Tryz.func78,Tryz.ntmps78
 go_wp2_with fail
 refine (HL.out _ (by decide)).mono ?_
 clear HL
 rintro e w1 ⟨⟨x1,x2,x3⟩,g1,rfl,h⟩
 have HH:Hid (PortSt _ _ _ _ _ _/\_):=h
 clear h
 go_wp2
 go_ret
 exact ⟨(x1,x2,x3),g1,rfl,HH.out⟩
end Go.Proofs.YtighkdnooglfjaaGreatDoor
