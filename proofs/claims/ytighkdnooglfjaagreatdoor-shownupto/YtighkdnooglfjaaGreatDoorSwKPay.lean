/-
  The contract of (*trovekeep.Shop).tx: whatever a payment's raw numbers are, it is a transaction.
  The contract of (*trovekeep.Shop).pays.
  What comes in: first outputs, scripts.
  The keeper's statement Paid, over what makes ledgers ('Maker').
-/
import Derived.Test.YtighkdnooglfjaaGreatDoorSwKRow
import Derived.Test.YtighkdnooglfjaaGreatDoorSwKApp
import Derived.Test.YtighkdnooglfjaaGreatDoorSwKLast
import Derived.Test.YtighkdnooglfjaaGreatDoorSwKSpec
import Derived.BigQuiet
namespace Go.Proofs.YtighkdnooglfjaaGreatDoor
open Go.RowKit

def NumsAt (w:World) (v:Value) (l:List Nat):Prop:=
 ((∃a c,v=.slice a 0 c)/\l=[])\/∃g o c,v=.slice (some ⟨g,o,none⟩) l.length c/\g<w.heap.size/\∀i (h:i<l.length),w.cell? ⟨g,o+i,none⟩=some (.int .u64 ((l[i]:Nat):Int))
theorem NumsAt.tch {w w':World} {v:Value} {l:List Nat} (h:NumsAt w v l) (k:Tch (λ_=>False) w w'):NumsAt w' v l:=by
 rcases h with h | ⟨gi,oi,c,hv,h2,h3⟩
 ·exact .inl h
 ·refine .inr ⟨gi,oi,c,hv,Nat.lt_of_lt_of_le h2 k.size,λi hi=>?_⟩
  rw [k.cell (p:=⟨gi,oi+i,none⟩) h2 (λe=>e)];exact h3 i hi
theorem NumsAt.shape {w:World} {v:Value} {l:List Nat} (h:NumsAt w v l):∃a c,v=.slice a l.length c:=by
 rcases h with ⟨⟨a,c,rfl⟩,rfl⟩ | ⟨gi,oi,c,rfl,_⟩
 ·exact ⟨a,c,rfl⟩
 ·exact ⟨_,_,rfl⟩
structure PayL where
 from_:Int
 many:Int
 amounts:List Nat
 owner:Nat
 wild:Bool
 other:Bool
structure PayL.Ok (p:PayL):Prop where
 f1: -9223372036854775808<=p.from_
 f2:p.from_<9223372036854775808
 m1: -9223372036854775808<=p.many
 m2:p.many<9223372036854775808
 amounts:∀x∈p.amounts,x<18446744073709551616
 owner:p.owner<256
 len:p.amounts.length<1000000000
def ToTx (width:Nat) (w:World) (e:Ending) (w':World):Prop:=
 Tch (λ_=>False) w w'/\∃t v1 v2,e=.returned (.agg #[v1,v2])/\TxOk width t/\COwn w.heap.size w' v1 t.1/\OOwn w.heap.size w' v2 t.2
structure Fr (w:World) (pay:Array Value) (vI vO:Value) (wr:World):Prop where
 pay:wr.heap[w.heap.size]? =some (.cells pay 102)
 res:wr.heap[w.heap.size+1]? =some (.cells #[.slice none 0 0,.slice none 0 0] 98)
 tx:wr.heap[w.heap.size+1+1]? =some (.cells #[vI,vO] 98)
 tch:Tch (λ_=>False) w wr
theorem Fr.start (w:World) (pay:Array Value):Fr w pay (.slice none 0 0) (.slice none 0 0) (((w.alloc (.cells pay 102)).alloc (.cells #[.slice none 0 0,.slice none 0 0] 98)).alloc (.cells #[.slice none 0 0,.slice none 0 0] 98)):=by
 have t3:=Tch.alloc (λ_=>False) ((w.alloc (.cells pay 102)).alloc (.cells #[.slice none 0 0,.slice none 0 0] 98)) (.cells #[.slice none 0 0,.slice none 0 0] 98)
 refine ⟨(t3.block _ (by simp;omega) (λh=>h)).trans (heap_alloc2_old _ _ _),(t3.block _ (by simp) (λh=>h)).trans (heap_alloc2_new _ _ _),?_,((Tch.alloc (λ_=>False) w _).trans (Tch.alloc (λ_=>False) _ _) (λ_ h=>.inl h)).trans t3 (λ_ h=>.inl h)⟩
 have:=heap_alloc_new ((w.alloc (.cells pay 102)).alloc (.cells #[.slice none 0 0,.slice none 0 0] 98)) (.cells #[.slice none 0 0,.slice none 0 0] 98)
 simpa using this
theorem Fr.size {w wr:World} {pay:Array Value} {vI vO:Value} (h:Fr w pay vI vO wr):w.heap.size+3<=wr.heap.size:=by
 have:=(row_lt h.tx);omega
theorem Fr.next {w wr w':World} {pay:Array Value} {vI vO:Value} (h:Fr w pay vI vO wr) {S:Nat->Prop} (k:Tch S wr w') (hs:∀j,S j->w.heap.size+3<=j):Fr w pay vI vO w':=by
 have hz:=h.size
 exact ⟨(k.block _ (by omega) (λe=>by have:=hs _ e;omega)).trans h.pay,(k.block _ (by omega) (λe=>by have:=hs _ e;omega)).trans h.res,(k.block _ (by omega) (λe=>by have:=hs _ e;omega)).trans h.tx,h.tch.trans k (λj hj=>.inr (by have:=hs j hj;omega))⟩
theorem Fr.set {w wr:World} {pay:Array Value} {vI vO:Value} (h:Fr w pay vI vO wr) (vI' vO':Value):Fr w pay vI' vO' (wr.setRow (w.heap.size+1+1) #[vI',vO']):=
 ⟨(setRow_other _ _ _ _ (by omega)).trans h.pay,(setRow_other _ _ _ _ (by omega)).trans h.res,setRow_heap _ _ _ _ _ _ h.tx,h.tch.trans (Tch.setRow wr (w.heap.size+1+1) _) (λj hj=>by subst hj;exact .inr (by omega))⟩
theorem Fr.all {w W:World} {f m a o b1 b2 vI vO:Value} {xb:Nat} {x:Value} (hx:w.cell? ⟨xb,1,none⟩=some x) (h:Fr w #[f,m,a,o,b1,b2] vI vO W):W.cell? ⟨xb,1,none⟩=some x/\W.cell? ⟨w.heap.size,0,none⟩=some f/\W.cell? ⟨w.heap.size+1+1,0,none⟩=some vI/\Fr w #[f,m,a,o,b1,b2] vI vO W:=
 ⟨(h.tch.cell (p:=⟨xb,1,none⟩) (World.block_lt_of_cell? _ _ hx) (λe=>e)).trans hx,cell_row h.pay,cell_row h.tx,h⟩
structure TS (w:World) (pay:Array Value) (vI:Value) (cs:List (ByteArray×Int)) (W:World):Prop where
 fr:Fr w pay vI (.slice none 0 0) W
 own:COwn (w.heap.size+3) W vI cs
theorem TS.next {w W W':World} {pay:Array Value} {vI:Value} {cs:List (ByteArray×Int)} (h:TS w pay vI cs W) (k:Tch (λ_=>False) W W'):TS w pay vI cs W':=⟨h.fr.next k noE,h.own.tch k (λ_ _ h=>h)⟩
theorem TS.grownS {W W':World} {n c:Nat} (h:World.grownBy W W' (Value.slice none n c).ownBlock):Tch (λ_=>False) W W':=(Tch.grown h).mono (λj hj=>by cases hj)
theorem TS.stored {w w1:World} {pay:Array Value} {vI v1:Value} {cs cs1:List (ByteArray×Int)} (h:TS w pay vI cs w1) (ho:COwn (w.heap.size+3) w1 v1 cs1):TS w pay v1 cs1 (w1.setCell ⟨w.heap.size+1+1,0,none⟩ v1):=by
 rw [setCell_eq_setRow w1 (w.heap.size+1+1) 0 _ _ _ v1 h.fr.tx]
 exact ⟨h.fr.set v1 (.slice none 0 0),ho.tch (Tch.setRow w1 _ _) (λj hj e=>by have:=(ho.own j hj).1;omega)⟩
theorem TS.grownF {w W w1:World} {pay:Array Value} {a:Option Addr} {n c m:Nat} {cs:List (ByteArray×Int)} {o:Obj} (h:TS w pay (.slice a n c) cs W) (hg:World.grownBy (W.alloc o) w1 (Value.slice a m c).ownBlock):Fr w pay (.slice a n c) (.slice none 0 0) w1:=
 (h.fr.next (Tch.alloc (λ_=>False) W o) noE).next (Tch.grown hg) (λj hj=>(h.own.own j (by rw [<-hj.symm];cases a <;> rfl)).1)
theorem TSE.storedF {w w1:World} {pay:Array Value} {vI v1:Value} {cs1:List (ByteArray×Int)} (h:Fr w pay vI (.slice none 0 0) w1) (ho:COwn (w.heap.size+3) w1 v1 cs1):TS w pay v1 cs1 (w1.setCell ⟨w.heap.size+1+1,0,none⟩ v1):=by
 rw [setCell_eq_setRow w1 (w.heap.size+1+1) 0 _ _ _ v1 h.tx]
 exact ⟨h.set v1 (.slice none 0 0),ho.tch (Tch.setRow w1 _ _) (λj hj e=>by have:=(ho.own j hj).1;omega)⟩
theorem setTwo (w:World) (g:Nat) (t:TypeId) (a b v0 v1:Value) (h:w.heap[g]? =some (.cells #[a,b] t)):(w.setCell ⟨g,0,none⟩ v0).setCell ⟨g,1,none⟩ v1=w.setRow g #[v0,v1]:=by
 rw [setCell_eq_setRow w g 0 _ t (0,0) v0 h,setCell_eq_setRow _ g 1 _ t (0,0) v1 (setRow_heap _ _ _ _ _ _ h),setRow_setRow]
 rfl
theorem COwn.low {b b':Nat} {w:World} {v:Value} {l:List (ByteArray×Int)} (h:COwn b w v l) (hb:b'<=b):COwn b' w v l:=by
 obtain ⟨h1,⟨rfl,h0⟩ | ⟨g,cap,cur,rfl,hg,h2⟩⟩:=h
 ·exact ⟨h1,.inl ⟨rfl,h0⟩⟩
 ·exact ⟨h1,.inr ⟨g,cap,cur,rfl,Nat.le_trans hb hg,h2⟩⟩
theorem OOwn.low {b b':Nat} {w:World} {v:Value} {l:List (Nat×Nat)} (h:OOwn b w v l) (hb:b'<=b):OOwn b' w v l:=by
 obtain ⟨h1,⟨rfl,h0⟩ | ⟨g,cap,cur,rfl,hg,h2⟩⟩:=h
 ·exact ⟨h1,.inl ⟨rfl,h0⟩⟩
 ·exact ⟨h1,.inr ⟨g,cap,cur,rfl,Nat.le_trans hb hg,h2⟩⟩
theorem coin_out_apart {b b':Nat} {w:World} {v v2:Value} {cs:List (ByteArray×Int)} {os:List (Nat×Nat)} (h:COwn b w v cs) (h2:OOwn b' w v2 os):∀j,v.ownBlock=some j->¬v2.ownBlock=some j:=by
 intro j hj hj2
 obtain ⟨_,⟨rfl,_⟩ | ⟨g,cap,cur,rfl,_,hrow,_⟩⟩:=h
 ·cases hj
 obtain ⟨_,⟨rfl,_⟩ | ⟨g',cap',cur',rfl,_,hrow',_⟩⟩:=h2
 ·cases hj2
 cases hj
 cases hj2
 rw [hrow] at hrow'
 simp at hrow'
set_option maxRecDepth 100000 in
set_option maxHeartbeats 40000000 in
theorem k_tx (E:Nat->Addr) (width:Nat) (hw1:1<=width) (hw:width<=32) (xb:Nat) (v:Value) (l:List Held) (p:PayL) (va:Value) (w:World) (hE:Env E w) (hx:w.cell? ⟨xb,1,none⟩=some (.int .i64 (width:Int))) (h:HeldAt w v l) (hl:l.length<=900000000) (hlo:∀x∈l,CoinOk width x.1/\OutOk x.2) (hp:p.Ok) (ha:NumsAt w va p.amounts):
  Calls Tryz.prog 43 #[.pointer (some ⟨xb,0,none⟩),v,.agg #[.int .i64 p.from_,.int .i64 p.many,va,.int .u8 (p.owner:Int),.bool p.wild,.bool p.other]] w (ToTx width w):=by
 obtain ⟨a0,c0,rfl⟩:=h.shape
 obtain ⟨a1,c1,rfl⟩:=ha.shape
 obtain ⟨fr,mn,am,ow,wi,ot⟩:=p
 simp only at ha
 have H:Hid (HeldAt _ _ _):=h
 have HA:Hid (NumsAt _ _ _):=ha
 have HE:Hid (Env E w):=hE
 have HLO:Hid (∀x∈l,CoinOk width x.1/\OutOk x.2):=hlo
 have HX:Hid (w.cell? ⟨xb,1,none⟩=some (.int .i64 (width:Int))):=hx
 have HP:Hid (PayL.Ok _):=hp
 clear h ha hE hlo hx hp
 have hPM:Hid (∀W,Calls Tryz.prog 22 #[.int .i64 mn,.int .i64 ((3:Nat):Int)] W _):=λW=>k_pick mn 3 W HP.out.m1 HP.out.m2 (by omega) (by omega)
 have hPF:Hid (∀W,Calls Tryz.prog 22 #[.int .i64 fr,.int .i64 1073741824] W λe w'=>(∃r:Nat,Hid (r<1073741824)/\e=.returned (.int .i64 (r:Int)))/\w'=W):=λW=>by
  have:=k_pick fr 1073741824 W HP.out.f1 HP.out.f2 (by omega) (by omega)
  have e:((1073741824:Nat):Int)=1073741824:=by decide
  rw [e] at this
  exact this
 have hPG:Hid (∀W,Calls Tryz.prog 22 #[.int .i64 fr,.int .i64 ((3:Nat):Int)] W _):=λW=>k_pick fr 3 W HP.out.f1 HP.out.f2 (by omega) (by omega)
 go_enter Tryz.func43,Tryz.ntmps43
 go_wp2
 go_loopw [8,9] (λvl i wr=>∃(k s:Nat) (cs:List (ByteArray×Int)) (vI:Value),k<=3/\i=.int .i64 k/\vl=.int .u64 (s:Int)/\Hid (s<18446744073709551616)/\Hid (COwn (w.heap.size+3) wr vI cs)/\Hid (cs.length=k)/\Hid (∀c∈cs,CoinOk width c)/\Hid (Fr w #[.int .i64 fr,.int .i64 mn,.slice a1 am.length c1,.int .u8 (ow:Int),.bool wi,.bool ot] vI (.slice none 0 0) wr)) (λ_ i _=>3 - (intOf i).toNat)
 case atStart=>
  exact ⟨0,0,[],.slice none 0 0,by omega,rfl,rfl,(by decide:(0:Nat)<18446744073709551616),COwn.nil _ _,rfl,(λc hc=>(List.not_mem_nil hc).elim:∀c∈([]:List (ByteArray×Int)),CoinOk width c),Fr.start w _⟩
 case round=>
  obtain ⟨k,sm,cs,vI,hk,rfl,rfl,HSM,HCO,HCL,HCC,HF⟩:=hrel
  obtain ⟨va,vc,rfl⟩:=HCO.out.shape
  have d1:wr.cell? ⟨w.heap.size,1,none⟩=some (.int .i64 mn):=cell_row HF.out.pay
  have d0:wr.cell? ⟨w.heap.size,0,none⟩=some (.int .i64 fr):=cell_row HF.out.pay
  go_upto_region 4 with fail
  go_cut [24] (λvb wx=>∃b:Bool,vb=.bool b/\wx=wr/\(b=true->k<3/\k<l.length))
  case first=>
   go_wp2_with (go_at_call 22;refine (hPM.out _).mono ?_;rintro _ _ ⟨⟨r,hr,rfl⟩,rfl⟩)
   all_goals go_meet
   all_goals first | exact ⟨false,rfl,rfl,λh=>by cases h⟩ | exact ⟨_,rfl,rfl,λh=>⟨by omega,by simpa using h⟩⟩
  case rest=>
  obtain ⟨b,rfl,rfl,hb⟩:=hcut
  obtain ⟨wA,hwA⟩:∃wA,wA=wc:=⟨wc,rfl⟩
  subst hwA
  cases b with
  | true=>
   obtain ⟨hk3,hkl⟩:=hb rfl
   clear hb
   have hPL:Hid (∀(r:Nat),Hid (r<1073741824)->∀W,Calls Tryz.prog 22 #[.int .i64 ((r:Int)+(k:Int)),.int .i64 (l.length:Int)] W _):=λr hr W=>k_pick ((r:Int)+(k:Int)) l.length W (by omega) (by have:=hr.out;omega) (by omega) (by omega)
   have hWR:Hid (∀(r:Nat),Hid (r<1073741824)->wrap64 ((r:Int)+(k:Int))=(r:Int)+(k:Int)):=λr hr=>by have:=hr.out;unfold wrap64;omega
   rcases H.out with ⟨_,e2⟩ | ⟨g0,o0,cc,e,hg0,hcell⟩
   ·rw [e2] at hkl;simp at hkl
   simp only [Value.slice.injEq,true_and] at e
   obtain ⟨rfl,rfl⟩:=e
   have HHC:Hid (∀r (hr:r<l.length),wA.cell? ⟨g0,o0+r * 4,none⟩=some (.string l[r].1.1)/\wA.cell? ⟨g0,o0+r * 4+1,none⟩=some (.int .i64 l[r].1.2)/\wA.cell? ⟨g0,o0+r * 4+2,none⟩=some (.int .u64 ((l[r].2.1:Nat):Int))/\wA.cell? ⟨g0,o0+r * 4+3,none⟩=some (.int .u8 ((l[r].2.2:Nat):Int))):=by
    intro r hr
    have hc:∀o,wA.cell? ⟨g0,o,none⟩=w.cell? ⟨g0,o,none⟩:=λo=>HF.out.tch.cell (p:=⟨g0,o,none⟩) hg0 (λe=>e)
    rw [hc,hc,hc,hc];exact hcell r hr
   clear hcell hg0
   go_wp2_with fail
   refine (hPF.out _).mono ?_
   rintro _ w' ⟨⟨r1,hr1,rfl⟩,hw'⟩
   obtain rfl:wA=w':=hw'.symm
   have hw64:=hWR.out r1 hr1
   go_wp2_with fail
   refine (hPL.out r1 hr1 _).mono ?_
   rintro _ w' ⟨⟨r2,hr2,rfl⟩,hw'⟩
   obtain rfl:wA=w':=hw'.symm
   obtain ⟨q0,q1,q2,q3⟩:=HHC.out r2 hr2
   have hr2i:(r2:Int)<(l.length:Int):=by omega
   have HC2:Hid (CoinOk width l[r2].1/\OutOk l[r2].2):=HLO.out _ (List.getElem_mem hr2)
   clear HHC hPL hWR hw64 d0 d1
   generalize l[r2]=x at *
   obtain ⟨⟨xs,xn⟩,⟨xa,xo⟩⟩:=x
   simp only at q0 q1 q2 q3
   go_upto_region 7 with fail
   have HFH:Hid (Fr w #[.int .i64 fr,.int .i64 mn,.slice a1 am.length c1,.int .u8 (ow:Int),.bool wi,.bool ot] (.slice va cs.length vc) (.slice none 0 0) (wA.alloc (.cells #[.string xs,.int .i64 xn,.int .u64 (xa:Int),.int .u8 (xo:Int)] 87))):=HF.out.next (Tch.alloc (λ_=>False) wA _) noE
   have HCH:Hid (COwn (w.heap.size+3) (wA.alloc (.cells #[.string xs,.int .i64 xn,.int .u64 (xa:Int),.int .u8 (xo:Int)] 87)) (.slice va cs.length vc) cs):=HCO.out.tch (Tch.alloc (λ_=>False) wA _) (λ_ _ h=>h)
   have t0:(wA.alloc (.cells #[.string xs,.int .i64 xn,.int .u64 (xa:Int),.int .u8 (xo:Int)] 87)).cell? ⟨w.heap.size+1+1,0,none⟩=some (.slice va cs.length vc):=cell_row HFH.out.tx
   have RH:Hid ((wA.alloc (.cells #[.string xs,.int .i64 xn,.int .u64 (xa:Int),.int .u8 (xo:Int)] 87)).heap[wA.heap.size]? =some (.cells #[.string xs,.int .i64 xn,.int .u64 (xa:Int),.int .u8 (xo:Int)] 87)):=heap_alloc_new _ _
   have HSZ:Hid (w.heap.size+3<=wA.heap.size):=HF.out.size
   have HNC:Hid (CoinsAt (wA.heap.size+1+1) ((wA.alloc (.cells #[.string xs,.int .i64 xn,.int .u64 (xa:Int),.int .u8 (xo:Int)] 87)).alloc (.cells #[.string xs,.int .i64 xn] 49)) (.slice (some ⟨wA.heap.size+1,0,none⟩) 1 1) [(xs,xn)]):=by
    have:=new_coin (wA.alloc (.cells #[.string xs,.int .i64 xn,.int .u64 (xa:Int),.int .u8 (xo:Int)] 87)) (xs,xn)
    have e:(wA.alloc (.cells #[.string xs,.int .i64 xn,.int .u64 (xa:Int),.int .u8 (xo:Int)] 87)).heap.size=wA.heap.size+1:=by simp
    rw [e] at this
    exact this
   have HFN:Hid (∀w1 v1,COwn (w.heap.size+3) w1 v1 (cs++[(xs,xn)])->World.grownBy ((wA.alloc (.cells #[.string xs,.int .i64 xn,.int .u64 (xa:Int),.int .u8 (xo:Int)] 87)).alloc (.cells #[.string xs,.int .i64 xn] 49)) w1 (Value.slice va cs.length vc).ownBlock->
     Fr w #[.int .i64 fr,.int .i64 mn,.slice a1 am.length c1,.int .u8 (ow:Int),.bool wi,.bool ot] (.slice va cs.length vc) (.slice none 0 0) w1/\w1.heap[wA.heap.size]? =some (.cells #[.string xs,.int .i64 xn,.int .u64 (xa:Int),.int .u8 (xo:Int)] 87)):=by
    intro w1 v1 _ hg
    have tA:=Tch.alloc (λ_=>False) (wA.alloc (.cells #[.string xs,.int .i64 xn,.int .u64 (xa:Int),.int .u8 (xo:Int)] 87)) (.cells #[.string xs,.int .i64 xn] 49)
    refine ⟨(HFH.out.next tA noE).next (Tch.grown hg) (λj hj=>(HCO.out.own j hj.symm).1),(hg.block _ (by simp;omega) (λe=>?_)).trans ((tA.block _ (by simp) (λh=>h)).trans RH.out)⟩
    have:=(HCO.out.own _ e.symm).2;omega
   clear HF HCO q0 q1 q2 q3
   go_cut [] (λwx=>∃v1,Hid (COwn (w.heap.size+3) wx v1 (cs++[(xs,xn)]))/\Hid (Fr w #[.int .i64 fr,.int .i64 mn,.slice a1 am.length c1,.int .u8 (ow:Int),.bool wi,.bool ot] v1 (.slice none 0 0) wx)/\Hid (wx.heap[wA.heap.size]? =some (.cells #[.string xs,.int .i64 xn,.int .u64 (xa:Int),.int .u8 (xo:Int)] 87)))
   case first=>
    go_wp2_with (at_builtin;(refine wpList_append_coin rfl _ _ rfl rfl (HCH.out.tch (Tch.alloc (λ_=>False) _ _) (λ_ _ h=>h)) _ _ [(xs,xn)] rfl HNC.out (by have:=HCL.out;simp;omega) (by have:=HSZ.out;simp;omega) ?_);intro v1 w1 hown1 hg1;obtain ⟨hf1,hh1⟩:=HFN.out w1 v1 hown1 hg1;have HO1:Hid (COwn _ w1 v1 _):=hown1;have t1:w1.cell? ⟨w.heap.size+1+1,0,none⟩=some (.slice va cs.length vc):=cell_row hf1.tx;have t2:w1.frozen? ⟨w.heap.size+1+1,0,none⟩=false:=frozen_of_row _ _ _ _ _ hf1.tx;have HF1:Hid (Fr _ _ _ _ w1):=hf1;have HH1:Hid (_=_):=hh1;clear hown1 hg1 hf1 hh1;obtain ⟨b1,m1,e1,hv1⟩:=HO1.out.shape3;subst hv1)
    go_meet
    have hset:=setCell_eq_setRow w1 (w.heap.size+1+1) 0 _ _ _ (.slice b1 m1 e1) HF1.out.tx
    refine ⟨.slice b1 m1 e1,?_,?_,?_⟩
    ·rw [hset]
     exact HO1.out.tch (Tch.setRow w1 _ _) (λj hj e=>by have:=(HO1.out.own j hj).1;omega)
    ·rw [hset];exact HF1.out.set (.slice b1 m1 e1) (.slice none 0 0)
    ·rw [hset];have:=HSZ.out;exact (setRow_other _ _ _ _ (by omega)).trans HH1.out
   case rest=>
   obtain ⟨v1,HO1,HF1,HH1⟩:=hcut
   obtain ⟨wB,hwB⟩:∃wB,wB=wc:=⟨wc,rfl⟩
   subst hwB
   have h2:wB.cell? ⟨wA.heap.size,2,none⟩=some (.int .u64 (xa:Int)):=cell_row HH1.out
   obtain ⟨s2,hs2⟩:∃s2:Nat,(sm+xa) % M64=s2:=⟨_,rfl⟩
   have hwr:IntKind.u64.wrap ((sm:Int)+(xa:Int))=(s2:Int):=by rw [<-hs2];simp [IntKind.wrap,IntKind.bits,IntKind.signed,M64]
   have HS2:Hid (s2<18446744073709551616):=(by rw [<-hs2];exact Nat.mod_lt _ (by decide):s2<18446744073709551616)
   clear hs2 t0
   go_wp2
   go_roundw
   case rel=>exact ⟨k+1,s2,cs++[(xs,xn)],v1,by omega,by go_num,rfl,HS2.out,HO1.out,(by have:=HCL.out;simp;omega:(cs++[(xs,xn)]).length=k+1),(by intro c hc;rw [List.mem_append,List.mem_singleton] at hc;rcases hc with hc | rfl;exact HCC.out c hc;exact HC2.out.1:∀c∈cs++[(xs,xn)],CoinOk width c),HF1.out⟩
   case measure=>simp [intOf];omega
  | false=>
   clear hb d0 d1
   have e5:wA.cell? ⟨w.heap.size,5,none⟩=some (.bool ot):=cell_row HF.out.pay
   have t0:wA.cell? ⟨w.heap.size+1+1,0,none⟩=some (.slice va cs.length vc):=cell_row HF.out.tx
   have HL3:Hid (cs.length<=3):=(by have:=HCL.out;omega:cs.length<=3)
   go_upto_region 9 with fail
   go_cut [57] (λvb wx=>∃b:Bool,vb=.bool b/\wx=wA/\(b=false->¬cs.length=0))
   case first=>
    by_cases h0:cs.length=0
    ·have h0i:(cs.length:Int)=0:=by omega
     go_wp2
     go_meet
     exact ⟨true,rfl,rfl,λh=>by cases h⟩
    ·have h0i:¬(cs.length:Int)=0:=by omega
     go_wp2
     go_meet
     exact ⟨_,rfl,rfl,λ_=>h0⟩
   case rest=>
   obtain ⟨b,rfl,rfl,hb⟩:=hcut
   obtain ⟨wB,hwB⟩:∃wB,wB=wc:=⟨wc,rfl⟩
   subst hwB
   have HB:Hid (b=false->¬cs.length=0):=hb
   clear hb
   go_upto_if 57 with fail
   go_cut [] (λwx=>∃cs' v',Hid (COwn (w.heap.size+3) wx v' cs')/\Hid (1<=cs'.length/\cs'.length<=3/\∀c∈cs',CoinOk width c)/\Hid (Fr w #[.int .i64 fr,.int .i64 mn,.slice a1 am.length c1,.int .u8 (ow:Int),.bool wi,.bool ot] v' (.slice none 0 0) wx))
   case first=>
    cases b with
    | false=>
     go_wp2
     go_meet
     exact ⟨cs,_,HCO,⟨by have:=HB.out (by first | rfl | trivial);omega,HL3.out,HCC.out⟩,HF⟩
    | true=>
     have hxb:=World.block_lt_of_cell? _ _ HX.out
     have HDG:Hid (∀W,Tch (λ_=>False) w W->Calls Tryz.prog 39 #[.int .i64 (width:Int),.string ⟨#[110,111,32,99,111,105,110]⟩] W λe w'=>(∃id:ByteArray,id.size=width/\e=.returned (.string id))/\Tch (λ_=>False) W w'):=λW hW=>by
      have hEW:=HE.out.tch hW noE
      refine (k_digest width _ W hw1 hw (by decide) (Nat.lt_of_lt_of_le (by decide) hEW.size) hEW.table).mono ?_
      rintro _ w' ⟨rfl,ht⟩
      exact ⟨⟨_,dgW_size width hw _,rfl⟩,ht⟩
     have HTS:Hid (TS w #[.int .i64 fr,.int .i64 mn,.slice a1 am.length c1,.int .u8 (ow:Int),.bool wi,.bool ot] (.slice va cs.length vc) cs wB):=⟨HF.out,HCO.out⟩
     have HVA:Hid ((va=none/\vc=0/\cs.length=0)\/∃g,va=some ⟨g,0,none⟩/\cs.length<=vc):=by
      obtain ⟨_,⟨hv,h0⟩ | ⟨g,cap,cur,hv,_,_,hc,_⟩⟩:=HCO.out
      ·simp only [Value.slice.injEq] at hv;exact .inl ⟨hv.1,hv.2.2,h0⟩
      ·simp only [Value.slice.injEq,true_and] at hv;exact .inr ⟨g,hv.1,by rw [hv.2];exact hc⟩
     clear HF HCO t0 e5 HB HCL
     obtain ⟨n,hn⟩:∃n,cs.length=n:=⟨_,rfl⟩
     rw [hn] at HTS HVA HL3
     have HN:Hid (cs.length=n):=hn
     clear hn
     have h3:=HL3.out
     go_wp2_with fail
     rcases HVA.out with ⟨rfl,rfl,rfl⟩ | ⟨g,rfl,hvc⟩
     ·have HTS0:Hid (TS w #[.int .i64 fr,.int .i64 mn,.slice a1 am.length c1,.int .u8 (ow:Int),.bool wi,.bool ot] (.slice none 0 0) cs wB.drew):=HTS.out.next (Tch.drewN _ wB 1)
      have c0:wB.drew.cell? ⟨w.heap.size+1+1,0,none⟩=some (.slice none 0 0):=cell_row HTS0.out.fr.tx
      have c0':wB.cell? ⟨w.heap.size+1+1,0,none⟩=some (.slice none 0 0):=c0
      as_aux_lemma=>
       have hz:IntKind.i64.wrap 0=0:=by decide
       refine wp_region_last_held (S:=λW=>W.cell? ⟨xb,1,none⟩=some (.int .i64 (width:Int))/\W.cell? ⟨w.heap.size,0,none⟩=some (.int .i64 fr)/\W.cell? ⟨w.heap.size+1+1,0,none⟩=some (.slice none 0 0)/\Fr w #[.int .i64 fr,.int .i64 mn,.slice a1 am.length c1,.int .u8 (ow:Int),.bool wi,.bool ot] (.slice none 0 0) (.slice none 0 0) W) 0 (by simp) (by kernel_rfl) (by kernel_rfl) (Fr.all HX.out HTS0.out.fr) ?_
       intro hHeld l o hl ho
       simp only [List.dropLast_cons_cons,List.dropLast_singleton] at hl
       simp only [List.getLast_cons_cons,List.getLast_singleton] at ho
       subst hl
       subst ho
       simp only [List.length_cons,List.length_nil,Nat.reduceAdd]
       refine takeL (i:=0) (v:=?va0) rfl (by kernel_rfl) (by kernel_rfl) (by kernel_rfl) (λ_ _ _ h=>h) rfl ?ha0 (by assumption) ?ra0
       case ha0=>(intro W hSW;(try dsimp only at hSW);go_simp;(try with_reducible rfl))
       simp only [Act.put,List.setIfInBounds_toArray,List.set_cons_zero,List.set_cons_succ]
       refine takeL (i:=1) (v:=?va1) rfl (by kernel_rfl) (by kernel_rfl) (by kernel_rfl) (λ_ _ _ h=>h) rfl ?ha1 (by assumption) ?ra1
       case ha1=>(intro W hSW;(try dsimp only at hSW);go_simp;(try with_reducible rfl))
       simp only [Act.put,List.setIfInBounds_toArray,List.set_cons_zero,List.set_cons_succ]
       refine takeL (i:=2) (v:=?va2) rfl (by kernel_rfl) (by kernel_rfl) (by kernel_rfl) (λ_ _ _ h=>h) rfl ?ha2 (by assumption) ?ra2
       case ha2=>(intro W hSW;(try dsimp only at hSW);go_simp;(try with_reducible rfl))
       simp only [Act.put,List.setIfInBounds_toArray,List.set_cons_zero,List.set_cons_succ]
       refine takeL (i:=3) (v:=?va3) rfl (by kernel_rfl) (by kernel_rfl) (by kernel_rfl) (λ_ _ _ h=>h) rfl ?ha3 (by assumption) ?ra3
       case ha3=>(intro W hSW;(try dsimp only at hSW);go_simp;(try with_reducible rfl))
       simp only [Act.put,List.setIfInBounds_toArray,List.set_cons_zero,List.set_cons_succ]
       refine takeL (i:=4) (v:=?va4) rfl (by kernel_rfl) (by kernel_rfl) (by kernel_rfl) (λ_ _ _ h=>h) rfl ?ha4 (by assumption) ?ra4
       case ha4=>(intro W hSW;(try dsimp only at hSW);go_simp;(try with_reducible rfl))
       simp only [Act.put,List.setIfInBounds_toArray,List.set_cons_zero,List.set_cons_succ]
       refine takeL (i:=5) (v:=?va5) rfl (by kernel_rfl) (by kernel_rfl) (by kernel_rfl) (λ_ _ _ h=>h) rfl ?ha5 (by assumption) ?ra5
       case ha5=>(intro W hSW;(try dsimp only at hSW);go_simp;(try with_reducible rfl))
       simp only [Act.put,List.setIfInBounds_toArray,List.set_cons_zero,List.set_cons_succ]
       refine takeL (i:=6) (v:=?va6) rfl (by kernel_rfl) (by kernel_rfl) (by kernel_rfl) (λ_ _ _ h=>h) rfl ?ha6 (by assumption) ?ra6
       case ha6=>(intro W hSW;(try dsimp only at hSW);go_simp;(try with_reducible rfl))
       simp only [Act.put,List.setIfInBounds_toArray,List.set_cons_zero,List.set_cons_succ]
       refine takeL (i:=7) (v:=?va7) rfl (by kernel_rfl) (by kernel_rfl) (by kernel_rfl) (λ_ _ _ h=>h) rfl ?ha7 (by assumption) ?ra7
       case ha7=>(intro W hSW;(try dsimp only at hSW);go_simp;(try with_reducible rfl))
       simp only [Act.put,List.setIfInBounds_toArray,List.set_cons_zero,List.set_cons_succ]
       refine takeL (i:=8) (v:=?va8) rfl (by kernel_rfl) (by kernel_rfl) (by kernel_rfl) (λ_ _ _ h=>h) rfl ?ha8 (by assumption) ?ra8
       case ha8=>(intro W hSW;(try dsimp only at hSW);go_simp;(try with_reducible rfl))
       simp only [Act.put,List.setIfInBounds_toArray,List.set_cons_zero,List.set_cons_succ]
       refine takeL (i:=9) (v:=?va9) rfl (by kernel_rfl) (by kernel_rfl) (by kernel_rfl) (λ_ _ _ h=>h) rfl ?ha9 (by assumption) ?ra9
       case ha9=>(intro W hSW;(try dsimp only at hSW);go_simp;(try with_reducible rfl))
       simp only [Act.put,List.setIfInBounds_toArray,List.set_cons_zero,List.set_cons_succ]
       refine takeL (i:=10) (v:=?va10) rfl (by kernel_rfl) (by kernel_rfl) (by kernel_rfl) (λ_ _ _ h=>h) rfl ?ha10 (by assumption) ?ra10
       case ha10=>(intro W hSW;(try dsimp only at hSW);go_simp;(try with_reducible rfl))
       simp only [Act.put,List.setIfInBounds_toArray,List.set_cons_zero,List.set_cons_succ]
       refine takeL (i:=12) (v:=?va11) rfl (by kernel_rfl) (by kernel_rfl) (by kernel_rfl) (λ_ _ _ h=>h) rfl ?ha11 (by assumption) ?ra11
       case ha11=>(intro W hSW;(try dsimp only at hSW);go_simp;(try with_reducible rfl))
       simp only [Act.put,List.setIfInBounds_toArray,List.set_cons_zero,List.set_cons_succ]
       refine takeL (i:=13) (v:=?va12) rfl (by kernel_rfl) (by kernel_rfl) (by kernel_rfl) (λ_ _ _ h=>h) rfl ?ha12 (by assumption) ?ra12
       case ha12=>(intro W hSW;(try dsimp only at hSW);go_simp;(try with_reducible rfl))
       simp only [Act.put,List.setIfInBounds_toArray,List.set_cons_zero,List.set_cons_succ]
       refine moveL (i:=11) rfl (by kernel_rfl) (λK hK=>?_)
       go_simp
       go_at_call 39
       refine (HDG.out _ hHeld.2.2.2.tch).mono ?_
       rintro _ w' ⟨⟨id,hid,rfl⟩,ht⟩
       have hts:=TS.next HTS0.out ht
       go_wp2_with fail
       refine hK.out _ _ (Fr.all HX.out hts.fr) (λhHeld13=>?_)
       clear hK K hHeld
       try simp only [Act.put,List.setIfInBounds_toArray,List.set_cons_zero,List.set_cons_succ]
       refine moveL (i:=14) rfl (by kernel_rfl) (λK hK=>?_)
       go_simp
       go_at_call 22
       refine (hPG.out _).mono ?_
       rintro _ w'' ⟨⟨r,hr,rfl⟩,hw''⟩
       have hw3:=hw''.symm
       subst hw3
       go_wp2_with fail
       refine hK.out _ _ (Fr.all HX.out hts.fr) (λhHeld14=>?_)
       clear hK K hHeld13
       try simp only [Act.put,List.setIfInBounds_toArray,List.set_cons_zero,List.set_cons_succ]
       refine takeL (i:=15) (v:=?va15) rfl (by kernel_rfl) (by kernel_rfl) (by kernel_rfl) (λ_ _ _ h=>h) rfl ?ha15 (by assumption) ?ra15
       case ha15=>(intro W hSW;(try dsimp only at hSW);go_simp;(try with_reducible rfl))
       simp only [Act.put,List.setIfInBounds_toArray,List.set_cons_zero,List.set_cons_succ]
       refine moveL (i:=16) rfl (by kernel_rfl) (λK hK=>?_)
       go_simp
       refine hK.out _ _ (Fr.all HX.out (hts.next (Tch.alloc _ _ _)).fr) (λhHeld16=>?_)
       clear hK K hHeld14
       try simp only [Act.put,List.setIfInBounds_toArray,List.set_cons_zero,List.set_cons_succ]
       refine moveL (i:=17) rfl (by kernel_rfl) (λK hK=>?_)
       refine step_append_coin rfl _ _ rfl rfl (COwn.nil (w.heap.size+3) _) _ _ [(id,(r:Int))] rfl (new_coin _ (id,(r:Int))) (by simp) (hts.next (Tch.alloc _ _ _)).fr.size ?_
       intro v1 w1 hown1 hg1
       have ht1:=TS.grownS hg1
       have hts1:=TS.next (TS.next hts (Tch.alloc _ _ _)) ht1
       obtain ⟨b1,m1,e1,hv1⟩:=hown1.shape3
       subst hv1
       have hf1:=hts1.fr
       refine hK.out _ _ (Fr.all HX.out hf1) (λhHeld17=>?_)
       clear hK K hHeld16
       try simp only [Act.put,List.setIfInBounds_toArray,List.set_cons_zero,List.set_cons_succ]
       refine takeL (i:=18) (v:=?va18) rfl (by kernel_rfl) (by kernel_rfl) (by kernel_rfl) (λ_ _ _ h=>h) rfl ?ha18 (by assumption) ?ra18
       case ha18=>(intro W hSW;(try dsimp only at hSW);go_simp;(try with_reducible rfl))
       simp only [Act.put,List.setIfInBounds_toArray,List.set_cons_zero,List.set_cons_succ]
       refine wpAnyH_done (by kernel_rfl) ?_ _
       show wpList _ _ _ [_] _ _
       have c9:w1.frozen? ⟨w.heap.size+1+1,0,none⟩=false:=frozen_of_row _ _ _ _ _ hf1.tx
       have c8:w1.cell? ⟨w.heap.size+1+1,0,none⟩=some (.slice none 0 0):=cell_row hf1.tx
       go_wp2
       go_meet
       have hff:=TS.stored hts1 hown1
       exact ⟨_,_,hff.own,⟨by simp,by simp,λc hc=>by
        rw [List.nil_append,List.mem_singleton] at hc
        subst hc
        exact ⟨hid,by show (0:Int)<=(r:Int);omega,by show (r:Int)<3;omega⟩⟩,hff.fr⟩
     ·have HTS0:Hid (TS w #[.int .i64 fr,.int .i64 mn,.slice a1 am.length c1,.int .u8 (ow:Int),.bool wi,.bool ot] (.slice (some ⟨g,0,none⟩) n vc) cs wB.drew):=HTS.out.next (Tch.drewN _ wB 1)
      have c0:wB.drew.cell? ⟨w.heap.size+1+1,0,none⟩=some (.slice (some ⟨g,0,none⟩) n vc):=cell_row HTS0.out.fr.tx
      have c0':wB.cell? ⟨w.heap.size+1+1,0,none⟩=some (.slice (some ⟨g,0,none⟩) n vc):=c0
      obtain ⟨hf,hhf⟩:∃hf,n / 2=hf:=⟨_,rfl⟩
      have hq1:(n:Int).tdiv 2=(hf:Int):=by rw [<-hhf];rfl
      have hq2:(n:Int) / 2=(hf:Int):=by omega
      have hq3:IntKind.i64.wrap (hf:Int)=(hf:Int):=by simp [IntKind.wrap,IntKind.bits,IntKind.signed];omega
      have hq4:(hf:Int)<=(vc:Int):=by omega
      have hq5:(0:Int)<=(hf:Int):=by omega
      have HHF:Hid (hf<=n/\hf<=1):=(by omega:hf<=n/\hf<=1)
      clear hhf
      as_aux_lemma=>
       refine wp_region_last_held (S:=λW=>W.cell? ⟨xb,1,none⟩=some (.int .i64 (width:Int))/\W.cell? ⟨w.heap.size,0,none⟩=some (.int .i64 fr)/\W.cell? ⟨w.heap.size+1+1,0,none⟩=some (.slice (some ⟨g,0,none⟩) n vc)/\Fr w #[.int .i64 fr,.int .i64 mn,.slice a1 am.length c1,.int .u8 (ow:Int),.bool wi,.bool ot] (.slice (some ⟨g,0,none⟩) n vc) (.slice none 0 0) W) 0 (by simp) (by kernel_rfl) (by kernel_rfl) (Fr.all HX.out HTS0.out.fr) ?_
       intro hHeld l o hl ho
       simp only [List.dropLast_cons_cons,List.dropLast_singleton] at hl
       simp only [List.getLast_cons_cons,List.getLast_singleton] at ho
       subst hl
       subst ho
       simp only [List.length_cons,List.length_nil,Nat.reduceAdd]
       refine takeL (i:=0) (v:=?vb0) rfl (by kernel_rfl) (by kernel_rfl) (by kernel_rfl) (λ_ _ _ h=>h) rfl ?hb0 (by assumption) ?rb0
       case hb0=>(intro W hSW;(try dsimp only at hSW);go_simp;(try with_reducible rfl))
       simp only [Act.put,List.setIfInBounds_toArray,List.set_cons_zero,List.set_cons_succ]
       refine takeL (i:=1) (v:=?vb1) rfl (by kernel_rfl) (by kernel_rfl) (by kernel_rfl) (λ_ _ _ h=>h) rfl ?hb1 (by assumption) ?rb1
       case hb1=>(intro W hSW;(try dsimp only at hSW);go_simp;(try with_reducible rfl))
       simp only [Act.put,List.setIfInBounds_toArray,List.set_cons_zero,List.set_cons_succ]
       refine takeL (i:=2) (v:=?vb2) rfl (by kernel_rfl) (by kernel_rfl) (by kernel_rfl) (λ_ _ _ h=>h) rfl ?hb2 (by assumption) ?rb2
       case hb2=>(intro W hSW;(try dsimp only at hSW);go_simp;(try with_reducible rfl))
       simp only [Act.put,List.setIfInBounds_toArray,List.set_cons_zero,List.set_cons_succ]
       refine takeL (i:=3) (v:=?vb3) rfl (by kernel_rfl) (by kernel_rfl) (by kernel_rfl) (λ_ _ _ h=>h) rfl ?hb3 (by assumption) ?rb3
       case hb3=>(intro W hSW;(try dsimp only at hSW);go_simp;(try with_reducible rfl))
       simp only [Act.put,List.setIfInBounds_toArray,List.set_cons_zero,List.set_cons_succ]
       refine takeL (i:=4) (v:=?vb4) rfl (by kernel_rfl) (by kernel_rfl) (by kernel_rfl) (λ_ _ _ h=>h) rfl ?hb4 (by assumption) ?rb4
       case hb4=>(intro W hSW;(try dsimp only at hSW);go_simp;(try with_reducible rfl))
       simp only [Act.put,List.setIfInBounds_toArray,List.set_cons_zero,List.set_cons_succ]
       refine takeL (i:=5) (v:=?vb5) rfl (by kernel_rfl) (by kernel_rfl) (by kernel_rfl) (λ_ _ _ h=>h) rfl ?hb5 (by assumption) ?rb5
       case hb5=>(intro W hSW;(try dsimp only at hSW);go_simp;(try with_reducible rfl))
       simp only [Act.put,List.setIfInBounds_toArray,List.set_cons_zero,List.set_cons_succ]
       refine takeL (i:=6) (v:=?vb6) rfl (by kernel_rfl) (by kernel_rfl) (by kernel_rfl) (λ_ _ _ h=>h) rfl ?hb6 (by assumption) ?rb6
       case hb6=>(intro W hSW;(try dsimp only at hSW);go_simp;(try with_reducible rfl))
       simp only [Act.put,List.setIfInBounds_toArray,List.set_cons_zero,List.set_cons_succ]
       refine takeL (i:=7) (v:=?vb7) rfl (by kernel_rfl) (by kernel_rfl) (by kernel_rfl) (λ_ _ _ h=>h) rfl ?hb7 (by assumption) ?rb7
       case hb7=>(intro W hSW;(try dsimp only at hSW);go_simp;(try with_reducible rfl))
       simp only [Act.put,List.setIfInBounds_toArray,List.set_cons_zero,List.set_cons_succ]
       refine takeL (i:=8) (v:=?vb8) rfl (by kernel_rfl) (by kernel_rfl) (by kernel_rfl) (λ_ _ _ h=>h) rfl ?hb8 (by assumption) ?rb8
       case hb8=>(intro W hSW;(try dsimp only at hSW);go_simp;(try with_reducible rfl))
       simp only [Act.put,List.setIfInBounds_toArray,List.set_cons_zero,List.set_cons_succ]
       refine takeL (i:=9) (v:=?vb9) rfl (by kernel_rfl) (by kernel_rfl) (by kernel_rfl) (λ_ _ _ h=>h) rfl ?hb9 (by assumption) ?rb9
       case hb9=>(intro W hSW;(try dsimp only at hSW);go_simp;(try with_reducible rfl))
       simp only [Act.put,List.setIfInBounds_toArray,List.set_cons_zero,List.set_cons_succ]
       refine takeL (i:=10) (v:=?vb10) rfl (by kernel_rfl) (by kernel_rfl) (by kernel_rfl) (λ_ _ _ h=>h) rfl ?hb10 (by assumption) ?rb10
       case hb10=>(intro W hSW;(try dsimp only at hSW);go_simp;(try with_reducible rfl))
       simp only [Act.put,List.setIfInBounds_toArray,List.set_cons_zero,List.set_cons_succ]
       refine takeL (i:=12) (v:=?vb11) rfl (by kernel_rfl) (by kernel_rfl) (by kernel_rfl) (λ_ _ _ h=>h) rfl ?hb11 (by assumption) ?rb11
       case hb11=>(intro W hSW;(try dsimp only at hSW);go_simp;(try with_reducible rfl))
       simp only [Act.put,List.setIfInBounds_toArray,List.set_cons_zero,List.set_cons_succ]
       refine takeL (i:=13) (v:=?vb12) rfl (by kernel_rfl) (by kernel_rfl) (by kernel_rfl) (λ_ _ _ h=>h) rfl ?hb12 (by assumption) ?rb12
       case hb12=>(intro W hSW;(try dsimp only at hSW);go_simp;(try with_reducible rfl))
       simp only [Act.put,List.setIfInBounds_toArray,List.set_cons_zero,List.set_cons_succ]
       refine moveL (i:=11) rfl (by kernel_rfl) (λK hK=>?_)
       go_simp
       go_at_call 39
       refine (HDG.out _ hHeld.2.2.2.tch).mono ?_
       rintro _ w' ⟨⟨id,hid,rfl⟩,ht⟩
       have hts:=TS.next HTS0.out ht
       go_wp2_with fail
       refine hK.out _ _ (Fr.all HX.out hts.fr) (λhHeld13=>?_)
       clear hK K hHeld
       try simp only [Act.put,List.setIfInBounds_toArray,List.set_cons_zero,List.set_cons_succ]
       refine moveL (i:=14) rfl (by kernel_rfl) (λK hK=>?_)
       go_simp
       go_at_call 22
       refine (hPG.out _).mono ?_
       rintro _ w'' ⟨⟨r,hr,rfl⟩,hw''⟩
       have hw3:=hw''.symm
       subst hw3
       go_wp2_with fail
       refine hK.out _ _ (Fr.all HX.out hts.fr) (λhHeld14=>?_)
       clear hK K hHeld13
       try simp only [Act.put,List.setIfInBounds_toArray,List.set_cons_zero,List.set_cons_succ]
       refine takeL (i:=15) (v:=?vb15) rfl (by kernel_rfl) (by kernel_rfl) (by kernel_rfl) (λ_ _ _ h=>h) rfl ?hb15 (by assumption) ?rb15
       case hb15=>(intro W hSW;(try dsimp only at hSW);go_simp;(try with_reducible rfl))
       simp only [Act.put,List.setIfInBounds_toArray,List.set_cons_zero,List.set_cons_succ]
       refine moveL (i:=16) rfl (by kernel_rfl) (λK hK=>?_)
       go_simp
       refine hK.out _ _ (Fr.all HX.out (hts.next (Tch.alloc _ _ _)).fr) (λhHeld16=>?_)
       clear hK K hHeld14
       try simp only [Act.put,List.setIfInBounds_toArray,List.set_cons_zero,List.set_cons_succ]
       refine moveL (i:=17) rfl (by kernel_rfl) (λK hK=>?_)
       refine step_append_coin rfl _ _ rfl rfl ((TS.next hts (Tch.alloc _ _ _)).own.take hf HHF.out.1) _ _ [(id,(r:Int))] rfl (new_coin _ (id,(r:Int))) (by have:=HN.out;simp;omega) (hts.next (Tch.alloc _ _ _)).fr.size ?_
       intro v1 w1 hown1 hg1
       have hf1:=TS.grownF hts hg1
       obtain ⟨b1,m1,e1,hv1⟩:=hown1.shape3
       subst hv1
       refine hK.out _ _ (Fr.all HX.out hf1) (λhHeld17=>?_)
       clear hK K hHeld16
       try simp only [Act.put,List.setIfInBounds_toArray,List.set_cons_zero,List.set_cons_succ]
       refine takeL (i:=18) (v:=?vb18) rfl (by kernel_rfl) (by kernel_rfl) (by kernel_rfl) (λ_ _ _ h=>h) rfl ?hb18 (by assumption) ?rb18
       case hb18=>(intro W hSW;(try dsimp only at hSW);go_simp;(try with_reducible rfl))
       simp only [Act.put,List.setIfInBounds_toArray,List.set_cons_zero,List.set_cons_succ]
       refine wpAnyH_done (by kernel_rfl) ?_ _
       show wpList _ _ _ [_] _ _
       have c9:w1.frozen? ⟨w.heap.size+1+1,0,none⟩=false:=frozen_of_row _ _ _ _ _ hf1.tx
       have c8:w1.cell? ⟨w.heap.size+1+1,0,none⟩=some (.slice (some ⟨g,0,none⟩) n vc):=cell_row hf1.tx
       go_wp2
       go_meet
       have hst:=TSE.storedF hf1 hown1
       exact ⟨_,_,hst.own,⟨by simp,by have:=HHF.out;simp [List.length_take];omega,λc hc=>by
        rw [List.mem_append,List.mem_singleton] at hc
        rcases hc with hc | rfl
        ·exact HCC.out c (List.mem_of_mem_take hc)
        ·exact ⟨hid,by show (0:Int)<=(r:Int);omega,by show (r:Int)<3;omega⟩⟩,hst.fr⟩
   case rest=>
   obtain ⟨cs',v',HCO',HCK,HFR⟩:=hcut
   obtain ⟨wC,hwC⟩:∃wC,wC=wc:=⟨wc,rfl⟩
   subst hwC
   clear HF HCO t0 e5 HB HCL HCC HL3
   go_wp2
   go_loopw [8,11] (λvl i wr=>∃(k s:Nat) (os:List (Nat×Nat)) (vO:Value),k<=3/\i=.int .i64 k/\vl=.int .u64 (s:Int)/\Hid (s<18446744073709551616)/\Hid (OOwn (w.heap.size+3) wr vO os)/\Hid (os.length=k)/\Hid (∀o∈os,OutOk o)/\Hid (COwn (w.heap.size+3) wr v' cs')/\Hid (Fr w #[.int .i64 fr,.int .i64 mn,.slice a1 am.length c1,.int .u8 (ow:Int),.bool wi,.bool ot] v' vO wr)) (λ_ i _=>3 - (intOf i).toNat)
   case atStart=>
    exact ⟨0,sm,[],.slice none 0 0,by omega,rfl,rfl,HSM.out,OOwn.nil _ _,rfl,(λc hc=>(List.not_mem_nil hc).elim:∀c∈([]:List (Nat×Nat)),OutOk c),HCO'.out,HFR.out⟩
   case round=>
    clear HCO' HFR HSM
    obtain ⟨k,sm,os,vO,hk,rfl,rfl,HSM,HOO,HOL,HOK,HCO',HF⟩:=hrel
    obtain ⟨va2,vc2,rfl⟩:=HOO.out.shape
    have d2:wr.cell? ⟨w.heap.size,2,none⟩=some (.slice a1 am.length c1):=cell_row HF.out.pay
    have d3:wr.cell? ⟨w.heap.size,3,none⟩=some (.int .u8 (ow:Int)):=cell_row HF.out.pay
    have d4:wr.cell? ⟨w.heap.size,4,none⟩=some (.bool wi):=cell_row HF.out.pay
    by_cases hgo:k<am.length/\k<3
    ·obtain ⟨hka,hk3⟩:=hgo
     rcases HA.out with ⟨_,e2⟩ | ⟨g0,o0,cc,e,hg0,hcell⟩
     ·rw [e2] at hka;simp at hka
     simp only [Value.slice.injEq,true_and] at e
     obtain ⟨rfl,rfl⟩:=e
     have q0:=(HF.out.tch.cell (p:=⟨g0,o0+k,none⟩) hg0 (λe=>e)).trans (hcell k hka)
     have HAM:Hid (am[k]<18446744073709551616):=HP.out.amounts _ (List.getElem_mem hka)
     have hki:(k:Int)<(am.length:Int):=by omega
     have hk3i:(k:Int)<3:=by omega
     clear hcell
     generalize am[k]=a at *
     go_upto_region 15 with fail
     go_cut [99] (λvb wx=>∃b:Bool,vb=.bool b/\wx=wr/\(b=true->sm<9223372036854775808))
     case first=>
      cases wi with
      | true=>
       go_wp2
       go_meet
       exact ⟨false,rfl,rfl,λh=>by cases h⟩
      | false=>
       rcases Nat.lt_or_ge sm 9223372036854775808 with hs | hs
       ·have hsi:(sm:Int)<9223372036854775808:=by omega
        have HS:Hid (sm<9223372036854775808):=hs
        clear hs
        go_wp2
        go_meet
        exact ⟨_,rfl,rfl,λ_=>HS.out⟩
       ·have hsi:¬(sm:Int)<9223372036854775808:=by omega
        clear hs
        go_wp2
        go_meet
        exact ⟨false,by first | rfl | simp [hsi],rfl,λh=>by cases h⟩
     case rest=>
     obtain ⟨b,rfl,rfl,hb⟩:=hcut
     obtain ⟨wD,hwD⟩:∃wD,wD=wc:=⟨wc,rfl⟩
     subst hwD
     have HB2:Hid (b=true->sm<9223372036854775808):=hb
     clear hb
     go_upto_if 99 with fail
     go_cut [8,12] (λvl va wx=>∃s2 a2:Nat,vl=.int .u64 (s2:Int)/\va=.int .u64 (a2:Int)/\wx=wD/\Hid (s2<18446744073709551616)/\Hid (a2<18446744073709551616))
     case first=>
      cases b with
      | false=>
       go_wp2
       go_meet
       exact ⟨sm,a,rfl,rfl,rfl,HSM,HAM⟩
      | true=>
       have hs:=HB2.out rfl
       obtain ⟨m1,hm1⟩:∃m1,sm+1=m1:=⟨_,rfl⟩
       obtain ⟨r,hr⟩:∃r,a % m1=r:=⟨_,rfl⟩
       have hrm:r<m1:=by rw [<-hr];exact Nat.mod_lt _ (by omega)
       have hw1:IntKind.u64.wrap ((sm:Int)+1)=(m1:Int):=by simp [IntKind.wrap,IntKind.bits,IntKind.signed];omega
       have hne:¬(m1:Int)=0:=by omega
       have htm:(a:Int).tmod (m1:Int)=(r:Int):=by rw [<-hr];rfl
       have hem:(a:Int) % (m1:Int)=(r:Int):=by rw [<-hr];simp
       obtain ⟨s2,hs2⟩:∃s2,sm - r=s2:=⟨_,rfl⟩
       have hsub:IntKind.u64.wrap ((sm:Int) - (r:Int))=(s2:Int):=by simp [IntKind.wrap,IntKind.bits,IntKind.signed];omega
       have HR:Hid (s2<18446744073709551616):=(by omega:s2<18446744073709551616)
       have HR2:Hid (r<18446744073709551616):=(by omega:r<18446744073709551616)
       clear hs hm1 hr hrm hs2
       go_wp2
       go_meet
       exact ⟨s2,r,rfl,rfl,rfl,HR,HR2⟩
     case rest=>
     obtain ⟨s2,a2,rfl,rfl,rfl,HS2,HA2⟩:=hcut
     obtain ⟨wE,hwE⟩:∃wE,wE=wc:=⟨wc,rfl⟩
     subst hwE
     obtain ⟨o2,ho2⟩:∃o2:Nat,(ow+k) % 256=o2:=⟨_,rfl⟩
     have HO2:Hid (o2<256):=(by rw [<-ho2];exact Nat.mod_lt _ (by decide):o2<256)
     have hk8:IntKind.u8.wrap (k:Int)=(k:Int):=by simp [IntKind.wrap,IntKind.bits,IntKind.signed];omega
     have hw8:IntKind.u8.wrap ((ow:Int)+(k:Int))=(o2:Int):=by simp [IntKind.wrap,IntKind.bits,IntKind.signed];omega
     have t1:wE.cell? ⟨w.heap.size+1+1,1,none⟩=some (.slice va2 os.length vc2):=cell_row HF.out.tx
     have HNO:Hid (OutsAt (wE.heap.size+1) (wE.alloc (.cells #[.int .u64 ((a2:Nat):Int),.int .u8 ((o2:Nat):Int)] 80)) (.slice (some ⟨wE.heap.size,0,none⟩) 1 1) [(a2,o2)]):=new_out wE (a2,o2)
     have HOW:Hid (OOwn (w.heap.size+3) (wE.alloc (.cells #[.int .u64 ((a2:Nat):Int),.int .u8 ((o2:Nat):Int)] 80)) (.slice va2 os.length vc2) os):=HOO.out.tch (Tch.alloc (λ_=>False) wE _) (λ_ _ h=>h)
     have HSZ:Hid (w.heap.size+3<=wE.heap.size):=HF.out.size
     obtain ⟨va1,vm1,vc1,hv1'⟩:=HCO'.out.shape3
     have HFN:Hid (∀w1,World.grownBy (wE.alloc (.cells #[.int .u64 ((a2:Nat):Int),.int .u8 ((o2:Nat):Int)] 80)) w1 (Value.slice va2 os.length vc2).ownBlock->Fr w #[.int .i64 fr,.int .i64 mn,.slice (some ⟨g0,o0,none⟩) am.length c1,.int .u8 (ow:Int),.bool wi,.bool ot] v' (.slice va2 os.length vc2) w1/\COwn (w.heap.size+3) w1 v' cs'):=by
      intro w1 hg
      refine ⟨(HF.out.next (Tch.alloc (λ_=>False) wE _) noE).next (Tch.grown hg) (λj hj=>(HOO.out.own j hj.symm).1),(HCO'.out.tch (Tch.alloc (λ_=>False) wE _) (λ_ _ h=>h)).tch (Tch.grown hg) (λj hj e=>coin_out_apart HCO'.out HOO.out j hj e.symm)⟩
     clear ho2 q0
     go_wp2_with (at_builtin;refine wpList_append_out rfl _ _ rfl rfl HOW.out _ _ [(a2,o2)] rfl HNO.out (by have:=HOL.out;simp;omega) (by have:=HSZ.out;simp;omega) ?_;intro v1 w1 hown1 hg1;obtain ⟨hf1,hco1⟩:=HFN.out w1 hg1;have HO1:Hid (OOwn _ w1 v1 _):=hown1;have HC1:Hid (COwn _ w1 _ _):=hco1;have t2:w1.cell? ⟨w.heap.size+1+1,1,none⟩=some (.slice va2 os.length vc2):=cell_row hf1.tx;have t3:w1.frozen? ⟨w.heap.size+1+1,1,none⟩=false:=frozen_of_row _ _ _ _ _ hf1.tx;have HF1:Hid (Fr _ _ _ _ w1):=hf1;clear hown1 hg1 hf1 hco1;obtain ⟨b1,m1,e1,hv1⟩:=HO1.out.shape3;subst hv1)
     have hset:=setCell_eq_setRow w1 (w.heap.size+1+1) 1 _ _ _ (.slice b1 m1 e1) HF1.out.tx
     have HO3:Hid (OOwn (w.heap.size+3) (w1.setCell ⟨w.heap.size+1+1,1,none⟩ (.slice b1 m1 e1)) (.slice b1 m1 e1) (os++[(a2,o2)])):=by rw [hset];exact HO1.out.tch (Tch.setRow w1 _ _) (λj hj e=>by have:=(HO1.out.own j hj).1;omega)
     have HC3:Hid (COwn (w.heap.size+3) (w1.setCell ⟨w.heap.size+1+1,1,none⟩ (.slice b1 m1 e1)) v' cs'):=by rw [hset];exact HC1.out.tch (Tch.setRow w1 _ _) (λj hj e=>by have:=(HC1.out.own j hj).1;omega)
     have HF3:Hid (Fr w #[.int .i64 fr,.int .i64 mn,.slice (some ⟨g0,o0,none⟩) am.length c1,.int .u8 (ow:Int),.bool wi,.bool ot] v' (.slice b1 m1 e1) (w1.setCell ⟨w.heap.size+1+1,1,none⟩ (.slice b1 m1 e1))):=by rw [hset];exact HF1.out.set v' (.slice b1 m1 e1)
     clear hset
     go_roundw
     case rel=>exact ⟨k+1,s2,os++[(a2,o2)],.slice b1 m1 e1,by omega,by go_num,rfl,HS2.out,HO3.out,(by have:=HOL.out;simp;omega:(os++[(a2,o2)]).length=k+1),(by intro c hc;rw [List.mem_append,List.mem_singleton] at hc;rcases hc with hc | rfl;exact HOK.out c hc;exact ⟨HA2.out,HO2.out⟩:∀c∈os++[(a2,o2)],OutOk c),HC3.out,HF3.out⟩
     case measure=>simp [intOf];omega
    ·have HTK:Hid (TxOk width (cs',os)):=⟨HCK.out.2.2,HOK.out,HCK.out.1,HCK.out.2.1,by show os.length<=3;have:=HOL.out;omega⟩
     obtain ⟨va1,vm1,vc1,hv1'⟩:=HCO'.out.shape3
     subst hv1'
     have t0:wr.cell? ⟨w.heap.size+1+1,0,none⟩=some (.slice va1 vm1 vc1):=cell_row HF.out.tx
     have t1:wr.cell? ⟨w.heap.size+1+1,1,none⟩=some (.slice va2 os.length vc2):=cell_row HF.out.tx
     have r0:wr.cell? ⟨w.heap.size+1,0,none⟩=some (.slice none 0 0):=cell_row HF.out.res
     have r1:wr.cell? ⟨w.heap.size+1,1,none⟩=some (.slice none 0 0):=cell_row HF.out.res
     have fR:∀j,wr.frozen? ⟨w.heap.size+1,j,none⟩=false:=λj=>frozen_of_row _ _ _ _ _ HF.out.res
     have HEND:Hid (∀cs1,wr.setRow (w.heap.size+1) #[.slice va1 vm1 vc1,.slice va2 os.length vc2]=cs1->ToTx width w (.returned (.agg #[.slice va1 vm1 vc1,.slice va2 os.length vc2])) cs1):=by
      rintro _ rfl
      have tS:=Tch.setRow wr (w.heap.size+1) #[.slice va1 vm1 vc1,.slice va2 os.length vc2]
      refine ⟨HF.out.tch.trans tS (λj hj=>.inr (by omega)),(cs',os),_,_,rfl,HTK.out,?_,?_⟩
      ·exact (HCO'.out.tch tS (λj hj e=>by have:=(HCO'.out.own j hj).1;omega)).low (by omega)
      ·exact (HOO.out.tch tS (λj hj e=>by have:=(HOO.out.own j hj).1;omega)).low (by omega)
     have RR:Hid (_=_):=HF.out.res
     by_cases hka:k<am.length
     ·have hki:(k:Int)<(am.length:Int):=by omega
      have hk3i:¬(k:Int)<3:=by omega
      go_wp2
      rw [setTwo _ _ _ _ _ _ _ RR.out]
      refine bodyPost_ret (v:=.agg #[.slice va1 vm1 vc1,.slice va2 os.length vc2]) (results_cell_row Tryz.results43 _ _ (w.heap.size+1) _ _ (0,0) _ rfl (setRow_heap wr _ _ _ _ _ RR.out) Tryz.underlying98 rfl (by kernel_rfl)) rfl ?_
      exact HEND.out _ rfl
     ·have hki:¬(k:Int)<(am.length:Int):=by omega
      go_wp2
      rw [setTwo _ _ _ _ _ _ _ RR.out]
      refine bodyPost_ret (v:=.agg #[.slice va1 vm1 vc1,.slice va2 os.length vc2]) (results_cell_row Tryz.results43 _ _ (w.heap.size+1) _ _ (0,0) _ rfl (setRow_heap wr _ _ _ _ _ RR.out) Tryz.underlying98 rfl (by kernel_rfl)) rfl ?_
      exact HEND.out _ rfl
end Go.Proofs.YtighkdnooglfjaaGreatDoor
namespace Go.Proofs.YtighkdnooglfjaaGreatDoor
open Go.RowKit

theorem SOwn.kind {base:Nat} {w:World} {v:Value} {l:List Sl} (h:SOwn base w v l):∀j,v.ownBlock=some j->∃cur m,w.heap[j]? =some (.cells cur 43 m):=by
 obtain ⟨_,⟨rfl,h0⟩ | ⟨g,cap,cur,rfl,hb,hrow,_⟩⟩:=h
 ·intro k hk;cases hk
 ·intro k hk;cases hk;exact ⟨cur,_,hrow⟩
def PaysAt (w:World) (v:Value) (ps:List PayL):Prop:=
 ((∃a c,v=.slice a 0 c)/\ps=[])\/∃g o c,v=.slice (some ⟨g,o,none⟩) ps.length c/\g<w.heap.size/\∀i (h:i<ps.length),∃va,NumsAt w va ps[i].amounts/\
  w.cell? ⟨g,o+i * 6,none⟩=some (.int .i64 ps[i].from_)/\w.cell? ⟨g,o+i * 6+1,none⟩=some (.int .i64 ps[i].many)/\w.cell? ⟨g,o+i * 6+2,none⟩=some va/\w.cell? ⟨g,o+i * 6+3,none⟩=some (.int .u8 ((ps[i].owner:Nat):Int))/\w.cell? ⟨g,o+i * 6+4,none⟩=some (.bool ps[i].wild)/\w.cell? ⟨g,o+i * 6+5,none⟩=some (.bool ps[i].other)
theorem PaysAt.shape {w:World} {v:Value} {l:List PayL} (h:PaysAt w v l):∃a c,v=.slice a l.length c:=by
 rcases h with ⟨⟨a,c,rfl⟩,rfl⟩ | ⟨gi,oi,c,rfl,_⟩
 ·exact ⟨a,c,rfl⟩
 ·exact ⟨_,_,rfl⟩
def TxsOwn (base:Nat) (w:World) (v:Value) (ts:List TxL):Prop:=
 ∃l:List (Sl×Sl),TOwn base w v l/\l.length=ts.length/\∀(j:Nat) x t,l[j]? =some x->ts[j]? =some t->COwn base w (.slice x.1.1 x.1.2.1 x.1.2.2) t.1/\OOwn base w (.slice x.2.1 x.2.2.1 x.2.2.2) t.2
theorem TxsOwn.is {base:Nat} {w:World} {v:Value} {ts:List TxL} (h:TxsOwn base w v ts):TxsIs w v ts:=by
 obtain ⟨l,h1,h2,h3⟩:=h
 exact ⟨l,h1.at,h2,λj x t hx ht=>⟨(h3 j x t hx ht).1.at,(h3 j x t hx ht).2.at⟩⟩
theorem coin_tx_apart {b b':Nat} {w:World} {v v2:Value} {cs:List (ByteArray×Int)} {l:List (Sl×Sl)} (h:COwn b w v cs) (h2:TOwn b' w v2 l):∀j,v.ownBlock=some j->¬some j=v2.ownBlock:=by
 intro j hj hj2
 obtain ⟨_,⟨rfl,_⟩ | ⟨g,cap,cur,rfl,_,hrow,_⟩⟩:=h
 ·cases hj
 obtain ⟨_,⟨rfl,_⟩ | ⟨g',cap',cur',rfl,_,hrow',_⟩⟩:=h2
 ·cases hj2
 cases hj
 cases hj2
 rw [hrow] at hrow'
 simp at hrow'
theorem out_tx_apart {b b':Nat} {w:World} {v v2:Value} {cs:List (Nat×Nat)} {l:List (Sl×Sl)} (h:OOwn b w v cs) (h2:TOwn b' w v2 l):∀j,v.ownBlock=some j->¬some j=v2.ownBlock:=by
 intro j hj hj2
 obtain ⟨_,⟨rfl,_⟩ | ⟨g,cap,cur,rfl,_,hrow,_⟩⟩:=h
 ·cases hj
 obtain ⟨_,⟨rfl,_⟩ | ⟨g',cap',cur',rfl,_,hrow',_⟩⟩:=h2
 ·cases hj2
 cases hj
 cases hj2
 rw [hrow] at hrow'
 simp at hrow'
theorem held_tx_apart {b':Nat} {w:World} {v v2:Value} {cs:List Held} {l:List (Sl×Sl)} (h:HeldT w v cs) (h2:TOwn b' w v2 l):∀j,v.ownBlock=some j->¬some j=v2.ownBlock:=by
 intro j hj hj2
 obtain ⟨cur,m,hrow⟩:=h.2 j hj
 obtain ⟨_,⟨rfl,_⟩ | ⟨g',cap',cur',rfl,_,hrow',_⟩⟩:=h2
 ·cases hj2
 cases hj2
 rw [hrow] at hrow'
 simp at hrow'
theorem TxsOwn.tch {base:Nat} {w w':World} {v:Value} {ts:List TxL} (h:TxsOwn base w v ts) (k:Tch (λ_=>False) w w'):TxsOwn base w' v ts:=by
 obtain ⟨l,h1,h2,h3⟩:=h
 exact ⟨l,h1.tch k (λ_ _ e=>e),h2,λj x t hx ht=>⟨(h3 j x t hx ht).1.tch k (λ_ _ e=>e),(h3 j x t hx ht).2.tch k (λ_ _ e=>e)⟩⟩
theorem TxsOwn.push {base:Nat} {W w3:World} {v v3:Value} {ts:List TxL} {lt:List (Sl×Sl)} {x:Sl×Sl} {t:TxL} (h1:TOwn base W v lt) (h2:lt.length=ts.length) (h3:∀(j:Nat) x t,lt[j]? =some x->ts[j]? =some t->COwn base W (.slice x.1.1 x.1.2.1 x.1.2.2) t.1/\OOwn base W (.slice x.2.1 x.2.2.1 x.2.2.2) t.2)
  (hc:COwn base W (.slice x.1.1 x.1.2.1 x.1.2.2) t.1) (ho:OOwn base W (.slice x.2.1 x.2.2.1 x.2.2.2) t.2) (hn:TOwn base w3 v3 (lt++[x])) (hg:World.grownBy W w3 v.ownBlock):TxsOwn base w3 v3 (ts++[t]):=by
 refine ⟨lt++[x],hn,by simp [h2],λj y u hy hu=>?_⟩
 have hold:COwn base W (.slice y.1.1 y.1.2.1 y.1.2.2) u.1/\OOwn base W (.slice y.2.1 y.2.2.1 y.2.2.2) u.2:=by
  by_cases hj:j<lt.length
  ·rw [List.getElem?_append_left hj] at hy
   rw [List.getElem?_append_left (by omega)] at hu
   exact h3 j y u hy hu
  ·rw [List.getElem?_append_right (by omega)] at hy
   rw [List.getElem?_append_right (by omega)] at hu
   have e1:j - lt.length=0:=by have:=(List.getElem?_eq_some_iff.1 hy).1;simp at this;omega
   rw [e1] at hy
   rw [<-h2,e1] at hu
   simp only [List.getElem?_cons_zero,Option.some.injEq] at hy hu
   subst hy;subst hu
   exact ⟨hc,ho⟩
 exact ⟨hold.1.tch (Tch.grown hg) (coin_tx_apart hold.1 h1),hold.2.tch (Tch.grown hg) (out_tx_apart hold.2 h1)⟩
structure PayOn (width:Nat) (l0:List Held) (st0:Option Tr) (ts:List TxL) (cur:List Held) (code:Int):Prop where
 ok:∀t∈ts,TxOk width t
 res:(code=0/\appliedLs (dgW width) l0 ts=.ok cur/\∃st,applyT (dgW width) st0 ts=.ok st/\Book width st cur)\/(∃er,code=erCode er/\appliedLs (dgW width) l0 ts=.error er/\applyT (dgW width) st0 ts=.error er)
theorem erCode_pos (er:Er):¬erCode er=0:=by cases er <;> decide
theorem appliedLs_snoc (dg:List UInt8->ByteArray) (t:TxL):∀(ts:List TxL) (l l1:List Held),appliedLs dg l ts=.ok l1->appliedLs dg l (ts++[t])=appliedL dg l1 t:=by
 intro ts
 induction ts with
 | nil=>
  intro l l1 h
  simp only [appliedLs,Except.ok.injEq] at h
  subst h
  simp only [List.nil_append,appliedLs]
  cases appliedL dg l t <;> rfl
 | cons x r ih=>
  intro l l1 h
  simp only [appliedLs,List.cons_append] at h ⊢
  cases hx:appliedL dg l x with
  | error e=>rw [hx] at h;cases h
  | ok l2=>rw [hx] at h;exact ih l2 l1 h
theorem applyT_snoc (dg:List UInt8->ByteArray) (t:TxL):∀(ts:List TxL) (s s1:Option Tr),applyT dg s ts=.ok s1->applyT dg s (ts++[t])=applyOneT dg s1 t:=by
 intro ts
 induction ts with
 | nil=>
  intro l l1 h
  simp only [applyT,Except.ok.injEq] at h
  subst h
  simp only [List.nil_append,applyT]
  cases applyOneT dg l t <;> rfl
 | cons x r ih=>
  intro l l1 h
  simp only [applyT,List.cons_append] at h ⊢
  cases hx:applyOneT dg l x with
  | error e=>rw [hx] at h;cases h
  | ok l2=>rw [hx] at h;exact ih l2 l1 h
theorem PayOn.next {width:Nat} (hw:width<=32) {l0:List Held} {st0:Option Tr} {ts:List TxL} {cur:List Held} (h:PayOn width l0 st0 ts cur 0) (t:TxL) (ht:TxOk width t):
  (∀l',appliedL (dgW width) cur t=.ok l'->PayOn width l0 st0 (ts++[t]) l' 0)/\(∀er,appliedL (dgW width) cur t=.error er->PayOn width l0 st0 (ts++[t]) cur (erCode er)):=by
 have hok:∀x∈ts++[t],TxOk width x:=by
  intro x hx;rw [List.mem_append,List.mem_singleton] at hx;rcases hx with hx | rfl
  ·exact h.ok x hx
  ·exact ht
 obtain ⟨h1,st,h2,B⟩:appliedLs (dgW width) l0 ts=.ok cur/\∃st,applyT (dgW width) st0 ts=.ok st/\Book width st cur:=by
  rcases h.res with ⟨_,h1,h2⟩ | ⟨er,he,_⟩
  ·exact ⟨h1,h2⟩
  ·exact absurd he.symm (erCode_pos er)
 have ha:=applied_book width (dgW width) (dgW_size width hw) t ht st cur B
 refine ⟨λl' hl=>?_,λer he=>?_⟩
 ·rw [hl] at ha
  obtain ⟨st',e1,B'⟩:=ha
  exact ⟨hok,.inl ⟨rfl,by rw [appliedLs_snoc _ _ _ _ _ h1];exact hl,st',by rw [applyT_snoc _ _ _ _ _ h2];exact e1,B'⟩⟩
 ·rw [he] at ha
  exact ⟨hok,.inr ⟨er,rfl,by rw [appliedLs_snoc _ _ _ _ _ h1];exact he,by rw [applyT_snoc _ _ _ _ _ h2];exact ha⟩⟩
theorem applied_len (dg:List UInt8->ByteArray) (l:List Held) (t:TxL) (l':List Held) (h:appliedL dg l t=.ok l'):l'.length<=l.length+t.2.length:=by
 have hs:∀(cs:List (ByteArray×Int)) (s s':List Held×Nat×Bool),spendL cs s=some s'->s'.1.length<=s.1.length:=by
  intro cs
  induction cs with
  | nil=>intro s s' h;simp only [spendL,Option.some.injEq] at h;rw [h];exact Nat.le_refl _
  | cons c r ih=>
   rintro ⟨now,i,o⟩ s' h
   simp only [spendL] at h
   cases hf:findL now c with
   | none=>rw [hf] at h;cases h
   | some k=>
    rw [hf] at h
    have:=ih _ _ h
    exact Nat.le_trans this (List.length_eraseIdx_le _ _)
 have hr:∀(id:ByteArray) (os:List (Nat×Nat)) (i:Nat) (s s':List Held×Nat×Bool),receiveL id i os s=some s'->s'.1.length<=s.1.length+os.length:=by
  intro id os
  induction os with
  | nil=>intro i s s' h;simp only [receiveL,Option.some.injEq] at h;rw [h];simp
  | cons c r ih=>
   rintro i ⟨now,a,o⟩ s' h
   simp only [receiveL] at h
   cases hf:findL now (id,(i:Int)) with
   | some k=>rw [hf] at h;cases h
   | none=>
    rw [hf] at h
    have:=ih _ _ _ h
    simp only [List.length_append,List.length_cons,List.length_nil] at this ⊢
    omega
 unfold appliedL at h
 cases h1:spendL t.1 (l,0,false) with
 | none=>rw [h1] at h;cases h
 | some q=>
  obtain ⟨n1,i1,o1⟩:=q
  rw [h1] at h
  dsimp only at h
  cases h2:receiveL (dg (84 :: txB t)) 0 t.2 (n1,0,o1) with
  | none=>rw [h2] at h;cases h
  | some q=>
   obtain ⟨n2,i2,o2⟩:=q
   rw [h2] at h
   dsimp only at h
   split at h
   ·cases h
   ·cases h
    have a:=hs _ _ _ h1
    have b:=hr _ _ _ _ _ h2
    simp only at a b
    omega
theorem Ch.last_get (ch:Ch) (m:Nat) (h:ch.length=m+1):ch.last=ch[m]'(by omega):=by
 unfold Ch.last
 rw [List.getLastD_eq_getLast?,List.getLast?_eq_getElem?]
 have e:ch.length - 1=m:=by omega
 rw [e,List.getElem?_eq_getElem (by omega)]
 rfl
theorem blockB_len (width:Nat) (hw:width<=32) (ch:Ch) (ts:List TxL) (h:∀t∈ts,TxOk width t) (h3:ts.length<=3) (st:Option Tr):1<=(blockB (dgW width) ch ts st).length/\(blockB (dgW width) ch ts st).length<=1000000:=by
 have hb:(bodyB ts).length<=1+ts.length * 200:=by
  unfold bodyB
  rw [List.length_append,beL_length]
  have:∀(l:List TxL),(∀t∈l,TxOk width t)->(l.flatMap txB).length<=l.length * 200:=by
   intro l
   induction l with
   | nil=>intro _;simp
   | cons x r ih=>
    intro hl
    have a:=txA2_len width x (hl x List.mem_cons_self) hw x.2.length
    rw [txA2_all] at a
    have b:=ih (λy hy=>hl y (List.mem_cons_of_mem _ hy))
    rw [List.flatMap_cons,List.length_append,List.length_cons,Nat.succ_mul]
    omega
  have:=this ts h
  omega
 have sz:∀x:ByteArray,x.data.toList.length=x.size:=λx=>by simp only [Array.length_toList];rfl
 have hh:(hdrB (nextH (dgW width) ch (bodyB ts) (stDig (dgW width) st))).length=4+3 * width:=by
  unfold hdrB nextH
  simp only [List.length_append,beL_length,sz,dgW_size width hw,stDig_size (dgW width) width (dgW_size width hw)]
  omega
 unfold blockB
 rw [List.length_append,hh]
 omega
def ToPays {E:Nat->Addr} {width base:Nat} (L:Led E width base) (w:World) (xb lb:Nat) (F:Nat->Prop) (fl:Nat) (ch:Ch) (vst:Value) (states:List (List Held)) (e:Ending) (w':World):Prop:=
 e=.returned (.bool true)/\∃F' ch' vst' sl' states',ShopAt L w' xb lb F' fl ch' vst' sl' states'/\Tch (λj=>F j\/j=xb\/some j=vst.ownBlock) w w'/\(∀j,F' j->F j\/w.heap.size<=j)/\(∃r,ch'=ch++r)/\states'.length<=states.length+1/\∀l∈states',∃l0∈states,l.length<=l0.length+9
theorem shop_more {E:Nat->Addr} {width base:Nat} {L:Led E width base} {w w2 w3 w4:World} {xb lb:Nat} {F F':Nat->Prop} {fl:Nat} {ch:Ch} {c:ByteArray×Option Tr} {vst v4:Value} {sl:List Sl} {states:List (List Held)} {x:Sl} {cur:List Held}
  (HS2:ShopAt L w2 xb lb F fl ch vst sl states) (HC2:HeldT w2 (.slice x.1 x.2.1 x.2.2) cur) (HB:Book width c.2 cur) (HTW2:Tch (λ_=>False) w w2) (HT3:Tch F w2 w3) (HAT:L.At w3 lb F' fl (ch++[c]))
  (R3:w3.heap[xb]? =some (.cells #[.pointer (some ⟨lb,0,none⟩),.int .i64 (width:Int),vst,.int .i64 (fl:Int)] 35)) (S3:SOwn base w3 vst sl) (B3:∀(v:Value) l,HeldT w2 v l->HeldT w3 v l)
  (ho:SOwn base w4 v4 (sl++[x])) (hg:World.grownBy (w3.alloc (.cells #[.slice x.1 x.2.1 x.2.2] 43)) w4 vst.ownBlock):
  w4.heap[xb]? =some (.cells #[.pointer (some ⟨lb,0,none⟩),.int .i64 (width:Int),vst,.int .i64 (fl:Int)] 35)/\ShopAt L (w4.setCell ⟨xb,2,none⟩ v4) xb lb F' fl (ch++[c]) v4 (sl++[x]) (states++[cur])/\Tch (λj=>F j\/j=xb\/some j=vst.ownBlock) w (w4.setCell ⟨xb,2,none⟩ v4):=by
 have tA:=Tch.alloc (λ_=>False) w3 (.cells #[.slice x.1 x.2.1 x.2.2] 43)
 have hxb:=(row_lt R3)
 have kst:∀j,vst.ownBlock=some j->∃cur m,(w3.alloc (.cells #[.slice x.1 x.2.1 x.2.2] 43)).heap[j]? =some (.cells cur 43 m):=SOwn.kind (S3.tch tA (λ_ _ e=>e))
 have RA:(w3.alloc (.cells #[.slice x.1 x.2.1 x.2.2] 43)).heap[xb]? =_:=(tA.block _ hxb (λe=>e)).trans R3
 have xne:¬some xb=vst.ownBlock:=λe=>by
  obtain ⟨cu,m,hr⟩:=kst xb e.symm
  rw [RA] at hr;simp at hr
 have R4:w4.heap[xb]? =some (.cells #[.pointer (some ⟨lb,0,none⟩),.int .i64 (width:Int),vst,.int .i64 (fl:Int)] 35):=(hg.block _ (by simp;omega) xne).trans RA
 have hset:w4.setCell ⟨xb,2,none⟩ v4=w4.setRow xb #[.pointer (some ⟨lb,0,none⟩),.int .i64 (width:Int),v4,.int .i64 (fl:Int)]:=setCell_eq_setRow w4 xb 2 _ _ _ v4 R4
 have tS:=Tch.setRow w4 xb #[.pointer (some ⟨lb,0,none⟩),.int .i64 (width:Int),v4,.int .i64 (fl:Int)]
 have hld:L.At w4 lb F' fl (ch++[c]):=by
  have h1:=L.keep HAT tA (λ_ e=>e.elim)
  refine L.keep h1 (Tch.grown hg) (λj hj hF=>?_)
  obtain ⟨cu,m,hr⟩:=kst j hj.symm
  exact (L.kinds h1 j hF _ _ _ hr).2.1 rfl
 have hh:∀v l,HeldT w3 v l->HeldT (w4.setRow xb #[.pointer (some ⟨lb,0,none⟩),.int .i64 (width:Int),v4,.int .i64 (fl:Int)]) v l:=by
  intro v l hv
  have h1:=hv.tch tA (λ_ _ e=>e)
  have h2:=h1.tch (Tch.grown hg) (λj hj e=>by
   obtain ⟨cu,m,hr⟩:=h1.2 j hj
   obtain ⟨cu',m',hr'⟩:=kst j e.symm
   rw [hr] at hr';simp at hr')
  exact h2.tch tS (λj hj e=>by
   obtain ⟨cu,m,hr⟩:=h2.2 j hj
   subst e
   rw [R4] at hr;simp at hr)
 refine ⟨R4,?_,?_⟩
 ·rw [hset]
  refine ⟨setRow_heap _ _ _ _ _ _ R4,?_,?_,HS2.low,?_,?_,?_,?_⟩
  ·exact L.keep hld tS (λj hj hF=>by subst hj;exact (L.kinds hld j hF _ _ _ R4).1 rfl)
  ·exact ho.tch tS (λj hj e=>by
    obtain ⟨cu,m,hr⟩:=SOwn.kind ho j hj
    subst e
    rw [R4] at hr;simp at hr)
  ·intro i y l hy hl
   by_cases hi:i<sl.length
   ·rw [List.getElem?_append_left hi] at hy
    rw [List.getElem?_append_left (by have:=HS2.len;omega)] at hl
    exact hh _ _ (B3 _ _ (HS2.held i y l hy hl))
   ·rw [List.getElem?_append_right (by omega)] at hy
    rw [List.getElem?_append_right (by have:=HS2.len;omega)] at hl
    have e1:i - sl.length=0:=by have:=(List.getElem?_eq_some_iff.1 hy).1;simp at this;omega
    have e2:i - states.length=0:=by have:=(List.getElem?_eq_some_iff.1 hl).1;simp at this;omega
    rw [e1] at hy
    rw [e2] at hl
    simp only [List.getElem?_cons_zero,Option.some.injEq] at hy hl
    subst hy;subst hl
    exact hh _ _ (B3 _ _ HC2)
  ·have:=HS2.len
   simp only [List.length_append,List.length_cons,List.length_nil]
   omega
  ·have:=HS2.floor
   simp only [List.length_append,List.length_cons,List.length_nil]
   omega
  ·intro i d l hfl hd hl
   by_cases hi:i<ch.length
   ·rw [List.getElem?_append_left hi] at hd
    rw [List.getElem?_append_left (by have:=HS2.len;omega)] at hl
    exact HS2.book i d l hfl hd hl
   ·rw [List.getElem?_append_right (by omega)] at hd
    rw [List.getElem?_append_right (by have:=HS2.len;omega)] at hl
    have e1:i - ch.length=0:=by have:=(List.getElem?_eq_some_iff.1 hd).1;simp at this;omega
    have e2:i - states.length=0:=by have:=(List.getElem?_eq_some_iff.1 hl).1;simp at this;omega
    rw [e1] at hd
    rw [e2] at hl
    simp only [List.getElem?_cons_zero,Option.some.injEq] at hd hl
    subst hd;subst hl
    exact HB
 ·rw [hset]
  have t0:Tch (λj=>F j\/j=xb\/some j=vst.ownBlock) w w2:=HTW2.mono noE
  exact (((t0.trans HT3 (λj hj=>.inl (.inl hj))).trans tA noE).trans (Tch.grown hg) (λj hj=>.inl (.inr (.inr hj)))).trans tS (λj hj=>.inl (.inr (.inl hj)))
set_option maxRecDepth 100000 in
set_option maxHeartbeats 4000000 in
theorem k_pays {E:Nat->Addr} {width base:Nat} (L:Led E width base) (hw1:1<=width) (hw:width<=32) (xb lb:Nat) (F:Nat->Prop) (fl:Nat) (ch:Ch) (vst:Value) (sl:List Sl) (states:List (List Held)) (v:Value) (ps:List PayL) (w:World) (hF:Found E base w) (hS:ShopAt L w xb lb F fl ch vst sl states) (hp:PaysAt w v ps) (hpo:∀p∈ps,p.Ok) (hlen:∀l∈states,l.length<=800000000) (hc:ch.length+1<2 ^ 27):
  Calls Tryz.prog 17 #[.pointer (some ⟨xb,0,none⟩),v] w (ToPays L w xb lb F fl ch vst states):=by
 obtain ⟨a0,c0,rfl⟩:=hp.shape
 obtain ⟨m,hm⟩:∃m,sl.length=m+1:=⟨sl.length - 1,by have:=hS.len;omega⟩
 have hsl:sl ≠ []:=by intro h;rw [h] at hm;simp at hm
 obtain ⟨gs,cap,rfl,hcell⟩:=hS.st.at hsl
 have q2:w.cell? ⟨xb,2,none⟩=some (.slice (some ⟨gs,0,none⟩) sl.length cap):=cell_row hS.row
 have qm:=hcell m (by omega)
 have hms:m<states.length:=by have:=hS.len;omega
 have hmc:m<ch.length:=by have:=hS.len;omega
 have H0:Hid (HeldT w (.slice (sl[m]'(by omega)).1 (sl[m]'(by omega)).2.1 (sl[m]'(by omega)).2.2) states[m]):=hS.held m _ _ (List.getElem?_eq_getElem (by omega)) (List.getElem?_eq_getElem hms)
 have HB0:Hid (Book width ch[m].2 states[m]):=hS.book m _ _ (by have:=hS.floor;have:=hS.len;omega) (List.getElem?_eq_getElem hmc) (List.getElem?_eq_getElem hms)
 have HL0:Hid (states[m].length<=800000000):=hlen _ (List.getElem_mem hms)
 have HLAST:Hid (ch.last.2=ch[m].2):=(by rw [Ch.last_get ch m (by have:=hS.len;omega)]:ch.last.2=ch[m].2)
 have HS:Hid (ShopAt L w xb lb F fl ch (.slice (some ⟨gs,0,none⟩) sl.length cap) sl states):=hS
 have HF:Hid (Found E base w):=hF
 have HP:Hid (PaysAt _ _ _):=hp
 have HPO:Hid (∀p∈ps,p.Ok):=hpo
 have HLEN:Hid (∀l∈states,l.length<=800000000):=hlen
 have HC:Hid (ch.length+1<2 ^ 27):=hc
 have HMS:Hid (m<states.length):=hms
 generalize hl0:states[m]=l0 at *
 generalize hst0:ch[m].2=st0 at *
 generalize hx0:(sl[m]'(by omega))=x0 at *
 obtain ⟨xa,xn,xc⟩:=x0
 simp only at qm H0
 have HL0E:Hid (states[m]? =some l0):=(by rw [<-hl0];exact List.getElem?_eq_getElem hms:states[m]? =some l0)
 rw [hm] at q2
 have hmi:((m+1:Nat):Int) - 1=(m:Int):=by omega
 have hmi2:(m:Int)<((m+1:Nat):Int):=by omega
 have hm32:m<4294967296:=by have:=HS.out.len;have:=HC.out;omega
 have hwm:IntKind.i64.wrap (m:Int)=(m:Int):=by simp [IntKind.wrap,IntKind.bits,IntKind.signed];omega
 have hwm2:wrap64 (m:Int)=(m:Int):=by unfold wrap64;omega
 clear hS hF hp hpo hlen hc hcell hl0 hst0 hx0 hms hmc hsl
 go_enter Tryz.func17,Tryz.ntmps17
 go_wp2
 go_region
 go_wp2
 have HSH:Hid (ShopAt L w.drew xb lb F fl ch (.slice (some ⟨gs,0,none⟩) sl.length cap) sl states):=HS.out.next (Tch.drewN _ w 1)
 have HM:Hid (sl.length=m+1):=hm
 clear hmi hmi2 hm32 hwm hwm2 q2 qm hm
 go_loopw [5,6,7,8] (λvn vt vc i wr=>∃(k:Nat) (ts:List TxL) (cur:List Held) (code:Int),k<=3/\i=.int .i64 k/\vc=.int .i64 code/\Hid (TxsOwn w.heap.size wr vt ts)/\Hid (ts.length=k)/\Hid (HeldT wr vn cur)/\Hid (PayOn width l0 st0 ts cur code)/\Hid (cur.length<=l0.length+3 * k)/\Hid (Tch (λ_=>False) w wr)) (λ_ _ _ i _=>3 - (intOf i).toNat)
 case atStart=>
  exact ⟨0,[],l0,0,by omega,rfl,rfl,⟨[],⟨rfl,.inl ⟨rfl,rfl⟩⟩,rfl,λj x t h=>by simp at h⟩,rfl,H0.out.tch (Tch.drewN (λ_=>False) w 1) (λ_ _ e=>e),⟨λt ht=>(List.not_mem_nil ht).elim,.inl ⟨rfl,rfl,st0,rfl,HB0.out⟩⟩,(by omega:l0.length<=l0.length+3 * 0),Tch.drewN _ w 1⟩
 case round=>
  obtain ⟨k,ts,cur,code,hk,rfl,rfl,HTX,HTL,HCU,HPY,HCL,HT⟩:=hrel
  go_upto_region 5 with fail
  go_cut [37] (λvb wx=>∃b:Bool,vb=.bool b/\wx=wr/\(b=true->k<ps.length/\k<3/\code=0))
  case first=>
   by_cases h1:k<ps.length
   ·have h1i:(k:Int)<(ps.length:Int):=by omega
    by_cases h2:k<3
    ·have h2i:(k:Int)<3:=by omega
     go_wp2
     go_meet
     exact ⟨_,rfl,rfl,λh=>⟨h1,h2,by simpa using h⟩⟩
    ·have h2i:¬(k:Int)<3:=by omega
     go_wp2
     go_meet
     exact ⟨false,rfl,rfl,λh=>by cases h⟩
   ·have h1i:¬(k:Int)<(ps.length:Int):=by omega
    go_wp2
    go_meet
    exact ⟨false,rfl,rfl,λh=>by cases h⟩
  case rest=>
  obtain ⟨b,rfl,rfl,hb⟩:=hcut
  obtain ⟨wA,hwA⟩:∃wA,wA=wc:=⟨wc,rfl⟩
  subst hwA
  cases b with
  | true=>
   obtain ⟨hkp,hk3,rfl⟩:=hb rfl
   clear hb
   rcases HP.out with ⟨_,e2⟩ | ⟨g0,o0,cc,e,hg0,hcell⟩
   ·rw [e2] at hkp;simp at hkp
   simp only [Value.slice.injEq,true_and] at e
   obtain ⟨rfl,rfl⟩:=e
   obtain ⟨va,hnum,p0,p1,p2,p3,p4,p5⟩:=hcell k hkp
   have HPK:Hid (PayL.Ok ps[k]):=HPO.out _ (List.getElem_mem hkp)
   have cl:∀o,wA.cell? ⟨g0,o,none⟩=w.cell? ⟨g0,o,none⟩:=λo=>HT.out.cell (p:=⟨g0,o,none⟩) hg0 (λe=>e)
   have q0:=(cl _).trans p0
   have q1:=(cl _).trans p1
   have q2:=(cl _).trans p2
   have q3:=(cl _).trans p3
   have q4:=(cl _).trans p4
   have q5:=(cl _).trans p5
   have HNU:Hid (NumsAt wA va ps[k].amounts):=hnum.tch HT.out
   have HSA:Hid (ShopAt L wA xb lb F fl ch (.slice (some ⟨gs,0,none⟩) sl.length cap) sl states):=HS.out.next HT.out
   have HFA:Hid (Found E base wA):=HF.out.tch HT.out noE
   have HCO:Hid (∀x∈cur,CoinOk width x.1/\OutOk x.2):=by
    rcases HPY.out.res with ⟨_,_,st,_,B⟩ | ⟨er,he,_⟩
    ·exact B.ok
    ·exact absurd he.symm (erCode_pos er)
   have hxw:wA.cell? ⟨xb,1,none⟩=some (.int .i64 (width:Int)):=cell_row HSA.out.row
   have HTXC:Hid (Calls _ _ _ wA _):=k_tx E width hw1 hw xb u5 cur ps[k] va wA HFA.out.env hxw HCU.out.1 (by have:=HCL.out;have:=HL0.out;omega) HCO.out HPK.out HNU.out
   have hki:(k:Int)<(ps.length:Int):=by omega
   obtain ⟨na,nc,rfl⟩:=hnum.shape
   clear hcell p0 p1 p2 p3 p4 p5 cl hnum HNU hxw
   generalize ps[k]=p at *
   obtain ⟨pf,pm,pam,pow,pwi,pot⟩:=p
   simp only at q0 q1 q2 q3 q4 q5 HTXC
   obtain ⟨ca,ccp,rfl⟩:=HCU.out.1.shape
   obtain ⟨lt,hto,hll,hin⟩:=HTX.out
   obtain ⟨ta,tc,rfl⟩:=hto.shape
   have HTO:Hid (TOwn w.heap.size wA (.slice ta lt.length tc) lt):=hto
   have HIN:Hid (∀(j:Nat) x t,lt[j]? =some x->ts[j]? =some t->COwn w.heap.size wA (.slice x.1.1 x.1.2.1 x.1.2.2) t.1/\OOwn w.heap.size wA (.slice x.2.1 x.2.2.1 x.2.2.2) t.2):=hin
   have HLL:Hid (lt.length=ts.length):=hll
   clear hto hin hll HTX
   go_upto_region 8 with (go_at_call 43;refine HTXC.out.mono ?_;rintro _ w1 ⟨ht1,t,v1,v2,rfl,htk,hco,hou⟩;have HT1:Hid (Tch _ wA w1):=ht1;have HTK:Hid (TxOk width t):=htk;have HCI:Hid (COwn wA.heap.size w1 _ _):=hco;have HOU:Hid (OOwn wA.heap.size w1 _ _):=hou;obtain ⟨i1,n1,m1,hv1⟩:=hco.shape3;obtain ⟨i2,n2,m2,hv2⟩:=hou.shape3;subst hv1;subst hv2;clear ht1 htk hco hou)
   have T2:Hid (Tch (λ_=>False) wA (w1.alloc (.cells #[.slice i1 n1 m1,.slice i2 n2 m2] 98))):=HT1.out.trans (Tch.alloc (λ_=>False) w1 _) noE
   have T3:Hid (Tch (λ_=>False) wA ((w1.alloc (.cells #[.slice i1 n1 m1,.slice i2 n2 m2] 98)).alloc (.cells #[.slice i1 n1 m1,.slice i2 n2 m2] 98))):=T2.out.trans (Tch.alloc (λ_=>False) _ _) noE
   have TW:Hid (Tch (λ_=>False) w1 ((w1.alloc (.cells #[.slice i1 n1 m1,.slice i2 n2 m2] 98)).alloc (.cells #[.slice i1 n1 m1,.slice i2 n2 m2] 98))):=(Tch.alloc (λ_=>False) w1 _).trans (Tch.alloc (λ_=>False) _ _) noE
   have HNT:Hid (TxsAt (w1.heap.size+1+1) ((w1.alloc (.cells #[.slice i1 n1 m1,.slice i2 n2 m2] 98)).alloc (.cells #[.slice i1 n1 m1,.slice i2 n2 m2] 98)) (.slice (some ⟨w1.heap.size+1,0,none⟩) 1 1) [((i1,n1,m1),(i2,n2,m2))]):=by
    have:=new_tx (w1.alloc (.cells #[.slice i1 n1 m1,.slice i2 n2 m2] 98)) ((i1,n1,m1),(i2,n2,m2))
    have e:(w1.alloc (.cells #[.slice i1 n1 m1,.slice i2 n2 m2] 98)).heap.size=w1.heap.size+1:=by simp
    rw [e] at this
    exact this
   have HTT:Hid (TOwn w.heap.size ((w1.alloc (.cells #[.slice i1 n1 m1,.slice i2 n2 m2] 98)).alloc (.cells #[.slice i1 n1 m1,.slice i2 n2 m2] 98)) (.slice ta lt.length tc) lt):=HTO.out.tch T3.out (λ_ _ h=>h)
   have HPUSH:Hid (∀w3 v3,TOwn w.heap.size w3 v3 (lt++[((i1,n1,m1),(i2,n2,m2))])->World.grownBy ((w1.alloc (.cells #[.slice i1 n1 m1,.slice i2 n2 m2] 98)).alloc (.cells #[.slice i1 n1 m1,.slice i2 n2 m2] 98)) w3 (Value.slice ta lt.length tc).ownBlock->
     TxsOwn w.heap.size w3 v3 (ts++[t])/\COwn w.heap.size w3 (.slice i1 n1 m1) t.1/\OOwn w.heap.size w3 (.slice i2 n2 m2) t.2/\Tch (λk=>some k=(Value.slice ta lt.length tc).ownBlock) ((w1.alloc (.cells #[.slice i1 n1 m1,.slice i2 n2 m2] 98)).alloc (.cells #[.slice i1 n1 m1,.slice i2 n2 m2] 98)) w3/\w3.heap[w1.heap.size]? =some (.cells #[.slice i1 n1 m1,.slice i2 n2 m2] 98)):=by
    intro w3 v3 hn hg
    have hsz:=HT.out.size
    have hc1:COwn w.heap.size ((w1.alloc (.cells #[.slice i1 n1 m1,.slice i2 n2 m2] 98)).alloc (.cells #[.slice i1 n1 m1,.slice i2 n2 m2] 98)) (.slice i1 n1 m1) t.1:=(HCI.out.low hsz).tch TW.out (λ_ _ e=>e)
    have ho1:OOwn w.heap.size ((w1.alloc (.cells #[.slice i1 n1 m1,.slice i2 n2 m2] 98)).alloc (.cells #[.slice i1 n1 m1,.slice i2 n2 m2] 98)) (.slice i2 n2 m2) t.2:=(HOU.out.low hsz).tch TW.out (λ_ _ e=>e)
    have hold:∀(j:Nat) x t,lt[j]? =some x->ts[j]? =some t->COwn w.heap.size ((w1.alloc (.cells #[.slice i1 n1 m1,.slice i2 n2 m2] 98)).alloc (.cells #[.slice i1 n1 m1,.slice i2 n2 m2] 98)) (.slice x.1.1 x.1.2.1 x.1.2.2) t.1/\OOwn w.heap.size ((w1.alloc (.cells #[.slice i1 n1 m1,.slice i2 n2 m2] 98)).alloc (.cells #[.slice i1 n1 m1,.slice i2 n2 m2] 98)) (.slice x.2.1 x.2.2.1 x.2.2.2) t.2:=λj x t hx ht=>⟨(HIN.out j x t hx ht).1.tch T3.out (λ_ _ e=>e),(HIN.out j x t hx ht).2.tch T3.out (λ_ _ e=>e)⟩
    refine ⟨TxsOwn.push (x:=((i1,n1,m1),(i2,n2,m2))) HTT.out HLL.out hold hc1 ho1 hn hg,hc1.tch (Tch.grown hg) (coin_tx_apart hc1 HTT.out),ho1.tch (Tch.grown hg) (out_tx_apart ho1 HTT.out),Tch.grown hg,?_⟩
    refine (hg.block _ (by simp;omega) (λe=>?_)).trans (heap_alloc2_old _ _ _)
    have h1:=(HTO.out.own _ e.symm).2
    have h2:=HT1.out.size
    omega
   go_cut [6] (λv3 w3=>Hid (TxsOwn w.heap.size w3 v3 (ts++[t]))/\Hid (COwn w.heap.size w3 (.slice i1 n1 m1) t.1)/\Hid (OOwn w.heap.size w3 (.slice i2 n2 m2) t.2)/\Hid (Tch (λk=>some k=(Value.slice ta lt.length tc).ownBlock) ((w1.alloc (.cells #[.slice i1 n1 m1,.slice i2 n2 m2] 98)).alloc (.cells #[.slice i1 n1 m1,.slice i2 n2 m2] 98)) w3)/\Hid (w3.heap[w1.heap.size]? =some (.cells #[.slice i1 n1 m1,.slice i2 n2 m2] 98)))
   case first=>
    go_wp2_with (at_builtin;refine wpList_append_tx rfl _ _ rfl rfl HTT.out _ _ [((i1,n1,m1),(i2,n2,m2))] rfl HNT.out (by have:=HLL.out;have:=HTL.out;simp;omega) (by have:=HT.out.size;have:=HT1.out.size;simp;omega) ?_;intro v3 w3 hown3 hg3;obtain ⟨hpu,hc3,ho3,ht3,hr3⟩:=HPUSH.out w3 v3 hown3 hg3;have HP3:Hid (TxsOwn _ w3 v3 _):=hpu;have HC3:Hid (COwn _ w3 _ _):=hc3;have HO3:Hid (OOwn _ w3 _ _):=ho3;have HT3:Hid (Tch _ _ w3):=ht3;have HR3:Hid (_=_):=hr3;clear hown3 hg3 hpu hc3 ho3 ht3 hr3)
    go_meet
    exact ⟨HP3,HC3,HO3,HT3,HR3⟩
   case rest=>
   obtain ⟨HP3,HC3,HO3,HT3,HR3⟩:=hcut
   obtain ⟨wB,hwB⟩:∃wB,wB=wc:=⟨wc,rfl⟩
   subst hwB
   have HCB:Hid (HeldT wB (.slice ca cur.length ccp) cur):=(HCU.out.tch T3.out (λ_ _ e=>e)).tch HT3.out (held_tx_apart (HCU.out.tch T3.out (λ_ _ e=>e)) HTT.out)
   have HTB:Hid (Tch (λ_=>False) w wB):=(HT.out.trans T3.out noE).trans HT3.out (λj hj=>.inr (HTT.out.own j hj.symm).1)
   have HSB:Hid (ShopAt L wB xb lb F fl ch (.slice (some ⟨gs,0,none⟩) sl.length cap) sl states):=HS.out.next HTB.out
   have HFB:Hid (Found E base wB):=HF.out.tch HTB.out noE
   have HAC:Hid (Calls _ _ _ wB _):=k_applied E width hw1 hw xb (.slice ca cur.length ccp) cur wB.heap.size (.slice i1 n1 m1) (.slice i2 n2 m2) t wB HFB.out.env (cell_row HSB.out.row) HCB.out.1 HTK.out HC3.out.at HO3.out.at (by have:=HCL.out;have:=HL0.out;omega) (λx hx=>(HCO.out x hx).2)
   have e0:wB.cell? ⟨w1.heap.size,0,none⟩=some (.slice i1 n1 m1):=cell_row HR3.out
   have e1:wB.cell? ⟨w1.heap.size,1,none⟩=some (.slice i2 n2 m2):=cell_row HR3.out
   have HNX:=PayOn.next hw HPY.out t HTK.out
   have HN1:Hid (_/\_):=HNX
   clear HNX HCU HTO HIN HNT HTT HPUSH T2 T3 TW HT3 HSA HFA HTXC q0 q1 q2 q3 q4 q5
   cases hap:appliedL (dgW width) cur t with
   | error er=>
    have HAE:Hid (Calls Tryz.prog 44 #[.pointer (some ⟨xb,0,none⟩),.slice ca cur.length ccp,.agg #[.slice i1 n1 m1,.slice i2 n2 m2]] wB λe w'=>Tch (λ_=>False) wB w'/\e=.returned (.tuple #[.slice ca cur.length ccp,.int .i64 (erCode er)])):=HAC.out.mono (by rintro e w' ⟨h1,h2⟩;rw [hap] at h2;exact ⟨h1,h2⟩)
    have HPE:Hid (PayOn width l0 st0 (ts++[t]) cur (erCode er)):=HN1.out.2 er hap
    clear HAC hap HN1
    go_wp2_with (go_at_call 44;refine HAE.out.mono ?_;rintro _ w4 ⟨ht4,rfl⟩;have HT4:Hid (Tch _ wB w4):=ht4;clear ht4)
    go_roundw
    case rel=>exact ⟨k+1,ts++[t],cur,erCode er,by omega,by go_num,rfl,HP3.out.tch HT4.out,(by have:=HTL.out;simp;omega:(ts++[t]).length=k+1),HCB.out.tch HT4.out (λ_ _ e=>e),HPE.out,(by have:=HCL.out;omega:cur.length<=l0.length+3 * (k+1)),HTB.out.trans HT4.out noE⟩
    case measure=>simp [intOf];omega
   | ok l'=>
    have HAE:Hid (Calls Tryz.prog 44 #[.pointer (some ⟨xb,0,none⟩),.slice ca cur.length ccp,.agg #[.slice i1 n1 m1,.slice i2 n2 m2]] wB λe w'=>Tch (λ_=>False) wB w'/\∃v',e=.returned (.tuple #[v',.int .i64 0])/\HeldT w' v' l'/\∀j,v'.ownBlock=some j->wB.heap.size<=j):=HAC.out.mono (by rintro e w' ⟨h1,h2⟩;rw [hap] at h2;exact ⟨h1,h2⟩)
    have HPE:Hid (PayOn width l0 st0 (ts++[t]) l' 0):=HN1.out.1 l' hap
    have HLE:Hid (l'.length<=cur.length+3):=(by have:=applied_len _ _ _ _ hap;have:=HTK.out.made;omega:l'.length<=cur.length+3)
    clear HAC hap HN1
    go_wp2_with (go_at_call 44;refine HAE.out.mono ?_;rintro _ w4 ⟨ht4,v4,rfl,hh4,hn4⟩;have HN4:Hid (∀j,v4.ownBlock=some j->wB.heap.size<=j):=hn4;clear hn4;have HT4:Hid (Tch _ wB w4):=ht4;have HH4:Hid (HeldT w4 v4 l'):=hh4;obtain ⟨z1,z2,hv4⟩:=hh4.1.shape;obtain ⟨z3,hz3⟩:∃z3,z3=l'.length:=⟨_,rfl⟩;rw [<-hz3] at hv4;subst hv4;clear ht4 hh4 hz3)
    go_roundw
    case rel=>exact ⟨k+1,ts++[t],l',0,by omega,by go_num,rfl,HP3.out.tch HT4.out,(by have:=HTL.out;simp;omega:(ts++[t]).length=k+1),HH4.out,HPE.out,(by have:=HCL.out;have:=HLE.out;omega:l'.length<=l0.length+3 * (k+1)),HTB.out.trans HT4.out noE⟩
    case measure=>simp [intOf];omega
  | false=>
   clear hb
   have HSA:Hid (ShopAt L wA xb lb F fl ch (.slice (some ⟨gs,0,none⟩) sl.length cap) sl states):=HS.out.next HT.out
   have HFA:Hid (Found E base wA):=HF.out.tch HT.out noE
   have c0:wA.cell? ⟨xb,0,none⟩=some (.pointer (some ⟨lb,0,none⟩)):=cell_row HSA.out.row
   have HSE:Hid (Calls _ _ _ wA _):=L.seals u6 ts HSA.out.led HFA.out HTX.out.is HPY.out.ok (by have:=HTL.out;omega) (by have:=HC.out;omega)
   have HSQ:Hid (sealT (dgW width) width ch ts=match applyT (dgW width) st0 ts with | .error e=>.error e | .ok st=>.ok (blockB (dgW width) ch ts st)):=by
    have:=seal_ok (dgW width) width (dgW_size width hw) ch (by have:=HC.out;omega) ts HPY.out.ok (by have:=HTL.out;omega)
    rw [HLAST.out] at this
    exact this
   obtain ⟨ta,tn,tc,hu6⟩:∃a n c,u6=.slice a n c:=by
    obtain ⟨lt,h1,_⟩:=HTX.out
    exact h1.shape3
   obtain ⟨ca,ccp,hu5⟩:=HCU.out.1.shape
   subst hu6
   subst hu5
   rcases HPY.out.res with ⟨rfl,_,st,hap,B⟩ | ⟨er,rfl,_,hap⟩
   ·have hc32:ch.length<2 ^ 32:=by have:=HC.out;omega
    have ht3:ts.length<=3:=by have:=HTL.out;omega
    have HBT:Hid (submitT (dgW width) width ch (blockB (dgW width) ch ts st)=.ok (ch++[(⟨(hdrB (nextH (dgW width) ch (bodyB ts) (stDig (dgW width) st))).toArray⟩,st)])):=block_taken (dgW width) width (dgW_size width hw) ch hc32 ts HPY.out.ok ht3 st (by rw [HLAST.out];exact hap)
    have HSN:Hid (Calls Tryz.prog 18 #[.pointer (some ⟨lb,0,none⟩),.slice ta tn tc] wA λe w'=>Tch (λ_=>False) wA w'/\e=.returned (.tuple #[.string ⟨(blockB (dgW width) ch ts st).toArray⟩,.int .i64 0])):=HSE.out.mono (by rintro e w' ⟨h1,h2⟩;rw [HSQ.out,hap] at h2;exact ⟨h1,h2⟩)
    have HBL:Hid (1<=(blockB (dgW width) ch ts st).length/\(blockB (dgW width) ch ts st).length<=1000000):=blockB_len width hw ch ts HPY.out.ok ht3 st
    have HBK:Hid (Book width st cur):=B
    clear HSE HSQ hap HPY hc32 ht3 B
    generalize hBB:blockB (dgW width) ch ts st=bb at *
    generalize hHH:(⟨(hdrB (nextH (dgW width) ch (bodyB ts) (stDig (dgW width) st))).toArray⟩:ByteArray)=hh at *
    clear hBB hHH
    obtain ⟨S,hS⟩:∃S:ByteArray,S=⟨bb.toArray⟩:=⟨_,rfl⟩
    have HSD:Hid (S.data.toList=bb/\S.size<=1000000):=⟨by rw [hS],by rw [hS];have:=HBL.out.2;show bb.toArray.size<=1000000;simpa using this⟩
    have hSe:S.toList.isEmpty=false:=by
     rw [ByteArray.toList_eq,HSD.out.1]
     have:=HBL.out.1
     cases bb with
     | nil=>simp at this
     | cons _ _=>rfl
    rw [<-hS] at HSN
    clear hS
    go_upto_region 15 with (go_at_call 18;refine HSN.out.mono ?_;rintro _ w2 ⟨ht2,rfl⟩;have HT2:Hid (Tch _ wA w2):=ht2;clear ht2)
    have HS2:Hid (ShopAt L w2 xb lb F fl ch (.slice (some ⟨gs,0,none⟩) sl.length cap) sl states):=HSA.out.next HT2.out
    have HF2:Hid (Found E base w2):=HFA.out.tch HT2.out noE
    have HC2:Hid (HeldT w2 (.slice ca cur.length ccp) cur):=HCU.out.tch HT2.out (λ_ _ e=>e)
    have HTW2:Hid (Tch (λ_=>False) w w2):=HT.out.trans HT2.out noE
    have c2:w2.cell? ⟨xb,0,none⟩=some (.pointer (some ⟨lb,0,none⟩)):=cell_row HS2.out.row
    have HSU:Hid (Calls Tryz.prog 19 #[.pointer (some ⟨lb,0,none⟩),.string S] w2 λe w'=>Tch F w2 w'/\∃F':Nat->Prop,(∀j,F' j->F j\/w2.heap.size<=j)/\e=.returned (.int .i64 0)/\L.At w' lb F' fl (ch++[(hh,st)])):=(L.submits S HS2.out.led HF2.out HSD.out.2 (by have:=HC.out;omega)).mono (by
     rintro e w' ⟨h1,F',h2,h3⟩
     rw [HSD.out.1,HBT.out] at h3
     exact ⟨h1,F',h2,h3⟩)
    clear HSN HT2 HSA HFA c0 hSe
    go_upto_region 16 with (go_at_call 19;refine HSU.out.mono ?_;rintro _ w3 ⟨ht3,F',hF',rfl,hat3⟩;have HT3:Hid (Tch F w2 w3):=ht3;have HFF:Hid (∀j,F' j->F j\/w2.heap.size<=j):=hF';have HAT:Hid (L.At w3 lb F' fl _):=hat3;clear ht3 hF' hat3)
    have HKX:Hid (∀j cur T m,w2.heap[j]? =some (.cells cur T m)->(T=35\/T=43\/T=87)->¬F j):=λj cur T m hr hT hj=>by
     obtain ⟨k1,k2,k3⟩:=L.kinds HS2.out.led j hj cur T m hr
     rcases hT with h | h | h
     ·exact k1 h
     ·exact k2 h
     ·exact k3 h
    have HST:Hid (∀j,(Value.slice (some ⟨gs,0,none⟩) sl.length cap).ownBlock=some j->∃cur m,w2.heap[j]? =some (.cells cur 43 m)):=λj hj=>SOwn.kind HS2.out.st j hj
    have R3:Hid (w3.heap[xb]? =some (.cells #[.pointer (some ⟨lb,0,none⟩),.int .i64 (width:Int),.slice (some ⟨gs,0,none⟩) sl.length cap,.int .i64 (fl:Int)] 35)):=(HT3.out.block _ (row_lt HS2.out.row) (HKX.out xb _ _ _ HS2.out.row (.inl rfl))).trans HS2.out.row
    have S3:Hid (SOwn base w3 (.slice (some ⟨gs,0,none⟩) sl.length cap) sl):=HS2.out.st.tch HT3.out (λj hj=>by obtain ⟨c,m,hr⟩:=HST.out j hj;exact HKX.out j c _ m hr (.inr (.inl rfl)))
    have B3:Hid (∀(v:Value) l,HeldT w2 v l->HeldT w3 v l):=λv l hv=>hv.tch HT3.out (λj hj=>by obtain ⟨c,m,hr⟩:=hv.2 j hj;exact HKX.out j c _ m hr (.inr (.inr rfl)))
    have t3:w3.cell? ⟨xb,2,none⟩=some (.slice (some ⟨gs,0,none⟩) sl.length cap):=cell_row R3.out
    have HEND:Hid (∀w4 v4,SOwn base w4 v4 (sl++[(ca,cur.length,ccp)])->World.grownBy (w3.alloc (.cells #[.slice ca cur.length ccp] 43)) w4 (Value.slice (some ⟨gs,0,none⟩) sl.length cap).ownBlock->
      w4.heap[xb]? =some (.cells #[.pointer (some ⟨lb,0,none⟩),.int .i64 (width:Int),.slice (some ⟨gs,0,none⟩) sl.length cap,.int .i64 (fl:Int)] 35)/\ShopAt L (w4.setCell ⟨xb,2,none⟩ v4) xb lb F' fl (ch++[(hh,st)]) v4 (sl++[(ca,cur.length,ccp)]) (states++[cur])/\Tch (λj=>F j\/j=xb\/some j=(Value.slice (some ⟨gs,0,none⟩) sl.length cap).ownBlock) w (w4.setCell ⟨xb,2,none⟩ v4)):=by
     intro w4 v4 ho hg
     exact shop_more HS2.out HC2.out HBK.out HTW2.out HT3.out HAT.out R3.out S3.out B3.out ho hg
    have HSL:Hid (SOwn base (w3.alloc (.cells #[.slice ca cur.length ccp] 43)) (.slice (some ⟨gs,0,none⟩) sl.length cap) sl):=S3.out.tch (Tch.alloc (λ_=>False) w3 _) (λ_ _ e=>e)
    have HCN:Hid ((w3.alloc (.cells #[.slice ca cur.length ccp] 43)).cell? ⟨w3.heap.size,0,none⟩=some (.slice ca cur.length ccp)):=cell_row (heap_alloc_new _ _)
    have HBW:Hid (base<=w3.heap.size/\sl.length<=10000000000):=⟨by have:=HS2.out.low;have:=(row_lt R3.out);omega,by have:=HS.out.len;have:=HC.out;omega⟩
    go_cut [] (λwx=>∃g4 cap4,Hid (ShopAt L wx xb lb F' fl (ch++[(hh,st)]) (.slice (some ⟨g4,0,none⟩) (m+2) cap4) (sl++[(ca,cur.length,ccp)]) (states++[cur]))/\Hid (Tch (λj=>F j\/j=xb\/some j=(Value.slice (some ⟨gs,0,none⟩) sl.length cap).ownBlock) w wx))
    case first=>
     go_wp2_with (at_builtin;(refine wpList_append_sl rfl _ _ rfl rfl HSL.out w3.heap.size (ca,cur.length,ccp) rfl HCN.out HBW.out.2 (Nat.le_trans HBW.out.1 (Tch.alloc (λ_=>False) w3 _).size) ?_);intro v4 w4 hown4 hg4;obtain ⟨g4,cap4,hv4,_⟩:=hown4.at (by simp);have hl4:(sl++[(ca,cur.length,ccp)]).length=m+2:=(by simp [HM.out]);rw [hl4] at hv4;subst hv4;obtain ⟨hr4,hs4,ht4⟩:=HEND.out w4 _ hown4 hg4;have x2:w4.cell? ⟨xb,2,none⟩=some (.slice (some ⟨gs,0,none⟩) sl.length cap):=cell_row hr4;have x3:w4.frozen? ⟨xb,2,none⟩=false:=frozen_of_row _ _ _ _ _ hr4;have HS4:Hid (ShopAt L _ _ _ _ _ _ _ _ _):=hs4;have HT4:Hid (Tch _ w _):=ht4;clear hown4 hg4 hr4 hs4 ht4 hl4)
     go_meet
     exact ⟨g4,cap4,HS4,HT4⟩
    case rest=>
    obtain ⟨g4,cap4,HS4,HT4⟩:=hcut
    obtain ⟨wD,hwD⟩:∃wD,wD=wc:=⟨wc,rfl⟩
    subst hwD
    have HFD:Hid (Found E base wD):=HF.out.tch HT4.out (λj hj=>by
     rcases hj with h | h | h
     ·exact (L.own HS.out.led j h).1
     ·rw [h];exact HS.out.low
     ·exact (HS.out.st.own j h.symm).1)
    have c4:wD.cell? ⟨xb,0,none⟩=some (.pointer (some ⟨lb,0,none⟩)):=cell_row HS4.out.row
    have HLC:Hid (((ch++[(hh,st)]).length:Int) - 1=(m:Int)+1):=(by have:=HS.out.len;have:=HM.out;simp;omega:((ch++[(hh,st)]).length:Int) - 1=(m:Int)+1)
    have HTIP:Hid (Calls Tryz.prog 15 #[.pointer (some ⟨lb,0,none⟩)] wD λe w'=>e=.returned (.int .i64 ((m:Int)+1))/\Tch (λ_=>False) wD w'):=(L.tip HS4.out.led HFD.out).mono (by rintro e w' ⟨h1,h2⟩;rw [HLC.out] at h1;exact ⟨h1,h2⟩)
    have hm32:m<4294967296:=by have:=HS.out.len;have:=HC.out;have:=HM.out;omega
    have hw1':wrap64 ((m:Int)+1)=(m:Int)+1:=by unfold wrap64;omega
    have hw2':IntKind.i64.wrap ((m:Int)+1)=(m:Int)+1:=by simp [IntKind.wrap,IntKind.bits,IntKind.signed];omega
    have hm2:((m+2:Nat):Int) - 1=(m:Int)+1:=by omega
    clear HSU HEND HSL HCN HBW t3 c2
    go_wp2_with (go_at_call 15;refine HTIP.out.mono ?_;rintro _ w6 ⟨rfl,ht6⟩;have HT6:Hid (Tch _ wD w6):=ht6;have y2:w6.cell? ⟨xb,2,none⟩=some (.slice (some ⟨g4,0,none⟩) (m+2) cap4):=cell_row (HS4.out.next ht6).row;clear ht6)
    go_ret
    have hbeq:((m:Int)+1 == (m:Int)+2 - 1)=true:=by rw [beq_iff_eq];omega
    refine ⟨?_,F',ch++[(hh,st)],_,_,states++[cur],HS4.out.next HT6.out,HT4.out.trans HT6.out noE,λj hj=>?_,⟨_,rfl⟩,by simp,λl hl=>?_⟩
    ·exact congrArg (λb=>Ending.returned (Value.bool b)) hbeq
    ·rcases HFF.out j hj with h | h
     ·exact .inl h
     ·exact .inr (Nat.le_trans HTW2.out.size h)
    ·rw [List.mem_append,List.mem_singleton] at hl
     rcases hl with hl | rfl
     ·exact ⟨l,hl,by omega⟩
     ·exact ⟨l0,List.mem_of_getElem? HL0E.out,by have:=HCL.out;omega⟩
   ·have HSN:Hid (Calls Tryz.prog 18 #[.pointer (some ⟨lb,0,none⟩),.slice ta tn tc] wA λe w'=>Tch (λ_=>False) wA w'/\e=.returned (.tuple #[.string ⟨#[]⟩,.int .i64 (erCode er)])):=HSE.out.mono (by rintro e w' ⟨h1,h2⟩;rw [HSQ.out,hap] at h2;exact ⟨h1,h2⟩)
    have hne:=erCode_pos er
    generalize erCode er=code at *
    have hnb:(code != 0)=true:=by simp [hne]
    have hnb2:(code == 0)=false:=by simp [hne]
    have hnb3:(code != code)=false:=by simp
    clear HSE HSQ hap HPY
    go_wp2_with (go_at_call 18;refine HSN.out.mono ?_;rintro _ w2 ⟨ht2,rfl⟩;have HT2:Hid (Tch _ wA w2):=ht2;clear ht2)
    go_ret
    exact ⟨rfl,F,ch,_,sl,states,HSA.out.next HT2.out,(HT.out.trans HT2.out noE).mono noE,λj hj=>.inl hj,⟨[],(List.append_nil _).symm⟩,by omega,λl hl=>⟨l,hl,by omega⟩⟩
end Go.Proofs.YtighkdnooglfjaaGreatDoor
namespace Go.Proofs.YtighkdnooglfjaaGreatDoor
open Go.RowKit

def NumsLow (base:Nat) (w:World) (v:Value) (l:List Nat):Prop:=
 ((∃a c,v=.slice a 0 c)/\l=[])\/∃g o c,v=.slice (some ⟨g,o,none⟩) l.length c/\g<base/\∀i (h:i<l.length),w.cell? ⟨g,o+i,none⟩=some (.int .u64 ((l[i]:Nat):Int))
theorem NumsLow.at {base:Nat} {w:World} {v:Value} {l:List Nat} (h:NumsLow base w v l) (hb:base<=w.heap.size):NumsAt w v l:=by
 rcases h with h | ⟨g,o,c,h1,h2,h3⟩
 ·exact .inl h
 ·exact .inr ⟨g,o,c,h1,Nat.lt_of_lt_of_le h2 hb,h3⟩
theorem NumsLow.tch {base:Nat} {w w':World} {v:Value} {l:List Nat} {S:Nat->Prop} (h:NumsLow base w v l) (hb:base<=w.heap.size) (k:Tch S w w') (hs:∀j,S j->base<=j):NumsLow base w' v l:=by
 rcases h with h | ⟨g,o,c,h1,h2,h3⟩
 ·exact .inl h
 ·refine .inr ⟨g,o,c,h1,h2,λi hi=>?_⟩
  rw [k.cell (p:=⟨g,o+i,none⟩) (Nat.lt_of_lt_of_le h2 hb) (λe=>by have:=hs _ e;simp only at this;omega)];exact h3 i hi
def PaysLow (base:Nat) (w:World) (v:Value) (ps:List PayL):Prop:=
 ((∃a c,v=.slice a 0 c)/\ps=[])\/∃g o c,v=.slice (some ⟨g,o,none⟩) ps.length c/\g<base/\∀i (h:i<ps.length),∃va,NumsLow base w va ps[i].amounts/\
  w.cell? ⟨g,o+i * 6,none⟩=some (.int .i64 ps[i].from_)/\w.cell? ⟨g,o+i * 6+1,none⟩=some (.int .i64 ps[i].many)/\w.cell? ⟨g,o+i * 6+2,none⟩=some va/\w.cell? ⟨g,o+i * 6+3,none⟩=some (.int .u8 ((ps[i].owner:Nat):Int))/\w.cell? ⟨g,o+i * 6+4,none⟩=some (.bool ps[i].wild)/\w.cell? ⟨g,o+i * 6+5,none⟩=some (.bool ps[i].other)
theorem PaysLow.at {base:Nat} {w:World} {v:Value} {l:List PayL} (h:PaysLow base w v l) (hb:base<=w.heap.size):PaysAt w v l:=by
 rcases h with h | ⟨g,o,c,h1,h2,h3⟩
 ·exact .inl h
 ·refine .inr ⟨g,o,c,h1,Nat.lt_of_lt_of_le h2 hb,λi hi=>?_⟩
  obtain ⟨va,hn,hr⟩:=h3 i hi
  exact ⟨va,hn.at hb,hr⟩
theorem PaysLow.tch {base:Nat} {w w':World} {v:Value} {l:List PayL} {S:Nat->Prop} (h:PaysLow base w v l) (hb:base<=w.heap.size) (k:Tch S w w') (hs:∀j,S j->base<=j):PaysLow base w' v l:=by
 rcases h with h | ⟨g,o,c,h1,h2,h3⟩
 ·exact .inl h
 ·refine .inr ⟨g,o,c,h1,h2,λi hi=>?_⟩
  obtain ⟨va,hn,hr⟩:=h3 i hi
  have hc:∀o,w'.cell? ⟨g,o,none⟩=w.cell? ⟨g,o,none⟩:=λo=>k.cell (p:=⟨g,o,none⟩) (Nat.lt_of_lt_of_le h2 hb) (λe=>by have:=hs _ e;simp only at this;omega)
  refine ⟨va,hn.tch hb k hs,?_⟩
  rw [hc,hc,hc,hc,hc,hc];exact hr
structure StepL where
 kind:Int
 a:Int
 b:Int
 pays:List PayL
def StepsLow (base:Nat) (w:World) (v:Value) (l:List StepL):Prop:=
 (v=.slice none 0 0/\l=[])\/∃g o c,v=.slice (some ⟨g,o,none⟩) l.length c/\g<base/\∀i (h:i<l.length),∃va,PaysLow base w va l[i].pays/\
  w.cell? ⟨g,o+i * 4,none⟩=some (.int .i64 l[i].kind)/\w.cell? ⟨g,o+i * 4+1,none⟩=some (.int .i64 l[i].a)/\w.cell? ⟨g,o+i * 4+2,none⟩=some (.int .i64 l[i].b)/\w.cell? ⟨g,o+i * 4+3,none⟩=some va
theorem StepsLow.shape {base:Nat} {w:World} {v:Value} {l:List StepL} (h:StepsLow base w v l):∃a c,v=.slice a l.length c:=by
 rcases h with ⟨rfl,rfl⟩ | ⟨gi,oi,c,rfl,_⟩
 ·exact ⟨none,0,rfl⟩
 ·exact ⟨_,_,rfl⟩
end Go.Proofs.YtighkdnooglfjaaGreatDoor
namespace Go.Proofs.YtighkdnooglfjaaGreatDoor
open Go.RowKit

end Go.Proofs.YtighkdnooglfjaaGreatDoor
