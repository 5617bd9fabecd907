import Derived.Test.YtighkdnooglfjaaGreatDoorLxKLast
import Derived.Test.YtighkdnooglfjaaGreatDoorLxKSpec
namespace Go.Proofs.YtighkdnooglfjaaGreatDoor
open Tryz
set_option maxRecDepth 100000
set_option maxHeartbeats 40000000
open Go.RowKit

variable {pay:Array Value}{ch:Ch}{cs cs1:List (BA×Int)}{states:List (List Held)}{cur:List Held}{l:List Nat}{sl:List Sl}{ts:List TxL}{b b' base c fl lb n wj xb:Nat}{E:Nat->Addr}{F S:Nat->Prop}{v v1 v2 vI vO vst:Value}{W W' w w' w1 w3 wr:World}
def ZG(w:World)(v:Value)(l:List Nat):Prop:=
 ((∃a c,v=.slice a 0 c)/\l=[])\/∃g o c,v=.slice (some ⟨g,o,none⟩) l.length c/\g<w.heap.size/\∀i (h:i<l.length),w.cell? ⟨g,o+i,none⟩=some (.int .u64 ((l[i]:Nat):Int))
theorem ZG.tch(h:ZG w v l)(k:Tch NoB w w'):ZG w' v l:=by
 rcases h with h|⟨gi,oi,c,hv,h2,h3⟩
 ·exact .inl h
 ·refine .inr ⟨gi,oi,c,hv,Qk h2 k.size,λi hi=>?_⟩;rw[k.cell (p:=⟨gi,oi+i,none⟩) h2 (λe=>e)];exact h3 i hi
theorem ZG.shape(h:ZG w v l):∃a c,v=.slice a l.length c:=by
 rcases h with⟨⟨a,c,rfl⟩,rfl⟩|⟨gi,oi,c,rfl,_⟩
 ·exact⟨a,c,rfl⟩
 ·exact⟨_,_,rfl⟩
structure PayL where
 from_:Int
 many:Int
 amounts:List Nat
 owner:Nat
 wild:Bool
 other:Bool
structure PayL.Ok(p:PayL):Prop where
 f1: -9223372036854775808<=p.from_
 f2:p.from_<9223372036854775808
 m1: -9223372036854775808<=p.many
 m2:p.many<9223372036854775808
 amounts:∀x∈p.amounts,x<18446744073709551616
 owner:p.owner<256
 len:p.amounts.length<1000000000
def ToTx(wj:Nat)(w:World)(e:Ending)(w':World):Prop:=
 Tch NoB w w'/\∃t v1 v2,e=.returned (.agg #[v1,v2])/\TxOk wj t/\COwn w.heap.size w' v1 t.1/\OOwn w.heap.size w' v2 t.2
structure Fr(w:World)(pay:Array Value)(vI vO:Value)(wr:World):Prop where
 pay:wr.heap[w.heap.size]? =some (.cells pay 102)
 res:wr.heap[w.heap.size+1]? =some (.cells #[.slice none 0 0,.slice none 0 0] 98)
 tx:wr.heap[w.heap.size+1+1]? =some (.cells #[vI,vO] 98)
 tch:Tch NoB w wr
theorem Fr.start(w:World)(pay:Array Value):Fr w pay (.slice none 0 0) (.slice none 0 0) (((w.alloc (.cells pay 102)).alloc (.cells #[.slice none 0 0,.slice none 0 0] 98)).alloc (.cells #[.slice none 0 0,.slice none 0 0] 98)):=by
 have t3:=Ta NoB ((w.alloc (.cells pay 102)).alloc (.cells #[.slice none 0 0,.slice none 0 0] 98)) (.cells #[.slice none 0 0,.slice none 0 0] 98);refine⟨(t3.block _ (by simp;omega) (λh=>h)).trans (heap_alloc2_old _ _ _),(t3.block _ (by simp) (λh=>h)).trans (heap_alloc2_new _ _ _),?_,((Ta NoB w _).trans (Ta NoB _ _) (λ_ h=>.inl h)).trans t3 (λ_ h=>.inl h)⟩;have:=Qf ((w.alloc (.cells pay 102)).alloc (.cells #[.slice none 0 0,.slice none 0 0] 98)) (.cells #[.slice none 0 0,.slice none 0 0] 98);simpa using this
theorem Fr.size(h:Fr w pay vI vO wr):w.heap.size+3<=wr.heap.size:=by
 have:=(Jb h.tx);omega
theorem Fr.next(h:Fr w pay vI vO wr)(k:Tch S wr w')(hs:∀j,S j->w.heap.size+3<=j):Fr w pay vI vO w':=by
 have hz:=h.size;exact⟨(k.block _ (by omega) (λe=>by have:=hs _ e;omega)).trans h.pay,(k.block _ (by omega) (λe=>by have:=hs _ e;omega)).trans h.res,(k.block _ (by omega) (λe=>by have:=hs _ e;omega)).trans h.tx,h.tch.trans k (λj hj=>.inr (by have:=hs j hj;omega))⟩
theorem Fr.set(h:Fr w pay vI vO wr)(vI' vO':Value):Fr w pay vI' vO' (wr.setRow (w.heap.size+1+1) #[vI',vO']):=
 ⟨(setRow_other _ _ _ _ (by omega)).trans h.pay,(setRow_other _ _ _ _ (by omega)).trans h.res,Qi _ _ _ _ _ _ h.tx,h.tch.trans (Ts wr (w.heap.size+1+1) _) (λj hj=>by subst hj;exact .inr (by omega))⟩
theorem Fr.all{f m a o b1 b2:Value}{x:Value}(hx:w.cell? ⟨xb,1,none⟩=some x)(h:Fr w #[f,m,a,o,b1,b2] vI vO W):W.cell? ⟨xb,1,none⟩=some x/\W.cell? ⟨w.heap.size,0,none⟩=some f/\W.cell? ⟨w.heap.size+1+1,0,none⟩=some vI/\Fr w #[f,m,a,o,b1,b2] vI vO W:=
 ⟨(h.tch.cell (p:=⟨xb,1,none⟩) (Qr _ _ hx) (λe=>e)).trans hx,Ja h.pay,Ja h.tx,h⟩
structure TS(w:World)(pay:Array Value)(vI:Value)(cs:List (BA×Int))(W:World):Prop where
 fr:Fr w pay vI (.slice none 0 0) W
 own:COwn (w.heap.size+3) W vI cs
theorem TS.next(h:TS w pay vI cs W)(k:Tch NoB W W'):TS w pay vI cs W':=⟨h.fr.next k noE,h.own.tch k (λ_ _ h=>h)⟩
theorem TS.grownS(h:World.grownBy W W' (Value.slice none n c).ownBlock):Tch NoB W W':=(Tg h).mono (λj hj=>by cases hj)
theorem TS.stored(h:TS w pay vI cs w1)(ho:COwn (w.heap.size+3) w1 v1 cs1):TS w pay v1 cs1 (w1.setCell ⟨w.heap.size+1+1,0,none⟩ v1):=by
 rw[Qj w1 (w.heap.size+1+1) 0 _ _ _ v1 h.fr.tx];exact⟨h.fr.set v1 (.slice none 0 0),ho.tch (Ts w1 _ _) (λj hj e=>by have:=(ho.own j hj).1;omega)⟩
theorem TS.grownF{a:Option Addr}{m:Nat}{o:Obj}(h:TS w pay (.slice a n c) cs W)(hg:World.grownBy (W.alloc o) w1 (Value.slice a m c).ownBlock):Fr w pay (.slice a n c) (.slice none 0 0) w1:=
 (h.fr.next (Ta NoB W o) noE).next (Tg hg) (λj hj=>(h.own.own j (by rw[<-hj.symm];cases a<;>rfl)).1)
theorem TSE.storedF(h:Fr w pay vI (.slice none 0 0) w1)(ho:COwn (w.heap.size+3) w1 v1 cs1):TS w pay v1 cs1 (w1.setCell ⟨w.heap.size+1+1,0,none⟩ v1):=by
 rw[Qj w1 (w.heap.size+1+1) 0 _ _ _ v1 h.tx];exact⟨h.set v1 (.slice none 0 0),ho.tch (Ts w1 _ _) (λj hj e=>by have:=(ho.own j hj).1;omega)⟩
theorem Jly(w:World)(g:Nat)(t:TypeId)(a b v0 v1:Value)(h:w.heap[g]? =some (.cells #[a,b] t)):(w.setCell ⟨g,0,none⟩ v0).setCell ⟨g,1,none⟩ v1=w.setRow g #[v0,v1]:=by
 rw[Qj w g 0 _ t (0,0) v0 h,Qj _ g 1 _ t (0,0) v1 (Qi _ _ _ _ _ _ h),QI];rfl
theorem COwn.low{l:List (BA×Int)}(h:COwn b w v l)(hb:b'<=b):COwn b' w v l:=by
 obtain⟨h1,⟨rfl,h0⟩|⟨g,cap,cur,rfl,hg,h2⟩⟩:=h
 ·exact⟨h1,.inl ⟨rfl,h0⟩⟩
 ·exact⟨h1,.inr ⟨g,cap,cur,rfl,Qm hb hg,h2⟩⟩
theorem OOwn.low{l:List (Nat×Nat)}(h:OOwn b w v l)(hb:b'<=b):OOwn b' w v l:=by
 obtain⟨h1,⟨rfl,h0⟩|⟨g,cap,cur,rfl,hg,h2⟩⟩:=h
 ·exact⟨h1,.inl ⟨rfl,h0⟩⟩
 ·exact⟨h1,.inr ⟨g,cap,cur,rfl,Qm hb hg,h2⟩⟩
theorem Jc4{os:List (Nat×Nat)}(h:COwn b w v cs)(h2:OOwn b' w v2 os):∀j,v.ownBlock=some j->¬v2.ownBlock=some j:=by
 intro j hj hj2;obtain⟨_,⟨rfl,_⟩|⟨g,cap,cur,rfl,_,hrow,_⟩⟩:=h
 ·cases hj
 obtain⟨_,⟨rfl,_⟩|⟨g',cap',cur',rfl,_,hrow',_⟩⟩:=h2
 ·cases hj2
 cases hj
 cases hj2
 rw[hrow]at hrow';simp at hrow'
theorem k_tx(E:Nat->Addr)(wj:Nat)(hw1:1<=wj)(hw:wj<=32)(xb:Nat)(v:Value)(l:List Held)(p:PayL)(va:Value)(w:World)(hE:Env E w)(hx:w.cell? ⟨xb,1,none⟩=some (.int .i64 (wj:Int)))(h:JQ w v l)(hl:l.length<=900000000)(hlo:∀x∈l,Jj wj x.1/\JA x.2)(hp:p.Ok)(ha:ZG w va p.amounts):
  Calls prog 43 #[.pointer (some ⟨xb,0,none⟩),v,.agg #[.int .i64 p.from_,.int .i64 p.many,va,.int .u8 (p.owner:Int),.bool p.wild,.bool p.other]] w (ToTx wj w):=by
 obtain⟨a0,c0,rfl⟩:=h.shape;obtain⟨a1,c1,rfl⟩:=ha.shape;obtain⟨fr,mn,am,ow,wi,ot⟩:=p;simp only at ha;have H:Hid (JQ _ _ _):=h;have HA:Hid (ZG _ _ _):=ha;have HE:Hid (Env E w):=hE;have HLO:Hid (∀x∈l,Jj wj x.1/\JA x.2):=hlo;have HX:Hid (w.cell? ⟨xb,1,none⟩=some (.int .i64 (wj:Int))):=hx;have HP:Hid (PayL.Ok _):=hp;clear h ha hE hlo hx hp;have hPM:Hid (∀W,Calls prog 22 #[.int .i64 mn,.int .i64 ((3:Nat):Int)] W _):=λW=>Jbb mn 3 W HP.o.m1 HP.o.m2 (by omega) (by omega);have hPF:Hid (∀W,Calls prog 22 #[.int .i64 fr,.int .i64 1073741824] W λe w'=>(∃r:Nat,Hid (r<1073741824)/\e=.returned (.int .i64 (r:Int)))/\w'=W):=λW=>by
  have:=Jbb fr 1073741824 W HP.o.f1 HP.o.f2 (by omega) (by omega);have e:((1073741824:Nat):Int)=1073741824:=by decide
  rw[e]at this;exact this
 have hPG:Hid (∀W,Calls prog 22 #[.int .i64 fr,.int .i64 ((3:Nat):Int)] W _):=λW=>Jbb fr 3 W HP.o.f1 HP.o.f2 (by omega) (by omega);go_enter func43,ntmps43;go_wp2;go_loopw [8,9] (λvl i wr=>∃(k s:Nat)(cs:List (BA×Int))(vI:Value),k<=3/\i=.int .i64 k/\vl=.int .u64 (s:Int)/\Hid (s<18446744073709551616)/\Hid (COwn (w.heap.size+3) wr vI cs)/\Hid (cs.length=k)/\Hid (∀c∈cs,Jj wj c)/\Hid (Fr w #[.int .i64 fr,.int .i64 mn,.slice a1 am.length c1,.int .u8 (ow:Int),.bool wi,.bool ot] vI (.slice none 0 0) wr)) (λ_ i _=>3-(intOf i).toNat)
 case atStart=>exact⟨0,0,[],.slice none 0 0,by omega,rfl,rfl,(by decide:(0:Nat)<18446744073709551616),COwn.nil _ _,rfl,(λc hc=>(QD hc).elim:∀c∈([]:List (BA×Int)),Jj wj c),Fr.start w _⟩
 case round=>
  obtain⟨k,sm,cs,vI,hk,rfl,rfl,HSM,HCO,HCL,HCC,HF⟩:=hrel;obtain⟨va,vc,rfl⟩:=HCO.o.shape;have d1:wr.cell? ⟨w.heap.size,1,none⟩=some (.int .i64 mn):=Ja HF.o.pay;have d0:wr.cell? ⟨w.heap.size,0,none⟩=some (.int .i64 fr):=Ja HF.o.pay;go_upto_region 4 with fail;go_cut [24] (λvb wx=>∃b:Bool,vb=.bool b/\wx=wr/\(b=true->k<3/\k<l.length))
  case first=>
   go_wp2_with (go_at_call 22;refine(hPM.out _).mono ?_;rintro _ _⟨⟨r,hr,rfl⟩,rfl⟩)
   all_goals go_meet
   all_goals first|exact⟨false,rfl,rfl,λh=>by cases h⟩|exact⟨_,rfl,rfl,λh=>⟨by omega,by simpa using h⟩⟩
  case rest=>
  obtain⟨b,rfl,rfl,hb⟩:=hcut;obtain⟨wA,hwA⟩:∃wA,wA=wc:=⟨wc,rfl⟩
  subst hwA
  cases b with
  | true=>
   obtain⟨hk3,hkl⟩:=hb rfl;clear hb;have hPL:Hid (∀(r:Nat),Hid (r<1073741824)->∀W,Calls prog 22 #[.int .i64 ((r:Int)+(k:Int)),.int .i64 (l.length:Int)] W _):=λr hr W=>Jbb ((r:Int)+(k:Int)) l.length W (by omega) (by have:=hr.out;omega) (by omega) (by omega);have hWR:Hid (∀(r:Nat),Hid (r<1073741824)->wrap64 ((r:Int)+(k:Int))=(r:Int)+(k:Int)):=λr hr=>by have:=hr.out;unfold wrap64;omega
   rcases H.out with⟨_,e2⟩|⟨g0,o0,cc,e,hg0,hcell⟩
   ·rw[e2]at hkl;simp at hkl
   simp only[Qy,true_and]at e;obtain⟨rfl,rfl⟩:=e;have HHC:Hid (∀r (hr:r<l.length),wA.cell? ⟨g0,o0+r*4,none⟩=some (.string l[r].1.1)/\wA.cell? ⟨g0,o0+r*4+1,none⟩=some (.int .i64 l[r].1.2)/\wA.cell? ⟨g0,o0+r*4+2,none⟩=some (.int .u64 ((l[r].2.1:Nat):Int))/\wA.cell? ⟨g0,o0+r*4+3,none⟩=some (.int .u8 ((l[r].2.2:Nat):Int))):=by intro r hr;have hc:∀o,wA.cell? ⟨g0,o,none⟩=w.cell? ⟨g0,o,none⟩:=λo=>HF.o.tch.cell (p:=⟨g0,o,none⟩) hg0 (λe=>e);rw[hc,hc,hc,hc];exact hcell r hr
   clear hcell hg0;go_wp2_with fail;refine(hPF.out _).mono ?_;rintro _ w'⟨⟨r1,hr1,rfl⟩,hw'⟩;obtain rfl:wA=w':=hw'.symm;have hw64:=hWR.out r1 hr1;go_wp2_with fail;refine(hPL.out r1 hr1 _).mono ?_;rintro _ w'⟨⟨r2,hr2,rfl⟩,hw'⟩;obtain rfl:wA=w':=hw'.symm;obtain⟨q0,q1,q2,q3⟩:=HHC.o r2 hr2;have hr2i:(r2:Int)<(l.length:Int):=(by omega);have HC2:Hid (Jj wj l[r2].1/\JA l[r2].2):=HLO.o _ (Qx hr2);clear HHC hPL hWR hw64 d0 d1;generalize l[r2]=x at *;obtain⟨⟨xs,xn⟩,⟨xa,xo⟩⟩:=x;simp only at q0 q1 q2 q3;go_upto_region 7 with fail;have HFH:Hid (Fr w #[.int .i64 fr,.int .i64 mn,.slice a1 am.length c1,.int .u8 (ow:Int),.bool wi,.bool ot] (.slice va cs.length vc) (.slice none 0 0) (wA.alloc (.cells #[.string xs,.int .i64 xn,.int .u64 (xa:Int),.int .u8 (xo:Int)] 87))):=HF.o.next (Ta NoB wA _) noE;have HCH:Hid (COwn (w.heap.size+3) (wA.alloc (.cells #[.string xs,.int .i64 xn,.int .u64 (xa:Int),.int .u8 (xo:Int)] 87)) (.slice va cs.length vc) cs):=HCO.o.tch (Ta NoB wA _) (λ_ _ h=>h);have t0:(wA.alloc (.cells #[.string xs,.int .i64 xn,.int .u64 (xa:Int),.int .u8 (xo:Int)] 87)).cell? ⟨w.heap.size+1+1,0,none⟩=some (.slice va cs.length vc):=Ja HFH.o.tx;have RH:Hid ((wA.alloc (.cells #[.string xs,.int .i64 xn,.int .u64 (xa:Int),.int .u8 (xo:Int)] 87)).heap[wA.heap.size]? =some (.cells #[.string xs,.int .i64 xn,.int .u64 (xa:Int),.int .u8 (xo:Int)] 87)):=Qf _ _;have HSZ:Hid (w.heap.size+3<=wA.heap.size):=HF.o.size;have HNC:Hid (JC (wA.heap.size+1+1) ((wA.alloc (.cells #[.string xs,.int .i64 xn,.int .u64 (xa:Int),.int .u8 (xo:Int)] 87)).alloc (.cells #[.string xs,.int .i64 xn] 49)) (.slice (some ⟨wA.heap.size+1,0,none⟩) 1 1) [(xs,xn)]):=by have:=Jdh (wA.alloc (.cells #[.string xs,.int .i64 xn,.int .u64 (xa:Int),.int .u8 (xo:Int)] 87)) (xs,xn);have e:(wA.alloc (.cells #[.string xs,.int .i64 xn,.int .u64 (xa:Int),.int .u8 (xo:Int)] 87)).heap.size=wA.heap.size+1:=(by simp);rw[e]at this;exact this
   have HFN:Hid (∀w1 v1,COwn (w.heap.size+3) w1 v1 (cs++[(xs,xn)])->World.grownBy ((wA.alloc (.cells #[.string xs,.int .i64 xn,.int .u64 (xa:Int),.int .u8 (xo:Int)] 87)).alloc (.cells #[.string xs,.int .i64 xn] 49)) w1 (Value.slice va cs.length vc).ownBlock->
     Fr w #[.int .i64 fr,.int .i64 mn,.slice a1 am.length c1,.int .u8 (ow:Int),.bool wi,.bool ot] (.slice va cs.length vc) (.slice none 0 0) w1/\w1.heap[wA.heap.size]? =some (.cells #[.string xs,.int .i64 xn,.int .u64 (xa:Int),.int .u8 (xo:Int)] 87)):=by
    intro w1 v1 _ hg;have tA:=Ta NoB (wA.alloc (.cells #[.string xs,.int .i64 xn,.int .u64 (xa:Int),.int .u8 (xo:Int)] 87)) (.cells #[.string xs,.int .i64 xn] 49);refine⟨(HFH.o.next tA noE).next (Tg hg) (λj hj=>(HCO.o.own j hj.symm).1),(hg.block _ (by simp;omega) (λe=>?_)).trans ((tA.block _ (by simp) (λh=>h)).trans RH.out)⟩;have:=(HCO.o.own _ e.symm).2;omega
   clear HF HCO q0 q1 q2 q3;go_cut [] (λwx=>∃v1,Hid (COwn (w.heap.size+3) wx v1 (cs++[(xs,xn)]))/\Hid (Fr w #[.int .i64 fr,.int .i64 mn,.slice a1 am.length c1,.int .u8 (ow:Int),.bool wi,.bool ot] v1 (.slice none 0 0) wx)/\Hid (wx.heap[wA.heap.size]? =some (.cells #[.string xs,.int .i64 xn,.int .u64 (xa:Int),.int .u8 (xo:Int)] 87)))
   case first=>
    go_wp2_with (at_builtin;(refine Jbl rfl _ _ rfl rfl (HCH.o.tch (Ta NoB _ _) (λ_ _ h=>h)) _ _ [(xs,xn)] rfl HNC.o (by have:=HCL.o;simp;omega) (by have:=HSZ.o;simp;omega) ?_);intro v1 w1 hown1 hg1;obtain⟨hf1,hh1⟩:=HFN.o w1 v1 hown1 hg1;have HO1:Hid (COwn _ w1 v1 _):=hown1;have t1:w1.cell? ⟨w.heap.size+1+1,0,none⟩=some (.slice va cs.length vc):=Ja hf1.tx;have t2:w1.frozen? ⟨w.heap.size+1+1,0,none⟩=false:=Qg _ _ _ _ _ hf1.tx;have HF1:Hid (Fr _ _ _ _ w1):=hf1;have HH1:Hid (_=_):=hh1;clear hown1 hg1 hf1 hh1;obtain⟨b1,m1,e1,hv1⟩:=HO1.o.shape3;subst hv1);go_meet;have hset:=Qj w1 (w.heap.size+1+1) 0 _ _ _ (.slice b1 m1 e1) HF1.o.tx;refine⟨.slice b1 m1 e1,?_,?_,?_⟩
    ·rw[hset];exact HO1.o.tch (Ts w1 _ _) (λj hj e=>by have:=(HO1.o.own j hj).1;omega)
    ·rw[hset];exact HF1.o.set (.slice b1 m1 e1) (.slice none 0 0)
    ·rw[hset];have:=HSZ.o;exact(setRow_other _ _ _ _ (by omega)).trans HH1.o
   case rest=>
   obtain⟨v1,HO1,HF1,HH1⟩:=hcut;obtain⟨wB,hwB⟩:∃wB,wB=wc:=⟨wc,rfl⟩
   subst hwB;have h2:wB.cell? ⟨wA.heap.size,2,none⟩=some (.int .u64 (xa:Int)):=Ja HH1.o;obtain⟨s2,hs2⟩:∃s2:Nat,(sm+xa) % M64=s2:=⟨_,rfl⟩
   have hwr:IntKind.u64.wrap ((sm:Int)+(xa:Int))=(s2:Int):=(by rw[<-hs2];simp[IntKind.wrap,IntKind.bits,IntKind.signed,M64]);have HS2:Hid (s2<18446744073709551616):=(by rw[<-hs2];exact Nat.mod_lt _ (by decide):s2<18446744073709551616)
   clear hs2 t0;go_wp2;go_roundw
   case rel=>exact⟨k+1,s2,cs++[(xs,xn)],v1,by omega,by go_num,rfl,HS2.o,HO1.o,(by have:=HCL.o;simp;omega:(cs++[(xs,xn)]).length=k+1),(by intro c hc;rw[QE,Qt]at hc;rcases hc with hc|rfl;exact HCC.o c hc;exact HC2.o.1:∀c∈cs++[(xs,xn)],Jj wj c),HF1.o⟩
   case measure=>simp[intOf];omega
  | false=>
   clear hb d0 d1;have e5:wA.cell? ⟨w.heap.size,5,none⟩=some (.bool ot):=Ja HF.o.pay;have t0:wA.cell? ⟨w.heap.size+1+1,0,none⟩=some (.slice va cs.length vc):=Ja HF.o.tx;have HL3:Hid (cs.length<=3):=(by have:=HCL.o;omega:cs.length<=3)
   go_upto_region 9 with fail;go_cut [57] (λvb wx=>∃b:Bool,vb=.bool b/\wx=wA/\(b=false->¬cs.length=0))
   case first=>
    by_cases h0:cs.length=0
    ·have h0i:(cs.length:Int)=0:=(by omega);go_wp2;go_meet;exact⟨true,rfl,rfl,λh=>by cases h⟩
    ·have h0i:¬(cs.length:Int)=0:=(by omega);go_wp2;go_meet;exact⟨_,rfl,rfl,λ_=>h0⟩
   case rest=>
   obtain⟨b,rfl,rfl,hb⟩:=hcut;obtain⟨wB,hwB⟩:∃wB,wB=wc:=⟨wc,rfl⟩
   subst hwB;have HB:Hid (b=false->¬cs.length=0):=hb;clear hb;go_upto_if 57 with fail;go_cut [] (λwx=>∃cs' v',Hid (COwn (w.heap.size+3) wx v' cs')/\Hid (1<=cs'.length/\cs'.length<=3/\∀c∈cs',Jj wj c)/\Hid (Fr w #[.int .i64 fr,.int .i64 mn,.slice a1 am.length c1,.int .u8 (ow:Int),.bool wi,.bool ot] v' (.slice none 0 0) wx))
   case first=>
    cases b with
    | false=>
     go_wp2;go_meet;exact⟨cs,_,HCO,⟨by have:=HB.o (by first|rfl|trivial);omega,HL3.o,HCC.o⟩,HF⟩
    | true=>
     have hxb:=Qr _ _ HX.o;have HDG:Hid (∀W,Tch NoB w W->Calls prog 39 #[.int .i64 (wj:Int),.string ⟨#[110,111,32,99,111,105,110]⟩] W λe w'=>(∃id:BA,id.size=wj/\e=.returned (.string id))/\Tch NoB W w'):=λW hW=>by
      have hEW:=HE.o.tch hW noE;refine(ZP wj _ W hw1 hw (by decide) (Qk (by decide) hEW.size) hEW.table).mono ?_;rintro _ w'⟨rfl,ht⟩;exact⟨⟨_,Jw wj hw _,rfl⟩,ht⟩
     have HTS:Hid (TS w #[.int .i64 fr,.int .i64 mn,.slice a1 am.length c1,.int .u8 (ow:Int),.bool wi,.bool ot] (.slice va cs.length vc) cs wB):=⟨HF.o,HCO.o⟩
     have HVA:Hid ((va=none/\vc=0/\cs.length=0)\/∃g,va=some ⟨g,0,none⟩/\cs.length<=vc):=by
      obtain⟨_,⟨hv,h0⟩|⟨g,cap,cur,hv,_,_,hc,_⟩⟩:=HCO.o
      ·simp only[Qy]at hv;exact .inl ⟨hv.1,hv.2.2,h0⟩
      ·simp only[Qy,true_and]at hv;exact .inr ⟨g,hv.1,by rw[hv.2];exact hc⟩
     clear HF HCO t0 e5 HB HCL;obtain⟨n,hn⟩:∃n,cs.length=n:=⟨_,rfl⟩
     rw[hn]at HTS HVA HL3;have HN:Hid (cs.length=n):=hn;clear hn;have h3:=HL3.o;go_wp2_with fail
     rcases HVA.o with⟨rfl,rfl,rfl⟩|⟨g,rfl,hvc⟩
     ·have HTS0:Hid (TS w #[.int .i64 fr,.int .i64 mn,.slice a1 am.length c1,.int .u8 (ow:Int),.bool wi,.bool ot] (.slice none 0 0) cs wB.drew):=HTS.o.next (Td _ wB 1);have c0:wB.drew.cell? ⟨w.heap.size+1+1,0,none⟩=some (.slice none 0 0):=Ja HTS0.o.fr.tx;have c0':wB.cell? ⟨w.heap.size+1+1,0,none⟩=some (.slice none 0 0):=c0
      as_aux_lemma=>
       have hz:IntKind.i64.wrap 0=0:=(by decide);refine JV (S:=λW=>W.cell? ⟨xb,1,none⟩=some (.int .i64 (wj:Int))/\W.cell? ⟨w.heap.size,0,none⟩=some (.int .i64 fr)/\W.cell? ⟨w.heap.size+1+1,0,none⟩=some (.slice none 0 0)/\Fr w #[.int .i64 fr,.int .i64 mn,.slice a1 am.length c1,.int .u8 (ow:Int),.bool wi,.bool ot] (.slice none 0 0) (.slice none 0 0) W) 0 (by simp) (by kernel_rfl) (by kernel_rfl) (Fr.all HX.o HTS0.o.fr) ?_;intro hHeld l o hl ho;simp only[List.dropLast_cons_cons,List.dropLast_singleton]at hl;simp only[List.getLast_cons_cons,List.getLast_singleton]at ho;subst hl;subst ho;simp only[Qp,Qv,Nat.reduceAdd];refine tkL 0 ?_;simp only[Act.put,Qa,Qb,Qc];refine tkL 1 ?_;simp only[Act.put,Qa,Qb,Qc];refine tkL 2 ?_;simp only[Act.put,Qa,Qb,Qc];refine tkL 3 ?_;simp only[Act.put,Qa,Qb,Qc];refine tkL 4 ?_;simp only[Act.put,Qa,Qb,Qc];refine tkL 5 ?_;simp only[Act.put,Qa,Qb,Qc];refine tkL 6 ?_;simp only[Act.put,Qa,Qb,Qc];refine tkL 7 ?_;simp only[Act.put,Qa,Qb,Qc];refine tkL 8 ?_;simp only[Act.put,Qa,Qb,Qc];refine tkL 9 ?_;simp only[Act.put,Qa,Qb,Qc];refine tkL 10 ?_;simp only[Act.put,Qa,Qb,Qc];refine tkL 12 ?_;simp only[Act.put,Qa,Qb,Qc];refine tkL 13 ?_;simp only[Act.put,Qa,Qb,Qc];refine Zr (i:=11) rfl (by kernel_rfl) (λK hK=>?_);go_simp;go_at_call 39;refine(HDG.o _ hHeld.2.2.2.tch).mono ?_;rintro _ w'⟨⟨id,hid,rfl⟩,ht⟩;have hts:=TS.next HTS0.o ht;go_wp2_with fail;refine hK.out _ _ (Fr.all HX.o hts.fr) (λhHeld13=>?_);clear hK K hHeld
       try simp only[Act.put,Qa,Qb,Qc]
       refine Zr (i:=14) rfl (by kernel_rfl) (λK hK=>?_);go_simp;go_at_call 22;refine(hPG.out _).mono ?_;rintro _ w''⟨⟨r,hr,rfl⟩,hw''⟩;have hw3:=hw''.symm;subst hw3;go_wp2_with fail;refine hK.out _ _ (Fr.all HX.o hts.fr) (λhHeld14=>?_);clear hK K hHeld13
       try simp only[Act.put,Qa,Qb,Qc]
       refine tkL 15 ?_;simp only[Act.put,Qa,Qb,Qc];refine Zr (i:=16) rfl (by kernel_rfl) (λK hK=>?_);go_simp;refine hK.out _ _ (Fr.all HX.o (hts.next (Ta _ _ _)).fr) (λhHeld16=>?_);clear hK K hHeld14
       try simp only[Act.put,Qa,Qb,Qc]
       refine Zr (i:=17) rfl (by kernel_rfl) (λK hK=>?_);refine ZX rfl _ _ rfl rfl (COwn.nil (w.heap.size+3) _) _ _ [(id,(r:Int))] rfl (Jdh _ (id,(r:Int))) (by simp) (hts.next (Ta _ _ _)).fr.size ?_;intro v1 w1 hown1 hg1;have ht1:=TS.grownS hg1;have hts1:=TS.next (TS.next hts (Ta _ _ _)) ht1;obtain⟨b1,m1,e1,hv1⟩:=hown1.shape3;subst hv1;have hf1:=hts1.fr;refine hK.out _ _ (Fr.all HX.o hf1) (λhHeld17=>?_);clear hK K hHeld16
       try simp only[Act.put,Qa,Qb,Qc]
       refine tkL 18 ?_;simp only[Act.put,Qa,Qb,Qc];refine wpAnyH_done (by kernel_rfl) ?_ _;show wpList _ _ _ [_] _ _;have c9:w1.frozen? ⟨w.heap.size+1+1,0,none⟩=false:=Qg _ _ _ _ _ hf1.tx;have c8:w1.cell? ⟨w.heap.size+1+1,0,none⟩=some (.slice none 0 0):=Ja hf1.tx;go_wp2;go_meet;have hff:=TS.stored hts1 hown1;exact⟨_,_,hff.own,⟨by simp,by simp,λc hc=>by
        rw[List.nil_append,Qt]at hc;subst hc;exact⟨hid,by show (0:Int)<=(r:Int);omega,by show (r:Int)<3;omega⟩⟩,hff.fr⟩
     ·have HTS0:Hid (TS w #[.int .i64 fr,.int .i64 mn,.slice a1 am.length c1,.int .u8 (ow:Int),.bool wi,.bool ot] (.slice (some ⟨g,0,none⟩) n vc) cs wB.drew):=HTS.o.next (Td _ wB 1);have c0:wB.drew.cell? ⟨w.heap.size+1+1,0,none⟩=some (.slice (some ⟨g,0,none⟩) n vc):=Ja HTS0.o.fr.tx;have c0':wB.cell? ⟨w.heap.size+1+1,0,none⟩=some (.slice (some ⟨g,0,none⟩) n vc):=c0;obtain⟨hf,hhf⟩:∃hf,n/2=hf:=⟨_,rfl⟩
      have hq1:(n:Int).tdiv 2=(hf:Int):=(by rw[<-hhf];rfl);have hq2:(n:Int)/2=(hf:Int):=(by omega);have hq3:IntKind.i64.wrap (hf:Int)=(hf:Int):=(by simp[IntKind.wrap,IntKind.bits,IntKind.signed];omega);have hq4:(hf:Int)<=(vc:Int):=(by omega);have hq5:(0:Int)<=(hf:Int):=(by omega);have HHF:Hid (hf<=n/\hf<=1):=(by omega:hf<=n/\hf<=1)
      clear hhf
      as_aux_lemma=>
       refine JV (S:=λW=>W.cell? ⟨xb,1,none⟩=some (.int .i64 (wj:Int))/\W.cell? ⟨w.heap.size,0,none⟩=some (.int .i64 fr)/\W.cell? ⟨w.heap.size+1+1,0,none⟩=some (.slice (some ⟨g,0,none⟩) n vc)/\Fr w #[.int .i64 fr,.int .i64 mn,.slice a1 am.length c1,.int .u8 (ow:Int),.bool wi,.bool ot] (.slice (some ⟨g,0,none⟩) n vc) (.slice none 0 0) W) 0 (by simp) (by kernel_rfl) (by kernel_rfl) (Fr.all HX.o HTS0.o.fr) ?_;intro hHeld l o hl ho;simp only[List.dropLast_cons_cons,List.dropLast_singleton]at hl;simp only[List.getLast_cons_cons,List.getLast_singleton]at ho;subst hl;subst ho;simp only[Qp,Qv,Nat.reduceAdd];refine tkL 0 ?_;simp only[Act.put,Qa,Qb,Qc];refine tkL 1 ?_;simp only[Act.put,Qa,Qb,Qc];refine tkL 2 ?_;simp only[Act.put,Qa,Qb,Qc];refine tkL 3 ?_;simp only[Act.put,Qa,Qb,Qc];refine tkL 4 ?_;simp only[Act.put,Qa,Qb,Qc];refine tkL 5 ?_;simp only[Act.put,Qa,Qb,Qc];refine tkL 6 ?_;simp only[Act.put,Qa,Qb,Qc];refine tkL 7 ?_;simp only[Act.put,Qa,Qb,Qc];refine tkL 8 ?_;simp only[Act.put,Qa,Qb,Qc];refine tkL 9 ?_;simp only[Act.put,Qa,Qb,Qc];refine tkL 10 ?_;simp only[Act.put,Qa,Qb,Qc];refine tkL 12 ?_;simp only[Act.put,Qa,Qb,Qc];refine tkL 13 ?_;simp only[Act.put,Qa,Qb,Qc];refine Zr (i:=11) rfl (by kernel_rfl) (λK hK=>?_);go_simp;go_at_call 39;refine(HDG.o _ hHeld.2.2.2.tch).mono ?_;rintro _ w'⟨⟨id,hid,rfl⟩,ht⟩;have hts:=TS.next HTS0.o ht;go_wp2_with fail;refine hK.out _ _ (Fr.all HX.o hts.fr) (λhHeld13=>?_);clear hK K hHeld
       try simp only[Act.put,Qa,Qb,Qc]
       refine Zr (i:=14) rfl (by kernel_rfl) (λK hK=>?_);go_simp;go_at_call 22;refine(hPG.out _).mono ?_;rintro _ w''⟨⟨r,hr,rfl⟩,hw''⟩;have hw3:=hw''.symm;subst hw3;go_wp2_with fail;refine hK.out _ _ (Fr.all HX.o hts.fr) (λhHeld14=>?_);clear hK K hHeld13
       try simp only[Act.put,Qa,Qb,Qc]
       refine tkL 15 ?_;simp only[Act.put,Qa,Qb,Qc];refine Zr (i:=16) rfl (by kernel_rfl) (λK hK=>?_);go_simp;refine hK.out _ _ (Fr.all HX.o (hts.next (Ta _ _ _)).fr) (λhHeld16=>?_);clear hK K hHeld14
       try simp only[Act.put,Qa,Qb,Qc]
       refine Zr (i:=17) rfl (by kernel_rfl) (λK hK=>?_);refine ZX rfl _ _ rfl rfl ((TS.next hts (Ta _ _ _)).own.take hf HHF.o.1) _ _ [(id,(r:Int))] rfl (Jdh _ (id,(r:Int))) (by have:=HN.o;simp;omega) (hts.next (Ta _ _ _)).fr.size ?_;intro v1 w1 hown1 hg1;have hf1:=TS.grownF hts hg1;obtain⟨b1,m1,e1,hv1⟩:=hown1.shape3;subst hv1;refine hK.out _ _ (Fr.all HX.o hf1) (λhHeld17=>?_);clear hK K hHeld16
       try simp only[Act.put,Qa,Qb,Qc]
       refine tkL 18 ?_;simp only[Act.put,Qa,Qb,Qc];refine wpAnyH_done (by kernel_rfl) ?_ _;show wpList _ _ _ [_] _ _;have c9:w1.frozen? ⟨w.heap.size+1+1,0,none⟩=false:=Qg _ _ _ _ _ hf1.tx;have c8:w1.cell? ⟨w.heap.size+1+1,0,none⟩=some (.slice (some ⟨g,0,none⟩) n vc):=Ja hf1.tx;go_wp2;go_meet;have hst:=TSE.storedF hf1 hown1;exact⟨_,_,hst.own,⟨by simp,by have:=HHF.o;simp[List.length_take];omega,λc hc=>by
        rw[QE,Qt]at hc
        rcases hc with hc|rfl
        ·exact HCC.o c (List.mem_of_mem_take hc)
        ·exact⟨hid,by show (0:Int)<=(r:Int);omega,by show (r:Int)<3;omega⟩⟩,hst.fr⟩
   case rest=>
   obtain⟨cs',v',HCO',HCK,HFR⟩:=hcut;obtain⟨wC,hwC⟩:∃wC,wC=wc:=⟨wc,rfl⟩
   subst hwC;clear HF HCO t0 e5 HB HCL HCC HL3;go_wp2;go_loopw [8,11] (λvl i wr=>∃(k s:Nat)(os:List (Nat×Nat))(vO:Value),k<=3/\i=.int .i64 k/\vl=.int .u64 (s:Int)/\Hid (s<18446744073709551616)/\Hid (OOwn (w.heap.size+3) wr vO os)/\Hid (os.length=k)/\Hid (∀o∈os,JA o)/\Hid (COwn (w.heap.size+3) wr v' cs')/\Hid (Fr w #[.int .i64 fr,.int .i64 mn,.slice a1 am.length c1,.int .u8 (ow:Int),.bool wi,.bool ot] v' vO wr)) (λ_ i _=>3-(intOf i).toNat)
   case atStart=>exact⟨0,sm,[],.slice none 0 0,by omega,rfl,rfl,HSM.o,OOwn.nil _ _,rfl,(λc hc=>(QD hc).elim:∀c∈([]:List (Nat×Nat)),JA c),HCO'.out,HFR.o⟩
   case round=>
    clear HCO' HFR HSM;obtain⟨k,sm,os,vO,hk,rfl,rfl,HSM,HOO,HOL,HOK,HCO',HF⟩:=hrel;obtain⟨va2,vc2,rfl⟩:=HOO.o.shape;have d2:wr.cell? ⟨w.heap.size,2,none⟩=some (.slice a1 am.length c1):=Ja HF.o.pay;have d3:wr.cell? ⟨w.heap.size,3,none⟩=some (.int .u8 (ow:Int)):=Ja HF.o.pay;have d4:wr.cell? ⟨w.heap.size,4,none⟩=some (.bool wi):=Ja HF.o.pay
    by_cases hgo:k<am.length/\k<3
    ·obtain⟨hka,hk3⟩:=hgo
     rcases HA.o with⟨_,e2⟩|⟨g0,o0,cc,e,hg0,hcell⟩
     ·rw[e2]at hka;simp at hka
     simp only[Qy,true_and]at e;obtain⟨rfl,rfl⟩:=e;have q0:=(HF.o.tch.cell (p:=⟨g0,o0+k,none⟩) hg0 (λe=>e)).trans (hcell k hka);have HAM:Hid (am[k]<18446744073709551616):=HP.o.amounts _ (Qx hka);have hki:(k:Int)<(am.length:Int):=(by omega);have hk3i:(k:Int)<3:=(by omega);clear hcell;generalize am[k]=a at *;go_upto_region 15 with fail;go_cut [99] (λvb wx=>∃b:Bool,vb=.bool b/\wx=wr/\(b=true->sm<9223372036854775808))
     case first=>
      cases wi with
      | true=>
       go_wp2;go_meet;exact⟨false,rfl,rfl,λh=>by cases h⟩
      | false=>
       rcases Nat.lt_or_ge sm 9223372036854775808 with hs|hs
       ·have hsi:(sm:Int)<9223372036854775808:=(by omega);have HS:Hid (sm<9223372036854775808):=hs;clear hs;go_wp2;go_meet;exact⟨_,rfl,rfl,λ_=>HS.o⟩
       ·have hsi:¬(sm:Int)<9223372036854775808:=(by omega);clear hs;go_wp2;go_meet;exact⟨false,by first|rfl|simp[hsi],rfl,λh=>by cases h⟩
     case rest=>
     obtain⟨b,rfl,rfl,hb⟩:=hcut;obtain⟨wD,hwD⟩:∃wD,wD=wc:=⟨wc,rfl⟩
     subst hwD;have HB2:Hid (b=true->sm<9223372036854775808):=hb;clear hb;go_upto_if 99 with fail;go_cut [8,12] (λvl va wx=>∃s2 a2:Nat,vl=.int .u64 (s2:Int)/\va=.int .u64 (a2:Int)/\wx=wD/\Hid (s2<18446744073709551616)/\Hid (a2<18446744073709551616))
     case first=>
      cases b with
      | false=>
       go_wp2;go_meet;exact⟨sm,a,rfl,rfl,rfl,HSM,HAM⟩
      | true=>
       have hs:=HB2.o rfl;obtain⟨m1,hm1⟩:∃m1,sm+1=m1:=⟨_,rfl⟩
       obtain⟨r,hr⟩:∃r,a % m1=r:=⟨_,rfl⟩
       have hrm:r<m1:=(by rw[<-hr];exact Nat.mod_lt _ (by omega));have hw1:IntKind.u64.wrap ((sm:Int)+1)=(m1:Int):=(by simp[IntKind.wrap,IntKind.bits,IntKind.signed];omega);have hne:¬(m1:Int)=0:=(by omega);have htm:(a:Int).tmod (m1:Int)=(r:Int):=(by rw[<-hr];rfl);have hem:(a:Int) % (m1:Int)=(r:Int):=(by rw[<-hr];simp);obtain⟨s2,hs2⟩:∃s2,sm-r=s2:=⟨_,rfl⟩
       have hsub:IntKind.u64.wrap ((sm:Int)-(r:Int))=(s2:Int):=(by simp[IntKind.wrap,IntKind.bits,IntKind.signed];omega);have HR:Hid (s2<18446744073709551616):=(by omega:s2<18446744073709551616)
       have HR2:Hid (r<18446744073709551616):=(by omega:r<18446744073709551616)
       clear hs hm1 hr hrm hs2;go_wp2;go_meet;exact⟨s2,r,rfl,rfl,rfl,HR,HR2⟩
     case rest=>
     obtain⟨s2,a2,rfl,rfl,rfl,HS2,HA2⟩:=hcut;obtain⟨wE,hwE⟩:∃wE,wE=wc:=⟨wc,rfl⟩
     subst hwE;obtain⟨o2,ho2⟩:∃o2:Nat,(ow+k) % 256=o2:=⟨_,rfl⟩
     have HO2:Hid (o2<256):=(by rw[<-ho2];exact Nat.mod_lt _ (by decide):o2<256)
     have hk8:IntKind.u8.wrap (k:Int)=(k:Int):=(by simp[IntKind.wrap,IntKind.bits,IntKind.signed];omega);have hw8:IntKind.u8.wrap ((ow:Int)+(k:Int))=(o2:Int):=(by simp[IntKind.wrap,IntKind.bits,IntKind.signed];omega);have t1:wE.cell? ⟨w.heap.size+1+1,1,none⟩=some (.slice va2 os.length vc2):=Ja HF.o.tx;have HNO:Hid (Jq (wE.heap.size+1) (wE.alloc (.cells #[.int .u64 ((a2:Nat):Int),.int .u8 ((o2:Nat):Int)] 80)) (.slice (some ⟨wE.heap.size,0,none⟩) 1 1) [(a2,o2)]):=Jfl wE (a2,o2);have HOW:Hid (OOwn (w.heap.size+3) (wE.alloc (.cells #[.int .u64 ((a2:Nat):Int),.int .u8 ((o2:Nat):Int)] 80)) (.slice va2 os.length vc2) os):=HOO.o.tch (Ta NoB wE _) (λ_ _ h=>h);have HSZ:Hid (w.heap.size+3<=wE.heap.size):=HF.o.size;obtain⟨va1,vm1,vc1,hv1'⟩:=HCO'.out.shape3;have HFN:Hid (∀w1,World.grownBy (wE.alloc (.cells #[.int .u64 ((a2:Nat):Int),.int .u8 ((o2:Nat):Int)] 80)) w1 (Value.slice va2 os.length vc2).ownBlock->Fr w #[.int .i64 fr,.int .i64 mn,.slice (some ⟨g0,o0,none⟩) am.length c1,.int .u8 (ow:Int),.bool wi,.bool ot] v' (.slice va2 os.length vc2) w1/\COwn (w.heap.size+3) w1 v' cs'):=(by intro w1 hg;refine⟨(HF.o.next (Ta NoB wE _) noE).next (Tg hg) (λj hj=>(HOO.o.own j hj.symm).1),(HCO'.out.tch (Ta NoB wE _) (λ_ _ h=>h)).tch (Tg hg) (λj hj e=>Jc4 HCO'.out HOO.o j hj e.symm)⟩);clear ho2 q0;go_wp2_with (at_builtin;refine YD rfl _ _ rfl rfl HOW.o _ _ [(a2,o2)] rfl HNO.o (by have:=HOL.o;simp;omega) (by have:=HSZ.o;simp;omega) ?_;intro v1 w1 hown1 hg1;obtain⟨hf1,hco1⟩:=HFN.o w1 hg1;have HO1:Hid (OOwn _ w1 v1 _):=hown1;have HC1:Hid (COwn _ w1 _ _):=hco1;have t2:w1.cell? ⟨w.heap.size+1+1,1,none⟩=some (.slice va2 os.length vc2):=Ja hf1.tx;have t3:w1.frozen? ⟨w.heap.size+1+1,1,none⟩=false:=Qg _ _ _ _ _ hf1.tx;have HF1:Hid (Fr _ _ _ _ w1):=hf1;clear hown1 hg1 hf1 hco1;obtain⟨b1,m1,e1,hv1⟩:=HO1.o.shape3;subst hv1);have hset:=Qj w1 (w.heap.size+1+1) 1 _ _ _ (.slice b1 m1 e1) HF1.o.tx;have HO3:Hid (OOwn (w.heap.size+3) (w1.setCell ⟨w.heap.size+1+1,1,none⟩ (.slice b1 m1 e1)) (.slice b1 m1 e1) (os++[(a2,o2)])):=(by rw[hset];exact HO1.o.tch (Ts w1 _ _) (λj hj e=>by have:=(HO1.o.own j hj).1;omega));have HC3:Hid (COwn (w.heap.size+3) (w1.setCell ⟨w.heap.size+1+1,1,none⟩ (.slice b1 m1 e1)) v' cs'):=(by rw[hset];exact HC1.o.tch (Ts w1 _ _) (λj hj e=>by have:=(HC1.o.own j hj).1;omega));have HF3:Hid (Fr w #[.int .i64 fr,.int .i64 mn,.slice (some ⟨g0,o0,none⟩) am.length c1,.int .u8 (ow:Int),.bool wi,.bool ot] v' (.slice b1 m1 e1) (w1.setCell ⟨w.heap.size+1+1,1,none⟩ (.slice b1 m1 e1))):=(by rw[hset];exact HF1.o.set v' (.slice b1 m1 e1));clear hset;go_roundw
     case rel=>exact⟨k+1,s2,os++[(a2,o2)],.slice b1 m1 e1,by omega,by go_num,rfl,HS2.o,HO3.o,(by have:=HOL.o;simp;omega:(os++[(a2,o2)]).length=k+1),(by intro c hc;rw[QE,Qt]at hc;rcases hc with hc|rfl;exact HOK.o c hc;exact⟨HA2.o,HO2.o⟩:∀c∈os++[(a2,o2)],JA c),HC3.o,HF3.o⟩
     case measure=>simp[intOf];omega
    ·have HTK:Hid (TxOk wj (cs',os)):=⟨HCK.o.2.2,HOK.o,HCK.o.1,HCK.o.2.1,by show os.length<=3;have:=HOL.o;omega⟩
     obtain⟨va1,vm1,vc1,hv1'⟩:=HCO'.out.shape3;subst hv1';have t0:wr.cell? ⟨w.heap.size+1+1,0,none⟩=some (.slice va1 vm1 vc1):=Ja HF.o.tx;have t1:wr.cell? ⟨w.heap.size+1+1,1,none⟩=some (.slice va2 os.length vc2):=Ja HF.o.tx;have r0:wr.cell? ⟨w.heap.size+1,0,none⟩=some (.slice none 0 0):=Ja HF.o.res;have r1:wr.cell? ⟨w.heap.size+1,1,none⟩=some (.slice none 0 0):=Ja HF.o.res;have fR:∀j,wr.frozen? ⟨w.heap.size+1,j,none⟩=false:=λj=>Qg _ _ _ _ _ HF.o.res;have HEND:Hid (∀cs1,wr.setRow (w.heap.size+1) #[.slice va1 vm1 vc1,.slice va2 os.length vc2]=cs1->ToTx wj w (.returned (.agg #[.slice va1 vm1 vc1,.slice va2 os.length vc2])) cs1):=by
      rintro _ rfl;have tS:=Ts wr (w.heap.size+1) #[.slice va1 vm1 vc1,.slice va2 os.length vc2];refine⟨HF.o.tch.trans tS (λj hj=>.inr (by omega)),(cs',os),_,_,rfl,HTK.o,?_,?_⟩
      ·exact(HCO'.out.tch tS (λj hj e=>by have:=(HCO'.out.own j hj).1;omega)).low (by omega)
      ·exact(HOO.o.tch tS (λj hj e=>by have:=(HOO.o.own j hj).1;omega)).low (by omega)
     have RR:Hid (_=_):=HF.o.res
     by_cases hka:k<am.length
     ·have hki:(k:Int)<(am.length:Int):=(by omega);have hk3i:¬(k:Int)<3:=(by omega);go_wp2;rw[Jly _ _ _ _ _ _ _ RR.out];refine QJ (v:=.agg #[.slice va1 vm1 vc1,.slice va2 os.length vc2]) (Qq results43 _ _ (w.heap.size+1) _ _ (0,0) _ rfl (Qi wr _ _ _ _ _ RR.out) underlying98 rfl (by kernel_rfl)) rfl ?_;exact HEND.o _ rfl
     ·have hki:¬(k:Int)<(am.length:Int):=(by omega);go_wp2;rw[Jly _ _ _ _ _ _ _ RR.out];refine QJ (v:=.agg #[.slice va1 vm1 vc1,.slice va2 os.length vc2]) (Qq results43 _ _ (w.heap.size+1) _ _ (0,0) _ rfl (Qi wr _ _ _ _ _ RR.out) underlying98 rfl (by kernel_rfl)) rfl ?_;exact HEND.o _ rfl

theorem SOwn.kind{l:List Sl}(h:SOwn base w v l):∀j,v.ownBlock=some j->∃cur m,w.heap[j]? =some (.cells cur 43 m):=by
 obtain⟨_,⟨rfl,h0⟩|⟨g,cap,cur,rfl,hb,hrow,_⟩⟩:=h
 ·intro k hk;cases hk
 ·intro k hk;cases hk;exact⟨cur,_,hrow⟩
def JeP(w:World)(v:Value)(ps:List PayL):Prop:=
 ((∃a c,v=.slice a 0 c)/\ps=[])\/∃g o c,v=.slice (some ⟨g,o,none⟩) ps.length c/\g<w.heap.size/\∀i (h:i<ps.length),∃va,ZG w va ps[i].amounts/\
  w.cell? ⟨g,o+i*6,none⟩=some (.int .i64 ps[i].from_)/\w.cell? ⟨g,o+i*6+1,none⟩=some (.int .i64 ps[i].many)/\w.cell? ⟨g,o+i*6+2,none⟩=some va/\w.cell? ⟨g,o+i*6+3,none⟩=some (.int .u8 ((ps[i].owner:Nat):Int))/\w.cell? ⟨g,o+i*6+4,none⟩=some (.bool ps[i].wild)/\w.cell? ⟨g,o+i*6+5,none⟩=some (.bool ps[i].other)
theorem JeP.shape{l:List PayL}(h:JeP w v l):∃a c,v=.slice a l.length c:=by
 rcases h with⟨⟨a,c,rfl⟩,rfl⟩|⟨gi,oi,c,rfl,_⟩
 ·exact⟨a,c,rfl⟩
 ·exact⟨_,_,rfl⟩
def YX(base:Nat)(w:World)(v:Value)(ts:List TxL):Prop:=
 ∃l:List (Sl×Sl),TOwn base w v l/\l.length=ts.length/\∀(j:Nat) x t,l[j]? =some x->ts[j]? =some t->COwn base w (.slice x.1.1 x.1.2.1 x.1.2.2) t.1/\OOwn base w (.slice x.2.1 x.2.2.1 x.2.2.2) t.2
theorem YX.is(h:YX base w v ts):Jko w v ts:=by
 obtain⟨l,h1,h2,h3⟩:=h;exact⟨l,h1.at,h2,λj x t hx ht=>⟨(h3 j x t hx ht).1.at,(h3 j x t hx ht).2.at⟩⟩
theorem JaY{l:List (Sl×Sl)}(h:COwn b w v cs)(h2:TOwn b' w v2 l):∀j,v.ownBlock=some j->¬some j=v2.ownBlock:=by
 intro j hj hj2;obtain⟨_,⟨rfl,_⟩|⟨g,cap,cur,rfl,_,hrow,_⟩⟩:=h
 ·cases hj
 obtain⟨_,⟨rfl,_⟩|⟨g',cap',cur',rfl,_,hrow',_⟩⟩:=h2
 ·cases hj2
 cases hj
 cases hj2
 rw[hrow]at hrow';simp at hrow'
theorem JbF{cs:List (Nat×Nat)}{l:List (Sl×Sl)}(h:OOwn b w v cs)(h2:TOwn b' w v2 l):∀j,v.ownBlock=some j->¬some j=v2.ownBlock:=by
 intro j hj hj2;obtain⟨_,⟨rfl,_⟩|⟨g,cap,cur,rfl,_,hrow,_⟩⟩:=h
 ·cases hj
 obtain⟨_,⟨rfl,_⟩|⟨g',cap',cur',rfl,_,hrow',_⟩⟩:=h2
 ·cases hj2
 cases hj
 cases hj2
 rw[hrow]at hrow';simp at hrow'
theorem JdX{cs:List Held}{l:List (Sl×Sl)}(h:Yh w v cs)(h2:TOwn b' w v2 l):∀j,v.ownBlock=some j->¬some j=v2.ownBlock:=by
 intro j hj hj2;obtain⟨cur,m,hrow⟩:=h.2 j hj;obtain⟨_,⟨rfl,_⟩|⟨g',cap',cur',rfl,_,hrow',_⟩⟩:=h2
 ·cases hj2
 cases hj2
 rw[hrow]at hrow';simp at hrow'
theorem YX.tch(h:YX base w v ts)(k:Tch NoB w w'):YX base w' v ts:=by
 obtain⟨l,h1,h2,h3⟩:=h;exact⟨l,h1.tch k (λ_ _ e=>e),h2,λj x t hx ht=>⟨(h3 j x t hx ht).1.tch k (λ_ _ e=>e),(h3 j x t hx ht).2.tch k (λ_ _ e=>e)⟩⟩
theorem YX.push{v3:Value}{lt:List (Sl×Sl)}{x:Sl×Sl}{t:TxL}(h1:TOwn base W v lt)(h2:lt.length=ts.length)(h3:∀(j:Nat) x t,lt[j]? =some x->ts[j]? =some t->COwn base W (.slice x.1.1 x.1.2.1 x.1.2.2) t.1/\OOwn base W (.slice x.2.1 x.2.2.1 x.2.2.2) t.2)
 (hc:COwn base W (.slice x.1.1 x.1.2.1 x.1.2.2) t.1) (ho:OOwn base W (.slice x.2.1 x.2.2.1 x.2.2.2) t.2) (hn:TOwn base w3 v3 (lt++[x])) (hg:World.grownBy W w3 v.ownBlock):YX base w3 v3 (ts++[t]):=by
 refine⟨lt++[x],hn,by simp[h2],λj y u hy hu=>?_⟩;have hold:COwn base W (.slice y.1.1 y.1.2.1 y.1.2.2) u.1/\OOwn base W (.slice y.2.1 y.2.2.1 y.2.2.2) u.2:=by
  by_cases hj:j<lt.length
  ·rw[QF hj]at hy;rw[QF (by omega)]at hu;exact h3 j y u hy hu
  ·rw[Qz (by omega)]at hy;rw[Qz (by omega)]at hu;have e1:j-lt.length=0:=(by have:=(Qo.1 hy).1;simp at this;omega);rw[e1]at hy;rw[<-h2,e1]at hu;simp only[List.getElem?_cons_zero,Qh]at hy hu;subst hy;subst hu;exact⟨hc,ho⟩
 exact⟨hold.1.tch (Tg hg) (JaY hold.1 h1),hold.2.tch (Tg hg) (JbF hold.2 h1)⟩
structure Jcm(wj:Nat)(l0:List Held)(st0:Option Tr)(ts:List TxL)(cur:List Held)(code:Int):Prop where
 ok:∀t∈ts,TxOk wj t
 res:(code=0/\XW (dgW wj) l0 ts=.ok cur/\∃st,JX (dgW wj) st0 ts=.ok st/\Book wj st cur)\/(∃er,code=XN er/\XW (dgW wj) l0 ts=.error er/\JX (dgW wj) st0 ts=.error er)
theorem Ja9(er:Er):¬XN er=0:=by cases er<;>decide
theorem Jat(dg:List UInt8->BA)(t:TxL):∀(ts:List TxL)(l l1:List Held),XW dg l ts=.ok l1->XW dg l (ts++[t])=Xu dg l1 t:=by
 intro ts
 induction ts with
 | nil=>
  intro l l1 h;simp only[XW,Except.ok.injEq]at h;subst h;simp only[List.nil_append,XW]
  cases Xu dg l t<;>rfl
 | cons x r ih=>
  intro l l1 h;simp only[XW,List.cons_append]at h ⊢
  cases hx:Xu dg l x with
  | error e=>rw[hx]at h;cases h
  | ok l2=>rw[hx]at h;exact ih l2 l1 h
theorem Jco(dg:List UInt8->BA)(t:TxL):∀(ts:List TxL)(s s1:Option Tr),JX dg s ts=.ok s1->JX dg s (ts++[t])=Xi dg s1 t:=by
 intro ts
 induction ts with
 | nil=>
  intro l l1 h;simp only[JX,Except.ok.injEq]at h;subst h;simp only[List.nil_append,JX]
  cases Xi dg l t<;>rfl
 | cons x r ih=>
  intro l l1 h;simp only[JX,List.cons_append]at h ⊢
  cases hx:Xi dg l x with
  | error e=>rw[hx]at h;cases h
  | ok l2=>rw[hx]at h;exact ih l2 l1 h
theorem Jcm.next(hw:wj<=32){l0:List Held}{st0:Option Tr}(h:Jcm wj l0 st0 ts cur 0)(t:TxL)(ht:TxOk wj t):
  (∀l',Xu (dgW wj) cur t=.ok l'->Jcm wj l0 st0 (ts++[t]) l' 0)/\(∀er,Xu (dgW wj) cur t=.error er->Jcm wj l0 st0 (ts++[t]) cur (XN er)):=by
 have hok:∀x∈ts++[t],TxOk wj x:=by
  intro x hx;rw[QE,Qt]at hx;rcases hx with hx|rfl
  ·exact h.ok x hx
  ·exact ht
 obtain⟨h1,st,h2,B⟩:XW (dgW wj) l0 ts=.ok cur/\∃st,JX (dgW wj) st0 ts=.ok st/\Book wj st cur:=by
  rcases h.res with⟨_,h1,h2⟩|⟨er,he,_⟩
  ·exact⟨h1,h2⟩
  ·exact absurd he.symm (Ja9 er)
 have ha:=JeS wj (dgW wj) (Jw wj hw) t ht st cur B;refine⟨λl' hl=>?_,λer he=>?_⟩
 ·rw[hl]at ha;obtain⟨st',e1,B'⟩:=ha;exact⟨hok,.inl ⟨rfl,by rw[Jat _ _ _ _ _ h1];exact hl,st',by rw[Jco _ _ _ _ _ h2];exact e1,B'⟩⟩
 ·rw[he]at ha;exact⟨hok,.inr ⟨er,rfl,by rw[Jat _ _ _ _ _ h1];exact he,by rw[Jco _ _ _ _ _ h2];exact ha⟩⟩
theorem JfN(dg:List UInt8->BA)(l:List Held)(t:TxL)(l':List Held)(h:Xu dg l t=.ok l'):l'.length<=l.length+t.2.length:=by
 have hs:∀(cs:List (BA×Int))(s s':List Held×Nat×Bool),Xl cs s=some s'->s'.1.length<=s.1.length:=by
  intro cs
  induction cs with
  | nil=>intro s s' h;simp only[Xl,Qh]at h;rw[h];exact Ql _
  | cons c r ih=>
   rintro⟨now,i,o⟩ s' h;simp only[Xl]at h
   cases hf:JN now c with
   | none=>rw[hf]at h;cases h
   | some k=>
    rw[hf]at h;have:=ih _ _ h;exact Qm this (List.length_eraseIdx_le _ _)
 have hr:∀(id:BA)(os:List (Nat×Nat))(i:Nat)(s s':List Held×Nat×Bool),JL id i os s=some s'->s'.1.length<=s.1.length+os.length:=by
  intro id os
  induction os with
  | nil=>intro i s s' h;simp only[JL,Qh]at h;rw[h];simp
  | cons c r ih=>
   rintro i⟨now,a,o⟩ s' h;simp only[JL]at h
   cases hf:JN now (id,(i:Int)) with
   | some k=>rw[hf]at h;cases h
   | none=>
    rw[hf]at h;have:=ih _ _ _ h;simp only[Qe,Qp,Qv]at this ⊢;omega
 unfold Xu at h
 cases h1:Xl t.1 (l,0,false) with
 | none=>rw[h1]at h;cases h
 | some q=>
  obtain⟨n1,i1,o1⟩:=q;rw[h1]at h;dsimp only at h
  cases h2:JL (dg (84::txB t)) 0 t.2 (n1,0,o1) with
  | none=>rw[h2]at h;cases h
  | some q=>
   obtain⟨n2,i2,o2⟩:=q;rw[h2]at h;dsimp only at h
   split at h
   ·cases h
   ·cases h
    have a:=hs _ _ _ h1;have b:=hr _ _ _ _ _ h2;simp only at a b;omega
theorem Ch.last_get(ch:Ch)(m:Nat)(h:ch.length=m+1):ch.last=ch[m]'(by omega):=by
 unfold Ch.last;rw[List.getLastD_eq_getLast?,List.getLast?_eq_getElem?];have e:ch.length-1=m:=by omega
 rw[e,Qd (by omega)];rfl
theorem Jha(wj:Nat)(hw:wj<=32)(ch:Ch)(ts:List TxL)(h:∀t∈ts,TxOk wj t)(h3:ts.length<=3)(st:Option Tr):1<=(Yz (dgW wj) ch ts st).length/\(Yz (dgW wj) ch ts st).length<=1000000:=by
 have hb:(Xo ts).length<=1+ts.length*200:=by
  unfold Xo;rw[Qe,Jf];have:∀(l:List TxL),(∀t∈l,TxOk wj t)->(l.flatMap txB).length<=l.length*200:=by
   intro l
   induction l with
   | nil=>intro _;simp
   | cons x r ih=>
    intro hl;have a:=JdO wj x (hl x QM) hw x.2.length;rw[JdN]at a;have b:=ih (λy hy=>hl y (QP _ hy));rw[QG,Qe,Qp,Nat.succ_mul];omega
  have:=this ts h;omega
 have sz:∀x:BA,x.data.toList.length=x.size:=λx=>by simp only[QA];rfl
 have hh:(hdrB (ZB (dgW wj) ch (Xo ts) (JU (dgW wj) st))).length=4+3*wj:=by unfold hdrB ZB;simp only[Qe,Jf,sz,Jw wj hw,Yp (dgW wj) wj (Jw wj hw)];omega
 unfold Yz;rw[Qe,hh];omega
def Jnj{E:Nat->Addr}{wj base:Nat}(L:Led E wj base)(w:World)(xb lb:Nat)(F:Nat->Prop)(fl:Nat)(ch:Ch)(vst:Value)(states:List (List Held))(e:Ending)(w':World):Prop:=
 e=.returned (.bool true)/\∃F' ch' vst' sl' states',JI L w' xb lb F' fl ch' vst' sl' states'/\Tch (λj=>F j\/j=xb\/some j=vst.ownBlock) w w'/\(∀j,F' j->F j\/w.heap.size<=j)/\(∃r,ch'=ch++r)/\states'.length<=states.length+1/\∀l∈states',∃l0∈states,l.length<=l0.length+9
theorem JjP{L:Led E wj base}{w2 w4:World}{F':Nat->Prop}{c:BA×Option Tr}{v4:Value}{x:Sl} 
 (HS2:JI L w2 xb lb F fl ch vst sl states) (HC2:Yh w2 (.slice x.1 x.2.1 x.2.2) cur) (HB:Book wj c.2 cur) (HTW2:Tch NoB w w2) (HT3:Tch F w2 w3) (HAT:L.At w3 lb F' fl (ch++[c]))
 (R3:w3.heap[xb]? =some (.cells #[.pointer (some ⟨lb,0,none⟩),.int .i64 (wj:Int),vst,.int .i64 (fl:Int)] 35)) (S3:SOwn base w3 vst sl) (B3:∀(v:Value) l,Yh w2 v l->Yh w3 v l)
 (ho:SOwn base w4 v4 (sl++[x])) (hg:World.grownBy (w3.alloc (.cells #[.slice x.1 x.2.1 x.2.2] 43)) w4 vst.ownBlock):
  w4.heap[xb]? =some (.cells #[.pointer (some ⟨lb,0,none⟩),.int .i64 (wj:Int),vst,.int .i64 (fl:Int)] 35)/\JI L (w4.setCell ⟨xb,2,none⟩ v4) xb lb F' fl (ch++[c]) v4 (sl++[x]) (states++[cur])/\Tch (λj=>F j\/j=xb\/some j=vst.ownBlock) w (w4.setCell ⟨xb,2,none⟩ v4):=by
 have tA:=Ta NoB w3 (.cells #[.slice x.1 x.2.1 x.2.2] 43);have hxb:=(Jb R3)
 have kst:∀j,vst.ownBlock=some j->∃cur m,(w3.alloc (.cells #[.slice x.1 x.2.1 x.2.2] 43)).heap[j]? =some (.cells cur 43 m):=SOwn.kind (S3.tch tA (λ_ _ e=>e));have RA:(w3.alloc (.cells #[.slice x.1 x.2.1 x.2.2] 43)).heap[xb]? =_:=(tA.block _ hxb (λe=>e)).trans R3;have xne:¬some xb=vst.ownBlock:=λe=>by
  obtain⟨cu,m,hr⟩:=kst xb e.symm;rw[RA]at hr;simp at hr
 have R4:w4.heap[xb]? =some (.cells #[.pointer (some ⟨lb,0,none⟩),.int .i64 (wj:Int),vst,.int .i64 (fl:Int)] 35):=(hg.block _ (by simp;omega) xne).trans RA;have hset:w4.setCell ⟨xb,2,none⟩ v4=w4.setRow xb #[.pointer (some ⟨lb,0,none⟩),.int .i64 (wj:Int),v4,.int .i64 (fl:Int)]:=Qj w4 xb 2 _ _ _ v4 R4;have tS:=Ts w4 xb #[.pointer (some ⟨lb,0,none⟩),.int .i64 (wj:Int),v4,.int .i64 (fl:Int)];have hld:L.At w4 lb F' fl (ch++[c]):=by have h1:=L.keep HAT tA (λ_ e=>e.elim);refine L.keep h1 (Tg hg) (λj hj hF=>?_);obtain⟨cu,m,hr⟩:=kst j hj.symm;exact(L.kinds h1 j hF _ _ _ hr).2.1 rfl
 have hh:∀v l,Yh w3 v l->Yh (w4.setRow xb #[.pointer (some ⟨lb,0,none⟩),.int .i64 (wj:Int),v4,.int .i64 (fl:Int)]) v l:=by
  intro v l hv;have h1:=hv.tch tA (λ_ _ e=>e);have h2:=h1.tch (Tg hg) (λj hj e=>by
   obtain⟨cu,m,hr⟩:=h1.2 j hj;obtain⟨cu',m',hr'⟩:=kst j e.symm;rw[hr]at hr';simp at hr')
  exact h2.tch tS (λj hj e=>by
   obtain⟨cu,m,hr⟩:=h2.2 j hj;subst e;rw[R4]at hr;simp at hr)
 refine⟨R4,?_,?_⟩
 ·rw[hset];refine⟨Qi _ _ _ _ _ _ R4,?_,?_,HS2.low,?_,?_,?_,?_⟩
  ·exact L.keep hld tS (λj hj hF=>by subst hj;exact(L.kinds hld j hF _ _ _ R4).1 rfl)
  ·exact ho.tch tS (λj hj e=>by
    obtain⟨cu,m,hr⟩:=SOwn.kind ho j hj;subst e;rw[R4]at hr;simp at hr)
  ·intro i y l hy hl
   by_cases hi:i<sl.length
   ·rw[QF hi]at hy;rw[QF (by have:=HS2.len;omega)]at hl;exact hh _ _ (B3 _ _ (HS2.held i y l hy hl))
   ·rw[Qz (by omega)]at hy;rw[Qz (by have:=HS2.len;omega)]at hl;have e1:i-sl.length=0:=(by have:=(Qo.1 hy).1;simp at this;omega);have e2:i-states.length=0:=(by have:=(Qo.1 hl).1;simp at this;omega);rw[e1]at hy;rw[e2]at hl;simp only[List.getElem?_cons_zero,Qh]at hy hl;subst hy;subst hl;exact hh _ _ (B3 _ _ HC2)
  ·have:=HS2.len;simp only[Qe,Qp,Qv];omega
  ·have:=HS2.floor;simp only[Qe,Qp,Qv];omega
  ·intro i d l hfl hd hl
   by_cases hi:i<ch.length
   ·rw[QF hi]at hd;rw[QF (by have:=HS2.len;omega)]at hl;exact HS2.book i d l hfl hd hl
   ·rw[Qz (by omega)]at hd;rw[Qz (by have:=HS2.len;omega)]at hl;have e1:i-ch.length=0:=(by have:=(Qo.1 hd).1;simp at this;omega);have e2:i-states.length=0:=(by have:=(Qo.1 hl).1;simp at this;omega);rw[e1]at hd;rw[e2]at hl;simp only[List.getElem?_cons_zero,Qh]at hd hl;subst hd;subst hl;exact HB
 ·rw[hset];have t0:Tch (λj=>F j\/j=xb\/some j=vst.ownBlock) w w2:=HTW2.mono noE;exact(((t0.trans HT3 (λj hj=>.inl (.inl hj))).trans tA noE).trans (Tg hg) (λj hj=>.inl (.inr (.inr hj)))).trans tS (λj hj=>.inl (.inr (.inl hj)))
theorem Jnz(L:Led E wj base)(hw1:1<=wj)(hw:wj<=32)(xb lb:Nat)(F:Nat->Prop)(fl:Nat)(ch:Ch)(vst:Value)(sl:List Sl)(states:List (List Held))(v:Value)(ps:List PayL)(w:World)(hF:Xe E base w)(hS:JI L w xb lb F fl ch vst sl states)(hp:JeP w v ps)(hpo:∀p∈ps,p.Ok)(hlen:∀l∈states,l.length<=800000000)(hc:ch.length+1<2 ^ 27):
  Calls prog 17 #[.pointer (some ⟨xb,0,none⟩),v] w (Jnj L w xb lb F fl ch vst states):=by
 obtain⟨a0,c0,rfl⟩:=hp.shape;obtain⟨m,hm⟩:∃m,sl.length=m+1:=⟨sl.length-1,by have:=hS.len;omega⟩
 have hsl:sl ≠ []:=by intro h;rw[h]at hm;simp at hm
 obtain⟨gs,cap,rfl,hcell⟩:=hS.st.at hsl;have q2:w.cell? ⟨xb,2,none⟩=some (.slice (some ⟨gs,0,none⟩) sl.length cap):=Ja hS.row;have qm:=hcell m (by omega);have hms:m<states.length:=by have:=hS.len;omega
 have hmc:m<ch.length:=by have:=hS.len;omega
 have H0:Hid (Yh w (.slice (sl[m]'(by omega)).1 (sl[m]'(by omega)).2.1 (sl[m]'(by omega)).2.2) states[m]):=hS.held m _ _ (Qd (by omega)) (Qd hms);have HB0:Hid (Book wj ch[m].2 states[m]):=hS.book m _ _ (by have:=hS.floor;have:=hS.len;omega) (Qd hmc) (Qd hms);have HL0:Hid (states[m].length<=800000000):=hlen _ (Qx hms);have HLAST:Hid (ch.last.2=ch[m].2):=(by rw[Ch.last_get ch m (by have:=hS.len;omega)]:ch.last.2=ch[m].2)
 have HS:Hid _:=hS;have HF:Hid _:=hF;have HP:Hid _:=hp;have HPO:Hid _:=hpo;have HLEN:Hid _:=hlen;have HC:Hid _:=hc;have HMS:Hid _:=hms;generalize hl0:states[m]=l0 at *;generalize hst0:ch[m].2=st0 at *;generalize hx0:(sl[m]'(by omega))=x0 at *;obtain⟨xa,xn,xc⟩:=x0;simp only at qm H0;have HL0E:Hid (states[m]? =some l0):=(by rw[<-hl0];exact Qd hms:states[m]? =some l0)
 rw[hm]at q2;have hmi:((m+1:Nat):Int)-1=(m:Int):=by omega
 have hmi2:(m:Int)<((m+1:Nat):Int):=by omega
 have hm32:m<4294967296:=by have:=HS.o.len;have:=HC.o;omega
 have hwm:IntKind.i64.wrap (m:Int)=(m:Int):=by simp[IntKind.wrap,IntKind.bits,IntKind.signed];omega
 have hwm2:wrap64 (m:Int)=(m:Int):=by unfold wrap64;omega
 clear hS hF hp hpo hlen hc hcell hl0 hst0 hx0 hms hmc hsl;go_enter func17,ntmps17;go_wp2;go_region;go_wp2;have HSH:Hid (JI L w.drew xb lb F fl ch (.slice (some ⟨gs,0,none⟩) sl.length cap) sl states):=HS.o.next (Td _ w 1);have HM:Hid _:=hm;clear hmi hmi2 hm32 hwm hwm2 q2 qm hm;go_loopw [5,6,7,8] (λvn vt vc i wr=>∃(k:Nat)(ts:List TxL)(cur:List Held)(code:Int),k<=3/\i=.int .i64 k/\vc=.int .i64 code/\Hid (YX w.heap.size wr vt ts)/\Hid (ts.length=k)/\Hid (Yh wr vn cur)/\Hid (Jcm wj l0 st0 ts cur code)/\Hid (cur.length<=l0.length+3*k)/\Hid (Tch NoB w wr)) (λ_ _ _ i _=>3-(intOf i).toNat)
 case atStart=>exact⟨0,[],l0,0,by omega,rfl,rfl,⟨[],⟨rfl,.inl ⟨rfl,rfl⟩⟩,rfl,λj x t h=>by simp at h⟩,rfl,H0.o.tch (Td NoB w 1) (λ_ _ e=>e),⟨λt ht=>(QD ht).elim,.inl ⟨rfl,rfl,st0,rfl,HB0.o⟩⟩,(by omega:l0.length<=l0.length+3*0),Td _ w 1⟩
 case round=>
  obtain⟨k,ts,cur,code,hk,rfl,rfl,HTX,HTL,HCU,HPY,HCL,HT⟩:=hrel;go_upto_region 5 with fail;go_cut [37] (λvb wx=>∃b:Bool,vb=.bool b/\wx=wr/\(b=true->k<ps.length/\k<3/\code=0))
  case first=>
   by_cases h1:k<ps.length
   ·have h1i:(k:Int)<(ps.length:Int):=by omega
    by_cases h2:k<3
    ·have h2i:(k:Int)<3:=(by omega);go_wp2;go_meet;exact⟨_,rfl,rfl,λh=>⟨h1,h2,by simpa using h⟩⟩
    ·have h2i:¬(k:Int)<3:=(by omega);go_wp2;go_meet;exact⟨false,rfl,rfl,λh=>by cases h⟩
   ·have h1i:¬(k:Int)<(ps.length:Int):=(by omega);go_wp2;go_meet;exact⟨false,rfl,rfl,λh=>by cases h⟩
  case rest=>
  obtain⟨b,rfl,rfl,hb⟩:=hcut;obtain⟨wA,hwA⟩:∃wA,wA=wc:=⟨wc,rfl⟩
  subst hwA
  cases b with
  | true=>
   obtain⟨hkp,hk3,rfl⟩:=hb rfl;clear hb
   rcases HP.o with⟨_,e2⟩|⟨g0,o0,cc,e,hg0,hcell⟩
   ·rw[e2]at hkp;simp at hkp
   simp only[Qy,true_and]at e;obtain⟨rfl,rfl⟩:=e;obtain⟨va,hnum,p0,p1,p2,p3,p4,p5⟩:=hcell k hkp;have HPK:Hid (PayL.Ok ps[k]):=HPO.o _ (Qx hkp);have cl:∀o,wA.cell? ⟨g0,o,none⟩=w.cell? ⟨g0,o,none⟩:=λo=>HT.o.cell (p:=⟨g0,o,none⟩) hg0 (λe=>e);have q0:=(cl _).trans p0;have q1:=(cl _).trans p1;have q2:=(cl _).trans p2;have q3:=(cl _).trans p3;have q4:=(cl _).trans p4;have q5:=(cl _).trans p5;have HNU:Hid (ZG wA va ps[k].amounts):=hnum.tch HT.o;have HSA:Hid (JI L wA xb lb F fl ch (.slice (some ⟨gs,0,none⟩) sl.length cap) sl states):=HS.o.next HT.o;have HFA:Hid (Xe E base wA):=HF.o.tch HT.o noE;have HCO:Hid (∀x∈cur,Jj wj x.1/\JA x.2):=by
    rcases HPY.o.res with⟨_,_,st,_,B⟩|⟨er,he,_⟩
    ·exact B.ok
    ·exact absurd he.symm (Ja9 er)
   have hxw:wA.cell? ⟨xb,1,none⟩=some (.int .i64 (wj:Int)):=Ja HSA.o.row;have HTXC:Hid (Calls _ _ _ wA _):=k_tx E wj hw1 hw xb u5 cur ps[k] va wA HFA.o.env hxw HCU.o.1 (by have:=HCL.o;have:=HL0.o;omega) HCO.o HPK.o HNU.o;have hki:(k:Int)<(ps.length:Int):=(by omega);obtain⟨na,nc,rfl⟩:=hnum.shape;clear hcell p0 p1 p2 p3 p4 p5 cl hnum HNU hxw;generalize ps[k]=p at *;obtain⟨pf,pm,pam,pow,pwi,pot⟩:=p;simp only at q0 q1 q2 q3 q4 q5 HTXC;obtain⟨ca,ccp,rfl⟩:=HCU.o.1.shape;obtain⟨lt,hto,hll,hin⟩:=HTX.o;obtain⟨ta,tc,rfl⟩:=hto.shape;have HTO:Hid (TOwn w.heap.size wA (.slice ta lt.length tc) lt):=hto;have HIN:Hid _:=hin;have HLL:Hid _:=hll;clear hto hin hll HTX;go_upto_region 8 with(go_at_call 43;refine HTXC.o.mono ?_;rintro _ w1⟨ht1,t,v1,v2,rfl,htk,hco,hou⟩;have HT1:Hid (Tch _ wA w1):=ht1;have HTK:Hid (TxOk wj t):=htk;have HCI:Hid (COwn wA.heap.size w1 _ _):=hco;have HOU:Hid (OOwn wA.heap.size w1 _ _):=hou;obtain⟨i1,n1,m1,hv1⟩:=hco.shape3;obtain⟨i2,n2,m2,hv2⟩:=hou.shape3;subst hv1;subst hv2;clear ht1 htk hco hou);have T2:Hid (Tch NoB wA (w1.alloc (.cells #[.slice i1 n1 m1,.slice i2 n2 m2] 98))):=HT1.o.trans (Ta NoB w1 _) noE;have T3:Hid (Tch NoB wA ((w1.alloc (.cells #[.slice i1 n1 m1,.slice i2 n2 m2] 98)).alloc (.cells #[.slice i1 n1 m1,.slice i2 n2 m2] 98))):=T2.out.trans (Ta NoB _ _) noE;have TW:Hid (Tch NoB w1 ((w1.alloc (.cells #[.slice i1 n1 m1,.slice i2 n2 m2] 98)).alloc (.cells #[.slice i1 n1 m1,.slice i2 n2 m2] 98))):=(Ta NoB w1 _).trans (Ta NoB _ _) noE;have HNT:Hid (Xn (w1.heap.size+1+1) ((w1.alloc (.cells #[.slice i1 n1 m1,.slice i2 n2 m2] 98)).alloc (.cells #[.slice i1 n1 m1,.slice i2 n2 m2] 98)) (.slice (some ⟨w1.heap.size+1,0,none⟩) 1 1) [((i1,n1,m1),(i2,n2,m2))]):=(by have:=JnJ (w1.alloc (.cells #[.slice i1 n1 m1,.slice i2 n2 m2] 98)) ((i1,n1,m1),(i2,n2,m2));have e:(w1.alloc (.cells #[.slice i1 n1 m1,.slice i2 n2 m2] 98)).heap.size=w1.heap.size+1:=(by simp);rw[e]at this;exact this);have HTT:Hid (TOwn w.heap.size ((w1.alloc (.cells #[.slice i1 n1 m1,.slice i2 n2 m2] 98)).alloc (.cells #[.slice i1 n1 m1,.slice i2 n2 m2] 98)) (.slice ta lt.length tc) lt):=HTO.o.tch T3.out (λ_ _ h=>h);have HPUSH:Hid (∀w3 v3,TOwn w.heap.size w3 v3 (lt++[((i1,n1,m1),(i2,n2,m2))])->World.grownBy ((w1.alloc (.cells #[.slice i1 n1 m1,.slice i2 n2 m2] 98)).alloc (.cells #[.slice i1 n1 m1,.slice i2 n2 m2] 98)) w3 (Value.slice ta lt.length tc).ownBlock->
     YX w.heap.size w3 v3 (ts++[t])/\COwn w.heap.size w3 (.slice i1 n1 m1) t.1/\OOwn w.heap.size w3 (.slice i2 n2 m2) t.2/\Tch (λk=>some k=(Value.slice ta lt.length tc).ownBlock) ((w1.alloc (.cells #[.slice i1 n1 m1,.slice i2 n2 m2] 98)).alloc (.cells #[.slice i1 n1 m1,.slice i2 n2 m2] 98)) w3/\w3.heap[w1.heap.size]? =some (.cells #[.slice i1 n1 m1,.slice i2 n2 m2] 98)):=by
    intro w3 v3 hn hg;have hsz:=HT.o.size;have hc1:COwn w.heap.size ((w1.alloc (.cells #[.slice i1 n1 m1,.slice i2 n2 m2] 98)).alloc (.cells #[.slice i1 n1 m1,.slice i2 n2 m2] 98)) (.slice i1 n1 m1) t.1:=(HCI.o.low hsz).tch TW.out (λ_ _ e=>e);have ho1:OOwn w.heap.size ((w1.alloc (.cells #[.slice i1 n1 m1,.slice i2 n2 m2] 98)).alloc (.cells #[.slice i1 n1 m1,.slice i2 n2 m2] 98)) (.slice i2 n2 m2) t.2:=(HOU.o.low hsz).tch TW.out (λ_ _ e=>e);have hold:∀(j:Nat) x t,lt[j]? =some x->ts[j]? =some t->COwn w.heap.size ((w1.alloc (.cells #[.slice i1 n1 m1,.slice i2 n2 m2] 98)).alloc (.cells #[.slice i1 n1 m1,.slice i2 n2 m2] 98)) (.slice x.1.1 x.1.2.1 x.1.2.2) t.1/\OOwn w.heap.size ((w1.alloc (.cells #[.slice i1 n1 m1,.slice i2 n2 m2] 98)).alloc (.cells #[.slice i1 n1 m1,.slice i2 n2 m2] 98)) (.slice x.2.1 x.2.2.1 x.2.2.2) t.2:=λj x t hx ht=>⟨(HIN.o j x t hx ht).1.tch T3.out (λ_ _ e=>e),(HIN.o j x t hx ht).2.tch T3.out (λ_ _ e=>e)⟩
    refine⟨YX.push (x:=((i1,n1,m1),(i2,n2,m2))) HTT.o HLL.o hold hc1 ho1 hn hg,hc1.tch (Tg hg) (JaY hc1 HTT.o),ho1.tch (Tg hg) (JbF ho1 HTT.o),Tg hg,?_⟩;refine(hg.block _ (by simp;omega) (λe=>?_)).trans (heap_alloc2_old _ _ _);have h1:=(HTO.o.own _ e.symm).2;have h2:=HT1.o.size;omega
   go_cut [6] (λv3 w3=>Hid (YX w.heap.size w3 v3 (ts++[t]))/\Hid (COwn w.heap.size w3 (.slice i1 n1 m1) t.1)/\Hid (OOwn w.heap.size w3 (.slice i2 n2 m2) t.2)/\Hid (Tch (λk=>some k=(Value.slice ta lt.length tc).ownBlock) ((w1.alloc (.cells #[.slice i1 n1 m1,.slice i2 n2 m2] 98)).alloc (.cells #[.slice i1 n1 m1,.slice i2 n2 m2] 98)) w3)/\Hid (w3.heap[w1.heap.size]? =some (.cells #[.slice i1 n1 m1,.slice i2 n2 m2] 98)))
   case first=>go_wp2_with (at_builtin;refine Jcl rfl _ _ rfl rfl HTT.o _ _ [((i1,n1,m1),(i2,n2,m2))] rfl HNT.o (by have:=HLL.o;have:=HTL.o;simp;omega) (by have:=HT.o.size;have:=HT1.o.size;simp;omega) ?_;intro v3 w3 hown3 hg3;obtain⟨hpu,hc3,ho3,ht3,hr3⟩:=HPUSH.o w3 v3 hown3 hg3;have HP3:Hid (YX _ w3 v3 _):=hpu;have HC3:Hid (COwn _ w3 _ _):=hc3;have HO3:Hid (OOwn _ w3 _ _):=ho3;have HT3:Hid (Tch _ _ w3):=ht3;have HR3:Hid (_=_):=hr3;clear hown3 hg3 hpu hc3 ho3 ht3 hr3);go_meet;exact⟨HP3,HC3,HO3,HT3,HR3⟩
   case rest=>
   obtain⟨HP3,HC3,HO3,HT3,HR3⟩:=hcut;obtain⟨wB,hwB⟩:∃wB,wB=wc:=⟨wc,rfl⟩
   subst hwB;have HCB:Hid (Yh wB (.slice ca cur.length ccp) cur):=(HCU.o.tch T3.out (λ_ _ e=>e)).tch HT3.o (JdX (HCU.o.tch T3.out (λ_ _ e=>e)) HTT.o);have HTB:Hid (Tch NoB w wB):=(HT.o.trans T3.out noE).trans HT3.o (λj hj=>.inr (HTT.o.own j hj.symm).1);have HSB:Hid (JI L wB xb lb F fl ch (.slice (some ⟨gs,0,none⟩) sl.length cap) sl states):=HS.o.next HTB.o;have HFB:Hid (Xe E base wB):=HF.o.tch HTB.o noE;have HAC:Hid (Calls _ _ _ wB _):=Jjj E wj hw1 hw xb (.slice ca cur.length ccp) cur wB.heap.size (.slice i1 n1 m1) (.slice i2 n2 m2) t wB HFB.o.env (Ja HSB.o.row) HCB.o.1 HTK.o HC3.o.at HO3.o.at (by have:=HCL.o;have:=HL0.o;omega) (λx hx=>(HCO.o x hx).2);have e0:wB.cell? ⟨w1.heap.size,0,none⟩=some (.slice i1 n1 m1):=Ja HR3.o;have e1:wB.cell? ⟨w1.heap.size,1,none⟩=some (.slice i2 n2 m2):=Ja HR3.o;have HNX:=Jcm.next hw HPY.o t HTK.o;have HN1:Hid _:=HNX;clear HNX HCU HTO HIN HNT HTT HPUSH T2 T3 TW HT3 HSA HFA HTXC q0 q1 q2 q3 q4 q5
   cases hap:Xu (dgW wj) cur t with
   | error er=>
    have HAE:Hid (Calls prog 44 #[.pointer (some ⟨xb,0,none⟩),.slice ca cur.length ccp,.agg #[.slice i1 n1 m1,.slice i2 n2 m2]] wB λe w'=>Tch NoB wB w'/\e=.returned (.tuple #[.slice ca cur.length ccp,.int .i64 (XN er)])):=HAC.o.mono (by rintro e w'⟨h1,h2⟩;rw[hap]at h2;exact⟨h1,h2⟩);have HPE:Hid (Jcm wj l0 st0 (ts++[t]) cur (XN er)):=HN1.o.2 er hap;clear HAC hap HN1;go_wp2_with (go_at_call 44;refine HAE.o.mono ?_;rintro _ w4⟨ht4,rfl⟩;have HT4:Hid (Tch _ wB w4):=ht4;clear ht4);go_roundw
    case rel=>exact⟨k+1,ts++[t],cur,XN er,by omega,by go_num,rfl,HP3.o.tch HT4.o,(by have:=HTL.o;simp;omega:(ts++[t]).length=k+1),HCB.o.tch HT4.o (λ_ _ e=>e),HPE.o,(by have:=HCL.o;omega:cur.length<=l0.length+3*(k+1)),HTB.o.trans HT4.o noE⟩
    case measure=>simp[intOf];omega
   | ok l'=>
    have HAE:Hid (Calls prog 44 #[.pointer (some ⟨xb,0,none⟩),.slice ca cur.length ccp,.agg #[.slice i1 n1 m1,.slice i2 n2 m2]] wB λe w'=>Tch NoB wB w'/\∃v',e=.returned (.tuple #[v',.int .i64 0])/\Yh w' v' l'/\∀j,v'.ownBlock=some j->wB.heap.size<=j):=HAC.o.mono (by rintro e w'⟨h1,h2⟩;rw[hap]at h2;exact⟨h1,h2⟩);have HPE:Hid (Jcm wj l0 st0 (ts++[t]) l' 0):=HN1.o.1 l' hap;have HLE:Hid (l'.length<=cur.length+3):=(by have:=JfN _ _ _ _ hap;have:=HTK.o.made;omega:l'.length<=cur.length+3)
    clear HAC hap HN1;go_wp2_with (go_at_call 44;refine HAE.o.mono ?_;rintro _ w4⟨ht4,v4,rfl,hh4,hn4⟩;have HN4:Hid (∀j,v4.ownBlock=some j->wB.heap.size<=j):=hn4;clear hn4;have HT4:Hid (Tch _ wB w4):=ht4;have HH4:Hid (Yh w4 v4 l'):=hh4;obtain⟨z1,z2,hv4⟩:=hh4.1.shape;obtain⟨z3,hz3⟩:∃z3,z3=l'.length:=⟨_,rfl⟩;rw[<-hz3]at hv4;subst hv4;clear ht4 hh4 hz3);go_roundw
    case rel=>exact⟨k+1,ts++[t],l',0,by omega,by go_num,rfl,HP3.o.tch HT4.o,(by have:=HTL.o;simp;omega:(ts++[t]).length=k+1),HH4.o,HPE.o,(by have:=HCL.o;have:=HLE.o;omega:l'.length<=l0.length+3*(k+1)),HTB.o.trans HT4.o noE⟩
    case measure=>simp[intOf];omega
  | false=>
   clear hb;have HSA:Hid (JI L wA xb lb F fl ch (.slice (some ⟨gs,0,none⟩) sl.length cap) sl states):=HS.o.next HT.o;have HFA:Hid (Xe E base wA):=HF.o.tch HT.o noE;have c0:wA.cell? ⟨xb,0,none⟩=some (.pointer (some ⟨lb,0,none⟩)):=Ja HSA.o.row;have HSE:Hid (Calls _ _ _ wA _):=L.seals u6 ts HSA.o.led HFA.o HTX.o.is HPY.o.ok (by have:=HTL.o;omega) (by have:=HC.o;omega);have HSQ:Hid (JgM (dgW wj) wj ch ts=match JX (dgW wj) st0 ts with | .error e=>.error e | .ok st=>.ok (Yz (dgW wj) ch ts st)):=by have:=JiA (dgW wj) wj (Jw wj hw) ch (by have:=HC.o;omega) ts HPY.o.ok (by have:=HTL.o;omega);rw[HLAST.o]at this;exact this
   obtain⟨ta,tn,tc,hu6⟩:∃a n c,u6=.slice a n c:=(by obtain⟨lt,h1,_⟩:=HTX.o;exact h1.shape3);obtain⟨ca,ccp,hu5⟩:=HCU.o.1.shape;subst hu6;subst hu5
   rcases HPY.o.res with⟨rfl,_,st,hap,B⟩|⟨er,rfl,_,hap⟩
   ·have hc32:ch.length<2 ^ 32:=(by have:=HC.o;omega);have ht3:ts.length<=3:=(by have:=HTL.o;omega);have HBT:Hid (YP (dgW wj) wj ch (Yz (dgW wj) ch ts st)=.ok (ch++[(⟨(hdrB (ZB (dgW wj) ch (Xo ts) (JU (dgW wj) st))).toArray⟩,st)])):=JfS (dgW wj) wj (Jw wj hw) ch hc32 ts HPY.o.ok ht3 st (by rw[HLAST.o];exact hap);have HSN:Hid (Calls prog 18 #[.pointer (some ⟨lb,0,none⟩),.slice ta tn tc] wA λe w'=>Tch NoB wA w'/\e=.returned (.tuple #[.string ⟨(Yz (dgW wj) ch ts st).toArray⟩,.int .i64 0])):=HSE.o.mono (by rintro e w'⟨h1,h2⟩;rw[HSQ.o,hap]at h2;exact⟨h1,h2⟩);have HBL:Hid (1<=(Yz (dgW wj) ch ts st).length/\(Yz (dgW wj) ch ts st).length<=1000000):=Jha wj hw ch ts HPY.o.ok ht3 st;have HBK:Hid (Book wj st cur):=B;clear HSE HSQ hap HPY hc32 ht3 B;generalize hBB:Yz (dgW wj) ch ts st=bb at *;generalize hHH:(⟨(hdrB (ZB (dgW wj) ch (Xo ts) (JU (dgW wj) st))).toArray⟩:BA)=hh at *;clear hBB hHH;obtain⟨S,hS⟩:∃S:BA,S=⟨bb.toArray⟩:=⟨_,rfl⟩
    have HSD:Hid (S.data.toList=bb/\S.size<=1000000):=⟨by rw[hS],by rw[hS];have:=HBL.o.2;show bb.toArray.size<=1000000;simpa using this⟩
    have hSe:S.toList.isEmpty=false:=by
     rw[ByteArray.toList_eq,HSD.o.1];have:=HBL.o.1
     cases bb with
     | nil=>simp at this
     | cons _ _=>rfl
    rw[<-hS]at HSN;clear hS;go_upto_region 15 with(go_at_call 18;refine HSN.o.mono ?_;rintro _ w2⟨ht2,rfl⟩;have HT2:Hid (Tch _ wA w2):=ht2;clear ht2);have HS2:Hid (JI L w2 xb lb F fl ch (.slice (some ⟨gs,0,none⟩) sl.length cap) sl states):=HSA.o.next HT2.o;have HF2:Hid (Xe E base w2):=HFA.o.tch HT2.o noE;have HC2:Hid (Yh w2 (.slice ca cur.length ccp) cur):=HCU.o.tch HT2.o (λ_ _ e=>e);have HTW2:Hid (Tch NoB w w2):=HT.o.trans HT2.o noE;have c2:w2.cell? ⟨xb,0,none⟩=some (.pointer (some ⟨lb,0,none⟩)):=Ja HS2.o.row;have HSU:Hid (Calls prog 19 #[.pointer (some ⟨lb,0,none⟩),.string S] w2 λe w'=>Tch F w2 w'/\∃F':Nat->Prop,(∀j,F' j->F j\/w2.heap.size<=j)/\e=.returned (.int .i64 0)/\L.At w' lb F' fl (ch++[(hh,st)])):=(L.submits S HS2.o.led HF2.o HSD.o.2 (by have:=HC.o;omega)).mono (by
     rintro e w'⟨h1,F',h2,h3⟩;rw[HSD.o.1,HBT.o]at h3;exact⟨h1,F',h2,h3⟩)
    clear HSN HT2 HSA HFA c0 hSe;go_upto_region 16 with(go_at_call 19;refine HSU.o.mono ?_;rintro _ w3⟨ht3,F',hF',rfl,hat3⟩;have HT3:Hid (Tch F w2 w3):=ht3;have HFF:Hid (∀j,F' j->F j\/w2.heap.size<=j):=hF';have HAT:Hid (L.At w3 lb F' fl _):=hat3;clear ht3 hF' hat3);have HKX:Hid (∀j cur T m,w2.heap[j]? =some (.cells cur T m)->(T=35\/T=43\/T=87)->¬F j):=λj cur T m hr hT hj=>by
     obtain⟨k1,k2,k3⟩:=L.kinds HS2.o.led j hj cur T m hr
     rcases hT with h|h|h
     ·exact k1 h
     ·exact k2 h
     ·exact k3 h
    have HST:Hid (∀j,(Value.slice (some ⟨gs,0,none⟩) sl.length cap).ownBlock=some j->∃cur m,w2.heap[j]? =some (.cells cur 43 m)):=λj hj=>SOwn.kind HS2.o.st j hj;have R3:Hid (w3.heap[xb]? =some (.cells #[.pointer (some ⟨lb,0,none⟩),.int .i64 (wj:Int),.slice (some ⟨gs,0,none⟩) sl.length cap,.int .i64 (fl:Int)] 35)):=(HT3.o.block _ (Jb HS2.o.row) (HKX.o xb _ _ _ HS2.o.row (.inl rfl))).trans HS2.o.row;have S3:Hid (SOwn base w3 (.slice (some ⟨gs,0,none⟩) sl.length cap) sl):=HS2.o.st.tch HT3.o (λj hj=>by obtain⟨c,m,hr⟩:=HST.o j hj;exact HKX.o j c _ m hr (.inr (.inl rfl)));have B3:Hid (∀(v:Value) l,Yh w2 v l->Yh w3 v l):=λv l hv=>hv.tch HT3.o (λj hj=>by obtain⟨c,m,hr⟩:=hv.2 j hj;exact HKX.o j c _ m hr (.inr (.inr rfl)));have t3:w3.cell? ⟨xb,2,none⟩=some (.slice (some ⟨gs,0,none⟩) sl.length cap):=Ja R3.o;have HEND:Hid (∀w4 v4,SOwn base w4 v4 (sl++[(ca,cur.length,ccp)])->World.grownBy (w3.alloc (.cells #[.slice ca cur.length ccp] 43)) w4 (Value.slice (some ⟨gs,0,none⟩) sl.length cap).ownBlock->
      w4.heap[xb]? =some (.cells #[.pointer (some ⟨lb,0,none⟩),.int .i64 (wj:Int),.slice (some ⟨gs,0,none⟩) sl.length cap,.int .i64 (fl:Int)] 35)/\JI L (w4.setCell ⟨xb,2,none⟩ v4) xb lb F' fl (ch++[(hh,st)]) v4 (sl++[(ca,cur.length,ccp)]) (states++[cur])/\Tch (λj=>F j\/j=xb\/some j=(Value.slice (some ⟨gs,0,none⟩) sl.length cap).ownBlock) w (w4.setCell ⟨xb,2,none⟩ v4)):=by
     intro w4 v4 ho hg;exact JjP HS2.o HC2.o HBK.o HTW2.o HT3.o HAT.o R3.o S3.out B3.out ho hg
    have HSL:Hid (SOwn base (w3.alloc (.cells #[.slice ca cur.length ccp] 43)) (.slice (some ⟨gs,0,none⟩) sl.length cap) sl):=S3.out.tch (Ta NoB w3 _) (λ_ _ e=>e);have HCN:Hid ((w3.alloc (.cells #[.slice ca cur.length ccp] 43)).cell? ⟨w3.heap.size,0,none⟩=some (.slice ca cur.length ccp)):=Ja (Qf _ _);have HBW:Hid (base<=w3.heap.size/\sl.length<=10000000000):=⟨by have:=HS2.o.low;have:=(Jb R3.o);omega,by have:=HS.o.len;have:=HC.o;omega⟩
    go_cut [] (λwx=>∃g4 cap4,Hid (JI L wx xb lb F' fl (ch++[(hh,st)]) (.slice (some ⟨g4,0,none⟩) (m+2) cap4) (sl++[(ca,cur.length,ccp)]) (states++[cur]))/\Hid (Tch (λj=>F j\/j=xb\/some j=(Value.slice (some ⟨gs,0,none⟩) sl.length cap).ownBlock) w wx))
    case first=>go_wp2_with (at_builtin;(refine Jck rfl _ _ rfl rfl HSL.o w3.heap.size (ca,cur.length,ccp) rfl HCN.o HBW.o.2 (Qm HBW.o.1 (Ta NoB w3 _).size) ?_);intro v4 w4 hown4 hg4;obtain⟨g4,cap4,hv4,_⟩:=hown4.at (by simp);have hl4:(sl++[(ca,cur.length,ccp)]).length=m+2:=(by simp[HM.o]);rw[hl4]at hv4;subst hv4;obtain⟨hr4,hs4,ht4⟩:=HEND.o w4 _ hown4 hg4;have x2:w4.cell? ⟨xb,2,none⟩=some (.slice (some ⟨gs,0,none⟩) sl.length cap):=Ja hr4;have x3:w4.frozen? ⟨xb,2,none⟩=false:=Qg _ _ _ _ _ hr4;have HS4:Hid (JI L _ _ _ _ _ _ _ _ _):=hs4;have HT4:Hid (Tch _ w _):=ht4;clear hown4 hg4 hr4 hs4 ht4 hl4);go_meet;exact⟨g4,cap4,HS4,HT4⟩
    case rest=>
    obtain⟨g4,cap4,HS4,HT4⟩:=hcut;obtain⟨wD,hwD⟩:∃wD,wD=wc:=⟨wc,rfl⟩
    subst hwD;have HFD:Hid (Xe E base wD):=HF.o.tch HT4.o (λj hj=>by
     rcases hj with h|h|h
     ·exact(L.own HS.o.led j h).1
     ·rw[h];exact HS.o.low
     ·exact(HS.o.st.own j h.symm).1)
    have c4:wD.cell? ⟨xb,0,none⟩=some (.pointer (some ⟨lb,0,none⟩)):=Ja HS4.o.row;have HLC:Hid (((ch++[(hh,st)]).length:Int)-1=(m:Int)+1):=(by have:=HS.o.len;have:=HM.o;simp;omega:((ch++[(hh,st)]).length:Int)-1=(m:Int)+1)
    have HTIP:Hid (Calls prog 15 #[.pointer (some ⟨lb,0,none⟩)] wD λe w'=>e=.returned (.int .i64 ((m:Int)+1))/\Tch NoB wD w'):=(L.tip HS4.o.led HFD.o).mono (by rintro e w'⟨h1,h2⟩;rw[HLC.o]at h1;exact⟨h1,h2⟩);have hm32:m<4294967296:=(by have:=HS.o.len;have:=HC.o;have:=HM.o;omega);have hw1':wrap64 ((m:Int)+1)=(m:Int)+1:=(by unfold wrap64;omega);have hw2':IntKind.i64.wrap ((m:Int)+1)=(m:Int)+1:=(by simp[IntKind.wrap,IntKind.bits,IntKind.signed];omega);have hm2:((m+2:Nat):Int)-1=(m:Int)+1:=(by omega);clear HSU HEND HSL HCN HBW t3 c2;go_wp2_with (go_at_call 15;refine HTIP.o.mono ?_;rintro _ w6⟨rfl,ht6⟩;have HT6:Hid (Tch _ wD w6):=ht6;have y2:w6.cell? ⟨xb,2,none⟩=some (.slice (some ⟨g4,0,none⟩) (m+2) cap4):=Ja (HS4.o.next ht6).row;clear ht6);go_ret;have hbeq:((m:Int)+1 == (m:Int)+2-1)=true:=(by rw[beq_iff_eq];omega);refine⟨?_,F',ch++[(hh,st)],_,_,states++[cur],HS4.o.next HT6.o,HT4.o.trans HT6.o noE,λj hj=>?_,⟨_,rfl⟩,by simp,λl hl=>?_⟩
    ·exact congrArg (λb=>Ending.returned (Value.bool b)) hbeq
    ·rcases HFF.o j hj with h|h
     ·exact .inl h
     ·exact .inr (Qm HTW2.o.size h)
    ·rw[QE,Qt]at hl
     rcases hl with hl|rfl
     ·exact⟨l,hl,by omega⟩
     ·exact⟨l0,QS HL0E.o,by have:=HCL.o;omega⟩
   ·have HSN:Hid (Calls prog 18 #[.pointer (some ⟨lb,0,none⟩),.slice ta tn tc] wA λe w'=>Tch NoB wA w'/\e=.returned (.tuple #[.string ⟨#[]⟩,.int .i64 (XN er)])):=HSE.o.mono (by rintro e w'⟨h1,h2⟩;rw[HSQ.o,hap]at h2;exact⟨h1,h2⟩);have hne:=Ja9 er;generalize XN er=code at *;have hnb:(code != 0)=true:=(by simp[hne]);have hnb2:(code == 0)=false:=(by simp[hne]);have hnb3:(code != code)=false:=(by simp);clear HSE HSQ hap HPY;go_wp2_with (go_at_call 18;refine HSN.o.mono ?_;rintro _ w2⟨ht2,rfl⟩;have HT2:Hid (Tch _ wA w2):=ht2;clear ht2);go_ret;exact⟨rfl,F,ch,_,sl,states,HSA.o.next HT2.o,(HT.o.trans HT2.o noE).mono noE,λj hj=>.inl hj,⟨[],(QC _).symm⟩,by omega,λl hl=>⟨l,hl,by omega⟩⟩

def Zd(base:Nat)(w:World)(v:Value)(l:List Nat):Prop:=
 ((∃a c,v=.slice a 0 c)/\l=[])\/∃g o c,v=.slice (some ⟨g,o,none⟩) l.length c/\g<base/\∀i (h:i<l.length),w.cell? ⟨g,o+i,none⟩=some (.int .u64 ((l[i]:Nat):Int))
theorem Zd.at(h:Zd base w v l)(hb:base<=w.heap.size):ZG w v l:=by
 rcases h with h|⟨g,o,c,h1,h2,h3⟩
 ·exact .inl h
 ·exact .inr ⟨g,o,c,h1,Qk h2 hb,h3⟩
theorem Zd.tch(h:Zd base w v l)(hb:base<=w.heap.size)(k:Tch S w w')(hs:∀j,S j->base<=j):Zd base w' v l:=by
 rcases h with h|⟨g,o,c,h1,h2,h3⟩
 ·exact .inl h
 ·refine .inr ⟨g,o,c,h1,h2,λi hi=>?_⟩;rw[k.cell (p:=⟨g,o+i,none⟩) (Qk h2 hb) (λe=>by have:=hs _ e;simp only at this;omega)];exact h3 i hi
def YM(base:Nat)(w:World)(v:Value)(ps:List PayL):Prop:=
 ((∃a c,v=.slice a 0 c)/\ps=[])\/∃g o c,v=.slice (some ⟨g,o,none⟩) ps.length c/\g<base/\∀i (h:i<ps.length),∃va,Zd base w va ps[i].amounts/\
  w.cell? ⟨g,o+i*6,none⟩=some (.int .i64 ps[i].from_)/\w.cell? ⟨g,o+i*6+1,none⟩=some (.int .i64 ps[i].many)/\w.cell? ⟨g,o+i*6+2,none⟩=some va/\w.cell? ⟨g,o+i*6+3,none⟩=some (.int .u8 ((ps[i].owner:Nat):Int))/\w.cell? ⟨g,o+i*6+4,none⟩=some (.bool ps[i].wild)/\w.cell? ⟨g,o+i*6+5,none⟩=some (.bool ps[i].other)
theorem YM.at{l:List PayL}(h:YM base w v l)(hb:base<=w.heap.size):JeP w v l:=by
 rcases h with h|⟨g,o,c,h1,h2,h3⟩
 ·exact .inl h
 ·refine .inr ⟨g,o,c,h1,Qk h2 hb,λi hi=>?_⟩;obtain⟨va,hn,hr⟩:=h3 i hi;exact⟨va,hn.at hb,hr⟩
theorem YM.tch{l:List PayL}(h:YM base w v l)(hb:base<=w.heap.size)(k:Tch S w w')(hs:∀j,S j->base<=j):YM base w' v l:=by
 rcases h with h|⟨g,o,c,h1,h2,h3⟩
 ·exact .inl h
 ·refine .inr ⟨g,o,c,h1,h2,λi hi=>?_⟩;obtain⟨va,hn,hr⟩:=h3 i hi;have hc:∀o,w'.cell? ⟨g,o,none⟩=w.cell? ⟨g,o,none⟩:=λo=>k.cell (p:=⟨g,o,none⟩) (Qk h2 hb) (λe=>by have:=hs _ e;simp only at this;omega);refine⟨va,hn.tch hb k hs,?_⟩;rw[hc,hc,hc,hc,hc,hc];exact hr
structure Jcn where
 kind:Int
 a:Int
 b:Int
 pays:List PayL
def YR(base:Nat)(w:World)(v:Value)(l:List Jcn):Prop:=
 (v=.slice none 0 0/\l=[])\/∃g o c,v=.slice (some ⟨g,o,none⟩) l.length c/\g<base/\∀i (h:i<l.length),∃va,YM base w va l[i].pays/\
  w.cell? ⟨g,o+i*4,none⟩=some (.int .i64 l[i].kind)/\w.cell? ⟨g,o+i*4+1,none⟩=some (.int .i64 l[i].a)/\w.cell? ⟨g,o+i*4+2,none⟩=some (.int .i64 l[i].b)/\w.cell? ⟨g,o+i*4+3,none⟩=some va
theorem YR.tch{l:List Jcn}(h:YR base w v l)(hb:base<=w.heap.size)(k:Tch S w w')(hs:∀j,S j->base<=j):YR base w' v l:=by
 rcases h with h|⟨g,o,c,h1,h2,h3⟩
 ·exact .inl h
 ·refine .inr ⟨g,o,c,h1,h2,λi hi=>?_⟩;obtain⟨va,hn,hr⟩:=h3 i hi;have hc:∀o,w'.cell? ⟨g,o,none⟩=w.cell? ⟨g,o,none⟩:=λo=>k.cell (p:=⟨g,o,none⟩) (Qk h2 hb) (λe=>by have:=hs _ e;simp only at this;omega);refine⟨va,hn.tch hb k hs,?_⟩;rw[hc,hc,hc,hc];exact hr
theorem YR.shape{l:List Jcn}(h:YR base w v l):∃a c,v=.slice a l.length c:=by
 rcases h with⟨rfl,rfl⟩|⟨gi,oi,c,rfl,_⟩
 ·exact⟨none,0,rfl⟩
 ·exact⟨_,_,rfl⟩

theorem JI.apart{L:Led E wj base}(h:JI L w xb lb F fl ch vst sl states):
  ∀j cur T m,w.heap[j]? =some (.cells cur T m)->T=35\/T=43\/T=87->¬F j:=λj cur T m hr hT hF=>by
 obtain⟨h1,h2,h3⟩:=L.kinds h.led j hF cur T m hr
 rcases hT with hT|hT|hT
 ·exact h1 hT
 ·exact h2 hT
 ·exact h3 hT
theorem Xe.led{L:Led E wj base}(h:Xe E base w)(hS:JI L w xb lb F fl ch vst sl states)(k:Tch F w w'):Xe E base w':=h.tch k (λj hj=>(L.own hS.led j hj).1)
