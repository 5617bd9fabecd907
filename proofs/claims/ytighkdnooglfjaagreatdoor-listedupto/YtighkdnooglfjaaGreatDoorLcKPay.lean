import Derived.Test.YtighkdnooglfjaaGreatDoorLcTotal
namespace Go.Proofs.YtighkdnooglfjaaGreatDoor
open Tryz
set_option maxRecDepth 100000
set_option maxHeartbeats 40000000
open Go.RowKit

variable {pay:Array Value}{cs cs1:List (BA×Int)}{l:List Nat}{b b' c n:Nat}{v v1 vI vO:Value}{W W' w w' w1 wr:World}
def ZG(w:World)(v:Value)(l:List Nat):Prop:=
 ((∃a c,v=.slice a 0 c)/\l=[])\/∃g o c,v=.slice (some ⟨g,o,none⟩) l.length c/\g<w.heap.size/\∀i (h:i<l.length),w.cell? ⟨g,o+i,none⟩=some (.int .u64 ((l[i]:Nat):Int))
theorem ZG.tch(h:ZG w v l)(k:Tch NoB w w'):ZG w' v l:=by
 rcases h with h|⟨gi,oi,c,hv,h2,h3⟩
 ·exact .inl h
 ·refine .inr ⟨gi,oi,c,hv,Qk h2 k.size,λi hi=>?_⟩;rw[k.cell (p:=⟨gi,oi+i,none⟩) h2 (λe=>e)];exact h3 i hi
theorem ZG.shape(h:ZG w v l):∃a c,v=.slice a l.length c:=by
 rcases h with⟨⟨a,c,rfl⟩,rfl⟩|⟨gi,oi,c,rfl,_⟩
 ·exact⟨a,c,rfl⟩
 ·exact⟨_,_,rfl⟩
structure PayL where
 from_:Int
 many:Int
 amounts:List Nat
 owner:Nat
 wild:Bool
 other:Bool
structure PayL.Ok(p:PayL):Prop where
 f1: -9223372036854775808<=p.from_
 f2:p.from_<9223372036854775808
 m1: -9223372036854775808<=p.many
 m2:p.many<9223372036854775808
 amounts:∀x∈p.amounts,x<18446744073709551616
 owner:p.owner<256
 len:p.amounts.length<1000000000
def ToTx(wj:Nat)(w:World)(e:Ending)(w':World):Prop:=
 Tch NoB w w'/\∃t v1 v2,e=.returned (.agg #[v1,v2])/\TxOk wj t/\COwn w.heap.size w' v1 t.1/\OOwn w.heap.size w' v2 t.2
structure Fr(w:World)(pay:Array Value)(vI vO:Value)(wr:World):Prop where
 pay:wr.heap[w.heap.size]? =some (.cells pay 102)
 res:wr.heap[w.heap.size+1]? =some (.cells #[.slice none 0 0,.slice none 0 0] 98)
 tx:wr.heap[w.heap.size+1+1]? =some (.cells #[vI,vO] 98)
 tch:Tch NoB w wr
theorem Fr.start(w:World)(pay:Array Value):Fr w pay (.slice none 0 0) (.slice none 0 0) (((w.alloc (.cells pay 102)).alloc (.cells #[.slice none 0 0,.slice none 0 0] 98)).alloc (.cells #[.slice none 0 0,.slice none 0 0] 98)):=by
 have t3:=Ta NoB ((w.alloc (.cells pay 102)).alloc (.cells #[.slice none 0 0,.slice none 0 0] 98)) (.cells #[.slice none 0 0,.slice none 0 0] 98);refine⟨(t3.block _ (by simp;omega) (λh=>h)).trans (heap_alloc2_old _ _ _),(t3.block _ (by simp) (λh=>h)).trans (heap_alloc2_new _ _ _),?_,((Ta NoB w _).trans (Ta NoB _ _) (λ_ h=>.inl h)).trans t3 (λ_ h=>.inl h)⟩;have:=Qf ((w.alloc (.cells pay 102)).alloc (.cells #[.slice none 0 0,.slice none 0 0] 98)) (.cells #[.slice none 0 0,.slice none 0 0] 98);simpa using this
theorem Fr.size(h:Fr w pay vI vO wr):w.heap.size+3<=wr.heap.size:=by
 have:=(Jb h.tx);omega
theorem Fr.next(h:Fr w pay vI vO wr){S:Nat->Prop}(k:Tch S wr w')(hs:∀j,S j->w.heap.size+3<=j):Fr w pay vI vO w':=by
 have hz:=h.size;exact⟨(k.block _ (by omega) (λe=>by have:=hs _ e;omega)).trans h.pay,(k.block _ (by omega) (λe=>by have:=hs _ e;omega)).trans h.res,(k.block _ (by omega) (λe=>by have:=hs _ e;omega)).trans h.tx,h.tch.trans k (λj hj=>.inr (by have:=hs j hj;omega))⟩
theorem Fr.set(h:Fr w pay vI vO wr)(vI' vO':Value):Fr w pay vI' vO' (wr.setRow (w.heap.size+1+1) #[vI',vO']):=
 ⟨(setRow_other _ _ _ _ (by omega)).trans h.pay,(setRow_other _ _ _ _ (by omega)).trans h.res,Qi _ _ _ _ _ _ h.tx,h.tch.trans (Ts wr (w.heap.size+1+1) _) (λj hj=>by subst hj;exact .inr (by omega))⟩
theorem Fr.all{f m a o b1 b2:Value}{xb:Nat}{x:Value}(hx:w.cell? ⟨xb,1,none⟩=some x)(h:Fr w #[f,m,a,o,b1,b2] vI vO W):W.cell? ⟨xb,1,none⟩=some x/\W.cell? ⟨w.heap.size,0,none⟩=some f/\W.cell? ⟨w.heap.size+1+1,0,none⟩=some vI/\Fr w #[f,m,a,o,b1,b2] vI vO W:=
 ⟨(h.tch.cell (p:=⟨xb,1,none⟩) (Qr _ _ hx) (λe=>e)).trans hx,Ja h.pay,Ja h.tx,h⟩
structure TS(w:World)(pay:Array Value)(vI:Value)(cs:List (BA×Int))(W:World):Prop where
 fr:Fr w pay vI (.slice none 0 0) W
 own:COwn (w.heap.size+3) W vI cs
theorem TS.next(h:TS w pay vI cs W)(k:Tch NoB W W'):TS w pay vI cs W':=⟨h.fr.next k noE,h.own.tch k (λ_ _ h=>h)⟩
theorem TS.grownS(h:World.grownBy W W' (Value.slice none n c).ownBlock):Tch NoB W W':=(Tg h).mono (λj hj=>by cases hj)
theorem TS.stored(h:TS w pay vI cs w1)(ho:COwn (w.heap.size+3) w1 v1 cs1):TS w pay v1 cs1 (w1.setCell ⟨w.heap.size+1+1,0,none⟩ v1):=by
 rw[Qj w1 (w.heap.size+1+1) 0 _ _ _ v1 h.fr.tx];exact⟨h.fr.set v1 (.slice none 0 0),ho.tch (Ts w1 _ _) (λj hj e=>by have:=(ho.own j hj).1;omega)⟩
theorem TS.grownF{a:Option Addr}{m:Nat}{o:Obj}(h:TS w pay (.slice a n c) cs W)(hg:World.grownBy (W.alloc o) w1 (Value.slice a m c).ownBlock):Fr w pay (.slice a n c) (.slice none 0 0) w1:=
 (h.fr.next (Ta NoB W o) noE).next (Tg hg) (λj hj=>(h.own.own j (by rw[<-hj.symm];cases a<;>rfl)).1)
theorem TSE.storedF(h:Fr w pay vI (.slice none 0 0) w1)(ho:COwn (w.heap.size+3) w1 v1 cs1):TS w pay v1 cs1 (w1.setCell ⟨w.heap.size+1+1,0,none⟩ v1):=by
 rw[Qj w1 (w.heap.size+1+1) 0 _ _ _ v1 h.tx];exact⟨h.set v1 (.slice none 0 0),ho.tch (Ts w1 _ _) (λj hj e=>by have:=(ho.own j hj).1;omega)⟩
theorem Jlz(w:World)(g:Nat)(t:TypeId)(a b v0 v1:Value)(h:w.heap[g]? =some (.cells #[a,b] t)):(w.setCell ⟨g,0,none⟩ v0).setCell ⟨g,1,none⟩ v1=w.setRow g #[v0,v1]:=by
 rw[Qj w g 0 _ t (0,0) v0 h,Qj _ g 1 _ t (0,0) v1 (Qi _ _ _ _ _ _ h),QI];rfl
theorem COwn.low{l:List (BA×Int)}(h:COwn b w v l)(hb:b'<=b):COwn b' w v l:=by
 obtain⟨h1,⟨rfl,h0⟩|⟨g,cap,cur,rfl,hg,h2⟩⟩:=h
 ·exact⟨h1,.inl ⟨rfl,h0⟩⟩
 ·exact⟨h1,.inr ⟨g,cap,cur,rfl,Qm hb hg,h2⟩⟩
theorem OOwn.low{l:List (Nat×Nat)}(h:OOwn b w v l)(hb:b'<=b):OOwn b' w v l:=by
 obtain⟨h1,⟨rfl,h0⟩|⟨g,cap,cur,rfl,hg,h2⟩⟩:=h
 ·exact⟨h1,.inl ⟨rfl,h0⟩⟩
 ·exact⟨h1,.inr ⟨g,cap,cur,rfl,Qm hb hg,h2⟩⟩
theorem Jc2{v2:Value}{os:List (Nat×Nat)}(h:COwn b w v cs)(h2:OOwn b' w v2 os):∀j,v.ownBlock=some j->¬v2.ownBlock=some j:=by
 intro j hj hj2;obtain⟨_,⟨rfl,_⟩|⟨g,cap,cur,rfl,_,hrow,_⟩⟩:=h
 ·cases hj
 obtain⟨_,⟨rfl,_⟩|⟨g',cap',cur',rfl,_,hrow',_⟩⟩:=h2
 ·cases hj2
 cases hj
 cases hj2
 rw[hrow]at hrow';simp at hrow'
theorem k_tx(E:Nat->Addr)(wj:Nat)(hw1:1<=wj)(hw:wj<=32)(xb:Nat)(v:Value)(l:List Held)(p:PayL)(va:Value)(w:World)(hE:Env E w)(hx:w.cell? ⟨xb,1,none⟩=some (.int .i64 (wj:Int)))(h:JR w v l)(hl:l.length<=900000000)(hlo:∀x∈l,Jk wj x.1/\Jy x.2)(hp:p.Ok)(ha:ZG w va p.amounts):
  Calls prog 43 #[.pointer (some ⟨xb,0,none⟩),v,.agg #[.int .i64 p.from_,.int .i64 p.many,va,.int .u8 (p.owner:Int),.bool p.wild,.bool p.other]] w (ToTx wj w):=by
 obtain⟨a0,c0,rfl⟩:=h.shape;obtain⟨a1,c1,rfl⟩:=ha.shape;obtain⟨fr,mn,am,ow,wi,ot⟩:=p;simp only at ha;have H:Hid (JR _ _ _):=h;have HA:Hid (ZG _ _ _):=ha;have HE:Hid (Env E w):=hE;have HLO:Hid (∀x∈l,Jk wj x.1/\Jy x.2):=hlo;have HX:Hid (w.cell? ⟨xb,1,none⟩=some (.int .i64 (wj:Int))):=hx;have HP:Hid (PayL.Ok _):=hp;clear h ha hE hlo hx hp;have hPM:Hid (∀W,Calls prog 22 #[.int .i64 mn,.int .i64 ((3:Nat):Int)] W _):=λW=>Jbd mn 3 W HP.o.m1 HP.o.m2 (by omega) (by omega);have hPF:Hid (∀W,Calls prog 22 #[.int .i64 fr,.int .i64 1073741824] W λe w'=>(∃r:Nat,Hid (r<1073741824)/\e=.returned (.int .i64 (r:Int)))/\w'=W):=λW=>by
  have:=Jbd fr 1073741824 W HP.o.f1 HP.o.f2 (by omega) (by omega);have e:((1073741824:Nat):Int)=1073741824:=by decide
  rw[e]at this;exact this
 have hPG:Hid (∀W,Calls prog 22 #[.int .i64 fr,.int .i64 ((3:Nat):Int)] W _):=λW=>Jbd fr 3 W HP.o.f1 HP.o.f2 (by omega) (by omega);go_enter func43,ntmps43;go_wp2;go_loopw [8,9] (λvl i wr=>∃(k s:Nat)(cs:List (BA×Int))(vI:Value),k<=3/\i=.int .i64 k/\vl=.int .u64 (s:Int)/\Hid (s<18446744073709551616)/\Hid (COwn (w.heap.size+3) wr vI cs)/\Hid (cs.length=k)/\Hid (∀c∈cs,Jk wj c)/\Hid (Fr w #[.int .i64 fr,.int .i64 mn,.slice a1 am.length c1,.int .u8 (ow:Int),.bool wi,.bool ot] vI (.slice none 0 0) wr)) (λ_ i _=>3-(intOf i).toNat)
 case atStart=>exact⟨0,0,[],.slice none 0 0,by omega,rfl,rfl,(by decide:(0:Nat)<18446744073709551616),COwn.nil _ _,rfl,(λc hc=>(QD hc).elim:∀c∈([]:List (BA×Int)),Jk wj c),Fr.start w _⟩
 case round=>
  obtain⟨k,sm,cs,vI,hk,rfl,rfl,HSM,HCO,HCL,HCC,HF⟩:=hrel;obtain⟨va,vc,rfl⟩:=HCO.o.shape;have d1:wr.cell? ⟨w.heap.size,1,none⟩=some (.int .i64 mn):=Ja HF.o.pay;have d0:wr.cell? ⟨w.heap.size,0,none⟩=some (.int .i64 fr):=Ja HF.o.pay;go_upto_region 4 with fail;go_cut [24] (λvb wx=>∃b:Bool,vb=.bool b/\wx=wr/\(b=true->k<3/\k<l.length))
  case first=>
   go_wp2_with (go_at_call 22;refine(hPM.out _).mono ?_;rintro _ _⟨⟨r,hr,rfl⟩,rfl⟩)
   all_goals go_meet
   all_goals first|exact⟨false,rfl,rfl,λh=>by cases h⟩|exact⟨_,rfl,rfl,λh=>⟨by omega,by simpa using h⟩⟩
  case rest=>
  obtain⟨b,rfl,rfl,hb⟩:=hcut;obtain⟨wA,hwA⟩:∃wA,wA=wc:=⟨wc,rfl⟩
  subst hwA
  cases b with
  | true=>
   obtain⟨hk3,hkl⟩:=hb rfl;clear hb;have hPL:Hid (∀(r:Nat),Hid (r<1073741824)->∀W,Calls prog 22 #[.int .i64 ((r:Int)+(k:Int)),.int .i64 (l.length:Int)] W _):=λr hr W=>Jbd ((r:Int)+(k:Int)) l.length W (by omega) (by have:=hr.out;omega) (by omega) (by omega);have hWR:Hid (∀(r:Nat),Hid (r<1073741824)->wrap64 ((r:Int)+(k:Int))=(r:Int)+(k:Int)):=λr hr=>by have:=hr.out;unfold wrap64;omega
   rcases H.out with⟨_,e2⟩|⟨g0,o0,cc,e,hg0,hcell⟩
   ·rw[e2]at hkl;simp at hkl
   simp only[Qy,true_and]at e;obtain⟨rfl,rfl⟩:=e;have HHC:Hid (∀r (hr:r<l.length),wA.cell? ⟨g0,o0+r*4,none⟩=some (.string l[r].1.1)/\wA.cell? ⟨g0,o0+r*4+1,none⟩=some (.int .i64 l[r].1.2)/\wA.cell? ⟨g0,o0+r*4+2,none⟩=some (.int .u64 ((l[r].2.1:Nat):Int))/\wA.cell? ⟨g0,o0+r*4+3,none⟩=some (.int .u8 ((l[r].2.2:Nat):Int))):=by intro r hr;have hc:∀o,wA.cell? ⟨g0,o,none⟩=w.cell? ⟨g0,o,none⟩:=λo=>HF.o.tch.cell (p:=⟨g0,o,none⟩) hg0 (λe=>e);rw[hc,hc,hc,hc];exact hcell r hr
   clear hcell hg0;go_wp2_with fail;refine(hPF.out _).mono ?_;rintro _ w'⟨⟨r1,hr1,rfl⟩,hw'⟩;obtain rfl:wA=w':=hw'.symm;have hw64:=hWR.out r1 hr1;go_wp2_with fail;refine(hPL.out r1 hr1 _).mono ?_;rintro _ w'⟨⟨r2,hr2,rfl⟩,hw'⟩;obtain rfl:wA=w':=hw'.symm;obtain⟨q0,q1,q2,q3⟩:=HHC.o r2 hr2;have hr2i:(r2:Int)<(l.length:Int):=(by omega);have HC2:Hid (Jk wj l[r2].1/\Jy l[r2].2):=HLO.o _ (Qx hr2);clear HHC hPL hWR hw64 d0 d1;generalize l[r2]=x at *;obtain⟨⟨xs,xn⟩,⟨xa,xo⟩⟩:=x;simp only at q0 q1 q2 q3;go_upto_region 7 with fail;have HFH:Hid (Fr w #[.int .i64 fr,.int .i64 mn,.slice a1 am.length c1,.int .u8 (ow:Int),.bool wi,.bool ot] (.slice va cs.length vc) (.slice none 0 0) (wA.alloc (.cells #[.string xs,.int .i64 xn,.int .u64 (xa:Int),.int .u8 (xo:Int)] 87))):=HF.o.next (Ta NoB wA _) noE;have HCH:Hid (COwn (w.heap.size+3) (wA.alloc (.cells #[.string xs,.int .i64 xn,.int .u64 (xa:Int),.int .u8 (xo:Int)] 87)) (.slice va cs.length vc) cs):=HCO.o.tch (Ta NoB wA _) (λ_ _ h=>h);have t0:(wA.alloc (.cells #[.string xs,.int .i64 xn,.int .u64 (xa:Int),.int .u8 (xo:Int)] 87)).cell? ⟨w.heap.size+1+1,0,none⟩=some (.slice va cs.length vc):=Ja HFH.o.tx;have RH:Hid ((wA.alloc (.cells #[.string xs,.int .i64 xn,.int .u64 (xa:Int),.int .u8 (xo:Int)] 87)).heap[wA.heap.size]? =some (.cells #[.string xs,.int .i64 xn,.int .u64 (xa:Int),.int .u8 (xo:Int)] 87)):=Qf _ _;have HSZ:Hid (w.heap.size+3<=wA.heap.size):=HF.o.size;have HNC:Hid (JD (wA.heap.size+1+1) ((wA.alloc (.cells #[.string xs,.int .i64 xn,.int .u64 (xa:Int),.int .u8 (xo:Int)] 87)).alloc (.cells #[.string xs,.int .i64 xn] 49)) (.slice (some ⟨wA.heap.size+1,0,none⟩) 1 1) [(xs,xn)]):=by have:=Jdf (wA.alloc (.cells #[.string xs,.int .i64 xn,.int .u64 (xa:Int),.int .u8 (xo:Int)] 87)) (xs,xn);have e:(wA.alloc (.cells #[.string xs,.int .i64 xn,.int .u64 (xa:Int),.int .u8 (xo:Int)] 87)).heap.size=wA.heap.size+1:=(by simp);rw[e]at this;exact this
   have HFN:Hid (∀w1 v1,COwn (w.heap.size+3) w1 v1 (cs++[(xs,xn)])->World.grownBy ((wA.alloc (.cells #[.string xs,.int .i64 xn,.int .u64 (xa:Int),.int .u8 (xo:Int)] 87)).alloc (.cells #[.string xs,.int .i64 xn] 49)) w1 (Value.slice va cs.length vc).ownBlock->
     Fr w #[.int .i64 fr,.int .i64 mn,.slice a1 am.length c1,.int .u8 (ow:Int),.bool wi,.bool ot] (.slice va cs.length vc) (.slice none 0 0) w1/\w1.heap[wA.heap.size]? =some (.cells #[.string xs,.int .i64 xn,.int .u64 (xa:Int),.int .u8 (xo:Int)] 87)):=by
    intro w1 v1 _ hg;have tA:=Ta NoB (wA.alloc (.cells #[.string xs,.int .i64 xn,.int .u64 (xa:Int),.int .u8 (xo:Int)] 87)) (.cells #[.string xs,.int .i64 xn] 49);refine⟨(HFH.o.next tA noE).next (Tg hg) (λj hj=>(HCO.o.own j hj.symm).1),(hg.block _ (by simp;omega) (λe=>?_)).trans ((tA.block _ (by simp) (λh=>h)).trans RH.out)⟩;have:=(HCO.o.own _ e.symm).2;omega
   clear HF HCO q0 q1 q2 q3;go_cut [] (λwx=>∃v1,Hid (COwn (w.heap.size+3) wx v1 (cs++[(xs,xn)]))/\Hid (Fr w #[.int .i64 fr,.int .i64 mn,.slice a1 am.length c1,.int .u8 (ow:Int),.bool wi,.bool ot] v1 (.slice none 0 0) wx)/\Hid (wx.heap[wA.heap.size]? =some (.cells #[.string xs,.int .i64 xn,.int .u64 (xa:Int),.int .u8 (xo:Int)] 87)))
   case first=>
    go_wp2_with (at_builtin;(refine Jbm rfl _ _ rfl rfl (HCH.o.tch (Ta NoB _ _) (λ_ _ h=>h)) _ _ [(xs,xn)] rfl HNC.o (by have:=HCL.o;simp;omega) (by have:=HSZ.o;simp;omega) ?_);intro v1 w1 hown1 hg1;obtain⟨hf1,hh1⟩:=HFN.o w1 v1 hown1 hg1;have HO1:Hid (COwn _ w1 v1 _):=hown1;have t1:w1.cell? ⟨w.heap.size+1+1,0,none⟩=some (.slice va cs.length vc):=Ja hf1.tx;have t2:w1.frozen? ⟨w.heap.size+1+1,0,none⟩=false:=Qg _ _ _ _ _ hf1.tx;have HF1:Hid (Fr _ _ _ _ w1):=hf1;have HH1:Hid (_=_):=hh1;clear hown1 hg1 hf1 hh1;obtain⟨b1,m1,e1,hv1⟩:=HO1.o.shape3;subst hv1);go_meet;have hset:=Qj w1 (w.heap.size+1+1) 0 _ _ _ (.slice b1 m1 e1) HF1.o.tx;refine⟨.slice b1 m1 e1,?_,?_,?_⟩
    ·rw[hset];exact HO1.o.tch (Ts w1 _ _) (λj hj e=>by have:=(HO1.o.own j hj).1;omega)
    ·rw[hset];exact HF1.o.set (.slice b1 m1 e1) (.slice none 0 0)
    ·rw[hset];have:=HSZ.o;exact(setRow_other _ _ _ _ (by omega)).trans HH1.o
   case rest=>
   obtain⟨v1,HO1,HF1,HH1⟩:=hcut;obtain⟨wB,hwB⟩:∃wB,wB=wc:=⟨wc,rfl⟩
   subst hwB;have h2:wB.cell? ⟨wA.heap.size,2,none⟩=some (.int .u64 (xa:Int)):=Ja HH1.o;obtain⟨s2,hs2⟩:∃s2:Nat,(sm+xa) % M64=s2:=⟨_,rfl⟩
   have hwr:IntKind.u64.wrap ((sm:Int)+(xa:Int))=(s2:Int):=(by rw[<-hs2];simp[IntKind.wrap,IntKind.bits,IntKind.signed,M64]);have HS2:Hid (s2<18446744073709551616):=(by rw[<-hs2];exact Nat.mod_lt _ (by decide):s2<18446744073709551616)
   clear hs2 t0;go_wp2;go_roundw
   case rel=>exact⟨k+1,s2,cs++[(xs,xn)],v1,by omega,by go_num,rfl,HS2.o,HO1.o,(by have:=HCL.o;simp;omega:(cs++[(xs,xn)]).length=k+1),(by intro c hc;rw[QE,Qt]at hc;rcases hc with hc|rfl;exact HCC.o c hc;exact HC2.o.1:∀c∈cs++[(xs,xn)],Jk wj c),HF1.o⟩
   case measure=>simp[intOf];omega
  | false=>
   clear hb d0 d1;have e5:wA.cell? ⟨w.heap.size,5,none⟩=some (.bool ot):=Ja HF.o.pay;have t0:wA.cell? ⟨w.heap.size+1+1,0,none⟩=some (.slice va cs.length vc):=Ja HF.o.tx;have HL3:Hid (cs.length<=3):=(by have:=HCL.o;omega:cs.length<=3)
   go_upto_region 9 with fail;go_cut [57] (λvb wx=>∃b:Bool,vb=.bool b/\wx=wA/\(b=false->¬cs.length=0))
   case first=>
    by_cases h0:cs.length=0
    ·have h0i:(cs.length:Int)=0:=(by omega);go_wp2;go_meet;exact⟨true,rfl,rfl,λh=>by cases h⟩
    ·have h0i:¬(cs.length:Int)=0:=(by omega);go_wp2;go_meet;exact⟨_,rfl,rfl,λ_=>h0⟩
   case rest=>
   obtain⟨b,rfl,rfl,hb⟩:=hcut;obtain⟨wB,hwB⟩:∃wB,wB=wc:=⟨wc,rfl⟩
   subst hwB;have HB:Hid (b=false->¬cs.length=0):=hb;clear hb;go_upto_if 57 with fail;go_cut [] (λwx=>∃cs' v',Hid (COwn (w.heap.size+3) wx v' cs')/\Hid (1<=cs'.length/\cs'.length<=3/\∀c∈cs',Jk wj c)/\Hid (Fr w #[.int .i64 fr,.int .i64 mn,.slice a1 am.length c1,.int .u8 (ow:Int),.bool wi,.bool ot] v' (.slice none 0 0) wx))
   case first=>
    cases b with
    | false=>
     go_wp2;go_meet;exact⟨cs,_,HCO,⟨by have:=HB.o (by first|rfl|trivial);omega,HL3.o,HCC.o⟩,HF⟩
    | true=>
     have hxb:=Qr _ _ HX.o;have HDG:Hid (∀W,Tch NoB w W->Calls prog 39 #[.int .i64 (wj:Int),.string ⟨#[110,111,32,99,111,105,110]⟩] W λe w'=>(∃id:BA,id.size=wj/\e=.returned (.string id))/\Tch NoB W w'):=λW hW=>by
      have hEW:=HE.o.tch hW noE;refine(ZP wj _ W hw1 hw (by decide) (Qk (by decide) hEW.size) hEW.table).mono ?_;rintro _ w'⟨rfl,ht⟩;exact⟨⟨_,Jz wj hw _,rfl⟩,ht⟩
     have HTS:Hid (TS w #[.int .i64 fr,.int .i64 mn,.slice a1 am.length c1,.int .u8 (ow:Int),.bool wi,.bool ot] (.slice va cs.length vc) cs wB):=⟨HF.o,HCO.o⟩
     have HVA:Hid ((va=none/\vc=0/\cs.length=0)\/∃g,va=some ⟨g,0,none⟩/\cs.length<=vc):=by
      obtain⟨_,⟨hv,h0⟩|⟨g,cap,cur,hv,_,_,hc,_⟩⟩:=HCO.o
      ·simp only[Qy]at hv;exact .inl ⟨hv.1,hv.2.2,h0⟩
      ·simp only[Qy,true_and]at hv;exact .inr ⟨g,hv.1,by rw[hv.2];exact hc⟩
     clear HF HCO t0 e5 HB HCL;obtain⟨n,hn⟩:∃n,cs.length=n:=⟨_,rfl⟩
     rw[hn]at HTS HVA HL3;have HN:Hid (cs.length=n):=hn;clear hn;have h3:=HL3.o;go_wp2_with fail
     rcases HVA.o with⟨rfl,rfl,rfl⟩|⟨g,rfl,hvc⟩
     ·have HTS0:Hid (TS w #[.int .i64 fr,.int .i64 mn,.slice a1 am.length c1,.int .u8 (ow:Int),.bool wi,.bool ot] (.slice none 0 0) cs wB.drew):=HTS.o.next (Td _ wB 1);have c0:wB.drew.cell? ⟨w.heap.size+1+1,0,none⟩=some (.slice none 0 0):=Ja HTS0.o.fr.tx;have c0':wB.cell? ⟨w.heap.size+1+1,0,none⟩=some (.slice none 0 0):=c0
      as_aux_lemma=>
       have hz:IntKind.i64.wrap 0=0:=(by decide);refine JU (S:=λW=>W.cell? ⟨xb,1,none⟩=some (.int .i64 (wj:Int))/\W.cell? ⟨w.heap.size,0,none⟩=some (.int .i64 fr)/\W.cell? ⟨w.heap.size+1+1,0,none⟩=some (.slice none 0 0)/\Fr w #[.int .i64 fr,.int .i64 mn,.slice a1 am.length c1,.int .u8 (ow:Int),.bool wi,.bool ot] (.slice none 0 0) (.slice none 0 0) W) 0 (by simp) (by kernel_rfl) (by kernel_rfl) (Fr.all HX.o HTS0.o.fr) ?_;intro hHeld l o hl ho;simp only[List.dropLast_cons_cons,List.dropLast_singleton]at hl;simp only[List.getLast_cons_cons,List.getLast_singleton]at ho;subst hl;subst ho;simp only[Qp,Qv,Nat.reduceAdd];refine tkL 0 ?_;simp only[Act.put,Qa,Qb,Qc];refine tkL 1 ?_;simp only[Act.put,Qa,Qb,Qc];refine tkL 2 ?_;simp only[Act.put,Qa,Qb,Qc];refine tkL 3 ?_;simp only[Act.put,Qa,Qb,Qc];refine tkL 4 ?_;simp only[Act.put,Qa,Qb,Qc];refine tkL 5 ?_;simp only[Act.put,Qa,Qb,Qc];refine tkL 6 ?_;simp only[Act.put,Qa,Qb,Qc];refine tkL 7 ?_;simp only[Act.put,Qa,Qb,Qc];refine tkL 8 ?_;simp only[Act.put,Qa,Qb,Qc];refine tkL 9 ?_;simp only[Act.put,Qa,Qb,Qc];refine tkL 10 ?_;simp only[Act.put,Qa,Qb,Qc];refine tkL 12 ?_;simp only[Act.put,Qa,Qb,Qc];refine tkL 13 ?_;simp only[Act.put,Qa,Qb,Qc];refine Zr (i:=11) rfl (by kernel_rfl) (λK hK=>?_);go_simp;go_at_call 39;refine(HDG.o _ hHeld.2.2.2.tch).mono ?_;rintro _ w'⟨⟨id,hid,rfl⟩,ht⟩;have hts:=TS.next HTS0.o ht;go_wp2_with fail;refine hK.out _ _ (Fr.all HX.o hts.fr) (λhHeld13=>?_);clear hK K hHeld
       try simp only[Act.put,Qa,Qb,Qc]
       refine Zr (i:=14) rfl (by kernel_rfl) (λK hK=>?_);go_simp;go_at_call 22;refine(hPG.out _).mono ?_;rintro _ w''⟨⟨r,hr,rfl⟩,hw''⟩;have hw3:=hw''.symm;subst hw3;go_wp2_with fail;refine hK.out _ _ (Fr.all HX.o hts.fr) (λhHeld14=>?_);clear hK K hHeld13
       try simp only[Act.put,Qa,Qb,Qc]
       refine tkL 15 ?_;simp only[Act.put,Qa,Qb,Qc];refine Zr (i:=16) rfl (by kernel_rfl) (λK hK=>?_);go_simp;refine hK.out _ _ (Fr.all HX.o (hts.next (Ta _ _ _)).fr) (λhHeld16=>?_);clear hK K hHeld14
       try simp only[Act.put,Qa,Qb,Qc]
       refine Zr (i:=17) rfl (by kernel_rfl) (λK hK=>?_);refine ZX rfl _ _ rfl rfl (COwn.nil (w.heap.size+3) _) _ _ [(id,(r:Int))] rfl (Jdf _ (id,(r:Int))) (by simp) (hts.next (Ta _ _ _)).fr.size ?_;intro v1 w1 hown1 hg1;have ht1:=TS.grownS hg1;have hts1:=TS.next (TS.next hts (Ta _ _ _)) ht1;obtain⟨b1,m1,e1,hv1⟩:=hown1.shape3;subst hv1;have hf1:=hts1.fr;refine hK.out _ _ (Fr.all HX.o hf1) (λhHeld17=>?_);clear hK K hHeld16
       try simp only[Act.put,Qa,Qb,Qc]
       refine tkL 18 ?_;simp only[Act.put,Qa,Qb,Qc];refine wpAnyH_done (by kernel_rfl) ?_ _;show wpList _ _ _ [_] _ _;have c9:w1.frozen? ⟨w.heap.size+1+1,0,none⟩=false:=Qg _ _ _ _ _ hf1.tx;have c8:w1.cell? ⟨w.heap.size+1+1,0,none⟩=some (.slice none 0 0):=Ja hf1.tx;go_wp2;go_meet;have hff:=TS.stored hts1 hown1;exact⟨_,_,hff.own,⟨by simp,by simp,λc hc=>by
        rw[List.nil_append,Qt]at hc;subst hc;exact⟨hid,by show (0:Int)<=(r:Int);omega,by show (r:Int)<3;omega⟩⟩,hff.fr⟩
     ·have HTS0:Hid (TS w #[.int .i64 fr,.int .i64 mn,.slice a1 am.length c1,.int .u8 (ow:Int),.bool wi,.bool ot] (.slice (some ⟨g,0,none⟩) n vc) cs wB.drew):=HTS.o.next (Td _ wB 1);have c0:wB.drew.cell? ⟨w.heap.size+1+1,0,none⟩=some (.slice (some ⟨g,0,none⟩) n vc):=Ja HTS0.o.fr.tx;have c0':wB.cell? ⟨w.heap.size+1+1,0,none⟩=some (.slice (some ⟨g,0,none⟩) n vc):=c0;obtain⟨hf,hhf⟩:∃hf,n/2=hf:=⟨_,rfl⟩
      have hq1:(n:Int).tdiv 2=(hf:Int):=(by rw[<-hhf];rfl);have hq2:(n:Int)/2=(hf:Int):=(by omega);have hq3:IntKind.i64.wrap (hf:Int)=(hf:Int):=(by simp[IntKind.wrap,IntKind.bits,IntKind.signed];omega);have hq4:(hf:Int)<=(vc:Int):=(by omega);have hq5:(0:Int)<=(hf:Int):=(by omega);have HHF:Hid (hf<=n/\hf<=1):=(by omega:hf<=n/\hf<=1)
      clear hhf
      as_aux_lemma=>
       refine JU (S:=λW=>W.cell? ⟨xb,1,none⟩=some (.int .i64 (wj:Int))/\W.cell? ⟨w.heap.size,0,none⟩=some (.int .i64 fr)/\W.cell? ⟨w.heap.size+1+1,0,none⟩=some (.slice (some ⟨g,0,none⟩) n vc)/\Fr w #[.int .i64 fr,.int .i64 mn,.slice a1 am.length c1,.int .u8 (ow:Int),.bool wi,.bool ot] (.slice (some ⟨g,0,none⟩) n vc) (.slice none 0 0) W) 0 (by simp) (by kernel_rfl) (by kernel_rfl) (Fr.all HX.o HTS0.o.fr) ?_;intro hHeld l o hl ho;simp only[List.dropLast_cons_cons,List.dropLast_singleton]at hl;simp only[List.getLast_cons_cons,List.getLast_singleton]at ho;subst hl;subst ho;simp only[Qp,Qv,Nat.reduceAdd];refine tkL 0 ?_;simp only[Act.put,Qa,Qb,Qc];refine tkL 1 ?_;simp only[Act.put,Qa,Qb,Qc];refine tkL 2 ?_;simp only[Act.put,Qa,Qb,Qc];refine tkL 3 ?_;simp only[Act.put,Qa,Qb,Qc];refine tkL 4 ?_;simp only[Act.put,Qa,Qb,Qc];refine tkL 5 ?_;simp only[Act.put,Qa,Qb,Qc];refine tkL 6 ?_;simp only[Act.put,Qa,Qb,Qc];refine tkL 7 ?_;simp only[Act.put,Qa,Qb,Qc];refine tkL 8 ?_;simp only[Act.put,Qa,Qb,Qc];refine tkL 9 ?_;simp only[Act.put,Qa,Qb,Qc];refine tkL 10 ?_;simp only[Act.put,Qa,Qb,Qc];refine tkL 12 ?_;simp only[Act.put,Qa,Qb,Qc];refine tkL 13 ?_;simp only[Act.put,Qa,Qb,Qc];refine Zr (i:=11) rfl (by kernel_rfl) (λK hK=>?_);go_simp;go_at_call 39;refine(HDG.o _ hHeld.2.2.2.tch).mono ?_;rintro _ w'⟨⟨id,hid,rfl⟩,ht⟩;have hts:=TS.next HTS0.o ht;go_wp2_with fail;refine hK.out _ _ (Fr.all HX.o hts.fr) (λhHeld13=>?_);clear hK K hHeld
       try simp only[Act.put,Qa,Qb,Qc]
       refine Zr (i:=14) rfl (by kernel_rfl) (λK hK=>?_);go_simp;go_at_call 22;refine(hPG.out _).mono ?_;rintro _ w''⟨⟨r,hr,rfl⟩,hw''⟩;have hw3:=hw''.symm;subst hw3;go_wp2_with fail;refine hK.out _ _ (Fr.all HX.o hts.fr) (λhHeld14=>?_);clear hK K hHeld13
       try simp only[Act.put,Qa,Qb,Qc]
       refine tkL 15 ?_;simp only[Act.put,Qa,Qb,Qc];refine Zr (i:=16) rfl (by kernel_rfl) (λK hK=>?_);go_simp;refine hK.out _ _ (Fr.all HX.o (hts.next (Ta _ _ _)).fr) (λhHeld16=>?_);clear hK K hHeld14
       try simp only[Act.put,Qa,Qb,Qc]
       refine Zr (i:=17) rfl (by kernel_rfl) (λK hK=>?_);refine ZX rfl _ _ rfl rfl ((TS.next hts (Ta _ _ _)).own.take hf HHF.o.1) _ _ [(id,(r:Int))] rfl (Jdf _ (id,(r:Int))) (by have:=HN.o;simp;omega) (hts.next (Ta _ _ _)).fr.size ?_;intro v1 w1 hown1 hg1;have hf1:=TS.grownF hts hg1;obtain⟨b1,m1,e1,hv1⟩:=hown1.shape3;subst hv1;refine hK.out _ _ (Fr.all HX.o hf1) (λhHeld17=>?_);clear hK K hHeld16
       try simp only[Act.put,Qa,Qb,Qc]
       refine tkL 18 ?_;simp only[Act.put,Qa,Qb,Qc];refine wpAnyH_done (by kernel_rfl) ?_ _;show wpList _ _ _ [_] _ _;have c9:w1.frozen? ⟨w.heap.size+1+1,0,none⟩=false:=Qg _ _ _ _ _ hf1.tx;have c8:w1.cell? ⟨w.heap.size+1+1,0,none⟩=some (.slice (some ⟨g,0,none⟩) n vc):=Ja hf1.tx;go_wp2;go_meet;have hst:=TSE.storedF hf1 hown1;exact⟨_,_,hst.own,⟨by simp,by have:=HHF.o;simp[List.length_take];omega,λc hc=>by
        rw[QE,Qt]at hc
        rcases hc with hc|rfl
        ·exact HCC.o c (List.mem_of_mem_take hc)
        ·exact⟨hid,by show (0:Int)<=(r:Int);omega,by show (r:Int)<3;omega⟩⟩,hst.fr⟩
   case rest=>
   obtain⟨cs',v',HCO',HCK,HFR⟩:=hcut;obtain⟨wC,hwC⟩:∃wC,wC=wc:=⟨wc,rfl⟩
   subst hwC;clear HF HCO t0 e5 HB HCL HCC HL3;go_wp2;go_loopw [8,11] (λvl i wr=>∃(k s:Nat)(os:List (Nat×Nat))(vO:Value),k<=3/\i=.int .i64 k/\vl=.int .u64 (s:Int)/\Hid (s<18446744073709551616)/\Hid (OOwn (w.heap.size+3) wr vO os)/\Hid (os.length=k)/\Hid (∀o∈os,Jy o)/\Hid (COwn (w.heap.size+3) wr v' cs')/\Hid (Fr w #[.int .i64 fr,.int .i64 mn,.slice a1 am.length c1,.int .u8 (ow:Int),.bool wi,.bool ot] v' vO wr)) (λ_ i _=>3-(intOf i).toNat)
   case atStart=>exact⟨0,sm,[],.slice none 0 0,by omega,rfl,rfl,HSM.o,OOwn.nil _ _,rfl,(λc hc=>(QD hc).elim:∀c∈([]:List (Nat×Nat)),Jy c),HCO'.out,HFR.o⟩
   case round=>
    clear HCO' HFR HSM;obtain⟨k,sm,os,vO,hk,rfl,rfl,HSM,HOO,HOL,HOK,HCO',HF⟩:=hrel;obtain⟨va2,vc2,rfl⟩:=HOO.o.shape;have d2:wr.cell? ⟨w.heap.size,2,none⟩=some (.slice a1 am.length c1):=Ja HF.o.pay;have d3:wr.cell? ⟨w.heap.size,3,none⟩=some (.int .u8 (ow:Int)):=Ja HF.o.pay;have d4:wr.cell? ⟨w.heap.size,4,none⟩=some (.bool wi):=Ja HF.o.pay
    by_cases hgo:k<am.length/\k<3
    ·obtain⟨hka,hk3⟩:=hgo
     rcases HA.o with⟨_,e2⟩|⟨g0,o0,cc,e,hg0,hcell⟩
     ·rw[e2]at hka;simp at hka
     simp only[Qy,true_and]at e;obtain⟨rfl,rfl⟩:=e;have q0:=(HF.o.tch.cell (p:=⟨g0,o0+k,none⟩) hg0 (λe=>e)).trans (hcell k hka);have HAM:Hid (am[k]<18446744073709551616):=HP.o.amounts _ (Qx hka);have hki:(k:Int)<(am.length:Int):=(by omega);have hk3i:(k:Int)<3:=(by omega);clear hcell;generalize am[k]=a at *;go_upto_region 15 with fail;go_cut [99] (λvb wx=>∃b:Bool,vb=.bool b/\wx=wr/\(b=true->sm<9223372036854775808))
     case first=>
      cases wi with
      | true=>
       go_wp2;go_meet;exact⟨false,rfl,rfl,λh=>by cases h⟩
      | false=>
       rcases Nat.lt_or_ge sm 9223372036854775808 with hs|hs
       ·have hsi:(sm:Int)<9223372036854775808:=(by omega);have HS:Hid (sm<9223372036854775808):=hs;clear hs;go_wp2;go_meet;exact⟨_,rfl,rfl,λ_=>HS.o⟩
       ·have hsi:¬(sm:Int)<9223372036854775808:=(by omega);clear hs;go_wp2;go_meet;exact⟨false,by first|rfl|simp[hsi],rfl,λh=>by cases h⟩
     case rest=>
     obtain⟨b,rfl,rfl,hb⟩:=hcut;obtain⟨wD,hwD⟩:∃wD,wD=wc:=⟨wc,rfl⟩
     subst hwD;have HB2:Hid (b=true->sm<9223372036854775808):=hb;clear hb;go_upto_if 99 with fail;go_cut [8,12] (λvl va wx=>∃s2 a2:Nat,vl=.int .u64 (s2:Int)/\va=.int .u64 (a2:Int)/\wx=wD/\Hid (s2<18446744073709551616)/\Hid (a2<18446744073709551616))
     case first=>
      cases b with
      | false=>
       go_wp2;go_meet;exact⟨sm,a,rfl,rfl,rfl,HSM,HAM⟩
      | true=>
       have hs:=HB2.o rfl;obtain⟨m1,hm1⟩:∃m1,sm+1=m1:=⟨_,rfl⟩
       obtain⟨r,hr⟩:∃r,a % m1=r:=⟨_,rfl⟩
       have hrm:r<m1:=(by rw[<-hr];exact Nat.mod_lt _ (by omega));have hw1:IntKind.u64.wrap ((sm:Int)+1)=(m1:Int):=(by simp[IntKind.wrap,IntKind.bits,IntKind.signed];omega);have hne:¬(m1:Int)=0:=(by omega);have htm:(a:Int).tmod (m1:Int)=(r:Int):=(by rw[<-hr];rfl);have hem:(a:Int) % (m1:Int)=(r:Int):=(by rw[<-hr];simp);obtain⟨s2,hs2⟩:∃s2,sm-r=s2:=⟨_,rfl⟩
       have hsub:IntKind.u64.wrap ((sm:Int)-(r:Int))=(s2:Int):=(by simp[IntKind.wrap,IntKind.bits,IntKind.signed];omega);have HR:Hid (s2<18446744073709551616):=(by omega:s2<18446744073709551616)
       have HR2:Hid (r<18446744073709551616):=(by omega:r<18446744073709551616)
       clear hs hm1 hr hrm hs2;go_wp2;go_meet;exact⟨s2,r,rfl,rfl,rfl,HR,HR2⟩
     case rest=>
     obtain⟨s2,a2,rfl,rfl,rfl,HS2,HA2⟩:=hcut;obtain⟨wE,hwE⟩:∃wE,wE=wc:=⟨wc,rfl⟩
     subst hwE;obtain⟨o2,ho2⟩:∃o2:Nat,(ow+k) % 256=o2:=⟨_,rfl⟩
     have HO2:Hid (o2<256):=(by rw[<-ho2];exact Nat.mod_lt _ (by decide):o2<256)
     have hk8:IntKind.u8.wrap (k:Int)=(k:Int):=(by simp[IntKind.wrap,IntKind.bits,IntKind.signed];omega);have hw8:IntKind.u8.wrap ((ow:Int)+(k:Int))=(o2:Int):=(by simp[IntKind.wrap,IntKind.bits,IntKind.signed];omega);have t1:wE.cell? ⟨w.heap.size+1+1,1,none⟩=some (.slice va2 os.length vc2):=Ja HF.o.tx;have HNO:Hid (Jq (wE.heap.size+1) (wE.alloc (.cells #[.int .u64 ((a2:Nat):Int),.int .u8 ((o2:Nat):Int)] 80)) (.slice (some ⟨wE.heap.size,0,none⟩) 1 1) [(a2,o2)]):=Jfk wE (a2,o2);have HOW:Hid (OOwn (w.heap.size+3) (wE.alloc (.cells #[.int .u64 ((a2:Nat):Int),.int .u8 ((o2:Nat):Int)] 80)) (.slice va2 os.length vc2) os):=HOO.o.tch (Ta NoB wE _) (λ_ _ h=>h);have HSZ:Hid (w.heap.size+3<=wE.heap.size):=HF.o.size;obtain⟨va1,vm1,vc1,hv1'⟩:=HCO'.out.shape3;have HFN:Hid (∀w1,World.grownBy (wE.alloc (.cells #[.int .u64 ((a2:Nat):Int),.int .u8 ((o2:Nat):Int)] 80)) w1 (Value.slice va2 os.length vc2).ownBlock->Fr w #[.int .i64 fr,.int .i64 mn,.slice (some ⟨g0,o0,none⟩) am.length c1,.int .u8 (ow:Int),.bool wi,.bool ot] v' (.slice va2 os.length vc2) w1/\COwn (w.heap.size+3) w1 v' cs'):=(by intro w1 hg;refine⟨(HF.o.next (Ta NoB wE _) noE).next (Tg hg) (λj hj=>(HOO.o.own j hj.symm).1),(HCO'.out.tch (Ta NoB wE _) (λ_ _ h=>h)).tch (Tg hg) (λj hj e=>Jc2 HCO'.out HOO.o j hj e.symm)⟩);clear ho2 q0;go_wp2_with (at_builtin;refine YD rfl _ _ rfl rfl HOW.o _ _ [(a2,o2)] rfl HNO.o (by have:=HOL.o;simp;omega) (by have:=HSZ.o;simp;omega) ?_;intro v1 w1 hown1 hg1;obtain⟨hf1,hco1⟩:=HFN.o w1 hg1;have HO1:Hid (OOwn _ w1 v1 _):=hown1;have HC1:Hid (COwn _ w1 _ _):=hco1;have t2:w1.cell? ⟨w.heap.size+1+1,1,none⟩=some (.slice va2 os.length vc2):=Ja hf1.tx;have t3:w1.frozen? ⟨w.heap.size+1+1,1,none⟩=false:=Qg _ _ _ _ _ hf1.tx;have HF1:Hid (Fr _ _ _ _ w1):=hf1;clear hown1 hg1 hf1 hco1;obtain⟨b1,m1,e1,hv1⟩:=HO1.o.shape3;subst hv1);have hset:=Qj w1 (w.heap.size+1+1) 1 _ _ _ (.slice b1 m1 e1) HF1.o.tx;have HO3:Hid (OOwn (w.heap.size+3) (w1.setCell ⟨w.heap.size+1+1,1,none⟩ (.slice b1 m1 e1)) (.slice b1 m1 e1) (os++[(a2,o2)])):=(by rw[hset];exact HO1.o.tch (Ts w1 _ _) (λj hj e=>by have:=(HO1.o.own j hj).1;omega));have HC3:Hid (COwn (w.heap.size+3) (w1.setCell ⟨w.heap.size+1+1,1,none⟩ (.slice b1 m1 e1)) v' cs'):=(by rw[hset];exact HC1.o.tch (Ts w1 _ _) (λj hj e=>by have:=(HC1.o.own j hj).1;omega));have HF3:Hid (Fr w #[.int .i64 fr,.int .i64 mn,.slice (some ⟨g0,o0,none⟩) am.length c1,.int .u8 (ow:Int),.bool wi,.bool ot] v' (.slice b1 m1 e1) (w1.setCell ⟨w.heap.size+1+1,1,none⟩ (.slice b1 m1 e1))):=(by rw[hset];exact HF1.o.set v' (.slice b1 m1 e1));clear hset;go_roundw
     case rel=>exact⟨k+1,s2,os++[(a2,o2)],.slice b1 m1 e1,by omega,by go_num,rfl,HS2.o,HO3.o,(by have:=HOL.o;simp;omega:(os++[(a2,o2)]).length=k+1),(by intro c hc;rw[QE,Qt]at hc;rcases hc with hc|rfl;exact HOK.o c hc;exact⟨HA2.o,HO2.o⟩:∀c∈os++[(a2,o2)],Jy c),HC3.o,HF3.o⟩
     case measure=>simp[intOf];omega
    ·have HTK:Hid (TxOk wj (cs',os)):=⟨HCK.o.2.2,HOK.o,HCK.o.1,HCK.o.2.1,by show os.length<=3;have:=HOL.o;omega⟩
     obtain⟨va1,vm1,vc1,hv1'⟩:=HCO'.out.shape3;subst hv1';have t0:wr.cell? ⟨w.heap.size+1+1,0,none⟩=some (.slice va1 vm1 vc1):=Ja HF.o.tx;have t1:wr.cell? ⟨w.heap.size+1+1,1,none⟩=some (.slice va2 os.length vc2):=Ja HF.o.tx;have r0:wr.cell? ⟨w.heap.size+1,0,none⟩=some (.slice none 0 0):=Ja HF.o.res;have r1:wr.cell? ⟨w.heap.size+1,1,none⟩=some (.slice none 0 0):=Ja HF.o.res;have fR:∀j,wr.frozen? ⟨w.heap.size+1,j,none⟩=false:=λj=>Qg _ _ _ _ _ HF.o.res;have HEND:Hid (∀cs1,wr.setRow (w.heap.size+1) #[.slice va1 vm1 vc1,.slice va2 os.length vc2]=cs1->ToTx wj w (.returned (.agg #[.slice va1 vm1 vc1,.slice va2 os.length vc2])) cs1):=by
      rintro _ rfl;have tS:=Ts wr (w.heap.size+1) #[.slice va1 vm1 vc1,.slice va2 os.length vc2];refine⟨HF.o.tch.trans tS (λj hj=>.inr (by omega)),(cs',os),_,_,rfl,HTK.o,?_,?_⟩
      ·exact(HCO'.out.tch tS (λj hj e=>by have:=(HCO'.out.own j hj).1;omega)).low (by omega)
      ·exact(HOO.o.tch tS (λj hj e=>by have:=(HOO.o.own j hj).1;omega)).low (by omega)
     have RR:Hid (_=_):=HF.o.res
     by_cases hka:k<am.length
     ·have hki:(k:Int)<(am.length:Int):=(by omega);have hk3i:¬(k:Int)<3:=(by omega);go_wp2;rw[Jlz _ _ _ _ _ _ _ RR.out];refine QJ (v:=.agg #[.slice va1 vm1 vc1,.slice va2 os.length vc2]) (Qq results43 _ _ (w.heap.size+1) _ _ (0,0) _ rfl (Qi wr _ _ _ _ _ RR.out) underlying98 rfl (by kernel_rfl)) rfl ?_;exact HEND.o _ rfl
     ·have hki:¬(k:Int)<(am.length:Int):=(by omega);go_wp2;rw[Jlz _ _ _ _ _ _ _ RR.out];refine QJ (v:=.agg #[.slice va1 vm1 vc1,.slice va2 os.length vc2]) (Qq results43 _ _ (w.heap.size+1) _ _ (0,0) _ rfl (Qi wr _ _ _ _ _ RR.out) underlying98 rfl (by kernel_rfl)) rfl ?_;exact HEND.o _ rfl
