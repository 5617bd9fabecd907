import Derived.Test.YtighkdnooglfjaaGreatDoorOcVfF
import Derived.Test.YtighkdnooglfjaaGreatDoorOcChT
import Derived.Sort.CutIn
namespace Go.Proofs.YtighkdnooglfjaaGreatDoor
open Go.Proofs.Tryz
set_option maxRecDepth 100000
open Go.RowKit

theorem JhR {w:World} {lb cb:Nat} (hl:w.cell? ⟨lb,0,none⟩=some (.pointer (some ⟨cb,0,none⟩))) (k:Int) (Q:World->Prop) (h:Calls prog 56 #[.pointer (some ⟨cb,0,none⟩),.int .i64 k] w λe w'=>e=.returned .nilIface/\Q w'):
  Calls prog 28 #[.pointer (some ⟨lb,0,none⟩),.int .i64 k] w λe w'=>e=.returned (.int .i64 0)/\Q w':=by
 have H:Hid (Calls _ _ _ _ _):=h
 clear h
 go_enter func28,ntmps28
 go_wp2_with fail
 refine H.out.mono ?_
 rintro _ w1 ⟨rfl,hq⟩
 have HQ:Hid (Q w1):=hq
 clear hq H
 go_wp2_with fail
 refine (YU _).mono ?_
 rintro _ _ ⟨rfl,rfl⟩
 go_wp2
 go_ret
 exact ⟨rfl,HQ.o⟩
theorem Jgh {E:Nat->Addr} {w:World} {lb cb:Nat} (hS:∀w',Tch NoB w w'->Env E w'/\Sent E w') (er:Er) (hl:w.cell? ⟨lb,0,none⟩=some (.pointer (some ⟨cb,0,none⟩))) (k:Int) (h:Calls prog 56 #[.pointer (some ⟨cb,0,none⟩),.int .i64 k] w λe w'=>NoTo E (erG er) w e w'):
  Calls prog 28 #[.pointer (some ⟨lb,0,none⟩),.int .i64 k] w λe w'=>e=.returned (.int .i64 (Xs er))/\Tch NoB w w':=by
 have H:Hid (Calls _ _ _ _ _):=h
 have HS:Hid (∀w',Tch NoB w w'->Env E w'/\Sent E w'):=hS
 clear h hS
 go_enter func28,ntmps28
 go_wp2_with fail
 refine H.out.mono ?_
 rintro _ w1 ⟨ht,t,u,rfl,he⟩
 have HT:Hid (Tch NoB w w1):=ht
 have HR:Hid (Calls _ _ _ _ _):=Jah er (HS.o w1 ht).1 (HS.o w1 ht).2 t u he
 clear ht H he
 go_wp2_with fail
 refine HR.o.mono ?_
 rintro _ w2 ⟨rfl,ht2⟩
 have HT2:Hid (Tch NoB w1 w2):=ht2
 clear ht2 HR
 go_wp2
 go_ret
 exact ⟨rfl,HT.o.go HT2.o⟩
theorem Xq.prune {wd base pn:Nat} {w w':World} {lb:Nat} {F:Nat->Prop} {fl:Nat} {ch:Ch} {lg:List UInt8} {cb r:Nat} {bs bs':List BV} {lv lv':Value} (h:Xq wd base pn w lb F fl ch lg cb r bs lv) (hp:pn<134217728) {n:Nat} (hf:fl<=n) (hn:n<ch.length) {ext:List UInt8} (hx:ext.length<=100)
  (hP:Prn fl n bs bs') (hR:Jt w' cb wd n r bs' lv') (hL:JU base w' lv' (lg++ext)) (hT:Tch (λk=>k=cb\/k=r\/some k=lv.ownBlock) w w') (hM:Jm w lv.ownBlock lv'.ownBlock) (hbw:base<=w.heap.size):
  ∃F':Nat->Prop,(∀j,F' j->F j\/w.heap.size<=j)/\Xq wd base (pn+1) w' lb F' n ch (lg++ext) cb r bs' lv':=by
 have hnew:∀k,lv'.ownBlock=some k->F k\/w.heap.size<=k:=λk hk=>by
  rcases hM with e | ⟨i,e,hi⟩
  ·exact .inl (h.ownG k (by rw [<-e];exact hk))
  ·rw [hk] at e;cases e;exact .inr hi
 have hlne:lb ≠ cb/\lb ≠ r/\¬some lb=lv.ownBlock:=by
  refine ⟨λe=>?_,λe=>?_,λe=>?_⟩
  ·have:=h.led;rw [e,h.row.row] at this;simp at this
  ·have:=h.led;rw [e,h.row.map] at this;simp at this
  ·obtain ⟨cu,mm,hr⟩:=h.log.kind lb e.symm;rw [h.led] at hr;simp at hr
 refine ⟨λj=>(F j/\¬(some j=lv.ownBlock/\¬lv'.ownBlock=some j))\/(w.heap.size<=j/\lv'.ownBlock=some j),λj hj=>hj.imp (λe=>e.1) (λe=>e.1),?_⟩
 have hFF:∀j,F j->¬some j=lv.ownBlock->(F j/\¬(some j=lv.ownBlock/\¬lv'.ownBlock=some j))\/(w.heap.size<=j/\lv'.ownBlock=some j):=λj hj hn=>.inl ⟨hj,λe=>hn e.1⟩
 have hne:=h.log.ne_row h.row
 have hold:∀(i:Nat) b,bs'[i]? =some b->∃b0,bs[i]? =some b0/\b.1=b0.1/\(n<=i->b=b0)/\(i<n->b.2=(0,none)):=λi b hb=>by
  have:=hP i
  rw [hb] at this
  by_cases c:fl<=i/\i<n
  ·rw [if_pos c] at this
   obtain ⟨b0,e1,e2⟩:=Option.map_eq_some_iff.1 this.symm
   exact ⟨b0,e1,by rw [<-e2],λe=>by omega,λ_=>by rw [<-e2]⟩
  ·rw [if_neg c] at this
   exact ⟨b,this.symm,rfl,λ_=>rfl,λe=>h.gone i b this.symm (by omega)⟩
 exact {
  led:=(hT.block _ (Jb h.led) (λe=>by rcases e with e | e | e;exact hlne.1 e;exact hlne.2.1 e;exact hlne.2.2 e)).trans h.led
  row:=hR
  log:=hL
  len:=by rw [hP.length,h.len]
  pos:=hn
  most:=h.most
  short:=by rw [Qe];have:=h.short;omega
  few:=by omega
  hdr:=λi b c h1 h2=>by
   obtain ⟨b0,e1,e2,_⟩:=hold i b h1
   rw [e2]
   exact h.hdr i b0 c e1 h2
  st:=λi b c h1 h2 h3=>by
   obtain ⟨b0,e1,_,e3,_⟩:=hold i b h1
   rw [e3 h3]
   obtain ⟨k1,k2,k3⟩:=h.st i b0 c e1 h2 (by omega)
   have k4:=k2.refine (G:=λj=>F j/\¬(j=cb\/j=r\/some j=lv.ownBlock)) (λj hj hc=>⟨hj,λe=>by
    obtain ⟨cc,hc⟩:=hc
    rcases e with rfl | rfl | e
    ·rw [h.row.row] at hc;simp at hc
    ·rw [h.row.map] at hc;simp at hc
    ·obtain ⟨cu,mm,hr⟩:=h.log.kind j e.symm;rw [hc] at hr;simp at hr⟩)
   exact ⟨k1,(k4.tch hT (λj hj hG=>hG.2 hj)).mono (λj hj=>hFF j hj.1 (λe=>hj.2 (.inr (.inr e)))),k3⟩
  gone:=λi b h1 h2=>by
   obtain ⟨b0,_,_,_,e4⟩:=hold i b h1
   exact e4 h2
  ownL:=hFF _ h.ownL hlne.2.2
  ownC:=hFF _ h.ownC hne.1
  ownR:=hFF _ h.ownR hne.2
  ownG:=λk hk=>(hnew k hk).imp (λe=>⟨e,λe2=>e2.2 hk⟩) (λe=>⟨e,hk⟩)
  low:=λj hj=>by
   rcases hj with ⟨hj,hjn⟩ | ⟨hj,hc⟩
   ·exact ⟨(h.low j hj).1,Qk (h.low j hj).2 hT.size⟩
   ·exact ⟨by omega,(hL.bs.own j hc).2⟩
  kind:=λj hj cur T m hr=>by
   rcases hj with ⟨hj,hjn⟩ | ⟨hj,hc⟩
   ·by_cases e:j=cb\/j=r\/some j=lv.ownBlock
    ·rcases e with rfl | rfl | e
     ·rw [hR.row] at hr;simp at hr;exact .inr (.inl hr.2.1.symm)
     ·rw [hR.map] at hr;simp at hr
     ·by_cases e2:lv'.ownBlock=some j
      ·obtain ⟨cu',mm',hr2⟩:=hL.kind j e2;rw [hr] at hr2;simp at hr2;exact .inr (.inr (.inr hr2.2.1))
      ·exact absurd ⟨e,e2⟩ hjn
    ·exact h.kind j hj cur T m ((hT.block j (h.low j hj).2 e).symm.trans hr)
   ·obtain ⟨cu',mm',hr2⟩:=hL.kind j hc;rw [hr] at hr2;simp at hr2;exact .inr (.inr (.inr hr2.2.1)) }
structure JlZ {E:Nat->Addr} {wd base:Nat} (L L':Led E wd base):Prop where
 pin:∀{w:World} {lb:Nat} {F:Nat->Prop} {fl:Nat} {ch:Ch} (n:Nat),L.At w lb F fl ch->JT E base w->fl<=n->n<ch.length->
  Calls prog 28 #[.pointer (some ⟨lb,0,none⟩),.int .i64 (n:Int)] w λe w'=>e=.returned (.int .i64 0)/\Tch F w w'/\∃F':Nat->Prop,(∀j,F' j->F j\/w.heap.size<=j)/\L'.At w' lb F' n ch
 pout:∀{w:World} {lb:Nat} {F:Nat->Prop} {fl:Nat} {ch:Ch} (h:Int),L.At w lb F fl ch->JT E base w->¬((fl:Int)<=h/\h<(ch.length:Int))->
  Calls prog 28 #[.pointer (some ⟨lb,0,none⟩),.int .i64 h] w λe w'=>e=.returned (.int .i64 7)/\Tch NoB w w'
set_option maxHeartbeats 1000000

theorem JjF:∀(l:List (Nat×Nat)),(l.flatMap outB).length=9 * l.length
 | []=>rfl
 | o :: r=>by
  rw [QG,Qe,JjF r,Qp]
  have:(outB o).length=9:=by unfold outB;rw [Qe,Je,Je]
  omega
theorem JaS (wd:Nat) (outs:List (Nat×Nat)) (h3:outs.length<=3):(Jf wd outs).length<=100:=by
 unfold Jf JW
 rw [Qe,Je,Qe,Je,JjF]
 omega
theorem JkC (E:Nat->Addr) (b:Nat) (hb12:18<=b) (wd:Nat) (hw:wd<=32) (outs:List (Nat×Nat)) (ho:∀o∈outs,Jr o) (h1:1<=outs.length) (h3:outs.length<=3) (w:World) (hE:Env E w) (hp:Jc w b none 0 .nilIface (.rd [] (Jf wd outs))):
  Calls prog 198 #[.pointer (some ⟨b,0,none⟩),.agg #[.int .i64 0,.slice none 0 0]] w λe w'=>∃gp,e=.returned (.agg #[.int .i64 (wd:Int),.slice (some ⟨gp,0,none⟩) outs.length outs.length])/\Jo w'.heap.size w' (.slice (some ⟨gp,0,none⟩) outs.length outs.length) outs/\Jc w' b none 0 .nilIface (.rd (Jf wd outs) [])/\Tch (λk=>k=b) w w':=by
 have hbl:=hp.lt
 obtain ⟨W,hW⟩:∃(W:World),W=(w.alloc (.cells #[.int .i64 0,.slice none 0 0] 333)).alloc (.cells #[.int .i64 0,.slice none 0 0] 333):=⟨_,rfl⟩
 have tW:Tch NoB w W:=by rw [hW];exact Tch.allocs _ _ _ _
 have hbx0:W.heap[w.heap.size]? =some (.cells #[.int .i64 0,.slice none 0 0] 333):=by rw [hW];exact heap_alloc2_old _ _ _
 have hbx1:W.heap[w.heap.size+1]? =some (.cells #[.int .i64 0,.slice none 0 0] 333):=by rw [hW];exact heap_alloc2_new _ _ _
 have hsl:=JaS wd outs h3
 have hpW:=hp.tch tW (λh=>h) (λ_ h=>by cases h)
 have hEW:=hE.tch tW noE
 have HN:Hid (Calls prog 138 #[.pointer (some ⟨b,0,none⟩),.int .u64 0,.int .i64 1] W λe w'=>e=.returned (.int .u64 (wd:Int))/\Jc w' b none 0 .nilIface (.rd (beL wd 1 1) (JW outs))/\Tch (λk=>k=b) W w'):=by
  have hb:(beL wd 1 1).length=1:=Je _ _ _
  have:=YS b 0 0 [] (Jf wd outs) 1 W hpW (by simp only [Qv];omega) (by unfold Jf;rw [Qe];omega) (by omega)
  unfold Jf at this
  rw [List.take_left' hb,List.drop_left' hb,Je3 wd 1 (by omega),List.nil_append] at this
  exact this
 have HF:Hid (∀V,Tch (λk=>k=b) W V->Jc V b none 0 .nilIface (.rd (beL wd 1 1) (JW outs))->Calls prog 188 #[.pointer (some ⟨b,0,none⟩),.slice none 0 0] V λe w'=>∃gp,e=.returned (.slice (some ⟨gp,0,none⟩) outs.length outs.length)/\V.heap.size<=gp/\w'.heap[gp]? =some (.cells (vvA (outs.map encO)) 80)/\Jc w' b none 0 .nilIface (.rd (Jf wd outs) [])/\Tch (λk=>k=b) V w'):=λV hT hpV=>by
  have hr:=(Jbk 1 3 outs ho h1 h3 (by omega)).rd (beL wd 1 1) []
  rw [QC] at hr
  have:=Zu E b hb12 none 0 (.slice none 0 0) [] (.rd (beL wd 1 1) (JW outs)) V (hEW.tch hT (λj hj=>by rw [hj];exact hb12)) hpV (.inl ⟨rfl,rfl⟩) (by simp) (λ_ _ _=>rfl) (λx hx=>by cases hx) (by
   unfold Jf at hsl
   rw [Qe] at hsl
   simp only [PS.len]
   omega)
  rw [hr] at this
  refine this.mono λe w' k=>?_
  obtain ⟨gp,k1,k2,k3,g',k4,_,k6,k7⟩:=k
  have hg:g'=none:=k4.1
  subst hg
  exact ⟨gp,k1,k2,k3,k4,k7.mono (λj hj=>by rcases hj with h | h;exact .inl h;cases h)⟩
 have HBX:Hid (∀V,Tch (λk=>k=b) W V->V.heap[w.heap.size]? =some (.cells #[.int .i64 0,.slice none 0 0] 333)/\V.heap[w.heap.size+1]? =some (.cells #[.int .i64 0,.slice none 0 0] 333)):=λV hT=>⟨(hT.block _ (Jb hbx0) (by omega)).trans hbx0,(hT.block _ (Jb hbx1) (by omega)).trans hbx1⟩
 have hu:IntKind.u64.wrap (0:Int)=0:=rfl
 have hi:IntKind.i64.wrap (wd:Int)=(wd:Int):=JC _ (by omega) (by omega)
 have b0:W.cell? ⟨w.heap.size,0,none⟩=some (.int .i64 0):=Ja hbx0
 have hz:w.heap.size+1<W.heap.size:=(Jb hbx1)
 have HTW:Hid (Tch NoB w W):=tW
 have HW:Hid (W=_):=hW
 have HZ:Hid (w.heap.size+1<W.heap.size):=hz
 clear hE hp tW hbx0 hbx1 hW hpW hEW ho h1 h3 hsl hz
 generalize Jf wd outs=sb at *
 generalize beL wd 1 1=pb at *
 generalize JW outs=lo at *
 go_enter func198,ntmps198
 go_upto_region 1 with fail
 rw [<-HW.o]
 go_wp2_with fail
 refine HN.o.mono ?_
 rintro _ w1 ⟨rfl,hp1,ht1⟩
 have HP1:Hid (Jc _ _ _ _ _ _):=hp1
 have HT1:Hid (Tch (λk=>k=b) W w1):=ht1
 have c1:w1.cell? ⟨w.heap.size,1,none⟩=some (.slice none 0 0):=Ja (HBX.o w1 ht1).1
 clear hp1 ht1 HN b0
 go_wp2_with fail
 refine (HF.o w1 HT1.o HP1.o).mono ?_
 rintro _ w4 ⟨gp,rfl,hgp,hrow,hp4,ht4⟩
 have HT4:Hid (Tch (λk=>k=b) W w4):=HT1.o.trans ht4 (λ_ h=>.inl h)
 have HP4:Hid (Jc _ _ _ _ _ _):=hp4
 have HG:Hid (w4.heap[gp]? =some (.cells (vvA (outs.map encO)) 80)/\w.heap.size+1<gp):=⟨hrow,by have:=HZ.o;have:=HT1.o.size;omega⟩
 have rR:=(HBX.o w4 HT4.o).2
 have e0:w4.cell? ⟨w.heap.size+1,0,none⟩=some (.int .i64 0):=Ja rR
 have e1:w4.cell? ⟨w.heap.size+1,1,none⟩=some (.slice none 0 0):=Ja rR
 have fR:∀j,w4.frozen? ⟨w.heap.size+1,j,none⟩=false:=λj=>Qg _ _ _ _ _ rR
 have RR:Hid (_=_):=rR
 clear hgp hrow hp4 ht4 rR HF HP1 HT1 c1
 go_wp2
 rw [Jhr _ _ _ _ _ _ _ RR.out]
 have tS:=Ts w4 (w.heap.size+1) #[.int .i64 (wd:Int),.slice (some ⟨gp,0,none⟩) outs.length outs.length]
 refine QJ (v:=.agg #[.int .i64 (wd:Int),.slice (some ⟨gp,0,none⟩) outs.length outs.length]) (Qq results198 _ _ (w.heap.size+1) _ _ (0,0) _ rfl (Qi _ _ _ _ _ _ RR.out) underlying333 rfl (by kernel_rfl)) rfl ⟨gp,rfl,?_,HP4.o.tch tS (by omega) (λ_ h=>by cases h),((HTW.o.mono noE).trans HT4.o (λ_ h=>.inl h)).trans tS (λj hj=>.inr (by omega))⟩
 have hg2:=(tS.block gp (Jb HG.o.1) (by have:=HG.o.2;omega)).trans HG.o.1
 exact Jo.of_row hg2 (Jb hg2)
theorem Jjr (E:Nat->Addr) (wd:Nat) (hw1:1<=wd) (hw:wd<=32) (outs:List (Nat×Nat)) (ho:∀o∈outs,Jr o) (h1:1<=outs.length) (h3:outs.length<=3) (w:World) (hE:Env E w) (base:Nat) (hbase:base<=w.heap.size) (st:Option Tr) (hrec:JG (dgW wd (71 :: JW outs)) 0 outs none=.ok st):
  Calls prog 160 #[.agg #[.string ⟨#[71]⟩,.string ⟨(Jf wd outs).toArray⟩]] w λe w'=>∃W,Tch NoB w W/\Jdx wd base outs st W e w':=by
 obtain ⟨W,hW⟩:∃(W:World),W=w.alloc (.cells #[.string ⟨#[71]⟩,.string ⟨(Jf wd outs).toArray⟩] 195):=⟨_,rfl⟩
 have tW:Tch NoB w W:=by rw [hW];exact Ta _ _ _
 have hbx:W.heap[w.heap.size]? =some (.cells #[.string ⟨#[71]⟩,.string ⟨(Jf wd outs).toArray⟩] 195):=by rw [hW];exact Qf _ _
 have c0:W.cell? ⟨w.heap.size,0,none⟩=some (.string ⟨#[71]⟩):=Ja hbx
 have c1:W.cell? ⟨w.heap.size,1,none⟩=some (.string ⟨(Jf wd outs).toArray⟩):=Ja hbx
 have hK:18<=W.heap.size:=Qm hE.size tW.size
 have HEN:Hid (∀V,Tch NoB W V->Env E V):=λV hT=>(hE.tch tW noE).tch hT noE
 have HNR:Hid (Calls prog 85 #[.int .i64 0,.string ⟨(Jf wd outs).toArray⟩] W λe w'=>e=.returned (.pointer (some ⟨W.heap.size,0,none⟩))/\Jc w' W.heap.size none 0 .nilIface (.rd [] (Jf wd outs))/\Tch NoB W w'):=Xj 0 ⟨(Jf wd outs).toArray⟩ W
 have HST:Hid (∀V,Tch NoB W V->Jc V W.heap.size none 0 .nilIface (.rd [] (Jf wd outs))->Calls prog 198 #[.pointer (some ⟨W.heap.size,0,none⟩),.agg #[.int .i64 0,.slice none 0 0]] V λe w'=>∃gp,e=.returned (.agg #[.int .i64 (wd:Int),.slice (some ⟨gp,0,none⟩) outs.length outs.length])/\Jo w'.heap.size w' (.slice (some ⟨gp,0,none⟩) outs.length outs.length) outs/\Jc w' W.heap.size none 0 .nilIface (.rd (Jf wd outs) [])/\Tch (λk=>k=W.heap.size) V w'):=λV hT hp=>JkC E W.heap.size hK wd hw outs ho h1 h3 V (HEN.o V hT) hp
 have HDN:Hid (∀V,Jc V W.heap.size none 0 .nilIface (.rd (Jf wd outs) [])->Calls prog 88 #[.pointer (some ⟨W.heap.size,0,none⟩)] V λe w'=>e=.returned .nilIface/\Tch NoB V w'):=λV hp=>Jan W.heap.size 0 (Jf wd outs) V hp
 have HNW:Hid (∀V v,Tch NoB W V->Jo V.heap.size V v outs->Calls prog 72 #[.int .i64 (wd:Int),v] V λe w'=>Jdx wd base outs st V e w'):=λV v hT hv=>JdD E wd hw1 hw v outs ho h1 h3 V (HEN.o V hT) hv base (Qm hbase (Qm tW.size hT.size)) st hrec
 have HTW:Hid (Tch NoB w W):=tW
 have HW:Hid (W=_):=hW
 clear hE hrec tW hbx hW hK ho h1 h3 hbase
 generalize (⟨(Jf wd outs).toArray⟩:BA)=cs at *
 generalize Jf wd outs=sb at *
 go_enter func160,ntmps160
 go_upto_region 1 with fail
 rw [<-HW.o]
 go_wp2_with fail
 refine HNR.o.mono ?_
 rintro _ w1 ⟨rfl,hp1,ht1⟩
 have HP1:Hid (Jc _ _ _ _ _ _):=hp1
 have HT1:Hid (Tch NoB W w1):=ht1
 clear hp1 ht1 HNR c0 c1
 go_wp2_with fail
 refine (HST.o w1 HT1.o HP1.o).mono ?_
 rintro _ w2 ⟨gp,rfl,ho2,hp2,ht2⟩
 have HP2:Hid (Jc _ _ _ _ _ _):=hp2
 have HT2:Hid (Tch NoB W w2):=HT1.o.trans ht2 (λj hj=>.inr (by omega))
 obtain ⟨w3,hw3⟩:∃(w3:World),w3=w2.alloc (.cells #[.int .i64 (wd:Int),.slice (some ⟨gp,0,none⟩) outs.length outs.length] 333):=⟨_,rfl⟩
 have t3:Tch NoB w2 w3:=by rw [hw3];exact Ta _ _ _
 have hr3:w3.heap[w2.heap.size]? =some (.cells #[.int .i64 (wd:Int),.slice (some ⟨gp,0,none⟩) outs.length outs.length] 333):=by rw [hw3];exact Qf _ _
 have HW3:Hid (w3=_):=hw3
 have HT3:Hid (Tch NoB W w3):=HT2.o.go t3
 have HP3:Hid (Jc w3 _ _ _ _ _):=hp2.tch t3 (λh=>h) (λ_ h=>by cases h)
 have HC3:Hid (∀V,Tch NoB w3 V->V.cell? ⟨w2.heap.size,0,none⟩=some (.int .i64 (wd:Int))/\V.cell? ⟨w2.heap.size,1,none⟩=some (.slice (some ⟨gp,0,none⟩) outs.length outs.length)/\Jo V.heap.size V (.slice (some ⟨gp,0,none⟩) outs.length outs.length) outs):=λV hT=>by
  have h:=(hT.block _ (Jb hr3) (λh=>h)).trans hr3
  exact ⟨Ja h,Ja h,(ho2.tch (t3.go hT) noE).up (t3.go hT).size⟩
 clear ho2 hp2 ht2 hw3 t3 hr3 HST HP1 HT1 HP2 HT2
 go_upto_region 5 with fail
 rw [<-HW3.o]
 go_wp2_with fail
 refine (HDN.o w3 HP3.o).mono ?_
 rintro _ w4 ⟨rfl,ht4⟩
 have HT4:Hid (Tch NoB W w4):=HT3.o.go ht4
 obtain ⟨d0,d1,d2⟩:=HC3.o w4 ht4
 have HO4:Hid (Jo _ _ _ _):=d2
 clear ht4 d2 HDN HP3 HC3 HT3
 go_wp2_with fail
 refine (HNW.o w4 _ HT4.o HO4.o).mono ?_
 rintro e w5 hn
 obtain ⟨hT5,cb,r,q,lv,rfl,hrest⟩:=hn
 have HR5:Hid (Tch NoB w4 w5/\_):=⟨hT5,hrest⟩
 have HTE:Hid (Tch NoB w w4):=HTW.o.go HT4.o
 clear hT5 hrest HNW HO4 d0 d1
 go_wp2
 go_ret2
 exact ⟨w4,HTE.o,HR5.o.1,cb,r,q,lv,rfl,HR5.o.2⟩
theorem JgF (ct:BA) (w:World) (Q:World->Ending->World->Prop) (hQ:∀W e w',Q W e w'->∃cb,e=.returned (.tuple #[.pointer (some ⟨cb,0,none⟩),.nilIface])) (h:∀W,Tch NoB w W->Calls prog 160 #[.agg #[.string ⟨#[71]⟩,.string ct]] W λe w'=>Q W e w'):
  Calls prog 100 #[.pointer none,.agg #[.string ⟨#[71]⟩,.string ct]] w λe w'=>∃W,Tch NoB w W/\Q W e w':=by
 have H:Hid (∀W,Tch NoB w W->Calls prog 160 #[.agg #[.string ⟨#[71]⟩,.string ct]] W λe w'=>Q W e w'):=h
 clear h
 go_enter func100,ntmps100
 go_wp2_with fail
 refine (H.out _ (Ta _ _ _)).mono ?_
 intro e w1 hq
 obtain ⟨cb,rfl⟩:=hQ _ _ _ hq
 have HQ1:Hid (Q _ _ w1):=hq
 clear hq H hQ
 go_wp2
 go_ret2
 exact ⟨_,Ta _ _ _,HQ1.o⟩
theorem JgC (cb:Nat) (ct:BA) (w:World) (Q:World->World->Prop) (h:∀W,Tch NoB w W->Calls prog 46 #[.pointer (some ⟨cb,0,none⟩),.string ct] W λe w'=>e=.returned .nilIface/\Q W w'):
  Calls prog 100 #[.pointer (some ⟨cb,0,none⟩),.agg #[.string ⟨#[66]⟩,.string ct]] w λe w'=>e=.returned (.tuple #[.pointer (some ⟨cb,0,none⟩),.nilIface])/\∃W,Tch NoB w W/\Q W w':=by
 have H:Hid (∀W,Tch NoB w W->Calls prog 46 #[.pointer (some ⟨cb,0,none⟩),.string ct] W λe w'=>e=.returned .nilIface/\Q W w'):=h
 clear h
 go_enter func100,ntmps100
 go_wp2_with fail
 refine (H.out _ (Ta _ _ _)).mono ?_
 rintro _ w1 ⟨rfl,hq⟩
 have HQ1:Hid (Q _ w1):=hq
 clear hq H
 go_wp2
 go_ret2
 exact ⟨rfl,_,Ta _ _ _,HQ1.o⟩
theorem JgE (cb:Nat) (ct:BA) (w:World) (Q:World->World->Prop) (h:∀W,Tch NoB w W->Calls prog 161 #[.pointer (some ⟨cb,0,none⟩),.string ct] W λe w'=>e=.returned .nilIface/\Q W w'):
  Calls prog 100 #[.pointer (some ⟨cb,0,none⟩),.agg #[.string ⟨#[80]⟩,.string ct]] w λe w'=>e=.returned (.tuple #[.pointer (some ⟨cb,0,none⟩),.nilIface])/\∃W,Tch NoB w W/\Q W w':=by
 have H:Hid (∀W,Tch NoB w W->Calls prog 161 #[.pointer (some ⟨cb,0,none⟩),.string ct] W λe w'=>e=.returned .nilIface/\Q W w'):=h
 clear h
 go_enter func100,ntmps100
 go_wp2_with fail
 refine (H.out _ (Ta _ _ _)).mono ?_
 rintro _ w1 ⟨rfl,hq⟩
 have HQ1:Hid (Q _ w1):=hq
 clear hq H
 go_wp2
 go_ret2
 exact ⟨rfl,_,Ta _ _ _,HQ1.o⟩

structure Yn (wd base pn:Nat) (w:World) (F:Nat->Prop) (fl:Nat) (ch:Ch) (lg:List UInt8) (cb r:Nat) (bs:List BV) (lv:Value):Prop where
 row:Jt w cb wd fl r bs lv
 log:JU base w lv lg
 len:bs.length=ch.length
 pos:fl<ch.length
 most:ch.length<=134217728
 short:lg.length<=1000100 * ch.length+100 * pn
 few:pn<=134217728
 hdr:∀(i:Nat) b c,bs[i]? =some b->ch[i]? =some c->b.1=c.1/\b.1.size<=1000
 st:∀(i:Nat) b c,bs[i]? =some b->ch[i]? =some c->fl<=i->b.2.1=wd/\StAt (dgW wd) F w b.2.2 c.2/\StOk wd c.2
 gone:∀(i:Nat) b,bs[i]? =some b->i<fl->b.2=(0,none)
 ownC:F cb
 ownR:F r
 ownG:∀k,lv.ownBlock=some k->F k
 low:∀j,F j->base<=j/\j<w.heap.size
 kind:∀j,F j->∀cur T m,w.heap[j]? =some (.cells cur T m)->Jg6 T
theorem Yn.keep {wd base pn:Nat} {w w':World} {F S:Nat->Prop} {fl:Nat} {ch:Ch} {lg:List UInt8} {cb r:Nat} {bs:List BV} {lv:Value} (h:Yn wd base pn w F fl ch lg cb r bs lv) (k:Tch S w w') (hs:∀j,S j->¬F j):Yn wd base pn w' F fl ch lg cb r bs lv where
 row:=h.row.tch k (λe=>hs _ e h.ownC) (λe=>hs _ e h.ownR)
 log:=h.log.tch k (λj hj e=>hs _ e (h.ownG j hj))
 len:=h.len
 pos:=h.pos
 most:=h.most
 short:=h.short
 few:=h.few
 hdr:=h.hdr
 st:=λi b c h1 h2 h3=>⟨(h.st i b c h1 h2 h3).1,(h.st i b c h1 h2 h3).2.1.tch k hs,(h.st i b c h1 h2 h3).2.2⟩
 gone:=h.gone
 ownC:=h.ownC
 ownR:=h.ownR
 ownG:=h.ownG
 low:=λj hj=>⟨(h.low j hj).1,Qk (h.low j hj).2 k.size⟩
 kind:=λj hj cur T m hr=>h.kind j hj cur T m ((k.block j (h.low j hj).2 (λe=>hs j e hj)).symm.trans hr)
theorem Yn.last {wd base pn:Nat} {w:World} {F:Nat->Prop} {fl:Nat} {ch:Ch} {lg:List UInt8} {cb r:Nat} {bs:List BV} {lv:Value} (h:Yn wd base pn w F fl ch lg cb r bs lv):
  ∃m bh q st,ch.length=m+1/\bs.length=m+1/\bs[m]? =some (bh,wd,q)/\ch[m]? =some (bh,st)/\bh.size<=1000/\StAt (dgW wd) F w q st/\StOk wd st/\ch.last=(bh,st):=by
 have hp:=h.pos
 obtain ⟨m,hm⟩:∃m,ch.length=m+1:=⟨ch.length - 1,by omega⟩
 have hbm:bs.length=m+1:=by rw [h.len,hm]
 have hb:bs[m]? =some (bs[m]'(by omega)):=Qd (by omega)
 have hc:ch[m]? =some (ch[m]'(by omega)):=Qd (by omega)
 generalize bs[m]'(by omega)=b at hb
 obtain ⟨e1,e2⟩:=h.hdr m _ _ hb hc
 obtain ⟨e3,e4,e5⟩:=h.st m _ _ hb hc (by omega)
 have hlast:ch.last=ch[m]'(by omega):=by
  unfold Ch.last
  rw [List.getLastD_eq_getLast?,List.getLast?_eq_getElem?]
  have e:ch.length - 1=m:=by omega
  rw [e,hc]
  rfl
 generalize hcc:ch[m]'(by omega)=c at *
 obtain ⟨b1,b2,b3⟩:=b
 obtain ⟨c1,c2⟩:=c
 simp only at e1 e3 e4 e5
 subst e1 e3
 exact ⟨m,b1,b3,c2,hm,hbm,hb,hc,e2,e4,e5,hlast⟩
theorem Yn.more {wd base pn:Nat} {w w':World} {F:Nat->Prop} {fl:Nat} {ch:Ch} {lg:List UInt8} {cb r:Nat} {bs:List BV} {lv lv':Value} (h:Yn wd base pn w F fl ch lg cb r bs lv) (hc:ch.length<134217728) {hd:BA} {st:Option Tr} {q:Option Nat} {ext:List UInt8} (hx:ext.length<=1000100)
  (hR:Jt w' cb wd fl r (bs++[(hd,wd,q)]) lv') (hS:StAt (dgW wd) (λj=>(F j/\¬some j=lv.ownBlock)\/w.heap.size<=j) w' q st) (hk:StOk wd st) (hL:JU base w' lv' (lg++ext)) (hT:Tch (λk=>k=cb\/k=r\/some k=lv.ownBlock) w w') (hM:Jm w lv.ownBlock lv'.ownBlock) (hh:hd.size<=1000) (hbw:base<=w.heap.size):
  ∃F':Nat->Prop,(∀j,F' j->F j\/w.heap.size<=j)/\Yn wd base pn w' F' fl (ch++[(hd,st)]) (lg++ext) cb r (bs++[(hd,wd,q)]) lv':=by
 have hTF:∀j,(j=cb\/j=r\/some j=lv.ownBlock)->F j:=λj hj=>by
  rcases hj with rfl | rfl | e
  ·exact h.ownC
  ·exact h.ownR
  ·exact h.ownG j e.symm
 have hnew:∀k,lv'.ownBlock=some k->F k\/w.heap.size<=k:=λk hk=>by
  rcases hM with e | ⟨i,e,hi⟩
  ·exact .inl (h.ownG k (by rw [<-e];exact hk))
  ·rw [hk] at e;cases e;exact .inr hi
 refine ⟨λj=>(F j/\¬(some j=lv.ownBlock/\¬lv'.ownBlock=some j))\/(w.heap.size<=j/\((∃c,w'.heap[j]? =some (.cells c 243))\/lv'.ownBlock=some j)),λj hj=>hj.imp (λe=>e.1) (λe=>e.1),?_⟩
 have hFF:∀j,F j->¬some j=lv.ownBlock->(F j/\¬(some j=lv.ownBlock/\¬lv'.ownBlock=some j))\/(w.heap.size<=j/\((∃c,w'.heap[j]? =some (.cells c 243))\/lv'.ownBlock=some j)):=λj hj hn=>.inl ⟨hj,λe=>hn e.1⟩
 have hne:=h.log.ne_row h.row
 exact {
  row:=hR
  log:=hL
  len:=by rw [Qe,Qe,h.len];rfl
  pos:=by rw [Qe];have:=h.pos;omega
  most:=by rw [Qe];simp only [Qp,Qv];omega
  short:=by rw [Qe,Qe];simp only [Qp,Qv];have:=h.short;omega
  few:=h.few
  hdr:=λi b c h1 h2=>by
   by_cases hi:i<bs.length
   ·rw [QF hi] at h1
    rw [QF (by have:=h.len;omega)] at h2
    exact h.hdr i b c h1 h2
   ·rw [Qz (by omega)] at h1
    rw [Qz (by have:=h.len;omega)] at h2
    have e0:i - bs.length=0:=by have:=(Qo.1 h1).1;simp at this;omega
    rw [e0] at h1
    rw [<-h.len,e0] at h2
    simp only [List.getElem?_cons_zero,Qh] at h1 h2
    subst h1 h2
    exact ⟨rfl,hh⟩
  st:=λi b c h1 h2 h3=>by
   by_cases hi:i<bs.length
   ·rw [QF hi] at h1
    rw [QF (by have:=h.len;omega)] at h2
    obtain ⟨k1,k2,k3⟩:=h.st i b c h1 h2 h3
    have k4:=k2.refine (G:=λj=>F j/\¬(j=cb\/j=r\/some j=lv.ownBlock)) (λj hj hc=>⟨hj,λe=>by
     obtain ⟨cc,hc⟩:=hc
     rcases e with rfl | rfl | e
     ·rw [h.row.row] at hc;simp at hc
     ·rw [h.row.map] at hc;simp at hc
     ·obtain ⟨cu,mm,hr⟩:=h.log.kind j e.symm;rw [hc] at hr;simp at hr⟩)
    exact ⟨k1,(k4.tch hT (λj hj hG=>hG.2 hj)).mono (λj hj=>hFF j hj.1 (λe=>hj.2 (.inr (.inr e)))),k3⟩
   ·rw [Qz (by omega)] at h1
    rw [Qz (by have:=h.len;omega)] at h2
    have e0:i - bs.length=0:=by have:=(Qo.1 h1).1;simp at this;omega
    rw [e0] at h1
    rw [<-h.len,e0] at h2
    simp only [List.getElem?_cons_zero,Qh] at h1 h2
    subst h1 h2
    exact ⟨rfl,hS.refine (λj hj hc=>hj.imp (λe=>⟨e.1,λe2=>e.2 e2.1⟩) (λe=>⟨e,.inl hc⟩)),hk⟩
  gone:=λi b h1 h2=>by
   rw [QF (by have:=h.pos;have:=h.len;omega)] at h1
   exact h.gone i b h1 h2
  ownC:=hFF _ h.ownC hne.1
  ownR:=hFF _ h.ownR hne.2
  ownG:=λk hk=>(hnew k hk).imp (λe=>⟨e,λe2=>e2.2 hk⟩) (λe=>⟨e,.inr hk⟩)
  low:=λj hj=>by
   rcases hj with ⟨hj,hjn⟩ | ⟨hj,hc | hc⟩
   ·exact ⟨(h.low j hj).1,Qk (h.low j hj).2 hT.size⟩
   ·obtain ⟨c,hc⟩:=hc;exact ⟨by omega,(Jb hc)⟩
   ·exact ⟨by omega,(hL.bs.own j hc).2⟩
  kind:=λj hj cur T m hr=>by
   rcases hj with ⟨hj,hjn⟩ | ⟨hj,hc | hc⟩
   ·by_cases e:j=cb\/j=r\/some j=lv.ownBlock
    ·rcases e with rfl | rfl | e
     ·rw [hR.row] at hr;simp at hr;exact .inr (.inl hr.2.1.symm)
     ·rw [hR.map] at hr;simp at hr
     ·obtain ⟨cu,mm,hr0⟩:=h.log.kind j e.symm
      by_cases e2:lv'.ownBlock=some j
      ·obtain ⟨cu',mm',hr2⟩:=hL.kind j e2;rw [hr] at hr2;simp at hr2;exact .inr (.inr (.inr hr2.2.1))
      ·exact absurd ⟨e,e2⟩ hjn
    ·exact h.kind j hj cur T m ((hT.block j (h.low j hj).2 e).symm.trans hr)
   ·obtain ⟨c,hc⟩:=hc;rw [hr] at hc;simp at hc;exact .inr (.inr (.inl hc.2.1))
   ·obtain ⟨cu',mm',hr2⟩:=hL.kind j hc;rw [hr] at hr2;simp at hr2;exact .inr (.inr (.inr hr2.2.1)) }
theorem Yn.prune {wd base pn:Nat} {w w':World} {F:Nat->Prop} {fl:Nat} {ch:Ch} {lg:List UInt8} {cb r:Nat} {bs bs':List BV} {lv lv':Value} (h:Yn wd base pn w F fl ch lg cb r bs lv) (hp:pn<134217728) {n:Nat} (hf:fl<=n) (hn:n<ch.length) {ext:List UInt8} (hx:ext.length<=100)
  (hP:Prn fl n bs bs') (hR:Jt w' cb wd n r bs' lv') (hL:JU base w' lv' (lg++ext)) (hT:Tch (λk=>k=cb\/k=r\/some k=lv.ownBlock) w w') (hM:Jm w lv.ownBlock lv'.ownBlock) (hbw:base<=w.heap.size):
  ∃F':Nat->Prop,(∀j,F' j->F j\/w.heap.size<=j)/\Yn wd base (pn+1) w' F' n ch (lg++ext) cb r bs' lv':=by
 have hnew:∀k,lv'.ownBlock=some k->F k\/w.heap.size<=k:=λk hk=>by
  rcases hM with e | ⟨i,e,hi⟩
  ·exact .inl (h.ownG k (by rw [<-e];exact hk))
  ·rw [hk] at e;cases e;exact .inr hi
 refine ⟨λj=>(F j/\¬(some j=lv.ownBlock/\¬lv'.ownBlock=some j))\/(w.heap.size<=j/\lv'.ownBlock=some j),λj hj=>hj.imp (λe=>e.1) (λe=>e.1),?_⟩
 have hFF:∀j,F j->¬some j=lv.ownBlock->(F j/\¬(some j=lv.ownBlock/\¬lv'.ownBlock=some j))\/(w.heap.size<=j/\lv'.ownBlock=some j):=λj hj hn=>.inl ⟨hj,λe=>hn e.1⟩
 have hne:=h.log.ne_row h.row
 have hold:∀(i:Nat) b,bs'[i]? =some b->∃b0,bs[i]? =some b0/\b.1=b0.1/\(n<=i->b=b0)/\(i<n->b.2=(0,none)):=λi b hb=>by
  have:=hP i
  rw [hb] at this
  by_cases c:fl<=i/\i<n
  ·rw [if_pos c] at this
   obtain ⟨b0,e1,e2⟩:=Option.map_eq_some_iff.1 this.symm
   exact ⟨b0,e1,by rw [<-e2],λe=>by omega,λ_=>by rw [<-e2]⟩
  ·rw [if_neg c] at this
   exact ⟨b,this.symm,rfl,λ_=>rfl,λe=>h.gone i b this.symm (by omega)⟩
 exact {
  row:=hR
  log:=hL
  len:=by rw [hP.length,h.len]
  pos:=hn
  most:=h.most
  short:=by rw [Qe];have:=h.short;omega
  few:=by omega
  hdr:=λi b c h1 h2=>by
   obtain ⟨b0,e1,e2,_⟩:=hold i b h1
   rw [e2]
   exact h.hdr i b0 c e1 h2
  st:=λi b c h1 h2 h3=>by
   obtain ⟨b0,e1,_,e3,_⟩:=hold i b h1
   rw [e3 h3]
   obtain ⟨k1,k2,k3⟩:=h.st i b0 c e1 h2 (by omega)
   have k4:=k2.refine (G:=λj=>F j/\¬(j=cb\/j=r\/some j=lv.ownBlock)) (λj hj hc=>⟨hj,λe=>by
    obtain ⟨cc,hc⟩:=hc
    rcases e with rfl | rfl | e
    ·rw [h.row.row] at hc;simp at hc
    ·rw [h.row.map] at hc;simp at hc
    ·obtain ⟨cu,mm,hr⟩:=h.log.kind j e.symm;rw [hc] at hr;simp at hr⟩)
   exact ⟨k1,(k4.tch hT (λj hj hG=>hG.2 hj)).mono (λj hj=>hFF j hj.1 (λe=>hj.2 (.inr (.inr e)))),k3⟩
  gone:=λi b h1 h2=>by
   obtain ⟨b0,_,_,_,e4⟩:=hold i b h1
   exact e4 h2
  ownC:=hFF _ h.ownC hne.1
  ownR:=hFF _ h.ownR hne.2
  ownG:=λk hk=>(hnew k hk).imp (λe=>⟨e,λe2=>e2.2 hk⟩) (λe=>⟨e,hk⟩)
  low:=λj hj=>by
   rcases hj with ⟨hj,hjn⟩ | ⟨hj,hc⟩
   ·exact ⟨(h.low j hj).1,Qk (h.low j hj).2 hT.size⟩
   ·exact ⟨by omega,(hL.bs.own j hc).2⟩
  kind:=λj hj cur T m hr=>by
   rcases hj with ⟨hj,hjn⟩ | ⟨hj,hc⟩
   ·by_cases e:j=cb\/j=r\/some j=lv.ownBlock
    ·rcases e with rfl | rfl | e
     ·rw [hR.row] at hr;simp at hr;exact .inr (.inl hr.2.1.symm)
     ·rw [hR.map] at hr;simp at hr
     ·by_cases e2:lv'.ownBlock=some j
      ·obtain ⟨cu',mm',hr2⟩:=hL.kind j e2;rw [hr] at hr2;simp at hr2;exact .inr (.inr (.inr hr2.2.1))
      ·exact absurd ⟨e,e2⟩ hjn
    ·exact h.kind j hj cur T m ((hT.block j (h.low j hj).2 e).symm.trans hr)
   ·obtain ⟨cu',mm',hr2⟩:=hL.kind j hc;rw [hr] at hr2;simp at hr2;exact .inr (.inr (.inr hr2.2.1)) }
theorem Yn.first {wd base:Nat} (hw:wd<=32) {outs:List (Nat×Nat)} (h3:outs.length<=3) {st:Option Tr} {w w1:World} (hbw:base<=w.heap.size) {cb r:Nat} {q:Option Nat} {lv:Value} (k1:w.heap.size<=cb) (k2:w.heap.size<=r) (k3:Jt w1 cb wd 0 r [(⟨(hdrB (XA wd outs st)).toArray⟩,wd,q)] lv) (k4:StAt (dgW wd) (λj=>w.heap.size<=j) w1 q st) (k5:StOk wd st) (k6:JU base w1 lv (recB [71] (Jf wd outs))) (k7:∀k,lv.ownBlock=some k->w.heap.size<=k):
  Yn wd base 0 w1 (λj=>w.heap.size<=j/\(j=cb\/j=r\/(∃c,w1.heap[j]? =some (.cells c 243))\/lv.ownBlock=some j)) 0 [(⟨(hdrB (XA wd outs st)).toArray⟩,st)] (recB [71] (Jf wd outs)) cb r [(⟨(hdrB (XA wd outs st)).toArray⟩,wd,q)] lv:=by
 have hhl:(hdrB (XA wd outs st)).length<=1000:=by
  unfold hdrB XA
  simp only [Qe,Je,XU,Jq wd hw,XW (dgW wd) wd (Jq wd hw)]
  unfold Jde
  rw [Ju,List.length_replicate]
  omega
 exact {
  row:=k3
  log:=k6
  len:=rfl
  pos:=by simp
  most:=by simp
  short:=by
   have:∀l:List (Nat×Nat),(l.flatMap outB).length=l.length * 9:=by
    intro l
    induction l with
    | nil=>rfl
    | cons x r ih=>rw [QG,Qe,ih];unfold outB;simp only [Qe,Je,Qp];omega
   rw [Yg]
   unfold Jf JW
   rw [Qe,Qe,Je,Je,this]
   simp only [Qp,Qv]
   omega
  few:=by omega
  hdr:=λi b c h1 h2=>by
   cases i with
   | zero=>
    simp only [List.getElem?_cons_zero,Qh] at h1 h2
    subst h1 h2
    exact ⟨rfl,by rw [Ju];exact hhl⟩
   | succ i=>simp at h1
  st:=λi b c h1 h2 _=>by
   cases i with
   | zero=>
    simp only [List.getElem?_cons_zero,Qh] at h1 h2
    subst h1 h2
    exact ⟨rfl,k4.refine (λj hj hc=>⟨hj,.inr (.inr (.inl hc))⟩),k5⟩
   | succ i=>simp at h1
  gone:=λi b _ h2=>absurd h2 (by omega)
  ownC:=⟨k1,.inl rfl⟩
  ownR:=⟨k2,.inr (.inl rfl)⟩
  ownG:=λk hk=>⟨k7 k hk,.inr (.inr (.inr hk))⟩
  low:=λj hj=>by
   rcases hj with ⟨hj,rfl | rfl | ⟨c,hc⟩ | hc⟩
   ·exact ⟨by omega,(Jb k3.row)⟩
   ·exact ⟨by omega,(Jb k3.map)⟩
   ·exact ⟨by omega,(Jb hc)⟩
   ·exact ⟨by omega,(k6.bs.own j hc).2⟩
  kind:=λj hj cur T m hr=>by
   rcases hj with ⟨hj,rfl | rfl | ⟨c,hc⟩ | hc⟩
   ·rw [k3.row] at hr;simp at hr;exact .inr (.inl hr.2.1.symm)
   ·rw [k3.map] at hr;simp at hr
   ·rw [hc] at hr;simp at hr;exact .inr (.inr (.inl hr.2.1.symm))
   ·obtain ⟨cu,mm,hr2⟩:=k6.kind j hc;rw [hr2] at hr;simp at hr;exact .inr (.inr (.inr hr.2.1.symm)) }
theorem Yn.about {wd base pn:Nat} {w:World} {F:Nat->Prop} {fl:Nat} {ch:Ch} {lg:List UInt8} {cb r:Nat} {bs:List BV} {lv:Value} (h:Yn wd base pn w F fl ch lg cb r bs lv) (hbw:base<=w.heap.size):
  Xq wd base pn (w.alloc (.cells #[.pointer (some ⟨cb,0,none⟩)] 90)) w.heap.size (λj=>j=w.heap.size\/F j) fl ch lg cb r bs lv:=by
 have tA:=Ta NoB w (.cells #[.pointer (some ⟨cb,0,none⟩)] 90)
 have k:=h.keep tA (λ_ e=>e.elim)
 exact {
  led:=Qf _ _
  row:=k.row
  log:=k.log
  len:=k.len
  pos:=k.pos
  most:=k.most
  short:=k.short
  few:=k.few
  hdr:=k.hdr
  st:=λi b c h1 h2 h3=>⟨(k.st i b c h1 h2 h3).1,(k.st i b c h1 h2 h3).2.1.mono (λ_ h=>.inr h),(k.st i b c h1 h2 h3).2.2⟩
  gone:=k.gone
  ownL:=.inl rfl
  ownC:=.inr k.ownC
  ownR:=.inr k.ownR
  ownG:=λj hj=>.inr (k.ownG j hj)
  low:=λj hj=>by
   rcases hj with rfl | hj
   ·exact ⟨hbw,by rw [World.size_alloc];omega⟩
   ·exact k.low j hj
  kind:=λj hj cur T m hr=>by
   rcases hj with rfl | hj
   ·rw [Qf] at hr;simp at hr;exact .inl hr.2.1.symm
   ·exact k.kind j hj cur T m hr }

def CnAt (wd base:Nat) (c0:BA×Option Tr) (g:List UInt8) (evs:List Ev) (w:World) (cb:Nat) (F:Nat->Prop):Prop:=
 ∃ch fl r bs lv,Yn wd base (flos evs) w F fl ch (logB g evs) cb r bs lv/\Hist wd c0 evs ch fl
theorem CnAt.keep {wd base:Nat} {c0:BA×Option Tr} {g:List UInt8} {evs:List Ev} {w w':World} {cb:Nat} {F S:Nat->Prop} (h:CnAt wd base c0 g evs w cb F) (k:Tch S w w') (hs:∀j,S j->¬F j):CnAt wd base c0 g evs w' cb F:=by
 obtain ⟨ch,fl,r,bs,lv,C,H⟩:=h
 exact ⟨ch,fl,r,bs,lv,C.keep k hs,H⟩
def ReTo (wd base:Nat) (c0:BA×Option Tr) (g:List UInt8) (evs:List Ev) (cb:Nat) (F:Nat->Prop) (w w':World):Prop:=
 Tch F w w'/\∃F':Nat->Prop,(∀j,F' j->F j\/w.heap.size<=j)/\CnAt wd base c0 g evs w' cb F'
theorem ReTo.pre {wd base:Nat} {c0:BA×Option Tr} {g:List UInt8} {evs:List Ev} {cb:Nat} {F:Nat->Prop} {w W w':World} (k:Tch NoB w W) (h:ReTo wd base c0 g evs cb F W w'):ReTo wd base c0 g evs cb F w w':=by
 obtain ⟨h1,F',h2,h3⟩:=h
 exact ⟨(k.mono (λ_ e=>e.elim)).trans h1 (λ_ e=>.inl e),F',λj hj=>(h2 j hj).imp (λe=>e) (λe=>Qm k.size e),h3⟩
theorem JlE (E:Nat->Addr) {wd base:Nat} (hw1:1<=wd) (hw:wd<=32) {c0:BA×Option Tr} {g:List UInt8} {evs:List Ev} (e:Ev) {ch':Ch} {fl':Nat} (hH:Hist wd c0 (evs++[e]) ch' fl') (hm:ch'.length<134217728) (hp:flos (evs++[e])<=134217728) {w:World} (hE:Env E w) {cb:Nat} {F:Nat->Prop} (h:CnAt wd base c0 g evs w cb F):
  Calls Tryz.prog 100 #[.pointer (some ⟨cb,0,none⟩),.agg #[.string ⟨e.letter.toArray⟩,.string ⟨e.content.toArray⟩]] w λen w'=>en=.returned (.tuple #[.pointer (some ⟨cb,0,none⟩),.nilIface])/\ReTo wd base c0 g (evs++[e]) cb F w w':=by
 obtain ⟨ch,fl,r,bs,lv,C,H⟩:=h
 obtain ⟨ch0,fl0,hH0,hpre,hb⟩:=hH.back
 obtain ⟨rfl,rfl⟩:=H.same hH0
 have hsm:=hH.small e (by simp)
 have hbw:base<=w.heap.size:=by have:=C.low cb C.ownC;omega
 have hch:ch.length<=ch'.length:=hpre.length_le
 have hsh:=C.short
 have hfw:=C.few
 have own:∀j,(j=cb\/j=r\/some j=lv.ownBlock)->F j:=λj hj=>by
  rcases hj with rfl | rfl | e
  ·exact C.ownC
  ·exact C.ownR
  ·exact C.ownG j e.symm
 cases e using Ev.on with
 | blk t=>
  obtain ⟨hsub,rfl⟩:=hb
  dsimp only [Ev.content] at hsm
  refine (JgC cb ⟨t.toArray⟩ w (λW w'=>ReTo wd base c0 g (evs++[.blk t]) cb F W w') (λW hT=>?_)).mono λen w' ⟨k1,W,hT,k2⟩=>⟨k1,k2.pre hT⟩
  have CW:=C.keep hT (λ_ e=>e.elim)
  obtain ⟨m,bh,q,st,hm2,hbm,hbb,hcm,hbs,hst,hok,hlast⟩:=CW.last
  have hst2:StAt (dgW wd) (λj=>(F j/\¬some j=lv.ownBlock)\/W.heap.size<=j) W q st:=hst.refine (λj hj hc=>.inl ⟨hj,λe=>by
   obtain ⟨cc,hc⟩:=hc
   obtain ⟨cu,mm,hr⟩:=CW.log.kind j e.symm
   rw [hc] at hr
   simp at hr⟩)
  have hsz:(⟨t.toArray⟩:BA).size<=1000000:=by rw [Ju];omega
  have hbW:base<=W.heap.size:=Qm hbw hT.size
  have HS:=JaZ E (hE.tch hT noE) hw1 hw CW.row m hbm (by omega) bh q st hbb hbs (λj=>(F j/\¬some j=lv.ownBlock)\/W.heap.size<=j) (λj hj=>.inr hj) hst2 hok base hbW (logB g evs) CW.log (by omega) ⟨t.toArray⟩ (Qm hsz (by decide))
  rw [Jc5 (dgW wd) wd m bh st ch hm2 hlast] at hsub
  have et:(⟨t.toArray⟩:BA).data.toList=t:=by simp
  rw [et] at HS
  cases hq:subP (dgW wd) wd m bh st t with
  | error er=>rw [hq] at hsub;cases hsub
  | ok x=>
   obtain ⟨hd,st'⟩:=x
   rw [hq] at hsub HS
   simp only [Except.ok.injEq] at hsub
   refine HS.mono λen w' k=>?_
   obtain ⟨k0,q',lv',k1,k2,k3,k4,k5,k6⟩:=k
   rw [et] at k4
   have hx:(recB [66] t).length<=1000100:=by rw [Yg];simp only [Qp,Qv];omega
   obtain ⟨F',hF',C'⟩:=CW.more (by omega) hx k1 k2 k3 k4 k5 k6 (Jd6 hw hq).1 hbW
   refine ⟨k0,k5.mono (λj hj=>.inl (own j hj)),F',hF',ch',_,r,bs++[(hd,wd,q')],lv',?_,hH⟩
   rw [<-hsub,ZC,Zz]
   exact C'
 | flo n=>
  obtain ⟨rfl,rfl,hf,hn,hn2⟩:=hb
  have hc0:w.cell? ⟨cb,0,none⟩=some (.int .i64 (wd:Int)):=Ja C.row.row
  refine (JgE cb ⟨(beL fl' 4 4).toArray⟩ w (λW w'=>ReTo wd base c0 g (evs++[.flo fl']) cb F W w') (λW hT=>?_)).mono λen w' ⟨k1,W,hT,k2⟩=>⟨k1,k2.pre hT⟩
  have hcW:=(hT.cell (Qr _ _ hc0) (λh=>h)).trans hc0
  refine (Jdr hcW fl' hn2 (λV w'=>ReTo wd base c0 g (evs++[.flo fl']) cb F V w') (λV hV=>?_)).mono λen w' ⟨k1,V,hV,k2⟩=>⟨k1,k2.pre hV⟩
  have CV:=C.keep (hT.go hV) (λ_ e=>e.elim)
  have hbV:base<=V.heap.size:=Qm hbw (hT.go hV).size
  refine (Jcs E (hE.tch (hT.go hV) noE) CV.row base hbV (logB g evs) CV.log (by omega) fl' hf (by rw [CV.len];exact hn) (by rw [CV.len];omega)).mono λen w' k=>?_
  obtain ⟨k0,lv',bs',k1,k2,k3,k4,k5⟩:=k
  rw [Zz] at hp
  have hp2:flos evs<134217728:=by simp only [Ev.isB] at hp;simp at hp;omega
  obtain ⟨F',hF',C'⟩:=CV.prune hp2 hf hn (by rw [Yg,Je];simp) k1 k2 k3 k4 k5 hbV
  refine ⟨k0,k4.mono (λj hj=>.inl (own j hj)),F',hF',ch',_,r,bs',lv',?_,hH⟩
  rw [ZC,Zz]
  exact C'
theorem JgD (E:Nat->Addr) {wd base:Nat} (hw1:1<=wd) (hw:wd<=32) (outs:List (Nat×Nat)) (ho:∀o∈outs,Jr o) (h1:1<=outs.length) (h3:outs.length<=3) (w:World) (hE:Env E w) (hbase:base<=w.heap.size) (st:Option Tr) (hrec:JG (dgW wd (71 :: JW outs)) 0 outs none=.ok st):
  Calls Tryz.prog 100 #[.pointer none,.agg #[.string ⟨#[71]⟩,.string ⟨(Jf wd outs).toArray⟩]] w λen w'=>Tch NoB w w'/\∃cb F,en=.returned (.tuple #[.pointer (some ⟨cb,0,none⟩),.nilIface])/\(∀j,F j->w.heap.size<=j)/\CnAt wd base (⟨(hdrB (XA wd outs st)).toArray⟩,st) (Jf wd outs) [] w' cb F:=by
 refine (JgF ⟨(Jf wd outs).toArray⟩ w (λW e w'=>∃V,Tch NoB W V/\Jdx wd base outs st V e w') (λW e w' ⟨V,_,hN⟩=>?_) (λW hT=>Jjr E wd hw1 hw outs ho h1 h3 W (hE.tch hT noE) base (Qm hbase hT.size) st hrec)).mono ?_
 ·obtain ⟨_,cb,_,_,_,rfl,_⟩:=hN
  exact ⟨cb,rfl⟩
 ·rintro en w' ⟨W,hT,V,hV,k0,cb,r,q,lv,rfl,k1,k2,k3,k4,k5,k6,k7⟩
  have hs:=(hT.go hV).size
  have C:=Yn.first hw h3 (Qm hbase hs) k1 k2 k3 k4 k5 k6 k7
  refine ⟨(hT.go hV).go k0,cb,_,rfl,?_,_,_,r,_,lv,by rw [show logB (Jf wd outs) []=recB [71] (Jf wd outs) from QC _];exact C,.nil⟩
  exact λj hj=>Qm hs hj.1


attribute [local go_sem] Oper.semAt_some
