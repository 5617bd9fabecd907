import Derived.Test.YtighkdnooglfjaaGreatDoorBxLwE
import Derived.Test.YtighkdnooglfjaaGreatDoorBxChA
namespace Go.Proofs.YtighkdnooglfjaaGreatDoor
open Tryz
set_option maxRecDepth 100000
set_option maxHeartbeats 4000000
open Go.RowKit

theorem JlU {B:Nat} (w:World) (v:Value) (n:Nat) (sl:Nat->Sl×Sl) (c o:Nat->List VV) (hn:n<=1000000) (hB:B<=w.heap.size) (hv:TxV B w v n sl c o):
  Calls prog 179 #[v] w λe w'=>∃nb gt vi vo ga gb hb,e=.returned (.pointer (some ⟨nb,0,none⟩))/\JQ w.heap.size w' nb gt n vi vo c o ga gb hb 0/\Tch NoB w w':=by
 obtain ⟨ia,ic,hvs⟩:=hv.shape
 subst hvs
 have HV:Hid (TxV B w (.slice ia n ic) n sl c o):=hv
 have hmk:=mkV isT (n+8) (by omega) w
 have wn:IntKind.i64.wrap ((n:Int)+8)=((n+8:Nat):Int):=by rw [w63 _ (by omega) (by omega)];omega
 generalize hmm:n+8=m at *
 have HM:Hid (n+8=m):=hmm
 have hm3:(m:Int)<=1000008:=by omega
 have HBW:Hid (B<=w.heap.size):=hB
 clear hv hmm hB
 have hA0:Hid (Lnd w.heap.size ((w.alloc (.cells (vvA (List.replicate m zT)) 98)).alloc (.cells #[.slice (some ⟨w.heap.size,0,none⟩) m m,.slice none 0 0,.slice none 0 0] 311)) (w.heap.size+1) w.heap.size m (.slice none 0 0) (.slice none 0 0) (List.replicate m zT) [] []):=
  ⟨by have:=Qf (w.alloc (.cells (vvA (List.replicate m zT)) 98)) (.cells #[.slice (some ⟨w.heap.size,0,none⟩) m m,.slice none 0 0,.slice none 0 0] 311);rw [World.size_alloc] at this;exact this,heap_alloc2_old _ _ _,VOwn.nil _ _ _,VOwn.nil _ _ _,by omega,by omega⟩
 have hT0:Hid (Tch NoB w ((w.alloc (.cells (vvA (List.replicate m zT)) 98)).alloc (.cells #[.slice (some ⟨w.heap.size,0,none⟩) m m,.slice none 0 0,.slice none 0 0] 311))):=Tch.allocs _ _ _ _
 go_enter func179,ntmps179
 go_wp2
 generalize (w.alloc (.cells (vvA (List.replicate m zT)) 98)).alloc (.cells #[.slice (some ⟨w.heap.size,0,none⟩) m m,.slice none 0 0,.slice none 0 0] 311)=w0 at *
 go_loopw [4,5,6] (λi _ _ wr=>∃(k:Nat) (vi vo:Value) (ga gb:Nat->Nat),k<=n/\i=.int .i64 (k:Int)/\Hid (Lnd w.heap.size wr (w.heap.size+1) w.heap.size m vi vo ((List.range k).map (txE c o ga gb)++List.replicate (m - k) zT) ((List.range k).map (inV c ga)) ((List.range k).map (inV o gb)))/\Hid (LC w.heap.size wr 0 k c o ga gb)/\Hid (Tch NoB w wr)) (λi _ _ _=>n - (intOf i).toNat)
 case atStart=>exact ⟨0,_,_,λ_=>0,λ_=>0,by omega,rfl,hA0.out,⟨λi _ h=>absurd h (by omega),λi _ h=>absurd h (by omega),λi j _ h=>absurd h (by omega),λi j _ h=>absurd h (by omega)⟩,hT0.out⟩
 case round=>
  clear hmk
  obtain ⟨k,vi,vo,ga,gb,hk,rfl,HL,HC,HT⟩:=hrel
  obtain ⟨ya,yn,yc,rfl⟩:=HL.o.ins.shape3
  obtain ⟨za,zn,zc,rfl⟩:=HL.o.outs.shape3
  by_cases hlt:k<n
  ·have hlti:(k:Int)<(n:Int):=by omega
   obtain ⟨gi,oi,rfl,hgB,hgi,f0,f1⟩:=HV.o.cell k hlt
   obtain ⟨l1,l2⟩:=HV.o.lens k hlt
   obtain ⟨v1,s1,b1⟩:=HV.o.ins k hlt
   obtain ⟨v2,s2,b2⟩:=HV.o.outs k hlt
   unfold sV1 at f0 f1 v1 v2
   rw [l1] at f0 v1
   rw [l2] at f1 v2
   generalize (sl k).1.1=a1 at *
   generalize (sl k).1.2.2=c1 at *
   generalize (sl k).2.1=a2 at *
   generalize (sl k).2.2.2=c2 at *
   have HLC:Hid (∀V,Tch NoB w V->Calls prog 264 #[.slice a1 (c k).length c1] V λe w'=>∃g,e=.returned (.slice (some ⟨g,0,none⟩) ((c k).length+8) ((c k).length+8))/\V.heap.size<=g/\w'.heap[g]? =some (.cells (vvA (c k++Yw)) 49)/\Tch NoB V w'):=λV hV=>Je8 V _ (c k) b1 (v1.tch hV (λ_ e=>e.elim)) s1
   have HLO:Hid (∀V,Tch NoB w V->Calls prog 62 #[.slice a2 (o k).length c2] V λe w'=>∃g,e=.returned (.slice (some ⟨g,0,none⟩) ((o k).length+8) ((o k).length+8))/\V.heap.size<=g/\w'.heap[g]? =some (.cells (vvA (o k++Xw)) 80)/\Tch NoB V w'):=λV hV=>Jcs V _ (o k) b2 (v2.tch hV (λ_ e=>e.elim)) s2
   have HCE:Hid (∀V S,Tch S w V->(∀j,S j->w.heap.size<=j)->V.cell? ⟨gi,oi+k * 2,none⟩=some (.slice a1 (c k).length c1)/\V.cell? ⟨gi,oi+k * 2+1,none⟩=some (.slice a2 (o k).length c2)):=λV S hV hS=>by
    have hn':¬S gi:=λe=>by have:=hS gi e;omega
    exact ⟨(hV.cell (p:=⟨gi,oi+k * 2,none⟩) hgi hn').trans f0,(hV.cell (p:=⟨gi,oi+k * 2+1,none⟩) hgi hn').trans f1⟩
   have HIV:Hid (∀g,inV c (upd ga k g) k=.slice (some ⟨g,0,none⟩) ((c k).length+8) ((c k).length+8)):=λg=>by unfold inV;rw [Ze]
   have HIO:Hid (∀g,inV o (upd gb k g) k=.slice (some ⟨g,0,none⟩) ((o k).length+8) ((o k).length+8)):=λg=>by unfold inV;rw [Ze]
   have HTE:Hid (∀g g',txE c o (upd ga k g) (upd gb k g') k=(.slice (some ⟨g,0,none⟩) (c k).length ((c k).length+8),.slice (some ⟨g',0,none⟩) (o k).length ((o k).length+8))):=λg g'=>by unfold txE;rw [Ze,Ze]
   clear l1 l2 v1 s1 v2 s2 f0 f1
   generalize hlc:(c k).length=lc at *
   generalize hlo:(o k).length=lo at *
   generalize hl1:lc+8=lc8 at *
   generalize hl2:lo+8=lo8 at *
   have hlc8:(lc:Int)<=(lc8:Int):=by omega
   have hlo8:(lo:Int)<=(lo8:Int):=by omega
   clear hlc hlo hl1 hl2
   obtain ⟨x0,x1⟩:=HCE.o wr _ HT.o (λ_ e=>e.elim)
   go_wp2_with fail
   refine (HLC.o wr HT.o).mono ?_
   rintro _ w1 ⟨g1,rfl,hg1,hr1,ht1⟩
   have HT1:Hid (Tch NoB w w1):=HT.o.go ht1
   have HG1:Hid (wr.heap.size<=g1/\w1.heap[g1]? =some (.cells (vvA (c k++Yw)) 49)):=⟨hg1,hr1⟩
   have HA1:Hid (Tch NoB wr w1):=ht1
   clear x0 x1 ht1 hg1 hr1
   obtain ⟨x0,x1⟩:=HCE.o w1 _ HT1.o (λ_ e=>e.elim)
   go_wp2_with fail
   refine (HLO.o w1 HT1.o).mono ?_
   rintro _ w2 ⟨g2,rfl,hg2,hr2,ht2⟩
   have HT2:Hid (Tch NoB w w2):=HT1.o.go ht2
   have HG2:Hid (w1.heap.size<=g2/\w2.heap[g2]? =some (.cells (vvA (o k++Xw)) 80)):=⟨hg2,hr2⟩
   have HA2:Hid (Tch NoB w1 w2):=ht2
   have HL2:Hid (Lnd _ w2 _ _ _ _ _ _ _ _):=(HL.o.tch0 HA1.o).tch0 ht2
   clear x0 x1 ht2 hg2 hr2
   have HGA:Hid (∀i,i<k->ga i<wr.heap.size/\gb i<wr.heap.size):=λi hi=>⟨(QJ.1 (HC.o.rowC i (by omega) hi).2).1,(QJ.1 (HC.o.rowO i (by omega) hi).2).1⟩
   obtain ⟨W3,hW3⟩:∃W3,W3=w2.alloc (.cells #[.slice (some ⟨g1,0,none⟩) lc8 lc8] 96):=⟨_,rfl⟩
   have t3:Tch NoB w2 W3:=by rw [hW3];exact Ta _ _ _
   have HWW:Hid (W3=w2.alloc _):=hW3
   have HC3:Hid (W3.cell? ⟨w2.heap.size,0,none⟩=some (.slice (some ⟨g1,0,none⟩) lc8 lc8)):=by show _=_;rw [hW3];exact Ja (Qf _ _)
   have HL3:Hid (Lnd _ W3 _ _ _ _ _ _ _ _):=HL2.o.tch0 t3
   have HT3:Hid (Tch NoB w W3):=HT2.o.go t3
   have HLC3:Hid (LC w.heap.size W3 0 (k+1) c o (upd ga k g1) (upd gb k g2)):=by
    have hs:=HT.o.size
    have hs1:=HA1.o.size
    have h1:=HG1.o
    have h2:=HG2.o
    have tA:Tch NoB wr W3:=(HA1.o.go HA2.o).go t3
    have tB:Tch NoB w1 W3:=HA2.o.go t3
    refine (HC.o.tch tA (λ_ _ _ _ e=>e)).more ⟨by omega,(tB.block g1 (Jb h1.2) (λe=>e)).trans h1.2⟩ ⟨by omega,(t3.block g2 (Jb h2.2) (λe=>e)).trans h2.2⟩ (λi hi=>?_) (λi hi=>?_)
    ·have:=(HGA.o i hi).1;omega
    ·have:=(HGA.o i hi).2;omega
   have q1:w2.cell? ⟨w.heap.size+1,1,none⟩=some (.slice ya yn yc):=Ja HL2.o.row
   clear t3 hW3
   go_upto_region 8 with (at_builtin;rw [<-HWW.o];refine XU Jl2 rfl _ _ rfl rfl HL3.o.ins _ _ rfl HC3.o rfl (by simp;omega) HT3.o.size ?_;intro v4 w4 hv4 hg4 ho4;obtain ⟨ea,en,ec,rfl⟩:=hv4.shape3;obtain ⟨r0,r1,r2,r3⟩:=HL3.o.app1 hv4 hg4;have HL5:Hid (Lnd _ _ _ _ _ _ _ _ _ _):=r2;have HT5:Hid (Tch _ W3 _):=r3;clear r2 r3 hv4 hg4 ho4)
   generalize w4.setCell ⟨w.heap.size+1,1,none⟩ (.slice ea en ec)=w5 at *
   have HLC5:Hid (LC w.heap.size w5 0 (k+1) c o (upd ga k g1) (upd gb k g2)):=HLC3.o.tch HT5.o (λj cs mm hj e=>by
    rcases e with rfl | e
    ·rcases hj with hj | hj <;> (rw [HL3.o.row] at hj;simp at hj)
    ·obtain ⟨_,_,_,_,hr⟩:=HL3.o.ins.own j e
     rcases hj with hj | hj <;> (rw [hr] at hj;simp at hj))
   have HTW5:Hid (Tch NoB w w5):=HT3.o.trans HT5.o (λj hj=>.inr (by
    rcases hj with rfl | hj
    ·omega
    ·exact (HL3.o.ins.own j hj).1))
   clear r0 r1 q1
   obtain ⟨W6,hW6⟩:∃W6,W6=w5.alloc (.cells #[.slice (some ⟨g2,0,none⟩) lo8 lo8] 22):=⟨_,rfl⟩
   have t6:Tch NoB w5 W6:=by rw [hW6];exact Ta _ _ _
   have HWV:Hid (W6=w5.alloc _):=hW6
   have HC6:Hid (W6.cell? ⟨w5.heap.size,0,none⟩=some (.slice (some ⟨g2,0,none⟩) lo8 lo8)):=by show _=_;rw [hW6];exact Ja (Qf _ _)
   have HL6:Hid (Lnd _ W6 _ _ _ _ _ _ _ _):=HL5.o.tch0 t6
   have HT6:Hid (Tch NoB w W6):=HTW5.o.go t6
   have HLC6:Hid (LC w.heap.size W6 0 (k+1) c o (upd ga k g1) (upd gb k g2)):=HLC5.o.tch t6 (λ_ _ _ _ e=>e)
   have q1:w5.cell? ⟨w.heap.size+1,2,none⟩=some (.slice za zn zc):=Ja HL5.o.row
   clear t6 hW6
   go_upto_region 9 with (at_builtin;rw [<-HWV.o];refine XU Jl4 rfl _ _ rfl rfl HL6.o.outs _ _ rfl HC6.o rfl (by simp;omega) HT6.o.size ?_;intro v7 w7 hv7 hg7 ho7;obtain ⟨fa,fn,fc,rfl⟩:=hv7.shape3;obtain ⟨r0,r1,r2,r3⟩:=HL6.o.app2 hv7 hg7;have HL8:Hid (Lnd _ _ _ _ _ _ _ _ _ _):=r2;have HT8:Hid (Tch _ W6 _):=r3;clear r2 r3 hv7 hg7 ho7)
   generalize w7.setCell ⟨w.heap.size+1,2,none⟩ (.slice fa fn fc)=w8 at *
   have HLC8:Hid (LC w.heap.size w8 0 (k+1) c o (upd ga k g1) (upd gb k g2)):=HLC6.o.tch HT8.o (λj cs mm hj e=>by
    rcases e with rfl | e
    ·rcases hj with hj | hj <;> (rw [HL6.o.row] at hj;simp at hj)
    ·obtain ⟨_,_,_,_,hr⟩:=HL6.o.outs.own j e
     rcases hj with hj | hj <;> (rw [hr] at hj;simp at hj))
   have HTW8:Hid (Tch NoB w w8):=HT6.o.trans HT8.o (λj hj=>.inr (by
    rcases hj with rfl | hj
    ·omega
    ·exact (HL6.o.outs.own j hj).1))
   clear r0 r1 q1
   have HKT:Hid (k<((List.range k).map (txE c o ga gb)++List.replicate (m - k) zT).length):=by
    show k<List.length _
    rw [Qe,QM,List.length_range,List.length_replicate]
    have:=HM.o
    omega
   obtain ⟨p1,p2⟩:=HL8.o.put HKT.o (.slice (some ⟨g1,0,none⟩) lc lc8) (.slice (some ⟨g2,0,none⟩) lo lo8)
   have HP1:Hid (Lnd _ _ _ _ _ _ _ _ _ _):=p1
   have HP2:Hid (Tch _ _ _):=p2
   obtain ⟨x0,x1⟩:=HCE.o w8 _ HTW8.o (λ_ e=>e.elim)
   have x2:w8.cell? ⟨w.heap.size+1,0,none⟩=some (.slice (some ⟨w.heap.size,0,none⟩) m m):=Ja HL8.o.row
   have HTP:Hid (Tch NoB w ((w8.setCell ⟨w.heap.size,k * 2,none⟩ (.slice (some ⟨g1,0,none⟩) lc lc8)).setCell ⟨w.heap.size,k * 2+1,none⟩ (.slice (some ⟨g2,0,none⟩) lo lo8))):=HTW8.o.trans p2 (λj hj=>.inr (by rw [hj];exact Ql _))
   have fz:=Yr HL8.o.txs
   obtain ⟨z0,z1⟩:=Xf HL8.o.txs zT (i:=k) (by
    rw [Qz (by simp),QM,List.length_range,Nat.sub_self,List.getElem?_replicate,if_pos (by have:=HM.o;omega)])
   have hkm:(k:Int)<(m:Int):=by have:=HM.o;omega
   clear p1 p2
   obtain ⟨y0,y1⟩:=HCE.o _ _ HTP.o (λ_ e=>e.elim)
   have y2:=cell_of_row _ _ 0 _ _ _ HP1.o.row
   simp only [List.getElem?_toArray,List.getElem?_cons_zero] at y2
   go_region_held3 (λV=>V.cell? ⟨w.heap.size+1,0,none⟩=some (.slice (some ⟨w.heap.size,0,none⟩) m m)/\V.cell? ⟨gi,oi+k * 2,none⟩=some (.slice a1 lc c1)/\V.cell? ⟨gi,oi+k * 2+1,none⟩=some (.slice a2 lo c2)) (go_keep) (fail)
   clear x0 x1 x2
   go_wp2
   go_roundw
   case rel=>
    refine ⟨k+1,.slice ea en ec,.slice fa fn fc,upd ga k g1,upd gb k g2,by omega,by go_num,?_,HLC8.o.tch (HP2.o.dr 1) (λj cs mm hj e=>by
     subst e
     rcases hj with hj | hj <;> (rw [HL8.o.txs] at hj;simp at hj)),HTP.o.dr 1⟩
    have e1:(List.range (k+1)).map (txE c o (upd ga k g1) (upd gb k g2))++List.replicate (m - (k+1)) zT=((List.range k).map (txE c o ga gb)++List.replicate (m - k) zT).set k (.slice (some ⟨g1,0,none⟩) lc lc8,.slice (some ⟨g2,0,none⟩) lo lo8):=by
     rw [Jai (f:=txE c o ga gb) (λi hi=>by unfold txE;rw [Yj hi,Yj hi]),HTE.o,List.set_append_right _ _ (by simp),QM,List.length_range,Nat.sub_self,show m - k=(m - (k+1))+1 by have:=HM.o;omega,List.replicate_succ,Qb,Qs]
     rfl
    rw [e1,Jai (f:=inV c ga) (λi hi=>by unfold inV;rw [Yj hi]),HIV.o,Jai (f:=inV o gb) (λi hi=>by unfold inV;rw [Yj hi]),HIO.o]
    exact HP1.o.tch0 (Td _ _ 1)
   case measure=>simp [intOf];omega
  ·obtain rfl:k=n:=by omega
   have hge:¬(k:Int)<(k:Int):=by omega
   have hm8:m - k=8:=by have:=HM.o;omega
   rw [hm8] at HL
   clear hm8
   go_wp2
   have HB:Hid (∀(i:Nat) V,i<8->Calls prog 265 #[.int .i64 (i:Int)] V λe w'=>e=.returned (.agg #[.string behB,.int .i64 (-(i:Int) - 1)])/\Tch NoB V w'):=λi V hk=>by
    have:=Yg (i:Int) V
    rw [show wrap64 (wrap64 (-(i:Int)) - 1)= -(i:Int) - 1 by unfold wrap64;omega] at this
    exact this
   go_loopw [7] (λi wx=>∃(q:Nat) (hb:Nat->Nat),q<=8/\i=.int .i64 (q:Int)/\Hid (Lnd w.heap.size wx (w.heap.size+1) w.heap.size m (.slice ya yn yc) (.slice za zn zc) ((List.range k).map (txE c o ga gb)++(List.range q).map (ZU hb)++List.replicate (8 - q) zT) ((List.range k).map (inV c ga)) ((List.range k).map (inV o gb)))/\Hid (LC w.heap.size wx 0 k c o ga gb)/\Hid (∀i,i<q->w.heap.size<=hb i/\wx.heap[hb i]? =some (.cells (vvA [behC i]) 49)/\∀j,j<k->ga j<hb i)/\Hid (Tch NoB w wx)) (λi _=>8 - (intOf i).toNat)
   case atStart=>exact ⟨0,λ_=>0,by omega,rfl,by show Lnd _ _ _ _ _ _ _ _ _ _;simpa using HL.o,HC.o,λi hi=>absurd hi (by omega),HT.o⟩
   case round=>
    clear HL HC HT
    obtain ⟨q,hb,hq,rfl,HL,HC,HRM,HT⟩:=hrel
    by_cases hq8:q<8
    ·have hqi:(q:Int)<8:=by omega
     obtain ⟨p,hp⟩:∃p:Nat,k+q=p:=⟨_,rfl⟩
     have wq:IntKind.i64.wrap ((k:Int)+(q:Int))=(p:Int):=by rw [w63 _ (by omega) (by omega)];omega
     have hpm:(p:Int)<(m:Int):=by have:=HM.o;omega
     have HP:Hid (k+q=p):=hp
     have HBk:Hid (∀V,Calls prog 265 #[.int .i64 (q:Int)] V λe w'=>e=.returned (.agg #[.string behB,.int .i64 (-(q:Int) - 1)])/\Tch NoB V w'):=λV=>HB.o q V hq8
     have HTq:Hid (((List.range k).map (txE c o ga gb)++(List.range q).map (ZU hb)++List.replicate (8 - q) zT)[p]? =some zT):=by
      show _=_
      rw [Qz (by simp;omega),List.getElem?_replicate,if_pos (by simp;omega)]
     obtain ⟨z,hz⟩:∃z:Int, -(q:Int) - 1=z:=⟨_,rfl⟩
     rw [hz] at HBk
     have HZ:Hid (-(q:Int) - 1=z):=hz
     have HALL:Hid (∀V,Tch NoB wr V->V.cell? ⟨w.heap.size+1,0,none⟩=some (.slice (some ⟨w.heap.size,0,none⟩) m m)/\V.cell? ⟨w.heap.size,p * 2,none⟩=some (.slice none 0 0)/\V.cell? ⟨w.heap.size,p * 2+1,none⟩=some (.slice none 0 0)/\(∀j,V.frozen? ⟨w.heap.size,j,none⟩=false)/\∀A,((V.setCell ⟨w.heap.size,p * 2,none⟩ A).setCell ⟨w.heap.size,p * 2+1,none⟩ (.slice none 0 0)).cell? ⟨w.heap.size+1,0,none⟩=some (.slice (some ⟨w.heap.size,0,none⟩) m m)):=λV hV=>by
      have h1:=HL.o.tch0 hV
      obtain ⟨g0,g1⟩:=Xf h1.txs zT HTq.o
      exact ⟨Ja h1.row,g0,g1,Yr h1.txs,λA=>Ja (h1.put (Qo.1 HTq.o).1 A (.slice none 0 0)).1.row⟩
     obtain ⟨x0,x1,x2,x3,_⟩:=HALL.o wr (Te _ _)
     clear hz hp
     go_upto_region 13 with fail
     go_region_held3 (λV=>V.cell? ⟨w.heap.size+1,0,none⟩=some (.slice (some ⟨w.heap.size,0,none⟩) m m)) (go_keep) ((go_at_call 265;refine (HBk.o _).mono ?_;rintro _ w2 ⟨rfl,ht2⟩;have HT2:Hid (Tch NoB wr w2):=(Td NoB wr 1).go ht2;obtain ⟨y0,_⟩:=HALL.o w2 HT2.o;obtain ⟨u0,u1,u2,u3,u4⟩:=HALL.o (w2.alloc (.cells #[.string behB,.int .i64 z] 49)) (HT2.o.go (Ta _ _ _));have u5:=u4 (.slice (some ⟨w2.heap.size,0,none⟩) 1 1);clear ht2 u4))
     all_goals
      go_wp2
      go_roundw
      case rel=>
       have t3:Tch NoB wr (w2.alloc (.cells #[.string behB,.int .i64 z] 49)):=HT2.o.go (Ta _ _ _)
       obtain ⟨e1,e2⟩:=(HL.o.tch0 t3).put (Qo.1 HTq.o).1 (.slice (some ⟨w2.heap.size,0,none⟩) 1 1) (.slice none 0 0)
       have hgt:=(Jb HL.o.txs)
       have hs2:=HT2.o.size
       refine ⟨q+1,upd hb q w2.heap.size,by omega,by go_num,?_,(HC.o.tch t3 (λ_ _ _ _ e=>e)).tch e2 (λj cs mm hj e=>by
        subst e
        rcases hj with hj | hj <;> (rw [(HL.o.tch0 t3).txs] at hj;simp at hj)),λi hi=>?_,(HT.o.go t3).trans e2 (λj hj=>.inr (by rw [hj];exact Ql _))⟩
       ·have e3:(List.range k).map (txE c o ga gb)++(List.range (q+1)).map (ZU (upd hb q w2.heap.size))++List.replicate (8 - (q+1)) zT=((List.range k).map (txE c o ga gb)++(List.range q).map (ZU hb)++List.replicate (8 - q) zT).set p (.slice (some ⟨w2.heap.size,0,none⟩) 1 1,.slice none 0 0):=by
         have h2:=HP.o
         rw [Jai (f:=ZU hb) (λi hi=>by unfold ZU;rw [Yj hi]),List.set_append_right _ _ (by simp;omega),show 8 - q=(8 - (q+1))+1 by omega,List.replicate_succ,show p - ((List.range k).map (txE c o ga gb)++(List.range q).map (ZU hb)).length=0 by simp;omega,Qb]
         unfold ZU
         rw [Ze]
         simp
        rw [e3]
        exact e1
       ·by_cases ei:i=q
        ·subst ei
         rw [Ze]
         refine ⟨by omega,?_,λj hj=>?_⟩
         ·rw [e2.block _ (by rw [World.size_alloc];omega) (by omega),Qf,<-HZ.o]
          rfl
         ·have:=(QJ.1 (HC.o.rowC j (by omega) hj).2).1
          omega
        ·rw [Yj (by omega)]
         obtain ⟨f1,f2,f3⟩:=HRM.o i (by omega)
         refine ⟨f1,?_,f3⟩
         have f4:=(t3.block _ (Jb f2) (λe=>e)).trans f2
         refine (e2.block _ (Jb f4) (λe=>?_)).trans f4
         rw [e,(HL.o.tch0 t3).txs] at f4
         simp at f4
      case measure=>simp [intOf];omega
    ·obtain rfl:q=8:=by omega
     have hge:¬((8:Nat):Int)<8:=by omega
     go_wp2
     go_ret
     have h1:=HL.o
     rw [<-HM.o] at h1
     simp only [Nat.sub_self,List.replicate_zero,QC] at h1
     exact ⟨_,rfl,⟨_,_,_,ga,gb,hb,h1.row,h1.txs,h1.ins,h1.outs,HC.o,HRM.o,h1.low⟩,HT.o⟩
