import Derived.Test.YtighkdnooglfjaaGreatDoorLcChC
namespace Go.Proofs.YtighkdnooglfjaaGreatDoor
open Tryz
set_option maxRecDepth 100000
set_option maxHeartbeats 1000000
open Go.RowKit

variable {d:List UInt8->BA}{N cb fl r wj:Nat}{F G:Nat->Prop}{q:Option Nat}{x:Sl×Sl}{v:Value}{W w w':World}
theorem txB?_ok{wj:Nat}{t:TxL}(h:TxOk wj t):txB? wj t=some (txB t):=by
 unfold txB?;rw[(Jnh wj t h).wr []];rfl
theorem JeS(dg:List UInt8->BA)(st:Option Tr)(t:TxL):Xj dg st t=match Yg t.1 st with
  | .error e=>.error e
  | .ok (st1,os)=>match JX (dg (84::txB t)) 0 t.2 st1 with
   | .error e=>.error e
   | .ok st2=>haveI:=JeU os t.2;if XF os t.2 then .error .sum else .ok st2:=rfl
structure Yh(W:World)(N wj:Nat)(q:Option Nat)(x:Sl×Sl):Prop where
 s:W.heap[N]? =some (.cells #[.int .i64 (wj:Int),Jh q] 146)
 t:W.heap[N+1]? =some (.cells #[.slice x.1.1 x.1.2.1 x.1.2.2,.slice x.2.1 x.2.2.1 x.2.2.2] 98)
 r:W.heap[N+1+1]? =some (.cells #[.int .i64 0,.pointer none] 146)
theorem Yh.next(h:Yh w N wj q x)(k:Tch NoB w w'):Yh w' N wj q x:=
 ⟨(k.block _ (Jb h.s) (λh=>h)).trans h.s,(k.block _ (Jb h.t) (λh=>h)).trans h.t,(k.block _ (Jb h.r) (λh=>h)).trans h.r⟩
theorem Yh.put(h:Yh W N wj q x)(width':Nat)(q':Option Nat)(v':Option Addr)(hv:Jh q'=.pointer v'):Yh ((W.setCell ⟨N,0,none⟩ (.int .i64 (width':Int))).setCell ⟨N,1,none⟩ (.pointer v')) N width' q' x:=by
 have k:=Jch h.s (.int .i64 (width':Int)) (.pointer v');refine⟨?_,(k.block _ (Jb h.t) (by omega)).trans h.t,(k.block _ (Jb h.r) (by omega)).trans h.r⟩;rw[set2 W N _ _ _ _ _ h.s,hv];exact Qi _ _ _ _ _ _ h.s
theorem Yh.cells(h:Yh W N wj q x)(rv:Option Addr)(hrv:Jh q=.pointer rv):(W.cell? ⟨N,0,none⟩=some (.int .i64 (wj:Int))/\W.cell? ⟨N,1,none⟩=some (.pointer rv))/\(W.cell? ⟨N+1,0,none⟩=some (.slice x.1.1 x.1.2.1 x.1.2.2)/\W.cell? ⟨N+1,1,none⟩=some (.slice x.2.1 x.2.2.1 x.2.2.2))/\
  (W.cell? ⟨N+1+1,0,none⟩=some (.int .i64 0)/\W.cell? ⟨N+1+1,1,none⟩=some (.pointer none))/\(∀j,W.frozen? ⟨N,j,none⟩=false)/\(∀j,W.frozen? ⟨N+1+1,j,none⟩=false)/\N+1+1<W.heap.size:=by
 refine⟨⟨Ja h.s,?_⟩,⟨Ja h.t,Ja h.t⟩,⟨Ja h.r,Ja h.r⟩,λj=>Qg _ _ _ _ _ h.s,λj=>Qg _ _ _ _ _ h.r,(Jb h.r)⟩;rw[<-hrv];exact Ja h.s
theorem Yh.both(h:Yh W N wj q x)(hT:Tch NoB w W)(hN:w.heap.size<=N)(width':Nat)(q':Option Nat)(v':Option Addr)(hv:Jh q'=.pointer v'):
  Yh ((W.setCell ⟨N,0,none⟩ (.int .i64 (width':Int))).setCell ⟨N,1,none⟩ (.pointer v')) N width' q' x/\Tch NoB w ((W.setCell ⟨N,0,none⟩ (.int .i64 (width':Int))).setCell ⟨N,1,none⟩ (.pointer v'))/\
  (∀d F q' st',StAt d F W q' st'->StAt d F ((W.setCell ⟨N,0,none⟩ (.int .i64 (width':Int))).setCell ⟨N,1,none⟩ (.pointer v')) q' st')/\(∀E k v,Jp E k W v->Jp E k ((W.setCell ⟨N,0,none⟩ (.int .i64 (width':Int))).setCell ⟨N,1,none⟩ (.pointer v')) v)/\
  ∀(G:Nat)(c:Array Value),W.heap[G]? =some (.cells c 80)->((W.setCell ⟨N,0,none⟩ (.int .i64 (width':Int))).setCell ⟨N,1,none⟩ (.pointer v')).heap[G]? =some (.cells c 80):=by
 obtain⟨_,p2,p3,p4⟩:=XK h.s hT hN (.int .i64 (width':Int)) (.pointer v');refine⟨h.put width' q' v' hv,p2,p3,p4,λG c hg=>?_⟩;refine((Jch h.s _ _).block G (Jb hg) ?_).trans hg;rintro rfl;rw[h.s]at hg;simp at hg
def ApTo(E:Nat->Addr)(wj:Nat)(F:Nat->Prop)(r:Except Er (Option Tr))(e:Ending)(w':World):Prop:=match r with
 | .ok st'=>∃q',e=.returned (.tuple #[Jv wj q',.nilIface])/\StAt (dgW wj) F w' q' st'/\StOk wj st'
 | .error er=>∃(u:Nat)(q':Option Nat)(t:TypeId)(v:Value),e=.returned (.tuple #[Jv u q',.iface t v])/\Jp E (erG er) w' (.iface t v)
theorem JeT(E:Nat->Addr)(wj:Nat)(hw1:1<=wj)(hw:wj<=32)(F:Nat->Prop)(q:Option Nat)(st:Option Tr)(x:Sl×Sl)(t:TxL)(ht:TxOk wj t)(w:World)(hE:Env E w)(hF:∀j,w.heap.size<=j->F j)(h1:JD w.heap.size w (.slice x.1.1 x.1.2.1 x.1.2.2) t.1)(h2:Jq w.heap.size w (.slice x.2.1 x.2.2.1 x.2.2.2) t.2)(hs:StAt (dgW wj) F w q st)(hok:StOk wj st):
  Calls prog 137 #[.int .i64 (wj:Int),Jv wj q,.agg #[.slice x.1.1 x.1.2.1 x.1.2.2,.slice x.2.1 x.2.2.1 x.2.2.2]] w λe w'=>Tch NoB w w'/\ApTo E wj F (Xj (dgW wj) st t) e w':=by
 have hm:=ht.made;have hi3:=ht.ins;have HID:Hid (∀W,Tch NoB w W->Calls prog 206 #[.int .i64 (wj:Int),.agg #[.slice x.1.1 x.1.2.1 x.1.2.2,.slice x.2.1 x.2.2.1 x.2.2.2]] W λe w'=>e=.returned (.tuple #[.string (dgW wj (84::txB t)),.nilIface])/\Tch NoB W w'):=λW hT=>by
  refine(JlU E wj hw1 hw x t W (hE.tch hT noE) ((h1.tch hT noE).up hT.size) ((h2.tch hT noE).up hT.size) (by omega) (by omega) (λo ho=>(ht.outs o ho).2)).mono ?_;rintro e w'⟨k1,k2⟩;rw[txB?_ok ht]at k2;exact⟨k2,k1⟩
 have HSP:Hid (∀W,Tch NoB w W->Calls prog 207 #[Jv wj q,.slice x.1.1 x.1.2.1 x.1.2.2] W λe w'=>Tch NoB W w'/\Jm9 E wj F (Yg t.1 st) e w'):=λW hT=>
  JjQ E wj hw1 hw F q st _ t.1 ht.coins hi3 W (hE.tch hT noE) (λj hj=>hF j (Qm hT.size hj)) ((h1.tch hT noE).up hT.size) (hs.next hT) hok
 have HRC:Hid (∀W q1 st1,Tch NoB w W->StAt (dgW wj) F W q1 st1->StOk wj st1->Calls prog 126 #[Jv wj q1,.string (dgW wj (84::txB t)),.slice x.2.1 x.2.2.1 x.2.2.2] W λe w'=>Tch NoB W w'/\Jm7 E wj F (JX (dgW wj (84::txB t)) 0 t.2 st1) e w'):=λW q1 st1 hT k1 k2=>
  Jcv E wj hw1 hw F q1 st1 _ (Jz wj hw _) _ t.2 ht.outs hm W (hE.tch hT noE) (λj hj=>hF j (Qm hT.size hj)) ((h2.tch hT noE).up hT.size) k1 k2
 have HCS:Hid (∀W G c os,Tch NoB w W->W.heap[G]? =some (.cells (vvA (os.map encO)) 80)->(∀o∈os,Jy o)->os.length<=3->Calls prog 208 #[.slice (some ⟨G,0,none⟩) os.length c,.slice x.2.1 x.2.2.1 x.2.2.2] W λe w'=>Tch NoB W w'/\((¬XF os t.2/\e=.returned .nilIface)\/(XF os t.2/\∃v,e=.returned v/\Jp E 3 w' v))):=λW G c os hT hr ho h3=>
  JdR E W.heap.size _ _ os t.2 (by omega) (by omega) (λo h=>(ho o h).1) (λo h=>(ht.outs o h).1) W (hE.tch hT noE) (Jq.of_row hr (Jb hr)) ((h2.tch hT noE).up hT.size)
 obtain⟨rv,hrv⟩:∃rv,Jh q=.pointer rv:=⟨_,rfl⟩
 obtain⟨W,hW⟩:∃W,W=((w.alloc (.cells #[.int .i64 (wj:Int),.pointer rv] 146)).alloc (.cells #[.slice x.1.1 x.1.2.1 x.1.2.2,.slice x.2.1 x.2.2.1 x.2.2.2] 98)).alloc (.cells #[.int .i64 0,.pointer none] 146):=⟨_,rfl⟩
 have hA:Tch NoB w W:=by rw[hW];exact Tch.allocs3 _ _ _ _ _
 have hbx:Yh W w.heap.size wj q x:=by rw[hW,hrv.symm];exact⟨JN _ _ _ _,JG _ _ _ _,JH _ _ _ _⟩
 have HAP:Hid (Xj (dgW wj) st t=match Yg t.1 st with
  | .error e=>.error e
  | .ok (st1,os)=>match JX (dgW wj (84::txB t)) 0 t.2 st1 with
   | .error e=>.error e
   | .ok st2=>haveI:=JeU os t.2;if XF os t.2 then .error .sum else .ok st2):=JeS (dgW wj) st t
 generalize Xj (dgW wj) st t=AP at *;generalize dgW wj (84::txB t)=id at *;have HS:Hid (StAt (dgW wj) F W q st):=hs.next hA;have HBX:Hid (Yh W w.heap.size wj q x):=hbx;have HRV:Hid (Jh q=.pointer rv):=hrv;have HA:Hid (Tch NoB w W):=hA;have HW:Hid (W=_):=hW;obtain⟨⟨a0,a1⟩,⟨a2,a3⟩,⟨a4,a5⟩,fN,fR,hz⟩:=hbx.cells rv hrv;obtain⟨⟨x1,x2,x3⟩,y1,y2,y3⟩:=x;dsimp only at HID HSP HRC HCS a2 a3 ⊢;unfold Jv at HSP ⊢;rw[hrv]at HSP ⊢;clear hE hF h1 h2 hs hok hrv hA hbx ht hm hi3;go_enter func137,ntmps137;go_wp2_with fail;rw[<-HW.o];refine(HID.o _ HA.o).mono ?_;rintro _ w2⟨rfl,ht2⟩;have b2:=HBX.o.next ht2;have HB2:Hid (Yh w2 w.heap.size wj q ((x1,x2,x3),y1,y2,y3)):=b2;have HT2:Hid (Tch NoB w w2):=HA.o.go ht2;have HS2:Hid (StAt (dgW wj) F w2 q st):=HS.o.next ht2;clear a0 a1 a2 a3 a4 a5 fN fR hz;obtain⟨⟨a0,a1⟩,⟨a2,a3⟩,⟨a4,a5⟩,fN,fR,hz⟩:=b2.cells rv HRV.o;clear b2 ht2 HBX HA HS HW HID;go_wp2_with fail;refine(HSP.o _ HT2.o).mono ?_;clear HSP;generalize Yg t.1 st=SP at *
 cases SP with
 | error er=>
  rintro _ w3⟨ht3,xx,v,rfl,hv,hei⟩;obtain⟨tv,uv,rfl⟩:=hv.iface;have b3:=HB2.o.next ht3;have HB3:Hid (Yh w3 w.heap.size wj q ((x1,x2,x3),y1,y2,y3)):=b3;have HT3:Hid (Tch NoB w w3):=HT2.o.go ht3;have HV:Hid (Jp E (erG er) w3 (.iface tv uv)):=hv;clear a0 a1 a2 a3 a4 a5 fN fR hz;obtain⟨⟨a0,a1⟩,⟨a2,a3⟩,⟨a4,a5⟩,fN,fR,hz⟩:=b3.cells rv HRV.o;clear b3 ht3 HB2 HT2 hv HRC HCS HS2;go_wp2;obtain⟨k1,k2,k3,k4,_⟩:=HB3.o.both HT3.o (Ql _) 0 none none rfl;obtain⟨p1,p2,p3,p4⟩:=XK k1.r k2 (by omega) (.int .i64 0) (.pointer none);refine QJ (v:=.tuple #[.agg #[.int .i64 0,.pointer none],.iface tv uv]) (Jn results137 _ _ (w.heap.size+1+1) _ _ (0,0) _ rfl p1 underlying146 rfl (by kernel_rfl)) rfl ⟨p2,?_⟩;rw[HAP.o];exact⟨0,none,_,_,rfl,p4 _ _ _ (k4 _ _ _ HV.o)⟩
 | ok r=>
  obtain⟨st1,os⟩:=r;rintro _ w3⟨ht3,q1,G,gc,rfl,hs1,hk1,hg,ho,h3⟩;have b3:=HB2.o.next ht3;have HB3:Hid (Yh w3 w.heap.size wj q ((x1,x2,x3),y1,y2,y3)):=b3;have HT3:Hid (Tch NoB w w3):=HT2.o.go ht3;have HS3:Hid (StAt (dgW wj) F w3 q1 st1):=hs1;have HK1:Hid (StOk wj st1):=hk1;have HG:Hid (w3.heap[G]? =some (.cells (vvA (os.map encO)) 80)):=hg;have HO:Hid ((∀o∈os,Jy o)/\os.length<=3):=⟨ho,h3⟩
  clear a0 a1 a2 a3 a4 a5 fN fR hz;obtain⟨⟨a0,a1⟩,⟨a2,a3⟩,⟨a4,a5⟩,fN,fR,hz⟩:=b3.cells rv HRV.o;clear b3 ht3 HB2 HT2 hs1 hk1 hg ho h3 HS2;unfold Jv;obtain⟨v1,hv1⟩:∃v,Jh q1=.pointer v:=⟨_,rfl⟩
  rw[hv1];have HV1:Hid (Jh q1=.pointer v1):=hv1;clear hv1;go_wp2_with fail;obtain⟨k1,k2,k3,k4,k5⟩:=HB3.o.both HT3.o (Ql _) wj q1 v1 HV1.o;have HS4:=k3 _ _ _ _ HS3.o;have HG4:=k5 _ _ HG.o;clear k3 k4 k5 a0 a1 a2 a3 a4 a5 fN fR hz;obtain⟨w4,hw4⟩:∃w4,w4=((w3.setCell ⟨w.heap.size,0,none⟩ (.int .i64 (wj:Int))).setCell ⟨w.heap.size,1,none⟩ (.pointer v1)):=⟨_,rfl⟩
  rw[<-hw4]at k1 k2 HS4 HG4 ⊢;clear hw4 HS3 HG HB3 HT3;have HCA:=HRC.o w4 q1 st1 k2 HS4 HK1.o;unfold Jv at HCA;rw[HV1.o]at HCA;have HB4:Hid (Yh w4 w.heap.size wj q1 ((x1,x2,x3),y1,y2,y3)):=k1;have HT4:Hid (Tch NoB w w4):=k2;have HG4':Hid (w4.heap[G]? =some (.cells (vvA (os.map encO)) 80)):=HG4;refine HCA.mono ?_;clear HCA k1 k2 HS4 HG4 HRC HK1;have HAP':Hid (AP=match JX id 0 t.2 st1 with
   | .error e=>.error e
   | .ok st2=>haveI:=JeU os t.2;if XF os t.2 then .error .sum else .ok st2):=HAP.o
  clear HAP;generalize JX id 0 t.2 st1=RC at *
  cases RC with
  | error er=>
   rintro _ w5⟨ht5,v,rfl,hv,hei⟩;obtain⟨tv,uv,rfl⟩:=hv.iface;have b5:=HB4.o.next ht5;have HB5:Hid (Yh w5 w.heap.size wj q1 ((x1,x2,x3),y1,y2,y3)):=b5;have HT5:Hid (Tch NoB w w5):=HT4.o.go ht5;have HV:Hid (Jp E (erG er) w5 (.iface tv uv)):=hv;obtain⟨⟨a0,a1⟩,⟨a2,a3⟩,⟨a4,a5⟩,fN,fR,hz⟩:=b5.cells v1 HV1.o;clear b5 ht5 HB4 HT4 hv HCS;go_wp2;obtain⟨k1,k2,k3,k4,_⟩:=HB5.o.both HT5.o (Ql _) 0 none none rfl;obtain⟨p1,p2,p3,p4⟩:=XK k1.r k2 (by omega) (.int .i64 0) (.pointer none);refine QJ (v:=.tuple #[.agg #[.int .i64 0,.pointer none],.iface tv uv]) (Jn results137 _ _ (w.heap.size+1+1) _ _ (0,0) _ rfl p1 underlying146 rfl (by kernel_rfl)) rfl ⟨p2,?_⟩;rw[HAP'.out];exact⟨0,none,_,_,rfl,p4 _ _ _ (k4 _ _ _ HV.o)⟩
  | ok st2=>
   rintro _ w5⟨ht5,q2,rfl,hs2,hk2⟩;have b5:=HB4.o.next ht5;have HB5:Hid (Yh w5 w.heap.size wj q1 ((x1,x2,x3),y1,y2,y3)):=b5;have HT5:Hid (Tch NoB w w5):=HT4.o.go ht5;have HS5:Hid (StAt (dgW wj) F w5 q2 st2):=hs2;have HK2:Hid (StOk wj st2):=hk2;have HG5:Hid (w5.heap[G]? =some (.cells (vvA (os.map encO)) 80)):=(ht5.block _ (Jb HG4'.out) (λh=>h)).trans HG4'.out;obtain⟨⟨a0,a1⟩,⟨a2,a3⟩,⟨a4,a5⟩,fN,fR,hz⟩:=b5.cells v1 HV1.o;clear b5 ht5 HB4 HT4 HG4' hs2 hk2;unfold Jv;obtain⟨v2,hv2⟩:∃v,Jh q2=.pointer v:=⟨_,rfl⟩
   rw[hv2];have HV2:Hid (Jh q2=.pointer v2):=hv2;clear hv2;go_wp2_with fail;obtain⟨k1,k2,k3,k4,k5⟩:=HB5.o.both HT5.o (Ql _) wj q2 v2 HV2.o;have HS6:=k3 _ _ _ _ HS5.o;have HG6:=k5 _ _ HG5.o;clear k3 k4 k5 a0 a1 a2 a3 a4 a5 fN fR hz;obtain⟨w6,hw6⟩:∃w6,w6=((w5.setCell ⟨w.heap.size,0,none⟩ (.int .i64 (wj:Int))).setCell ⟨w.heap.size,1,none⟩ (.pointer v2)):=⟨_,rfl⟩
   rw[<-hw6]at k1 k2 HS6 HG6 ⊢;clear hw6 HS5 HG5 HB5 HT5;have HB6:Hid (Yh w6 w.heap.size wj q2 ((x1,x2,x3),y1,y2,y3)):=k1;have HT6:Hid (∀k,Tch NoB w (w6.drewN k)):=λk=>k2.dr k;have HS6':Hid (StAt (dgW wj) F w6 q2 st2):=HS6;obtain⟨⟨a0,a1⟩,⟨a2,a3⟩,⟨a4,a5⟩,fN,fR,hz⟩:=k1.cells v2 HV2.o;have HCA:Hid (Calls prog 208 #[.slice (some ⟨G,0,none⟩) os.length gc,.slice y1 y2 y3] (w6.drewN 1) λe w'=>∃ev,e=.returned ev/\Tch NoB w6 w'/\((¬XF os t.2/\ev=.nilIface)\/(XF os t.2/\Jp E 3 w' ev))):=(HCS.o (w6.drewN 1) G gc os (k2.dr 1) HG6 HO.o.1 HO.o.2).mono λe w' h=>by
    obtain⟨h1,⟨h2,rfl⟩|⟨h2,v,rfl,h3⟩⟩:=h
    ·exact⟨_,rfl,(Td NoB w6 1).go h1,.inl ⟨h2,rfl⟩⟩
    ·exact⟨_,rfl,(Td NoB w6 1).go h1,.inr ⟨h2,h3⟩⟩
   clear k1 k2 HS6 HG6 HCS;go_region_with (go_at_call 208;refine HCA.o.mono ?_;rintro _ w7⟨ev,rfl,ht7,hev⟩;have b7:=HB6.o.next ht7;have HB7:Hid (Yh w7 w.heap.size wj q2 ((x1,x2,x3),y1,y2,y3)):=b7;have HT7:Hid (Tch NoB w w7):=(HT6.o 0).go ht7;have HS7:Hid (StAt (dgW wj) F w7 q2 st2):=HS6'.out.next ht7;have HEV:Hid (_\/_):=hev;obtain⟨⟨c0,c1⟩,⟨c2,c3⟩,⟨c4,c5⟩,gN,gR,hz7⟩:=b7.cells v2 HV2.o;clear b7 ht7 hev)
   all_goals
    go_wp2;obtain⟨p1,p2,p3,p4⟩:=XK HB7.o.r HT7.o (by omega) (.int .i64 (wj:Int)) (.pointer v2);refine QJ (v:=.tuple #[.agg #[.int .i64 (wj:Int),.pointer v2],ev]) (Jn results137 _ _ (w.heap.size+1+1) _ _ (0,0) _ rfl p1 underlying146 rfl (by kernel_rfl)) rfl ⟨p2,?_⟩;rw[HAP'.out]
    rcases HEV.o with⟨hb,rfl⟩|⟨hb,he⟩
    ·rw[if_neg hb];exact⟨q2,by rw[Jv,HV2.o],p3 _ _ _ _ HS7.o,HK2.o⟩
    ·rw[if_pos hb];obtain⟨tv,uv,rfl⟩:=he.iface;exact⟨wj,q2,tv,uv,by rw[Jv,HV2.o],p4 _ _ _ he⟩

theorem JiY(fv:Value)(what:BA)(w:World):Calls prog 135 #[.string what,.slice none 0 0,fv] w λe w'=>e=.returned .nilIface/\w=w':=by
 go_enter func135,ntmps135;go_wp2;go_loopw [12] (λi wr=>i=.int .i64 0/\w=wr) (λi _=>0)
 case atStart=>exact⟨rfl,rfl⟩
 case round=>obtain⟨rfl,rfl⟩:=hrel;go_wp2;go_ret;exact⟨rfl,rfl⟩
structure Jan(w:World)(N wj width':Nat)(q:Option Nat):Prop where
 i:w.heap[N]? =some (.cells #[.int .i64 (wj:Int)] 3)
 s:w.heap[N+1]? =some (.cells #[.int .i64 (width':Int),Jh q] 146)
theorem Jan.next{width':Nat}(h:Jan w N wj width' q)(k:Tch NoB w w'):Jan w' N wj width' q:=
 ⟨(k.block _ (Jb h.i) (λh=>h)).trans h.i,(k.block _ (Jb h.s) (λh=>h)).trans h.s⟩
theorem Jan.put{width0:Nat}(h:Jan W N wj width0 q)(hT:Tch NoB w W)(width':Nat)(q':Option Nat)(v':Option Addr)(hv:Jh q'=.pointer v'):
  Tch (λk=>k=N+1) w ((W.setCell ⟨N+1,0,none⟩ (.int .i64 (width':Int))).setCell ⟨N+1,1,none⟩ (.pointer v'))/\
  Jan ((W.setCell ⟨N+1,0,none⟩ (.int .i64 (width':Int))).setCell ⟨N+1,1,none⟩ (.pointer v')) N wj width' q'/\
  (∀d F q' st',StAt d F W q' st'->StAt d F ((W.setCell ⟨N+1,0,none⟩ (.int .i64 (width':Int))).setCell ⟨N+1,1,none⟩ (.pointer v')) q' st')/\∀E k v,Jp E k W v->Jp E k ((W.setCell ⟨N+1,0,none⟩ (.int .i64 (width':Int))).setCell ⟨N+1,1,none⟩ (.pointer v')) v:=by
 rw[set2 W (N+1) _ _ _ _ _ h.s];have t1:=Ts W (N+1) #[.int .i64 (width':Int),.pointer v'];refine⟨(hT.mono (S':=λk=>k=N+1) noE).trans t1 (λj hj=>.inl hj),⟨(t1.block _ (Jb h.i) (by omega)).trans h.i,?_⟩,λd F q' st' hs=>hs.row h.s (by decide),λE k v he=>he.tch t1 ?_⟩
 ·rw[hv];exact Qi _ _ _ _ _ _ h.s
 ·rintro p s u hp rfl;rw[h.s]at hp
  injection hp with hp
  injection hp with _ h2
  exact absurd h2 (by decide)
def AyTo(E:Nat->Addr)(wj:Nat)(F:Nat->Prop)(N:Nat)(r:Except Er (Option Tr))(e:Ending)(w':World):Prop:=match r with
 | .ok st'=>∃q',e=.returned .nilIface/\Jan w' N wj wj q'/\StAt (dgW wj) F w' q' st'/\StOk wj st'
 | .error er=>∃(u:Nat)(q':Option Nat)(t:TypeId)(v:Value),e=.returned (.iface t v)/\Jan w' N wj u q'/\Jp E (erG er) w' (.iface t v)
theorem JiL(E:Nat->Addr)(wj:Nat)(hw1:1<=wj)(hw:wj<=32)(F:Nat->Prop)(N:Nat)(q:Option Nat)(st:Option Tr)(i:Nat)(x:Sl×Sl)(t:TxL)(ht:TxOk wj t)(w:World)(hE:Env E w)(hF:∀j,w.heap.size<=j->F j)(hB:Jan w N wj wj q)(h1:JD w.heap.size w (.slice x.1.1 x.1.2.1 x.1.2.2) t.1)(h2:Jq w.heap.size w (.slice x.2.1 x.2.2.1 x.2.2.2) t.2)(hs:StAt (dgW wj) F w q st)(hok:StOk wj st):
  Calls prog 136 #[.int .i64 (i:Int),.agg #[.slice x.1.1 x.1.2.1 x.1.2.2,.slice x.2.1 x.2.2.1 x.2.2.2],.pointer (some ⟨N,0,none⟩),.pointer (some ⟨N+1,0,none⟩)] w λe w'=>Tch (λk=>k=N+1) w w'/\AyTo E wj F N (Xj (dgW wj) st t) e w':=by
 have HW:Hid (∀W,Tch NoB w W->Calls prog 137 #[.int .i64 (wj:Int),Jv wj q,.agg #[.slice x.1.1 x.1.2.1 x.1.2.2,.slice x.2.1 x.2.2.1 x.2.2.2]] W λe w'=>Tch NoB W w'/\ApTo E wj F (Xj (dgW wj) st t) e w'):=λW hT=>
  JeT E wj hw1 hw F q st x t ht W (hE.tch hT noE) (λj hj=>hF j (Qm hT.size hj)) ((h1.tch hT noE).up hT.size) ((h2.tch hT noE).up hT.size) (hs.next hT) hok
 have HBX:Hid _:=hB;obtain⟨rv,hrv⟩:∃rv,Jh q=.pointer rv:=⟨_,rfl⟩
 have hNb:N+1<w.heap.size:=(Jb hB.s)
 have hNs:N<w.heap.size:=by omega
 have a0:w.cell? ⟨N+1,0,none⟩=some (.int .i64 (wj:Int)):=Ja hB.s;have a1:w.cell? ⟨N+1,1,none⟩=some (.pointer rv):=by rw[<-hrv];exact Ja hB.s
 have a2:w.cell? ⟨N,0,none⟩=some (.int .i64 (wj:Int)):=Ja hB.i;have HRV:Hid _:=hrv;unfold Jv at HW;rw[hrv]at HW;generalize Xj (dgW wj) st t=R at *;clear hE hF hB hs hok hrv ht h1 h2;obtain⟨⟨x1,x2,x3⟩,y1,y2,y3⟩:=x;dsimp only at HW ⊢;have HTA:Hid (∀k,Tch NoB w ((w.alloc (.cells #[.slice x1 x2 x3,.slice y1 y2 y3] 98)).drewN k)):=λk=>(Ta _ _ _).dr k;go_enter func136,ntmps136;go_wp2_with fail;refine(HW.o _ (HTA.o 0)).mono ?_;clear HW a0 a1 a2
 cases R with
 | ok st'=>
  rintro _ w2⟨ht2,q2,rfl,hs2,hk2⟩;have hT:Tch NoB w w2:=(HTA.o 0).go ht2;have b2:=HBX.o.next hT;have HB2:Hid _:=b2;have c0:w2.cell? ⟨N+1,0,none⟩=some (.int .i64 (wj:Int)):=Ja b2.s;have c1:w2.cell? ⟨N+1,1,none⟩=some (.pointer rv):=by rw[<-HRV.o];exact Ja b2.s
  have fN:∀j,w2.frozen? ⟨N+1,j,none⟩=false:=λj=>Qg _ _ _ _ _ b2.s;have HT:Hid _:=hT;have HS2:Hid _:=hs2;have HK2:Hid _:=hk2;clear hT ht2 hs2 b2 HTA hk2;unfold Jv;obtain⟨v2,hv2⟩:∃v,Jh q2=.pointer v:=⟨_,rfl⟩
  rw[hv2];have HV2:Hid _:=hv2;clear hv2;go_wp2;go_ret;obtain⟨p1,p2,p3,_⟩:=HB2.o.put HT.o wj q2 v2 HV2.o;exact⟨p1,q2,rfl,p2,p3 _ _ _ _ HS2.o,HK2.o⟩
 | error er=>
  rintro _ w2⟨ht2,u2,q2,t2,e2,rfl,hv⟩;have hT:Tch NoB w w2:=(HTA.o 0).go ht2;have b2:=HBX.o.next hT;have HB2:Hid _:=b2;have c0:w2.cell? ⟨N+1,0,none⟩=some (.int .i64 (wj:Int)):=Ja b2.s;have c1:w2.cell? ⟨N+1,1,none⟩=some (.pointer rv):=by rw[<-HRV.o];exact Ja b2.s
  have fN:∀j,w2.frozen? ⟨N+1,j,none⟩=false:=λj=>Qg _ _ _ _ _ b2.s;have HT:Hid _:=hT;have HV:Hid _:=hv;clear hT ht2 b2 HTA hv;unfold Jv;obtain⟨v2,hv2⟩:∃v,Jh q2=.pointer v:=⟨_,rfl⟩
  rw[hv2];have HV2:Hid _:=hv2;clear hv2;go_wp2;go_ret;obtain⟨p1,p2,_,p4⟩:=HB2.o.put HT.o u2 q2 v2 HV2.o;exact⟨p1,u2,q2,t2,e2,rfl,p2,p4 _ _ _ HV.o⟩
theorem JfN(dg:List UInt8->BA)(ts:List TxL)(i:Nat)(h:i<ts.length)(st:Option Tr):JZ dg st (ts.drop i)=match Xj dg st ts[i] with
  | .error e=>.error e
  | .ok st1=>JZ dg st1 (ts.drop (i+1)):=by
 rw[List.drop_eq_getElem_cons h];rfl
def TxIn(B:Nat)(w:World)(l:List (Sl×Sl))(ts:List TxL):Prop:=l.length=ts.length/\∀(j:Nat) x t,l[j]? =some x->ts[j]? =some t->JD B w (.slice x.1.1 x.1.2.1 x.1.2.2) t.1/\Jq B w (.slice x.2.1 x.2.2.1 x.2.2.2) t.2
structure Jh6(wj:Nat)(F:Nat->Prop)(ts:List TxL)(R:Except Er (Option Tr))(w0:World)(N:Nat)(i:Nat)(w:World)(q:Option Nat)(st:Option Tr):Prop where
 box:Jan w N wj wj q
 at_:StAt (dgW wj) F w q st
 ok:StOk wj st
 eq:JZ (dgW wj) st (ts.drop i)=R
 tch:Tch (λk=>k=N+1) w0 w
def Jm3(E:Nat->Addr)(wj:Nat)(R:Except Er (Option Tr))(w0:World)(N:Nat)(v:Value)(w:World):Prop:=∃(er:Er)(u:Nat)(q:Option Nat),R=.error er/\Jp E (erG er) w v/\Jan w N wj u q/\Tch (λk=>k=N+1) w0 w
theorem JfO(E:Nat->Addr)(wj:Nat)(hw1:1<=wj)(hw:wj<=32)(F:Nat->Prop)(l:List (Sl×Sl))(ts:List TxL)(hts:∀t∈ts,TxOk wj t)(R:Except Er (Option Tr))(w0:World)(hE:Env E w0)(hF:∀j,w0.heap.size<=j->F j)(N:Nat)(hN:18<=N)(hN0:N<=w0.heap.size)(hin:TxIn N w0 l ts)(g off:Nat)(hg:g<N)(hz:g<w0.heap.size)
 (hr:∀i (h:i<l.length),w0.cell? ⟨g,off+i*2,none⟩=some (.slice l[i].1.1 l[i].1.2.1 l[i].1.2.2)/\w0.cell? ⟨g,off+i*2+1,none⟩=some (.slice l[i].2.1 l[i].2.2.1 l[i].2.2.2)):
  JcU 136 #[.pointer (some ⟨N,0,none⟩),.pointer (some ⟨N+1,0,none⟩)] g off l.length (λi=>(l.map encT).getD i zT) (λi w=>∃q st,Jh6 wj F ts R w0 N i w q st) (Jm3 E wj R w0 N):=by
 have hx:∀i (h:i<l.length),(l.map encT).getD i zT=encT l[i]:=λi h=>by simp[List.getD_eq_getElem?_getD,h]
 refine⟨λ_ _=>rfl,?_,?_,?_⟩
 ·rintro i w hi⟨q,st,I⟩;rw[hx i hi];have hc:∀o,w.cell? ⟨g,o,none⟩=w0.cell? ⟨g,o,none⟩:=λo=>I.tch.cell (p:=⟨g,o,none⟩) hz (by show ¬g=N+1;omega);rw[hc,hc];exact hr i hi
 ·rintro i w o⟨q,st,I⟩;have ha:=Ta NoB w o;exact⟨q,st,I.box.next ha,I.at_.next ha,I.ok,I.eq,I.tch.go ha⟩
 ·rintro i w hi⟨q,st,I⟩;rw[hx i hi];have hi':i<ts.length:=by rw[<-hin.1];exact hi
  obtain⟨k1,k2⟩:=hin.2 i l[i] ts[i] (Qd hi) (Qd hi');have hNw:N<=w.heap.size:=Qm hN0 I.tch.size;refine(JiL E wj hw1 hw F N q st i l[i] ts[i] (hts _ (Qx hi')) w (hE.tch I.tch (λj hj=>by omega)) (λj hj=>hF j (Qm I.tch.size hj)) I.box ((k1.tch I.tch (λj hj=>by omega)).up hNw) ((k2.tch I.tch (λj hj=>by omega)).up hNw) I.at_ I.ok).mono ?_;rintro e w'⟨ht,hr⟩;have e1:=I.eq;rw[JfN (dgW wj) ts i hi']at e1;have hT:Tch (λk=>k=N+1) w0 w':=I.tch.trans ht (λj hj=>.inl hj)
  cases hres:Xj (dgW wj) st ts[i] with
  | ok st'=>
   rw[hres]at hr e1;obtain⟨q',rfl,hb,hs,hk⟩:=hr;exact .inl ⟨rfl,q',st',hb,hs,hk,e1,hT⟩
  | error er=>
   rw[hres]at hr e1;obtain⟨u,q',t',v',rfl,hb,hv⟩:=hr;exact .inr ⟨t',v',rfl,er,u,q',e1.symm,hv,hb,hT⟩
theorem Jef(E:Nat->Addr)(wj:Nat)(hw1:1<=wj)(hw:wj<=32)(F:Nat->Prop)(q:Option Nat)(st:Option Tr)(v:Value)(l:List (Sl×Sl))(ts:List TxL)(hts:∀t∈ts,TxOk wj t)(h3:ts.length<=3)(w:World)(hE:Env E w)(hF:∀j,w.heap.size<=j->F j)(hv:Xq w.heap.size w v l)(hin:TxIn w.heap.size w l ts)(hs:StAt (dgW wj) F w q st)(hok:StOk wj st):
  Calls prog 81 #[.int .i64 (wj:Int),Jv wj q,v] w λe w'=>Tch NoB w w'/\ApTo E wj F (JZ (dgW wj) st ts) e w':=by
 obtain⟨rv,hrv⟩:∃rv,Jh q=.pointer rv:=⟨_,rfl⟩
 obtain⟨W,hW⟩:∃W,W=((w.alloc (.cells #[.int .i64 (wj:Int)] 3)).alloc (.cells #[.int .i64 (wj:Int),.pointer rv] 146)).alloc (.cells #[.int .i64 0,.pointer none] 146):=⟨_,rfl⟩
 have hA:Tch NoB w W:=by rw[hW];exact Tch.allocs3 _ _ _ _ _
 have hbx:Jan W w.heap.size wj wj q:=by rw[hW,hrv.symm];exact⟨JN _ _ _ _,JG _ _ _ _⟩
 have hro:W.heap[w.heap.size+1+1]? =some (.cells #[.int .i64 0,.pointer none] 146):=by rw[hW];exact JH _ _ _ _
 generalize hR:JZ (dgW wj) st ts=R;have hEW:=hE.tch hA noE;have hi0:Jh6 wj F ts R W w.heap.size 0 W q st:=⟨hbx,hs.next hA,hok,hR,Te _ _⟩
 have hinW:TxIn w.heap.size W l ts:=⟨hin.1,λj x t k1 k2=>⟨(hin.2 j x t k1 k2).1.tch hA noE,(hin.2 j x t k1 k2).2.tch hA noE⟩⟩
 have HEA:Hid (∀what:BA,what.size<=1000->Calls prog 135 #[.string what,v,.func (.func 136) #[] #[.pointer (some ⟨w.heap.size,0,none⟩),.pointer (some ⟨w.heap.size+1,0,none⟩)]] W λe w'=>ToE (λi w'=>∃q st,Jh6 wj F ts R W w.heap.size i w' q st) (Jm3 E wj R W w.heap.size) l.length e w'):=λwhat hwh=>by
  rcases hv with⟨rfl,rfl⟩|⟨gi,oi,c,rfl,h1,h2,h3'⟩
  ·refine(JiY _ _ _).mono ?_;rintro _ _⟨rfl,rfl⟩;exact .inl ⟨rfl,q,st,hi0⟩
  ·refine Joc _ _ _ _ _ _ _ _ (λi hi=>?_) _ _ (JfO E wj hw1 hw F l ts hts R W hEW (λj hj=>hF j (Qm hA.size hj)) w.heap.size hE.size hA.size hinW gi oi h1 (Qk h2 hA.size) (λi hi=>?_)) (by rw[hin.1];exact h3) hwh W ⟨q,st,hi0⟩
   ·simp only[Qn,List.getElem?_map,Qd hi];exact⟨_,_,rfl⟩
   ·have hc:∀o,W.cell? ⟨gi,o,none⟩=w.cell? ⟨gi,o,none⟩:=λo=>hA.cell (p:=⟨gi,o,none⟩) h2 (λh=>h);rw[hc,hc];exact h3' i hi
 obtain⟨ia,ic,hvs⟩:=hv.shape;have HRV:Hid _:=hrv;have HRO:Hid _:=hro;have HA:Hid _:=hA;have hmf:∀(fn:Fn)(first cap:Array Value)(w:World),(Instr.makeFunc fn first cap).run prog w=.ok (.func fn first cap) w:=λ_ _ _ _=>rfl;have HW:Hid (W=_):=hW;have HLL:Hid (l.length=ts.length):=hin.1;subst hvs;unfold Jv;rw[hrv];clear hE hF hv hs hok hrv hro hA hi0 hEW hbx hW hts h3 hR hin hinW;go_enter func81,ntmps81;go_wp2_with fail;rw[<-HW.o];refine(HEA.o _ (by decide)).mono ?_;rintro e w2 (⟨rfl,q2,st2,I⟩|⟨p,sx,vx,w1,rfl,hp,⟨er,u2,q2,hR,hv,hb,ht⟩,hbl⟩)
 ·have hsR:=(Jb HRO.o)
  have hr2:w2.heap[w.heap.size+1+1]? =some (.cells #[.int .i64 0,.pointer none] 146):=(I.tch.block _ hsR (by omega)).trans HRO.o;obtain⟨v2,hv2⟩:∃v,Jh q2=.pointer v:=⟨_,rfl⟩
  have c0:w2.cell? ⟨w.heap.size+1,0,none⟩=some (.int .i64 (wj:Int)):=Ja I.box.s;have c1:w2.cell? ⟨w.heap.size+1,1,none⟩=some (.pointer v2):=by rw[<-hv2];exact Ja I.box.s
  have r0:w2.cell? ⟨w.heap.size+1+1,0,none⟩=some (.int .i64 0):=Ja hr2;have r1:w2.cell? ⟨w.heap.size+1+1,1,none⟩=some (.pointer none):=Ja hr2;have fR:∀j,w2.frozen? ⟨w.heap.size+1+1,j,none⟩=false:=λj=>Qg _ _ _ _ _ hr2;have HR2:Hid _:=hr2;have HI:Hid (Jh6 wj F ts R W w.heap.size ts.length w2 q2 st2):=by rw[<-HLL.o];exact I
  have HV2:Hid _:=hv2;have hz2:w.heap.size+1+1<w2.heap.size:=(Jb hr2)
  clear I hr2 hv2 HEA hsR;go_wp2;obtain⟨p1,p2,p3,_⟩:=XK HR2.o ((HA.o.trans HI.o.tch (λj hj=>.inr (by omega))):Tch NoB w w2) (by omega) (.int .i64 (wj:Int)) (.pointer v2);refine QJ (v:=.tuple #[.agg #[.int .i64 (wj:Int),.pointer v2],.nilIface]) (Jn results81 _ _ (w.heap.size+1+1) _ _ (0,0) _ rfl p1 underlying146 rfl (by kernel_rfl)) rfl ⟨p2,?_⟩;have e1:=HI.o.eq;rw[List.drop_length]at e1;rw[<-e1];exact⟨q2,by rw[Jv,HV2.o],p3 _ _ _ _ HI.o.at_,HI.o.ok⟩
 ·have hsR:=(Jb HRO.o)
  have hr1:w1.heap[w.heap.size+1+1]? =some (.cells #[.int .i64 0,.pointer none] 146):=(ht.block _ hsR (by omega)).trans HRO.o;have hz1:=(Jb hr1)
  have hr2:w2.heap[w.heap.size+1+1]? =some (.cells #[.int .i64 0,.pointer none] 146):=(hbl.block _ hz1).trans hr1;obtain⟨v2,hv2⟩:∃v,Jh q2=.pointer v:=⟨_,rfl⟩
  have hs2:w2.heap[w.heap.size+1]? =some (.cells #[.int .i64 (u2:Int),Jh q2] 146):=(hbl.block _ (Jb hb.s)).trans hb.s;have hz2:w.heap.size+1+1<w2.heap.size:=(Jb hr2)
  have c0:w2.cell? ⟨w.heap.size+1,0,none⟩=some (.int .i64 (u2:Int)):=Ja hs2;have c1:w2.cell? ⟨w.heap.size+1,1,none⟩=some (.pointer v2):=by rw[<-hv2];exact Ja hs2
  have r0:w2.cell? ⟨w.heap.size+1+1,0,none⟩=some (.int .i64 0):=Ja hr2;have r1:w2.cell? ⟨w.heap.size+1+1,1,none⟩=some (.pointer none):=Ja hr2;have fR:∀j,w2.frozen? ⟨w.heap.size+1+1,j,none⟩=false:=λj=>Qg _ _ _ _ _ hr2;have HR2:Hid _:=hr2;have HT2:Hid (Tch (λk=>k=w.heap.size+1) W w2):=ht.trans (Tch.of_below hbl) (λj hj=>.inr (Qm ht.size hj));have HP:Hid (Jp E (erG er) w2 (.iface 235 (.pointer (some ⟨p,0,none⟩)))):=.wrap p _ _ hp (hv.later hbl);have HR:Hid (R=_):=hR;have HV2:Hid _:=hv2;clear hr1 hr2 hs2 hbl ht hb hp hR HEA hsR hz1 hv hv2;go_wp2;obtain⟨p1,p2,p3,p4⟩:=XK HR2.o ((HA.o.trans HT2.o (λj hj=>.inr (by omega))):Tch NoB w w2) (by omega) (.int .i64 (u2:Int)) (.pointer v2);refine QJ (v:=.tuple #[.agg #[.int .i64 (u2:Int),.pointer v2],.iface 235 (.pointer (some ⟨p,0,none⟩))]) (Jn results81 _ _ (w.heap.size+1+1) _ _ (0,0) _ rfl p1 underlying146 rfl (by kernel_rfl)) rfl ⟨p2,?_⟩;rw[HR.o];exact⟨u2,q2,_,_,by rw[Jv,HV2.o],p4 _ _ _ HP.o⟩

abbrev BV:=BA×Nat×Option Nat
def bV(b:BV):Value:=.agg #[.string b.1,.int .i64 (b.2.1:Int),Jh b.2.2]
def Ju:Nat->List BV->List MapEntry
 | _,[]=>[]
 | i,b::r=>⟨.int .i64 (i:Int),bV b,i⟩ :: Ju (i+1) r
theorem JcB(bs:List BV):∀i,(Ju i bs).length=bs.length:=by
 induction bs with
 | nil=>intro i;rfl
 | cons b r ih=>intro i;simp[Ju,ih]
theorem JcA(bs:List BV)(b:BV):∀i,Ju i (bs++[b])=Ju i bs++[⟨.int .i64 ((i+bs.length:Nat):Int),bV b,i+bs.length⟩]:=by
 induction bs with
 | nil=>intro i;simp[Ju]
 | cons x r ih=>
  intro i;rw[List.cons_append,Ju,ih (i+1),Ju,List.cons_append,Qp];have e:i+1+r.length=i+(r.length+1):=by omega
  rw[e]
theorem Zg(bs:List BV):∀(i j:Nat)(k:Int),Instr.findNow (.int .i64) (.int .i64 k) (Ju i bs) j=some (if (i:Int)<=k then (bs[k.toNat-i]?).map λb=>(j+(k.toNat-i),bV b) else none):=by
 induction bs with
 | nil=>intro i j k;simp[Ju,Instr.findNow]
 | cons b r ih=>
  intro i j k;rw[Ju,Instr.findNow]
  by_cases h:k=(i:Int)
  ·subst h;simp[Instr.sameNow]
  ·have h1:Instr.sameNow (.int .i64) (.int .i64 k) (.int .i64 (i:Int))=some false:=(by simp[Instr.sameNow,h]);rw[h1];simp only;rw[ih (i+1) (j+1) k]
   by_cases h2:(i:Int)<=k
   ·rw[if_pos h2,if_pos (by omega)];have e1:k.toNat-i=(k.toNat-(i+1))+1:=(by omega);rw[e1,List.getElem?_cons_succ]
    congr 2
    funext x
    congr 1
    omega
   ·rw[if_neg h2,if_neg (by omega)]
theorem JiE:prog.underlying 141=some (.map 3 148):=underlying141
theorem Jcz:prog.underlying 3=some (.int .i64):=underlying3
theorem Jfe{bs:List BV}(h:w.heap[r]? =some (.map (Ju 0 bs).toArray bs.length))(k:Nat)(b:BV)(hk:bs[k]? =some b)(c:Bool):
  (Instr.lookup 141 (.map (some r)) (.int .i64 (k:Int)) c).run prog w=.ok (if c then .tuple #[bV b,.bool true] else bV b) w:=by
 have h1:=Zg bs 0 0 (k:Int);rw[if_pos (by omega)]at h1;simp only[Int.toNat_natCast,Nat.sub_zero,Nat.zero_add,hk,Option.map_some]at h1;simp[Instr.lookup,run_underlying JiE,Go.MapKept.run_getObj_map h,Go.MapKept.run_checkKey (d:=.int .i64) Jcz (k:=.int .i64 (k:Int)) (by simp[Go.MapKept.IsKey]),Go.MapKept.run_findKey Jcz h1,Result.andThen]
theorem Jld{bs:List BV}(h:w.heap[r]? =some (.map (Ju 0 bs).toArray bs.length))(k:Int)(hk:¬(0<=k/\k<bs.length))(c:Bool):
  (Instr.lookup 141 (.map (some r)) (.int .i64 k) c).run prog w=.ok (if c then .tuple #[bV (⟨#[]⟩,0,none),.bool false] else bV (⟨#[]⟩,0,none)) w:=by
 have h1:=Zg bs 0 0 k;have h2:(if ((0:Nat):Int)<=k then (bs[k.toNat-0]?).map λb=>(0+(k.toNat-0),bV b) else none)=none:=by
  by_cases h0:(0:Int)<=k
  ·rw[if_pos (by omega),List.getElem?_eq_none (by omega)];rfl
  ·rw[if_neg (by omega)]
 rw[h2]at h1;simp[Instr.lookup,run_underlying JiE,Go.MapKept.run_getObj_map h,Go.MapKept.run_checkKey (d:=.int .i64) Jcz (k:=.int .i64 k) (by simp[Go.MapKept.IsKey]),Go.MapKept.run_findKey Jcz h1,Result.andThen];rfl
def _root_.Go.World.setBlocks(w:World)(r:Nat)(bs:List BV):World:={ w with heap:=w.heap.setIfInBounds r (.map (Ju 0 bs).toArray bs.length) }
theorem Jdm{bs:List BV}(h:w.heap[r]? =some (.map (Ju 0 bs).toArray bs.length))(b:BV):
  (Instr.mapUpdate 141 (.map (some r)) (.int .i64 (bs.length:Int)) (bV b)).run prog w=.ok () (w.setBlocks r (bs++[b])):=by
 have h1:=Zg bs 0 0 (bs.length:Int);rw[if_pos (by omega)]at h1;simp only[Int.toNat_natCast,Nat.sub_zero,Nat.zero_add,show bs[bs.length]? =none by simp,Option.map_none]at h1;simp[Instr.mapUpdate,run_underlying JiE,Go.MapKept.run_getObj_map h,Go.MapKept.run_checkKey (d:=.int .i64) Jcz (k:=.int .i64 (bs.length:Int)) (by simp[Go.MapKept.IsKey]),Go.MapKept.run_findKey Jcz h1,Go.MapKept.run_setObj_map _ h,Result.andThen,World.setBlocks,JcA]
theorem Zt{o:Obj}(h:w.heap[r]? =some o)(bs:List BV):(w.setBlocks r bs).heap[r]? =some (.map (Ju 0 bs).toArray bs.length):=(Go.MapKept.heap_set h).1
theorem Tch.setBlocks(w:World)(r:Nat)(bs:List BV):Tch (λk=>k=r) w (w.setBlocks r bs):=⟨rfl,rfl,rfl,by simp[World.setBlocks],λk _ hn=>by simp[World.setBlocks,Ne.symm hn]⟩
theorem Jht{bs:List BV}(h:w.heap[r]? =some (.map (Ju 0 bs).toArray bs.length)):(Builtin.len_ #[141] 3 #[.map (some r)]).run prog w=.ok (.int .i64 (bs.length:Int)) w:=by
 simp[Builtin.len_,Go.MapKept.run_getObj_map h,JcB];rfl
theorem Jg.refine{n:Nat}{t:Tr}(h:Jg d F w n t)(hg:∀j,F j->(∃c,w.heap[j]? =some (.cells c 243))->G j):Jg d G w n t:=by
 induction h using Jg.ri with
 | leaf n k o hF hr=>exact .leaf n k o (hg n hF ⟨_,hr⟩) hr
 | br n b nl nr l r hF hr _ _ ihl ihr=>exact .br n b nl nr l r (hg n hF ⟨_,hr⟩) hr ihl ihr
theorem StAt.refine{st:Option Tr}(h:StAt d F w q st)(hg:∀j,F j->(∃c,w.heap[j]? =some (.cells c 243))->G j):StAt d G w q st:=by
 cases q<;>cases st<;>first|exact h|exact Jg.refine h hg
structure JB(w:World)(cb:Nat)(wj fl r:Nat)(bs:List BV)(v:Value):Prop where
 row:w.heap[cb]? =some (.cells #[.int .i64 (wj:Int),.int .i64 (fl:Int),.map (some r),v] 143)
 map:w.heap[r]? =some (.map (Ju 0 bs).toArray bs.length)
theorem JB.next{bs:List BV}(h:JB w cb wj fl r bs v)(k:Tch NoB w w'):JB w' cb wj fl r bs v:=
 ⟨(k.block _ (Jb h.row) (λh=>h)).trans h.row,(k.block _ (Jb h.map) (λh=>h)).trans h.map⟩
theorem JbS{bs:List BV}(h:JB w cb wj fl r bs v)(hb:bs.length<2 ^ 32):
  Calls prog 40 #[.pointer (some ⟨cb,0,none⟩)] w λe w'=>e=.returned (.int .i64 ((bs.length:Int)-1))/\w=w':=by
 have c2:w.cell? ⟨cb,2,none⟩=some (.map (some r)):=Ja h.row;have hlen:=Jht h.map;clear h;generalize hn:bs.length=n at *;clear hn;go_enter func40,ntmps40;go_wp2;go_ret;exact⟨rfl,rfl⟩
theorem Jnb{bs:List BV}(h:JB w cb wj fl r bs v)(k:Nat)(b:BV)(hk:bs[k]? =some b):
  Calls prog 74 #[.pointer (some ⟨cb,0,none⟩),.int .i64 (k:Int)] w λe w'=>e=.returned (.tuple #[bV b,.nilIface])/\Tch NoB w w':=by
 obtain⟨bh,bu,bq⟩:=b;obtain⟨rv,hrv⟩:∃rv,Jh bq=.pointer rv:=⟨_,rfl⟩
 obtain⟨W,hW⟩:∃W,W=w.alloc (.cells #[.string ⟨#[]⟩,.int .i64 0,.pointer none] 148):=⟨_,rfl⟩
 have hA:Tch NoB w W:=by rw[hW];exact Ta _ _ _
 have c2:W.cell? ⟨cb,2,none⟩=some (.map (some r)):=Ja (h.next hA).row;have hlk:=Jfe (h.next hA).map k (bh,bu,bq) hk true;have hrow:W.heap[w.heap.size]? =some (.cells #[.string ⟨#[]⟩,.int .i64 0,.pointer none] 148):=by rw[hW];exact Qf _ _
 have r0:W.cell? ⟨w.heap.size,0,none⟩=some (.string ⟨#[]⟩):=Ja hrow;have r1:W.cell? ⟨w.heap.size,1,none⟩=some (.int .i64 0):=Ja hrow;have r2:W.cell? ⟨w.heap.size,2,none⟩=some (.pointer none):=Ja hrow;have fR:∀j,W.frozen? ⟨w.heap.size,j,none⟩=false:=λj=>Qg _ _ _ _ _ hrow;have HW:Hid (W=w.alloc (.cells #[.string ⟨#[]⟩,.int .i64 0,.pointer none] 148)):=hW;have HR:Hid (W.heap[w.heap.size]? =_):=hrow;have HA:Hid (Tch _ w W):=hA;have hz:w.heap.size<W.heap.size:=(Jb hrow)
 simp only[bV]at hlk ⊢;rw[hrv]at hlk ⊢;clear h hk hW hrow hA hrv;go_enter func74,ntmps74;go_upto_region 1 with fail;rw[<-HW.o];go_wp2;rw[set3 _ _ _ _ _ _ _ _ _ HR.o];have t1:=Ts W w.heap.size #[.string bh,.int .i64 (bu:Int),.pointer rv];have hr:(W.setRow w.heap.size #[.string bh,.int .i64 (bu:Int),.pointer rv]).heap[w.heap.size]? =some (.cells #[.string bh,.int .i64 (bu:Int),.pointer rv] 148):=Qi _ _ _ _ _ _ HR.o;have t2:=Ta NoB (W.setRow w.heap.size #[.string bh,.int .i64 (bu:Int),.pointer rv]) (.cells #[.string bh,.int .i64 (bu:Int),.pointer rv] 148);refine QJ (v:=.tuple #[.agg #[.string bh,.int .i64 (bu:Int),.pointer rv],.nilIface]) (Jn results74 _ _ w.heap.size _ _ (0,0) _ rfl ((t2.block _ (Jb hr) (λh=>h)).trans hr) underlying148 rfl (by kernel_rfl)) rfl ⟨rfl,?_⟩;exact(HA.o.trans t1 (λj hj=>.inr (by omega))).go t2
theorem JkA(E:Nat->Addr)(hE:Env E w){bs:List BV}(h:JB w cb wj fl r bs v)(k:Int)(hk:¬(0<=k/\k<bs.length)):
  Calls prog 74 #[.pointer (some ⟨cb,0,none⟩),.int .i64 k] w λe w'=>∃t u,e=.returned (.tuple #[bV (⟨#[]⟩,0,none),.iface t u])/\Jp E 5 w' (.iface t u)/\Tch NoB w w':=by
 obtain⟨W,hW⟩:∃W,W=w.alloc (.cells #[.string ⟨#[]⟩,.int .i64 0,.pointer none] 148):=⟨_,rfl⟩
 have hA:Tch NoB w W:=by rw[hW];exact Ta _ _ _
 have c2:W.cell? ⟨cb,2,none⟩=some (.map (some r)):=Ja (h.next hA).row;have hlk:=Jld (h.next hA).map k hk true;have hrg:=(hE.tch hA noE).range;have hsz:=(hE.tch hA noE).size;have hrow:W.heap[w.heap.size]? =some (.cells #[.string ⟨#[]⟩,.int .i64 0,.pointer none] 148):=by rw[hW];exact Qf _ _
 have r0:W.cell? ⟨w.heap.size,0,none⟩=some (.string ⟨#[]⟩):=Ja hrow;have r1:W.cell? ⟨w.heap.size,1,none⟩=some (.int .i64 0):=Ja hrow;have r2:W.cell? ⟨w.heap.size,2,none⟩=some (.pointer none):=Ja hrow;have fR:∀j,W.frozen? ⟨w.heap.size,j,none⟩=false:=λj=>Qg _ _ _ _ _ hrow;have HW:Hid (W=w.alloc (.cells #[.string ⟨#[]⟩,.int .i64 0,.pointer none] 148)):=hW;have HR:Hid (W.heap[w.heap.size]? =_):=hrow;have HA:Hid (Tch _ w W):=hA;have hz:w.heap.size<W.heap.size:=(Jb hrow)
 simp only[bV,Jh,Option.map_none]at hlk ⊢;clear h hk hW hrow hA hE;have hGs:5<W.heap.size:=Qk (by decide) hsz;clear hsz;go_enter func74,ntmps74;go_upto_region 1 with fail;rw[<-HW.o];go_wp2_with fail;refine(Xl _ _ _ _).mono ?_;rintro _ _⟨rfl,rfl⟩;go_wp2;rw[set3 _ _ _ _ _ _ _ _ _ HR.o];have t1:=Ts W w.heap.size #[.string ⟨#[]⟩,.int .i64 0,.pointer none];have hr:(W.setRow w.heap.size #[.string ⟨#[]⟩,.int .i64 0,.pointer none]).heap[w.heap.size]? =some (.cells #[.string ⟨#[]⟩,.int .i64 0,.pointer none] 148):=Qi _ _ _ _ _ _ HR.o;have hws:(W.setRow w.heap.size #[.string ⟨#[]⟩,.int .i64 0,.pointer none]).heap.size=W.heap.size:=by simp[World.setRow]
 generalize W.setRow w.heap.size #[.string ⟨#[]⟩,.int .i64 0,.pointer none]=W1 at *;have t2:=(Ta NoB W1 (.cells #[.string ⟨#[]⟩,.int .i64 0,.pointer none] 148))
 have t3:=Ta NoB (W1.alloc (.cells #[.string ⟨#[]⟩,.int .i64 0,.pointer none] 148)) (.cells #[.string ⟨#[104,101,105,103,104,116]⟩,eV E 5] 237);refine QJ (v:=.tuple #[.agg #[.string ⟨#[]⟩,.int .i64 0,.pointer none],.iface 235 (.pointer (some ⟨W.heap.size+1,0,none⟩))]) (Jn results74 _ _ w.heap.size _ _ (0,0) _ rfl (((t2.go t3).block _ (Jb hr) (λh=>h)).trans hr) underlying148 rfl (by kernel_rfl)) rfl ⟨_,_,rfl,?_,?_⟩
 ·refine .wrap (W.heap.size+1) ⟨#[104,101,105,103,104,116]⟩ (eV E 5) ?_ .base;have:=Qf (W1.alloc (.cells #[.string ⟨#[]⟩,.int .i64 0,.pointer none] 148)) (.cells #[.string ⟨#[104,101,105,103,104,116]⟩,eV E 5] 237);rw[World.size_alloc,hws]at this;exact this
 ·exact((HA.o.trans t1 (λj hj=>.inr (by omega))).go t2).go t3
theorem JeY(E:Nat->Addr)(hE:Env E w){bs:List BV}(h:JB w cb wj fl r bs v)(k:Int):
  Calls prog 41 #[.pointer (some ⟨cb,0,none⟩),.int .i64 k] w λe w'=>Tch NoB w w'/\((∃n b,k=(n:Nat)/\bs[n]? =some b/\e=.returned (.tuple #[.string b.1,.nilIface]))\/(¬(0<=k/\k<bs.length)/\∃t u,e=.returned (.tuple #[.string ⟨#[]⟩,.iface t u])/\Jp E 5 w' (.iface t u))):=by
 by_cases hk:0<=k/\k<bs.length
 ·obtain⟨n,rfl⟩:=Int.eq_ofNat_of_zero_le hk.1;have hb:bs[n]? =some bs[n]:=Qd (by omega);have HAT:Hid (Calls _ _ _ _ _):=Jnb h n _ hb;have HB:Hid (bs[n]? =some bs[n]):=hb;generalize bs[n]=b at *;obtain⟨bh,bu,bq⟩:=b;simp only[bV]at HAT;obtain⟨rv,hrv⟩:∃rv,Jh bq=.pointer rv:=⟨_,rfl⟩
  rw[hrv]at HAT;clear hk hb hE h hrv;go_enter func41,ntmps41;go_wp2_with fail;refine HAT.o.mono ?_;rintro _ w2⟨rfl,ht⟩;have HT:Hid (Tch _ w w2):=ht;clear ht HAT;go_wp2;go_ret2;exact⟨HT.o.go (Ta _ _ _),.inl ⟨n,(bh,bu,bq),rfl,HB.o,rfl⟩⟩
 ·have HAT:Hid (Calls _ _ _ _ _):=JkA E hE h k hk;have HK:Hid (¬(0<=k/\k<bs.length)):=hk;simp only[bV,Jh,Option.map_none]at HAT;clear hk hE h;go_enter func41,ntmps41;go_wp2_with fail;refine HAT.o.mono ?_;rintro _ w2⟨t,u,rfl,he,ht⟩;have HT:Hid (Tch _ w w2):=ht;have HV:Hid (Jp _ _ _ _):=he;clear ht HAT he;go_wp2;go_ret2;exact⟨HT.o.go (Ta _ _ _),.inr ⟨HK.o,t,u,rfl,HV.o.tch (Ta NoB _ _) (λ_ _ _ _ h=>h)⟩⟩
