import Derived.Test.YtighkdnooglfjaaGreatDoorLcTreeA
namespace Go.Proofs.YtighkdnooglfjaaGreatDoor
open Tryz
set_option maxRecDepth 100000
set_option maxHeartbeats 1000000
open Go.RowKit

variable {sp:List VV}{G M N n wj:Nat}{q:Option Nat}{W w:World}
structure Zb(w:World)(N wj:Nat)(q:Option Nat)(M G n:Nat)(sp:List VV):Prop where
 s:w.heap[N]? =some (.cells #[.int .i64 (wj:Int),Jh q] 146)
 m:w.heap[M]? =some (.cells #[.slice (some ⟨G,0,none⟩) n n] 22)
 g:w.heap[G]? =some (.cells (vvA sp) 80)
 len:sp.length=n
theorem Zb.next{w':World}(h:Zb w N wj q M G n sp)(k:Tch NoB w w'):Zb w' N wj q M G n sp:=
 ⟨(k.block _ (Jb h.s) (λh=>h)).trans h.s,(k.block _ (Jb h.m) (λh=>h)).trans h.m,(k.block _ (Jb h.g) (λh=>h)).trans h.g,h.len⟩
theorem Zb.cells(h:Zb w N wj q M G n sp)(rv:Option Addr)(hrv:Jh q=.pointer rv)(i:Nat)(hi:i<n):w.cell? ⟨N,0,none⟩=some (.int .i64 (wj:Int))/\w.cell? ⟨N,1,none⟩=some (.pointer rv)/\w.cell? ⟨M,0,none⟩=some (.slice (some ⟨G,0,none⟩) n n)/\
  (∃x0 y0,w.cell? ⟨G,i*2,none⟩=some x0/\w.cell? ⟨G,i*2+1,none⟩=some y0)/\(∀j,w.frozen? ⟨N,j,none⟩=false)/\(∀j,w.frozen? ⟨G,j,none⟩=false):=by
 refine⟨Ja h.s,?_,Ja h.m,?_,λj=>Qg _ _ _ _ _ h.s,λj=>Qg _ _ _ _ _ h.g⟩
 ·rw[<-hrv];exact Ja h.s
 ·obtain⟨e0,e1⟩:=ZE sp i (by rw[h.len];exact hi);exact⟨_,_,(Ja h.g).trans e0,(Ja h.g).trans e1⟩
theorem Zb.apart(h:Zb w N wj q M G n sp):N ≠ G/\M ≠ G/\N ≠ M:=by
 have h1:=h.s;have h2:=h.m;have h3:=h.g;refine⟨?_,?_,?_⟩
 ·rintro rfl;rw[h1]at h3;simp at h3
 ·rintro rfl;rw[h2]at h3;simp at h3
 ·rintro rfl;rw[h1]at h2;simp at h2
theorem Zb.put(h:Zb W N wj q M G n sp)(hT:Tch NoB w W)(i:Nat)(hi:i<n)(width':Nat)(q':Option Nat)(v':Option Addr)(hv:Jh q'=.pointer v')(a o:Value):
  Tch (λk=>k=N\/k=G) w ((((W.setCell ⟨N,0,none⟩ (.int .i64 (width':Int))).setCell ⟨N,1,none⟩ (.pointer v')).setCell ⟨G,i*2,none⟩ a).setCell ⟨G,i*2+1,none⟩ o)/\
  Zb ((((W.setCell ⟨N,0,none⟩ (.int .i64 (width':Int))).setCell ⟨N,1,none⟩ (.pointer v')).setCell ⟨G,i*2,none⟩ a).setCell ⟨G,i*2+1,none⟩ o) N width' q' M G n (sp.set i (a,o))/\
  ∀d F q' st',StAt d F W q' st'->StAt d F ((((W.setCell ⟨N,0,none⟩ (.int .i64 (width':Int))).setCell ⟨N,1,none⟩ (.pointer v')).setCell ⟨G,i*2,none⟩ a).setCell ⟨G,i*2+1,none⟩ o) q' st':=by
 obtain⟨hNG,hMG,hNM⟩:=h.apart;rw[set2 W N _ _ _ _ _ h.s];have t1:=Ts W N #[.int .i64 (width':Int),.pointer v'];have g1:(W.setRow N #[.int .i64 (width':Int),.pointer v']).heap[G]? =some (.cells (vvA sp) 80):=(t1.block _ (Jb h.g) (by omega)).trans h.g;have m1:(W.setRow N #[.int .i64 (width':Int),.pointer v']).heap[M]? =some (.cells #[.slice (some ⟨G,0,none⟩) n n] 22):=(t1.block _ (Jb h.m) (by omega)).trans h.m;have s1:(W.setRow N #[.int .i64 (width':Int),.pointer v']).heap[N]? =some (.cells #[.int .i64 (width':Int),.pointer v'] 146):=Qi _ _ _ _ _ _ h.s;have k1:∀d F q' st',StAt d F W q' st'->StAt d F (W.setRow N #[.int .i64 (width':Int),.pointer v']) q' st':=λd F q' st' hs=>hs.row h.s (by decide);have T1:Tch (λk=>k=N\/k=G) w (W.setRow N #[.int .i64 (width':Int),.pointer v']):=(hT.mono noE).trans t1 (λj hj=>.inl (.inl hj));generalize W.setRow N #[.int .i64 (width':Int),.pointer v']=W1 at *;rw[Qj W1 G (i*2) _ _ (0,0) _ g1,Qj _ G (i*2+1) _ _ (0,0) _ (Qi _ _ _ _ _ _ g1),QI,JiF sp i a o (by rw[h.len];exact hi)];have t2:=Ts W1 G (vvA (sp.set i (a,o)));refine⟨T1.trans t2 (λj hj=>.inl (.inr hj)),⟨?_,(t2.block _ (Jb m1) (by omega)).trans m1,Qi _ _ _ _ _ _ g1,by rw[List.length_set];exact h.len⟩,λd F q' st' hs=>(k1 _ _ _ _ hs).row g1 (by decide)⟩;rw[hv];exact(t2.block _ (Jb s1) (by omega)).trans s1
def SpTo(E:Nat->Addr)(wj:Nat)(F:Nat->Prop)(N M G n i:Nat)(sp:List VV)(r:Except Er (Option Tr×(Nat×Nat)))(e:Ending)(w':World):Prop:=match r with
 | .ok (st',o)=>∃q',e=.returned .nilIface/\Zb w' N wj q' M G n (sp.set i (encO o))/\StAt (dgW wj) F w' q' st'
 | .error _=>e=.returned (eV E 1)/\Zb w' N 0 none M G n (sp.set i zO)
theorem JjP(E:Nat->Addr)(wj:Nat)(hw1:1<=wj)(hw:wj<=32)(F:Nat->Prop)(N:Nat)(q:Option Nat)(st:Option Tr)(M G n:Nat)(sp:List VV)(i:Nat)(hi:i<n)(c:BA×Int)(hc:Jk wj c)(w:World)(hE:Env E w)(hF:∀j,w.heap.size<=j->F j)(hB:Zb w N wj q M G n sp)(hs:StAt (dgW wj) F w q st)(hok:StOk wj st):
  Calls prog 283 #[.int .i64 (i:Int),.agg #[.string c.1,.int .i64 c.2],.pointer (some ⟨N,0,none⟩),.pointer (some ⟨M,0,none⟩)] w λe w'=>Tch (λk=>k=N\/k=G) w w'/\SpTo E wj F N M G n i sp (Xi st (Je c)) e w':=by
 have HW:Hid (∀W,Tch NoB w W->Calls prog 284 #[Jv wj q,.agg #[.string c.1,.int .i64 c.2]] W λe w'=>Tch NoB W w'/\WoTo E wj F (Xi st (Je c)) e w'):=λW hT=>
  Jg5 E wj hw1 hw F q st c hc W (hE.tch hT noE) (λj hj=>hF j (Qm hT.size hj)) (hs.next hT) hok
 have HBX:Hid _:=hB;obtain⟨rv,hrv⟩:∃rv,Jh q=.pointer rv:=⟨_,rfl⟩
 have hNs:N<w.heap.size:=(Jb hB.s)
 have hMs:M<w.heap.size:=(Jb hB.m)
 have hGs:G<w.heap.size:=(Jb hB.g)
 have a0:w.cell? ⟨N,0,none⟩=some (.int .i64 (wj:Int)):=Ja hB.s;have a1:w.cell? ⟨N,1,none⟩=some (.pointer rv):=by rw[<-hrv];exact Ja hB.s
 have a2:w.cell? ⟨M,0,none⟩=some (.slice (some ⟨G,0,none⟩) n n):=Ja hB.m;obtain⟨hNG,hMG,hNM⟩:=hB.apart;have hGN:=hNG.symm;have hGM:=hMG.symm;have hMN:=hNM.symm;have hii:(i:Int)<(n:Int):=by omega
 have hi0:(0:Int)<=(i:Int):=by omega
 have HRV:Hid _:=hrv;unfold Jv at HW;rw[hrv]at HW;generalize hR:Xi st (Je c)=R at *;clear hE hF hB hs hok hrv hc;obtain⟨cs,cn⟩:=c;dsimp only at HW ⊢;have HTA:Hid (∀k,Tch NoB w ((w.alloc (.cells #[.string cs,.int .i64 cn] 49)).drewN k)):=λk=>(Ta _ _ _).dr k;go_enter func283,ntmps283;go_wp2_with fail
 cases R with
 | ok r=>
  obtain⟨st',o⟩:=r;go_region_with (go_at_call 284;refine(HW.o _ (HTA.o 1)).mono ?_;rintro _ w2⟨ht2,q2,rfl,hs2⟩;have hT:Tch NoB w w2:=(HTA.o 1).go ht2;obtain⟨b0,b1,b2,⟨x0,y0,b3,b4⟩,fN,fG⟩:=(HBX.o.next hT).cells rv HRV.o i hi;obtain⟨v2,hv2⟩:∃v,Jh q2=.pointer v:=⟨_,rfl⟩;have HV2:Hid _:=hv2;unfold Jv;rw[hv2];have HT:Hid _:=hT;have HS2:Hid _:=hs2;clear hv2 hT ht2 hs2)
  all_goals go_wp2;go_ret;obtain⟨p1,p2,p3⟩:=(HBX.o.next HT.o).put HT.o i hi wj q2 v2 HV2.o (.int .u64 (o.1:Int)) (.int .u8 (o.2:Int));exact⟨p1,q2,rfl,p2,p3 _ _ _ _ HS2.o⟩
 | error er=>
  go_region_with (go_at_call 284;refine(HW.o _ (HTA.o 1)).mono ?_;rintro _ w2⟨ht2,rfl⟩;have hT:Tch NoB w w2:=(HTA.o 1).go ht2;obtain⟨b0,b1,b2,⟨x0,y0,b3,b4⟩,fN,fG⟩:=(HBX.o.next hT).cells rv HRV.o i hi;have HT:Hid _:=hT;clear hT ht2)
  all_goals go_wp2;go_ret;obtain⟨p1,p2,p3⟩:=(HBX.o.next HT.o).put HT.o i hi 0 none none rfl (.int .u64 0) (.int .u8 0);exact⟨p1,rfl,p2⟩

theorem JiW(fv:Value)(what:BA)(w:World):Calls prog 280 #[.string what,.slice none 0 0,fv] w λe w'=>e=.returned .nilIface/\w=w':=by
 go_enter func280,ntmps280;go_wp2;go_loopw [12] (λi wr=>i=.int .i64 0/\w=wr) (λi _=>0)
 case atStart=>exact⟨rfl,rfl⟩
 case round=>obtain⟨rfl,rfl⟩:=hrel;go_wp2;go_ret;exact⟨rfl,rfl⟩
theorem ZC{P:Program}{fn:Func}{p t t2:Tmp}{ty:TypeId}(h:fn.results= #[.cell p ty,.tmp t,.tmp t2])(tmps:Array Value)(w:World)(g:Nat)(T:TypeId)(cs:Array Value)(fr:Nat×Nat)(d:TypeDesc)
 (hp:tmps.getD p undef=.pointer (some ⟨g,0,none⟩)) (hg:w.heap[g]? =some (.cells cs T fr))
 (hu:P.underlying ty=some d) (hd:(match d with | .struct _ | .array _ _=>true|_=>false)=true) (hi:(P.info? ty).map (·.size)=some cs.size):
  (results fn tmps).run P w=.ok (.tuple #[.agg cs,tmps.getD t undef,tmps.getD t2 undef]) w:=by
 have hp':tmps[p]?.getD undef=.pointer (some ⟨g,0,none⟩):=by simpa using hp
 simp[results,h,hp',asAddr,run_loadVar_row w g T ty cs fr d hg hu hd hi]
theorem Jq.of_row{B c:Nat}{pre:List (Nat×Nat)}(h:w.heap[G]? =some (.cells (vvA (pre.map encO)) 80))(hB:G<B):Jq B w (.slice (some ⟨G,0,none⟩) pre.length c) pre:=by
 refine .inr ⟨G,0,c,rfl,hB,(Jb h),λi hi=>?_⟩;obtain⟨e0,e1⟩:=ZE (pre.map encO) i (by simpa using hi);rw[List.getElem_map]at e0 e1;rw[Nat.zero_add];exact⟨(Ja h).trans e0,(Ja h).trans e1⟩
theorem Jch{g:Nat}{a b:Value}(h:W.heap[g]? =some (.cells #[a,b] 146))(v0 v1:Value):Tch (λk=>k=g) W ((W.setCell ⟨g,0,none⟩ v0).setCell ⟨g,1,none⟩ v1):=by
 rw[set2 W g _ _ _ _ _ h];exact Ts W g #[v0,v1]
def JdC(pre:List (Nat×Nat))(r:Except Er (Option Tr×List (Nat×Nat))):Except Er (Option Tr×List (Nat×Nat)):=match r with
 | .error e=>.error e
 | .ok (st,os)=>.ok (st,pre++os)
theorem JgT(coins:List (BA×Int))(i:Nat)(h:i<coins.length)(st:Option Tr)(pre:List (Nat×Nat)):JdC pre (Yg (coins.drop i) st)=match Xi st (Je coins[i]) with
  | .error e=>.error e
  | .ok (st1,o)=>JdC (pre++[o]) (Yg (coins.drop (i+1)) st1):=by
 rw[List.drop_eq_getElem_cons h];show JdC pre (match Xi st (Je coins[i]) with | .error e=>.error e | .ok (st1,o)=>match Yg (coins.drop (i+1)) st1 with | .error e=>.error e | .ok (st2,os)=>.ok (st2,o::os))=_
 cases Xi st (Je coins[i]) with
 | error e=>rfl
 | ok r=>
  obtain⟨st1,o⟩:=r;simp only
  cases Yg (coins.drop (i+1)) st1 with
  | error e=>rfl
  | ok r=>obtain⟨st2,os⟩:=r;simp[JdC]
structure Jia(wj:Nat)(F:Nat->Prop)(coins:List (BA×Int))(R:Except Er (Option Tr×List (Nat×Nat)))(w0:World)(N M G:Nat)(i:Nat)(w:World)(q:Option Nat)(st:Option Tr)(pre:List (Nat×Nat)):Prop where
 box:Zb w N wj q M G coins.length (pre.map encO++List.replicate (coins.length-i) zO)
 len:pre.length=i
 outs:∀o∈pre,Jy o
 at_:StAt (dgW wj) F w q st
 ok:StOk wj st
 eq:JdC pre (Yg (coins.drop i) st)=R
 tch:Tch (λk=>k=N\/k=G) w0 w
def Jm8(E:Nat->Addr)(n:Nat)(R:Except Er (Option Tr×List (Nat×Nat)))(w0:World)(N M G:Nat)(v:Value)(w:World):Prop:=v=eV E 1/\R=.error .input/\(∃sp,Zb w N 0 none M G n sp)/\Tch (λk=>k=N\/k=G) w0 w
theorem JgU(E:Nat->Addr)(wj:Nat)(hw1:1<=wj)(hw:wj<=32)(F:Nat->Prop)(coins:List (BA×Int))(hco:∀c∈coins,Jk wj c)(R:Except Er (Option Tr×List (Nat×Nat)))(w0:World)(hE:Env E w0)(hF:∀j,w0.heap.size<=j->F j)(N M G:Nat)(hN:18<=N)(hG:N<=G)(g off:Nat)(hg:g<N)(hz:g<w0.heap.size)
 (hr:∀i (h:i<coins.length),w0.cell? ⟨g,off+i*2,none⟩=some (.string coins[i].1)/\w0.cell? ⟨g,off+i*2+1,none⟩=some (.int .i64 coins[i].2)):
  JcU 283 #[.pointer (some ⟨N,0,none⟩),.pointer (some ⟨M,0,none⟩)] g off coins.length (λi=>(coins.map encC).getD i zC) (λi w=>∃q st pre,Jia wj F coins R w0 N M G i w q st pre) (Jm8 E coins.length R w0 N M G):=by
 have hx:∀i (h:i<coins.length),(coins.map encC).getD i zC=encC coins[i]:=λi h=>by simp[List.getD_eq_getElem?_getD,h]
 refine⟨λ_ _=>rfl,?_,?_,?_⟩
 ·rintro i w hi⟨q,st,pre,I⟩;rw[hx i hi];have hc:∀o,w.cell? ⟨g,o,none⟩=w0.cell? ⟨g,o,none⟩:=λo=>I.tch.cell (p:=⟨g,o,none⟩) hz (by show ¬(g=N\/g=G);omega);rw[hc,hc];exact hr i hi
 ·rintro i w o⟨q,st,pre,I⟩;have ha:=Ta NoB w o;exact⟨q,st,pre,I.box.next ha,I.len,I.outs,I.at_.next ha,I.ok,I.eq,I.tch.go ha⟩
 ·rintro i w hi⟨q,st,pre,I⟩;rw[hx i hi];have hcc:Jk wj coins[i]:=hco _ (Qx hi);refine(JjP E wj hw1 hw F N q st M G coins.length _ i hi coins[i] hcc w (hE.tch I.tch (λj hj=>by omega)) (λj hj=>hF j (Qm I.tch.size hj)) I.box I.at_ I.ok).mono ?_;rintro e w'⟨ht,hr⟩;have e1:=I.eq;rw[JgT coins i hi]at e1;have hT:Tch (λk=>k=N\/k=G) w0 w':=I.tch.trans ht (λj hj=>.inl hj)
  cases hres:Xi st (Je coins[i]) with
  | ok r=>
   obtain⟨st',o⟩:=r;rw[hres]at hr e1;obtain⟨q',rfl,hb,hs⟩:=hr;obtain⟨k1,k2⟩:=I.ok.without hres;refine .inl ⟨rfl,q',st',pre++[o],?_,by simp[I.len],λx hx=>?_,hs,k1,e1,hT⟩
   ·have:(pre.map encO++List.replicate (coins.length-i) zO).set i (encO o)=(pre++[o]).map encO++List.replicate (coins.length-(i+1)) zO:=by
     have hl:=I.len;rw[List.set_append_right _ _ (by simp;omega),QL,hl,Nat.sub_self,show coins.length-i=(coins.length-(i+1))+1 by omega,List.replicate_succ];simp
    rw[<-this];exact hb
   ·rcases QE.1 hx with h|h
    ·exact I.outs x h
    ·rw[Qt.1 h];exact k2
  | error er=>
   rw[hres]at hr e1;obtain⟨rfl,hb⟩:=hr;have:=JfC hres;subst this;exact .inr ⟨_,_,rfl,rfl,e1.symm,⟨_,hb⟩,hT⟩
theorem Joi(n:Nat)(h:n<=3)(w:World):(Instr.makeSlice 22 (.int .i64 (n:Int)) (.int .i64 (n:Int))).run prog w=.ok (.slice (some ⟨w.heap.size,0,none⟩) n n) (w.alloc (.cells (vvA (List.replicate n zO)) 80)):=by
 obtain rfl|rfl|rfl|rfl:n=0\/n=1\/n=2\/n=3:=by omega
 all_goals kernel_rfl
def Jm9(E:Nat->Addr)(wj:Nat)(F:Nat->Prop)(r:Except Er (Option Tr×List (Nat×Nat)))(e:Ending)(w':World):Prop:=match r with
 | .ok (st',os)=>∃q' G c,e=.returned (.tuple #[Jv wj q',.slice (some ⟨G,0,none⟩) os.length c,.nilIface])/\StAt (dgW wj) F w' q' st'/\StOk wj st'/\w'.heap[G]? =some (.cells (vvA (os.map encO)) 80)/\(∀o∈os,Jy o)/\os.length<=3
 | .error er=>∃x v,e=.returned (.tuple #[Jv 0 none,x,v])/\Jp E (erG er) w' v/\er=.input
theorem JjQ(E:Nat->Addr)(wj:Nat)(hw1:1<=wj)(hw:wj<=32)(F:Nat->Prop)(q:Option Nat)(st:Option Tr)(v:Value)(coins:List (BA×Int))(hco:∀c∈coins,Jk wj c)(h3:coins.length<=3)(w:World)(hE:Env E w)(hF:∀j,w.heap.size<=j->F j)(hv:JD w.heap.size w v coins)(hs:StAt (dgW wj) F w q st)(hok:StOk wj st):
  Calls prog 207 #[Jv wj q,v] w λe w'=>Tch NoB w w'/\Jm9 E wj F (Yg coins st) e w':=by
 obtain⟨rv,hrv⟩:∃rv,Jh q=.pointer rv:=⟨_,rfl⟩
 obtain⟨n,hn⟩:∃n,n=coins.length:=⟨_,rfl⟩
 obtain⟨W0,hW0⟩:∃W,W=((w.alloc (.cells #[.int .i64 (wj:Int),.pointer rv] 146)).alloc (.cells #[.int .i64 0,.pointer none] 146)).alloc (.cells (vvA (List.replicate n zO)) 80):=⟨_,rfl⟩
 obtain⟨W,hW⟩:∃W,W=W0.alloc (.cells #[.slice (some ⟨w.heap.size+2,0,none⟩) n n] 22):=⟨_,rfl⟩
 have hz0:W0.heap.size=w.heap.size+3:=by rw[hW0];simp
 have hA0:Tch NoB w W0:=by rw[hW0];exact Tch.allocs3 _ _ _ _ _
 have hA1:Tch NoB W0 W:=by rw[hW];exact Ta _ _ _
 have hA:Tch NoB w W:=hA0.go hA1;have f0:W0.heap[w.heap.size]? =some (.cells #[.int .i64 (wj:Int),.pointer rv] 146):=by rw[hW0];exact JN _ _ _ _
 have f1:W0.heap[w.heap.size+1]? =some (.cells #[.int .i64 0,.pointer none] 146):=by rw[hW0];exact JG _ _ _ _
 have f2:W0.heap[w.heap.size+2]? =some (.cells (vvA (List.replicate n zO)) 80):=by rw[hW0];exact JH _ _ _ _
 have hbx:Zb W w.heap.size wj q (w.heap.size+3) (w.heap.size+2) coins.length (List.replicate (coins.length-0) zO):=by
  rw[<-hn,Nat.sub_zero];refine⟨?_,?_,?_,by simp⟩
  ·rw[hrv];exact(hA1.block _ (by omega) (λh=>h)).trans f0
  ·rw[hW,<-hz0];exact Qf _ _
  ·exact(hA1.block _ (by omega) (λh=>h)).trans f2
 have hro:W.heap[w.heap.size+1]? =some (.cells #[.int .i64 0,.pointer none] 146):=(hA1.block _ (by omega) (λh=>h)).trans f1;generalize hR:Yg coins st=R;have hEW:=hE.tch hA noE;have hi0:Jia wj F coins R W w.heap.size (w.heap.size+3) (w.heap.size+2) 0 W q st []:=⟨hbx,rfl,(λ_ h=>by cases h),hs.next hA,hok,by rw[List.drop_zero,hR];cases R with|error e=>rfl|ok r=>rfl,Te _ _⟩
 have HEA:Hid (∀what:BA,what.size<=1000->Calls prog 280 #[.string what,v,.func (.func 283) #[] #[.pointer (some ⟨w.heap.size,0,none⟩),.pointer (some ⟨w.heap.size+3,0,none⟩)]] W λe w'=>ToE (λi w'=>∃q st pre,Jia wj F coins R W w.heap.size (w.heap.size+3) (w.heap.size+2) i w' q st pre) (Jm8 E coins.length R W w.heap.size (w.heap.size+3) (w.heap.size+2)) coins.length e w'):=λwhat hwh=>by
  rcases hv with⟨rfl,rfl⟩|⟨gi,oi,c,rfl,h1,h2,h3'⟩
  ·refine(JiW _ _ _).mono ?_;rintro _ _⟨rfl,rfl⟩;exact .inl ⟨rfl,q,st,[],hi0⟩
  ·refine Joa _ _ _ _ _ _ _ _ (λi hi=>?_) _ _ (JgU E wj hw1 hw F coins hco R W hEW (λj hj=>hF j (Qm hA.size hj)) w.heap.size (w.heap.size+3) (w.heap.size+2) hE.size (by omega) gi oi h1 (Qk h2 hA.size) (λi hi=>?_)) h3 hwh W ⟨q,st,[],hi0⟩
   ·simp only[Qn,List.getElem?_map,Qd hi];exact⟨_,_,rfl⟩
   ·have hc:∀o,W.cell? ⟨gi,o,none⟩=w.cell? ⟨gi,o,none⟩:=λo=>hA.cell (p:=⟨gi,o,none⟩) h2 (λh=>h);rw[hc,hc];exact h3' i hi
 obtain⟨ia,ic,hvs⟩:=hv.shape;have HRV:Hid _:=hrv;have HRO:Hid _:=hro;have HA:Hid _:=hA;have hmf:∀(fn:Fn)(first cap:Array Value)(w:World),(Instr.makeFunc fn first cap).run prog w=.ok (.func fn first cap) w:=λ_ _ _ _=>rfl;have HMK:Hid (∀w,(Instr.makeSlice 22 (.int .i64 (n:Int)) (.int .i64 (n:Int))).run prog w=.ok (.slice (some ⟨w.heap.size,0,none⟩) n n) (w.alloc (.cells (vvA (List.replicate n zO)) 80))):=λw=>Joi n (by omega) w;have HW:Hid (W=(((w.alloc (.cells #[.int .i64 (wj:Int),.pointer rv] 146)).alloc (.cells #[.int .i64 0,.pointer none] 146)).alloc (.cells (vvA (List.replicate n zO)) 80)).alloc (.cells #[.slice (some ⟨w.heap.size+2,0,none⟩) n n] 22)):=by rw[hW0]at hW;exact hW
 have HN:Hid _:=hn;subst hvs;unfold Jv;rw[hrv];rw[<-hn]at HEA ⊢;have hn3:n<=3:=by omega
 clear hE hF hv hs hok hrv hro hA hi0 hEW hbx hW hW0 hco h3 hR hA0 hA1 f0 f1 f2 hz0 hn;have hmk:=HMK.o;go_enter func207,ntmps207;go_wp2_with fail;rw[<-HW.o];refine(HEA.o _ (by decide)).mono ?_;rintro e w2 (⟨rfl,q2,st2,pre,I⟩|⟨p,sx,vx,w1,rfl,hp,⟨rfl,hR,⟨sp,hb⟩,ht⟩,hbl⟩)
 ·have hsR:=(Jb HRO.o)
  have hr2:w2.heap[w.heap.size+1]? =some (.cells #[.int .i64 0,.pointer none] 146):=(I.tch.block _ hsR (by omega)).trans HRO.o;obtain⟨v2,hv2⟩:∃v,Jh q2=.pointer v:=⟨_,rfl⟩
  have c0:w2.cell? ⟨w.heap.size,0,none⟩=some (.int .i64 (wj:Int)):=Ja I.box.s;have c1:w2.cell? ⟨w.heap.size,1,none⟩=some (.pointer v2):=by rw[<-hv2];exact Ja I.box.s
  have c2:w2.cell? ⟨w.heap.size+1+1+1,0,none⟩=some (.slice (some ⟨w.heap.size+2,0,none⟩) n n):=by rw[HN.o];exact Ja I.box.m
  have r0:w2.cell? ⟨w.heap.size+1,0,none⟩=some (.int .i64 0):=Ja hr2;have r1:w2.cell? ⟨w.heap.size+1,1,none⟩=some (.pointer none):=Ja hr2;have fR:∀j,w2.frozen? ⟨w.heap.size+1,j,none⟩=false:=λj=>Qg _ _ _ _ _ hr2;have HR2:Hid _:=hr2;have HI:Hid (Jia wj F coins R W w.heap.size (w.heap.size+3) (w.heap.size+2) coins.length w2 q2 st2 pre):=by rw[<-HN.o];exact I
  have HV2:Hid _:=hv2;have hz2:w.heap.size+3<w2.heap.size:=(Jb I.box.m)
  clear I hr2 hv2 HEA hsR hmk;go_wp2;go_region
  all_goals
   go_wp2;obtain⟨p1,p2,p3,_⟩:=XK HR2.o ((HA.o.trans HI.o.tch (λj hj=>.inr (by omega))):Tch NoB w w2) (by omega) (.int .i64 (wj:Int)) (.pointer v2);refine QJ (v:=.tuple #[.agg #[.int .i64 (wj:Int),.pointer v2],.slice (some ⟨w.heap.size+2,0,none⟩) n n,.nilIface]) (ZC results207 _ _ (w.heap.size+1) _ _ (0,0) _ rfl p1 underlying146 rfl (by kernel_rfl)) rfl ⟨p2.dr 1,?_⟩;have e1:=HI.o.eq;rw[List.drop_length]at e1;rw[<-e1];have hpl:pre.length=n:=(by rw[HN.o];exact HI.o.len);have hb:=HI.o.box;rw[Nat.sub_self,List.replicate_zero,QC]at hb;refine⟨q2,w.heap.size+2,n,?_,(p3 _ _ _ _ HI.o.at_).next (Td _ _ 1),HI.o.ok,?_,?_,?_⟩
   ·simp only[QC];rw[Jv,HV2.o,hpl]
   ·have hg:=((Jch HR2.o (.int .i64 (wj:Int)) (.pointer v2)).dr 1).block (w.heap.size+2) (by omega) (by omega);simp only[QC];exact hg.trans hb.g
   ·simp only[QC];exact HI.o.outs
   ·simp only[QC];omega
 ·have hsR:=(Jb HRO.o)
  have hr1:w1.heap[w.heap.size+1]? =some (.cells #[.int .i64 0,.pointer none] 146):=(ht.block _ hsR (by omega)).trans HRO.o;have hz1:=(Jb hr1)
  have hr2:w2.heap[w.heap.size+1]? =some (.cells #[.int .i64 0,.pointer none] 146):=(hbl.block _ hz1).trans hr1;have hs2:w2.heap[w.heap.size]? =some (.cells #[.int .i64 0,.pointer none] 146):=(hbl.block _ (Jb hb.s)).trans hb.s;have hm2:w2.heap[w.heap.size+3]? =some (.cells #[.slice (some ⟨w.heap.size+2,0,none⟩) n n] 22):=(hbl.block _ (Jb hb.m)).trans hb.m;have c0:w2.cell? ⟨w.heap.size,0,none⟩=some (.int .i64 0):=Ja hs2;have c1:w2.cell? ⟨w.heap.size,1,none⟩=some (.pointer none):=Ja hs2;have c2:w2.cell? ⟨w.heap.size+1+1+1,0,none⟩=some (.slice (some ⟨w.heap.size+2,0,none⟩) n n):=Ja hm2;have r0:w2.cell? ⟨w.heap.size+1,0,none⟩=some (.int .i64 0):=Ja hr2;have r1:w2.cell? ⟨w.heap.size+1,1,none⟩=some (.pointer none):=Ja hr2;have fR:∀j,w2.frozen? ⟨w.heap.size+1,j,none⟩=false:=λj=>Qg _ _ _ _ _ hr2;have HR2:Hid _:=hr2;have HT2:Hid (Tch (λk=>k=w.heap.size\/k=w.heap.size+2) W w2):=ht.trans (Tch.of_below hbl) (λj hj=>.inr (Qm ht.size hj));have HP:Hid _:=hp;have HR:Hid (R=_):=hR;have hz2:w.heap.size+3<w2.heap.size:=(Jb hm2)
  clear hr1 hr2 hs2 hbl ht hb hp hR HEA hsR hz1 hm2 hmk;go_wp2;go_region
  all_goals go_wp2;obtain⟨p1,p2,p3,p4⟩:=XK HR2.o ((HA.o.trans HT2.o (λj hj=>.inr (by omega))):Tch NoB w w2) (by omega) (.int .i64 0) (.pointer none);refine QJ (v:=.tuple #[.agg #[.int .i64 0,.pointer none],.slice (some ⟨w.heap.size+2,0,none⟩) n n,.iface 235 (.pointer (some ⟨p,0,none⟩))]) (ZC results207 _ _ (w.heap.size+1) _ _ (0,0) _ rfl p1 underlying146 rfl (by kernel_rfl)) rfl ⟨p2.dr 1,?_⟩;rw[HR.o];exact⟨_,_,rfl,Jp.tch (p4 _ _ _ (.wrap p _ _ HP.o .base)) (Td NoB _ 1) (λ_ _ _ _ h=>h),rfl⟩
