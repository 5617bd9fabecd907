import Derived.Test.YtighkdnooglfjaaGreatDoorLcTree6
import Derived.Test.YtighkdnooglfjaaGreatDoorLcTotal
namespace Go.Proofs.YtighkdnooglfjaaGreatDoor
open Tryz
set_option maxRecDepth 100000
set_option maxHeartbeats 1000000
open Go.RowKit

variable {id:BA}{c:BA×Int}{er:Er}{k:Key}{N wj:Nat}{S:Nat->Prop}{o:Nat×Nat}{q:Option Nat}{W a b w:World}
theorem YB{P:Program}{fn:Func}{p p2 t:Tmp}{ty ty2:TypeId}(h:fn.results= #[.cell p ty,.cell p2 ty2,.tmp t])(tmps:Array Value)(w:World)(g g2:Nat)(T T2:TypeId)(cs cs2:Array Value)(fr fr2:Nat×Nat)(d d2:TypeDesc)
 (hp:tmps.getD p undef=.pointer (some ⟨g,0,none⟩)) (hg:w.heap[g]? =some (.cells cs T fr))
 (hu:P.underlying ty=some d) (hd:(match d with | .struct _ | .array _ _=>true|_=>false)=true) (hi:(P.info? ty).map (·.size)=some cs.size)
 (hp2:tmps.getD p2 undef=.pointer (some ⟨g2,0,none⟩)) (hg2:w.heap[g2]? =some (.cells cs2 T2 fr2))
 (hu2:P.underlying ty2=some d2) (hd2:(match d2 with | .struct _ | .array _ _=>true|_=>false)=true) (hi2:(P.info? ty2).map (·.size)=some cs2.size):
  (results fn tmps).run P w=.ok (.tuple #[.agg cs,.agg cs2,tmps.getD t undef]) w:=by
 have hp':tmps[p]?.getD undef=.pointer (some ⟨g,0,none⟩):=by simpa using hp
 have hp2':tmps[p2]?.getD undef=.pointer (some ⟨g2,0,none⟩):=by simpa using hp2
 simp[results,h,hp',hp2',asAddr,run_loadVar_row w g T ty cs fr d hg hu hd hi,run_loadVar_row w g2 T2 ty2 cs2 fr2 d2 hg2 hu2 hd2 hi2]
structure JbW(w W:World)(wj:Nat)(q:Option Nat)(c:BA×Int):Prop where
 t:W.heap[w.heap.size]? =some (.cells #[.int .i64 (wj:Int),Jh q] 146)
 c:W.heap[w.heap.size+1]? =some (.cells #[.string c.1,.int .i64 c.2] 49)
 r:W.heap[w.heap.size+2]? =some (.cells #[.int .i64 0,.pointer none] 146)
 oo:W.heap[w.heap.size+3]? =some (.cells #[.int .u64 0,.int .u8 0] 80)
theorem JbW.next{W':World}(h:JbW w W wj q c)(k:Tch NoB W W'):JbW w W' wj q c:=
 ⟨(k.block _ (Jb h.t) (λh=>h)).trans h.t,(k.block _ (Jb h.c) (λh=>h)).trans h.c,(k.block _ (Jb h.r) (λh=>h)).trans h.r,(k.block _ (Jb h.oo) (λh=>h)).trans h.oo⟩
theorem JhA(w:World)(wj:Nat)(q:Option Nat)(c:BA×Int):JbW w ((((w.alloc (.cells #[.int .i64 (wj:Int),Jh q] 146)).alloc (.cells #[.string c.1,.int .i64 c.2] 49)).alloc (.cells #[.int .i64 0,.pointer none] 146)).alloc (.cells #[.int .u64 0,.int .u8 0] 80)) wj q c:=
 ⟨(XC _ _ _ _ _ _ (by omega)).trans (JN _ _ _ _),(XC _ _ _ _ _ _ (by omega)).trans (JG _ _ _ _),(XC _ _ _ _ _ _ (by omega)).trans (JH _ _ _ _),Ja2 _ _ _ _ _⟩
theorem Jbh{d:List UInt8->BA}{F:Nat->Prop}(h:JbW w W wj q c)(hT:Tch NoB w W)(v0 v1 u0 u1:Value):
  ((((W.setCell ⟨w.heap.size+2,0,none⟩ v0).setCell ⟨w.heap.size+2,1,none⟩ v1).setCell ⟨w.heap.size+3,0,none⟩ u0).setCell ⟨w.heap.size+3,1,none⟩ u1).heap[w.heap.size+2]? =some (.cells #[v0,v1] 146)/\
  ((((W.setCell ⟨w.heap.size+2,0,none⟩ v0).setCell ⟨w.heap.size+2,1,none⟩ v1).setCell ⟨w.heap.size+3,0,none⟩ u0).setCell ⟨w.heap.size+3,1,none⟩ u1).heap[w.heap.size+3]? =some (.cells #[u0,u1] 80)/\
  Tch NoB w ((((W.setCell ⟨w.heap.size+2,0,none⟩ v0).setCell ⟨w.heap.size+2,1,none⟩ v1).setCell ⟨w.heap.size+3,0,none⟩ u0).setCell ⟨w.heap.size+3,1,none⟩ u1)/\
  ∀q' st',StAt d F W q' st'->StAt d F ((((W.setCell ⟨w.heap.size+2,0,none⟩ v0).setCell ⟨w.heap.size+2,1,none⟩ v1).setCell ⟨w.heap.size+3,0,none⟩ u0).setCell ⟨w.heap.size+3,1,none⟩ u1) q' st':=by
 rw[set2 W (w.heap.size+2) _ _ _ _ _ h.r];have t1:=Ts W (w.heap.size+2) #[v0,v1];have o1:=(t1.block _ (Jb h.oo) (by omega)).trans h.oo;have r1:(W.setRow (w.heap.size+2) #[v0,v1]).heap[w.heap.size+2]? =some (.cells #[v0,v1] 146):=Qi _ _ _ _ _ _ h.r;rw[set2 _ (w.heap.size+3) _ _ _ _ _ o1];have t2:=Ts (W.setRow (w.heap.size+2) #[v0,v1]) (w.heap.size+3) #[u0,u1];refine⟨(t2.block _ (Jb r1) (by omega)).trans r1,Qi _ _ _ _ _ _ o1,(hT.trans t1 (λj hj=>.inr (by omega))).trans t2 (λj hj=>.inr (by omega)),λq' st' hs=>?_⟩;exact(hs.row h.r (by decide)).row o1 (by decide)
def WoTo(E:Nat->Addr)(wj:Nat)(F:Nat->Prop)(r:Except Er (Option Tr×(Nat×Nat)))(e:Ending)(w':World):Prop:=match r with
 | .ok (st',o)=>∃q',e=.returned (.tuple #[Jv wj q',.agg #[.int .u64 (o.1:Int),.int .u8 (o.2:Int)],.nilIface])/\StAt (dgW wj) F w' q' st'
 | .error _=>e=.returned (.tuple #[.agg #[.int .i64 0,.pointer none],.agg #[.int .u64 0,.int .u8 0],eV E 1])
theorem Jg5(E:Nat->Addr)(wj:Nat)(hw1:1<=wj)(hw:wj<=32)(F:Nat->Prop)(q:Option Nat)(st:Option Tr)(c:BA×Int)(hc:Jk wj c)(w:World)(hE:Env E w)(hF:∀j,w.heap.size<=j->F j)(hs:StAt (dgW wj) F w q st)(hok:StOk wj st):
  Calls prog 284 #[Jv wj q,.agg #[.string c.1,.int .i64 c.2]] w λe w'=>Tch NoB w w'/\WoTo E wj F (Xi st (Je c)) e w':=by
 have hkl:=Yu hc;have HKO:Hid (∀W,Tch NoB w W->_):=λW hT=>Jep E wj hw c hc W (hE.tch hT noE);have HS:Hid (StAt (dgW wj) F w q st):=hs;have HE:Hid _:=hE;have HF:Hid _:=hF;have HOK:Hid _:=hok;have HBX:=JhA w wj q c;obtain⟨rv,hrv⟩:∃rv,rv=(q.map λn=>(⟨n,0,none⟩:Addr)):=⟨_,rfl⟩
 have hrq:Jh q=.pointer rv:=by rw[hrv]
 clear hs hE hF hok hc;obtain⟨cs,cn⟩:=c;dsimp only at HKO HBX ⊢;show Calls _ _ #[.agg #[_,Jh q],_] _ _;rw[hrq];have HRQ:Hid _:=hrq;clear hrq hrv;have HA0:Hid (Tch NoB w ((((w.alloc (.cells #[.int .i64 (wj:Int),.pointer rv] 146)).alloc (.cells #[.string cs,.int .i64 cn] 49)).alloc (.cells #[.int .i64 0,.pointer none] 146)).alloc (.cells #[.int .u64 0,.int .u8 0] 80))):=(Tch.allocs3 NoB w _ _ _).trans (Ta _ _ _) (λ_ h=>.inl h);have HB0:Hid (JbW w ((((w.alloc (.cells #[.int .i64 (wj:Int),.pointer rv] 146)).alloc (.cells #[.string cs,.int .i64 cn] 49)).alloc (.cells #[.int .i64 0,.pointer none] 146)).alloc (.cells #[.int .u64 0,.int .u8 0] 80)) wj q (cs,cn)):=by rw[<-HRQ.o];exact HBX
 clear HBX;go_enter func284,ntmps284;go_wp2_with fail;refine(HKO _ HA0).mono ?_;rintro _ w2⟨rfl,ht1⟩;have HT2:Hid _:=HA0.trans ht1 noE;have b2:=HB0.o.next ht1;have HB2:Hid _:=b2;obtain⟨d0, -⟩:=rows b2.t;have d1:w2.cell? ⟨w.heap.size,1,none⟩=some (.pointer rv):=by rw[<-HRQ.o];exact Ja b2.t
 generalize hKB:(⟨(Je (cs,cn)).toArray⟩:BA)=kb at *;have HKB:Hid _:=hKB;clear hKB ht1 b2 HKO HB0 HA0
 cases st with
 | none=>
  obtain rfl:=HS.of_none;obtain rfl:rv=none:=by have:=HRQ.o;simpa [Jh]using this.symm
  have HN:Hid (Calls prog 269 #[.agg #[.int .i64 (wj:Int),.pointer none],.string kb] w2 λe w'=>e=.returned (.pointer none)/\Tch NoB w2 w'):=by have:=JbB (wj:Int) (Je (cs,cn)) (by omega) (by omega) w2;rw[HKB.o]at this;exact this
  go_wp2_with fail;refine HN.mono ?_;rintro _ w3⟨rfl,ht3⟩;have b3:=HB2.o.next ht3;have HT3:Hid _:=HT2.trans ht3 noE;have hin:=(HE.tch HT3 noE).input;obtain⟨r0,r1⟩:=rows b3.r;have fR:∀j,w3.frozen? ⟨w.heap.size+1+1,j,none⟩=false:=λj=>Qg _ _ _ _ _ b3.r;obtain⟨o0,o1⟩:=rows b3.oo;have fO:∀j,w3.frozen? ⟨w.heap.size+1+1+1,j,none⟩=false:=λj=>Qg _ _ _ _ _ b3.oo;have HB3:Hid _:=b3;clear ht3 b3 HN d0 d1;go_wp2;go_region
  all_goals go_wp2;obtain⟨q1,q2,q3,_⟩:=Jbh (d:=dgW wj) (F:=F) (W:=w3.drew) (HB3.next (Td NoB w3 1)) (HT3.trans (Td NoB w3 1) noE) (.int .i64 0) (.pointer none) (.int .u64 0) (.int .u8 0);refine QJ (v:=.tuple #[.agg #[.int .i64 0,.pointer none],.agg #[.int .u64 0,.int .u8 0],eV E 1]) (YB results284 _ _ (w.heap.size+1+1) (w.heap.size+1+1+1) _ _ _ _ (0,0) (0,0) _ _ rfl q1 underlying146 rfl (by kernel_rfl) rfl q2 underlying80 rfl (by kernel_rfl)) rfl ⟨q3,?_⟩;rfl
 | some t=>
  obtain⟨n,rfl,hn⟩:=HS.of_some;obtain rfl:rv=some ⟨n,0,none⟩:=by have:=HRQ.o;simpa [Jh]using this.symm
  have HTO:Hid _:=HOK.o;have HNT:Hid _:=hn.next HT2.o;have HN:Hid (Calls prog 269 #[.agg #[.int .i64 (wj:Int),.pointer (some ⟨n,0,none⟩)],.string kb] w2 λe w'=>∃m,e=.returned (.pointer (some ⟨m,0,none⟩))/\Jg (dgW wj) F w' m (.leaf (t.near (Je (cs,cn))).1 (t.near (Je (cs,cn))).2)/\Tch NoB w2 w'):=by have:=JbC wj (by omega) (dgW wj) F n t (Je (cs,cn)) hkl w2 HNT HTO.o;rw[HKB.o]at this;exact this
  clear hn;go_wp2_with fail;refine HN.mono ?_;rintro _ w3⟨m,rfl,hm,ht3⟩;have b3:=HB2.o.next ht3;obtain⟨e0,e1⟩:=rows b3.t;obtain⟨r0,r1⟩:=rows b3.r;have fR:∀j,w3.frozen? ⟨w.heap.size+1+1,j,none⟩=false:=λj=>Qg _ _ _ _ _ b3.r;obtain⟨o0,o1⟩:=rows b3.oo;have fO:∀j,w3.frozen? ⟨w.heap.size+1+1+1,j,none⟩=false:=λj=>Qg _ _ _ _ _ b3.oo;have hmk:w3.cell? ⟨m,1,none⟩=some (.string ⟨(t.near (Je (cs,cn))).1.toArray⟩):=Ja hm.a.2;have hm2:w3.cell? ⟨m,2,none⟩=some (.int .u64 ((t.near (Je (cs,cn))).2.1:Int)):=Ja hm.a.2;have hm3:w3.cell? ⟨m,3,none⟩=some (.int .u8 ((t.near (Je (cs,cn))).2.2:Int)):=Ja hm.a.2;have hmlt:=hm.own.2;have HT3:Hid _:=HT2.trans ht3 noE;have HNT3:Hid _:=HNT.next ht3;have HB3:Hid _:=b3;have hin:=(HE.tch HT3 noE).input;clear ht3 b3 HN d0 d1 hm HNT HB2;generalize hNB:(⟨(t.near (Je (cs,cn))).1.toArray⟩:BA)=nb at *;have HNB:Hid _:=hNB;clear hNB;have hnl:nb.data.toList=(t.near (Je (cs,cn))).1:=by rw[<-HNB.o]
  have hkl2:kb.data.toList=Je (cs,cn):=by rw[<-HKB.o]
  by_cases heq:(t.near (Je (cs,cn))).1=Je (cs,cn)
  ·have hkk:nb=kb:=(by rw[<-HNB.o,heq];exact HKB.o);have HWO:Hid (Xi (some t) (Je (cs,cn))=.ok (t.cut (Je (cs,cn)),(t.near (Je (cs,cn))).2)):=if_pos heq;have HCU:Hid (∀W,Tch NoB w3 W->Calls prog 339 #[.agg #[.int .i64 (wj:Int),.pointer (some ⟨n,0,none⟩)],.pointer (some ⟨n,0,none⟩),.string kb] W λe w'=>JfF wj F (t.cut (Je (cs,cn))) W e w'):=λW hT=>by
    have:=Jmb E wj hw1 hw F (some ⟨n,0,none⟩) (Je (cs,cn)) hkl t n W HTO (HE.tch (HT3.trans hT noE) noE) (λj hj=>HF j (Qm (HT3.trans hT noE).size hj)) (HNT3.next hT);rw[HKB.o]at this;exact this
   subst hkk;clear heq hnl hkl2;have hz3:=(Jb HB3.oo)
   obtain⟨xa,hXA⟩:∃x,(t.near (Je (cs,cn))).2.1=x:=⟨_,rfl⟩
   obtain⟨xo,hXO⟩:∃x,(t.near (Je (cs,cn))).2.2=x:=⟨_,rfl⟩
   rw[hXA]at hm2;rw[hXO]at hm3;have HX:Hid ((t.near (Je (cs,cn))).2=(xa,xo)):=Prod.ext hXA hXO;clear hXA hXO;go_wp2_with fail;refine(HCU _ (Te _ _)).mono ?_;rintro _ w4⟨q4,rfl,(HQ4:Hid _),ht4⟩;have b4:=HB3.o.next ht4;have HB4:Hid _:=b4;have HT4:Hid (Tch NoB w w4):=HT3.trans ht4 noE;obtain⟨s0,s1⟩:=rows b4.r;have gR:∀j,w4.frozen? ⟨w.heap.size+1+1,j,none⟩=false:=λj=>Qg _ _ _ _ _ b4.r;have p0:w4.cell? ⟨w.heap.size+1+1+1,0,none⟩=some (.int .u64 0):=Ja b4.oo;have p1:w4.cell? ⟨w.heap.size+1+1+1,1,none⟩=some (.int .u8 0):=Ja b4.oo;have gO:∀j,w4.frozen? ⟨w.heap.size+1+1+1,j,none⟩=false:=λj=>Qg _ _ _ _ _ b4.oo;have f0:w4.cell? ⟨w.heap.size,0,none⟩=some (.int .i64 (wj:Int)):=Ja b4.t;have n2:w4.cell? ⟨m,2,none⟩=some (.int .u64 (xa:Int)):=(ht4.cell (p:=⟨m,2,none⟩) hmlt (λh=>h)).trans hm2;have n3:w4.cell? ⟨m,3,none⟩=some (.int .u8 (xo:Int)):=(ht4.cell (p:=⟨m,3,none⟩) hmlt (λh=>h)).trans hm3;clear ht4 b4 e0 e1 r0 r1 fR o0 o1 fO hm2 hm3 hmk HCU;obtain⟨v4,hv4⟩:∃v,Jh q4=.pointer v:=⟨_,rfl⟩
   rw[hv4];have HV4:Hid (Jh q4=.pointer v4):=hv4;clear hv4;go_wp2;go_region
   all_goals go_wp2;obtain⟨q1,q2,q3,q5⟩:=Jbh (d:=dgW wj) (F:=F) (W:=w4) HB4.o HT4.o (.int .i64 (wj:Int)) (.pointer v4) (.int .u64 (xa:Int)) (.int .u8 (xo:Int));refine QJ (v:=.tuple #[.agg #[.int .i64 (wj:Int),.pointer v4],.agg #[.int .u64 (xa:Int),.int .u8 (xo:Int)],.nilIface]) (YB results284 _ _ (w.heap.size+1+1) (w.heap.size+1+1+1) _ _ _ _ (0,0) (0,0) _ _ rfl q1 underlying146 rfl (by kernel_rfl) rfl q2 underlying80 rfl (by kernel_rfl)) rfl ⟨q3.trans (Td NoB _ 1) noE,?_⟩;rw[HWO.o,HX.o];refine⟨q4,?_,(q5 _ _ HQ4.o).next (Td NoB _ 1)⟩;rw[Jv,HV4.o]
  ·have hne:(nb.toList == kb.toList)=false:=by
    rw[ByteArray.toList_eq,ByteArray.toList_eq,hnl,hkl2];simpa using heq
   have hne2:(nb.toList != kb.toList)=true:=(by rw[bne,hne];rfl);have HWO:Hid (Xi (some t) (Je (cs,cn))=.error .input):=if_neg heq;clear hnl hkl2 heq hm2 hm3;go_wp2;go_region
   all_goals go_wp2;obtain⟨q1,q2,q3,_⟩:=Jbh (d:=dgW wj) (F:=F) (W:=w3.drew) (HB3.o.next (Td NoB w3 1)) (HT3.o.trans (Td NoB w3 1) noE) (.int .i64 0) (.pointer none) (.int .u64 0) (.int .u8 0);refine QJ (v:=.tuple #[.agg #[.int .i64 0,.pointer none],.agg #[.int .u64 0,.int .u8 0],eV E 1]) (YB results284 _ _ (w.heap.size+1+1) (w.heap.size+1+1+1) _ _ _ _ (0,0) (0,0) _ _ rfl q1 underlying146 rfl (by kernel_rfl) rfl q2 underlying80 rfl (by kernel_rfl)) rfl ⟨q3,?_⟩;rw[HWO.o];rfl

theorem Tch.go{c:World}(h:Tch S a b)(k:Tch NoB b c):Tch S a c:=h.trans k noE
theorem Tch.dr(h:Tch S a b)(n:Nat):Tch S a (b.drewN n):=h.go (Td _ _ _)
theorem TrOk.pair{n one:Tr}{b a:Nat}(h1:TrOk wj n)(h2:TrOk wj one)(hb:b<8*(wj+1)):TrOk wj (Tr.pair n one b a):=by
 unfold Tr.pair
 split
 ·exact⟨hb,h2,h1⟩
 ·exact⟨hb,h1,h2⟩
theorem TrOk.graft{t:Tr}{d:Nat}(h:TrOk wj t)(hl:TrOk wj (.leaf k o))(hd:d<8*(wj+1)):TrOk wj (t.graft k o d):=by
 induction t using Tr.ri with
 | leaf k' o'=>exact TrOk.pair h hl hd
 | br b l r ihl ihr=>
  unfold Tr.graft
  split
  ·exact TrOk.pair h hl hd
  ·split
   ·exact⟨h.1,ihl h.2.1,h.2.2⟩
   ·exact⟨h.1,h.2.1,ihr h.2.2⟩
theorem TrOk.cut{t:Tr}(h:TrOk wj t):StOk wj (t.cut k):=by
 induction t using Tr.ri with
 | leaf k' o'=>exact trivial
 | br b l r ihl ihr=>
  unfold Tr.cut
  split
  ·have:=ihl h.2.1
   split
   ·exact h.2.2
   ·rename_i l' hl';rw[hl']at this;exact⟨h.1,this,h.2.2⟩
  ·have:=ihr h.2.2
   split
   ·exact h.2.1
   ·rename_i l' hl';rw[hl']at this;exact⟨h.1,h.2.1,this⟩
theorem TrOk.nearO{t:Tr}(h:TrOk wj t):Jy (t.near k).2:=by
 induction t using Tr.ri with
 | leaf k' o=>exact h.2.2
 | br b l r ihl ihr=>
  unfold Tr.near
  split
  ·exact ihl h.2.1
  ·exact ihr h.2.2
theorem StOk.with{st st':Option Tr}(h:StOk wj st)(hc:Jk wj c)(ho:Jy o)(e:YW st (Je c) o=.ok st'):StOk wj st':=by
 have hkl:(Je c).length=wj+1:=Yu hc;have hlf:TrOk wj (.leaf (Je c) o):=Jb0 hc ho
 cases st with
 | none=>cases e;exact hlf
 | some t=>
  unfold YW at e;simp only at e
  split at e
  ·cases e
  ·rename_i hne
   cases e
   have hnl:(t.near (Je c)).1.length=wj+1:=TrOk.near h;have:=(Jij (t.near (Je c)).1 (Je c) (by omega) hne).1;exact TrOk.graft h hlf (by omega)
theorem StOk.without{st st':Option Tr}(h:StOk wj st)(e:Xi st k=.ok (st',o)):StOk wj st'/\Jy o:=by
 cases st with
 | none=>cases e
 | some t=>
  unfold Xi at e;simp only at e
  split at e
  ·cases e
   exact⟨TrOk.cut h,TrOk.nearO h⟩
  ·cases e
structure Yy(w:World)(N wj:Nat)(q:Option Nat)(id:BA):Prop where
 s:w.heap[N]? =some (.cells #[.int .i64 (wj:Int),Jh q] 146)
 i:w.heap[N+1]? =some (.cells #[.string id] 9)
theorem Yy.next{w':World}(h:Yy w N wj q id)(k:Tch NoB w w'):Yy w' N wj q id:=
 ⟨(k.block _ (Jb h.s) (λh=>h)).trans h.s,(k.block _ (Jb h.i) (λh=>h)).trans h.i⟩
theorem Yy.put(h:Yy W N wj q id)(hT:Tch NoB w W)(width':Int)(q':Option Nat)(v':Option Addr)(hv:Jh q'=.pointer v'):
  Tch (λk=>k=N) w ((W.setCell ⟨N,0,none⟩ (.int .i64 width')).setCell ⟨N,1,none⟩ (.pointer v'))/\
  ((W.setCell ⟨N,0,none⟩ (.int .i64 width')).setCell ⟨N,1,none⟩ (.pointer v')).heap[N]? =some (.cells #[.int .i64 width',Jh q'] 146)/\
  ((W.setCell ⟨N,0,none⟩ (.int .i64 width')).setCell ⟨N,1,none⟩ (.pointer v')).heap[N+1]? =some (.cells #[.string id] 9)/\
  ∀d F q' st',StAt d F W q' st'->StAt d F ((W.setCell ⟨N,0,none⟩ (.int .i64 width')).setCell ⟨N,1,none⟩ (.pointer v')) q' st':=by
 rw[set2 W N _ _ _ _ _ h.s,hv];have t1:=Ts W N #[.int .i64 width',.pointer v'];exact⟨(hT.mono (S':=λk=>k=N) noE).trans t1 (λj hj=>.inl hj),Qi _ _ _ _ _ _ h.s,(t1.block _ (Jb h.i) (by omega)).trans h.i,λd F q' st' hs=>hs.row h.s (by decide)⟩
def Jn5(E:Nat->Addr)(wj:Nat)(F:Nat->Prop)(N:Nat)(id:BA)(r:Except Er (Option Tr))(e:Ending)(w':World):Prop:=match r with
 | .ok st'=>∃q',e=.returned .nilIface/\Yy w' N wj q' id/\StAt (dgW wj) F w' q' st'
 | .error _=>e=.returned (eV E 2)/\Yy w' N 0 none id
theorem JgK(E:Nat->Addr)(wj:Nat)(hw1:1<=wj)(hw:wj<=32)(F:Nat->Prop)(N:Nat)(q:Option Nat)(st:Option Tr)(id:BA)(i:Nat)(hc:Jk wj (id,(i:Int)))(o:Nat×Nat)(ho:Jy o)(w:World)(hE:Env E w)(hF:∀j,w.heap.size<=j->F j)(hB:Yy w N wj q id)(hs:StAt (dgW wj) F w q st)(hok:StOk wj st):
  Calls prog 190 #[.int .i64 (i:Int),.agg #[.int .u64 (o.1:Int),.int .u8 (o.2:Int)],.pointer (some ⟨N,0,none⟩),.pointer (some ⟨N+1,0,none⟩)] w λe w'=>Tch (λk=>k=N) w w'/\Jn5 E wj F N id (YW st (Je (id,(i:Int))) o) e w':=by
 have HW:Hid (∀W,Tch NoB w W->Calls prog 191 #[Jv wj q,.agg #[.string id,.int .i64 (i:Int)],.agg #[.int .u64 (o.1:Int),.int .u8 (o.2:Int)]] W λe w'=>Tch NoB W w'/\Jkt E wj F (YW st (Je (id,(i:Int))) o) e w'):=λW hT=>
  JlZ E wj hw1 hw F q st (id,(i:Int)) hc o ho W (hE.tch hT noE) (λj hj=>hF j (Qm hT.size hj)) (hs.next hT) hok
 have HBX:Hid (Yy w N wj q id):=hB;obtain⟨rv,hrv⟩:∃rv,Jh q=.pointer rv:=⟨_,rfl⟩
 have hNb:N+1<w.heap.size:=(Jb hB.i)
 have hNs:N<w.heap.size:=by omega
 have a0:w.cell? ⟨N,0,none⟩=some (.int .i64 (wj:Int)):=Ja hB.s;have a1:w.cell? ⟨N,1,none⟩=some (.pointer rv):=by rw[<-hrv];exact Ja hB.s
 have a2:w.cell? ⟨N+1,0,none⟩=some (.string id):=Ja hB.i;have HRV:Hid (Jh q=.pointer rv):=hrv;unfold Jv at HW;rw[hrv]at HW;generalize hR:YW st (Je (id,(i:Int))) o=R at *;clear hE hF hB hs hok hrv hc ho;obtain⟨oa,oo⟩:=o;dsimp only at HW ⊢;have HTA:Hid (∀k,Tch NoB w ((w.alloc (.cells #[.int .u64 (oa:Int),.int .u8 (oo:Int)] 80)).drewN k)):=λk=>(Ta _ _ _).dr k;go_enter func190,ntmps190;go_wp2_with fail;refine(HW.o _ (HTA.o 0)).mono ?_;have HR:Hid (_=R):=hR;clear hR HW a0 a1 a2
 cases R with
 | ok st'=>
  rintro _ w2⟨ht2,q2,rfl,hs2⟩;have hT:Tch NoB w w2:=(HTA.o 0).go ht2;have b2:=HBX.o.next hT;have HB2:Hid (Yy w2 N wj q id):=b2;have c0:w2.cell? ⟨N,0,none⟩=some (.int .i64 (wj:Int)):=Ja b2.s;have c1:w2.cell? ⟨N,1,none⟩=some (.pointer rv):=by rw[<-HRV.o];exact Ja b2.s
  have fN:∀j,w2.frozen? ⟨N,j,none⟩=false:=λj=>Qg _ _ _ _ _ b2.s;have HT:Hid (Tch NoB w w2):=hT;have HS2:Hid (StAt (dgW wj) F w2 q2 st'):=hs2;clear hT ht2 hs2 b2 HTA;unfold Jv;obtain⟨v2,hv2⟩:∃v,Jh q2=.pointer v:=⟨_,rfl⟩
  rw[hv2];have HV2:Hid (Jh q2=.pointer v2):=hv2;clear hv2;go_wp2;go_ret;obtain⟨p1,p2,p3,p4⟩:=HB2.o.put HT.o wj q2 v2 HV2.o;exact⟨p1,q2,rfl,⟨p2,p3⟩,p4 _ _ _ _ HS2.o⟩
 | error er=>
  rintro _ w2⟨ht2,rfl⟩;have hT:Tch NoB w w2:=(HTA.o 0).go ht2;have b2:=HBX.o.next hT;have HB2:Hid (Yy w2 N wj q id):=b2;have c0:w2.cell? ⟨N,0,none⟩=some (.int .i64 (wj:Int)):=Ja b2.s;have c1:w2.cell? ⟨N,1,none⟩=some (.pointer rv):=by rw[<-HRV.o];exact Ja b2.s
  have fN:∀j,w2.frozen? ⟨N,j,none⟩=false:=λj=>Qg _ _ _ _ _ b2.s;have HT:Hid (Tch NoB w w2):=hT;clear hT ht2 b2 HTA;go_wp2;go_ret;obtain⟨p1,p2,p3,p4⟩:=HB2.o.put HT.o 0 none none rfl;exact⟨p1,rfl,p2,p3⟩

def erG:Er->Nat
 | 0=>7
 | 1=>0
 | 2=>1
 | 3=>2
 | 4=>3
 | 5=>4
 | 6=>5
theorem Jka{st:Option Tr}(h:YW st k o=.error er):er=.exist:=by
 unfold YW at h
 split at h
 ·cases h
 ·split at h
  ·cases h;rfl
  ·cases h
theorem JfC{st:Option Tr}(h:Xi st k=.error er):er=.input:=by
 unfold Xi at h
 split at h
 ·cases h;rfl
 ·split at h
  ·cases h
  ·cases h;rfl
theorem JiX(fv:Value)(what:BA)(w:World):Calls prog 189 #[.string what,.slice none 0 0,fv] w λe w'=>e=.returned .nilIface/\w=w':=by
 go_enter func189,ntmps189;go_wp2;go_loopw [12] (λi wr=>i=.int .i64 0/\w=wr) (λi _=>0)
 case atStart=>exact⟨rfl,rfl⟩
 case round=>obtain⟨rfl,rfl⟩:=hrel;go_wp2;go_ret;exact⟨rfl,rfl⟩
theorem Jd4(id:BA)(i:Nat)(outs:List (Nat×Nat))(h:i<outs.length)(st:Option Tr):JX id i (outs.drop i) st=match YW st (Je (id,(i:Int))) outs[i] with
  | .error e=>.error e
  | .ok st1=>JX id (i+1) (outs.drop (i+1)) st1:=by
 rw[List.drop_eq_getElem_cons h];rfl
theorem XK{g:Nat}{a b:Value}(h:W.heap[g]? =some (.cells #[a,b] 146))(hT:Tch S w W)(hg:w.heap.size<=g)(v0 v1:Value):
  ((W.setCell ⟨g,0,none⟩ v0).setCell ⟨g,1,none⟩ v1).heap[g]? =some (.cells #[v0,v1] 146)/\Tch S w ((W.setCell ⟨g,0,none⟩ v0).setCell ⟨g,1,none⟩ v1)/\
  (∀d F q' st',StAt d F W q' st'->StAt d F ((W.setCell ⟨g,0,none⟩ v0).setCell ⟨g,1,none⟩ v1) q' st')/\∀E k v,Jp E k W v->Jp E k ((W.setCell ⟨g,0,none⟩ v0).setCell ⟨g,1,none⟩ v1) v:=by
 rw[set2 W g _ _ _ _ _ h];have t1:=Ts W g #[v0,v1];refine⟨Qi _ _ _ _ _ _ h,hT.trans t1 (λj hj=>.inr (by omega)),λd F q' st' hs=>hs.row h (by decide),λE k v he=>he.tch t1 ?_⟩;rintro p s u hp rfl;rw[h]at hp
 injection hp with hp
 injection hp with _ h2
 exact absurd h2 (by decide)
structure JeO(wj:Nat)(F:Nat->Prop)(id:BA)(outs:List (Nat×Nat))(R:Except Er (Option Tr))(w0:World)(N:Nat)(i:Nat)(w:World)(q:Option Nat)(st:Option Tr):Prop where
 box:Yy w N wj q id
 at_:StAt (dgW wj) F w q st
 ok:StOk wj st
 eq:JX id i (outs.drop i) st=R
 tch:Tch (λk=>k=N) w0 w
def Jki(E:Nat->Addr)(id:BA)(R:Except Er (Option Tr))(w0:World)(N:Nat)(v:Value)(w:World):Prop:=v=eV E 2/\R=.error .exist/\Yy w N 0 none id/\Tch (λk=>k=N) w0 w
theorem Jd5(E:Nat->Addr)(wj:Nat)(hw1:1<=wj)(hw:wj<=32)(F:Nat->Prop)(id:BA)(hid:id.size=wj)(outs:List (Nat×Nat))(ho:∀o∈outs,Jy o)(h3:outs.length<=3)(R:Except Er (Option Tr))(w0:World)(hE:Env E w0)(hF:∀j,w0.heap.size<=j->F j)(N:Nat)(hN:18<=N)(g off:Nat)(hg:g<N)(hz:g<w0.heap.size)
 (hr:∀i (h:i<outs.length),w0.cell? ⟨g,off+i*2,none⟩=some (.int .u64 ((outs[i].1:Nat):Int))/\w0.cell? ⟨g,off+i*2+1,none⟩=some (.int .u8 ((outs[i].2:Nat):Int))):
  JcU 190 #[.pointer (some ⟨N,0,none⟩),.pointer (some ⟨N+1,0,none⟩)] g off outs.length (λi=>(outs.map encO).getD i zO) (λi w=>∃q st,JeO wj F id outs R w0 N i w q st) (Jki E id R w0 N):=by
 have hx:∀i (h:i<outs.length),(outs.map encO).getD i zO=encO outs[i]:=λi h=>by simp[List.getD_eq_getElem?_getD,h]
 refine⟨λ_ _=>rfl,?_,?_,?_⟩
 ·rintro i w hi⟨q,st,I⟩;rw[hx i hi];have hc:∀o,w.cell? ⟨g,o,none⟩=w0.cell? ⟨g,o,none⟩:=λo=>I.tch.cell (p:=⟨g,o,none⟩) hz (by show ¬g=N;omega);rw[hc,hc];exact hr i hi
 ·rintro i w o⟨q,st,I⟩;have ha:=Ta NoB w o;exact⟨q,st,I.box.next ha,I.at_.next ha,I.ok,I.eq,I.tch.go ha⟩
 ·rintro i w hi⟨q,st,I⟩;rw[hx i hi];have hco:Jk wj (id,(i:Int)):=⟨hid,by omega,by show (i:Int)<3;omega⟩
  have hoo:Jy outs[i]:=ho _ (Qx hi);refine(JgK E wj hw1 hw F N q st id i hco outs[i] hoo w (hE.tch I.tch (λj hj=>by subst hj;exact hN)) (λj hj=>hF j (Qm I.tch.size hj)) I.box I.at_ I.ok).mono ?_;rintro e w'⟨ht,hr⟩;have e1:=I.eq;rw[Jd4 id i outs hi]at e1;have hT:Tch (λk=>k=N) w0 w':=I.tch.trans ht (λj hj=>.inl hj)
  cases hres:YW st (Je (id,(i:Int))) outs[i] with
  | ok st'=>
   rw[hres]at hr e1;obtain⟨q',rfl,hb,hs⟩:=hr;exact .inl ⟨rfl,q',st',hb,hs,I.ok.with hco hoo hres,e1,hT⟩
  | error er=>
   rw[hres]at hr e1;obtain⟨rfl,hb⟩:=hr;have:=Jka hres;subst this;exact .inr ⟨_,_,rfl,rfl,e1.symm,hb,hT⟩
def Jm7(E:Nat->Addr)(wj:Nat)(F:Nat->Prop)(r:Except Er (Option Tr))(e:Ending)(w':World):Prop:=match r with
 | .ok st'=>∃q',e=.returned (.tuple #[Jv wj q',.nilIface])/\StAt (dgW wj) F w' q' st'/\StOk wj st'
 | .error er=>∃v,e=.returned (.tuple #[Jv 0 none,v])/\Jp E (erG er) w' v/\er=.exist
theorem Jcv(E:Nat->Addr)(wj:Nat)(hw1:1<=wj)(hw:wj<=32)(F:Nat->Prop)(q:Option Nat)(st:Option Tr)(id:BA)(hid:id.size=wj)(v:Value)(outs:List (Nat×Nat))(ho:∀o∈outs,Jy o)(h3:outs.length<=3)(w:World)(hE:Env E w)(hF:∀j,w.heap.size<=j->F j)(hv:Jq w.heap.size w v outs)(hs:StAt (dgW wj) F w q st)(hok:StOk wj st):
  Calls prog 126 #[Jv wj q,.string id,v] w λe w'=>Tch NoB w w'/\Jm7 E wj F (JX id 0 outs st) e w':=by
 obtain⟨rv,hrv⟩:∃rv,Jh q=.pointer rv:=⟨_,rfl⟩
 obtain⟨W,hW⟩:∃W,W=((w.alloc (.cells #[.int .i64 (wj:Int),.pointer rv] 146)).alloc (.cells #[.string id] 9)).alloc (.cells #[.int .i64 0,.pointer none] 146):=⟨_,rfl⟩
 have hA:Tch NoB w W:=by rw[hW];exact Tch.allocs3 _ _ _ _ _
 have hbx:Yy W w.heap.size wj q id:=by rw[hW,hrv.symm];exact⟨JN _ _ _ _,JG _ _ _ _⟩
 have hro:W.heap[w.heap.size+1+1]? =some (.cells #[.int .i64 0,.pointer none] 146):=by rw[hW];exact JH _ _ _ _
 generalize hR:JX id 0 outs st=R;have hEW:=hE.tch hA noE;have hi0:JeO wj F id outs R W w.heap.size 0 W q st:=⟨hbx,hs.next hA,hok,hR,Te _ _⟩
 have HEA:Hid (∀what:BA,what.size<=1000->Calls prog 189 #[.string what,v,.func (.func 190) #[] #[.pointer (some ⟨w.heap.size,0,none⟩),.pointer (some ⟨w.heap.size+1,0,none⟩)]] W λe w'=>ToE (λi w'=>∃q st,JeO wj F id outs R W w.heap.size i w' q st) (Jki E id R W w.heap.size) outs.length e w'):=λwhat hwh=>by
  rcases hv with⟨rfl,rfl⟩|⟨gi,oi,c,rfl,h1,h2,h3'⟩
  ·refine(JiX _ _ _).mono ?_;rintro _ _⟨rfl,rfl⟩;exact .inl ⟨rfl,q,st,hi0⟩
  ·refine Job _ _ _ _ _ _ _ _ (λi hi=>?_) _ _ (Jd5 E wj hw1 hw F id hid outs ho h3 R W hEW (λj hj=>hF j (Qm hA.size hj)) w.heap.size hE.size gi oi h1 (Qk h2 hA.size) (λi hi=>?_)) h3 hwh W ⟨q,st,hi0⟩
   ·simp only[Qn,List.getElem?_map,Qd hi];exact⟨_,_,rfl⟩
   ·have hc:∀o,W.cell? ⟨gi,o,none⟩=w.cell? ⟨gi,o,none⟩:=λo=>hA.cell (p:=⟨gi,o,none⟩) h2 (λh=>h);rw[hc,hc];exact h3' i hi
 obtain⟨ia,ic,hvs⟩:=hv.shape;have HRV:Hid (Jh q=.pointer rv):=hrv;have HRO:Hid (W.heap[w.heap.size+1+1]? =_):=hro;have HA:Hid (Tch NoB w W):=hA;have hmf:∀(fn:Fn)(first cap:Array Value)(w:World),(Instr.makeFunc fn first cap).run prog w=.ok (.func fn first cap) w:=λ_ _ _ _=>rfl;have HW:Hid (W=_):=hW;subst hvs;unfold Jv;rw[hrv];clear hE hF hv hs hok hrv hro hA hi0 hEW hbx hW ho h3 hid hR;go_enter func126,ntmps126;go_wp2_with fail;rw[<-HW.o];refine(HEA.o _ (by decide)).mono ?_;rintro e w2 (⟨rfl,q2,st2,I⟩|⟨p,sx,vx,w1,rfl,hp,⟨rfl,hR,hb,ht⟩,hbl⟩)
 ·have hsR:=(Jb HRO.o)
  have hr2:w2.heap[w.heap.size+1+1]? =some (.cells #[.int .i64 0,.pointer none] 146):=(I.tch.block _ hsR (by omega)).trans HRO.o;obtain⟨v2,hv2⟩:∃v,Jh q2=.pointer v:=⟨_,rfl⟩
  have c0:w2.cell? ⟨w.heap.size,0,none⟩=some (.int .i64 (wj:Int)):=Ja I.box.s;have c1:w2.cell? ⟨w.heap.size,1,none⟩=some (.pointer v2):=by rw[<-hv2];exact Ja I.box.s
  have r0:w2.cell? ⟨w.heap.size+1+1,0,none⟩=some (.int .i64 0):=Ja hr2;have r1:w2.cell? ⟨w.heap.size+1+1,1,none⟩=some (.pointer none):=Ja hr2;have fR:∀j,w2.frozen? ⟨w.heap.size+1+1,j,none⟩=false:=λj=>Qg _ _ _ _ _ hr2;have HR2:Hid (w2.heap[w.heap.size+1+1]? =_):=hr2;have HI:Hid (JeO wj F id outs R W w.heap.size outs.length w2 q2 st2):=I;have HV2:Hid (Jh q2=.pointer v2):=hv2;have hz2:w.heap.size+1+1<w2.heap.size:=(Jb hr2)
  clear I hr2 hv2 HEA hsR;go_wp2;obtain⟨p1,p2,p3,_⟩:=XK HR2.o ((HA.o.trans HI.o.tch (λj hj=>.inr (by omega))):Tch NoB w w2) (by omega) (.int .i64 (wj:Int)) (.pointer v2);refine QJ (v:=.tuple #[.agg #[.int .i64 (wj:Int),.pointer v2],.nilIface]) (Jn results126 _ _ (w.heap.size+1+1) _ _ (0,0) _ rfl p1 underlying146 rfl (by kernel_rfl)) rfl ⟨p2,?_⟩;have e1:=HI.o.eq;rw[List.drop_length]at e1;rw[<-e1];exact⟨q2,by rw[Jv,HV2.o],p3 _ _ _ _ HI.o.at_,HI.o.ok⟩
 ·have hsR:=(Jb HRO.o)
  have hr1:w1.heap[w.heap.size+1+1]? =some (.cells #[.int .i64 0,.pointer none] 146):=(ht.block _ hsR (by omega)).trans HRO.o;have hz1:=(Jb hr1)
  have hr2:w2.heap[w.heap.size+1+1]? =some (.cells #[.int .i64 0,.pointer none] 146):=(hbl.block _ hz1).trans hr1;have hs2:w2.heap[w.heap.size]? =some (.cells #[.int .i64 0,.pointer none] 146):=(hbl.block _ (Jb hb.s)).trans hb.s;have hz2:w.heap.size+1+1<w2.heap.size:=(Jb hr2)
  have c0:w2.cell? ⟨w.heap.size,0,none⟩=some (.int .i64 0):=Ja hs2;have c1:w2.cell? ⟨w.heap.size,1,none⟩=some (.pointer none):=Ja hs2;have r0:w2.cell? ⟨w.heap.size+1+1,0,none⟩=some (.int .i64 0):=Ja hr2;have r1:w2.cell? ⟨w.heap.size+1+1,1,none⟩=some (.pointer none):=Ja hr2;have fR:∀j,w2.frozen? ⟨w.heap.size+1+1,j,none⟩=false:=λj=>Qg _ _ _ _ _ hr2;have HR2:Hid (w2.heap[w.heap.size+1+1]? =_):=hr2;have HT2:Hid (Tch (λk=>k=w.heap.size) W w2):=ht.trans (Tch.of_below hbl) (λj hj=>.inr (Qm ht.size hj));have HP:Hid (w2.heap[p]? =_):=hp;have HR:Hid (R=_):=hR;clear hr1 hr2 hs2 hbl ht hb hp hR HEA hsR hz1;go_wp2;obtain⟨p1,p2,p3,p4⟩:=XK HR2.o ((HA.o.trans HT2.o (λj hj=>.inr (by omega))):Tch NoB w w2) (by omega) (.int .i64 0) (.pointer none);refine QJ (v:=.tuple #[.agg #[.int .i64 0,.pointer none],.iface 235 (.pointer (some ⟨p,0,none⟩))]) (Jn results126 _ _ (w.heap.size+1+1) _ _ (0,0) _ rfl p1 underlying146 rfl (by kernel_rfl)) rfl ⟨p2,?_⟩;rw[HR.o];exact⟨_,rfl,p4 _ _ _ (.wrap p _ _ HP.o .base),rfl⟩
