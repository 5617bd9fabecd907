import Derived.Test.YtighkdnooglfjaaGreatDoorLcChJ
namespace Go.Proofs.YtighkdnooglfjaaGreatDoor
open Tryz
set_option maxRecDepth 100000
set_option maxHeartbeats 4000000
open Go.RowKit

variable {l:List (Sl×Sl)}{ts:List TxL}{B G c wj:Nat}{w w':World}
theorem JfQ{a b:BA}(h:a.toList=b.toList):a=b:=by
 rw[ByteArray.toList_eq,ByteArray.toList_eq]at h
 cases a;cases b;simp only at h;rw[Array.toList_inj]at h;rw[h]
theorem Xq.of_row{pre:List (Sl×Sl)}(h:w.heap[G]? =some (.cells (vvA (pre.map encT)) 98))(hB:G<B):Xq B w (.slice (some ⟨G,0,none⟩) pre.length c) pre:=by
 refine .inr ⟨G,0,c,rfl,hB,(Jb h),λi hi=>?_⟩;obtain⟨e0,e1⟩:=ZE (pre.map encT) i (by simpa using hi);rw[List.getElem_map]at e0 e1;rw[Nat.zero_add];exact⟨(Ja h).trans e0,(Ja h).trans e1⟩
theorem JD.of_row{pre:List (BA×Int)}(h:w.heap[G]? =some (.cells (vvA (pre.map encC)) 49))(hB:G<B):JD B w (.slice (some ⟨G,0,none⟩) pre.length c) pre:=by
 refine .inr ⟨G,0,c,rfl,hB,(Jb h),λi hi=>?_⟩;obtain⟨e0,e1⟩:=ZE (pre.map encC) i (by simpa using hi);rw[List.getElem_map]at e0 e1;rw[Nat.zero_add];exact⟨(Ja h).trans e0,(Ja h).trans e1⟩
theorem ToB.txs{E:Nat->Addr}{b:Nat}{g:Option Nat}{p:PS}{e:Ending}(h:ToB E w b g wj (some (ts,p)) e w'):
  ∃(x:Sl)(g':Option Nat)(zs:List (Sl×Sl)),e=.returned (.slice x.1 x.2.1 x.2.2)/\Ji E w' b g' wj (some p)/\Tch (λk=>k=b\/some k=g) w w'/\Xq w'.heap.size w' (.slice x.1 x.2.1 x.2.2) zs/\TxIn w'.heap.size w' zs ts:=by
 obtain⟨x,g',h1,h2,_,h4,h5⟩:=h;obtain⟨gp,zs,rfl,k2,k3,k4,k5,k6⟩:=h5 ts p rfl;have hlt:=(Jb k4)
 refine⟨_,g',zs,h1,h2,h4,?_,k5,λj x t hx ht=>?_⟩
 ·have:=Xq.of_row (B:=w'.heap.size) (c:=ts.length) k4 hlt;rw[k5]at this;exact this
 ·obtain⟨⟨gc,ec,_,_,rc⟩,go,eo,_,_,ro⟩:=k6 j x t hx ht;rw[ec,eo];exact⟨JD.of_row rc (Jb rc),Jq.of_row ro (Jb ro)⟩
theorem TxIn.next(h:TxIn w.heap.size w l ts)(k:Tch NoB w w'):TxIn w'.heap.size w' l ts:=
 ⟨h.1,λj x t h1 h2=>⟨((h.2 j x t h1 h2).1.tch k noE).up k.size,((h.2 j x t h1 h2).2.tch k noE).up k.size⟩⟩
theorem Xq.next{v:Value}(h:Xq w.heap.size w v l)(k:Tch NoB w w'):Xq w'.heap.size w' v l:=(h.tch k noE).up k.size
def subR(d:List UInt8->BA)(AT:Except Er (Option Tr))(root hd:BA):Except Er (BA×Option Tr):=match AT with
 | .error e=>.error e
 | .ok st'=>if root ≠ JV d st' then .error .root else .ok (hd,st')
def Jkk(E:Nat->Addr)(wj base:Nat)(F:Nat->Prop)(w:World)(cb fl r:Nat)(bs:List BV)(lv:Value)(lg:List UInt8)(s:BA)(res:Except Er (BA×Option Tr))(e:Ending)(w':World):Prop:=match res with
 | .error er=>NoTo E (erG er) w e w'
 | .ok (hd,st')=>e=.returned .nilIface/\∃q' lv',JB w' cb wj fl r (bs++[(hd,wj,q')]) lv'/\StAt (dgW wj) F w' q' st'/\StOk wj st'/\Xp base w' lv' (lg++recB [66] s.data.toList)/\Tch (λk=>k=cb\/k=r\/some k=lv.ownBlock) w w'/\Jm w lv.ownBlock lv'.ownBlock
theorem JdQ(E:Nat->Addr)(hE:Env E w){cb fl r:Nat}(hw1:1<=wj)(hw:wj<=32){bs:List BV}{lv:Value}(h:JB w cb wj fl r bs lv)(m:Nat)(hm:bs.length=m+1)(hm2:m<2 ^ 31)(bh:BA)(q:Option Nat)(st:Option Tr)(hb:bs[m]? =some (bh,wj,q))(hbs:bh.size<=1000)(F:Nat->Prop)(hF:∀j,w.heap.size<=j->F j)(hs:StAt (dgW wj) F w q st)(hok:StOk wj st)
 (base:Nat) (hbase:base<=w.heap.size) (lg:List UInt8) (hlg:Xp base w lv lg) (hll:lg.length<=140737488000000) (s:BA) (hsS:s.size<=60000) (y:HdL) (pre body:List UInt8) (hh:(PS.rd [] s.data.toList).hdr wj (0,⟨#[]⟩,⟨#[]⟩,⟨#[]⟩)=some (y,.rd pre body)) (hsl:s.data.toList=pre++body) (ts:List TxL) (q3:List UInt8) (hbd:(PS.rd pre body).body wj []=some (ts,.rd q3 [])) (hts:∀t∈ts,TxOk wj t) (h3:ts.length<=3):
  Calls prog 46 #[.pointer (some ⟨cb,0,none⟩),.string s] w λe w'=>Jkk E wj base F w cb fl r bs lv lg s (if y ≠ (m+1,dgW wj (72::bh.data.toList),dgW wj (66::body),y.2.2.2) then .error .tip else subR (dgW wj) (JZ (dgW wj) st ts) y.2.2.2 ⟨pre.toArray⟩) e w':=by
 have hsz:=hE.size;obtain⟨M,hM⟩:∃M,M=m+1:=⟨_,rfl⟩
 rw[<-hM];have HM:Hid _:=hM;obtain⟨RES,hRES⟩:∃RES:Except Er (BA×Option Tr),RES=(if y ≠ (M,dgW wj (72::bh.data.toList),dgW wj (66::body),y.2.2.2) then .error .tip else subR (dgW wj) (JZ (dgW wj) st ts) y.2.2.2 ⟨pre.toArray⟩):=⟨_,rfl⟩
 rw[<-hRES];have hcb:=(Jb h.row)
 obtain⟨rv,hrv⟩:∃rv,Jh q=.pointer rv:=⟨_,rfl⟩
 have hlen:pre.length+body.length=s.size:=by have:=congrArg List.length hsl;simp only[QA,Qe]at this;exact this.symm
 have HE:Hid _:=hE;have HROW:Hid _:=h;have HLG:Hid (Xp base w lv lg/\lg.length<=140737488000000/\base<=w.heap.size/\s.size<=60000/\bs.length=m+1/\m<2 ^ 31):=⟨hlg,hll,hbase,hsS,hm,hm2⟩
 have HTIP:Hid (∀W,Tch NoB w W->Calls prog 40 #[.pointer (some ⟨cb,0,none⟩)] W λe w'=>e=.returned (.int .i64 (m:Int))/\W=w'):=λW hT=>(JbS (h.next hT) (by omega)).mono λe w' k=>⟨by rw[k.1,hm];congr 2;omega,k.2⟩
 have HRD:Hid (∀W',Tch NoB w W'->ChS cb wj r (m:Int) (.agg #[.string bh,.int .i64 (wj:Int),.pointer rv]) W'):=λW' hT=>by
  have:=(h.next hT).reads m _ hb;simp only[bV,hrv]at this;exact this
 have HHD:Hid (∀W,Tch NoB w W->Jc W w.heap.size none (wj:Int) .nilIface (.rd [] s.data.toList)->Calls prog 86 #[.pointer (some ⟨w.heap.size,0,none⟩),.agg #[.int .u64 0,.string ⟨#[]⟩,.string ⟨#[]⟩,.string ⟨#[]⟩]] W λe w'=>e=.returned (.agg #[.int .u64 (y.1:Int),.string y.2.1,.string y.2.2.1,.string y.2.2.2])/\RdTo E W w' w.heap.size (wj:Int) (some (.rd pre body))):=λW hT hp=>JhS E hE wj hw s (by omega) y _ hh hT hp;have HBO:Hid (∀W,Tch NoB w W->Jc W w.heap.size none (wj:Int) .nilIface (.rd pre body)->Calls prog 78 #[.pointer (some ⟨w.heap.size,0,none⟩),.slice none 0 0] W λe w'=>∃(x:Sl)(g':Option Nat)(zs:List (Sl×Sl)),e=.returned (.slice x.1 x.2.1 x.2.2)/\Ji E w' w.heap.size g' (wj:Int) (some (.rd q3 []))/\Tch (λk=>k=w.heap.size\/some k=none) W w'/\Xq w'.heap.size w' (.slice x.1 x.2.1 x.2.2) zs/\TxIn w'.heap.size w' zs ts):=λW hT hp=>by
  refine(JiA E hE wj hw pre body (by omega) hT hp).mono λe w' k=>?_;rw[hbd]at k;exact k.txs
 have HDN:Hid (∀W g,Tch NoB w W->Ji E W w.heap.size g (wj:Int) (some (.rd q3 []))->Calls prog 88 #[.pointer (some ⟨w.heap.size,0,none⟩)] W λe w'=>Tch NoB W w'/\e=.returned .nilIface):=λW g hT hp=>
  Jdq E w.heap.size wj (some (.rd q3 [])) (λp hp=>⟨_,_,(Option.some.inj hp).symm⟩) W (hE.tch hT noE) g hp
 have HAP:Hid (∀W v l,Tch NoB w W->Xq W.heap.size W v l->TxIn W.heap.size W l ts->Calls prog 81 #[.int .i64 (wj:Int),.agg #[.int .i64 (wj:Int),.pointer rv],v] W λe w'=>∃(u:Nat)(rv:Option Addr)(ev:Value),e=.returned (.tuple #[.agg #[.int .i64 (u:Int),.pointer rv],ev])/\Zm E wj F (JZ (dgW wj) st ts) u rv ev w'/\Tch NoB W w'):=λW v l hT hv hin=>by
  have:=Jef E wj hw1 hw F q st v l ts hts h3 W (hE.tch hT noE) (λj hj=>hF j (Qm hT.size hj)) hv hin (hs.next hT) hok;unfold Jv at this;rw[hrv]at this;refine this.mono λe w' h=>?_;obtain⟨u,rv',ev,h1,h2⟩:=h.2.res;exact⟨u,rv',ev,h1,h2,h.1⟩
 have HNX:Hid (∀W,Tch NoB w W->_):=λW hT=>hM ▸ Jgy E (hE.tch hT noE) hw1 hw (h.next hT) m hm hm2 _ hb hbs ⟨body.toArray⟩ (by show body.toArray.size<=_;simp;omega);have HDG:Hid (∀W q1 st1,Tch NoB w W->StAt (dgW wj) F W q1 st1->_):=λW q1 st1 hT k=>Zw E wj hw1 hw F q1 st1 W (hE.tch hT noE) k;have HRE:Hid (∀W,Jc W w.heap.size none (wj:Int) .nilIface (.rd pre body)->Calls prog 87 #[.pointer (some ⟨w.heap.size,0,none⟩)] W λe w'=>e=.returned (.string ⟨body.toArray⟩)/\Tch NoB W w'):=λW hp=>Jdt w.heap.size none (wj:Int) _ pre body _ hp;have hbz0:(⟨body.toArray⟩:BA).size=body.length:=JA _;have hcut:s.extract 0 pre.length=⟨pre.toArray⟩:=by
  have e:s=⟨(pre++body).toArray⟩:=by rw[<-hsl,strL]
  rw[e,JlQ,List.take_left'];rfl
 obtain⟨c0,c2,hlk⟩:=HRD.o w (Te _ _);have HCUT:Hid (s.extract 0 pre.length=⟨pre.toArray⟩/\(⟨body.toArray⟩:BA).size=body.length/\pre.length+body.length=s.size):=⟨hcut,hbz0,hlen⟩
 generalize hAT:JZ (dgW wj) st ts=AT at *;generalize dgW wj (72::bh.data.toList)=sa at *;generalize dgW wj (66::body)=sb at *;obtain⟨y1,y2,y3,y4⟩:=y;dsimp only at HHD hRES;have HRES:Hid _:=hRES;clear hRES;have hfl:∀W,(Instr.field 148 (.agg #[.string bh,.int .i64 (wj:Int),.pointer rv]) 1).run prog W=.ok (.agg #[.int .i64 (wj:Int),.pointer rv]) W:=λW=>by kernel_rfl
 clear hE h hb hbs hF hs hok hts h3 hrv hAT hh hbd hlg hll hbase hsl hsS hbz0 hcut hlen hm hM;generalize (⟨body.toArray⟩:BA)=bz at *;go_enter func46,ntmps46;go_wp2_with fail;refine(XT _ _ _).mono ?_;rintro _ w1⟨rfl,hp1,ht1⟩;have HT1:Hid (Tch NoB w w1):=ht1;have HP1:Hid (Jc w1 w.heap.size none (wj:Int) .nilIface (.rd [] s.data.toList)):=hp1;clear ht1 hp1 c0 c2 hlk;go_wp2_with fail;refine(HHD.o w1 HT1.o HP1.o).mono ?_;rintro _ w2⟨rfl,⟨hp2,_⟩,ht2⟩;have hA:=Ta NoB w2 (.cells #[.int .u64 (y1:Int),.string y2,.string y3,.string y4] 167);have hr2:(w2.alloc (.cells #[.int .u64 (y1:Int),.string y2,.string y3,.string y4] 167)).heap[w2.heap.size]? =some (.cells #[.int .u64 (y1:Int),.string y2,.string y3,.string y4] 167):=Qf _ _;have HT2:Hid _:=(HT1.o.trans ht2 (λj hj=>.inr (Nat.le_of_eq hj.symm))).go hA;have HK2:Hid _:=hp2.lt;have HP2:Hid (Jc _ w.heap.size none (wj:Int) .nilIface (.rd pre body)):=hp2.tch hA (λh=>h) (λ_ _ h=>h);have HR2:Hid _:=hr2;clear hp2 ht2 HHD HP1 HT1 hA hr2;go_wp2_with fail;refine(HRE.o _ HP2.o).mono ?_;rintro _ w3⟨rfl,ht3⟩;have HT3:Hid _:=HT2.o.go ht3;have HP3:Hid (Jc w3 w.heap.size none (wj:Int) .nilIface (.rd pre body)):=HP2.o.tch ht3 (λh=>h) (λ_ _ h=>h);have HR3:Hid _:=(ht3.block _ (Jb HR2.o) (λh=>h)).trans HR2.o;clear ht3 HT2 HP2 HR2 HRE;go_wp2_with fail;refine(HBO.o w3 HT3.o HP3.o).mono ?_;rintro _ w4⟨⟨z1,z2,z3⟩,g4,zs,rfl,hp4,ht4,hv4,hi4⟩;have HT4:Hid _:=XH (b:=w.heap.size) (Ql _) HT3.o ht4;have HP4:Hid _:=hp4;have HV4:Hid (Xq w4.heap.size w4 (.slice z1 z2 z3) zs/\TxIn w4.heap.size w4 zs ts):=⟨hv4,hi4⟩
 have HR4:Hid _:=(ht4.block _ (Jb HR3.o) (λh=>by rcases h with h|h;have:=HK2.o;omega;cases h)).trans HR3.o;clear ht4 hp4 HT3 HP3 HR3 hv4 hi4 HBO;go_wp2_with fail;refine(HDN.o w4 g4 HT4.o HP4.o).mono ?_;rintro _ w5⟨ht5,rfl⟩;have HT5:Hid _:=HT4.o.go ht5;have HV5:Hid (Xq w5.heap.size w5 (.slice z1 z2 z3) zs/\TxIn w5.heap.size w5 zs ts):=⟨HV4.o.1.next ht5,HV4.o.2.next ht5⟩
 have HR5:Hid _:=(ht5.block _ (Jb HR4.o) (λh=>h)).trans HR4.o;clear ht5 HT4 HP4 HR4 HV4 HDN;go_wp2_with fail;refine(HNX.o w5 HT5.o).mono ?_;rintro _ w6⟨rfl,ht6⟩;have HT6:Hid _:=HT5.o.go ht6;have HV6:Hid (Xq w6.heap.size w6 (.slice z1 z2 z3) zs/\TxIn w6.heap.size w6 zs ts):=⟨HV5.o.1.next ht6,HV5.o.2.next ht6⟩
 have HR6:Hid _:=(ht6.block _ (Jb HR5.o) (λh=>h)).trans HR5.o;clear ht6 HT5 HR5 HV5 HNX;go_upto_region 9 with fail;obtain⟨k6,hk6⟩:∃k6,k6=w2.heap.size:=⟨_,rfl⟩
 obtain⟨k10,hk10⟩:∃k10,k10=w6.heap.size:=⟨_,rfl⟩
 obtain⟨w7,hw7⟩:∃w7,w7=w6.alloc (.cells #[.int .u64 (M:Int),.string sa,.string sb,.string ⟨#[]⟩] 167):=⟨_,rfl⟩
 have hA7:Tch NoB w6 w7:=by rw[hw7];exact Ta _ _ _
 have hr10:w7.heap[k10]? =some (.cells #[.int .u64 (M:Int),.string sa,.string sb,.string ⟨#[]⟩] 167):=by rw[hw7,hk10];exact Qf _ _
 have HT7:Hid _:=HT6.o.go hA7;have hR7:w7.heap[k6]? =some (.cells #[.int .u64 (y1:Int),.string y2,.string y3,.string y4] 167):=by rw[hk6];exact(hA7.block _ (Jb HR6.o) (λh=>h)).trans HR6.o
 have HKs:Hid (w.heap.size<k6/\k6<k10):=⟨by rw[hk6];exact HK2.o,by rw[hk6,hk10];exact(Jb HR6.o)⟩
 rw[<-hw7,<-hk6,<-hk10];have HA7:Hid (Tch NoB w6 w7/\k10=w6.heap.size):=⟨hA7,hk10⟩
 clear hk6 hk10 hw7 hA7 HT6 HR6 HK2;obtain⟨-, -, -,f3⟩:=rows hR7;obtain⟨-, -, -,r3⟩:=rows hr10;have rf:w7.frozen? ⟨k10,3,none⟩=false:=Qg _ _ _ _ _ hr10;have HR7:Hid _:=hR7;have HR10:Hid _:=hr10;clear hR7 hr10;go_upto_region 10 with fail;have hset:w7.setCell ⟨k10,3,none⟩ (.string y4)=w7.setRow k10 #[.int .u64 (M:Int),.string sa,.string sb,.string y4]:=by rw[Qj w7 k10 3 _ _ (0,0) _ HR10.o];rfl
 rw[hset];have tS:=Ts w7 k10 #[.int .u64 (M:Int),.string sa,.string sb,.string y4];have hr8:(w7.setRow k10 #[.int .u64 (M:Int),.string sa,.string sb,.string y4]).heap[k10]? =some (.cells #[.int .u64 (M:Int),.string sa,.string sb,.string y4] 167):=Qi _ _ _ _ _ _ HR10.o;have hx8:=(tS.block _ (Jb HR7.o) (λe=>by have:=HKs.o;omega)).trans HR7.o;have HT8:Hid _:=HT7.o.trans tS (λj hj=>.inr (by have:=HKs.o;omega));have t68:=HA7.o.1.trans tS (λj hj=>.inr (by have:=HA7.o.2;omega));have HV8:Hid (Xq (w7.setRow k10 #[.int .u64 (M:Int),.string sa,.string sb,.string y4]).heap.size (w7.setRow k10 #[.int .u64 (M:Int),.string sa,.string sb,.string y4]) (.slice z1 z2 z3) zs/\TxIn (w7.setRow k10 #[.int .u64 (M:Int),.string sa,.string sb,.string y4]).heap.size (w7.setRow k10 #[.int .u64 (M:Int),.string sa,.string sb,.string y4]) zs ts):=⟨HV6.o.1.next t68,HV6.o.2.next t68⟩
 clear hset f3 r3 rf HR7 HR10 tS HT7 HV6 t68 HA7;generalize w7.setRow k10 #[.int .u64 (M:Int),.string sa,.string sb,.string y4]=w8 at *;obtain⟨f0,f1,f2,f3⟩:=rows hx8;obtain⟨r0,r1,r2,r3⟩:=rows hr8;have HX8:Hid (w8.heap[k6]? =some _):=hx8;clear hx8 hr8;have HE8:=HE.o.tch HT8.o noE;have gT:=HE8.tip;have gz:0<w8.heap.size:=Qk (by decide) HE8.size;clear HE8
 by_cases hy:(y1,y2,y3,y4)=(M,sa,sb,y4)
 case neg=>
  have hres:RES=.error .tip:=by rw[HRES.o,if_pos hy]
  subst hres;clear HAP HDG HTIP HRD hfl HLG HCUT;have tipEnd:Hid (∀W,W=w8.alloc (.cells #[.string ⟨#[104,101,97,100,101,114]⟩,eV E 0] 237)->Jkk E wj base F w cb fl r bs lv lg s (.error .tip) (.returned (.iface 235 (.pointer (some ⟨w8.heap.size,0,none⟩)))) W):=λW e=>by
   subst e;exact⟨HT8.o.go (Ta _ _ _),_,_,rfl,.wrap _ _ _ (Qf _ _) .base⟩
  by_cases e1:y1=M
  ·by_cases e2:y2.toList=sa.toList
   ·by_cases e3:y3.toList=sb.toList
    ·exact absurd (by rw[e1,JfQ e2,JfQ e3]) hy
    ·obtain rfl:=JfQ e2;subst e1;clear hy e2;go_wp2_with fail;refine(Xl _ _ _ _).mono ?_;rintro _ _⟨rfl,rfl⟩;go_wp2;go_ret;exact tipEnd.out _ rfl
   ·subst e1;clear hy;go_wp2_with fail;refine(Xl _ _ _ _).mono ?_;rintro _ _⟨rfl,rfl⟩;go_wp2;go_ret;exact tipEnd.out _ rfl
  ·have e1':¬(y1:Int)=(M:Int):=(by omega);clear hy;go_wp2_with fail;refine(Xl _ _ _ _).mono ?_;rintro _ _⟨rfl,rfl⟩;go_wp2;go_ret;exact tipEnd.out _ rfl
 case pos=>
  simp only[Qw]at hy;obtain⟨hy1,hy2,hy3,_⟩:=hy;subst hy1 hy2 hy3;have HRS:Hid (RES=subR (dgW wj) AT y4 ⟨pre.toArray⟩):=(show RES=_ by rw[HRES.o,if_neg (by simp)])
  clear gT gz HRES;have HT8d:Hid (Tch NoB w w8.drew):=HT8.o.dr 1;have hA8:Tch NoB w8 (w8.alloc (.cells #[.int .i64 0,.pointer none] 146)).drew:=(Ta NoB w8 _).dr 1;have HT8a:Hid (Tch NoB w (w8.alloc (.cells #[.int .i64 0,.pointer none] 146)).drew):=HT8.o.go hA8;have HZR:Hid ((w8.alloc (.cells #[.int .i64 0,.pointer none] 146)).drew.heap[w8.heap.size]? =some (.cells #[.int .i64 0,.pointer none] 146)):=Qf _ _;have HZ:Hid (w8.heap.size<(w8.alloc (.cells #[.int .i64 0,.pointer none] 146)).drew.heap.size):=(Jb HZR.o)
  have HAPd:Hid (Calls _ _ _ _ _):=HAP.o w8.drew _ _ HT8d.o HV8.o.1 HV8.o.2;have HAPa:Hid (Calls _ _ _ _ _):=HAP.o (w8.alloc (.cells #[.int .i64 0,.pointer none] 146)).drew _ _ HT8a.o (HV8.o.1.next hA8) (HV8.o.2.next hA8);obtain⟨c0,c2,hlk⟩:=HRD.o w8.drew HT8d.o;obtain⟨a0,a2,hlka⟩:=HRD.o (w8.alloc (.cells #[.int .i64 0,.pointer none] 146)).drew HT8a.o;clear HAP HV8 hA8;go_upto_region 12 with fail;clear f0 f1 f2 f3 r0 r1 r2 r3;go_cut [11,12] (λp11 ev4 wx=>∃(k9 u4:Nat)(rv4:Option Addr),p11=.pointer (some ⟨k9,0,none⟩)/\Hid (wx.heap[k9]? =some (.cells #[.int .i64 (u4:Int),.pointer rv4] 146))/\Hid (w8.heap.size<=k9)/\Hid (Tch NoB w8 wx)/\Hid (Zm E wj F AT u4 rv4 ev4 wx))
  case first=>
   go_region_held3 (λW=>W.cell? ⟨cb,0,none⟩=some (.int .i64 (wj:Int))/\W.cell? ⟨cb,2,none⟩=some (.map (some r))/\(Instr.lookup 141 (.map (some r)) (.int .i64 (m:Int)) false).run prog W=.ok (.agg #[.string bh,.int .i64 (wj:Int),.pointer rv]) W) (go_keep) ((first|(go_at_call 40;refine(HTIP.o _ (by first|exact HT8d.o|exact HT8a.o)).mono ?_;rintro _ _⟨rfl,rfl⟩)|(go_at_call 81;refine(HAPd.o).mono ?_;rintro _ w4⟨u4,rv4,ev4,rfl,hr4,ht4⟩;have hTw4:Tch NoB w w4:=HT8d.o.go ht4;obtain⟨d0,d2,hlk4⟩:=HRD.o w4 hTw4;obtain⟨v0,v2,hlk5⟩:=HRD.o (w4.alloc (.cells #[.int .i64 (u4:Int),.pointer rv4] 146)) (hTw4.go (Ta _ _ _));obtain⟨_,_,hlk6⟩:=HRD.o (w4.alloc (.cells #[.int .i64 0,.pointer none] 146)) (hTw4.go (Ta _ _ _));have HT84:Hid (Tch NoB w8 w4):=(Td NoB w8 1).go ht4;have HT4:Hid (Tch NoB w w4):=hTw4;have HR4:Hid (Zm _ _ _ _ _ _ _ _):=hr4;have HK4:Hid (w4.heap.size=w4.heap.size):=rfl;clear hTw4 ht4 hr4)|(go_at_call 81;refine(HAPa.o).mono ?_;rintro _ w4⟨u4,rv4,ev4,rfl,hr4,ht4⟩;have hTw4:Tch NoB w w4:=HT8a.o.go ht4;obtain⟨d0,d2,hlk4⟩:=HRD.o w4 hTw4;have hr9:w4.heap[w8.heap.size]? =some (.cells #[.int .i64 0,.pointer none] 146):=(ht4.block _ HZ.o (λh=>h)).trans HZR.o;have s0:w4.cell? ⟨w8.heap.size,0,none⟩=some (.int .i64 0):=Ja hr9;have s1:w4.cell? ⟨w8.heap.size,1,none⟩=some (.pointer none):=Ja hr9;have sf:∀j,w4.frozen? ⟨w8.heap.size,j,none⟩=false:=λj=>Qg _ _ _ _ _ hr9;obtain⟨v0,v2,hlk5⟩:=HRD.o ((w4.setCell ⟨w8.heap.size,0,none⟩ (.int .i64 (u4:Int))).setCell ⟨w8.heap.size,1,none⟩ (.pointer rv4)) (by rw[set2 _ _ _ _ _ _ _ hr9];exact hTw4.trans (Ts _ _ _) (λj hj=>.inr (by have:=HT8.o.size;omega)));have HT84:Hid (Tch NoB w8 w4):=((Ta NoB w8 _).go (Td _ _ 1)).go ht4;have HT4:Hid (Tch NoB w w4):=hTw4;have HR4:Hid (Zm _ _ _ _ _ _ _ _):=hr4;have HR9:Hid (w4.heap[w8.heap.size]? =some _):=hr9;clear hTw4 ht4 hr4 hr9)))
   all_goals
    clear c0 c2 hlk a0 a2 hlka d0 d2 hlk4
    first
    | (
     have tk:=HK4;have hr5:(w4.alloc (.cells #[.int .i64 (u4:Int),.pointer rv4] 146)).heap[w4.heap.size]? =some (.cells #[.int .i64 (u4:Int),.pointer rv4] 146):=Qf _ _;have HT5:Hid (Tch NoB w (w4.alloc (.cells #[.int .i64 (u4:Int),.pointer rv4] 146))):=HT4.o.go (Ta _ _ _);have HT85:Hid (Tch NoB w8 (w4.alloc (.cells #[.int .i64 (u4:Int),.pointer rv4] 146))):=HT84.o.go (Ta _ _ _);have HKN:Hid (w8.heap.size<=w4.heap.size):=HT84.o.size;have HR5:Hid (Zm E wj F AT u4 rv4 ev4 (w4.alloc (.cells #[.int .i64 (u4:Int),.pointer rv4] 146))):=HR4.o.kept (λq st h=>h.next (Ta _ _ _)) (λk v h=>h.next (Ta _ _ _));clear HR4 HT4 tk HK4 hlk6;obtain⟨w5,hw5⟩:∃w5,w5=w4.alloc (.cells #[.int .i64 (u4:Int),.pointer rv4] 146):=⟨_,rfl⟩
     rw[<-hw5]at hr5 HT5 HT85 HR5 v0 v2 hlk5 ⊢;clear hw5;obtain⟨k9,hk9⟩:∃k9,k9=w4.heap.size:=⟨_,rfl⟩
     rw[<-hk9]at hr5 HKN ⊢;clear hk9 HT84)
    | (
     obtain⟨hr5,hT5,p3,p4⟩:=XK HR9.o HT4.o HT8.o.size (.int .i64 (u4:Int)) (.pointer rv4);have HT85:Hid (Tch NoB w8 ((w4.setCell ⟨w8.heap.size,0,none⟩ (.int .i64 (u4:Int))).setCell ⟨w8.heap.size,1,none⟩ (.pointer rv4))):=(XK HR9.o HT84.o (Ql _) (.int .i64 (u4:Int)) (.pointer rv4)).2.1;have HT5:Hid (Tch NoB w ((w4.setCell ⟨w8.heap.size,0,none⟩ (.int .i64 (u4:Int))).setCell ⟨w8.heap.size,1,none⟩ (.pointer rv4))):=hT5;have HR5:Hid (Zm E wj F AT u4 rv4 ev4 ((w4.setCell ⟨w8.heap.size,0,none⟩ (.int .i64 (u4:Int))).setCell ⟨w8.heap.size,1,none⟩ (.pointer rv4))):=HR4.o.kept (λq st h=>p3 _ _ _ _ h) (λk v h=>p4 _ _ _ h);clear HR4 HT4 HR9 p3 p4 hT5 s0 s1 sf;obtain⟨w5,hw5⟩:∃w5,w5=((w4.setCell ⟨w8.heap.size,0,none⟩ (.int .i64 (u4:Int))).setCell ⟨w8.heap.size,1,none⟩ (.pointer rv4)):=⟨_,rfl⟩
     rw[<-hw5]at hr5 HT5 HT85 HR5 v0 v2 hlk5 ⊢;clear hw5;obtain⟨k9,hk9⟩:∃k9,k9=w8.heap.size:=⟨_,rfl⟩
     have HKN:Hid (w8.heap.size<=k9):=Nat.le_of_eq hk9.symm;rw[<-hk9]at hr5 ⊢;clear hk9 HT84)
    go_wp2;go_meet;exact⟨k9,u4,rv4,rfl,hr5,HKN,HT85,HR5⟩
  case rest=>
  obtain⟨k9,u4,rv4,rfl,HRK,HKN,HT85,HR5⟩:=hcut;obtain⟨w5,hw5⟩:∃w5,w5=wc:=⟨wc,rfl⟩
  subst hw5;have HT5:Hid (Tch NoB w w5):=HT8.o.trans HT85.o noE;have s0:w5.cell? ⟨k9,0,none⟩=some (.int .i64 (u4:Int)):=Ja HRK.o;have s1:w5.cell? ⟨k9,1,none⟩=some (.pointer rv4):=Ja HRK.o;have hk5:k9<w5.heap.size:=(Jb HRK.o)
  clear HT8d HT8a HZ HZR HAPd HAPa c0 c2 hlk a0 a2 hlka
  cases AT with
  | error er=>
   obtain⟨tv,uv,rfl,hv⟩:=HR5.o;have HV:Hid (Jp E (erG er) w5 (.iface tv uv)):=hv;have hres:RES=.error er:=HRS.o;subst hres;clear hv HR5 HDG HRD HTIP HRS;go_wp2_with fail;refine(Xl _ _ _ _).mono ?_;rintro _ _⟨rfl,rfl⟩;go_wp2;go_ret;exact⟨HT5.o.go (Ta _ _ _),_,_,rfl,.wrap _ _ _ (Qf _ _) (HV.o.next (Ta _ _ _))⟩
  | ok st'=>
   obtain⟨q',rfl,hq,rfl,hs5,hk5'⟩:=HR5.o;have HQ:Hid (Jh q'=.pointer rv4):=hq;have HS5:Hid (StAt (dgW u4) F w5 q' st'/\StOk u4 st'):=⟨hs5,hk5'⟩
   have hX5:w5.heap[k6]? =some (.cells #[.int .u64 (y1:Int),.string y2,.string y3,.string y4] 167):=(HT85.o.block _ (Jb HX8.o) (λh=>h)).trans HX8.o;have f3:w5.cell? ⟨k6,3,none⟩=some (.string y4):=Ja hX5;have hk6z:k6<w5.heap.size:=(Jb hX5)
   have HX5:Hid (w5.heap[k6]? =some _):=hX5;have HDI:=HDG.o w5.drew q' st' (HT5.o.dr 1) (HS5.o.1.next (show Tch NoB w5 w5.drew from Td _ w5 1));unfold Jv at HDI;rw[HQ.o]at HDI;have HDI':Hid (Calls _ _ _ _ _):=HDI;have HE5:=HE.o.tch HT5.o noE;have gz:4<w5.heap.size:=Qk (by decide) HE5.size;have HE5':Hid (Env E w5):=HE5;clear hq hs5 hk5' HR5 hX5 HDI HDG HX8 HE5;obtain⟨sd,hsd⟩:∃sd,sd=JV (dgW u4) st':=⟨_,rfl⟩
   rw[<-hsd]at HDI';have HSD:Hid (sd=JV (dgW u4) st'):=hsd;clear hsd;go_upto_region 15 with fail;go_cut [74] (λvb wx=>vb=.bool (decide (¬y4.toList=sd.toList))/\Hid (Tch NoB w5 wx))
   case first=>
    by_cases hyd:y4.toList=sd.toList
    ·obtain rfl:=JfQ hyd;go_region_held3 (λW=>W.cell? ⟨k6,3,none⟩=some (.string y4)/\W.cell? ⟨k9,0,none⟩=some (.int .i64 (u4:Int))/\W.cell? ⟨k9,1,none⟩=some (.pointer rv4)) (go_keep) ((go_at_call 83;refine HDI'.out.mono ?_;rintro _ w9⟨rfl,ht9⟩;have hT59:Tch NoB w5 w9:=(Td NoB w5 1).go ht9;have g3:w9.cell? ⟨k6,3,none⟩=some (.string y4):=(hT59.cell (p:=⟨k6,3,none⟩) hk6z (λh=>h)).trans f3;have g0:w9.cell? ⟨k9,0,none⟩=some (.int .i64 (u4:Int)):=(hT59.cell (p:=⟨k9,0,none⟩) hk5 (λh=>h)).trans s0;have g1:w9.cell? ⟨k9,1,none⟩=some (.pointer rv4):=(hT59.cell (p:=⟨k9,1,none⟩) hk5 (λh=>h)).trans s1;have HT59:Hid (Tch NoB w5 w9):=hT59;clear ht9 hT59))
     all_goals go_wp2;go_meet;exact⟨by simp,HT59⟩
    ·go_region_held3 (λW=>W.cell? ⟨k6,3,none⟩=some (.string y4)/\W.cell? ⟨k9,0,none⟩=some (.int .i64 (u4:Int))/\W.cell? ⟨k9,1,none⟩=some (.pointer rv4)) (go_keep) ((go_at_call 83;refine HDI'.out.mono ?_;rintro _ w9⟨rfl,ht9⟩;have hT59:Tch NoB w5 w9:=(Td NoB w5 1).go ht9;have g3:w9.cell? ⟨k6,3,none⟩=some (.string y4):=(hT59.cell (p:=⟨k6,3,none⟩) hk6z (λh=>h)).trans f3;have g0:w9.cell? ⟨k9,0,none⟩=some (.int .i64 (u4:Int)):=(hT59.cell (p:=⟨k9,0,none⟩) hk5 (λh=>h)).trans s0;have g1:w9.cell? ⟨k9,1,none⟩=some (.pointer rv4):=(hT59.cell (p:=⟨k9,1,none⟩) hk5 (λh=>h)).trans s1;have HT59:Hid (Tch NoB w5 w9):=hT59;clear ht9 hT59))
     all_goals go_wp2;go_meet;exact⟨by simp[hyd],HT59⟩
   case rest=>
   obtain⟨rfl,HT59⟩:=hcut;obtain⟨w9,hw9⟩:∃w9,w9=wc:=⟨wc,rfl⟩
   subst hw9;have HT9:Hid (Tch NoB w w9):=HT5.o.trans HT59.o noE;have HE9:Hid (Env E w9):=HE.o.tch HT9.o noE;clear f3 hk6z HDI' gz HE5' s0 s1
   by_cases hyd:y4.toList=sd.toList
   case neg=>
    have hvb:(decide (¬y4.toList=sd.toList))=true:=(by simp[hyd]);have hne:y4 ≠ JV (dgW u4) st':=λe=>hyd (by rw[HSD.o,<-e]);have hres:RES=.error .root:=(by rw[HRS.o];show (if y4 ≠ JV (dgW u4) st' then _ else _)=_;rw[if_pos hne]);subst hres;have gR:=HE9.o.root;have gz:4<w9.heap.size:=Qk (by decide) HE9.o.size;rw[hvb];clear hyd hvb hne HRS HRD HTIP HLG HCUT;go_wp2_with fail;refine(Xl _ _ _ _).mono ?_;rintro _ _⟨rfl,rfl⟩;go_wp2;go_ret;exact⟨HT9.o.go (Ta _ _ _),_,_,rfl,.wrap _ _ _ (Qf _ _) .base⟩
   case pos=>
    have hvb:(decide (¬y4.toList=sd.toList))=false:=(by simp[hyd]);have hye:=JfQ hyd;obtain⟨hd,hhd⟩:∃hd:BA,hd=⟨pre.toArray⟩:=⟨_,rfl⟩
    obtain⟨pn,hpn⟩:∃pn,pn=pre.length:=⟨_,rfl⟩
    have hres:RES=.ok (hd,st'):=(by rw[HRS.o,hhd];show (if y4 ≠ JV (dgW u4) st' then _ else _)=_;rw[if_neg (by rw[<-HSD.o,hye];simp)]);have hcut2:=HCUT.o;rw[<-hhd,<-hpn]at hcut2;obtain⟨hx1,hx2,hx3⟩:=hcut2;have hlg:=HLG.o;have hple:pn<=s.size:=(by omega);have hsub:IntKind.i64.wrap ((s.size:Int)-(bz.size:Int))=(pn:Int):=(by simp[IntKind.wrap,IntKind.bits,IntKind.signed];omega);have hsub2:wrap64 ((s.size:Int)-(bz.size:Int))=(pn:Int):=(by unfold wrap64;omega);have hMi:IntKind.i64.wrap ((m:Int)+1)=(y1:Int):=(by have:=HM.o;simp[IntKind.wrap,IntKind.bits,IntKind.signed];omega);have hMi2:wrap64 ((m:Int)+1)=(y1:Int):=(by have:=HM.o;unfold wrap64;omega);have HRC:Hid (Calls prog 89 #[.pointer (some ⟨cb,0,none⟩),.string ⟨#[66]⟩,.string s] w9 λe w'=>e=.returned .nilIface/\∃lv',JB w' cb u4 fl r bs lv'/\Xp base w' lv' (lg++recB [66] s.data.toList)/\Tch (λk=>k=cb\/some k=lv.ownBlock) w9 w'/\Jm w9 lv.ownBlock lv'.ownBlock):=
     Jbi E HE9.o (HROW.o.next HT9.o) base (Qm hlg.2.2.1 HT9.o.size) lg (hlg.1.next HT9.o) hlg.2.1 ⟨#[66]⟩ s rfl (by omega)
    have hhs:hd.size<=1000000:=(by rw[hhd,JA];omega);have HCL:Hid (∀W,Calls prog 90 #[.string hd] W λe w'=>e=.returned (.string hd)/\Tch NoB W w'):=λW=>Jeg hd W hhs;have HS9:Hid (StAt (dgW u4) F w9 q' st'/\StOk u4 st'):=⟨HS5.o.1.next HT59.o,HS5.o.2⟩
    have HRK9:Hid (w9.heap[k9]? =some (.cells #[.int .i64 (u4:Int),.pointer rv4] 146)):=(HT59.o.block _ hk5 (λh=>h)).trans HRK.o;have HKC:Hid (w.heap.size<=k9):=Qm HT8.o.size HKN.o;rw[hvb];clear hx2 hx3 hvb hhs hlg hhd hpn hyd hye HS5 HRK HKN HCUT HRS HT85 HT8 HT59 HX5 HRD HTIP;subst hres;go_wp2_with fail;refine HRC.o.mono ?_;rintro _ w10⟨rfl,lv',hr10,hl10,ht10,hm10⟩;have HR10:Hid (JB w10 cb u4 fl r bs lv'):=hr10;have HL10:Hid (Xp base w10 lv' (lg++recB [66] s.data.toList)):=hl10;have HT10:Hid (Tch (λk=>k=cb\/some k=lv.ownBlock) w9 w10):=ht10;have HM10:Hid (Jm w9 lv.ownBlock lv'.ownBlock):=hm10;have HRK10:Hid (w10.heap[k9]? =some (.cells #[.int .i64 (u4:Int),.pointer rv4] 146)):=(ht10.block _ (Jb HRK9.o) (λe=>by
     rcases e with e|e
     ·have:=HKC.o;omega
     ·obtain⟨cu,mm,hrw⟩:=(HLG.o.1.next HT9.o).kind k9 e.symm;rw[HRK9.o]at hrw;simp at hrw)).trans HRK9.o
    clear hr10 hl10 ht10 hm10 HRC;go_upto_region 21 with fail;have HMB:Hid (bs.length=y1):=(HLG.o.2.2.2.2.1.trans HM.o.symm:bs.length=y1)
    have HTIP2:Hid (∀W,Tch NoB w10 W->Calls prog 40 #[.pointer (some ⟨cb,0,none⟩)] W λe w'=>e=.returned (.int .i64 (m:Int))/\W=w'):=λW hT=>(JbS (HR10.o.next hT) (by have h5:=HLG.o.2.2.2.2.1;have h6:=HLG.o.2.2.2.2.2;omega)).mono λe w' k=>⟨by rw[k.1,HLG.o.2.2.2.2.1];congr 2;omega,k.2⟩
    have HPU:Hid (∀W,Tch NoB w10 W->(Instr.mapUpdate 141 (.map (some r)) (.int .i64 (y1:Int)) (.agg #[.string hd,.int .i64 (u4:Int),.pointer rv4])).run prog W=.ok () (W.setBlocks r (bs++[(hd,u4,q')]))):=λW hT=>by
     have:=Jdm (HR10.o.next hT).map (hd,u4,q');rw[HMB.o]at this;unfold bV at this;rw[HQ.o]at this;exact this
    have c2:w10.cell? ⟨cb,2,none⟩=some (.map (some r)):=Ja HR10.o.row;have s0:w10.cell? ⟨k9,0,none⟩=some (.int .i64 (u4:Int)):=Ja HRK10.o;have s1:w10.cell? ⟨k9,1,none⟩=some (.pointer rv4):=Ja HRK10.o;have hcb10:cb<w10.heap.size:=(Jb HR10.o.row)
    have hk10z:k9<w10.heap.size:=(Jb HRK10.o)
    have HNR:Hid (¬cb=r/\¬k9=r):=⟨λe=>(by have:=HR10.o.row;rw[e,HR10.o.map]at this;cases this),λe=>(by have:=HRK10.o;rw[e,HR10.o.map]at this;cases this)⟩
    have HT10d:Hid (Tch NoB w10 w10.drew):=Td _ w10 1;go_cut [] (λwx=>∃W,wx=W.setBlocks r (bs++[(hd,u4,q')])/\Hid (Tch NoB w10 W))
    case first=>
     go_region_held3 (λW=>W.cell? ⟨cb,2,none⟩=some (.map (some r))/\W.cell? ⟨k9,0,none⟩=some (.int .i64 (u4:Int))/\W.cell? ⟨k9,1,none⟩=some (.pointer rv4)) (go_keep) ((first|(go_at_call 40;refine(HTIP2.o _ (by first|exact HT10d.o|exact HT11.o)).mono ?_;rintro _ _⟨rfl,rfl⟩)|(go_at_call 90;refine(HCL.o _).mono ?_;rintro _ w11⟨rfl,ht11⟩;have hT11:Tch NoB w10 w11:=HT10d.o.go ht11;have e2:w11.cell? ⟨cb,2,none⟩=some (.map (some r)):=(hT11.cell (p:=⟨cb,2,none⟩) hcb10 (λh=>h)).trans c2;have e0:w11.cell? ⟨k9,0,none⟩=some (.int .i64 (u4:Int)):=(hT11.cell (p:=⟨k9,0,none⟩) hk10z (λh=>h)).trans s0;have e1:w11.cell? ⟨k9,1,none⟩=some (.pointer rv4):=(hT11.cell (p:=⟨k9,1,none⟩) hk10z (λh=>h)).trans s1;have hpu:=HPU.o w11 hT11;have hsB:=Tch.setBlocks w11 r (bs++[(hd,u4,q')]);have p2:(w11.setBlocks r (bs++[(hd,u4,q')])).cell? ⟨cb,2,none⟩=some (.map (some r)):=(hsB.cell (p:=⟨cb,2,none⟩) (Qk hcb10 hT11.size) HNR.o.1).trans e2;have p0:(w11.setBlocks r (bs++[(hd,u4,q')])).cell? ⟨k9,0,none⟩=some (.int .i64 (u4:Int)):=(hsB.cell (p:=⟨k9,0,none⟩) (Qk hk10z hT11.size) HNR.o.2).trans e0;have p1:(w11.setBlocks r (bs++[(hd,u4,q')])).cell? ⟨k9,1,none⟩=some (.pointer rv4):=(hsB.cell (p:=⟨k9,1,none⟩) (Qk hk10z hT11.size) HNR.o.2).trans e1;have HT11:Hid (Tch NoB w10 w11):=hT11;clear ht11 hT11 hsB)))
     all_goals go_wp2;go_meet;exact⟨w11,rfl,HT11⟩
    case rest=>
    obtain⟨w11,rfl,HT11⟩:=hcut;go_wp2;go_ret;have tB:=Tch.setBlocks w11 r (bs++[(hd,u4,q')]);have hR9:=HROW.o.next HT9.o;have hL9:=HLG.o.1.next HT9.o;have hR11:=HR10.o.next HT11.o;have hst:=HS9.o.1.refine (G:=λj=>F j/\¬j=cb/\¬j=r/\¬some j=lv.ownBlock) (λj hj hc=>⟨hj,λe=>(by obtain⟨c,hc⟩:=hc;subst e;rw[hR9.row]at hc;simp at hc),λe=>(by obtain⟨c,hc⟩:=hc;subst e;rw[hR9.map]at hc;simp at hc),λe=>(by obtain⟨c,hc⟩:=hc;obtain⟨cu,mm,hrw⟩:=hL9.kind j e.symm;rw[hc]at hrw;simp at hrw)⟩);have h10:=hst.tch HT10.o (λj hS hG=>by rcases hS with h|h;exact hG.2.1 h;exact hG.2.2.2 h);have h12:=(h10.next HT11.o).tch tB (λj hS hG=>hG.2.2.1 hS);refine⟨rfl,q',lv',⟨(tB.block cb (Jb hR11.row) HNR.o.1).trans hR11.row,Zt hR11.map _⟩,h12.mono (λj h=>h.1),HS9.o.2,(HL10.o.next HT11.o).tch tB (λj hj e=>(HL10.o.ne_row HR10.o).2 (by rw[<-e];exact hj.symm)),?_,?_⟩
    ·exact(((HT9.o.mono noE).trans HT10.o (λj hj=>.inl (by rcases hj with h|h;exact .inl h;exact .inr (.inr h)))).trans HT11.o noE).trans tB (λj hj=>.inl (.inr (.inl hj)))
    ·rcases HM10.o with h|⟨k,h,hk⟩
     ·exact .inl h
     ·exact .inr ⟨k,h,Qm HT9.o.size hk⟩
