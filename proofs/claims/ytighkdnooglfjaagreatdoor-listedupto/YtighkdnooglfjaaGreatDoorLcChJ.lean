import Derived.Test.YtighkdnooglfjaaGreatDoorLcChI
import Derived.Test.YtighkdnooglfjaaGreatDoorLcPRd
namespace Go.Proofs.YtighkdnooglfjaaGreatDoor
open Tryz
set_option maxRecDepth 100000
set_option maxHeartbeats 1000000
open Go.RowKit

variable {bs:List BV}{lg:List UInt8}{base cb fl r wj:Nat}{S:Nat->Prop}{lv v:Value}{W w w':World}
theorem Jd0(a:Addr)(w:World):(method 641 153 (.pointer (some a)) "trove/wire.place").run prog w=.ok (379,.pointer (some a)) w:=by kernel_rfl
theorem Jd1(a:Addr)(w:World):(method 641 153 (.pointer (some a)) "trove/wire.since").run prog w=.ok (380,.pointer (some a)) w:=by kernel_rfl
theorem Jl0(b:Nat)(g:Option Nat)(wj:Int)(e:Value)(done:List UInt8)(w:World)(hp:Jc w b g wj e (.wr done)):
  Calls prog 379 #[.pointer (some ⟨b,0,none⟩)] w λe w'=>e=.returned (.int .i64 (done.length:Int))/\w=w':=by
 obtain⟨v,hv,hbs,hrow⟩:=hp;obtain⟨a,c,rfl⟩:=hbs.shape;have c3:w.cell? ⟨b,3,none⟩=some (.slice a (bc done).length c):=Ja hrow;rw[Yt]at c3;clear hv hbs hrow;go_enter func379,ntmps379;go_wp2;go_ret;exact⟨rfl,rfl⟩
theorem Jl1(b:Nat)(g:Option Nat)(wj:Int)(err:Value)(done:List UInt8)(w:World)(hp:Jc w b g wj err (.wr done)):
  Calls prog 380 #[.pointer (some ⟨b,0,none⟩),.int .i64 0] w λe w'=>e=.returned (.string ⟨done.toArray⟩)/\Tch NoB w w':=by
 obtain⟨v,hv,hbs,hrow⟩:=hp;have c3:w.cell? ⟨b,3,none⟩=some v:=Ja hrow;have hst0:=Ya (P:=prog) (w:=w) (l:=done) hbs 52 9 5 underlying52 underlying5 underlying9;obtain⟨a,c,rfl⟩:=hbs.shape;clear hv hbs hrow;generalize (⟨done.toArray⟩:BA)=r at *;generalize (bc done).length=n at *;go_enter func380,ntmps380;go_wp2;go_ret;exact⟨rfl,Te _ _⟩
def recA(letter content:List UInt8):List UInt8:=letter++beL content.length 2 2++content
def recB(letter content:List UInt8):List UInt8:=recA letter content++(dgW 4 (recA letter content)).data.toList
theorem strL(s:BA):(⟨s.data.toList.toArray⟩:BA)=s:=by simp
theorem JgO(b:Nat)(g:Option Nat)(wj:Int)(done:List UInt8)(s:BA)(hs:s.size<65536)(hd:done.length<=1000000000000)(w:World)(hp:Jc w b g wj .nilIface (.wr done)):
  Calls prog 210 #[.pointer (some ⟨b,0,none⟩),.string s] w λe w'=>e=.returned (.string s)/\JY w w' b g wj (.wr (done++beL s.size 2 2++s.data.toList)):=by
 have hnum:(PS.wr done).num s.size 2=some (s.size,.wr (done++beL s.size 2 2)):=by simp only[PS.num];rw[if_pos (by omega)]
 have htxt:(PS.wr (done++beL s.size 2 2)).txt s.data.toList s.size=some (s.data.toList,.wr (done++beL s.size 2 2++s.data.toList)):=by simp only[PS.txt];rw[if_pos (by simp only[QA];rfl)]
 have HN:Hid (Calls prog 138 #[.pointer (some ⟨b,0,none⟩),.int .u64 (s.size:Int),.int .i64 2] w λe w'=>e=.returned (.int .u64 (s.size:Int))/\JY w w' b g wj (.wr (done++beL s.size 2 2))):=Xs b g wj s.size 2 s.size (.wr done) _ w hp (by omega) (by simp only[PS.len];omega) hnum;have HT:Hid (∀w1 g1,Jc w1 b g1 wj .nilIface (.wr (done++beL s.size 2 2))->Calls prog 209 #[.pointer (some ⟨b,0,none⟩),.string s,.int .i64 (s.size:Int)] w1 λe w'=>e=.returned (.string s)/\JY w1 w' b g1 wj (.wr (done++beL s.size 2 2++s.data.toList))):=λw1 g1 h1=>
  (Zk b g1 wj s s.size s.data.toList _ _ w1 h1 (by simp only[PS.len,Qe,Jf];omega) htxt).mono λe w' k=>⟨by rw[k.1,strL],k.2⟩
 have h1:IntKind.u64.wrap (s.size:Int)=(s.size:Int):=JI _ (by omega) (by omega);have h2:IntKind.i64.wrap (s.size:Int)=(s.size:Int):=Xe _ (by omega) (by omega);clear hp hnum htxt hs hd;go_enter func210,ntmps210;go_wp2_with fail;refine HN.o.mono ?_;rintro _ w1⟨rfl,g1,hp1,hm1,ht1⟩;have HM1:Hid (Jm w g g1):=hm1;have HT1:Hid (Tch _ w w1):=ht1;have HP1:Hid (Jc _ _ _ _ _ _):=hp1;clear hp1 hm1 ht1 HN;go_wp2_with fail;refine(HT.o w1 g1 HP1.o).mono ?_;rintro _ w2⟨rfl,hto⟩;have HTO:Hid (JY w w2 b g wj _):=JY.trans HM1.o HT1.o hto;clear hto HT HP1;go_wp2;go_ret;exact⟨rfl,HTO.o⟩
theorem JnZ(E:Nat->Addr)(b:Nat)(g:Option Nat)(wj:Int)(done:List UInt8)(hd:done.length<=1000000)(w:World)(hE:Env E w)(hp:Jc w b g wj .nilIface (.wr done)):
  Calls prog 211 #[.pointer (some ⟨b,0,none⟩),.int .i64 0] w λe w'=>e=.returned (.tuple #[])/\JY w w' b g wj (.wr (done++(dgW 4 done).data.toList)):=by
 have c0:w.cell? ⟨b,0,none⟩=some (.iface 153 (.pointer (some ⟨b,0,none⟩))):=by obtain⟨v,_,_,hrow⟩:=hp;exact Ja hrow
 have hm:=Jd1 ⟨b,0,none⟩;have hsz:(dgW 4 done).size=4:=Jz 4 (by omega) done;have htxt:(PS.wr done).txt (dgW 4 done).data.toList 4=some ((dgW 4 done).data.toList,.wr (done++(dgW 4 done).data.toList)):=by simp only[PS.txt];rw[if_pos (by simp only[QA];exact hsz)]
 obtain⟨dz,hdz⟩:∃dz:BA,dz=⟨done.toArray⟩:=⟨_,rfl⟩
 obtain⟨sm,hsm⟩:∃sm:BA,sm=dgW 4 done:=⟨_,rfl⟩
 have HSI:Hid (Calls prog 380 #[.pointer (some ⟨b,0,none⟩),.int .i64 0] w λe w'=>e=.returned (.string dz)/\Tch NoB w w'):=by rw[hdz];exact Jl1 b g wj .nilIface done w hp
 have HOF:Hid (∀w1,Tch NoB w w1->Calls prog 130 #[.int .i64 4,.string dz] w1 λe w'=>e=.returned (.string sm)/\Tch NoB w1 w'):=λw1 hT=>by
  rw[hdz,hsm];exact Jbg E 4 ⟨done.toArray⟩ w1 (hE.tch hT noE) (by omega) (by omega) (by show done.toArray.size<=_;simp;omega)
 have HT:Hid (∀w1,Tch NoB w w1->Calls prog 209 #[.pointer (some ⟨b,0,none⟩),.string sm,.int .i64 4] w1 λe w'=>e=.returned (.string sm)/\JY w w' b g wj (.wr (done++(dgW 4 done).data.toList))):=λw1 hT=>by
  rw[hsm];exact(Zk b g wj (dgW 4 done) 4 _ _ _ w1 (hp.tch hT (λh=>h) (λ_ _ h=>h)) (by simp only[PS.len];omega) htxt).mono λe w' k=>⟨by rw[k.1,strL],by
   obtain⟨g',k1,k2,k3⟩:=k.2;exact⟨g',k1,k2.imp (λh=>h) (λ⟨j,h1,h2⟩=>⟨j,h1,Qm hT.size h2⟩),(hT.mono noE).trans k3 (λj hj=>.inl hj)⟩⟩
 clear hE hp htxt hsz hsm hdz hd;go_enter func211,ntmps211;go_wp2_with fail;refine HSI.o.mono ?_;rintro _ w1⟨rfl,ht1⟩;have HT1:Hid (Tch _ w w1):=ht1;clear ht1 HSI;go_wp2_with fail;refine(HOF.o w1 HT1.o).mono ?_;rintro _ w2⟨rfl,ht2⟩;have HT2:Hid (Tch NoB w w2):=HT1.o.go ht2;clear ht2 HOF HT1;go_wp2_with fail;refine(HT.o w2 HT2.o).mono ?_;rintro _ w3⟨rfl,hto⟩;have HTO:Hid (JY _ _ _ _ _ _):=hto;clear hto HT;go_wp2;refine bodyPost_end (v:=.tuple #[]) (results_none results211 _ _ _) rfl ⟨rfl,HTO.o⟩
theorem Jni(w:World)(g:Nat)(t:TypeId)(a b v0 v1:Value)(h:w.heap[g]? =some (.cells #[a,b] t (0,0))):(w.setCell ⟨g,0,none⟩ v0).setCell ⟨g,1,none⟩ v1=w.setRow g #[v0,v1]:=set2 _ _ _ _ _ _ _ h
theorem JjJ(E:Nat->Addr)(b:Nat)(hb12:18<=b)(wj:Nat)(lt ct:BA)(hl:lt.size=1)(hc:ct.size<65536)(w:World)(hE:Env E w)(hp:Jc w b none (wj:Int) .nilIface (.wr [])):
  Calls prog 141 #[.pointer (some ⟨b,0,none⟩),.agg #[.string lt,.string ct]] w λe w'=>e=.returned (.agg #[.string lt,.string ct])/\StTo E w w' b none (wj:Int) (some (.wr (recB lt.data.toList ct.data.toList))):=by
 have hlt:=hp.lt;have HR0:=Run.start hb12 hE (show Ji E w b none (wj:Int) (some (.wr [])) from hp) (Tch.allocs NoB w (.cells #[.string lt,.string ct] 195) (.cells #[.string ⟨#[]⟩,.string ⟨#[]⟩] 195));have hL:lt.data.toList.length=1:=by simp only[QA];exact hl
 have htxt:(PS.wr []).txt lt.data.toList 1=some (lt.data.toList,.wr lt.data.toList):=by simp only[PS.txt];rw[if_pos hL];rfl
 have HTX:Hid (∀w1 g1,Jc w1 b g1 (wj:Int) .nilIface (.wr [])->Calls prog 209 #[.pointer (some ⟨b,0,none⟩),.string lt,.int .i64 1] w1 λe w'=>e=.returned (.string lt)/\StTo E w1 w' b g1 (wj:Int) (some (.wr lt.data.toList))):=λw1 g1 h1=>
  (Zk b g1 wj lt 1 _ _ _ w1 h1 (by simp[PS.len]) htxt).mono λe w' k=>⟨by rw[k.1,strL],k.2⟩
 have HSZ:Hid (∀w1 g1,Jc w1 b g1 (wj:Int) .nilIface (.wr lt.data.toList)->Calls prog 210 #[.pointer (some ⟨b,0,none⟩),.string ct] w1 λe w'=>e=.returned (.string ct)/\StTo E w1 w' b g1 (wj:Int) (some (.wr (recA lt.data.toList ct.data.toList)))):=λw1 g1 h1=>
  (JgO b g1 wj lt.data.toList ct hc (by omega) w1 h1).mono λe w' k=>⟨k.1,by
   have e:ct.data.toList.length=ct.size:=(by simp only[QA];rfl);unfold recA;rw[e];exact k.2⟩
 have hrl:(recA lt.data.toList ct.data.toList).length<=1000000:=by
  have e:ct.data.toList.length=ct.size:=by simp only[QA];rfl
  unfold recA;simp only[Qe,Jf,hL,e];omega
 have HSM:Hid (∀w1 g1,Env E w1->Jc w1 b g1 (wj:Int) .nilIface (.wr (recA lt.data.toList ct.data.toList))->Calls prog 211 #[.pointer (some ⟨b,0,none⟩),.int .i64 0] w1 λe w'=>e=.returned (.tuple #[])/\StTo E w1 w' b g1 (wj:Int) (some (.wr (recB lt.data.toList ct.data.toList)))):=λw1 g1 h1 h2=>JnZ E b g1 wj _ hrl w1 h1 h2;have hm:=Jd0 ⟨b,0,none⟩;have c0:=(show ∀W,Jc W b none (wj:Int) .nilIface (.wr [])->W.cell? ⟨b,0,none⟩=some (.iface 153 (.pointer (some ⟨b,0,none⟩))) from λW h=>by obtain⟨v,_,_,hrow⟩:=h;exact Ja hrow) _ HR0.port;have HPL:Hid (∀W,Jc W b none (wj:Int) .nilIface (.wr [])->Calls prog 379 #[.pointer (some ⟨b,0,none⟩)] W λe w'=>e=.returned (.int .i64 0)/\W=w'):=λW h=>Jl0 b none wj .nilIface [] W h;have RUN:Hid (Run _ _ _ _ _ _ _ _ _):=HR0;clear hE hp HR0 htxt hrl hL;generalize recA lt.data.toList ct.data.toList=rA at *;generalize recB lt.data.toList ct.data.toList=rB at *;generalize lt.data.toList=lL at *;go_enter func141,ntmps141;go_wp2_with fail;refine(HPL.o _ RUN.out.port).mono ?_;rintro _ _⟨rfl,rfl⟩;go_wp2_with fail;refine(HTX.o _ _ RUN.out.port).mono ?_;rintro _ w1⟨rfl,h⟩;obtain⟨g1,R1⟩:=RUN.out.step h;have bx1:=(R1.box (k:=w.heap.size) (Ql _) (heap_alloc2_old _ _ _)).1;have c1:w1.cell? ⟨w.heap.size,1,none⟩=some (.string ct):=Ja bx1;have RUN1:Hid (Run _ _ _ _ _ _ _ _ _):=R1;clear R1 bx1 h HTX HPL c0;go_wp2_with fail;refine(HSZ.o _ _ RUN1.out.port).mono ?_;rintro _ w2⟨rfl,h⟩;obtain⟨g2,R2⟩:=RUN1.out.step h;have RUN2:Hid (Run _ _ _ _ _ _ _ _ _):=R2;clear R2 h HSZ c1;go_wp2_with fail;refine(HSM.o _ _ RUN2.out.env RUN2.out.port).mono ?_;rintro _ w4⟨rfl,h⟩;obtain⟨g4,R4⟩:=RUN2.out.step h;have rR:=(R4.box (k:=w.heap.size+1) (by omega) (heap_alloc2_new _ _ _)).1;have e0:w4.cell? ⟨w.heap.size+1,0,none⟩=some (.string ⟨#[]⟩):=Ja rR;have e1:w4.cell? ⟨w.heap.size+1,1,none⟩=some (.string ⟨#[]⟩):=Ja rR;have fR:∀j,w4.frozen? ⟨w.heap.size+1,j,none⟩=false:=λj=>Qg _ _ _ _ _ rR;have RUN4:Hid (Run _ _ _ _ _ _ _ _ _):=R4;have RR:Hid (_=_):=rR;clear R4 rR h HSM;go_wp2;rw[Jni _ _ _ _ _ _ _ RR.out];exact QJ (v:=.agg #[.string lt,.string ct]) (Qq results141 _ _ (w.heap.size+1) _ _ (0,0) _ rfl (Qi _ _ _ _ _ _ RR.out) underlying195 rfl (by kernel_rfl)) rfl ⟨rfl,RUN4.out.done (k:=w.heap.size+1) (by omega) (heap_alloc2_new _ _ _) (by decide)⟩

theorem JT(x:BA):x.data.toList.length=x.size:=by simp only[QA];rfl
theorem JbI(a b:List UInt8):(recB a b).length=a.length+b.length+6:=by
 unfold recB;rw[Qe,JT,Jz 4 (by omega)];unfold recA;simp only[Qe,Jf];omega
structure Xp(base:Nat)(w:World)(v:Value)(lg:List UInt8):Prop where
 bs:Bs base w v (bc lg)
 kind:RowT 5 w v
theorem Bs.tch{xs:List Value}(h:Bs base w v xs)(k:Tch S w w')(hs:∀j,v.ownBlock=some j->¬S j):Bs base w' v xs:=by
 rcases h with h|⟨g,cap,hv,hb,hlt,hle,hm,hc,hsp⟩
 ·exact .inl h
 ·have hbk:w'.heap[g]? =w.heap[g]? :=k.block g hlt (hs g (by rw[hv];rfl));refine .inr ⟨g,cap,hv,hb,Qk hlt k.size,hle,hm,λj u hu=>?_,λj hj=>?_⟩
  ·rw[World.cell?_of_block (a:=⟨g,j,none⟩) hbk];exact hc j u hu
  ·rw[World.cell?_of_block (a:=⟨g,j,none⟩) hbk,World.frozen?_of_block (a:=⟨g,j,none⟩) hbk];exact hsp j hj
theorem Xp.tch(h:Xp base w v lg)(k:Tch S w w')(hs:∀j,v.ownBlock=some j->¬S j):Xp base w' v lg:=
 ⟨h.bs.tch k hs,λj hj=>by
  obtain⟨cur,m,hr⟩:=h.kind j hj;exact⟨cur,m,(k.block j (Jb hr) (hs j hj)).trans hr⟩⟩
theorem Xp.next(h:Xp base w v lg)(k:Tch NoB w w'):Xp base w' v lg:=h.tch k (λ_ _ e=>e)
theorem Xp.ne_row(h:Xp base w v lg)(c:JB w cb wj fl r bs v):¬some cb=v.ownBlock/\¬some r=v.ownBlock:=by
 constructor
 ·intro e;obtain⟨cur,m,hr⟩:=h.kind cb e.symm;rw[c.row]at hr;simp at hr
 ·intro e;obtain⟨cur,m,hr⟩:=h.kind r e.symm;rw[c.map]at hr;simp at hr
theorem Jbi(E:Nat->Addr)(hE:Env E w)(h:JB w cb wj fl r bs lv)(base:Nat)(hbase:base<=w.heap.size)(lg:List UInt8)(hl:Xp base w lv lg)(hll:lg.length<=140737488000000)(lt ct:BA)(h1:lt.size=1)(h2:ct.size<65536):
  Calls prog 89 #[.pointer (some ⟨cb,0,none⟩),.string lt,.string ct] w λe w'=>e=.returned .nilIface/\∃lv',JB w' cb wj fl r bs lv'/\Xp base w' lv' (lg++recB lt.data.toList ct.data.toList)/\Tch (λk=>k=cb\/some k=lv.ownBlock) w w'/\Jm w lv.ownBlock lv'.ownBlock:=by
 have hsz:=hE.size;have c0:w.cell? ⟨cb,0,none⟩=some (.int .i64 (wj:Int)):=Ja h.row;obtain⟨i0,hi,hz0,hz1,hz2⟩:=info_parts JcL;obtain⟨rec,hrec⟩:∃rec,rec=recB lt.data.toList ct.data.toList:=⟨_,rfl⟩
 have hrl:rec.length<=70000:=by rw[hrec,JbI,JT,JT];omega
 have HRC:Hid (∀W,Tch NoB w W->Jc W w.heap.size none (wj:Int) .nilIface (.wr [])->Calls prog 141 #[.pointer (some ⟨w.heap.size,0,none⟩),.agg #[.string lt,.string ct]] W λe w'=>e=.returned (.agg #[.string lt,.string ct])/\StTo E W w' w.heap.size none (wj:Int) (some (.wr rec))):=λW hT hp=>by
  rw[hrec];exact JjJ E w.heap.size hsz wj lt ct h1 h2 W (hE.tch hT noE) hp
 have HROW:Hid _:=h;have HL:Hid _:=hl;have HLL:Hid (lg.length<=140737488000000/\rec.length<=70000/\base<=w.heap.size):=⟨hll,hrl,hbase⟩
 rw[<-hrec];obtain⟨sr,hsr⟩:∃sr:BA,sr=⟨rec.toArray⟩:=⟨_,rfl⟩
 have HSR:Hid (byteCells sr=bc rec/\sr.size=rec.length):=by rw[hsr];exact⟨by simp[byteCells,bc],JA _⟩
 have HWD:Hid (∀W g,Ji E W w.heap.size g (wj:Int) (some (.wr rec))->Calls prog 79 #[.pointer (some ⟨w.heap.size,0,none⟩)] W λe w'=>Tch NoB W w'/\e=.returned (.tuple #[.string sr,.nilIface])):=λW g hp=>by
  rw[hsr];exact JaL E w.heap.size g wj (some (.wr rec)) (λp hp=>⟨_,(Option.some.inj hp).symm⟩) W hp
 clear hE h hl hll hrl hbase h1 h2 hrec hsr;go_enter func89,ntmps89;go_wp2_with fail;refine(Xf _ _).mono ?_;rintro _ w1⟨rfl,hp1,ht1⟩;have HT1:Hid _:=ht1;have HP1:Hid _:=hp1;clear ht1 hp1 c0;go_wp2_with fail;refine(HRC.o w1 HT1.o HP1.o).mono ?_;rintro _ w2⟨rfl,g2,hp2,hm2,ht2⟩;have HP2:Hid _:=hp2;have HT2:Hid (Tch NoB w w2):=XH (b:=w.heap.size) (Ql _) HT1.o ht2;clear hp2 ht2 hm2 HP1 HT1 HRC;go_wp2_with fail;refine(HWD.o w2 g2 HP2.o).mono ?_;rintro _ w3⟨ht3,rfl⟩;have HT3:Hid (Tch NoB w w3):=HT2.o.go ht3;have HR3:Hid (JB w3 cb wj fl r bs lv):=HROW.o.next HT3.o;have HL3:Hid (Xp base w3 lv lg):=HL.o.next HT3.o;have c3:w3.cell? ⟨cb,3,none⟩=some lv:=Ja HR3.o.row;have hbs3:Hid (Bs base w3 lv (bc lg)):=HL3.o.bs;have Hbl:Hid ((bc lg).length=lg.length):=Yt lg;clear ht3 HP2 HT2 HWD;go_wp2_with (at_builtin;refine JbV rfl _ _ 52 9 5 rfl i0 _ underlying52 hi hz0 hz1 hz2 rfl rfl hbs3.out _ sr.size (byteCells sr) rfl (Src.ofString _ underlying9 sr) (by rw[Hbl.out,HSR.o.2];have:=HLL.o;omega) (by have:=HLL.o;have:=HT3.o.size;omega) ?_;intro v4 w4 hbs4 hg4 hmv4 hk4;have HB4:Hid _:=hbs4;have HG4:Hid _:=hg4;have HM4:Hid (Jm w3 lv.ownBlock v4.ownBlock):=hmv4;have HK4:Hid (RowT _ w4 v4):=hk4 HL3.o.kind;have hr4:w4.heap[cb]? =some (.cells #[.int .i64 (wj:Int),.int .i64 (fl:Int),.map (some r),lv] 143):=(hg4.block cb (Jb HR3.o.row) (HL3.o.ne_row HR3.o).1).trans HR3.o.row;have d3:w4.cell? ⟨cb,3,none⟩=some lv:=Ja hr4;have df:w4.frozen? ⟨cb,3,none⟩=false:=Qg _ _ _ _ _ hr4;have HR4:Hid _:=hr4;obtain⟨y1,y2,y3,hv4⟩:=hbs4.shape3;clear hbs4 hg4 hmv4 hk4 hr4;subst hv4);go_ret;have hset:=Qj w4 cb 3 _ _ (0,0) (.slice y1 y2 y3) HR4.o;have hrow:(w4.setCell ⟨cb,3,none⟩ (.slice y1 y2 y3)).heap[cb]? =some (.cells #[.int .i64 (wj:Int),.int .i64 (fl:Int),.map (some r),.slice y1 y2 y3] 143):=by rw[hset];exact Qi _ _ _ _ _ _ HR4.o
 have hne:=HL3.o.ne_row HR3.o;have hrlt:=(Jb HR3.o.map)
 have hm4:w4.heap[r]? =some (.map (Ju 0 bs).toArray bs.length):=(HG4.o.block r hrlt hne.2).trans HR3.o.map;have hrc:r ≠ cb:=λe=>by have:=HR3.o.row;rw[<-e,HR3.o.map]at this;cases this
 have tS:Tch (λk=>k=cb) w4 (w4.setCell ⟨cb,3,none⟩ (.slice y1 y2 y3)):=by rw[hset];exact Ts _ _ _
 have tG:Tch (λk=>some k=lv.ownBlock) w3 w4:=Tg HG4.o;have hcb:=(Jb HR3.o.row)
 have hown:∀j,(Value.slice y1 y2 y3).ownBlock=some j->¬j=cb:=λj hj e=>by
  subst e
  rcases HM4.o with h|⟨k,h,hk⟩
  ·exact hne.1 (by rw[<-h,hj])
  ·rw[hj]at h;cases h;omega
 refine⟨rfl,_,⟨hrow,(tS.block r (Jb hm4) hrc).trans hm4⟩,Xp.tch ⟨?_,HK4.o⟩ tS hown,?_,?_⟩
 ·have e:=HB4.o;rw[HSR.o.1,<-ZL]at e;exact e
 ·exact((HT3.o.mono noE).trans tG (λj hj=>.inl (.inr hj))).trans tS (λj hj=>.inl (.inl hj))
 ·rcases HM4.o with h|⟨k,h,hk⟩
  ·exact .inl h
  ·exact .inr ⟨k,h,Qm HT3.o.size hk⟩

def subP(d:List UInt8->BA)(wj m:Nat)(bh:BA)(st:Option Tr)(text:List UInt8):Except Er (BA×Option Tr):=
 match (PS.rd [] text).hdr wj (0,⟨#[]⟩,⟨#[]⟩,⟨#[]⟩) with
 | some (h,⟨.inl (pre,body)⟩)=>match (PS.rd pre body).body wj [] with
  | some (ts,⟨.inl (_,[])⟩)=>if h ≠ (m+1,d (72::bh.data.toList),d (66::body),h.2.2.2) then .error .tip else match JZ d st ts with
   | .error e=>.error e
   | .ok st'=>if h.2.2.2 ≠ JV d st' then .error .root else .ok (⟨(text.take (text.length-body.length)).toArray⟩,st')
  | _=>.error .form
 | _=>.error .form
theorem JhT(d:List UInt8->BA)(wj m:Nat)(bh:BA)(st:Option Tr)(ch:Ch)(hl:ch.length=m+1)(hla:ch.last=(bh,st))(text:List UInt8):
  YQ d wj ch text=match subP d wj m bh st text with | .error e=>.error e | .ok x=>.ok (ch++[x]):=by
 unfold YQ subP ZB;rw[hl,hla];dsimp only
 cases (PS.rd [] text).hdr wj (0,⟨#[]⟩,⟨#[]⟩,⟨#[]⟩) with
 | none=>rfl
 | some x=>
  obtain⟨h,p⟩:=x
  cases p using PS.on with
  | wr d=>rfl
  | rd pre body=>
   dsimp only
   cases (PS.rd pre body).body wj [] with
   | none=>rfl
   | some y=>
    obtain⟨ts,p⟩:=y
    cases p using PS.on with
    | wr d=>rfl
    | rd q r=>
     cases r with
     | cons a l=>rfl
     | nil=>
      dsimp only
      split
      ·rfl
      ·cases JZ d st ts with
       | error e=>rfl
       | ok st'=>dsimp only;split<;>rfl
def NoTo(E:Nat->Addr)(er:Nat)(w:World)(e:Ending)(w':World):Prop:=Tch NoB w w'/\∃t u,e=.returned (.iface t u)/\Jp E er w' (.iface t u)
theorem JfW(E:Nat->Addr)(hE:Env E w)(hw:wj<=32)(h:JB w cb wj fl r bs lv)(s:BA)(hs:s.size<=1100000)(hh:(PS.rd [] s.data.toList).hdr wj (0,⟨#[]⟩,⟨#[]⟩,⟨#[]⟩)=none):
  Calls prog 46 #[.pointer (some ⟨cb,0,none⟩),.string s] w λe w'=>NoTo E 7 w e w':=by
 have hsz:=hE.size;have c0:w.cell? ⟨cb,0,none⟩=some (.int .i64 (wj:Int)):=Ja h.row;have HHD:Hid (∀W,Tch NoB w W->Jc W w.heap.size none (wj:Int) .nilIface (.rd [] s.data.toList)->Calls prog 86 #[.pointer (some ⟨w.heap.size,0,none⟩),.agg #[.int .u64 0,.string ⟨#[]⟩,.string ⟨#[]⟩,.string ⟨#[]⟩]] W λe w'=>∃(n:Nat)(x1 x2 x3:BA),e=.returned (.agg #[.int .u64 (n:Int),.string x1,.string x2,.string x3])/\RdTo E W w' w.heap.size (wj:Int) none):=λW hT hp=>by
  have:=Jem E w.heap.size hsz wj 0 ⟨#[]⟩ ⟨#[]⟩ ⟨#[]⟩ (some (.rd [] s.data.toList)) W (hE.tch hT noE) ⟨hp,_,_,rfl⟩ (by simp only[Xb,PS.len,Qv,QA];have:s.data.size<=1100000:=hs;omega);refine this.mono λe w' k=>?_;rw[JhM wj _ _ hh]at k;exact⟨_,_,_,_,k.1,k.2⟩
 clear hE h hh hs;go_enter func46,ntmps46;go_wp2_with fail;refine(XT _ _ _).mono ?_;rintro _ w1⟨rfl,hp1,ht1⟩;have HT1:Hid (Tch NoB w w1):=ht1;have HP1:Hid (Jc w1 w.heap.size none (wj:Int) .nilIface (.rd [] s.data.toList)):=hp1;clear ht1 hp1 c0;go_wp2_with fail;refine(HHD.o w1 HT1.o HP1.o).mono ?_;rintro _ w2⟨n,x1,x2,x3,rfl,⟨q,rr,t,u,hp2,he2⟩,ht2⟩;have hA:=Ta NoB w2 (.cells #[.int .u64 (n:Int),.string x1,.string x2,.string x3] 167);have HT2:Hid (Tch NoB w _):=(HT1.o.trans ht2 (λj hj=>.inr (Nat.le_of_eq hj.symm))).go hA;have HP2:Hid (Jc _ w.heap.size none (wj:Int) (.iface t u) (.rd q rr)):=hp2.tch hA (λh=>h) (λ_ _ h=>h);have HE2:Hid (Jp E 7 _ (.iface t u)):=he2.next hA;clear hp2 he2 ht2 HHD HP1 HT1 hA;go_wp2_with fail;refine(Jdt w.heap.size none (wj:Int) _ q rr _ HP2.o).mono ?_;rintro _ w3⟨rfl,ht3⟩;have HT3:Hid (Tch NoB w w3):=HT2.o.go ht3;have HP3:Hid (Jc w3 w.heap.size none (wj:Int) (.iface t u) (.rd q rr)):=HP2.o.tch ht3 (λh=>h) (λ_ _ h=>h);have HE3:Hid (Jp E 7 w3 (.iface t u)):=HE2.o.next ht3;clear ht3 HT2 HP2 HE2;go_wp2_with fail;refine(JkD w.heap.size none wj none 0 0 _ t u w3 HP3.o).mono ?_;rintro _ w4⟨rfl,hp4,ht4⟩;have HT4:Hid (Tch NoB w w4):=HT3.o.go ht4;have HP4:Hid (Jc w4 w.heap.size none (wj:Int) (.iface t u) (.rd q rr)):=hp4;have HE4:Hid (Jp E 7 w4 (.iface t u)):=HE3.o.next ht4;clear ht4 hp4 HT3 HP3 HE3;go_wp2_with fail;refine(JeB w.heap.size none (wj:Int) t u _ w4 HP4.o).mono ?_;rintro _ w5⟨rfl,ht5⟩;have HT5:Hid (Tch NoB w w5):=HT4.o.go ht5;have HE5:Hid (Jp E 7 w5 (.iface t u)):=HE4.o.next ht5;clear ht5 HT4 HP4 HE4;go_wp2_with fail;refine(Xl _ _ _ _).mono ?_;rintro _ _⟨rfl,rfl⟩;go_wp2;go_ret;exact⟨HT5.o.go (Ta _ _ _),_,_,rfl,.wrap _ _ _ (Qf _ _) (HE5.o.next (Ta _ _ _))⟩
theorem JhS(E:Nat->Addr)(hE:Env E w)(wj:Nat)(hw:wj<=32)(s:BA)(hs:s.size<=1100000)(y:HdL)(p:PS)(hh:(PS.rd [] s.data.toList).hdr wj (0,⟨#[]⟩,⟨#[]⟩,⟨#[]⟩)=some (y,p))(hT:Tch NoB w W)(hp:Jc W w.heap.size none (wj:Int) .nilIface (.rd [] s.data.toList)):
  Calls prog 86 #[.pointer (some ⟨w.heap.size,0,none⟩),.agg #[.int .u64 0,.string ⟨#[]⟩,.string ⟨#[]⟩,.string ⟨#[]⟩]] W λe w'=>e=.returned (.agg #[.int .u64 (y.1:Int),.string y.2.1,.string y.2.2.1,.string y.2.2.2])/\RdTo E W w' w.heap.size (wj:Int) (some p):=by
 have:=Jem E w.heap.size hE.size wj 0 ⟨#[]⟩ ⟨#[]⟩ ⟨#[]⟩ (some (.rd [] s.data.toList)) W (hE.tch hT noE) ⟨hp,_,_,rfl⟩ (by simp only[Xb,PS.len,Qv,QA];have:s.data.size<=1100000:=hs;omega);refine this.mono λe w' k=>?_;obtain⟨e1,e2⟩:=JdD wj _ _ _ _ hh;rw[e1]at k;rw[e2]at k;exact k
theorem JiA(E:Nat->Addr)(hE:Env E w)(wj:Nat)(hw:wj<=32)(pre body:List UInt8)(hl:pre.length+body.length<=1100000)(hT:Tch NoB w W)(hp:Jc W w.heap.size none (wj:Int) .nilIface (.rd pre body)):
  Calls prog 78 #[.pointer (some ⟨w.heap.size,0,none⟩),.slice none 0 0] W λe w'=>ToB E W w.heap.size none wj ((PS.rd pre body).body wj []) e w':=
 JfT E w.heap.size hE.size none wj hw (.slice none 0 0) [] [] (.rd pre body) W (hE.tch hT noE) hp (.inl ⟨rfl,rfl⟩) rfl (by simp) (λ_ _ _=>rfl) (λj x t h=>by simp at h) (by simp only[PS.len];omega)
theorem JfX(E:Nat->Addr)(hE:Env E w)(hw:wj<=32)(h:JB w cb wj fl r bs lv)(s:BA)(hs:s.size<=1100000)(y:HdL)(pre body:List UInt8)(hh:(PS.rd [] s.data.toList).hdr wj (0,⟨#[]⟩,⟨#[]⟩,⟨#[]⟩)=some (y,.rd pre body))(hl:pre.length+body.length<=1100000)(hb:∀ts q,(PS.rd pre body).body wj [] ≠ some (ts,.rd q [])):
  Calls prog 46 #[.pointer (some ⟨cb,0,none⟩),.string s] w λe w'=>NoTo E 7 w e w':=by
 have hsz:=hE.size;have c0:w.cell? ⟨cb,0,none⟩=some (.int .i64 (wj:Int)):=Ja h.row;have HHD:Hid (∀W,Tch NoB w W->Jc W w.heap.size none (wj:Int) .nilIface (.rd [] s.data.toList)->Calls prog 86 #[.pointer (some ⟨w.heap.size,0,none⟩),.agg #[.int .u64 0,.string ⟨#[]⟩,.string ⟨#[]⟩,.string ⟨#[]⟩]] W λe w'=>e=.returned (.agg #[.int .u64 (y.1:Int),.string y.2.1,.string y.2.2.1,.string y.2.2.2])/\RdTo E W w' w.heap.size (wj:Int) (some (.rd pre body))):=λW hT hp=>JhS E hE wj hw s hs y _ hh hT hp;have HBO:Hid (∀W,Tch NoB w W->Jc W w.heap.size none (wj:Int) .nilIface (.rd pre body)->Calls prog 78 #[.pointer (some ⟨w.heap.size,0,none⟩),.slice none 0 0] W λe w'=>ToB E W w.heap.size none wj ((PS.rd pre body).body wj []) e w'):=λW hT hp=>JiA E hE wj hw pre body hl hT hp;have HDN:Hid (∀W g,Tch NoB w W->Ji E W w.heap.size g (wj:Int) (((PS.rd pre body).body wj []).map (·.2))->Calls prog 88 #[.pointer (some ⟨w.heap.size,0,none⟩)] W λe w'=>Tch NoB W w'/\∃t u,e=.returned (.iface t u)/\Jp E 7 w' (.iface t u)):=λW g hT hp=>by
  cases hx:(PS.rd pre body).body wj [] with
  | none=>
   rw[hx]at hp;exact Jdq E w.heap.size wj none (λp h=>by cases h) W (hE.tch hT noE) g hp
  | some z=>
   obtain⟨ts,p⟩:=z;obtain⟨b1,r1,_,_,e1,_⟩:=JaT wj hw _ _ _ _ hx;subst e1;rw[hx]at hp
   cases r1 with
   | nil=>exact absurd hx (hb _ _)
   | cons a l=>exact Jdq E w.heap.size wj (some (.rd (pre++b1) (a::l))) (λp h=>⟨_,_,(Option.some.inj h).symm⟩) W (hE.tch hT noE) g hp
 clear hE h hh hs hb hl;go_enter func46,ntmps46;go_wp2_with fail;refine(XT _ _ _).mono ?_;rintro _ w1⟨rfl,hp1,ht1⟩;have HT1:Hid (Tch NoB w w1):=ht1;have HP1:Hid (Jc w1 w.heap.size none (wj:Int) .nilIface (.rd [] s.data.toList)):=hp1;clear ht1 hp1 c0;go_wp2_with fail;refine(HHD.o w1 HT1.o HP1.o).mono ?_;rintro _ w2⟨rfl,⟨hp2,_⟩,ht2⟩;have hA:=Ta NoB w2 (.cells #[.int .u64 (y.1:Int),.string y.2.1,.string y.2.2.1,.string y.2.2.2] 167);have HT2:Hid (Tch NoB w _):=(HT1.o.trans ht2 (λj hj=>.inr (Nat.le_of_eq hj.symm))).go hA;have HP2:Hid (Jc _ w.heap.size none (wj:Int) .nilIface (.rd pre body)):=hp2.tch hA (λh=>h) (λ_ _ h=>h);clear hp2 ht2 HHD HP1 HT1 hA;go_wp2_with fail;refine(Jdt w.heap.size none (wj:Int) _ pre body _ HP2.o).mono ?_;rintro _ w3⟨rfl,ht3⟩;have HT3:Hid (Tch NoB w w3):=HT2.o.go ht3;have HP3:Hid (Jc w3 w.heap.size none (wj:Int) .nilIface (.rd pre body)):=HP2.o.tch ht3 (λh=>h) (λ_ _ h=>h);clear ht3 HT2 HP2;go_wp2_with fail;refine(HBO.o w3 HT3.o HP3.o).mono ?_;rintro _ w4⟨⟨z1,z2,z3⟩,g4,rfl,hp4,_,ht4,_⟩;have HT4:Hid (Tch NoB w w4):=XH (b:=w.heap.size) (Ql _) HT3.o ht4;have HP4:Hid (Ji E w4 w.heap.size g4 (wj:Int) (((PS.rd pre body).body wj []).map (·.2))):=hp4;clear ht4 hp4 HT3 HP3;go_wp2_with fail;refine(HDN.o w4 g4 HT4.o HP4.o).mono ?_;rintro _ w5⟨ht5,t,u,rfl,he5⟩;have HT5:Hid (Tch NoB w w5):=HT4.o.go ht5;have HE5:Hid (Jp E 7 w5 (.iface t u)):=he5;clear ht5 HT4 HP4 he5 HDN HBO;go_wp2_with fail;refine(Xl _ _ _ _).mono ?_;rintro _ _⟨rfl,rfl⟩;go_wp2;go_ret;exact⟨HT5.o.go (Ta _ _ _),_,_,rfl,.wrap _ _ _ (Qf _ _) (HE5.o.next (Ta _ _ _))⟩
