import Derived.Test.YtighkdnooglfjaaGreatDoorLcChJ
import Derived.Test.YtighkdnooglfjaaGreatDoorLcKShop
namespace Go.Proofs.YtighkdnooglfjaaGreatDoor
open Tryz
set_option maxRecDepth 100000
set_option maxHeartbeats 2000000
open Go.RowKit

variable {bs bs':List BV}{cb f fl r wj:Nat}{lv v:Value}{w:World}
def XR(wj:Nat)(outs:List (Nat×Nat)):List UInt8:=beL wj 1 1++XE outs
theorem JlN(E:Nat->Addr)(b:Nat)(hb12:18<=b)(wj:Nat)(hw:wj<=32)(ia:Option Addr)(ic n:Nat)(outs:List (Nat×Nat))(ho:∀o∈outs,Jy o)(h1:1<=outs.length)(h3:outs.length<=3)(w:World)(hE:Env E w)(hp:Jc w b none (wj:Int) .nilIface (.wr []))(hv:Jq b w (.slice ia n ic) outs):
  Calls prog 198 #[.pointer (some ⟨b,0,none⟩),.agg #[.int .i64 (wj:Int),.slice ia n ic]] w λe w'=>(∃v0,e=.returned (.agg #[.int .i64 (wj:Int),v0]))/\StTo E w w' b none (wj:Int) (some (.wr (XR wj outs))):=by
 have hlt:=hp.lt;have HR0:=Run.start hb12 hE (show Ji E w b none (wj:Int) (some (.wr [])) from hp) (Tch.allocs NoB w (.cells #[.int .i64 (wj:Int),.slice ia n ic] 333) (.cells #[.int .i64 0,.slice none 0 0] 333));have hnum:(PS.wr []).num wj 1=some (wj,.wr (beL wj 1 1)):=by simp only[PS.num];rw[if_pos (by omega)];rfl
 have HN:Hid (∀w1 g1,Jc w1 b g1 (wj:Int) .nilIface (.wr [])->Calls prog 138 #[.pointer (some ⟨b,0,none⟩),.int .u64 (wj:Int),.int .i64 1] w1 λe w'=>e=.returned (.int .u64 (wj:Int))/\StTo E w1 w' b g1 (wj:Int) (some (.wr (beL wj 1 1)))):=λw1 g1 h=>Xs b g1 wj wj 1 wj (.wr []) _ w1 h (by omega) (by simp[PS.len]) hnum;have HF:Hid (∀w1 g1,Env E w1->Jc w1 b g1 (wj:Int) .nilIface (.wr (beL wj 1 1))->Jq b w1 (.slice ia n ic) outs->Calls prog 188 #[.pointer (some ⟨b,0,none⟩),.slice ia n ic] w1 λe w'=>∃gp,e=.returned (.slice (some ⟨gp,0,none⟩) outs.length outs.length)/\StTo E w1 w' b g1 (wj:Int) (some (.wr (XR wj outs)))):=λw1 g1 hE1 hp1 hv1=>by
  have hr:=(Jdx 1 3 outs ho h1 h3 (by omega)).wr (beL wj 1 1);have:=Ja1 E b hb12 g1 wj _ outs (.wr (beL wj 1 1)) w1 hE1 hp1 hv1 (by omega) (YE _ _) (λx hx=>(ho x hx).2) (by simp only[PS.len,Jf];omega);rw[hr]at this;refine this.mono λe w' k=>?_;obtain⟨gp,k1,_,_,g',k4,_,k6,k7⟩:=k;exact⟨gp,k1,g',k4,k6,k7⟩
 have hu:IntKind.u64.wrap (wj:Int)=(wj:Int):=JI _ (by omega) (by omega);have hi:IntKind.i64.wrap (wj:Int)=(wj:Int):=Xe _ (by omega) (by omega);have HV:Hid (Jq b w (.slice ia n ic) outs):=hv;have RUN:Hid _:=HR0;clear hE hp HR0 hnum hv ho h1 h3;go_enter func198,ntmps198;go_wp2_with fail;refine(HN.o _ _ RUN.out.port).mono ?_;rintro _ w1⟨rfl,h⟩;obtain⟨g1,R1⟩:=RUN.out.step h;have bx1:=(R1.box (k:=w.heap.size) (Ql _) (heap_alloc2_old _ _ _)).1;have c1:w1.cell? ⟨w.heap.size,1,none⟩=some (.slice ia n ic):=Ja bx1;have RUN1:Hid _:=R1;have HV1:Hid (Jq b w1 (.slice ia n ic) outs):=by obtain⟨g',_,_,t1⟩:=R1.to;exact HV.o.tch t1 (λj hj=>by rcases hj with h|h;omega;cases h)
 clear R1 bx1 h HN HV;go_wp2_with fail;refine(HF.o _ _ RUN1.out.env RUN1.out.port HV1.o).mono ?_;rintro _ w4⟨gp,rfl,h⟩;obtain⟨g4,R4⟩:=RUN1.out.step h;have rR:=(R4.box (k:=w.heap.size+1) (by omega) (heap_alloc2_new _ _ _)).1;have e0:w4.cell? ⟨w.heap.size+1,0,none⟩=some (.int .i64 0):=Ja rR;have e1:w4.cell? ⟨w.heap.size+1,1,none⟩=some (.slice none 0 0):=Ja rR;have fR:∀j,w4.frozen? ⟨w.heap.size+1,j,none⟩=false:=λj=>Qg _ _ _ _ _ rR;have RUN4:Hid _:=R4;have RR:Hid (_=_):=rR;clear R4 rR h HF c1;go_wp2;rw[Jni _ _ _ _ _ _ _ RR.out];exact QJ (v:=.agg #[.int .i64 (wj:Int),.slice (some ⟨gp,0,none⟩) outs.length outs.length]) (Qq results198 _ _ (w.heap.size+1) _ _ (0,0) _ rfl (Qi _ _ _ _ _ _ RR.out) underlying333 rfl (by kernel_rfl)) rfl ⟨⟨_,rfl⟩,RUN4.out.done (k:=w.heap.size+1) (by omega) (heap_alloc2_new _ _ _) (by decide)⟩
theorem JcE(E:Nat->Addr)(hE:Env E w)(hw:wj<=32)(h:JB w cb wj fl r bs lv)(base:Nat)(hbase:base<=w.heap.size)(lg:List UInt8)(hl:Xp base w lv lg)(hll:lg.length<=140737488000000)(v:Value)(outs:List (Nat×Nat))(ho:∀o∈outs,Jy o)(h1:1<=outs.length)(h3:outs.length<=3)(hv:Jq w.heap.size w v outs):
  Calls prog 129 #[.pointer (some ⟨cb,0,none⟩),v] w λe w'=>e=.returned .nilIface/\∃lv',JB w' cb wj fl r bs lv'/\Xp base w' lv' (lg++recB [71] (XR wj outs))/\Tch (λk=>k=cb\/some k=lv.ownBlock) w w'/\Jm w lv.ownBlock lv'.ownBlock:=by
 have hsz:=hE.size;have hcb:=(Jb h.row)
 have c0:w.cell? ⟨cb,0,none⟩=some (.int .i64 (wj:Int)):=Ja h.row;obtain⟨ia,ic,hvs⟩:=hv.shape;subst hvs;have hlen:(XR wj outs).length<=100:=by
  have:∀l:List (Nat×Nat),(l.flatMap outB).length=l.length*9:=by
   intro l
   induction l with
   | nil=>rfl
   | cons x r ih=>rw[QG,Qe,ih];unfold outB;simp only[Qe,Jf,Qp];omega
  unfold XR XE;rw[Qe,Qe,Jf,Jf,this];omega
 obtain⟨sb,hsb⟩:∃sb:BA,sb=⟨(XR wj outs).toArray⟩:=⟨_,rfl⟩
 have HST:Hid (∀W,Tch NoB w W->Jc W w.heap.size none (wj:Int) .nilIface (.wr [])->Calls prog 198 #[.pointer (some ⟨w.heap.size,0,none⟩),.agg #[.int .i64 (wj:Int),.slice ia outs.length ic]] W λe w'=>(∃v0,e=.returned (.agg #[.int .i64 (wj:Int),v0]))/\StTo E W w' w.heap.size none (wj:Int) (some (.wr (XR wj outs)))):=λW hT hp=>
  JlN E w.heap.size hsz wj hw ia ic outs.length outs ho h1 h3 W (hE.tch hT noE) hp (hv.tch hT noE)
 have HWD:Hid (∀W g,Ji E W w.heap.size g (wj:Int) (some (.wr (XR wj outs)))->Calls prog 79 #[.pointer (some ⟨w.heap.size,0,none⟩)] W λe w'=>Tch NoB W w'/\e=.returned (.tuple #[.string sb,.nilIface])):=λW g hp=>by
  rw[hsb];exact JaL E w.heap.size g wj (some (.wr (XR wj outs))) (λp hp=>⟨_,(Option.some.inj hp).symm⟩) W hp
 have HRC:Hid (∀W,Tch NoB w W->Calls prog 89 #[.pointer (some ⟨cb,0,none⟩),.string ⟨#[71]⟩,.string sb] W λe w'=>e=.returned .nilIface/\∃lv',JB w' cb wj fl r bs lv'/\Xp base w' lv' (lg++recB [71] (XR wj outs))/\Tch (λk=>k=cb\/some k=lv.ownBlock) W w'/\Jm W lv.ownBlock lv'.ownBlock):=λW hT=>by
  have:=Jbi E (hE.tch hT noE) (h.next hT) base (Qm hbase hT.size) lg (hl.next hT) hll ⟨#[71]⟩ sb rfl (by rw[hsb,JA];omega);have e:sb.data.toList=XR wj outs:=by rw[hsb]
  rw[e]at this;exact this
 clear hE h hbase hl hll ho h1 h3 hv hlen hsb;go_enter func129,ntmps129;go_wp2_with fail;refine(Xf _ _).mono ?_;rintro _ w1⟨rfl,hp1,ht1⟩;have HT1:Hid _:=ht1;have HT1d:Hid (Tch NoB w w1.drew):=ht1.dr 1;have HP1:Hid (Jc w1.drew w.heap.size none (wj:Int) .nilIface (.wr [])):=hp1.tch (Td NoB w1 1) (λh=>h) (λ_ _ h=>h);have d0:w1.cell? ⟨cb,0,none⟩=some (.int .i64 (wj:Int)):=(ht1.cell (p:=⟨cb,0,none⟩) hcb (λh=>h)).trans c0;have hcb1:cb<w1.heap.size:=Qk hcb ht1.size;clear ht1 hp1 c0;go_upto_region 2 with fail;go_cut [] (λwx=>∃g2,Hid (Ji E wx w.heap.size g2 (wj:Int) (some (.wr (XR wj outs))))/\Hid (Tch NoB w wx))
 case first=>
  go_region_held3 (λW=>W.cell? ⟨cb,0,none⟩=some (.int .i64 (wj:Int))) (go_keep) ((go_at_call 198;refine(HST.o w1.drew HT1d.o HP1.o).mono ?_;rintro _ w2⟨⟨v0,rfl⟩,g2,hp2,hm2,ht2⟩;have hT2:Tch NoB w w2:=XH (b:=w.heap.size) (Ql _) HT1d.o ht2;have e0:w2.cell? ⟨cb,0,none⟩=some (.int .i64 (wj:Int)):=(ht2.cell (p:=⟨cb,0,none⟩) hcb1 (λe=>by rcases e with e|e;simp only at e;omega;cases e)).trans d0;have HT2:Hid _:=hT2;have HP2:Hid _:=hp2;clear hp2 hm2 ht2 hT2))
  all_goals go_wp2;go_meet;exact⟨g2,HP2,HT2⟩
 case rest=>
 obtain⟨g2,HP2,HT2⟩:=hcut;obtain⟨w2,hw2⟩:∃w2,w2=wc:=⟨wc,rfl⟩
 subst hw2;clear HST HT1d HP1 d0;go_wp2_with fail;refine(HWD.o w2 g2 HP2.o).mono ?_;rintro _ w3⟨ht3,rfl⟩;have HT3:Hid (Tch NoB w w3):=HT2.o.go ht3;clear ht3 HP2 HT2 HWD;go_wp2_with fail;refine(HRC.o w3 HT3.o).mono ?_;rintro _ w4⟨rfl,lv',k1,k2,k3,k4⟩;have HK:Hid (JB w4 cb wj fl r bs lv'/\Xp base w4 lv' (lg++recB [71] (XR wj outs))/\Tch (λk=>k=cb\/some k=lv.ownBlock) w3 w4/\Jm w3 lv.ownBlock lv'.ownBlock):=⟨k1,k2,k3,k4⟩
 clear k1 k2 k3 k4 HRC;go_wp2;go_ret;refine⟨rfl,lv',HK.o.1,HK.o.2.1,(HT3.o.mono noE).trans HK.o.2.2.1 (λj hj=>.inl hj),?_⟩
 rcases HK.o.2.2.2 with h|⟨k,h,hk⟩
 ·exact .inl h
 ·exact .inr ⟨k,h,Qm HT3.o.size hk⟩

theorem JiZ(wj:Nat)(w:World):Calls prog 127 #[.int .i64 (wj:Int)] w λe w'=>e=.returned (.agg #[.int .i64 (wj:Int),.pointer none])/\Tch NoB w w':=by
 go_enter func127,ntmps127;go_wp2;exact QJ (v:=.agg #[.int .i64 (wj:Int),.pointer none]) (Qq results127 _ _ w.heap.size _ _ (0,0) _ rfl (Qf _ _) underlying146 rfl (by kernel_rfl)) rfl ⟨rfl,Ta _ _ _⟩
theorem Jjr(W:World):(Instr.makeMap 141 none).run prog W=.ok (.map (some W.heap.size)) (W.alloc (.map #[] 0)):=by
 simp[Instr.makeMap,Result.andThen]
theorem outsB?_ok{outs:List (Nat×Nat)}(ho:∀o∈outs,Jy o)(h1:1<=outs.length)(h3:outs.length<=3):outsB? outs=some (XE outs):=by
 unfold outsB?;rw[(Jdx 1 3 outs ho h1 h3 (by omega)).wr];rfl
def JdP(n:Nat):BA:=⟨(List.replicate n (0:UInt8)).toArray⟩
def YY(wj:Nat)(outs:List (Nat×Nat))(st:Option Tr):HdL:=(0,JdP wj,dgW wj (71::XE outs),JV (dgW wj) st)
def Jm6(wj base:Nat)(outs:List (Nat×Nat))(st:Option Tr)(w:World)(e:Ending)(w':World):Prop:=
 Tch NoB w w'/\∃cb r q lv,e=.returned (.tuple #[.pointer (some ⟨cb,0,none⟩),.nilIface])/\w.heap.size<=cb/\w.heap.size<=r/\JB w' cb wj 0 r [(⟨(hdrB (YY wj outs st)).toArray⟩,wj,q)] lv/\StAt (dgW wj) (λj=>w.heap.size<=j) w' q st/\StOk wj st/\Xp base w' lv (recB [71] (XR wj outs))/\∀k,lv.ownBlock=some k->w.heap.size<=k
theorem JiP(E:Nat->Addr)(wj:Nat)(hw1:1<=wj)(hw:wj<=32)(v:Value)(outs:List (Nat×Nat))(ho:∀o∈outs,Jy o)(h1:1<=outs.length)(h3:outs.length<=3)(w:World)(hE:Env E w)(hv:Jq w.heap.size w v outs)(base:Nat)(hbase:base<=w.heap.size)(st:Option Tr)(hrec:JX (dgW wj (71::XE outs)) 0 outs none=.ok st):
  Calls prog 72 #[.int .i64 (wj:Int),v] w λe w'=>Jm6 wj base outs st w e w':=by
 obtain⟨ia,ic,hvs⟩:=hv.shape;subst hvs;obtain⟨id,hid⟩:∃id,id=dgW wj (71::XE outs):=⟨_,rfl⟩
 have hids:id.size=wj:=by rw[hid];exact Jz wj hw _
 obtain⟨hd,hhd⟩:∃hd:BA,hd=⟨(hdrB (YY wj outs st)).toArray⟩:=⟨_,rfl⟩
 obtain⟨zs,hzs⟩:∃zs,zs=JdP wj:=⟨_,rfl⟩
 obtain⟨sd,hsd⟩:∃sd,sd=JV (dgW wj) st:=⟨_,rfl⟩
 have HE:Hid (Env E w):=hE;have HV:Hid _:=hv;have HCW:Hid (Calls prog 124 #[.int .i64 (wj:Int)] w λe w'=>e=.returned .nilIface/\w=w'):=ZI wj w hw1 hw;have HID:Hid (Calls prog 125 #[.int .i64 (wj:Int),.slice ia outs.length ic] w λe w'=>Tch NoB w w'/\e=.returned (.tuple #[.string id,.nilIface])):=by have:=Jgb E wj hw1 hw _ outs w hE hv (by omega) (λx hx=>(ho x hx).2);rw[outsB?_ok ho h1 h3]at this;rw[hid];exact this
 have HRV:Hid (∀W,Tch NoB w W->Calls prog 126 #[.agg #[.int .i64 (wj:Int),.pointer none],.string id,.slice ia outs.length ic] W λe w'=>Tch NoB W w'/\∃(q:Option Nat)(rv:Option Addr),Jh q=.pointer rv/\e=.returned (.tuple #[.agg #[.int .i64 (wj:Int),.pointer rv],.nilIface])/\StAt (dgW wj) (λj=>w.heap.size<=j) w' q st/\StOk wj st):=λW hT=>by
  have:=Jcv E wj hw1 hw (λj=>w.heap.size<=j) none none id hids _ outs ho h3 W (hE.tch hT noE) (λj hj=>Qm hT.size hj) ((hv.tch hT noE).up hT.size) trivial trivial;rw[hid,hrec,<-hid]at this;refine this.mono λe w' k=>⟨k.1,?_⟩
  obtain⟨q,k1,k2,k3⟩:=k.2;exact⟨q,_,rfl,k1,k2,k3⟩
 have HRP:Hid (∀W,Calls prog 128 #[.string ⟨#[0]⟩,.int .i64 (wj:Int)] W λe w'=>e=.returned (.string zs)/\Tch NoB W w'):=λW=>by rw[hzs];exact JhG wj hw1 hw W
 have HDG:Hid (∀W q,Tch NoB w W->StAt (dgW wj) (λj=>w.heap.size<=j) W q st->Calls prog 83 #[Jv wj q] W λe w'=>e=.returned (.string sd)/\Tch NoB W w'):=λW q hT k=>by rw[hsd];exact Zw E wj hw1 hw _ q st W (hE.tch hT noE) k
 have HHB:Hid (∀W,Tch NoB w W->Calls prog 84 #[.int .i64 (wj:Int),.agg #[.int .u64 0,.string zs,.string id,.string sd]] W λe w'=>e=.returned (.tuple #[.string hd,.nilIface])/\Tch NoB W w'):=λW hT=>by
  have:=Jap E wj (by omega) 0 zs id sd W (hE.tch hT noE);refine this.mono λe w' k=>?_;obtain⟨k1,k2⟩:=k;have hz:zs.size=wj:=by rw[hzs];unfold JdP;rw[JA,List.length_replicate]
  rw[JkZ ⟨by show 0<2 ^ 32;omega,hz,hids,by show sd.size=wj;rw[hsd];exact Yq _ wj (Jz wj hw) st⟩]at k2;rw[hhd];unfold YY;rw[<-hzs,<-hid,<-hsd];exact⟨k2,k1⟩
 have HRS:Hid (∀W cb r q,Tch NoB w W->JB W cb wj 0 r [(hd,wj,q)] (.slice none 0 0)->Calls prog 129 #[.pointer (some ⟨cb,0,none⟩),.slice ia outs.length ic] W λe w'=>e=.returned .nilIface/\∃lv',JB w' cb wj 0 r [(hd,wj,q)] lv'/\Xp base w' lv' (recB [71] (XR wj outs))/\Tch (λk=>k=cb) W w'/\(∀k,lv'.ownBlock=some k->W.heap.size<=k)):=λW cb r q hT hR=>by
  refine(JcE E (hE.tch hT noE) hw hR base (Qm hbase hT.size) [] ⟨Bs.nil _ _,λk hk=>by cases hk⟩ (by simp) _ outs ho h1 h3 ((hv.tch hT noE).up hT.size)).mono ?_;rintro e w'⟨k0,lv',k1,k2,k3,k4⟩;refine⟨k0,lv',k1,k2,k3.mono (λj hj=>?_),λk hk=>?_⟩
  ·rcases hj with h|h
   ·exact .inl h
   ·cases h
  ·rcases k4 with h|⟨j,h,hj⟩
   ·rw[hk]at h;cases h
   ·rw[hk]at h;cases h;exact hj
 have hmk:=Jjr;unfold Jm6;rw[<-hhd];clear hE hv hrec hid hhd hzs hsd hids ho h1 h3 hbase;go_enter func72,ntmps72;go_wp2_with fail;refine HCW.o.mono ?_;rintro _ _⟨rfl,rfl⟩;go_wp2_with fail;refine HID.o.mono ?_;rintro _ w1⟨ht1,rfl⟩;have HT1:Hid _:=ht1;clear ht1 HID HCW;go_wp2_with fail;refine(JiZ wj w1).mono ?_;rintro _ w2⟨rfl,ht2⟩;have HT2:Hid (Tch NoB w w2):=HT1.o.go ht2;clear ht2 HT1;go_wp2_with fail;refine(HRV.o w2 HT2.o).mono ?_;rintro _ w3⟨ht3,q,rv,hq,rfl,hs3,hk3⟩;have hA:=Ta NoB w3 (.cells #[.int .i64 (wj:Int),.pointer rv] 146);obtain⟨w4,hw4⟩:∃w4,w4=w3.alloc (.cells #[.int .i64 (wj:Int),.pointer rv] 146):=⟨_,rfl⟩
 obtain⟨k4,hk4⟩:∃k4,k4=w3.heap.size:=⟨_,rfl⟩
 have HT4:Hid (Tch NoB w w4):=by rw[hw4];exact(HT2.o.go ht3).go hA
 have HS4:Hid (StAt (dgW wj) (λj=>w.heap.size<=j) w4 q st/\StOk wj st):=by rw[hw4];exact⟨hs3.next hA,hk3⟩
 have hr4:w4.heap[k4]? =some (.cells #[.int .i64 (wj:Int),.pointer rv] 146):=by rw[hw4,hk4];exact Qf _ _
 have HQ:Hid _:=hq;go_upto_region 8 with fail;rw[<-hw4,<-hk4];have s0:w4.cell? ⟨k4,0,none⟩=some (.int .i64 (wj:Int)):=Ja hr4;have s1:w4.cell? ⟨k4,1,none⟩=some (.pointer rv):=Ja hr4;have hz4:k4<w4.heap.size:=(Jb hr4)
 have HR4:Hid _:=hr4;have HDI:Hid (∀W,Tch NoB w4 W->Calls prog 83 #[.agg #[.int .i64 (wj:Int),.pointer rv]] W λe w'=>e=.returned (.string sd)/\Tch NoB W w'):=λW hT=>by
  have:=HDG.o W q (HT4.o.go hT) (HS4.o.1.next hT);unfold Jv at this;rw[HQ.o]at this;exact this
 have HT44:Hid (Tch NoB w4 w4.drew):=Td _ w4 1;have HCE:Hid (∀W,Tch NoB w4 W->W.cell? ⟨k4,0,none⟩=some (.int .i64 (wj:Int))/\W.cell? ⟨k4,1,none⟩=some (.pointer rv)):=λW hT=>⟨(hT.cell (p:=⟨k4,0,none⟩) hz4 (λh=>h)).trans s0,(hT.cell (p:=⟨k4,1,none⟩) hz4 (λh=>h)).trans s1⟩
 clear hA hw4 hk4 hs3 hk3 hq ht3 hr4 HDG HRV HT2;go_upto_region 10 with fail;go_cut [10,8] (λvh ve wx=>vh=.string hd/\ve=.nilIface/\Hid (Tch NoB w4 wx))
 case first=>
  go_region_held3 (λW=>W.cell? ⟨k4,0,none⟩=some (.int .i64 (wj:Int))/\W.cell? ⟨k4,1,none⟩=some (.pointer rv)) (go_keep) ((first|(go_at_call 128;refine(HRP.o _).mono ?_;rintro _ wA⟨rfl,htA⟩;have HTA:Hid (Tch NoB w4 wA):=(by first|exact HT44.o.go htA|exact HTB.o.go htA);obtain⟨xa0,xa1⟩:=HCE.o wA HTA.o;clear htA)|(go_at_call 83;refine(HDI.o _ (by first|exact HT44.o|exact HTA.o)).mono ?_;rintro _ wB⟨rfl,htB⟩;have HTB:Hid (Tch NoB w4 wB):=(by first|exact HT44.o.go htB|exact HTA.o.go htB);obtain⟨xb0,xb1⟩:=HCE.o wB HTB.o;clear htB)|(go_at_call 84;refine(HHB.o _ (HT4.o.go (by first|exact HTA.o|exact HTB.o))).mono ?_;rintro _ wC⟨rfl,htC⟩;have HTC:Hid (Tch NoB w4 wC):=(by first|exact HTA.o.go htC|exact HTB.o.go htC);obtain⟨xc0,xc1⟩:=HCE.o wC HTC.o;clear htC)))
  all_goals go_wp2;go_meet;exact⟨rfl,rfl,HTC⟩
 case rest=>
 obtain⟨rfl,rfl,HT45⟩:=hcut;obtain⟨w5,hw5⟩:∃w5,w5=wc:=⟨wc,rfl⟩
 subst hw5;have HM5:Hid (Tch NoB w4 (w5.alloc (.map #[] 0))):=HT45.o.go (Ta _ _ _);obtain⟨m0,m1⟩:=HCE.o _ HM5.o;have hmz:(w5.alloc (.map #[] 0)).heap[w5.heap.size]? =some (.map (Ju 0 []).toArray ([]:List BV).length):=Qf _ _;have hins:=Jdm hmz (hd,wj,q);unfold bV at hins;rw[HQ.o]at hins;have hins':(Instr.mapUpdate 141 (.map (some w5.heap.size)) (.int .i64 0) (.agg #[.string hd,.int .i64 (wj:Int),.pointer rv])).run prog (w5.alloc (.map #[] 0))=.ok () ((w5.alloc (.map #[] 0)).setBlocks w5.heap.size [(hd,wj,q)]):=hins;have HMZ:Hid _:=hmz;clear hins hmz HRP HHB HDI HT44 s0 s1;go_upto_region 14 with fail;obtain⟨r,hr⟩:∃r,r=w5.heap.size:=⟨_,rfl⟩
 obtain⟨w6,hw6⟩:∃w6,w6=(w5.alloc (.map #[] 0)).setBlocks w5.heap.size [(hd,wj,q)]:=⟨_,rfl⟩
 obtain⟨cb,hcb⟩:∃cb,cb=w6.heap.size:=⟨_,rfl⟩
 obtain⟨w7,hw7⟩:∃w7,w7=w6.alloc (.cells #[.int .i64 (wj:Int),.int .i64 0,.map (some r),.slice none 0 0] 143):=⟨_,rfl⟩
 have hw45:=HT45.o.size;have hw4:=HT4.o.size;have t6:Tch NoB w4 w6:=by rw[hw6];exact HM5.o.trans (Tch.setBlocks _ _ _) (λj hj=>.inr (by omega))
 have t67:Tch NoB w6 w7:=by rw[hw7];exact Ta _ _ _
 have hR7:JB w7 cb wj 0 r [(hd,wj,q)] (.slice none 0 0):=by
  refine⟨by rw[hw7,hcb];exact Qf _ _,?_⟩;have h6:w6.heap[r]? =some (.map (Ju 0 [(hd,wj,q)]).toArray [(hd,wj,q)].length):=by rw[hw6,hr];exact Zt HMZ.o _
  exact(t67.block r (Jb h6) (λh=>h)).trans h6
 have HT7:Hid (Tch NoB w w7):=(HT4.o.go t6).go t67;have HR7:Hid _:=hR7;have HS7:Hid (StAt (dgW wj) (λj=>w.heap.size<=j) w7 q st/\StOk wj st):=⟨(HS4.o.1.next t6).next t67,HS4.o.2⟩
 have HCR:Hid (w.heap.size<=cb/\w.heap.size<=r):=⟨by rw[hcb];exact Qm hw4 t6.size,by rw[hr];exact Qm hw4 hw45⟩
 rw[<-hr]at hw6 ⊢;rw[<-hw6,<-hcb,<-hw7];clear hr hw6 hcb hw7 hw45 hw4 t6 t67 hR7 HMZ HM5 HT45 hins' m0 m1 hmk HS4 HT4 HCE HR4;go_wp2_with fail;refine(HRS.o w7 cb r q HT7.o HR7.o).mono ?_;rintro _ w8⟨rfl,lv',k1,k2,k3,k4⟩;have HK:Hid (JB w8 cb wj 0 r [(hd,wj,q)] lv'/\Xp base w8 lv' (recB [71] (XR wj outs))/\Tch (λk=>k=cb) w7 w8/\(∀k,lv'.ownBlock=some k->w7.heap.size<=k)):=⟨k1,k2,k3,k4⟩
 clear k1 k2 k3 k4 HRS;go_wp2;go_ret2;obtain⟨k1,k2,k3,k4⟩:=HK.o;have hst:=HS7.o.1.refine (G:=λj=>w.heap.size<=j/\¬j=cb) (λj hj hc=>⟨hj,λe=>(by obtain⟨c,hc⟩:=hc;subst e;rw[HR7.o.row]at hc;simp at hc)⟩);exact⟨HT7.o.trans k3 (λj hj=>.inr (by have:=HCR.o;omega)),cb,r,q,lv',rfl,HCR.o.1,HCR.o.2,k1,(hst.tch k3 (λj hS hG=>hG.2 hS)).mono (λj h=>h.1),HS7.o.2,k2,λk hk=>Qm HT7.o.size (k4 k hk)⟩

theorem Jb3(bs:List BV):∀(i k:Nat),(Ju i bs)[k]? =(bs[k]?).map λb=>⟨.int .i64 ((i+k:Nat):Int),bV b,i+k⟩:=by
 induction bs with
 | nil=>intro i k;simp[Ju]
 | cons b r ih=>
  intro i k
  cases k with
  | zero=>simp[Ju]
  | succ k=>
   rw[Ju,List.getElem?_cons_succ,ih,List.getElem?_cons_succ];have e:i+1+k=i+(k+1):=(by omega);rw[e]
theorem Je1(bs:List BV)(b:BV):∀(i k:Nat),k<bs.length->Ju i (bs.set k b)=(Ju i bs).modify k λe=>{ e with key:=.int .i64 ((i+k:Nat):Int),val:=bV b }:=by
 induction bs with
 | nil=>intro i k h;simp at h
 | cons x r ih=>
  intro i k h
  cases k with
  | zero=>simp[Ju]
  | succ k=>
   rw[Qc,Ju,ih (i+1) k (by simpa using h),Ju];have e:i+1+k=i+(k+1):=(by omega);rw[e];rfl
theorem JjF(h:w.heap[r]? =some (.map (Ju 0 bs).toArray bs.length))(k:Nat)(hk:k<bs.length)(b:BV):
  (Instr.mapUpdate 141 (.map (some r)) (.int .i64 (k:Int)) (bV b)).run prog w=.ok () (w.setBlocks r (bs.set k b)):=by
 have h1:=Zg bs 0 0 (k:Int);rw[if_pos (by omega)]at h1;obtain⟨x,hx⟩:∃x,bs[k]? =some x:=⟨_,Qd hk⟩
 simp only[Int.toNat_natCast,Nat.sub_zero,Nat.zero_add,hx,Option.map_some]at h1;have hkey:Go.MapKept.IsKey (.int .i64) (.int .i64 (k:Int)):=by simp[Go.MapKept.IsKey]
 have h2:(Ju 0 bs)[k]? =some ⟨.int .i64 (k:Int),bV x,k⟩:=by rw[Jb3,hx];simp
 simp[Instr.mapUpdate,run_underlying JiE,Go.MapKept.run_getObj_map h,Go.MapKept.run_checkKey (d:=.int .i64) Jcz hkey,Go.MapKept.run_findKey Jcz h1,h2,Go.MapKept.run_keyThatStays hkey,Go.MapKept.run_setObj_map _ h,Result.andThen,World.setBlocks,Je1 bs b 0 k hk]
theorem JkT(E:Nat->Addr)(b:Nat)(wj:Nat)(n:Nat)(hn:n<2 ^ 31)(w:World)(hp:Jc w b none (wj:Int) .nilIface (.wr [])):
  Calls prog 157 #[.pointer (some ⟨b,0,none⟩),.int .i64 (n:Int)] w λe w'=>e=.returned (.int .i64 (n:Int))/\StTo E w w' b none (wj:Int) (some (.wr (beL n 4 4))):=by
 have hnum:(PS.wr []).num n 4=some (n,.wr (beL n 4 4)):=by simp only[PS.num];rw[if_pos (by omega)];rfl
 have HN:Hid (Calls prog 138 #[.pointer (some ⟨b,0,none⟩),.int .u64 (n:Int),.int .i64 4] w λe w'=>e=.returned (.int .u64 (n:Int))/\StTo E w w' b none (wj:Int) (some (.wr (beL n 4 4)))):=Xs b none wj n 4 n (.wr []) _ w hp (by omega) (by simp[PS.len]) hnum;have hu:IntKind.u64.wrap (n:Int)=(n:Int):=JI _ (by omega) (by omega);have hi:IntKind.i64.wrap (n:Int)=(n:Int):=by simp[IntKind.wrap,IntKind.bits,IntKind.signed];omega
 clear hp hnum;go_enter func157,ntmps157;go_wp2_with fail;refine HN.o.mono ?_;rintro _ w1⟨rfl,h⟩;have H:Hid _:=h;clear h HN;go_wp2;go_ret;exact⟨rfl,H.out⟩
theorem JcD(E:Nat->Addr)(hE:Env E w)(h:JB w cb wj fl r bs lv)(base:Nat)(hbase:base<=w.heap.size)(lg:List UInt8)(hl:Xp base w lv lg)(hll:lg.length<=140737488000000)(n:Nat)(hn:n<2 ^ 31):
  Calls prog 97 #[.pointer (some ⟨cb,0,none⟩),.int .i64 (n:Int)] w λe w'=>e=.returned .nilIface/\∃lv',JB w' cb wj fl r bs lv'/\Xp base w' lv' (lg++recB [80] (beL n 4 4))/\Tch (λk=>k=cb\/some k=lv.ownBlock) w w'/\Jm w lv.ownBlock lv'.ownBlock:=by
 have hcb:=(Jb h.row)
 have c0:w.cell? ⟨cb,0,none⟩=some (.int .i64 (wj:Int)):=Ja h.row;obtain⟨sb,hsb⟩:∃sb:BA,sb=⟨(beL n 4 4).toArray⟩:=⟨_,rfl⟩
 have HST:Hid (∀W,Jc W w.heap.size none (wj:Int) .nilIface (.wr [])->Calls prog 157 #[.pointer (some ⟨w.heap.size,0,none⟩),.int .i64 (n:Int)] W λe w'=>e=.returned (.int .i64 (n:Int))/\StTo E W w' w.heap.size none (wj:Int) (some (.wr (beL n 4 4)))):=λW hp=>JkT E w.heap.size wj n hn W hp;have HWD:Hid (∀W g,Ji E W w.heap.size g (wj:Int) (some (.wr (beL n 4 4)))->Calls prog 79 #[.pointer (some ⟨w.heap.size,0,none⟩)] W λe w'=>Tch NoB W w'/\e=.returned (.tuple #[.string sb,.nilIface])):=λW g hp=>by
  rw[hsb];exact JaL E w.heap.size g wj (some (.wr (beL n 4 4))) (λp hp=>⟨_,(Option.some.inj hp).symm⟩) W hp
 have HRC:Hid (∀W,Tch NoB w W->Calls prog 89 #[.pointer (some ⟨cb,0,none⟩),.string ⟨#[80]⟩,.string sb] W λe w'=>e=.returned .nilIface/\∃lv',JB w' cb wj fl r bs lv'/\Xp base w' lv' (lg++recB [80] (beL n 4 4))/\Tch (λk=>k=cb\/some k=lv.ownBlock) W w'/\Jm W lv.ownBlock lv'.ownBlock):=λW hT=>by
  have:=Jbi E (hE.tch hT noE) (h.next hT) base (Qm hbase hT.size) lg (hl.next hT) hll ⟨#[80]⟩ sb rfl (by rw[hsb,JA,Jf];omega);have e:sb.data.toList=beL n 4 4:=by rw[hsb]
  rw[e]at this;exact this
 clear hE h hbase hl hll hsb hn hcb;go_enter func97,ntmps97;go_wp2_with fail;refine(Xf _ _).mono ?_;rintro _ w1⟨rfl,hp1,ht1⟩;have HT1:Hid _:=ht1;have HP1:Hid _:=hp1;clear ht1 hp1 c0;go_wp2_with fail;refine(HST.o w1 HP1.o).mono ?_;rintro _ w2⟨rfl,g2,hp2,hm2,ht2⟩;have HT2:Hid (Tch NoB w w2):=XH (b:=w.heap.size) (Ql _) HT1.o ht2;have HP2:Hid _:=hp2;clear hp2 hm2 ht2 HST HT1 HP1;go_wp2_with fail;refine(HWD.o w2 g2 HP2.o).mono ?_;rintro _ w3⟨ht3,rfl⟩;have HT3:Hid (Tch NoB w w3):=HT2.o.go ht3;clear ht3 HP2 HT2 HWD;go_wp2_with fail;refine(HRC.o w3 HT3.o).mono ?_;rintro _ w4⟨rfl,lv',k1,k2,k3,k4⟩;have HK:Hid (JB w4 cb wj fl r bs lv'/\Xp base w4 lv' (lg++recB [80] (beL n 4 4))/\Tch (λk=>k=cb\/some k=lv.ownBlock) w3 w4/\Jm w3 lv.ownBlock lv'.ownBlock):=⟨k1,k2,k3,k4⟩
 clear k1 k2 k3 k4 HRC;go_wp2;go_ret;refine⟨rfl,lv',HK.o.1,HK.o.2.1,(HT3.o.mono noE).trans HK.o.2.2.1 (λj hj=>.inl hj),?_⟩
 rcases HK.o.2.2.2 with h|⟨k,h,hk⟩
 ·exact .inl h
 ·exact .inr ⟨k,h,Qm HT3.o.size hk⟩

def Prn(fl f:Nat)(bs bs':List BV):Prop:=∀k:Nat,bs'[k]? =if fl<=k/\k<f then (bs[k]?).map (λb=>(b.1,0,none)) else bs[k]?
theorem Prn.length(h:Prn fl f bs bs'):bs'.length=bs.length:=by
 have h1:∀k,bs'[k]? =none↔bs[k]? =none:=λk=>by
  rw[h k];cases bs[k]?<;>split<;>simp
 have a:=h1 bs.length;have b:=h1 bs'.length;simp only[List.getElem?_eq_none_iff]at a b;omega
theorem Prn.start(fl:Nat)(bs:List BV):Prn fl fl bs bs:=λk=>by rw[if_neg (by omega)]
theorem Prn.step(h:Prn fl f bs bs')(hf:fl<=f)(b:BV)(hb:bs'[f]? =some b):Prn fl (f+1) bs (bs'.set f (b.1,0,none)):=λk=>by
 have hl:=(Qo.1 hb).1
 by_cases e:k=f
 ·subst e;have:=h k;rw[if_neg (by omega),hb]at this;rw[List.getElem?_set_self hl,if_pos (by omega),<-this];rfl
 ·rw[List.getElem?_set_ne (λx=>e x.symm),h k]
  by_cases c:fl<=k/\k<f
  ·rw[if_pos c,if_pos (by omega)]
  ·rw[if_neg c,if_neg (by omega)]
theorem JB.set{w':World}(h:JB w cb wj fl r bs v)(bs':List BV)(hw:w'=w.setBlocks r bs'):JB w' cb wj fl r bs' v:=by
 subst hw;have hne:¬cb=r:=λe=>by have:=h.row;rw[e,h.map]at this;cases this
 exact⟨((Tch.setBlocks w r bs').block cb (Jb h.row) hne).trans h.row,Zt h.map _⟩
theorem JB.up(h:JB w cb wj fl r bs v)(f:Nat):JB (w.setCell ⟨cb,1,none⟩ (.int .i64 (f:Int))) cb wj f r bs v/\Tch (λk=>k=cb) w (w.setCell ⟨cb,1,none⟩ (.int .i64 (f:Int))):=by
 have hne:¬r=cb:=λe=>by have:=h.row;rw[<-e,h.map]at this;cases this
 have e:=Qj w cb 1 _ _ _ (.int .i64 (f:Int)) h.row;rw[e];have t:=Ts w cb (#[.int .i64 (wj:Int),.int .i64 (fl:Int),.map (some r),v].setIfInBounds 1 (.int .i64 (f:Int)));exact⟨⟨Qi _ _ _ _ _ _ h.row,(t.block r (Jb h.map) hne).trans h.map⟩,t⟩
theorem Jha(E:Nat->Addr)(hE:Env E w)(h:JB w cb wj fl r bs lv)(base:Nat)(hbase:base<=w.heap.size)(lg:List UInt8)(hl:Xp base w lv lg)(hll:lg.length<=140737488000000)(n:Nat)(hf:fl<=n)(hn:n<bs.length)(hb:bs.length<2 ^ 31):
  Calls prog 56 #[.pointer (some ⟨cb,0,none⟩),.int .i64 (n:Int)] w λe w'=>e=.returned .nilIface/\∃lv' bs',Prn fl n bs bs'/\JB w' cb wj n r bs' lv'/\Xp base w' lv' (lg++recB [80] (beL n 4 4))/\Tch (λk=>k=cb\/k=r\/some k=lv.ownBlock) w w'/\Jm w lv.ownBlock lv'.ownBlock:=by
 obtain⟨b0,hb0⟩:∃b0,bs[n]? =some b0:=⟨_,Qd hn⟩
 have HSA:Hid (Calls prog 92 #[.pointer (some ⟨cb,0,none⟩),.int .i64 (n:Int)] w λe w'=>e=.returned (.tuple #[Jv b0.2.1 b0.2.2,.nilIface])/\Tch NoB w w'):=Jbl h n b0 hb0 hf;obtain⟨tn,rv,hrv⟩:∃(tn:Int)(rv:Option Addr),Jv b0.2.1 b0.2.2=.agg #[.int .i64 tn,.pointer rv]:=⟨_,_,rfl⟩
 rw[hrv]at HSA;have HRF:Hid (∀W,Tch NoB w W->Calls prog 97 #[.pointer (some ⟨cb,0,none⟩),.int .i64 (n:Int)] W λe w'=>e=.returned .nilIface/\∃lv',JB w' cb wj fl r bs lv'/\Xp base w' lv' (lg++recB [80] (beL n 4 4))/\Tch (λk=>k=cb\/some k=lv.ownBlock) W w'/\Jm W lv.ownBlock lv'.ownBlock):=λW hT=>JcD E (hE.tch hT noE) (h.next hT) base (Qm hbase hT.size) lg (hl.next hT) hll n (by omega);have HB:Hid (fl<=n/\n<bs.length/\bs.length<2 ^ 31):=⟨hf,hn,hb⟩
 clear hE h hbase hl hll hb0 hrv hf hn hb;go_enter func56,ntmps56;go_wp2_with fail;refine HSA.o.mono ?_;rintro _ w1⟨rfl,ht1⟩;have HT1:Hid _:=ht1;clear ht1 HSA;go_wp2_with fail;refine(HRF.o _ (HT1.o.go (Ta _ _ _))).mono ?_;rintro _ w2⟨rfl,lv',k1,k2,k3,k4⟩;have HT2:Hid (Tch (λk=>k=cb\/some k=lv.ownBlock) w w2):=((HT1.o.go (Ta NoB w1 _)).mono noE).trans k3 (λj hj=>.inl hj);have HM2:Hid (Jm w lv.ownBlock lv'.ownBlock):=by
  rcases k4 with h|⟨k,h,hk⟩
  ·exact .inl h
  ·exact .inr ⟨k,h,Qm (HT1.o.go (Ta NoB w1 _)).size hk⟩
 have HL2:Hid _:=k2;have HR2:Hid _:=k1;clear k1 k2 k3 k4 HT1 HRF;go_upto_region 7 with fail;go_loopw [] (λwr=>∃(f:Nat)(bs':List BV),fl<=f/\f<=n/\Hid (Prn fl f bs bs')/\Hid (JB wr cb wj f r bs' lv')/\Hid (Tch (λk=>k=cb\/k=r) w2 wr)) (λwr=>n-(match wr.cell? ⟨cb,1,none⟩ with|some v=>(intOf v).toNat|none=>0))
 case atStart=>exact⟨fl,bs,Ql _,HB.o.1,Prn.start _ _,HR2.o,Te _ _⟩
 case round=>
  obtain⟨f,bs',hlf,hfn,HP,HR,HT⟩:=hrel;have c1:wr.cell? ⟨cb,1,none⟩=some (.int .i64 (f:Int)):=Ja HR.o.row
  by_cases hgo:f<n
  ·have hgi:(f:Int)<(n:Int):=(by omega);have hfl:f<bs'.length:=(by have:=HB.o;rw[HP.o.length];omega);obtain⟨b,hbf⟩:∃b,bs'[f]? =some b:=⟨_,Qd hfl⟩
   have hD:Tch NoB wr wr.drew:=Td _ wr 1;have hRd:=HR.o.next hD;have d1:wr.drew.cell? ⟨cb,1,none⟩=some (.int .i64 (f:Int)):=Ja hRd.row;have d2:wr.drew.cell? ⟨cb,2,none⟩=some (.map (some r)):=Ja hRd.row;have hlk:=Jfe hRd.map f b hbf false;have hpu:=JjF hRd.map f hfl (b.1,0,none);have hRs:JB (wr.drew.setBlocks r (bs'.set f (b.1,0,none))) cb wj f r (bs'.set f (b.1,0,none)) lv':=hRd.set _ rfl;have s1:(wr.drew.setBlocks r (bs'.set f (b.1,0,none))).cell? ⟨cb,1,none⟩=some (.int .i64 (f:Int)):=Ja hRs.row;have s2:(wr.drew.setBlocks r (bs'.set f (b.1,0,none))).cell? ⟨cb,2,none⟩=some (.map (some r)):=Ja hRs.row;have sf:(wr.drew.setBlocks r (bs'.set f (b.1,0,none))).frozen? ⟨cb,1,none⟩=false:=Qg _ _ _ _ _ hRs.row;have HTs:Hid (Tch (λk=>k=cb\/k=r) w2 (wr.drew.setBlocks r (bs'.set f (b.1,0,none)))):=(HT.o.trans hD noE).trans (Tch.setBlocks _ _ _) (λj hj=>.inl (.inr hj));have HPs:Hid (Prn fl (f+1) bs (bs'.set f (b.1,0,none))):=HP.o.step hlf b hbf;have HRs:Hid _:=hRs;clear hD hRd hRs hbf hfl;obtain⟨bh,bu,bq⟩:=b;obtain⟨rv,hrv⟩:∃rv,Jh bq=.pointer rv:=⟨_,rfl⟩
   have hpu:(Instr.mapUpdate 141 (.map (some r)) (.int .i64 (f:Int)) (.agg #[.string bh,.int .i64 0,.pointer none])).run prog wr.drew=.ok () (wr.drew.setBlocks r (bs'.set f (bh,0,none))):=hpu;simp only[bV,hrv]at hlk;clear hrv;generalize bs'.set f (bh,0,none)=bs2 at *;have hfd:∀W,(Instr.field 148 (.agg #[.string bh,.int .i64 (bu:Int),.pointer rv]) 0).run prog W=.ok (.string bh) W:=λW=>by kernel_rfl
   go_upto_region 9 with fail;go_region_held3 (λW=>W.cell? ⟨cb,1,none⟩=some (.int .i64 (f:Int))/\W.cell? ⟨cb,2,none⟩=some (.map (some r))) (go_keep) (fail)
   all_goals go_wp2;have hwr:wrap64 ((f:Int)+1)=((f+1:Nat):Int):=(by have:=HB.o;unfold wrap64;omega);obtain⟨hR3,hT3⟩:=HRs.o.up (f+1);rw[<-hwr]at hR3 hT3;have c3:World.cell? _ ⟨cb,1,none⟩=some (.int .i64 ((f+1:Nat):Int)):=cell_of_row _ _ 1 _ _ _ hR3.row;rw[c3,c1];refine⟨⟨f+1,bs2,by omega,by omega,HPs.o,hR3,HTs.o.trans hT3 (λj hj=>.inl (.inl hj))⟩,?_⟩;simp only[intOf,Int.toNat_natCast];omega
  ·have hge:¬(f:Int)<(n:Int):=(by omega);have hfe:f=n:=(by omega);subst hfe;go_wp2;go_ret;have hne:=HL2.o.ne_row HR2.o;have tm:Tch (λk=>k=cb\/k=r\/some k=lv.ownBlock) w w2:=HT2.o.mono (λj hj=>.inl (hj.elim .inl (λh=>.inr (.inr h))));exact⟨rfl,lv',bs',HP.o,HR.o,HL2.o.tch HT.o (λj hj hS=>hS.elim (λh=>hne.1 (by rw[<-h];exact hj.symm)) (λh=>hne.2 (by rw[<-h];exact hj.symm))),tm.trans HT.o (λj hj=>.inl (hj.elim .inl (λh=>.inr (.inl h)))),HM2.o⟩
theorem JfV(E:Nat->Addr)(hE:Env E w)(h:JB w cb wj fl r bs lv)(k:Int)(hk:¬((fl:Int)<=k/\k<bs.length)):
  Calls prog 56 #[.pointer (some ⟨cb,0,none⟩),.int .i64 k] w λe w'=>NoTo E 5 w e w':=by
 have HS:Hid (Calls prog 92 #[.pointer (some ⟨cb,0,none⟩),.int .i64 k] w λe w'=>∃t u,e=.returned (.tuple #[.agg #[.int .i64 0,.pointer none],.iface t u])/\Jp E 5 w' (.iface t u)/\Tch NoB w w'):=JgZ E hE h k hk;clear hE h hk;go_enter func56,ntmps56;go_wp2_with fail;refine HS.o.mono ?_;rintro _ w1⟨t,u,rfl,he,ht⟩;have HT:Hid _:=ht;have HE:Hid _:=he;clear he ht HS;go_wp2_with fail;refine(Xl _ _ _ _).mono ?_;rintro _ _⟨rfl,rfl⟩;go_wp2;go_ret;have tA:=Ta NoB w1 (.cells #[.int .i64 0,.pointer none] 146);have tB:=Ta NoB (w1.alloc (.cells #[.int .i64 0,.pointer none] 146)) (.cells #[.string ⟨#[102,108,111,111,114]⟩,.iface t u] 237);have hp:=Qf (w1.alloc (.cells #[.int .i64 0,.pointer none] 146)) (.cells #[.string ⟨#[102,108,111,111,114]⟩,.iface t u] 237);rw[World.size_alloc]at hp;exact⟨(HT.o.go tA).go tB,_,_,rfl,.wrap _ ⟨#[102,108,111,111,114]⟩ (.iface t u) hp ((HE.o.tch tA (λ_ _ _ _ h=>h)).tch tB (λ_ _ _ _ h=>h))⟩
