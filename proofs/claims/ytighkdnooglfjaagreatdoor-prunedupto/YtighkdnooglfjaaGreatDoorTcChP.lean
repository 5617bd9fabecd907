import Derived.Test.YtighkdnooglfjaaGreatDoorTcChJ
import Derived.Test.YtighkdnooglfjaaGreatDoorTcKRow
namespace Go.Proofs.YtighkdnooglfjaaGreatDoor
open Tryz
set_option maxRecDepth 100000
set_option maxHeartbeats 4000000
open Go.RowKit

def XH (wd:Nat) (outs:List (Nat×Nat)):List UInt8:=beL wd 1 1++Xx outs
theorem Jkz (E:Nat->Addr) (b:Nat) (hb12:18<=b) (wd:Nat) (hw:wd<=32) (ia:Option Addr) (ic n:Nat) (outs:List (Nat×Nat)) (ho:∀o∈outs,Jq o) (h1:1<=outs.length) (h3:outs.length<=3) (w:World) (hE:Env E w) (hp:Jc w b none (wd:Int) .nilIface (.wr [])) (hv:Jo b w (.slice ia n ic) outs):
  Calls prog 198 #[.pointer (some ⟨b,0,none⟩),.agg #[.int .i64 (wd:Int),.slice ia n ic]] w λe w'=>(∃v0,e=.returned (.agg #[.int .i64 (wd:Int),v0]))/\StTo E w w' b none (wd:Int) (some (.wr (XH wd outs))):=by
 have hlt:=hp.lt
 have HR0:=Run.start hb12 hE (show Jg E w b none (wd:Int) (some (.wr [])) from hp) (Tch.allocs NoB w (.cells #[.int .i64 (wd:Int),.slice ia n ic] 333) (.cells #[.int .i64 0,.slice none 0 0] 333))
 have hnum:(PS.wr []).num wd 1=some (wd,.wr (beL wd 1 1)):=by simp only [PS.num];rw [if_pos (by omega)];rfl
 have HN:Hid (∀w1 g1,Jc w1 b g1 (wd:Int) .nilIface (.wr [])->Calls prog 138 #[.pointer (some ⟨b,0,none⟩),.int .u64 (wd:Int),.int .i64 1] w1 λe w'=>e=.returned (.int .u64 (wd:Int))/\StTo E w1 w' b g1 (wd:Int) (some (.wr (beL wd 1 1)))):=λw1 g1 h=>Xn b g1 wd wd 1 wd (.wr []) _ w1 h (by omega) (by simp [PS.len]) hnum
 have HF:Hid (∀w1 g1,Env E w1->Jc w1 b g1 (wd:Int) .nilIface (.wr (beL wd 1 1))->Jo b w1 (.slice ia n ic) outs->Calls prog 188 #[.pointer (some ⟨b,0,none⟩),.slice ia n ic] w1 λe w'=>∃gp,e=.returned (.slice (some ⟨gp,0,none⟩) outs.length outs.length)/\StTo E w1 w' b g1 (wd:Int) (some (.wr (XH wd outs)))):=λw1 g1 hE1 hp1 hv1=>by
  have hr:=(JcS 1 3 outs ho h1 h3 (by omega)).wr (beL wd 1 1)
  have:=JaM E b hb12 g1 wd _ outs (.wr (beL wd 1 1)) w1 hE1 hp1 hv1 (by omega) (Yv _ _) (λx hx=>(ho x hx).2) (by simp only [PS.len,Je];omega)
  rw [hr] at this
  refine this.mono λe w' k=>?_
  obtain ⟨gp,k1,_,_,g',k4,_,k6,k7⟩:=k
  exact ⟨gp,k1,g',k4,k6,k7⟩
 have hu:IntKind.u64.wrap (wd:Int)=(wd:Int):=Ju _ (by omega) (by omega)
 have hi:IntKind.i64.wrap (wd:Int)=(wd:Int):=JM _ (by omega) (by omega)
 have HV:Hid (Jo b w (.slice ia n ic) outs):=hv
 have RUN:Hid _:=HR0
 clear hE hp HR0 hnum hv ho h1 h3
 go_enter func198,ntmps198
 go_wp2_with fail
 refine (HN.o _ _ RUN.out.port).mono ?_
 rintro _ w1 ⟨rfl,h⟩
 obtain ⟨g1,R1⟩:=RUN.out.step h
 have bx1:=(R1.box (k:=w.heap.size) (Ql _) (heap_alloc2_old _ _ _)).1
 have c1:w1.cell? ⟨w.heap.size,1,none⟩=some (.slice ia n ic):=Ja bx1
 have RUN1:Hid _:=R1
 have HV1:Hid (Jo b w1 (.slice ia n ic) outs):=by
  obtain ⟨g',_,_,t1⟩:=R1.to
  exact HV.o.tch t1 (λj hj=>by rcases hj with h | h;omega;cases h)
 clear R1 bx1 h HN HV
 go_wp2_with fail
 refine (HF.o _ _ RUN1.out.env RUN1.out.port HV1.o).mono ?_
 rintro _ w4 ⟨gp,rfl,h⟩
 obtain ⟨g4,R4⟩:=RUN1.out.step h
 have rR:=(R4.box (k:=w.heap.size+1) (by omega) (heap_alloc2_new _ _ _)).1
 have e0:w4.cell? ⟨w.heap.size+1,0,none⟩=some (.int .i64 0):=Ja rR
 have e1:w4.cell? ⟨w.heap.size+1,1,none⟩=some (.slice none 0 0):=Ja rR
 have fR:∀j,w4.frozen? ⟨w.heap.size+1,j,none⟩=false:=λj=>Qg _ _ _ _ _ rR
 have RUN4:Hid _:=R4
 have RR:Hid (_=_):=rR
 clear R4 rR h HF c1
 go_wp2
 rw [Jl6 _ _ _ _ _ _ _ RR.out]
 exact QJ (v:=.agg #[.int .i64 (wd:Int),.slice (some ⟨gp,0,none⟩) outs.length outs.length]) (Qq results198 _ _ (w.heap.size+1) _ _ (0,0) _ rfl (Qi _ _ _ _ _ _ RR.out) underlying333 rfl (by kernel_rfl)) rfl ⟨⟨_,rfl⟩,RUN4.out.done (k:=w.heap.size+1) (by omega) (heap_alloc2_new _ _ _) (by decide)⟩
theorem Jcd (E:Nat->Addr) {w:World} (hE:Env E w) {cb wd fl r:Nat} (hw:wd<=32) {bs:List BV} {lv:Value} (h:Js w cb wd fl r bs lv) (base:Nat) (hbase:base<=w.heap.size) (lg:List UInt8) (hl:Xh base w lv lg) (hll:lg.length<=140737488000000) (v:Value) (outs:List (Nat×Nat)) (ho:∀o∈outs,Jq o) (h1:1<=outs.length) (h3:outs.length<=3) (hv:Jo w.heap.size w v outs):
  Calls prog 129 #[.pointer (some ⟨cb,0,none⟩),v] w λe w'=>e=.returned .nilIface/\∃lv',Js w' cb wd fl r bs lv'/\Xh base w' lv' (lg++recB [71] (XH wd outs))/\Tch (λk=>k=cb\/some k=lv.ownBlock) w w'/\Jm w lv.ownBlock lv'.ownBlock:=by
 have hsz:=hE.size
 have hcb:=(Jb h.row)
 have c0:w.cell? ⟨cb,0,none⟩=some (.int .i64 (wd:Int)):=Ja h.row
 obtain ⟨ia,ic,hvs⟩:=hv.shape
 subst hvs
 have hlen:(XH wd outs).length<=100:=by
  have:∀l:List (Nat×Nat),(l.flatMap outB).length=l.length * 9:=by
   intro l
   induction l with
   | nil=>rfl
   | cons x r ih=>rw [QG,Qe,ih];unfold outB;simp only [Qe,Je,Qp];omega
  unfold XH Xx
  rw [Qe,Qe,Je,Je,this]
  omega
 obtain ⟨sb,hsb⟩:∃sb:BA,sb=⟨(XH wd outs).toArray⟩:=⟨_,rfl⟩
 have HST:Hid (∀W,Tch NoB w W->Jc W w.heap.size none (wd:Int) .nilIface (.wr [])->Calls prog 198 #[.pointer (some ⟨w.heap.size,0,none⟩),.agg #[.int .i64 (wd:Int),.slice ia outs.length ic]] W λe w'=>(∃v0,e=.returned (.agg #[.int .i64 (wd:Int),v0]))/\StTo E W w' w.heap.size none (wd:Int) (some (.wr (XH wd outs)))):=λW hT hp=>
  Jkz E w.heap.size hsz wd hw ia ic outs.length outs ho h1 h3 W (hE.tch hT noE) hp (hv.tch hT noE)
 have HWD:Hid (∀W g,Jg E W w.heap.size g (wd:Int) (some (.wr (XH wd outs)))->Calls prog 79 #[.pointer (some ⟨w.heap.size,0,none⟩)] W λe w'=>Tch NoB W w'/\e=.returned (.tuple #[.string sb,.nilIface])):=λW g hp=>by
  rw [hsb];exact ZM E w.heap.size g wd (some (.wr (XH wd outs))) (λp hp=>⟨_,(Option.some.inj hp).symm⟩) W hp
 have HRC:Hid (∀W,Tch NoB w W->Calls prog 89 #[.pointer (some ⟨cb,0,none⟩),.string ⟨#[71]⟩,.string sb] W λe w'=>e=.returned .nilIface/\∃lv',Js w' cb wd fl r bs lv'/\Xh base w' lv' (lg++recB [71] (XH wd outs))/\Tch (λk=>k=cb\/some k=lv.ownBlock) W w'/\Jm W lv.ownBlock lv'.ownBlock):=λW hT=>by
  have:=JaY E (hE.tch hT noE) (h.next hT) base (Qm hbase hT.size) lg (hl.next hT) hll ⟨#[71]⟩ sb rfl (by rw [hsb,JA];omega)
  have e:sb.data.toList=XH wd outs:=by rw [hsb]
  rw [e] at this
  exact this
 clear hE h hbase hl hll ho h1 h3 hv hlen hsb
 go_enter func129,ntmps129
 go_wp2_with fail
 refine (JY _ _).mono ?_
 rintro _ w1 ⟨rfl,hp1,ht1⟩
 have HT1:Hid _:=ht1
 have HT1d:Hid (Tch NoB w w1.drew):=ht1.dr 1
 have HP1:Hid (Jc w1.drew w.heap.size none (wd:Int) .nilIface (.wr [])):=hp1.tch (Td NoB w1 1) (λh=>h) (λ_ _ h=>h)
 have d0:w1.cell? ⟨cb,0,none⟩=some (.int .i64 (wd:Int)):=(ht1.cell (p:=⟨cb,0,none⟩) hcb (λh=>h)).trans c0
 have hcb1:cb<w1.heap.size:=Qk hcb ht1.size
 clear ht1 hp1 c0
 go_upto_region 2 with fail
 go_cut [] (λwx=>∃g2,Hid (Jg E wx w.heap.size g2 (wd:Int) (some (.wr (XH wd outs))))/\Hid (Tch NoB w wx))
 case first=>
  go_region_held3 (λW=>W.cell? ⟨cb,0,none⟩=some (.int .i64 (wd:Int))) (go_keep) ((go_at_call 198;refine (HST.o w1.drew HT1d.o HP1.o).mono ?_;rintro _ w2 ⟨⟨v0,rfl⟩,g2,hp2,hm2,ht2⟩;have hT2:Tch NoB w w2:=XA (b:=w.heap.size) (Ql _) HT1d.o ht2;have e0:w2.cell? ⟨cb,0,none⟩=some (.int .i64 (wd:Int)):=(ht2.cell (p:=⟨cb,0,none⟩) hcb1 (λe=>by rcases e with e | e;simp only at e;omega;cases e)).trans d0;have HT2:Hid _:=hT2;have HP2:Hid _:=hp2;clear hp2 hm2 ht2 hT2))
  all_goals
   go_wp2
   go_meet
   exact ⟨g2,HP2,HT2⟩
 case rest=>
 obtain ⟨g2,HP2,HT2⟩:=hcut
 obtain ⟨w2,hw2⟩:∃w2,w2=wc:=⟨wc,rfl⟩
 subst hw2
 clear HST HT1d HP1 d0
 go_wp2_with fail
 refine (HWD.o w2 g2 HP2.o).mono ?_
 rintro _ w3 ⟨ht3,rfl⟩
 have HT3:Hid (Tch NoB w w3):=HT2.o.go ht3
 clear ht3 HP2 HT2 HWD
 go_wp2_with fail
 refine (HRC.o w3 HT3.o).mono ?_
 rintro _ w4 ⟨rfl,lv',k1,k2,k3,k4⟩
 have HK:Hid (Js w4 cb wd fl r bs lv'/\Xh base w4 lv' (lg++recB [71] (XH wd outs))/\Tch (λk=>k=cb\/some k=lv.ownBlock) w3 w4/\Jm w3 lv.ownBlock lv'.ownBlock):=⟨k1,k2,k3,k4⟩
 clear k1 k2 k3 k4 HRC
 go_wp2
 go_ret
 refine ⟨rfl,lv',HK.o.1,HK.o.2.1,(HT3.o.mono noE).trans HK.o.2.2.1 (λj hj=>.inl hj),?_⟩
 rcases HK.o.2.2.2 with h | ⟨k,h,hk⟩
 ·exact .inl h
 ·exact .inr ⟨k,h,Qm HT3.o.size hk⟩

theorem JhS (wd:Nat) (w:World):Calls prog 127 #[.int .i64 (wd:Int)] w λe w'=>e=.returned (.agg #[.int .i64 (wd:Int),.pointer none])/\Tch NoB w w':=by
 go_enter func127,ntmps127
 go_wp2
 exact QJ (v:=.agg #[.int .i64 (wd:Int),.pointer none]) (Qq results127 _ _ w.heap.size _ _ (0,0) _ rfl (Qf _ _) underlying146 rfl (by kernel_rfl)) rfl ⟨rfl,Ta _ _ _⟩
theorem Jih (W:World):(Instr.makeMap 141 none).run prog W=.ok (.map (some W.heap.size)) (W.alloc (.map #[] 0)):=by
 simp [Instr.makeMap,Result.andThen]
theorem outsB?_ok {outs:List (Nat×Nat)} (ho:∀o∈outs,Jq o) (h1:1<=outs.length) (h3:outs.length<=3):outsB? outs=some (Xx outs):=by
 unfold outsB?
 rw [(JcS 1 3 outs ho h1 h3 (by omega)).wr]
 rfl
def Jdb (n:Nat):BA:=⟨(List.replicate n (0:UInt8)).toArray⟩
def YS (wd:Nat) (outs:List (Nat×Nat)) (st:Option Tr):HdL:=(0,Jdb wd,dgW wd (71 :: Xx outs),Xl (dgW wd) st)
def JlW (wd base:Nat) (outs:List (Nat×Nat)) (st:Option Tr) (w:World) (e:Ending) (w':World):Prop:=
 Tch NoB w w'/\∃cb r q lv,e=.returned (.tuple #[.pointer (some ⟨cb,0,none⟩),.nilIface])/\w.heap.size<=cb/\w.heap.size<=r/\Js w' cb wd 0 r [(⟨(hdrB (YS wd outs st)).toArray⟩,wd,q)] lv/\StAt (dgW wd) (λj=>w.heap.size<=j) w' q st/\StOk wd st/\Xh base w' lv (recB [71] (XH wd outs))/\∀k,lv.ownBlock=some k->w.heap.size<=k
theorem JhG (E:Nat->Addr) (wd:Nat) (hw1:1<=wd) (hw:wd<=32) (v:Value) (outs:List (Nat×Nat)) (ho:∀o∈outs,Jq o) (h1:1<=outs.length) (h3:outs.length<=3) (w:World) (hE:Env E w) (hv:Jo w.heap.size w v outs) (base:Nat) (hbase:base<=w.heap.size) (st:Option Tr) (hrec:JT (dgW wd (71 :: Xx outs)) 0 outs none=.ok st):
  Calls prog 72 #[.int .i64 (wd:Int),v] w λe w'=>JlW wd base outs st w e w':=by
 obtain ⟨ia,ic,hvs⟩:=hv.shape
 subst hvs
 obtain ⟨id,hid⟩:∃id,id=dgW wd (71 :: Xx outs):=⟨_,rfl⟩
 have hids:id.size=wd:=by rw [hid];exact Jp wd hw _
 obtain ⟨hd,hhd⟩:∃hd:BA,hd=⟨(hdrB (YS wd outs st)).toArray⟩:=⟨_,rfl⟩
 obtain ⟨zs,hzs⟩:∃zs,zs=Jdb wd:=⟨_,rfl⟩
 obtain ⟨sd,hsd⟩:∃sd,sd=Xl (dgW wd) st:=⟨_,rfl⟩
 have HE:Hid (Env E w):=hE
 have HV:Hid _:=hv
 have HCW:Hid (Calls prog 124 #[.int .i64 (wd:Int)] w λe w'=>e=.returned .nilIface/\w=w'):=Zw wd w hw1 hw
 have HID:Hid (Calls prog 125 #[.int .i64 (wd:Int),.slice ia outs.length ic] w λe w'=>Tch NoB w w'/\e=.returned (.tuple #[.string id,.nilIface])):=by
  have:=Jfc E wd hw1 hw _ outs w hE hv (by omega) (λx hx=>(ho x hx).2)
  rw [outsB?_ok ho h1 h3] at this
  rw [hid]
  exact this
 have HRV:Hid (∀W,Tch NoB w W->Calls prog 126 #[.agg #[.int .i64 (wd:Int),.pointer none],.string id,.slice ia outs.length ic] W λe w'=>Tch NoB W w'/\∃(q:Option Nat) (rv:Option Addr),Jh q=.pointer rv/\e=.returned (.tuple #[.agg #[.int .i64 (wd:Int),.pointer rv],.nilIface])/\StAt (dgW wd) (λj=>w.heap.size<=j) w' q st/\StOk wd st):=λW hT=>by
  have:=Jb3 E wd hw1 hw (λj=>w.heap.size<=j) none none id hids _ outs ho h3 W (hE.tch hT noE) (λj hj=>Qm hT.size hj) ((hv.tch hT noE).up hT.size) trivial trivial
  rw [hid,hrec,<-hid] at this
  refine this.mono λe w' k=>⟨k.1,?_⟩
  obtain ⟨q,k1,k2,k3⟩:=k.2
  exact ⟨q,_,rfl,k1,k2,k3⟩
 have HRP:Hid (∀W,Calls prog 128 #[.string ⟨#[0]⟩,.int .i64 (wd:Int)] W λe w'=>e=.returned (.string zs)/\Tch NoB W w'):=λW=>by rw [hzs];exact JgB wd hw1 hw W
 have HDG:Hid (∀W q,Tch NoB w W->StAt (dgW wd) (λj=>w.heap.size<=j) W q st->Calls prog 83 #[Jt wd q] W λe w'=>e=.returned (.string sd)/\Tch NoB W w'):=λW q hT k=>by rw [hsd];exact Zk E wd hw1 hw _ q st W (hE.tch hT noE) k
 have HHB:Hid (∀W,Tch NoB w W->Calls prog 84 #[.int .i64 (wd:Int),.agg #[.int .u64 0,.string zs,.string id,.string sd]] W λe w'=>e=.returned (.tuple #[.string hd,.nilIface])/\Tch NoB W w'):=λW hT=>by
  have:=Jac E wd (by omega) 0 zs id sd W (hE.tch hT noE)
  refine this.mono λe w' k=>?_
  obtain ⟨k1,k2⟩:=k
  have hz:zs.size=wd:=by rw [hzs];unfold Jdb;rw [JA,List.length_replicate]
  rw [JjM ⟨by show 0<2 ^ 32;omega,hz,hids,by show sd.size=wd;rw [hsd];exact Yf _ wd (Jp wd hw) st⟩] at k2
  rw [hhd]
  unfold YS
  rw [<-hzs,<-hid,<-hsd]
  exact ⟨k2,k1⟩
 have HRS:Hid (∀W cb r q,Tch NoB w W->Js W cb wd 0 r [(hd,wd,q)] (.slice none 0 0)->Calls prog 129 #[.pointer (some ⟨cb,0,none⟩),.slice ia outs.length ic] W λe w'=>e=.returned .nilIface/\∃lv',Js w' cb wd 0 r [(hd,wd,q)] lv'/\Xh base w' lv' (recB [71] (XH wd outs))/\Tch (λk=>k=cb) W w'/\(∀k,lv'.ownBlock=some k->W.heap.size<=k)):=λW cb r q hT hR=>by
  refine (Jcd E (hE.tch hT noE) hw hR base (Qm hbase hT.size) [] ⟨Bs.nil _ _,λk hk=>by cases hk⟩ (by simp) _ outs ho h1 h3 ((hv.tch hT noE).up hT.size)).mono ?_
  rintro e w' ⟨k0,lv',k1,k2,k3,k4⟩
  refine ⟨k0,lv',k1,k2,k3.mono (λj hj=>?_),λk hk=>?_⟩
  ·rcases hj with h | h
   ·exact .inl h
   ·cases h
  ·rcases k4 with h | ⟨j,h,hj⟩
   ·rw [hk] at h;cases h
   ·rw [hk] at h;cases h;exact hj
 have hmk:=Jih
 unfold JlW
 rw [<-hhd]
 clear hE hv hrec hid hhd hzs hsd hids ho h1 h3 hbase
 go_enter func72,ntmps72
 go_wp2_with fail
 refine HCW.o.mono ?_
 rintro _ _ ⟨rfl,rfl⟩
 go_wp2_with fail
 refine HID.o.mono ?_
 rintro _ w1 ⟨ht1,rfl⟩
 have HT1:Hid _:=ht1
 clear ht1 HID HCW
 go_wp2_with fail
 refine (JhS wd w1).mono ?_
 rintro _ w2 ⟨rfl,ht2⟩
 have HT2:Hid (Tch NoB w w2):=HT1.o.go ht2
 clear ht2 HT1
 go_wp2_with fail
 refine (HRV.o w2 HT2.o).mono ?_
 rintro _ w3 ⟨ht3,q,rv,hq,rfl,hs3,hk3⟩
 have hA:=Ta NoB w3 (.cells #[.int .i64 (wd:Int),.pointer rv] 146)
 obtain ⟨w4,hw4⟩:∃w4,w4=w3.alloc (.cells #[.int .i64 (wd:Int),.pointer rv] 146):=⟨_,rfl⟩
 obtain ⟨k4,hk4⟩:∃k4,k4=w3.heap.size:=⟨_,rfl⟩
 have HT4:Hid (Tch NoB w w4):=by rw [hw4];exact (HT2.o.go ht3).go hA
 have HS4:Hid (StAt (dgW wd) (λj=>w.heap.size<=j) w4 q st/\StOk wd st):=by rw [hw4];exact ⟨hs3.next hA,hk3⟩
 have hr4:w4.heap[k4]? =some (.cells #[.int .i64 (wd:Int),.pointer rv] 146):=by rw [hw4,hk4];exact Qf _ _
 have HQ:Hid _:=hq
 go_upto_region 8 with fail
 rw [<-hw4,<-hk4]
 have s0:w4.cell? ⟨k4,0,none⟩=some (.int .i64 (wd:Int)):=Ja hr4
 have s1:w4.cell? ⟨k4,1,none⟩=some (.pointer rv):=Ja hr4
 have hz4:k4<w4.heap.size:=(Jb hr4)
 have HR4:Hid _:=hr4
 have HDI:Hid (∀W,Tch NoB w4 W->Calls prog 83 #[.agg #[.int .i64 (wd:Int),.pointer rv]] W λe w'=>e=.returned (.string sd)/\Tch NoB W w'):=λW hT=>by
  have:=HDG.o W q (HT4.o.go hT) (HS4.o.1.next hT)
  unfold Jt at this
  rw [HQ.o] at this
  exact this
 have HT44:Hid (Tch NoB w4 w4.drew):=Td _ w4 1
 have HCE:Hid (∀W,Tch NoB w4 W->W.cell? ⟨k4,0,none⟩=some (.int .i64 (wd:Int))/\W.cell? ⟨k4,1,none⟩=some (.pointer rv)):=λW hT=>⟨(hT.cell (p:=⟨k4,0,none⟩) hz4 (λh=>h)).trans s0,(hT.cell (p:=⟨k4,1,none⟩) hz4 (λh=>h)).trans s1⟩
 clear hA hw4 hk4 hs3 hk3 hq ht3 hr4 HDG HRV HT2
 go_upto_region 10 with fail
 go_cut [10,8] (λvh ve wx=>vh=.string hd/\ve=.nilIface/\Hid (Tch NoB w4 wx))
 case first=>
  go_region_held3 (λW=>W.cell? ⟨k4,0,none⟩=some (.int .i64 (wd:Int))/\W.cell? ⟨k4,1,none⟩=some (.pointer rv)) (go_keep) ((first | (go_at_call 128;refine (HRP.o _).mono ?_;rintro _ wA ⟨rfl,htA⟩;have HTA:Hid (Tch NoB w4 wA):=(by first | exact HT44.o.go htA | exact HTB.o.go htA);obtain ⟨xa0,xa1⟩:=HCE.o wA HTA.o;clear htA) | (go_at_call 83;refine (HDI.o _ (by first | exact HT44.o | exact HTA.o)).mono ?_;rintro _ wB ⟨rfl,htB⟩;have HTB:Hid (Tch NoB w4 wB):=(by first | exact HT44.o.go htB | exact HTA.o.go htB);obtain ⟨xb0,xb1⟩:=HCE.o wB HTB.o;clear htB) | (go_at_call 84;refine (HHB.o _ (HT4.o.go (by first | exact HTA.o | exact HTB.o))).mono ?_;rintro _ wC ⟨rfl,htC⟩;have HTC:Hid (Tch NoB w4 wC):=(by first | exact HTA.o.go htC | exact HTB.o.go htC);obtain ⟨xc0,xc1⟩:=HCE.o wC HTC.o;clear htC)))
  all_goals
   go_wp2
   go_meet
   exact ⟨rfl,rfl,HTC⟩
 case rest=>
 obtain ⟨rfl,rfl,HT45⟩:=hcut
 obtain ⟨w5,hw5⟩:∃w5,w5=wc:=⟨wc,rfl⟩
 subst hw5
 have HM5:Hid (Tch NoB w4 (w5.alloc (.map #[] 0))):=HT45.o.go (Ta _ _ _)
 obtain ⟨m0,m1⟩:=HCE.o _ HM5.o
 have hmz:(w5.alloc (.map #[] 0)).heap[w5.heap.size]? =some (.map (Jr 0 []).toArray ([]:List BV).length):=Qf _ _
 have hins:=JcJ hmz (hd,wd,q)
 unfold bV at hins
 rw [HQ.o] at hins
 have hins':(Instr.mapUpdate 141 (.map (some w5.heap.size)) (.int .i64 0) (.agg #[.string hd,.int .i64 (wd:Int),.pointer rv])).run prog (w5.alloc (.map #[] 0))=.ok () ((w5.alloc (.map #[] 0)).setBlocks w5.heap.size [(hd,wd,q)]):=hins
 have HMZ:Hid _:=hmz
 clear hins hmz HRP HHB HDI HT44 s0 s1
 go_upto_region 14 with fail
 obtain ⟨r,hr⟩:∃r,r=w5.heap.size:=⟨_,rfl⟩
 obtain ⟨w6,hw6⟩:∃w6,w6=(w5.alloc (.map #[] 0)).setBlocks w5.heap.size [(hd,wd,q)]:=⟨_,rfl⟩
 obtain ⟨cb,hcb⟩:∃cb,cb=w6.heap.size:=⟨_,rfl⟩
 obtain ⟨w7,hw7⟩:∃w7,w7=w6.alloc (.cells #[.int .i64 (wd:Int),.int .i64 0,.map (some r),.slice none 0 0] 143):=⟨_,rfl⟩
 have hw45:=HT45.o.size
 have hw4:=HT4.o.size
 have t6:Tch NoB w4 w6:=by rw [hw6];exact HM5.o.trans (Tch.setBlocks _ _ _) (λj hj=>.inr (by omega))
 have t67:Tch NoB w6 w7:=by rw [hw7];exact Ta _ _ _
 have hR7:Js w7 cb wd 0 r [(hd,wd,q)] (.slice none 0 0):=by
  refine ⟨by rw [hw7,hcb];exact Qf _ _,?_⟩
  have h6:w6.heap[r]? =some (.map (Jr 0 [(hd,wd,q)]).toArray [(hd,wd,q)].length):=by rw [hw6,hr];exact Zi HMZ.o _
  exact (t67.block r (Jb h6) (λh=>h)).trans h6
 have HT7:Hid (Tch NoB w w7):=(HT4.o.go t6).go t67
 have HR7:Hid _:=hR7
 have HS7:Hid (StAt (dgW wd) (λj=>w.heap.size<=j) w7 q st/\StOk wd st):=⟨(HS4.o.1.next t6).next t67,HS4.o.2⟩
 have HCR:Hid (w.heap.size<=cb/\w.heap.size<=r):=⟨by rw [hcb];exact Qm hw4 t6.size,by rw [hr];exact Qm hw4 hw45⟩
 rw [<-hr] at hw6 ⊢
 rw [<-hw6,<-hcb,<-hw7]
 clear hr hw6 hcb hw7 hw45 hw4 t6 t67 hR7 HMZ HM5 HT45 hins' m0 m1 hmk HS4 HT4 HCE HR4
 go_wp2_with fail
 refine (HRS.o w7 cb r q HT7.o HR7.o).mono ?_
 rintro _ w8 ⟨rfl,lv',k1,k2,k3,k4⟩
 have HK:Hid (Js w8 cb wd 0 r [(hd,wd,q)] lv'/\Xh base w8 lv' (recB [71] (XH wd outs))/\Tch (λk=>k=cb) w7 w8/\(∀k,lv'.ownBlock=some k->w7.heap.size<=k)):=⟨k1,k2,k3,k4⟩
 clear k1 k2 k3 k4 HRS
 go_wp2
 go_ret2
 obtain ⟨k1,k2,k3,k4⟩:=HK.o
 have hst:=HS7.o.1.refine (G:=λj=>w.heap.size<=j/\¬j=cb) (λj hj hc=>⟨hj,λe=>(by obtain ⟨c,hc⟩:=hc;subst e;rw [HR7.o.row] at hc;simp at hc)⟩)
 exact ⟨HT7.o.trans k3 (λj hj=>.inr (by have:=HCR.o;omega)),cb,r,q,lv',rfl,HCR.o.1,HCR.o.2,k1,(hst.tch k3 (λj hS hG=>hG.2 hS)).mono (λj h=>h.1),HS7.o.2,k2,λk hk=>Qm HT7.o.size (k4 k hk)⟩

structure Jg7 (E:Nat->Addr) (base:Nat) where
 led:∀wd,Led E wd base
 make:∀(wd:Nat) {w:World} (v:Value) (outs:List (Nat×Nat)),1<=wd->wd<=32->JV E base w->base<=w.heap.size->Jo w.heap.size w v outs->1<=outs.length->outs.length<=3->(∀o∈outs,Jq o)->
  Calls prog 37 #[.int .i64 (wd:Int),v] w λe w'=>Tch NoB w w'/\∃lb F h st,e=.returned (.tuple #[.pointer (some ⟨lb,0,none⟩),.int .i64 0])/\(led wd).At w' lb F 0 [(h,st)]/\JT (dgW wd (71 :: Xx outs)) 0 outs none=.ok st
def Xv (id:BA) (outs:List (Nat×Nat)) (n:Nat):List Held:=(List.range n).map λ(i:Nat)=>((id,(i:Int)),outs.getD i (0,0))
theorem JbU (id:BA) (outs:List (Nat×Nat)) (n:Nat):Xv id outs (n+1)=Xv id outs n++[((id,(n:Int)),outs.getD n (0,0))]:=by
 unfold Xv;rw [List.range_succ,List.map_append];rfl
theorem Jfd (id:BA) (outs:List (Nat×Nat)) (n:Nat):Xe (Xv id outs n) (id,(n:Int))=none:=by
 unfold Xe
 rw [List.findIdx?_eq_none_iff]
 intro x hx
 unfold Xv at hx
 rw [QK] at hx
 obtain ⟨i,hi,rfl⟩:=hx
 rw [List.mem_range] at hi
 simp only [decide_eq_false_iff_not]
 intro h
 have:=congrArg Prod.snd h
 simp only at this
 omega
theorem JaO (id:BA) (outs:List (Nat×Nat)):∀(r:List (Nat×Nat)) (n:Nat),outs.drop n=r->n+r.length=outs.length->∀(o:Nat) (b:Bool),∃o' b',JC id n r (Xv id outs n,o,b)=some (Xv id outs outs.length,o',b'):=by
 intro r
 induction r with
 | nil=>intro n _ hn o b;simp only [Qv,Nat.add_zero] at hn;subst hn;exact ⟨o,b,rfl⟩
 | cons x r ih=>
  intro n hd hn o b
  simp only [JC,Jfd]
  have hlt:n<outs.length:=by simp only [Qp] at hn;omega
  have e:=List.drop_eq_getElem_cons hlt
  rw [hd] at e
  simp only [QH] at e
  have ex:outs.getD n (0,0)=x:=by simp [List.getD_eq_getElem?_getD,List.getElem?_eq_getElem hlt,e.1]
  have:=ih (n+1) e.2.symm (by simp only [Qp] at hn;omega) ((o+x.1) % M64) (b || decide ((o+x.1) % M64<o))
  rw [JbU,ex] at this
  exact this
theorem Jgd (wd:Nat) (outs:List (Nat×Nat)) (ho:∀o∈outs,Jq o) (h3:outs.length<=3) (id:BA) (hid:id.size=wd) (st:Option Tr) (h:JT id 0 outs none=.ok st):Book wd st (Xv id outs outs.length):=by
 have B0:Book wd none []:=by
  refine ⟨?_,?_,?_,?_⟩
  ·intro t ht;cases ht
  ·intro h hh;exact (QD hh).elim
  ·exact List.nodup_nil
  ·intro k o;simp [Xa]
 have:=ZW wd id hid outs ho 0 (by omega) none [] 0 false B0
 obtain ⟨o',b',e⟩:=JaO id outs outs 0 rfl (by omega) 0 false
 have e0:Xv id outs 0=[]:=rfl
 rw [e0] at e
 rw [show (0:Nat) % M64=0 from rfl,e] at this
 obtain ⟨st',e1,B,_⟩:=this
 rw [h] at e1
 cases e1
 exact B
theorem JcH {b b':Nat} {w:World} {v v2:Value} {os:List (Nat×Nat)} {l:List Held} (h:OOwn b w v os) (h2:HOwn b' w v2 l):∀j,v.ownBlock=some j->¬some j=v2.ownBlock:=by
 intro j hj hj2
 obtain ⟨_,⟨rfl,_⟩ | ⟨g,cap,cur,rfl,_,hrow,_⟩⟩:=h
 ·cases hj
 obtain ⟨_,⟨rfl,_⟩ | ⟨g',cap',cur',rfl,_,hrow',_⟩⟩:=h2
 ·cases hj2
 cases hj
 cases hj2
 rw [hrow] at hrow'
 simp at hrow'
def Jjb {E:Nat->Addr} {base:Nat} (M:Jg7 E base) (w:World) (e:Ending) (w':World):Prop:=
 Tch NoB w w'/\∃wd xb lb F ch vst sl states,1<=wd/\wd<=32/\e=.returned (.pointer (some ⟨xb,0,none⟩))/\JP (M.led wd) w' xb lb F 0 ch vst sl states/\states.length=1/\∀l∈states,l.length<=3
def frT (os:List (Nat×Nat)) (i:Nat):List UInt8:=71 :: (beL os.length 1 1++(os.take i).flatMap outB)
theorem JjI (os:List (Nat×Nat)) (i:Nat) (h:i<os.length):frT os (i+1)=frT os i++outB os[i]:=by
 unfold frT;rw [QQ h];simp only [List.flatMap_append,QG,List.flatMap_nil,QC,Qs,List.cons_append]
theorem Jhi (os:List (Nat×Nat)) (h:os.length<=3) (i:Nat):(frT os i).length<=100:=by
 unfold frT;rw [Qp,Qe,Je,JdB,QB];omega
theorem Jmt {E:Nat->Addr} {base:Nat} (M:Jg7 E base) (c:Int) (B:Nat) (v:Value) (first:List (Nat×Nat)) (w:World) (hF:JV E base w) (hb:base<=w.heap.size) (h:Jo B w v first) (ho:∀o∈first,Jq o) (h1: -9223372036854775808<=c) (h2:c<9223372036854775808):
  Calls prog 14 #[.int .i64 c,v] w (Jjb M w):=by
 obtain ⟨a0,c0,rfl⟩:=h.shape
 have HF:Hid _:=hF
 have HB:Hid _:=hb
 have H:Hid _:=h
 have HO:Hid _:=ho
 have HWI:Hid (∀W,Calls prog 36 #[.int .i64 c] W _):=λW=>Jh9 c W h1 h2
 clear hF hb h ho h1 h2
 go_enter func14,ntmps14
 go_wp2
 go_loopw [5,6] (λvo i wr=>∃(k:Nat) (os:List (Nat×Nat)),k<=3/\i=.int .i64 k/\Hid (OOwn w.heap.size wr vo os)/\Hid (os.length=k)/\Hid (∀o∈os,Jq o)/\Hid (Tch NoB w wr)) (λ_ i _=>3 - (intOf i).toNat)
 case atStart=>exact ⟨0,[],by omega,rfl,OOwn.nil _ _,rfl,(λc hc=>(QD hc).elim:∀c∈([]:List (Nat×Nat)),Jq c),Te _ _⟩
 case round=>
  obtain ⟨k,os,hk,rfl,HOO,HOL,HOK,HT⟩:=hrel
  obtain ⟨va,vc,rfl⟩:=HOO.o.shape
  by_cases hgo:k<first.length/\k<3
  ·obtain ⟨hkf,hk3⟩:=hgo
   rcases H.out with ⟨_,e2⟩ | ⟨g0,o0,cc,e,_,hg0,hcell⟩
   ·rw [e2] at hkf;simp at hkf
   simp only [Qy,true_and] at e
   obtain ⟨rfl,rfl⟩:=e
   obtain ⟨f0,f1⟩:=hcell k hkf
   have q0:=(HT.o.cell (p:=⟨g0,o0+k * 2,none⟩) hg0 (λe=>e)).trans f0
   have q1:=(HT.o.cell (p:=⟨g0,o0+k * 2+1,none⟩) hg0 (λe=>e)).trans f1
   have HOF:Hid (Jq first[k]):=HO.o _ (Qx hkf)
   have hki:(k:Int)<(first.length:Int):=by omega
   have hk3i:(k:Int)<3:=by omega
   clear hcell f0 f1
   generalize first[k]=o at *
   obtain ⟨oa,oo⟩:=o
   simp only at q0 q1
   have HNO:Hid (Jo (wr.heap.size+1) (wr.alloc (.cells #[.int .u64 ((oa:Nat):Int),.int .u8 ((oo:Nat):Int)] 80)) (.slice (some ⟨wr.heap.size,0,none⟩) 1 1) [(oa,oo)]):=Jeo wr (oa,oo)
   have HOW:Hid (OOwn w.heap.size (wr.alloc (.cells #[.int .u64 ((oa:Nat):Int),.int .u8 ((oo:Nat):Int)] 80)) (.slice va os.length vc) os):=HOO.o.tch (Ta NoB wr _) (λ_ _ h=>h)
   go_wp2_with (at_builtin;refine Yu rfl _ _ rfl rfl HOW.o _ _ [(oa,oo)] rfl HNO.o (by have:=HOL.o;simp;omega) (Qm HT.o.size (Ta NoB wr _).size) ?_;intro v1 w1 hown1 hg1;have HO1:Hid _:=hown1;have HG1:Hid _:=hg1;clear hown1 hg1)
   go_roundw
   case rel=>exact ⟨k+1,os++[(oa,oo)],by omega,by go_num,HO1.o,(by have:=HOL.o;simp;omega:(os++[(oa,oo)]).length=k+1),(by intro c hc;rw [QE,Qt] at hc;rcases hc with hc | rfl;exact HOK.o c hc;exact HOF.o:∀c∈os++[(oa,oo)],Jq c),(HT.o.trans (Ta NoB wr _) noE).trans (Tg HG1.o) (λj hj=>.inr (HOO.o.own j hj.symm).1)⟩
   case measure=>simp [intOf];omega
  ·have HL3:Hid (os.length<=3):=(by have:=HOL.o;omega:os.length<=3)
   go_upto_region 3 with fail
   go_cut [22] (λvb wx=>vb=.bool false/\wx=wr)
   case first=>
    by_cases hkf:k<first.length
    ·have hki:(k:Int)<(first.length:Int):=by omega
     have hk3i:¬(k:Int)<3:=by omega
     go_wp2
     go_meet
     exact ⟨rfl,rfl⟩
    ·have hki:¬(k:Int)<(first.length:Int):=by omega
     go_wp2
     go_meet
     exact ⟨rfl,rfl⟩
   case rest=>
   obtain ⟨rfl,rfl⟩:=hcut
   obtain ⟨wA,hwA⟩:∃wA,wA=wc:=⟨wc,rfl⟩
   subst hwA
   go_upto_if 34 with fail
   go_cut [5] (λvo wx=>∃os':List (Nat×Nat),Hid (OOwn w.heap.size wx vo os')/\Hid (1<=os'.length/\os'.length<=3/\∀o∈os',Jq o)/\Hid (Tch NoB w wx))
   case first=>
    by_cases h0:os.length=0
    ·have h0i:(os.length:Int)=0:=by omega
     have HNO:Hid (Jo (wA.heap.size+1) (wA.alloc (.cells #[.int .u64 100,.int .u8 1] 80)) (.slice (some ⟨wA.heap.size,0,none⟩) 1 1) [(100,1)]):=Jeo wA (100,1)
     have HOW:Hid (OOwn w.heap.size (wA.alloc (.cells #[.int .u64 100,.int .u8 1] 80)) (.slice va os.length vc) os):=HOO.o.tch (Ta NoB wA _) (λ_ _ h=>h)
     have H0:Hid _:=h0
     clear h0
     go_wp2_with (at_builtin;refine Yu rfl _ _ rfl rfl HOW.o _ _ [(100,1)] rfl HNO.o (by have:=H0.o;simp;omega) (Qm HT.o.size (Ta NoB wA _).size) ?_;intro v1 w1 hown1 hg1;have HO1:Hid _:=hown1;have HG1:Hid _:=hg1;clear hown1 hg1)
     go_meet
     exact ⟨os++[(100,1)],HO1,⟨by simp,by have:=H0.o;simp;omega,by intro o ho;rw [QE,Qt] at ho;rcases ho with ho | rfl;exact HOK.o o ho;exact ⟨by decide,by decide⟩⟩,(HT.o.trans (Ta NoB wA _) noE).trans (Tg HG1.o) (λj hj=>.inr (HOO.o.own j hj.symm).1)⟩
    ·have h0i:¬(os.length:Int)=0:=by omega
     have H0:Hid _:=h0
     clear h0
     go_wp2
     go_meet
     exact ⟨os,HOO,⟨by have:=H0.o;omega,HL3.o,HOK.o⟩,HT⟩
   case rest=>
   obtain ⟨os',HOP,HOQ,HTB⟩:=hcut
   obtain ⟨wB,hwB⟩:∃wB,wB=wc:=⟨wc,rfl⟩
   subst hwB
   clear HOO HOL HOK HT HL3 hgo
   obtain ⟨vb,vd,hu5⟩:=HOP.o.shape
   subst hu5
   go_wp2_with fail
   refine (HWI.o _).mono ?_
   rintro _ w1 ⟨⟨wd,hw1,hw32,rfl⟩,ht1⟩
   have HT1:Hid (Tch NoB w w1):=HTB.o.trans ht1 noE
   have HO1:Hid (OOwn w.heap.size w1 (.slice vb os'.length vd) os'):=HOP.o.tch ht1 (λ_ _ e=>e)
   have HF1:Hid (JV E base w1):=HF.o.tch HT1.o noE
   have HNW:Hid (Calls _ _ _ w1 _):=M.make wd (.slice vb os'.length vd) os' hw1 hw32 HF1.o (Qm HB.o HT1.o.size) HO1.o.at HOQ.o.1 HOQ.o.2.1 HOQ.o.2.2
   clear ht1
   go_wp2_with fail
   refine HNW.o.mono ?_
   rintro _ w2 ⟨ht2,lb,F,hd,st,rfl,hat,hrc⟩
   have HT2:Hid (Tch NoB w w2):=HT1.o.trans ht2 noE
   have HO2:Hid (OOwn w.heap.size w2 (.slice vb os'.length vd) os'):=HO1.o.tch ht2 (λ_ _ e=>e)
   have HAT:Hid _:=hat
   have HRC:Hid (_=_):=hrc
   have HF2:Hid (JV E base w2):=HF.o.tch HT2.o noE
   clear ht2 hat hrc HNW
   have hn3:=HOQ.o.2.1
   have HQ:Hid (1<=os'.length/\os'.length<=3/\∀o∈os',Jq o):=HOQ.o
   have hwn:IntKind.u8.wrap (os'.length:Int)=(os'.length:Int):=by simp [IntKind.wrap,IntKind.bits,IntKind.signed];omega
   have hby:=Jgj os'.length w2 (by omega)
   have hadd0:=YI [71] [UInt8.ofNat os'.length] (by simp)
   have HX0:Hid ([71]++[UInt8.ofNat os'.length]=frT os' 0):=(by rw [frT,beL1];simp:[71]++[UInt8.ofNat os'.length]=frT os' 0)
   have TB2:Hid (Tch NoB w (w2.alloc (.cells #[.int .u8 (os'.length:Int)] 5))):=HT2.o.trans (Ta NoB w2 _) noE
   have OB2:Hid (OOwn w.heap.size (w2.alloc (.cells #[.int .u8 (os'.length:Int)] 5)) (.slice vb os'.length vd) os'):=HO2.o.tch (Ta NoB w2 _) (λ_ _ e=>e)
   have TL2:Hid (Tch NoB w2 (w2.alloc (.cells #[.int .u8 (os'.length:Int)] 5))):=Ta NoB w2 _
   generalize [71]++[UInt8.ofNat os'.length]=X0 at *
   clear HOQ HOP HTB HT1 HO1 HF1
   go_wp2
   clear hby hadd0 hwn
   go_loopw [10,11] (λsx i wr=>∃k:Nat,k<=os'.length/\i=.int .i64 k/\sx=.string ⟨(frT os' k).toArray⟩/\Hid (OOwn w.heap.size wr (.slice vb os'.length vd) os')/\Hid (Tch NoB w2 wr)) (λ_ i _=>os'.length - (intOf i).toNat)
   case atStart=>exact ⟨0,by omega,rfl,by rw [HX0.o],OB2.out,TL2.out⟩
   case round=>
    clear HX0 TB2 OB2 TL2
    obtain ⟨k,hk,rfl,rfl,HOO,HT⟩:=hrel
    by_cases hlt:k<os'.length
    ·rcases HOO.o.at with ⟨e,_⟩ | ⟨gi,oi,cc,e,_,hgi,hcell⟩
     ·simp only [Qy] at e;omega
     simp only [Qy,true_and] at e
     obtain ⟨rfl,rfl⟩:=e
     obtain ⟨q0,q1⟩:=hcell k hlt
     have hok:=HQ.o.2.2 _ (Qx hlt)
     have hlti:(k:Int)<(os'.length:Int):=by omega
     have hadd:=YI (frT os' k) (outB os'[k]) (by have:=Jhi os' HQ.o.2.1 k;rw [Jaq];omega)
     rw [<-JjI os' k hlt] at hadd
     have HLT:Hid _:=hlt
     have HKT:Hid (Calls _ _ _ wr _):=JbB os'[k].1 os'[k].2 wr hok.2
     clear hcell hok
     generalize os'[k]=o at *
     obtain ⟨oa,oo⟩:=o
     simp only at q0 q1
     generalize hX1:frT os' (k+1)=X1 at *
     generalize frT os' k=X0 at *
     have HX1:Hid (_=X1):=hX1
     clear hX1
     generalize outB (oa,oo)=cb at *
     go_wp2_with (go_at_call 38;refine HKT.o.mono ?_;rintro _ w3 ⟨rfl,ht3⟩;have HT3:Hid _:=ht3;clear ht3)
     go_roundw
     case rel=>exact ⟨k+1,HLT.o,by go_num,by rw [HX1.o],HOO.o.tch HT3.o (λ_ _ e=>e),HT.o.trans HT3.o noE⟩
     case measure=>have:=HLT.o;simp [intOf];omega
    ·have HK:Hid (k=os'.length):=(by omega:k=os'.length)
     have hge:¬(k:Int)<(os'.length:Int):=by omega
     have HX:Hid (frT os' k=71 :: Xx os'):=(by rw [HK.o,frT,Xx,List.take_length]:frT os' k=71 :: Xx os')
     have HXL:Hid ((frT os' k).length<=100):=Jhi os' HQ.o.2.1 k
     have HTW:Hid (Tch NoB w wr):=HT2.o.trans HT.o noE
     have HEW:Hid (Env E wr):=(HF.o.tch HTW.o noE).env
     obtain ⟨S,hS1,hS2⟩:∃S:BA,S=⟨(frT os' k).toArray⟩/\S.data.toList=71 :: Xx os':=⟨_,rfl,by simp [HX.o]⟩
     have hSz:S.size<1152921504606846976:=by rw [hS1];show (frT os' k).toArray.size<_;have:=HXL.o;simp;omega
     have HDG:Hid (Calls prog 39 #[.int .i64 (wd:Int),.string S] wr λe w'=>e=.returned (.string (dgW wd (71 :: Xx os')))/\Tch NoB wr w'):=(Jak wd S wr hw1 hw32 hSz (Qk (by decide) HEW.o.size) HEW.o.table).mono (by rintro _ w' ⟨rfl,ht⟩;exact ⟨by rw [hS2];rfl,ht⟩)
     rw [<-hS1]
     clear hS1 hS2 hSz HX HXL
     obtain ⟨id,hid⟩:∃id,dgW wd (71 :: Xx os')=id:=⟨_,rfl⟩
     have HIDS:id.size=wd:=by rw [<-hid];exact Jp wd hw32 _
     rw [hid] at HDG HRC
     clear hid
     go_upto_region 18 with (go_at_call 39;refine HDG.o.mono ?_;rintro _ w3 ⟨rfl,ht3⟩;have HT3:Hid _:=ht3;clear ht3)
     have HTV:Hid (Tch NoB w w3):=HTW.o.trans HT3.o noE
     have HT23:Hid (Tch NoB w2 w3):=HT.o.trans HT3.o noE
     have HO3:Hid (OOwn w.heap.size w3 (.slice vb os'.length vd) os'):=HOO.o.tch HT3.o (λ_ _ e=>e)
     have hszi:(id.size:Int)=(wd:Int):=by rw [HIDS]
     have HIDH:Hid _:=HIDS
     have HTU:Hid (Tch NoB w w2):=HT2.o
     clear HIDS HOO HT HTW HEW HDG HT3 HT2 HO2 HF2 HK
     go_upto_region 20 with fail
     clear hszi
     go_wp2
     go_loopw [13,14] (λvn i wr=>∃k:Nat,k<=os'.length/\i=.int .i64 k/\Hid (HOwn w2.heap.size wr vn (Xv id os' k))/\Hid (OOwn w.heap.size wr (.slice vb os'.length vd) os')/\Hid (Tch NoB w2 wr)) (λ_ i _=>os'.length - (intOf i).toNat)
     case atStart=>exact ⟨0,by omega,rfl,HOwn.nil _ _,HO3.o,HT23.o⟩
     case round=>
      clear HO3 HT23 HTV
      obtain ⟨k,hk,rfl,HHO,HOO,HT⟩:=hrel
      obtain ⟨na,nc,hvn⟩:=HHO.o.shape
      obtain ⟨nl,hnl⟩:∃nl,(Xv id os' k).length=nl:=⟨_,rfl⟩
      rw [hnl] at hvn
      subst hvn
      have HNL:Hid _:=hnl
      have HNK:Hid ((Xv id os' k).length=k):=(by simp [Xv]:(Xv id os' k).length=k)
      clear hnl
      by_cases hlt:k<os'.length
      ·rcases HOO.o.at with ⟨e,_⟩ | ⟨gi,oi,cc,e,_,hgi,hcell⟩
       ·simp only [Qy] at e;omega
       simp only [Qy,true_and] at e
       obtain ⟨rfl,rfl⟩:=e
       obtain ⟨q0,q1⟩:=hcell k hlt
       have hlti:(k:Int)<(os'.length:Int):=by omega
       have HLT:Hid _:=hlt
       have HSU:Hid (Xv id os' (k+1)=Xv id os' k++[((id,(k:Int)),os'[k])]):=(by
        have eg:os'.getD k (0,0)=os'[k]:=by rw [Qn,Qd hlt];rfl
        rw [JbU,eg]:Xv id os' (k+1)=Xv id os' k++[((id,(k:Int)),os'[k])])
       clear hcell
       generalize os'[k]=o at *
       obtain ⟨oa,oo⟩:=o
       simp only at q0 q1
       have HNW:Hid (JH (wr.alloc (.cells #[.string id,.int .i64 (k:Int),.int .u64 ((oa:Nat):Int),.int .u8 ((oo:Nat):Int)] 87)) (.slice (some ⟨wr.heap.size,0,none⟩) 1 1) [((id,(k:Int)),(oa,oo))]):=Jfe wr (id,(k:Int)) (oa,oo)
       have HHW:Hid (HOwn w2.heap.size (wr.alloc (.cells #[.string id,.int .i64 (k:Int),.int .u64 ((oa:Nat):Int),.int .u8 ((oo:Nat):Int)] 87)) (.slice na nl nc) (Xv id os' k)):=HHO.o.tch (Ta NoB wr _) (λ_ _ e=>e)
       have TAL:Hid (Tch NoB w2 (wr.alloc (.cells #[.string id,.int .i64 (k:Int),.int .u64 ((oa:Nat):Int),.int .u8 ((oo:Nat):Int)] 87))):=HT.o.trans (Ta NoB wr _) noE
       go_wp2_with (at_builtin;refine Xp rfl _ _ rfl rfl HHW.o _ [((id,(k:Int)),(oa,oo))] rfl HNW.o (by rw [HNK.o];simp;omega) (Qm HT.o.size (Ta NoB wr _).size) ?_;intro v1 w1 hown1 hg1;have HO1:Hid _:=hown1;have HG1:Hid _:=hg1;clear hown1 hg1)
       go_roundw
       case rel=>exact ⟨k+1,HLT.o,by go_num,by rw [HSU.o];exact HO1,(HOO.o.tch (Ta NoB wr _) (λ_ _ e=>e)).tch (Tg HG1.o) (JcH (HOO.o.tch (Ta NoB wr _) (λ_ _ e=>e)) HHW.o),TAL.out.trans (Tg HG1.o) (λj hj=>.inr (HHO.o.own j hj.symm).1)⟩
       case measure=>have:=HLT.o;simp [intOf];omega
      ·have HK:Hid (k=os'.length):=(by omega:k=os'.length)
       have hge:¬(k:Int)<(os'.length:Int):=by omega
       go_wp2
       go_ret
       have tA:=(Ta NoB wr (.cells #[.slice na nl nc] 43)).trans (Ta NoB _ (.cells #[.pointer (some ⟨lb,0,none⟩),.int .i64 (wd:Int),.slice (some ⟨wr.heap.size,0,none⟩) 1 1,.int .i64 0] 35)) (λ_ h=>.inl h)
       have hbw:base<=wr.heap.size:=Qm HB.o (Qm HTU.o.size HT.o.size)
       refine ⟨(HTU.o.trans HT.o noE).trans tA noE,wd,wr.heap.size+1,lb,F,[(hd,st)],.slice (some ⟨wr.heap.size,0,none⟩) 1 1,[(na,nl,nc)],[Xv id os' k],hw1,hw32,rfl,?_,rfl,?_⟩
       ·refine ⟨heap_alloc2_new _ _ _,(M.led wd).keep ((M.led wd).keep HAT.o HT.o (λ_ e=>e.elim)) tA (λ_ e=>e.elim),⟨rfl,.inr ⟨wr.heap.size,1,#[.slice na nl nc],rfl,hbw,heap_alloc2_old _ _ _,Ql _,by decide,rfl,rfl⟩⟩,by omega,?_,⟨rfl,rfl,by simp⟩,by simp,?_⟩
        ·intro i x l hx hl
         cases i with
         | zero=>
          simp only [List.getElem?_cons_zero,Qh] at hx hl
          subst hx;subst hl
          exact HHO.o.t.tch tA (λ_ _ e=>e)
         | succ i=>simp at hx
        ·intro i d l _ hd' hl
         cases i with
         | zero=>
          simp only [List.getElem?_cons_zero,Qh] at hd' hl
          subst hd';subst hl
          rw [HK.o]
          exact Jgd wd os' HQ.o.2.2 HQ.o.2.1 id HIDH.o st HRC.o
         | succ i=>simp at hd'
       ·intro l hl
        simp only [Qt] at hl
        subst hl
        have:=HNK.o;have:=HQ.o.2.1;omega

theorem Jc3 {w:World} {cb wd fl r:Nat} {bs:List BV} {v:Value} (h:Js w cb wd fl r bs v) (k:Nat) (b:BV) (hk:bs[k]? =some b) (hf:fl<=k):
  Calls prog 92 #[.pointer (some ⟨cb,0,none⟩),.int .i64 (k:Int)] w λe w'=>e=.returned (.tuple #[Jt b.2.1 b.2.2,.nilIface])/\Tch NoB w w':=by
 obtain ⟨W,hW⟩:∃W,W=w.alloc (.cells #[.int .i64 0,.pointer none] 146):=⟨_,rfl⟩
 have hA:Tch NoB w W:=by rw [hW];exact Ta _ _ _
 have c1:W.cell? ⟨cb,1,none⟩=some (.int .i64 (fl:Int)):=Ja (h.next hA).row
 have HAT:Hid (Calls _ _ _ _ _):=Jl0 (h.next hA) k b hk
 have hrow:W.heap[w.heap.size]? =some (.cells #[.int .i64 0,.pointer none] 146):=by rw [hW];exact Qf _ _
 have HW:Hid _:=hW
 have HR:Hid _:=hrow
 have HA:Hid _:=hA
 obtain ⟨bh,bu,bq⟩:=b
 obtain ⟨rv,hrv⟩:∃rv,Jh bq=.pointer rv:=⟨_,rfl⟩
 simp only [bV] at HAT
 show Calls _ _ _ _ λe w'=>e=.returned (.tuple #[.agg #[_,Jh bq],.nilIface])/\_
 rw [hrv] at HAT ⊢
 have hlt:¬(k:Int)<(fl:Int):=by omega
 clear h hk hW hrow hA hrv hf
 go_enter func92,ntmps92
 go_upto_region 1 with fail
 rw [<-HW.o]
 go_wp2_with fail
 refine HAT.o.mono ?_
 rintro _ w2 ⟨rfl,ht2⟩
 have hr2:w2.heap[w.heap.size]? =some (.cells #[.int .i64 0,.pointer none] 146):=(ht2.block _ (Jb HR.o) (λh=>h)).trans HR.o
 have hz2:=(Jb hr2)
 obtain ⟨W3,hW3⟩:∃W3,W3=w2.alloc (.cells #[.string bh,.int .i64 (bu:Int),.pointer rv] 148):=⟨_,rfl⟩
 have t3:Tch NoB w2 W3:=by rw [hW3];exact Ta _ _ _
 have hr3:W3.heap[w.heap.size]? =some (.cells #[.int .i64 0,.pointer none] 146):=(t3.block _ hz2 (λh=>h)).trans hr2
 have hq3:W3.heap[w2.heap.size]? =some (.cells #[.string bh,.int .i64 (bu:Int),.pointer rv] 148):=by rw [hW3];exact Qf _ _
 have r0:W3.cell? ⟨w.heap.size,0,none⟩=some (.int .i64 0):=Ja hr3
 have r1:W3.cell? ⟨w.heap.size,1,none⟩=some (.pointer none):=Ja hr3
 have fR:∀j,W3.frozen? ⟨w.heap.size,j,none⟩=false:=λj=>Qg _ _ _ _ _ hr3
 have q1:W3.cell? ⟨w2.heap.size,1,none⟩=some (.int .i64 (bu:Int)):=Ja hq3
 have q2:W3.cell? ⟨w2.heap.size,2,none⟩=some (.pointer rv):=Ja hq3
 have HR3:Hid _:=hr3
 have HW3:Hid (W3=_):=hW3
 have HT3:Hid (Tch NoB w W3):=(HA.o.go ht2).go t3
 clear ht2 hr2 t3 hr3 hq3 hW3 HAT HR HA HW c1
 go_upto_region 4 with fail
 rw [<-HW3.o]
 go_wp2
 rw [set2 _ _ _ _ _ _ _ HR3.o]
 refine QJ (v:=.tuple #[.agg #[.int .i64 (bu:Int),.pointer rv],.nilIface]) (Jk results92 _ _ w.heap.size _ _ (0,0) _ rfl (Qi _ _ _ _ _ _ HR3.o) underlying146 rfl (by kernel_rfl)) rfl ⟨rfl,?_⟩
 exact HT3.o.trans (Ts _ _ _) (λj hj=>.inr (by omega))
theorem JfN (E:Nat->Addr) {w:World} (hE:Env E w) {cb wd fl r:Nat} {bs:List BV} {v:Value} (h:Js w cb wd fl r bs v) (k:Int) (hk:k<(fl:Int)):
  Calls prog 92 #[.pointer (some ⟨cb,0,none⟩),.int .i64 k] w λe w'=>∃t u,e=.returned (.tuple #[Jt 0 none,.iface t u])/\Jl E 5 w' (.iface t u)/\Tch NoB w w':=by
 obtain ⟨W,hW⟩:∃W,W=w.alloc (.cells #[.int .i64 0,.pointer none] 146):=⟨_,rfl⟩
 have hA:Tch NoB w W:=by rw [hW];exact Ta _ _ _
 have c1:W.cell? ⟨cb,1,none⟩=some (.int .i64 (fl:Int)):=Ja (h.next hA).row
 have hrg:=(hE.tch hA noE).range
 have hsz:=(hE.tch hA noE).size
 have hGs:5<W.heap.size:=Qk (by decide) hsz
 have hrow:W.heap[w.heap.size]? =some (.cells #[.int .i64 0,.pointer none] 146):=by rw [hW];exact Qf _ _
 have r0:W.cell? ⟨w.heap.size,0,none⟩=some (.int .i64 0):=Ja hrow
 have r1:W.cell? ⟨w.heap.size,1,none⟩=some (.pointer none):=Ja hrow
 have fR:∀j,W.frozen? ⟨w.heap.size,j,none⟩=false:=λj=>Qg _ _ _ _ _ hrow
 have HW:Hid _:=hW
 have HR:Hid _:=hrow
 have HA:Hid _:=hA
 have hz:w.heap.size<W.heap.size:=(Jb hrow)
 show Calls _ _ _ _ λe w'=>∃t u,e=.returned (.tuple #[.agg #[.int .i64 0,.pointer none],.iface t u])/\_
 clear h hW hrow hA hE hsz
 go_enter func92,ntmps92
 go_upto_region 1 with fail
 rw [<-HW.o]
 go_wp2_with fail
 refine (XL _ _ _ _).mono ?_
 rintro _ _ ⟨rfl,rfl⟩
 have hrow2:(W.alloc (.cells #[.string ⟨#[104,101,105,103,104,116]⟩,eV E 5] 237)).heap[w.heap.size]? =some (.cells #[.int .i64 0,.pointer none] 146):=(Below.heap_alloc W _ _ hz).trans HR.o
 have hpl:=Qf W (.cells #[.string ⟨#[104,101,105,103,104,116]⟩,eV E 5] 237)
 have t2:=Ta NoB W (.cells #[.string ⟨#[104,101,105,103,104,116]⟩,eV E 5] 237)
 have HR2:Hid (_=_):=hrow2
 have HPL:Hid (_=_):=hpl
 have HT2:Hid _:=t2
 have r0:(W.alloc (.cells #[.string ⟨#[104,101,105,103,104,116]⟩,eV E 5] 237)).cell? ⟨w.heap.size,0,none⟩=some (.int .i64 0):=Ja hrow2
 have r1:(W.alloc (.cells #[.string ⟨#[104,101,105,103,104,116]⟩,eV E 5] 237)).cell? ⟨w.heap.size,1,none⟩=some (.pointer none):=Ja hrow2
 have fR:∀j,(W.alloc (.cells #[.string ⟨#[104,101,105,103,104,116]⟩,eV E 5] 237)).frozen? ⟨w.heap.size,j,none⟩=false:=λj=>Qg _ _ _ _ _ hrow2
 clear hrow2 hpl t2
 generalize W.alloc (.cells #[.string ⟨#[104,101,105,103,104,116]⟩,eV E 5] 237)=W2 at *
 go_wp2
 rw [set2 _ _ _ _ _ _ _ HR2.o]
 refine QJ (v:=.tuple #[.agg #[.int .i64 0,.pointer none],.iface 235 (.pointer (some ⟨W.heap.size,0,none⟩))]) (Jk results92 _ _ w.heap.size _ _ (0,0) _ rfl (Qi _ _ _ _ _ _ HR2.o) underlying146 rfl (by kernel_rfl)) rfl ⟨_,_,rfl,?_,?_⟩
 ·exact .wrap W.heap.size ⟨#[104,101,105,103,104,116]⟩ (eV E 5) ((setRow_other _ _ _ _ (by omega)).trans HPL.o) .base
 ·exact (HA.o.go HT2.o).trans (Ts _ _ _) (λj hj=>.inr (by omega))
theorem JeD (E:Nat->Addr) {w:World} (hE:Env E w) {cb wd fl r:Nat} {bs:List BV} {v:Value} (h:Js w cb wd fl r bs v) (k:Int) (hf:(fl:Int)<=k) (hk:¬(0<=k/\k<bs.length)):
  Calls prog 92 #[.pointer (some ⟨cb,0,none⟩),.int .i64 k] w λe w'=>∃t u,e=.returned (.tuple #[Jt 0 none,.iface t u])/\Jl E 5 w' (.iface t u)/\Tch NoB w w':=by
 obtain ⟨W,hW⟩:∃W,W=w.alloc (.cells #[.int .i64 0,.pointer none] 146):=⟨_,rfl⟩
 have hA:Tch NoB w W:=by rw [hW];exact Ta _ _ _
 have c1:W.cell? ⟨cb,1,none⟩=some (.int .i64 (fl:Int)):=Ja (h.next hA).row
 have HAT:Hid (Calls _ _ _ _ _):=Jjp E (hE.tch hA noE) (h.next hA) k hk
 have hrow:W.heap[w.heap.size]? =some (.cells #[.int .i64 0,.pointer none] 146):=by rw [hW];exact Qf _ _
 have HW:Hid _:=hW
 have HR:Hid _:=hrow
 have HA:Hid _:=hA
 simp only [bV,Jh,Option.map_none] at HAT
 show Calls _ _ _ _ λe w'=>∃t u,e=.returned (.tuple #[.agg #[.int .i64 0,.pointer none],.iface t u])/\_
 have hlt:¬k<(fl:Int):=by omega
 clear h hk hW hrow hA hf hE
 go_enter func92,ntmps92
 go_upto_region 1 with fail
 rw [<-HW.o]
 go_wp2_with fail
 refine HAT.o.mono ?_
 rintro _ w2 ⟨t,u,rfl,he2,ht2⟩
 have hr2:w2.heap[w.heap.size]? =some (.cells #[.int .i64 0,.pointer none] 146):=(ht2.block _ (Jb HR.o) (λh=>h)).trans HR.o
 have hz2:=(Jb hr2)
 obtain ⟨W3,hW3⟩:∃W3,W3=w2.alloc (.cells #[.string ⟨#[]⟩,.int .i64 0,.pointer none] 148):=⟨_,rfl⟩
 have t3:Tch NoB w2 W3:=by rw [hW3];exact Ta _ _ _
 have hr3:W3.heap[w.heap.size]? =some (.cells #[.int .i64 0,.pointer none] 146):=(t3.block _ hz2 (λh=>h)).trans hr2
 have hq3:W3.heap[w2.heap.size]? =some (.cells #[.string ⟨#[]⟩,.int .i64 0,.pointer none] 148):=by rw [hW3];exact Qf _ _
 have r0:W3.cell? ⟨w.heap.size,0,none⟩=some (.int .i64 0):=Ja hr3
 have r1:W3.cell? ⟨w.heap.size,1,none⟩=some (.pointer none):=Ja hr3
 have fR:∀j,W3.frozen? ⟨w.heap.size,j,none⟩=false:=λj=>Qg _ _ _ _ _ hr3
 have q1:W3.cell? ⟨w2.heap.size,1,none⟩=some (.int .i64 0):=Ja hq3
 have q2:W3.cell? ⟨w2.heap.size,2,none⟩=some (.pointer none):=Ja hq3
 have HR3:Hid _:=hr3
 have HW3:Hid (W3=_):=hW3
 have HT3:Hid (Tch NoB w W3):=(HA.o.go ht2).go t3
 have HE3:Hid (Jl E 5 W3 (.iface t u)):=he2.tch t3 (λ_ _ _ _ h=>h)
 clear ht2 hr2 t3 hr3 hq3 hW3 HAT HR HA HW c1 he2
 go_upto_region 4 with fail
 rw [<-HW3.o]
 go_wp2
 rw [set2 _ _ _ _ _ _ _ HR3.o]
 refine QJ (v:=.tuple #[.agg #[.int .i64 0,.pointer none],.iface t u]) (Jk results92 _ _ w.heap.size _ _ (0,0) _ rfl (Qi _ _ _ _ _ _ HR3.o) underlying146 rfl (by kernel_rfl)) rfl ⟨_,_,rfl,?_,?_⟩
 ·exact HE3.o.tch (Ts _ _ _) (λj c x hj e=>by rw [e,HR3.o] at hj;simp at hj)
 ·exact HT3.o.trans (Ts _ _ _) (λj hj=>.inr (by omega))
theorem Jau (E:Nat->Addr) {w:World} (hE:Env E w) {cb wd fl r:Nat} {bs:List BV} {v:Value} (h:Js w cb wd fl r bs v) (k:Int) (hk:¬((fl:Int)<=k/\k<bs.length)):
  Calls prog 92 #[.pointer (some ⟨cb,0,none⟩),.int .i64 k] w λe w'=>∃t u,e=.returned (.tuple #[Jt 0 none,.iface t u])/\Jl E 5 w' (.iface t u)/\Tch NoB w w':=by
 by_cases hf:k<(fl:Int)
 ·exact JfN E hE h k hf
 ·exact JeD E hE h k (by omega) (by omega)
theorem Jiv (E:Nat->Addr) {w:World} (hE:Env E w) {cb wd fl r:Nat} {bs:List BV} {v:Value} (h:Js w cb wd fl r bs v) (k:Int) (hk:¬((fl:Int)<=k/\k<bs.length)) (c:BA×Int):
  Calls prog 50 #[.pointer (some ⟨cb,0,none⟩),.int .i64 k,.agg #[.string c.1,.int .i64 c.2]] w λe w'=>Tch NoB w w'/\∃t u,e=.returned (.tuple #[.string ⟨#[]⟩,.iface t u])/\Jl E 5 w' (.iface t u):=by
 obtain ⟨s,N⟩:=c
 have HS:Hid (∀W,Tch NoB w W->Calls prog 92 #[.pointer (some ⟨cb,0,none⟩),.int .i64 k] W λe w'=>∃t u,e=.returned (.tuple #[.agg #[.int .i64 0,.pointer none],.iface t u])/\Jl E 5 w' (.iface t u)/\Tch NoB W w'):=λW hT=>Jau E (hE.tch hT noE) (h.next hT) k hk
 clear hE h hk
 dsimp only
 go_enter func50,ntmps50
 go_wp2_with fail
 refine (HS.o _ (Ta NoB w _)).mono ?_
 rintro _ w1 ⟨t,u,rfl,he,ht⟩
 have HT:Hid (Tch NoB w w1):=(Ta NoB w _).go ht
 have HE:Hid _:=he
 clear he ht HS
 go_wp2
 go_ret2
 exact ⟨HT.o.go (Ta _ _ _),_,_,rfl,HE.o.tch (Ta NoB w1 _) (λ_ _ _ _ h=>h)⟩
theorem Jkg (E:Nat->Addr) {w:World} (hE:Env E w) {cb wd fl r:Nat} {bs:List BV} {v:Value} (h:Js w cb wd fl r bs v) (k:Nat) (b:BV) (hk:bs[k]? =some b) (hf:fl<=k) (hw:wd<=32) (F:Nat->Prop) (st:Option Tr) (hb:b.2.1=wd) (hs:StAt (dgW wd) F w b.2.2 st) (hok:∀t,st=some t->t.Wf/\TrOk wd t) (c:BA×Int) (hc:Ji wd c):
  Calls prog 50 #[.pointer (some ⟨cb,0,none⟩),.int .i64 (k:Int),.agg #[.string c.1,.int .i64 c.2]] w λe w'=>Tch NoB w w'/\e=.returned (.tuple #[.string ⟨(wayB (Yx (dgW wd) (Jd c) st)).toArray⟩,.nilIface]):=by
 have HS:Hid (∀W,Tch NoB w W->Calls prog 92 _ W _):=λW hT=>Jc3 (h.next hT) k b hk hf
 have HP:Hid (∀W,Tch NoB w W->Calls prog 93 _ W _):=λW hT=>Jke E wd hw F b.2.2 st c hc W (hE.tch hT noE) (hs.next hT) hok
 rw [hb] at HS
 obtain ⟨rv,hrv⟩:∃rv,Jt wd b.2.2=.agg #[.int .i64 (wd:Int),.pointer rv]:=⟨_,rfl⟩
 rw [hrv] at HS HP
 generalize (⟨(wayB (Yx (dgW wd) (Jd c) st)).toArray⟩:BA)=pf at *
 obtain ⟨s,N⟩:=c
 clear hE h hk hs hok hc hrv hb
 dsimp only at HP ⊢
 go_enter func50,ntmps50
 go_wp2_with fail
 refine (HS.o _ (Ta NoB w _)).mono ?_
 rintro _ w1 ⟨rfl,ht⟩
 have HT:Hid (Tch NoB w w1):=(Ta NoB w _).go ht
 have r1:w1.heap[w.heap.size]? =some (.cells #[.string s,.int .i64 N] 49):=(ht.block _ (by simp) (λh=>h)).trans (Qf _ _)
 have c0:w1.cell? ⟨w.heap.size,0,none⟩=some (.string s):=Ja r1
 have c1:w1.cell? ⟨w.heap.size,1,none⟩=some (.int .i64 N):=Ja r1
 have hz1:=(Jb r1)
 clear ht HS r1
 go_wp2_with fail
 refine (HP.o _ (HT.o.go (Ta _ _ _))).mono ?_
 rintro _ w2 ⟨rfl,ht2⟩
 have HT2:Hid (Tch NoB w w2):=(HT.o.go (Ta _ _ _)).go ht2
 clear ht2 HP
 go_wp2
 go_ret2
 exact ⟨HT2.o,rfl⟩
