import Derived.Test.YtighkdnooglfjaaGreatDoorScChJ
namespace Go.Proofs.YtighkdnooglfjaaGreatDoor
open Go.Proofs.Tryz
set_option maxRecDepth 100000
set_option maxHeartbeats 2000000
open Go.RowKit

def Xr (wd:Nat) (outs:List (Nat×Nat)):List UInt8:=beL wd 1 1++Xi outs
theorem Jjg (E:Nat->Addr) (b:Nat) (hb12:18<=b) (wd:Nat) (hw:wd<=32) (ia:Option Addr) (ic n:Nat) (outs:List (Nat×Nat)) (ho:∀o∈outs,Jq o) (h1:1<=outs.length) (h3:outs.length<=3) (w:World) (hE:Env E w) (hp:Jc w b none (wd:Int) .nilIface (.wr [])) (hv:Jo b w (.slice ia n ic) outs):
  Calls prog 198 #[.pointer (some ⟨b,0,none⟩),.agg #[.int .i64 (wd:Int),.slice ia n ic]] w λe w'=>(∃v0,e=.returned (.agg #[.int .i64 (wd:Int),v0]))/\StTo E w w' b none (wd:Int) (some (.wr (Xr wd outs))):=by
 have hlt:=hp.lt
 have HR0:=Run.start hb12 hE (show Jf E w b none (wd:Int) (some (.wr [])) from hp) (Tch.allocs NoB w (.cells #[.int .i64 (wd:Int),.slice ia n ic] 333) (.cells #[.int .i64 0,.slice none 0 0] 333))
 have hnum:(PS.wr []).num wd 1=some (wd,.wr (beL wd 1 1)):=by simp only [PS.num];rw [if_pos (by omega)];rfl
 have HN:Hid (∀w1 g1,Jc w1 b g1 (wd:Int) .nilIface (.wr [])->Calls prog 138 #[.pointer (some ⟨b,0,none⟩),.int .u64 (wd:Int),.int .i64 1] w1 λe w'=>e=.returned (.int .u64 (wd:Int))/\StTo E w1 w' b g1 (wd:Int) (some (.wr (beL wd 1 1)))):=λw1 g1 h=>Xg b g1 wd wd 1 wd (.wr []) _ w1 h (by omega) (by simp [PS.len]) hnum
 have HF:Hid (∀w1 g1,Env E w1->Jc w1 b g1 (wd:Int) .nilIface (.wr (beL wd 1 1))->Jo b w1 (.slice ia n ic) outs->Calls prog 188 #[.pointer (some ⟨b,0,none⟩),.slice ia n ic] w1 λe w'=>∃gp,e=.returned (.slice (some ⟨gp,0,none⟩) outs.length outs.length)/\StTo E w1 w' b g1 (wd:Int) (some (.wr (Xr wd outs)))):=λw1 g1 hE1 hp1 hv1=>by
  have hr:=(Jb9 1 3 outs ho h1 h3 (by omega)).wr (beL wd 1 1)
  have:=Jag E b hb12 g1 wd _ outs (.wr (beL wd 1 1)) w1 hE1 hp1 hv1 (by omega) (Ya _ _) (λx hx=>(ho x hx).2) (by simp only [PS.len,Jg];omega)
  rw [hr] at this
  refine this.mono λe w' k=>?_
  obtain ⟨gp,k1,_,_,g',k4,_,k6,k7⟩:=k
  exact ⟨gp,k1,g',k4,k6,k7⟩
 have hu:IntKind.u64.wrap (wd:Int)=(wd:Int):=Jw _ (by omega) (by omega)
 have hi:IntKind.i64.wrap (wd:Int)=(wd:Int):=JG _ (by omega) (by omega)
 have HV:Hid (Jo b w (.slice ia n ic) outs):=hv
 have RUN:Hid _:=HR0
 clear hE hp HR0 hnum hv ho h1 h3
 go_enter func198,ntmps198
 go_wp2_with fail
 refine (HN.o _ _ RUN.out.port).mono ?_
 rintro _ w1 ⟨rfl,h⟩
 obtain ⟨g1,R1⟩:=RUN.out.step h
 have bx1:=(R1.box (k:=w.heap.size) (Ql _) (heap_alloc2_old _ _ _)).1
 have c1:w1.cell? ⟨w.heap.size,1,none⟩=some (.slice ia n ic):=Ja bx1
 have RUN1:Hid _:=R1
 have HV1:Hid (Jo b w1 (.slice ia n ic) outs):=by
  obtain ⟨g',_,_,t1⟩:=R1.to
  exact HV.o.tch t1 (λj hj=>by rcases hj with h | h;omega;cases h)
 clear R1 bx1 h HN HV
 go_wp2_with fail
 refine (HF.o _ _ RUN1.out.env RUN1.out.port HV1.o).mono ?_
 rintro _ w4 ⟨gp,rfl,h⟩
 obtain ⟨g4,R4⟩:=RUN1.out.step h
 have rR:=(R4.box (k:=w.heap.size+1) (by omega) (heap_alloc2_new _ _ _)).1
 have e0:w4.cell? ⟨w.heap.size+1,0,none⟩=some (.int .i64 0):=Ja rR
 have e1:w4.cell? ⟨w.heap.size+1,1,none⟩=some (.slice none 0 0):=Ja rR
 have fR:∀j,w4.frozen? ⟨w.heap.size+1,j,none⟩=false:=λj=>Qg _ _ _ _ _ rR
 have RUN4:Hid _:=R4
 have RR:Hid (_=_):=rR
 clear R4 rR h HF c1
 go_wp2
 rw [JkB _ _ _ _ _ _ _ RR.out]
 exact QJ (v:=.agg #[.int .i64 (wd:Int),.slice (some ⟨gp,0,none⟩) outs.length outs.length]) (Qq results198 _ _ (w.heap.size+1) _ _ (0,0) _ rfl (Qi _ _ _ _ _ _ RR.out) underlying333 rfl (by kernel_rfl)) rfl ⟨⟨_,rfl⟩,RUN4.out.done (k:=w.heap.size+1) (by omega) (heap_alloc2_new _ _ _) (by decide)⟩
theorem Jbx (E:Nat->Addr) {w:World} (hE:Env E w) {cb wd fl r:Nat} (hw:wd<=32) {bs:List BV} {lv:Value} (h:JI w cb wd fl r bs lv) (base:Nat) (hbase:base<=w.heap.size) (lg:List UInt8) (hl:Xj base w lv lg) (hll:lg.length<=140737488000000) (v:Value) (outs:List (Nat×Nat)) (ho:∀o∈outs,Jq o) (h1:1<=outs.length) (h3:outs.length<=3) (hv:Jo w.heap.size w v outs):
  Calls prog 129 #[.pointer (some ⟨cb,0,none⟩),v] w λe w'=>e=.returned .nilIface/\∃lv',JI w' cb wd fl r bs lv'/\Xj base w' lv' (lg++recB [71] (Xr wd outs))/\Tch (λk=>k=cb\/some k=lv.ownBlock) w w'/\Jn w lv.ownBlock lv'.ownBlock:=by
 have hsz:=hE.size
 have hcb:=(Jb h.row)
 have c0:w.cell? ⟨cb,0,none⟩=some (.int .i64 (wd:Int)):=Ja h.row
 obtain ⟨ia,ic,hvs⟩:=hv.shape
 subst hvs
 have hlen:(Xr wd outs).length<=100:=by
  have:∀l:List (Nat×Nat),(l.flatMap outB).length=l.length * 9:=by
   intro l
   induction l with
   | nil=>rfl
   | cons x r ih=>rw [QG,Qe,ih];unfold outB;simp only [Qe,Jg,Qp];omega
  unfold Xr Xi
  rw [Qe,Qe,Jg,Jg,this]
  omega
 obtain ⟨sb,hsb⟩:∃sb:BA,sb=⟨(Xr wd outs).toArray⟩:=⟨_,rfl⟩
 have HST:Hid (∀W,Tch NoB w W->Jc W w.heap.size none (wd:Int) .nilIface (.wr [])->Calls prog 198 #[.pointer (some ⟨w.heap.size,0,none⟩),.agg #[.int .i64 (wd:Int),.slice ia outs.length ic]] W λe w'=>(∃v0,e=.returned (.agg #[.int .i64 (wd:Int),v0]))/\StTo E W w' w.heap.size none (wd:Int) (some (.wr (Xr wd outs)))):=λW hT hp=>
  Jjg E w.heap.size hsz wd hw ia ic outs.length outs ho h1 h3 W (hE.tch hT noE) hp (hv.tch hT noE)
 have HWD:Hid (∀W g,Jf E W w.heap.size g (wd:Int) (some (.wr (Xr wd outs)))->Calls prog 79 #[.pointer (some ⟨w.heap.size,0,none⟩)] W λe w'=>Tch NoB W w'/\e=.returned (.tuple #[.string sb,.nilIface])):=λW g hp=>by
  rw [hsb];exact ZT E w.heap.size g wd (some (.wr (Xr wd outs))) (λp hp=>⟨_,(Option.some.inj hp).symm⟩) W hp
 have HRC:Hid (∀W,Tch NoB w W->Calls prog 89 #[.pointer (some ⟨cb,0,none⟩),.string ⟨#[71]⟩,.string sb] W λe w'=>e=.returned .nilIface/\∃lv',JI w' cb wd fl r bs lv'/\Xj base w' lv' (lg++recB [71] (Xr wd outs))/\Tch (λk=>k=cb\/some k=lv.ownBlock) W w'/\Jn W lv.ownBlock lv'.ownBlock):=λW hT=>by
  have:=Jb5 E (hE.tch hT noE) (h.next hT) base (Qm hbase hT.size) lg (hl.next hT) hll ⟨#[71]⟩ sb rfl (by rw [hsb,JB];omega)
  have e:sb.data.toList=Xr wd outs:=by rw [hsb]
  rw [e] at this
  exact this
 clear hE h hbase hl hll ho h1 h3 hv hlen hsb
 go_enter func129,ntmps129
 go_wp2_with fail
 refine (JX _ _).mono ?_
 rintro _ w1 ⟨rfl,hp1,ht1⟩
 have HT1:Hid _:=ht1
 have HT1d:Hid (Tch NoB w w1.drew):=ht1.dr 1
 have HP1:Hid (Jc w1.drew w.heap.size none (wd:Int) .nilIface (.wr [])):=hp1.tch (Td NoB w1 1) (λh=>h) (λ_ _ h=>h)
 have d0:w1.cell? ⟨cb,0,none⟩=some (.int .i64 (wd:Int)):=(ht1.cell (p:=⟨cb,0,none⟩) hcb (λh=>h)).trans c0
 have hcb1:cb<w1.heap.size:=Qk hcb ht1.size
 clear ht1 hp1 c0
 go_upto_region 2 with fail
 go_cut [] (λwx=>∃g2,Hid (Jf E wx w.heap.size g2 (wd:Int) (some (.wr (Xr wd outs))))/\Hid (Tch NoB w wx))
 case first=>
  go_region_held3 (λW=>W.cell? ⟨cb,0,none⟩=some (.int .i64 (wd:Int))) (go_keep) ((go_at_call 198;refine (HST.o w1.drew HT1d.o HP1.o).mono ?_;rintro _ w2 ⟨⟨v0,rfl⟩,g2,hp2,hm2,ht2⟩;have hT2:Tch NoB w w2:=Xt (b:=w.heap.size) (Ql _) HT1d.o ht2;have e0:w2.cell? ⟨cb,0,none⟩=some (.int .i64 (wd:Int)):=(ht2.cell (p:=⟨cb,0,none⟩) hcb1 (λe=>by rcases e with e | e;simp only at e;omega;cases e)).trans d0;have HT2:Hid _:=hT2;have HP2:Hid _:=hp2;clear hp2 hm2 ht2 hT2))
  all_goals
   go_wp2
   go_meet
   exact ⟨g2,HP2,HT2⟩
 case rest=>
 obtain ⟨g2,HP2,HT2⟩:=hcut
 obtain ⟨w2,hw2⟩:∃w2,w2=wc:=⟨wc,rfl⟩
 subst hw2
 clear HST HT1d HP1 d0
 go_wp2_with fail
 refine (HWD.o w2 g2 HP2.o).mono ?_
 rintro _ w3 ⟨ht3,rfl⟩
 have HT3:Hid (Tch NoB w w3):=HT2.o.go ht3
 clear ht3 HP2 HT2 HWD
 go_wp2_with fail
 refine (HRC.o w3 HT3.o).mono ?_
 rintro _ w4 ⟨rfl,lv',k1,k2,k3,k4⟩
 have HK:Hid (JI w4 cb wd fl r bs lv'/\Xj base w4 lv' (lg++recB [71] (Xr wd outs))/\Tch (λk=>k=cb\/some k=lv.ownBlock) w3 w4/\Jn w3 lv.ownBlock lv'.ownBlock):=⟨k1,k2,k3,k4⟩
 clear k1 k2 k3 k4 HRC
 go_wp2
 go_ret
 refine ⟨rfl,lv',HK.o.1,HK.o.2.1,(HT3.o.mono noE).trans HK.o.2.2.1 (λj hj=>.inl hj),?_⟩
 rcases HK.o.2.2.2 with h | ⟨k,h,hk⟩
 ·exact .inl h
 ·exact .inr ⟨k,h,Qm HT3.o.size hk⟩

theorem JgK (wd:Nat) (w:World):Calls prog 127 #[.int .i64 (wd:Int)] w λe w'=>e=.returned (.agg #[.int .i64 (wd:Int),.pointer none])/\Tch NoB w w':=by
 go_enter func127,ntmps127
 go_wp2
 exact QJ (v:=.agg #[.int .i64 (wd:Int),.pointer none]) (Qq results127 _ _ w.heap.size _ _ (0,0) _ rfl (Qf _ _) underlying146 rfl (by kernel_rfl)) rfl ⟨rfl,Ta _ _ _⟩
theorem Jg8 (W:World):(Instr.makeMap 141 none).run prog W=.ok (.map (some W.heap.size)) (W.alloc (.map #[] 0)):=by
 simp [Instr.makeMap,Result.andThen]
theorem outsB?_ok {outs:List (Nat×Nat)} (ho:∀o∈outs,Jq o) (h1:1<=outs.length) (h3:outs.length<=3):outsB? outs=some (Xi outs):=by
 unfold outsB?
 rw [(Jb9 1 3 outs ho h1 h3 (by omega)).wr]
 rfl
def Jcr (n:Nat):BA:=⟨(List.replicate n (0:UInt8)).toArray⟩
def Yx (wd:Nat) (outs:List (Nat×Nat)) (st:Option Tr):HdL:=(0,Jcr wd,dgW wd (71 :: Xi outs),Xc (dgW wd) st)
def Jks (wd base:Nat) (outs:List (Nat×Nat)) (st:Option Tr) (w:World) (e:Ending) (w':World):Prop:=
 Tch NoB w w'/\∃cb r q lv,e=.returned (.tuple #[.pointer (some ⟨cb,0,none⟩),.nilIface])/\w.heap.size<=cb/\w.heap.size<=r/\JI w' cb wd 0 r [(⟨(hdrB (Yx wd outs st)).toArray⟩,wd,q)] lv/\StAt (dgW wd) (λj=>w.heap.size<=j) w' q st/\StOk wd st/\Xj base w' lv (recB [71] (Xr wd outs))/\∀k,lv.ownBlock=some k->w.heap.size<=k
theorem JgA (E:Nat->Addr) (wd:Nat) (hw1:1<=wd) (hw:wd<=32) (v:Value) (outs:List (Nat×Nat)) (ho:∀o∈outs,Jq o) (h1:1<=outs.length) (h3:outs.length<=3) (w:World) (hE:Env E w) (hv:Jo w.heap.size w v outs) (base:Nat) (hbase:base<=w.heap.size) (st:Option Tr) (hrec:JM (dgW wd (71 :: Xi outs)) 0 outs none=.ok st):
  Calls prog 72 #[.int .i64 (wd:Int),v] w λe w'=>Jks wd base outs st w e w':=by
 obtain ⟨ia,ic,hvs⟩:=hv.shape
 subst hvs
 obtain ⟨id,hid⟩:∃id,id=dgW wd (71 :: Xi outs):=⟨_,rfl⟩
 have hids:id.size=wd:=by rw [hid];exact Jp wd hw _
 obtain ⟨hd,hhd⟩:∃hd:BA,hd=⟨(hdrB (Yx wd outs st)).toArray⟩:=⟨_,rfl⟩
 obtain ⟨zs,hzs⟩:∃zs,zs=Jcr wd:=⟨_,rfl⟩
 obtain ⟨sd,hsd⟩:∃sd,sd=Xc (dgW wd) st:=⟨_,rfl⟩
 have HE:Hid (Env E w):=hE
 have HV:Hid _:=hv
 have HCW:Hid (Calls prog 124 #[.int .i64 (wd:Int)] w λe w'=>e=.returned .nilIface/\w=w'):=YZ wd w hw1 hw
 have HID:Hid (Calls prog 125 #[.int .i64 (wd:Int),.slice ia outs.length ic] w λe w'=>Tch NoB w w'/\e=.returned (.tuple #[.string id,.nilIface])):=by
  have:=Jen E wd hw1 hw _ outs w hE hv (by omega) (λx hx=>(ho x hx).2)
  rw [outsB?_ok ho h1 h3] at this
  rw [hid]
  exact this
 have HRV:Hid (∀W,Tch NoB w W->Calls prog 126 #[.agg #[.int .i64 (wd:Int),.pointer none],.string id,.slice ia outs.length ic] W λe w'=>Tch NoB W w'/\∃(q:Option Nat) (rv:Option Addr),Jh q=.pointer rv/\e=.returned (.tuple #[.agg #[.int .i64 (wd:Int),.pointer rv],.nilIface])/\StAt (dgW wd) (λj=>w.heap.size<=j) w' q st/\StOk wd st):=λW hT=>by
  have:=Jbr E wd hw1 hw (λj=>w.heap.size<=j) none none id hids _ outs ho h3 W (hE.tch hT noE) (λj hj=>Qm hT.size hj) ((hv.tch hT noE).up hT.size) trivial trivial
  rw [hid,hrec,<-hid] at this
  refine this.mono λe w' k=>⟨k.1,?_⟩
  obtain ⟨q,k1,k2,k3⟩:=k.2
  exact ⟨q,_,rfl,k1,k2,k3⟩
 have HRP:Hid (∀W,Calls prog 128 #[.string ⟨#[0]⟩,.int .i64 (wd:Int)] W λe w'=>e=.returned (.string zs)/\Tch NoB W w'):=λW=>by rw [hzs];exact JfB wd hw1 hw W
 have HDG:Hid (∀W q,Tch NoB w W->StAt (dgW wd) (λj=>w.heap.size<=j) W q st->Calls prog 83 #[Jv wd q] W λe w'=>e=.returned (.string sd)/\Tch NoB W w'):=λW q hT k=>by rw [hsd];exact YP E wd hw1 hw _ q st W (hE.tch hT noE) k
 have HHB:Hid (∀W,Tch NoB w W->Calls prog 84 #[.int .i64 (wd:Int),.agg #[.int .u64 0,.string zs,.string id,.string sd]] W λe w'=>e=.returned (.tuple #[.string hd,.nilIface])/\Tch NoB W w'):=λW hT=>by
  have:=Zz E wd (by omega) 0 zs id sd W (hE.tch hT noE)
  refine this.mono λe w' k=>?_
  obtain ⟨k1,k2⟩:=k
  have hz:zs.size=wd:=by rw [hzs];unfold Jcr;rw [JB,List.length_replicate]
  rw [Jix ⟨by show 0<2 ^ 32;omega,hz,hids,by show sd.size=wd;rw [hsd];exact XN _ wd (Jp wd hw) st⟩] at k2
  rw [hhd]
  unfold Yx
  rw [<-hzs,<-hid,<-hsd]
  exact ⟨k2,k1⟩
 have HRS:Hid (∀W cb r q,Tch NoB w W->JI W cb wd 0 r [(hd,wd,q)] (.slice none 0 0)->Calls prog 129 #[.pointer (some ⟨cb,0,none⟩),.slice ia outs.length ic] W λe w'=>e=.returned .nilIface/\∃lv',JI w' cb wd 0 r [(hd,wd,q)] lv'/\Xj base w' lv' (recB [71] (Xr wd outs))/\Tch (λk=>k=cb) W w'/\(∀k,lv'.ownBlock=some k->W.heap.size<=k)):=λW cb r q hT hR=>by
  refine (Jbx E (hE.tch hT noE) hw hR base (Qm hbase hT.size) [] ⟨Bs.nil _ _,λk hk=>by cases hk⟩ (by simp) _ outs ho h1 h3 ((hv.tch hT noE).up hT.size)).mono ?_
  rintro e w' ⟨k0,lv',k1,k2,k3,k4⟩
  refine ⟨k0,lv',k1,k2,k3.mono (λj hj=>?_),λk hk=>?_⟩
  ·rcases hj with h | h
   ·exact .inl h
   ·cases h
  ·rcases k4 with h | ⟨j,h,hj⟩
   ·rw [hk] at h;cases h
   ·rw [hk] at h;cases h;exact hj
 have hmk:=Jg8
 unfold Jks
 rw [<-hhd]
 clear hE hv hrec hid hhd hzs hsd hids ho h1 h3 hbase
 go_enter func72,ntmps72
 go_wp2_with fail
 refine HCW.o.mono ?_
 rintro _ _ ⟨rfl,rfl⟩
 go_wp2_with fail
 refine HID.o.mono ?_
 rintro _ w1 ⟨ht1,rfl⟩
 have HT1:Hid _:=ht1
 clear ht1 HID HCW
 go_wp2_with fail
 refine (JgK wd w1).mono ?_
 rintro _ w2 ⟨rfl,ht2⟩
 have HT2:Hid (Tch NoB w w2):=HT1.o.go ht2
 clear ht2 HT1
 go_wp2_with fail
 refine (HRV.o w2 HT2.o).mono ?_
 rintro _ w3 ⟨ht3,q,rv,hq,rfl,hs3,hk3⟩
 have hA:=Ta NoB w3 (.cells #[.int .i64 (wd:Int),.pointer rv] 146)
 obtain ⟨w4,hw4⟩:∃w4,w4=w3.alloc (.cells #[.int .i64 (wd:Int),.pointer rv] 146):=⟨_,rfl⟩
 obtain ⟨k4,hk4⟩:∃k4,k4=w3.heap.size:=⟨_,rfl⟩
 have HT4:Hid (Tch NoB w w4):=by rw [hw4];exact (HT2.o.go ht3).go hA
 have HS4:Hid (StAt (dgW wd) (λj=>w.heap.size<=j) w4 q st/\StOk wd st):=by rw [hw4];exact ⟨hs3.next hA,hk3⟩
 have hr4:w4.heap[k4]? =some (.cells #[.int .i64 (wd:Int),.pointer rv] 146):=by rw [hw4,hk4];exact Qf _ _
 have HQ:Hid _:=hq
 go_upto_region 8 with fail
 rw [<-hw4,<-hk4]
 have s0:w4.cell? ⟨k4,0,none⟩=some (.int .i64 (wd:Int)):=Ja hr4
 have s1:w4.cell? ⟨k4,1,none⟩=some (.pointer rv):=Ja hr4
 have hz4:k4<w4.heap.size:=(Jb hr4)
 have HR4:Hid _:=hr4
 have HDI:Hid (∀W,Tch NoB w4 W->Calls prog 83 #[.agg #[.int .i64 (wd:Int),.pointer rv]] W λe w'=>e=.returned (.string sd)/\Tch NoB W w'):=λW hT=>by
  have:=HDG.o W q (HT4.o.go hT) (HS4.o.1.next hT)
  unfold Jv at this
  rw [HQ.o] at this
  exact this
 have HT44:Hid (Tch NoB w4 w4.drew):=Td _ w4 1
 have HCE:Hid (∀W,Tch NoB w4 W->W.cell? ⟨k4,0,none⟩=some (.int .i64 (wd:Int))/\W.cell? ⟨k4,1,none⟩=some (.pointer rv)):=λW hT=>⟨(hT.cell (p:=⟨k4,0,none⟩) hz4 (λh=>h)).trans s0,(hT.cell (p:=⟨k4,1,none⟩) hz4 (λh=>h)).trans s1⟩
 clear hA hw4 hk4 hs3 hk3 hq ht3 hr4 HDG HRV HT2
 go_upto_region 10 with fail
 go_cut [10,8] (λvh ve wx=>vh=.string hd/\ve=.nilIface/\Hid (Tch NoB w4 wx))
 case first=>
  go_region_held3 (λW=>W.cell? ⟨k4,0,none⟩=some (.int .i64 (wd:Int))/\W.cell? ⟨k4,1,none⟩=some (.pointer rv)) (go_keep) ((first | (go_at_call 128;refine (HRP.o _).mono ?_;rintro _ wA ⟨rfl,htA⟩;have HTA:Hid (Tch NoB w4 wA):=(by first | exact HT44.o.go htA | exact HTB.o.go htA);obtain ⟨xa0,xa1⟩:=HCE.o wA HTA.o;clear htA) | (go_at_call 83;refine (HDI.o _ (by first | exact HT44.o | exact HTA.o)).mono ?_;rintro _ wB ⟨rfl,htB⟩;have HTB:Hid (Tch NoB w4 wB):=(by first | exact HT44.o.go htB | exact HTA.o.go htB);obtain ⟨xb0,xb1⟩:=HCE.o wB HTB.o;clear htB) | (go_at_call 84;refine (HHB.o _ (HT4.o.go (by first | exact HTA.o | exact HTB.o))).mono ?_;rintro _ wC ⟨rfl,htC⟩;have HTC:Hid (Tch NoB w4 wC):=(by first | exact HTA.o.go htC | exact HTB.o.go htC);obtain ⟨xc0,xc1⟩:=HCE.o wC HTC.o;clear htC)))
  all_goals
   go_wp2
   go_meet
   exact ⟨rfl,rfl,HTC⟩
 case rest=>
 obtain ⟨rfl,rfl,HT45⟩:=hcut
 obtain ⟨w5,hw5⟩:∃w5,w5=wc:=⟨wc,rfl⟩
 subst hw5
 have HM5:Hid (Tch NoB w4 (w5.alloc (.map #[] 0))):=HT45.o.go (Ta _ _ _)
 obtain ⟨m0,m1⟩:=HCE.o _ HM5.o
 have hmz:(w5.alloc (.map #[] 0)).heap[w5.heap.size]? =some (.map (JK 0 []).toArray ([]:List BV).length):=Qf _ _
 have hins:=JbY hmz (hd,wd,q)
 unfold bV at hins
 rw [HQ.o] at hins
 have hins':(Instr.mapUpdate 141 (.map (some w5.heap.size)) (.int .i64 0) (.agg #[.string hd,.int .i64 (wd:Int),.pointer rv])).run prog (w5.alloc (.map #[] 0))=.ok () ((w5.alloc (.map #[] 0)).setBlocks w5.heap.size [(hd,wd,q)]):=hins
 have HMZ:Hid _:=hmz
 clear hins hmz HRP HHB HDI HT44 s0 s1
 go_upto_region 14 with fail
 obtain ⟨r,hr⟩:∃r,r=w5.heap.size:=⟨_,rfl⟩
 obtain ⟨w6,hw6⟩:∃w6,w6=(w5.alloc (.map #[] 0)).setBlocks w5.heap.size [(hd,wd,q)]:=⟨_,rfl⟩
 obtain ⟨cb,hcb⟩:∃cb,cb=w6.heap.size:=⟨_,rfl⟩
 obtain ⟨w7,hw7⟩:∃w7,w7=w6.alloc (.cells #[.int .i64 (wd:Int),.int .i64 0,.map (some r),.slice none 0 0] 143):=⟨_,rfl⟩
 have hw45:=HT45.o.size
 have hw4:=HT4.o.size
 have t6:Tch NoB w4 w6:=by rw [hw6];exact HM5.o.trans (Tch.setBlocks _ _ _) (λj hj=>.inr (by omega))
 have t67:Tch NoB w6 w7:=by rw [hw7];exact Ta _ _ _
 have hR7:JI w7 cb wd 0 r [(hd,wd,q)] (.slice none 0 0):=by
  refine ⟨by rw [hw7,hcb];exact Qf _ _,?_⟩
  have h6:w6.heap[r]? =some (.map (JK 0 [(hd,wd,q)]).toArray [(hd,wd,q)].length):=by rw [hw6,hr];exact ZQ HMZ.o _
  exact (t67.block r (Jb h6) (λh=>h)).trans h6
 have HT7:Hid (Tch NoB w w7):=(HT4.o.go t6).go t67
 have HR7:Hid _:=hR7
 have HS7:Hid (StAt (dgW wd) (λj=>w.heap.size<=j) w7 q st/\StOk wd st):=⟨(HS4.o.1.next t6).next t67,HS4.o.2⟩
 have HCR:Hid (w.heap.size<=cb/\w.heap.size<=r):=⟨by rw [hcb];exact Qm hw4 t6.size,by rw [hr];exact Qm hw4 hw45⟩
 rw [<-hr] at hw6 ⊢
 rw [<-hw6,<-hcb,<-hw7]
 clear hr hw6 hcb hw7 hw45 hw4 t6 t67 hR7 HMZ HM5 HT45 hins' m0 m1 hmk HS4 HT4 HCE HR4
 go_wp2_with fail
 refine (HRS.o w7 cb r q HT7.o HR7.o).mono ?_
 rintro _ w8 ⟨rfl,lv',k1,k2,k3,k4⟩
 have HK:Hid (JI w8 cb wd 0 r [(hd,wd,q)] lv'/\Xj base w8 lv' (recB [71] (Xr wd outs))/\Tch (λk=>k=cb) w7 w8/\(∀k,lv'.ownBlock=some k->w7.heap.size<=k)):=⟨k1,k2,k3,k4⟩
 clear k1 k2 k3 k4 HRS
 go_wp2
 go_ret2
 obtain ⟨k1,k2,k3,k4⟩:=HK.o
 have hst:=HS7.o.1.refine (G:=λj=>w.heap.size<=j/\¬j=cb) (λj hj hc=>⟨hj,λe=>(by obtain ⟨c,hc⟩:=hc;subst e;rw [HR7.o.row] at hc;simp at hc)⟩)
 exact ⟨HT7.o.trans k3 (λj hj=>.inr (by have:=HCR.o;omega)),cb,r,q,lv',rfl,HCR.o.1,HCR.o.2,k1,(hst.tch k3 (λj hS hG=>hG.2 hS)).mono (λj h=>h.1),HS7.o.2,k2,λk hk=>Qm HT7.o.size (k4 k hk)⟩
