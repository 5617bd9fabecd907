/-
  (*chain.Chain).Submit, of any text.
  What a ledger begins with: (*wire.Coder).Start of a fresh writer, (*chain.Chain).recordStart.
  tree.Empty, chain.New.
-/
import Derived.Test.YtighkdnooglfjaaGreatDoorSwChN
import Derived.Test.YtighkdnooglfjaaGreatDoorSwChJ
import Derived.Test.YtighkdnooglfjaaGreatDoorSwChK
namespace Go.Proofs.YtighkdnooglfjaaGreatDoor
open Go.RowKit

theorem chSubmit_any (E:Nat->Addr) {w:World} (hE:Env E w) {cb width fl r:Nat} (hw1:1<=width) (hw:width<=32) {bs:List BV} {lv:Value} (h:ChRow w cb width fl r bs lv) (m:Nat) (hm:bs.length=m+1) (hm2:m<2 ^ 31) (bh:ByteArray) (q:Option Nat) (st:Option Tr) (hb:bs[m]? =some (bh,width,q)) (hbs:bh.size<=1000) (F:Nat->Prop) (hF:∀j,w.heap.size<=j->F j) (hs:StAt (dgW width) F w q st) (hok:StOk width st)
  (base:Nat) (hbase:base<=w.heap.size) (lg:List UInt8) (hlg:LogAt base w lv lg) (hll:lg.length<=140737488000000) (s:ByteArray) (hsS:s.size<=1000000):
  Calls Tryz.prog 46 #[.pointer (some ⟨cb,0,none⟩),.string s] w λe w'=>SubTo E width base F w cb fl r bs lv lg s (subP (dgW width) width m bh st s.data.toList) e w':=by
 cases hh:(PS.rd [] s.data.toList).hdr width (0,⟨#[]⟩,⟨#[]⟩,⟨#[]⟩) with
 | none=>
  have e:subP (dgW width) width m bh st s.data.toList=.error .form:=by unfold subP;rw [hh]
  rw [e]
  exact chSubmit_f1 E hE hw h s hsS hh
 | some x=>
  obtain ⟨y,p⟩:=x
  obtain ⟨pre,body,l1,e1,e2,_⟩:=rdOk_hdr width hw _ _ _ _ _ hh
  rw [List.nil_append] at e2
  subst e2
  have hlen:pre.length+body.length=s.size:=by
   have:=congrArg List.length e1
   rw [len_toList,List.length_append] at this
   exact this.symm
  by_cases hex:∃ts q3,(PS.rd pre body).body width []=some (ts,.rd q3 [])
  ·obtain ⟨ts,q3,hbd⟩:=hex
   obtain ⟨b2,r2,l2,e3,e4,h3,hts⟩:=rdOk_body width hw _ _ _ _ hbd
   simp only [PS.rd.injEq] at e4
   obtain ⟨_,rfl⟩:=e4
   rw [List.append_nil] at e3
   have hl2:body.length<=385:=by rw [e3];exact l2
   have e:subP (dgW width) width m bh st s.data.toList=(if y ≠ (m+1,dgW width (72 :: bh.data.toList),dgW width (66 :: body),y.2.2.2) then .error .tip else subR (dgW width) (applyT (dgW width) st ts) y.2.2.2 ⟨pre.toArray⟩):=by
    unfold subP subR
    rw [hh]
    dsimp only
    rw [hbd]
    dsimp only
    have ec:s.data.toList.take (s.data.toList.length - body.length)=pre:=by
     rw [len_toList,<-hlen,Nat.add_sub_cancel,e1,List.take_left'];rfl
    rw [ec]
    rfl
   rw [e]
   exact chSubmit_main E hE hw1 hw h m hm hm2 bh q st hb hbs F hF hs hok base hbase lg hlg hll s (by omega) y pre body hh e1 ts q3 hbd hts h3
  ·have hne:∀ts q3,(PS.rd pre body).body width [] ≠ some (ts,.rd q3 []):=λts q3 h=>hex ⟨ts,q3,h⟩
   have e:subP (dgW width) width m bh st s.data.toList=.error .form:=by
    unfold subP
    rw [hh]
    dsimp only
    cases hx:(PS.rd pre body).body width [] with
    | none=>rfl
    | some z=>
     obtain ⟨ts,p⟩:=z
     obtain ⟨b1,r1,_,_,e4,_⟩:=rdOk_body width hw _ _ _ _ hx
     subst e4
     cases r1 with
     | nil=>exact absurd hx (hne _ _)
     | cons a l=>rfl
   rw [e]
   exact chSubmit_f2 E hE hw h s hsS y pre body hh (by omega) hne
end Go.Proofs.YtighkdnooglfjaaGreatDoor
namespace Go.Proofs.YtighkdnooglfjaaGreatDoor
open Go.RowKit

def startB (width:Nat) (outs:List (Nat×Nat)):List UInt8:=beL width 1 1++listOB outs
set_option maxRecDepth 100000 in
set_option maxHeartbeats 800000 in
theorem start_wr (E:Nat->Addr) (b:Nat) (hb12:18<=b) (width:Nat) (hw:width<=32) (ia:Option Addr) (ic n:Nat) (outs:List (Nat×Nat)) (ho:∀o∈outs,OutOk o) (h1:1<=outs.length) (h3:outs.length<=3) (w:World) (hE:Env E w) (hp:PortAt w b none (width:Int) .nilIface (.wr [])) (hv:OutsAt b w (.slice ia n ic) outs):
  Calls Tryz.prog 198 #[.pointer (some ⟨b,0,none⟩),.agg #[.int .i64 (width:Int),.slice ia n ic]] w λe w'=>(∃v0,e=.returned (.agg #[.int .i64 (width:Int),v0]))/\StTo E w w' b none (width:Int) (some (.wr (startB width outs))):=by
 have hlt:=hp.lt
 have HR0:=Run.start hb12 hE (show PortSt E w b none (width:Int) (some (.wr [])) from hp) (Tch.allocs (λ_=>False) w (.cells #[.int .i64 (width:Int),.slice ia n ic] 333) (.cells #[.int .i64 0,.slice none 0 0] 333))
 have hnum:(PS.wr []).num width 1=some (width,.wr (beL width 1 1)):=by simp only [PS.num];rw [if_pos (by omega)];rfl
 have HN:Hid (∀w1 g1,PortAt w1 b g1 (width:Int) .nilIface (.wr [])->Calls Tryz.prog 138 #[.pointer (some ⟨b,0,none⟩),.int .u64 (width:Int),.int .i64 1] w1 λe w'=>e=.returned (.int .u64 (width:Int))/\StTo E w1 w' b g1 (width:Int) (some (.wr (beL width 1 1)))):=λw1 g1 h=>number_some b g1 width width 1 width (.wr []) _ w1 h (by omega) (by simp [PS.len]) hnum
 have HF:Hid (∀w1 g1,Env E w1->PortAt w1 b g1 (width:Int) .nilIface (.wr (beL width 1 1))->OutsAt b w1 (.slice ia n ic) outs->Calls Tryz.prog 188 #[.pointer (some ⟨b,0,none⟩),.slice ia n ic] w1 λe w'=>∃gp,e=.returned (.slice (some ⟨gp,0,none⟩) outs.length outs.length)/\StTo E w1 w' b g1 (width:Int) (some (.wr (startB width outs)))):=λw1 g1 hE1 hp1 hv1=>by
  have hr:=(rt_listO 1 3 outs ho h1 h3 (by omega)).wr (beL width 1 1)
  have:=firstOuts_all E b hb12 g1 width _ outs (.wr (beL width 1 1)) w1 hE1 hp1 hv1 (by omega) (wr_takes _ _) (λx hx=>(ho x hx).2) (by simp only [PS.len,beL_length];omega)
  rw [hr] at this
  refine this.mono λe w' k=>?_
  obtain ⟨gp,k1,_,_,g',k4,_,k6,k7⟩:=k
  exact ⟨gp,k1,g',k4,k6,k7⟩
 have hu:IntKind.u64.wrap (width:Int)=(width:Int):=u64wrap_small _ (by omega) (by omega)
 have hi:IntKind.i64.wrap (width:Int)=(width:Int):=i64wrap_small _ (by omega) (by omega)
 have HV:Hid (OutsAt b w (.slice ia n ic) outs):=hv
 have RUN:Hid (Run _ _ _ _ _ _ _ _ _):=HR0
 clear hE hp HR0 hnum hv ho h1 h3
 go_enter Tryz.func198,Tryz.ntmps198
 go_wp2_with fail
 refine (HN.out _ _ RUN.out.port).mono ?_
 rintro _ w1 ⟨rfl,h⟩
 obtain ⟨g1,R1⟩:=RUN.out.step h
 have bx1:=(R1.box (k:=w.heap.size) (Nat.le_refl _) (heap_alloc2_old _ _ _)).1
 have c1:w1.cell? ⟨w.heap.size,1,none⟩=some (.slice ia n ic):=cell_row bx1
 have RUN1:Hid (Run _ _ _ _ _ _ _ _ _):=R1
 have HV1:Hid (OutsAt b w1 (.slice ia n ic) outs):=by
  obtain ⟨g',_,_,t1⟩:=R1.to
  exact HV.out.tch t1 (λj hj=>by rcases hj with h | h;omega;cases h)
 clear R1 bx1 h HN HV
 go_wp2_with fail
 refine (HF.out _ _ RUN1.out.env RUN1.out.port HV1.out).mono ?_
 rintro _ w4 ⟨gp,rfl,h⟩
 obtain ⟨g4,R4⟩:=RUN1.out.step h
 have rR:=(R4.box (k:=w.heap.size+1) (by omega) (heap_alloc2_new _ _ _)).1
 have e0:w4.cell? ⟨w.heap.size+1,0,none⟩=some (.int .i64 0):=cell_row rR
 have e1:w4.cell? ⟨w.heap.size+1,1,none⟩=some (.slice none 0 0):=cell_row rR
 have fR:∀j,w4.frozen? ⟨w.heap.size+1,j,none⟩=false:=λj=>frozen_of_row _ _ _ _ _ rR
 have RUN4:Hid (Run _ _ _ _ _ _ _ _ _):=R4
 have RR:Hid (_=_):=rR
 clear R4 rR h HF c1
 go_wp2
 rw [set2R _ _ _ _ _ _ _ RR.out]
 exact bodyPost_ret (v:=.agg #[.int .i64 (width:Int),.slice (some ⟨gp,0,none⟩) outs.length outs.length]) (results_cell_row Tryz.results198 _ _ (w.heap.size+1) _ _ (0,0) _ rfl (setRow_heap _ _ _ _ _ _ RR.out) Tryz.underlying333 rfl (by kernel_rfl)) rfl ⟨⟨_,rfl⟩,RUN4.out.done (k:=w.heap.size+1) (by omega) (heap_alloc2_new _ _ _) (by decide)⟩
set_option maxRecDepth 100000 in
set_option maxHeartbeats 1000000 in
theorem recordStart_any (E:Nat->Addr) {w:World} (hE:Env E w) {cb width fl r:Nat} (hw:width<=32) {bs:List BV} {lv:Value} (h:ChRow w cb width fl r bs lv) (base:Nat) (hbase:base<=w.heap.size) (lg:List UInt8) (hl:LogAt base w lv lg) (hll:lg.length<=140737488000000) (v:Value) (outs:List (Nat×Nat)) (ho:∀o∈outs,OutOk o) (h1:1<=outs.length) (h3:outs.length<=3) (hv:OutsAt w.heap.size w v outs):
  Calls Tryz.prog 129 #[.pointer (some ⟨cb,0,none⟩),v] w λe w'=>e=.returned .nilIface/\∃lv',ChRow w' cb width fl r bs lv'/\LogAt base w' lv' (lg++recB [71] (startB width outs))/\Tch (λk=>k=cb\/some k=lv.ownBlock) w w'/\Moved w lv.ownBlock lv'.ownBlock:=by
 have hsz:=hE.size
 have hcb:=(row_lt h.row)
 have c0:w.cell? ⟨cb,0,none⟩=some (.int .i64 (width:Int)):=cell_row h.row
 obtain ⟨ia,ic,hvs⟩:=hv.shape
 subst hvs
 have hlen:(startB width outs).length<=100:=by
  have:∀l:List (Nat×Nat),(l.flatMap outB).length=l.length * 9:=by
   intro l
   induction l with
   | nil=>rfl
   | cons x r ih=>rw [List.flatMap_cons,List.length_append,ih];unfold outB;simp only [List.length_append,beL_length,List.length_cons];omega
  unfold startB listOB
  rw [List.length_append,List.length_append,beL_length,beL_length,this]
  omega
 obtain ⟨sb,hsb⟩:∃sb:ByteArray,sb=⟨(startB width outs).toArray⟩:=⟨_,rfl⟩
 have HST:Hid (∀W,Tch (λ_=>False) w W->PortAt W w.heap.size none (width:Int) .nilIface (.wr [])->Calls Tryz.prog 198 #[.pointer (some ⟨w.heap.size,0,none⟩),.agg #[.int .i64 (width:Int),.slice ia outs.length ic]] W λe w'=>(∃v0,e=.returned (.agg #[.int .i64 (width:Int),v0]))/\StTo E W w' w.heap.size none (width:Int) (some (.wr (startB width outs)))):=λW hT hp=>
  start_wr E w.heap.size hsz width hw ia ic outs.length outs ho h1 h3 W (hE.tch hT noE) hp (hv.tch hT noE)
 have HWD:Hid (∀W g,PortSt E W w.heap.size g (width:Int) (some (.wr (startB width outs)))->Calls Tryz.prog 79 #[.pointer (some ⟨w.heap.size,0,none⟩)] W λe w'=>Tch (λ_=>False) W w'/\e=.returned (.tuple #[.string sb,.nilIface])):=λW g hp=>by
  rw [hsb];exact wdone_st E w.heap.size g width (some (.wr (startB width outs))) (λp hp=>⟨_,(Option.some.inj hp).symm⟩) W hp
 have HRC:Hid (∀W,Tch (λ_=>False) w W->Calls Tryz.prog 89 #[.pointer (some ⟨cb,0,none⟩),.string ⟨#[71]⟩,.string sb] W λe w'=>e=.returned .nilIface/\∃lv',ChRow w' cb width fl r bs lv'/\LogAt base w' lv' (lg++recB [71] (startB width outs))/\Tch (λk=>k=cb\/some k=lv.ownBlock) W w'/\Moved W lv.ownBlock lv'.ownBlock):=λW hT=>by
  have:=record_any E (hE.tch hT noE) (h.next hT) base (Nat.le_trans hbase hT.size) lg (hl.next hT) hll ⟨#[71]⟩ sb rfl (by rw [hsb,str_size];omega)
  have e:sb.data.toList=startB width outs:=by rw [hsb]
  rw [e] at this
  exact this
 clear hE h hbase hl hll ho h1 h3 hv hlen hsb
 go_enter Tryz.func129,Tryz.ntmps129
 go_wp2_with fail
 refine (newWriter_any _ _).mono ?_
 rintro _ w1 ⟨rfl,hp1,ht1⟩
 have HT1:Hid (Tch (λ_=>False) w w1):=ht1
 have HT1d:Hid (Tch (λ_=>False) w w1.drew):=ht1.dr 1
 have HP1:Hid (PortAt w1.drew w.heap.size none (width:Int) .nilIface (.wr [])):=hp1.tch (Tch.drewN (λ_=>False) w1 1) (λh=>h) (λ_ _ h=>h)
 have d0:w1.cell? ⟨cb,0,none⟩=some (.int .i64 (width:Int)):=(ht1.cell (p:=⟨cb,0,none⟩) hcb (λh=>h)).trans c0
 have hcb1:cb<w1.heap.size:=Nat.lt_of_lt_of_le hcb ht1.size
 clear ht1 hp1 c0
 go_upto_region 2 with fail
 go_cut [] (λwx=>∃g2,Hid (PortSt E wx w.heap.size g2 (width:Int) (some (.wr (startB width outs))))/\Hid (Tch (λ_=>False) w wx))
 case first=>
  go_region_held3 (λW=>W.cell? ⟨cb,0,none⟩=some (.int .i64 (width:Int))) (go_keep) ((go_at_call 198;refine (HST.out w1.drew HT1d.out HP1.out).mono ?_;rintro _ w2 ⟨⟨v0,rfl⟩,g2,hp2,hm2,ht2⟩;have hT2:Tch (λ_=>False) w w2:=fresh_wr2 (b:=w.heap.size) (Nat.le_refl _) HT1d.out ht2;have e0:w2.cell? ⟨cb,0,none⟩=some (.int .i64 (width:Int)):=(ht2.cell (p:=⟨cb,0,none⟩) hcb1 (λe=>by rcases e with e | e;simp only at e;omega;cases e)).trans d0;have HT2:Hid (Tch (λ_=>False) w w2):=hT2;have HP2:Hid (PortSt E w2 w.heap.size g2 (width:Int) (some (.wr (startB width outs)))):=hp2;clear hp2 hm2 ht2 hT2))
  all_goals
   go_wp2
   go_meet
   exact ⟨g2,HP2,HT2⟩
 case rest=>
 obtain ⟨g2,HP2,HT2⟩:=hcut
 obtain ⟨w2,hw2⟩:∃w2,w2=wc:=⟨wc,rfl⟩
 subst hw2
 clear HST HT1d HP1 d0
 go_wp2_with fail
 refine (HWD.out w2 g2 HP2.out).mono ?_
 rintro _ w3 ⟨ht3,rfl⟩
 have HT3:Hid (Tch (λ_=>False) w w3):=HT2.out.go ht3
 clear ht3 HP2 HT2 HWD
 go_wp2_with fail
 refine (HRC.out w3 HT3.out).mono ?_
 rintro _ w4 ⟨rfl,lv',k1,k2,k3,k4⟩
 have HK:Hid (ChRow w4 cb width fl r bs lv'/\LogAt base w4 lv' (lg++recB [71] (startB width outs))/\Tch (λk=>k=cb\/some k=lv.ownBlock) w3 w4/\Moved w3 lv.ownBlock lv'.ownBlock):=⟨k1,k2,k3,k4⟩
 clear k1 k2 k3 k4 HRC
 go_wp2
 go_ret
 refine ⟨rfl,lv',HK.out.1,HK.out.2.1,(HT3.out.mono noE).trans HK.out.2.2.1 (λj hj=>.inl hj),?_⟩
 rcases HK.out.2.2.2 with h | ⟨k,h,hk⟩
 ·exact .inl h
 ·exact .inr ⟨k,h,Nat.le_trans HT3.out.size hk⟩
end Go.Proofs.YtighkdnooglfjaaGreatDoor
namespace Go.Proofs.YtighkdnooglfjaaGreatDoor
open Go.RowKit

set_option maxRecDepth 100000 in
theorem empty_any (width:Nat) (w:World):Calls Tryz.prog 127 #[.int .i64 (width:Int)] w λe w'=>e=.returned (.agg #[.int .i64 (width:Int),.pointer none])/\Tch (λ_=>False) w w':=by
 go_enter Tryz.func127,Tryz.ntmps127
 go_wp2
 exact bodyPost_ret (v:=.agg #[.int .i64 (width:Int),.pointer none]) (results_cell_row Tryz.results127 _ _ w.heap.size _ _ (0,0) _ rfl (heap_alloc_new _ _) Tryz.underlying146 rfl (by kernel_rfl)) rfl ⟨rfl,Tch.alloc _ _ _⟩
theorem mk_blocks (W:World):(Instr.makeMap 141 none).run Tryz.prog W=.ok (.map (some W.heap.size)) (W.alloc (.map #[] 0)):=by
 simp [Instr.makeMap,Result.andThen]
theorem outsB?_ok {outs:List (Nat×Nat)} (ho:∀o∈outs,OutOk o) (h1:1<=outs.length) (h3:outs.length<=3):outsB? outs=some (listOB outs):=by
 unfold outsB?
 rw [(rt_listO 1 3 outs ho h1 h3 (by omega)).wr]
 rfl
def zerosB (n:Nat):ByteArray:=⟨(List.replicate n (0:UInt8)).toArray⟩
def firstH (width:Nat) (outs:List (Nat×Nat)) (st:Option Tr):HdL:=(0,zerosB width,dgW width (71 :: listOB outs),stDig (dgW width) st)
def NewTo (width base:Nat) (outs:List (Nat×Nat)) (st:Option Tr) (w:World) (e:Ending) (w':World):Prop:=
 Tch (λ_=>False) w w'/\∃cb r q lv,e=.returned (.tuple #[.pointer (some ⟨cb,0,none⟩),.nilIface])/\w.heap.size<=cb/\w.heap.size<=r/\ChRow w' cb width 0 r [(⟨(hdrB (firstH width outs st)).toArray⟩,width,q)] lv/\StAt (dgW width) (λj=>w.heap.size<=j) w' q st/\StOk width st/\LogAt base w' lv (recB [71] (startB width outs))/\∀k,lv.ownBlock=some k->w.heap.size<=k
set_option maxRecDepth 100000 in
set_option maxHeartbeats 2000000 in
theorem chNew_any (E:Nat->Addr) (width:Nat) (hw1:1<=width) (hw:width<=32) (v:Value) (outs:List (Nat×Nat)) (ho:∀o∈outs,OutOk o) (h1:1<=outs.length) (h3:outs.length<=3) (w:World) (hE:Env E w) (hv:OutsAt w.heap.size w v outs) (base:Nat) (hbase:base<=w.heap.size) (st:Option Tr) (hrec:receiveT (dgW width (71 :: listOB outs)) 0 outs none=.ok st):
  Calls Tryz.prog 72 #[.int .i64 (width:Int),v] w λe w'=>NewTo width base outs st w e w':=by
 obtain ⟨ia,ic,hvs⟩:=hv.shape
 subst hvs
 obtain ⟨id,hid⟩:∃id,id=dgW width (71 :: listOB outs):=⟨_,rfl⟩
 have hids:id.size=width:=by rw [hid];exact dgW_size width hw _
 obtain ⟨hd,hhd⟩:∃hd:ByteArray,hd=⟨(hdrB (firstH width outs st)).toArray⟩:=⟨_,rfl⟩
 obtain ⟨zs,hzs⟩:∃zs,zs=zerosB width:=⟨_,rfl⟩
 obtain ⟨sd,hsd⟩:∃sd,sd=stDig (dgW width) st:=⟨_,rfl⟩
 have HE:Hid (Env E w):=hE
 have HV:Hid (OutsAt w.heap.size w (.slice ia outs.length ic) outs):=hv
 have HCW:Hid (Calls Tryz.prog 124 #[.int .i64 (width:Int)] w λe w'=>e=.returned .nilIface/\w=w'):=checkWidth_ok width w hw1 hw
 have HID:Hid (Calls Tryz.prog 125 #[.int .i64 (width:Int),.slice ia outs.length ic] w λe w'=>Tch (λ_=>False) w w'/\e=.returned (.tuple #[.string id,.nilIface])):=by
  have:=firstID_any E width hw1 hw _ outs w hE hv (by omega) (λx hx=>(ho x hx).2)
  rw [outsB?_ok ho h1 h3] at this
  rw [hid]
  exact this
 have HRV:Hid (∀W,Tch (λ_=>False) w W->Calls Tryz.prog 126 #[.agg #[.int .i64 (width:Int),.pointer none],.string id,.slice ia outs.length ic] W λe w'=>Tch (λ_=>False) W w'/\∃(q:Option Nat) (rv:Option Addr),rootV q=.pointer rv/\e=.returned (.tuple #[.agg #[.int .i64 (width:Int),.pointer rv],.nilIface])/\StAt (dgW width) (λj=>w.heap.size<=j) w' q st/\StOk width st):=λW hT=>by
  have:=receive_any E width hw1 hw (λj=>w.heap.size<=j) none none id hids _ outs ho h3 W (hE.tch hT noE) (λj hj=>Nat.le_trans hT.size hj) ((hv.tch hT noE).up hT.size) trivial trivial
  rw [hid,hrec,<-hid] at this
  refine this.mono λe w' k=>⟨k.1,?_⟩
  obtain ⟨q,k1,k2,k3⟩:=k.2
  exact ⟨q,_,rfl,k1,k2,k3⟩
 have HRP:Hid (∀W,Calls Tryz.prog 128 #[.string ⟨#[0]⟩,.int .i64 (width:Int)] W λe w'=>e=.returned (.string zs)/\Tch (λ_=>False) W w'):=λW=>by rw [hzs];exact repeat_any width hw1 hw W
 have HDG:Hid (∀W q,Tch (λ_=>False) w W->StAt (dgW width) (λj=>w.heap.size<=j) W q st->Calls Tryz.prog 83 #[treeV width q] W λe w'=>e=.returned (.string sd)/\Tch (λ_=>False) W w'):=λW q hT k=>by rw [hsd];exact treeDigest_any E width hw1 hw _ q st W (hE.tch hT noE) k
 have HHB:Hid (∀W,Tch (λ_=>False) w W->Calls Tryz.prog 84 #[.int .i64 (width:Int),.agg #[.int .u64 0,.string zs,.string id,.string sd]] W λe w'=>e=.returned (.tuple #[.string hd,.nilIface])/\Tch (λ_=>False) W w'):=λW hT=>by
  have:=headerBytes_any E width (by omega) 0 zs id sd W (hE.tch hT noE)
  refine this.mono λe w' k=>?_
  obtain ⟨k1,k2⟩:=k
  have hz:zs.size=width:=by rw [hzs];unfold zerosB;rw [str_size,List.length_replicate]
  rw [hdr_wr ⟨by show 0<2 ^ 32;omega,hz,hids,by show sd.size=width;rw [hsd];exact stDig_size _ width (dgW_size width hw) st⟩] at k2
  rw [hhd]
  unfold firstH
  rw [<-hzs,<-hid,<-hsd]
  exact ⟨k2,k1⟩
 have HRS:Hid (∀W cb r q,Tch (λ_=>False) w W->ChRow W cb width 0 r [(hd,width,q)] (.slice none 0 0)->Calls Tryz.prog 129 #[.pointer (some ⟨cb,0,none⟩),.slice ia outs.length ic] W λe w'=>e=.returned .nilIface/\∃lv',ChRow w' cb width 0 r [(hd,width,q)] lv'/\LogAt base w' lv' (recB [71] (startB width outs))/\Tch (λk=>k=cb) W w'/\(∀k,lv'.ownBlock=some k->W.heap.size<=k)):=λW cb r q hT hR=>by
  refine (recordStart_any E (hE.tch hT noE) hw hR base (Nat.le_trans hbase hT.size) [] ⟨Bs.nil _ _,λk hk=>by cases hk⟩ (by simp) _ outs ho h1 h3 ((hv.tch hT noE).up hT.size)).mono ?_
  rintro e w' ⟨k0,lv',k1,k2,k3,k4⟩
  refine ⟨k0,lv',k1,k2,k3.mono (λj hj=>?_),λk hk=>?_⟩
  ·rcases hj with h | h
   ·exact .inl h
   ·cases h
  ·rcases k4 with h | ⟨j,h,hj⟩
   ·rw [hk] at h;cases h
   ·rw [hk] at h;cases h;exact hj
 have hmk:=mk_blocks
 unfold NewTo
 rw [<-hhd]
 clear hE hv hrec hid hhd hzs hsd hids ho h1 h3 hbase
 go_enter Tryz.func72,Tryz.ntmps72
 go_wp2_with fail
 refine HCW.out.mono ?_
 rintro _ _ ⟨rfl,rfl⟩
 go_wp2_with fail
 refine HID.out.mono ?_
 rintro _ w1 ⟨ht1,rfl⟩
 have HT1:Hid (Tch (λ_=>False) w w1):=ht1
 clear ht1 HID HCW
 go_wp2_with fail
 refine (empty_any width w1).mono ?_
 rintro _ w2 ⟨rfl,ht2⟩
 have HT2:Hid (Tch (λ_=>False) w w2):=HT1.out.go ht2
 clear ht2 HT1
 go_wp2_with fail
 refine (HRV.out w2 HT2.out).mono ?_
 rintro _ w3 ⟨ht3,q,rv,hq,rfl,hs3,hk3⟩
 have hA:=Tch.alloc (λ_=>False) w3 (.cells #[.int .i64 (width:Int),.pointer rv] 146)
 obtain ⟨w4,hw4⟩:∃w4,w4=w3.alloc (.cells #[.int .i64 (width:Int),.pointer rv] 146):=⟨_,rfl⟩
 obtain ⟨k4,hk4⟩:∃k4,k4=w3.heap.size:=⟨_,rfl⟩
 have HT4:Hid (Tch (λ_=>False) w w4):=by rw [hw4];exact (HT2.out.go ht3).go hA
 have HS4:Hid (StAt (dgW width) (λj=>w.heap.size<=j) w4 q st/\StOk width st):=by rw [hw4];exact ⟨hs3.next hA,hk3⟩
 have hr4:w4.heap[k4]? =some (.cells #[.int .i64 (width:Int),.pointer rv] 146):=by rw [hw4,hk4];exact heap_alloc_new _ _
 have HQ:Hid (rootV q=.pointer rv):=hq
 go_upto_region 8 with fail
 rw [<-hw4,<-hk4]
 have s0:w4.cell? ⟨k4,0,none⟩=some (.int .i64 (width:Int)):=cell_row hr4
 have s1:w4.cell? ⟨k4,1,none⟩=some (.pointer rv):=cell_row hr4
 have hz4:k4<w4.heap.size:=(row_lt hr4)
 have HR4:Hid (w4.heap[k4]? =some _):=hr4
 have HDI:Hid (∀W,Tch (λ_=>False) w4 W->Calls Tryz.prog 83 #[.agg #[.int .i64 (width:Int),.pointer rv]] W λe w'=>e=.returned (.string sd)/\Tch (λ_=>False) W w'):=λW hT=>by
  have:=HDG.out W q (HT4.out.go hT) (HS4.out.1.next hT)
  unfold treeV at this
  rw [HQ.out] at this
  exact this
 have HT44:Hid (Tch (λ_=>False) w4 w4.drew):=Tch.drewN _ w4 1
 have HCE:Hid (∀W,Tch (λ_=>False) w4 W->W.cell? ⟨k4,0,none⟩=some (.int .i64 (width:Int))/\W.cell? ⟨k4,1,none⟩=some (.pointer rv)):=λW hT=>⟨(hT.cell (p:=⟨k4,0,none⟩) hz4 (λh=>h)).trans s0,(hT.cell (p:=⟨k4,1,none⟩) hz4 (λh=>h)).trans s1⟩
 clear hA hw4 hk4 hs3 hk3 hq ht3 hr4 HDG HRV HT2
 go_upto_region 10 with fail
 go_cut [10,8] (λvh ve wx=>vh=.string hd/\ve=.nilIface/\Hid (Tch (λ_=>False) w4 wx))
 case first=>
  go_region_held3 (λW=>W.cell? ⟨k4,0,none⟩=some (.int .i64 (width:Int))/\W.cell? ⟨k4,1,none⟩=some (.pointer rv)) (go_keep) ((first | (go_at_call 128;refine (HRP.out _).mono ?_;rintro _ wA ⟨rfl,htA⟩;have HTA:Hid (Tch (λ_=>False) w4 wA):=(by first | exact HT44.out.go htA | exact HTB.out.go htA);obtain ⟨xa0,xa1⟩:=HCE.out wA HTA.out;clear htA) | (go_at_call 83;refine (HDI.out _ (by first | exact HT44.out | exact HTA.out)).mono ?_;rintro _ wB ⟨rfl,htB⟩;have HTB:Hid (Tch (λ_=>False) w4 wB):=(by first | exact HT44.out.go htB | exact HTA.out.go htB);obtain ⟨xb0,xb1⟩:=HCE.out wB HTB.out;clear htB) | (go_at_call 84;refine (HHB.out _ (HT4.out.go (by first | exact HTA.out | exact HTB.out))).mono ?_;rintro _ wC ⟨rfl,htC⟩;have HTC:Hid (Tch (λ_=>False) w4 wC):=(by first | exact HTA.out.go htC | exact HTB.out.go htC);obtain ⟨xc0,xc1⟩:=HCE.out wC HTC.out;clear htC)))
  all_goals
   go_wp2
   go_meet
   exact ⟨rfl,rfl,HTC⟩
 case rest=>
 obtain ⟨rfl,rfl,HT45⟩:=hcut
 obtain ⟨w5,hw5⟩:∃w5,w5=wc:=⟨wc,rfl⟩
 subst hw5
 have HM5:Hid (Tch (λ_=>False) w4 (w5.alloc (.map #[] 0))):=HT45.out.go (Tch.alloc _ _ _)
 obtain ⟨m0,m1⟩:=HCE.out _ HM5.out
 have hmz:(w5.alloc (.map #[] 0)).heap[w5.heap.size]? =some (.map (entsFrom 0 []).toArray ([]:List BV).length):=heap_alloc_new _ _
 have hins:=push_block hmz (hd,width,q)
 unfold bV at hins
 rw [HQ.out] at hins
 have hins':(Instr.mapUpdate 141 (.map (some w5.heap.size)) (.int .i64 0) (.agg #[.string hd,.int .i64 (width:Int),.pointer rv])).run Tryz.prog (w5.alloc (.map #[] 0))=.ok () ((w5.alloc (.map #[] 0)).setBlocks w5.heap.size [(hd,width,q)]):=hins
 have HMZ:Hid ((w5.alloc (.map #[] 0)).heap[w5.heap.size]? =some (.map (entsFrom 0 []).toArray ([]:List BV).length)):=hmz
 clear hins hmz HRP HHB HDI HT44 s0 s1
 go_upto_region 14 with fail
 obtain ⟨r,hr⟩:∃r,r=w5.heap.size:=⟨_,rfl⟩
 obtain ⟨w6,hw6⟩:∃w6,w6=(w5.alloc (.map #[] 0)).setBlocks w5.heap.size [(hd,width,q)]:=⟨_,rfl⟩
 obtain ⟨cb,hcb⟩:∃cb,cb=w6.heap.size:=⟨_,rfl⟩
 obtain ⟨w7,hw7⟩:∃w7,w7=w6.alloc (.cells #[.int .i64 (width:Int),.int .i64 0,.map (some r),.slice none 0 0] 143):=⟨_,rfl⟩
 have hw45:=HT45.out.size
 have hw4:=HT4.out.size
 have t6:Tch (λ_=>False) w4 w6:=by rw [hw6];exact HM5.out.trans (Tch.setBlocks _ _ _) (λj hj=>.inr (by omega))
 have t67:Tch (λ_=>False) w6 w7:=by rw [hw7];exact Tch.alloc _ _ _
 have hR7:ChRow w7 cb width 0 r [(hd,width,q)] (.slice none 0 0):=by
  refine ⟨by rw [hw7,hcb];exact heap_alloc_new _ _,?_⟩
  have h6:w6.heap[r]? =some (.map (entsFrom 0 [(hd,width,q)]).toArray [(hd,width,q)].length):=by rw [hw6,hr];exact setBlocks_heap HMZ.out _
  exact (t67.block r (row_lt h6) (λh=>h)).trans h6
 have HT7:Hid (Tch (λ_=>False) w w7):=(HT4.out.go t6).go t67
 have HR7:Hid (ChRow w7 cb width 0 r [(hd,width,q)] (.slice none 0 0)):=hR7
 have HS7:Hid (StAt (dgW width) (λj=>w.heap.size<=j) w7 q st/\StOk width st):=⟨(HS4.out.1.next t6).next t67,HS4.out.2⟩
 have HCR:Hid (w.heap.size<=cb/\w.heap.size<=r):=⟨by rw [hcb];exact Nat.le_trans hw4 t6.size,by rw [hr];exact Nat.le_trans hw4 hw45⟩
 rw [<-hr] at hw6 ⊢
 rw [<-hw6,<-hcb,<-hw7]
 clear hr hw6 hcb hw7 hw45 hw4 t6 t67 hR7 HMZ HM5 HT45 hins' m0 m1 hmk HS4 HT4 HCE HR4
 go_wp2_with fail
 refine (HRS.out w7 cb r q HT7.out HR7.out).mono ?_
 rintro _ w8 ⟨rfl,lv',k1,k2,k3,k4⟩
 have HK:Hid (ChRow w8 cb width 0 r [(hd,width,q)] lv'/\LogAt base w8 lv' (recB [71] (startB width outs))/\Tch (λk=>k=cb) w7 w8/\(∀k,lv'.ownBlock=some k->w7.heap.size<=k)):=⟨k1,k2,k3,k4⟩
 clear k1 k2 k3 k4 HRS
 go_wp2
 go_ret2
 obtain ⟨k1,k2,k3,k4⟩:=HK.out
 have hst:=HS7.out.1.refine (G:=λj=>w.heap.size<=j/\¬j=cb) (λj hj hc=>⟨hj,λe=>(by obtain ⟨c,hc⟩:=hc;subst e;rw [HR7.out.row] at hc;simp at hc)⟩)
 exact ⟨HT7.out.trans k3 (λj hj=>.inr (by have:=HCR.out;omega)),cb,r,q,lv',rfl,HCR.out.1,HCR.out.2,k1,(hst.tch k3 (λj hS hG=>hG.2 hS)).mono (λj h=>h.1),HS7.out.2,k2,λk hk=>Nat.le_trans HT7.out.size (k4 k hk)⟩
end Go.Proofs.YtighkdnooglfjaaGreatDoor
