import Derived.Test.YtighkdnooglfjaaGreatDoorOcKHeld
namespace Go.Proofs.YtighkdnooglfjaaGreatDoor
open Go.Proofs.Tryz
set_option maxRecDepth 100000
set_option maxHeartbeats 4000000
open Go.RowKit

def Xs:Er->Int
 | 0=>1
 | 1=>2
 | 2=>3
 | 3=>4
 | 4=>5
 | 5=>6
 | 6=>7
def Zh (wd:Nat) (l:List Held) (t:TxL) (v:Value) (w:World) (e:Ending) (w':World):Prop:=
 Tch NoB w w'/\match Xh (dgW wd) l t with
  | .error er=>e=.returned (.tuple #[v,.int .i64 (Xs er)])
  | .ok l'=>∃v',e=.returned (.tuple #[v',.int .i64 0])/\XQ w' v' l'/\∀j,v'.ownBlock=some j->w.heap.size<=j
theorem Zh.input {wd:Nat} {l:List Held} {t:TxL} {v:Value} {w w':World} (ht:Tch NoB w w') (h:Xc t.1 (l,0,false)=none):Zh wd l t v w (.returned (.tuple #[v,.int .i64 3])) w':=by
 refine ⟨ht,?_⟩
 unfold Xh;rw [h];rfl
theorem Zh.exist {wd:Nat} {l l1:List Held} {t:TxL} {v:Value} {w w':World} {i:Nat} {o:Bool} {id:BA} {X:List UInt8} (ht:Tch NoB w w') (h:Xc t.1 (l,0,false)=some (l1,i,o)) (hX:txB t=X) (hid:dgW wd (84 :: X)=id) (hr:JE id 0 t.2 (l1,0,o)=none):Zh wd l t v w (.returned (.tuple #[v,.int .i64 4])) w':=by
 refine ⟨ht,?_⟩
 unfold Xh;rw [h];dsimp only;rw [hX,hid,hr];rfl
theorem Zh.done {wd:Nat} {l l1 l2:List Held} {t:TxL} {v v':Value} {w w':World} {i u:Nat} {o o2:Bool} {id:BA} {X:List UInt8} (ht:Tch NoB w w') (h:Xc t.1 (l,0,false)=some (l1,i,o)) (hX:txB t=X) (hid:dgW wd (84 :: X)=id) (hr:JE id 0 t.2 (l1,0,o)=some (l2,u,o2)) (ho:XQ w' v' l2) (hb:∀j,v'.ownBlock=some j->w.heap.size<=j) (hn:¬(o2=true\/i<u)):Zh wd l t v w (.returned (.tuple #[v',.int .i64 0])) w':=by
 refine ⟨ht,?_⟩
 unfold Xh;rw [h];dsimp only;rw [hX,hid,hr];dsimp only;rw [if_neg hn];exact ⟨v',rfl,ho,hb⟩
theorem Zh.sum {wd:Nat} {l l1 l2:List Held} {t:TxL} {v:Value} {w w':World} {i u:Nat} {o o2:Bool} {id:BA} {X:List UInt8} (ht:Tch NoB w w') (h:Xc t.1 (l,0,false)=some (l1,i,o)) (hX:txB t=X) (hid:dgW wd (84 :: X)=id) (hr:JE id 0 t.2 (l1,0,o)=some (l2,u,o2)) (hn:o2=true\/i<u):Zh wd l t v w (.returned (.tuple #[v,.int .i64 5])) w':=by
 refine ⟨ht,?_⟩
 unfold Xh;rw [h];dsimp only;rw [hX,hid,hr];dsimp only;rw [if_pos hn];rfl
theorem Tch.drewAlloc (w:World) (o:Obj):Tch NoB w (w.drew.alloc o):=(Td NoB w 1).trans (Ta NoB _ o) (λ_ h=>.inl h)
theorem Jfn (W:World) (c:BA×Int) (o:Nat×Nat):Xa (W.alloc (.cells #[.string c.1,.int .i64 c.2,.int .u64 ((o.1:Nat):Int),.int .u8 ((o.2:Nat):Int)] 87)) (.slice (some ⟨W.heap.size,0,none⟩) 1 1) [(c,o)]:=by
 refine .inr ⟨W.heap.size,0,1,rfl,by simp,λi hi=>?_⟩
 obtain rfl:i=0:=by simpa using hi
 have hrow:=Qf W (.cells #[.string c.1,.int .i64 c.2,.int .u64 ((o.1:Nat):Int),.int .u8 ((o.2:Nat):Int)] 87)
 exact ⟨Ja hrow,Ja hrow,Ja hrow,Ja hrow⟩
theorem JfN {c:BA×Int} {r:List (BA×Int)} {now:List Held} {i:Nat} {o:Bool} (h:JZ now c=none):Xc (c :: r) (now,i,o)=none:=by simp only [Xc,h]
theorem JfO {c:BA×Int} {r:List (BA×Int)} {now:List Held} {i k:Nat} {o:Bool} (h:JZ now c=some k) (hk:k<now.length):Xc (c :: r) (now,i,o)=Xc r (now.eraseIdx k,(i+now[k].2.1) % M64,o || decide ((i+now[k].2.1) % M64<i)):=by
 simp only [Xc,h,Qn,Qd hk,Option.getD_some]
theorem HOwn.take {base:Nat} {w:World} {g cap:Nat} {l:List Held} (h:HOwn base w (.slice (some ⟨g,0,none⟩) l.length cap) l) (j:Nat) (hj:j<=l.length) (c:Nat):Xa w (.slice (some ⟨g,0,none⟩) j c) (l.take j):=by
 rcases h.at with ⟨e,_⟩ | ⟨g',o,c',e,hg,hcell⟩
 ·cases e
 ·cases e
  have hl:(l.take j).length=j:=by rw [QB];omega
  refine .inr ⟨g,0,c,by rw [hl],hg,λi hi=>?_⟩
  have:=hcell i (by omega)
  simpa using this
theorem HOwn.drop {base:Nat} {w:World} {g cap:Nat} {l:List Held} (h:HOwn base w (.slice (some ⟨g,0,none⟩) l.length cap) l) (j:Nat) (hj:j<=l.length) (c:Nat):Xa w (.slice (some ⟨g,j * 4,none⟩) (l.length - j) c) (l.drop j):=by
 rcases h.at with ⟨e,_⟩ | ⟨g',o,c',e,hg,hcell⟩
 ·cases e
 ·cases e
  refine .inr ⟨g,j * 4,c,by rw [List.length_drop],hg,λi hi=>?_⟩
  rw [List.length_drop] at hi
  have:=hcell (j+i) (by omega)
  rw [show 0+(j+i) * 4=j * 4+i * 4 by omega] at this
  simpa using this
theorem HOwn.dropEnd {base:Nat} {w:World} {g cap:Nat} {l:List Held} (h:HOwn base w (.slice (some ⟨g,0,none⟩) l.length cap) l) (j:Nat) (hj:l.length=j) (c:Nat):Xa w (.slice (some ⟨g,0,none⟩) (l.length - j) c) (l.drop j):=by
 have e:l.drop j=[]:=List.drop_eq_nil_of_le (by omega)
 rw [e]
 rcases h.at with ⟨e,_⟩ | ⟨g',o,c',e,hg,hcell⟩
 ·cases e
 ·cases e
  exact .inr ⟨g,0,c,by rw [hj,Nat.sub_self];rfl,hg,λi hi=>by simp at hi⟩
theorem Jh6 (E:Nat->Addr) (wd:Nat) (hw1:1<=wd) (hw:wd<=32) (xb:Nat) (v:Value) (l:List Held) (B:Nat) (v1 v2:Value) (t:TxL) (w:World) (hE:Env E w) (hx:w.cell? ⟨xb,1,none⟩=some (.int .i64 (wd:Int))) (h:Xa w v l) (hk:TxOk wd t) (h1:JB B w v1 t.1) (h2:Jo B w v2 t.2) (hl:l.length<=900000000) (ho:∀x∈l,Jr x.2):
  Calls prog 44 #[.pointer (some ⟨xb,0,none⟩),v,.agg #[v1,v2]] w (Zh wd l t v w):=by
 obtain ⟨a0,c0,rfl⟩:=h.shape
 obtain ⟨a1,c1,rfl⟩:=h1.shape
 obtain ⟨a2,c2,rfl⟩:=h2.shape
 have l1:=hk.ins
 have l2:=hk.made
 have HK:Hid (TxOk wd t):=hk
 have H:Hid (Xa _ _ _):=h
 have H1:Hid (JB _ _ _ _):=h1
 have H2:Hid (Jo _ _ _ _):=h2
 have HE:Hid (Env E w):=hE
 have HO:Hid (∀x∈l,Jr x.2):=ho
 have HX:Hid (w.cell? ⟨xb,1,none⟩=some (.int .i64 (wd:Int))):=hx
 clear hk h1 h2 h hE ho hx
 have TB:Hid (Tch NoB w (w.alloc (.cells #[.slice a1 t.1.length c1,.slice a2 t.2.length c2] 98))):=Ta NoB w _
 go_enter func44,ntmps44
 go_wp2_with (at_builtin;refine Xm rfl _ _ rfl rfl (HOwn.nil (w.heap.size+1) _) _ l rfl (H.out.tch TB.out) (by simp;omega) (by simp) ?_;intro vn w1 hown hg;have HOW:Hid (HOwn _ w1 vn l):=hown;have HG:Hid (World.grownBy _ w1 _):=hg;clear hown hg)
 have T1:Hid (Tch NoB w w1):=HOwn.grow (HOwn.nil (w.heap.size+1) _) HG.o (by omega) TB.out
 have R1:Hid (w1.heap[w.heap.size]? =some (.cells #[.slice a1 t.1.length c1,.slice a2 t.2.length c2] 98)):=(HG.o.block _ (by simp) (λe=>by cases e)).trans (Qf _ _)
 go_loopw [8,9,10,11] (λvn vi vo i wr=>∃(k:Nat) (lk:List Held) (ik:Nat) (ok:Bool),k<=t.1.length/\i=.int .i64 k/\vi=.int .u64 (ik:Int)/\vo=.bool ok/\Hid (HOwn (w.heap.size+1) wr vn lk)/\Hid (Xc (t.1.drop k) (lk,ik,ok)=Xc t.1 (l,0,false))/\Hid (ik<18446744073709551616)/\lk.length<=l.length/\Hid (∀x∈lk,Jr x.2)/\Hid (Tch NoB w wr)/\Hid (wr.heap[w.heap.size]? =some (.cells #[.slice a1 t.1.length c1,.slice a2 t.2.length c2] 98))) (λ_ _ _ i _=>t.1.length - (intOf i).toNat)
 case atStart=>exact ⟨0,l,0,false,by omega,rfl,rfl,rfl,HOW.o,rfl,(by decide:(0:Nat)<18446744073709551616),Ql _,HO.o,T1.out,R1.o⟩
 case round=>
  clear HOW HG T1 R1 TB
  obtain ⟨k,lk,ik,ok,hk,rfl,rfl,rfl,HOW,HS,HI,hlk,HOK,HT,HR⟩:=hrel
  have d0:wr.cell? ⟨w.heap.size,0,none⟩=some (.slice a1 t.1.length c1):=Ja HR.o
  by_cases hlt:k<t.1.length
  ·rcases H1.o with ⟨e,e2⟩ | ⟨gi,oi,cc,e,_,hgi,hcell⟩
   ·rw [e2] at hlt;simp at hlt
   simp only [Qy,true_and] at e
   obtain ⟨rfl,rfl⟩:=e
   obtain ⟨f0,f1⟩:=hcell k hlt
   have q0:=(HT.o.cell (p:=⟨gi,oi+k * 2,none⟩) hgi (λh=>h)).trans f0
   have q1:=(HT.o.cell (p:=⟨gi,oi+k * 2+1,none⟩) hgi (λh=>h)).trans f1
   have hlti:(k:Int)<(t.1.length:Int):=by omega
   have HD:Hid (t.1.drop k=t.1[k] :: t.1.drop (k+1)):=List.drop_eq_getElem_cons hlt
   have HF:=Jgq u8 lk t.1[k] wr HOW.o.at (by omega)
   clear hcell f0 f1
   cases hf:JZ lk t.1[k] with
   | none=>
    have HFF:Hid (Calls prog 48 #[u8,.agg #[.string t.1[k].1,.int .i64 t.1[k].2]] wr λe w'=>e=.returned (.int .i64 (-1))/\Tch NoB wr w'):=HF.mono (by rintro _ _ ⟨rfl,h⟩;exact ⟨by unfold Yt;rw [hf],h⟩)
    have HN:Hid (Xc t.1 (l,0,false)=none):=(by rw [<-HS.o,HD.o];exact JfN hf:Xc t.1 (l,0,false)=none)
    clear HF hf HD HS
    obtain ⟨va,vc,rfl⟩:=HOW.o.shape
    generalize t.1[k]=c at *
    go_wp2_with (go_at_call 48;refine HFF.o.mono ?_;rintro _ w1 ⟨rfl,ht1⟩;have HT1:Hid (Tch _ wr w1):=ht1;clear ht1)
    go_ret2
    exact Zh.input (HT.o.trans HT1.o noE) HN.o
   | some j=>
    obtain ⟨hj,_⟩:=YZ hf
    have HFF:Hid (Calls prog 48 #[u8,.agg #[.string t.1[k].1,.int .i64 t.1[k].2]] wr λe w'=>e=.returned (.int .i64 (j:Int))/\Tch NoB wr w'):=HF.mono (by rintro _ _ ⟨rfl,h⟩;exact ⟨by unfold Yt;rw [hf],h⟩)
    have HN:Hid (Xc (t.1.drop (k+1)) (lk.eraseIdx j,(ik+lk[j].2.1) % M64,ok || decide ((ik+lk[j].2.1) % M64<ik))=Xc t.1 (l,0,false)):=(by rw [<-HS.o,HD.o];exact (JfO hf hj).symm:_=_)
    clear HF hf HD HS
    obtain ⟨g,cap,hvn,hcap⟩:∃g cap,u8=.slice (some ⟨g,0,none⟩) lk.length cap/\lk.length<=cap:=by
     obtain ⟨_,⟨_,h0⟩ | ⟨g,cap,cur,rfl,_,_,hc,_⟩⟩:=HOW.o
     ·omega
     ·exact ⟨g,cap,rfl,hc⟩
    subst hvn
    have HA:Hid (∀w1,Tch NoB wr w1->w1.cell? ⟨g,j * 4+2,none⟩=some (.int .u64 ((lk[j].2.1:Nat):Int))):=by
     intro w1 ht
     have hh:=(HOW.o.tch ht (λ_ _ h=>h)).at
     rcases hh with ⟨e,_⟩ | ⟨g',o,c',e,hg,hc⟩
     ·cases e
     ·cases e
      have:=(hc j hj).2.2.1
      rwa [Nat.zero_add] at this
    have HAM:Hid (lk[j].2.1<18446744073709551616):=(HOK.o _ (Qx hj)).1
    generalize lk[j].2.1=am at *
    generalize t.1[k]=c at *
    have hj0:¬(j:Int)<0:=by omega
    have hji:(j:Int)<(lk.length:Int):=by omega
    have hjc:(j:Int)<=(cap:Int):=by omega
    have HEC:Hid (cap=j+1->lk.length=j+1):=(by intro e;omega:cap=j+1->lk.length=j+1)
    obtain ⟨sm,hsm⟩:∃sm:Nat,(ik+am) % M64=sm:=⟨_,rfl⟩
    have hwr:IntKind.u64.wrap ((ik:Int)+(am:Int))=(sm:Int):=by rw [<-hsm];simp [IntKind.wrap,IntKind.bits,IntKind.signed,M64]
    rw [hsm] at HN
    have HSM:Hid (sm<18446744073709551616):=(by rw [<-hsm];exact Nat.mod_lt _ (by decide):sm<18446744073709551616)
    clear hsm HAM
    obtain ⟨ov2,hov2⟩:∃ov2:Bool,(ok || decide (sm<ik))=ov2:=⟨_,rfl⟩
    rw [hov2] at HN
    have HOV:Hid ((ok || decide (sm<ik))=ov2):=hov2
    clear hov2
    go_upto_region 11 with (go_at_call 48;refine HFF.o.mono ?_;rintro _ w1 ⟨rfl,ht1⟩;have hcell:=HA.o w1 ht1;have HT1:Hid (Tch _ wr w1):=ht1;have HOW1:Hid (HOwn (w.heap.size+1) w1 _ lk):=HOW.o.tch ht1 (λ_ _ h=>h);clear ht1)
    go_cut [10] (λvo wx=>vo=.bool ov2/\wx=w1)
    case first=>
     cases ok
     all_goals go_wp2
     all_goals go_meet
     ·refine ⟨congrArg Value.bool ?_,rfl⟩
      rw [<-HOV.o];simp
     ·refine ⟨congrArg Value.bool ?_,rfl⟩
      rw [<-HOV.o];rfl
    case rest=>
    obtain ⟨rfl,rfl⟩:=hcut
    obtain ⟨wA,hwA⟩:∃wA,wA=wc:=⟨wc,rfl⟩
    subst hwA
    have HTA:Hid (Tch NoB w wA):=HT.o.trans HT1.o noE
    have HRA:Hid (wA.heap[w.heap.size]? =some (.cells #[.slice (some ⟨gi,oi,none⟩) t.1.length c1,.slice a2 t.2.length c2] 98)):=(HT1.o.block _ (Jb HR.o) (λh=>h)).trans HR.o
    clear HT HT1 HR HOW HFF HA q0 q1 d0 HOV
    go_upto_region 14 with fail
    go_cut [13] (λv3 w3=>Hid (HOwn (w.heap.size+1) w3 v3 (lk.take j))/\Hid (World.grownBy wA w3 none))
    case first=>
     go_wp2_with (at_builtin;refine Xm rfl (.tmp 59) (.tmp 62) rfl rfl (HOwn.nil (w.heap.size+1) _) _ (lk.take j) rfl (HOW1.o.take j (by omega) _) (by simp;omega) (by have:=(Jb HRA.o);omega) ?_;intro v3 w3 hown3 hg3;have HOW3:Hid (HOwn _ w3 v3 _):=hown3;have HG3:Hid (World.grownBy wA w3 _):=hg3;clear hown3 hg3)
     go_meet
     exact ⟨HOW3,HG3⟩
    case rest=>
    obtain ⟨HOW3,HG3⟩:=hcut
    obtain ⟨wB,hwB⟩:∃wB,wB=wc:=⟨wc,rfl⟩
    subst hwB
    have HOWB:Hid (HOwn (w.heap.size+1) wB _ lk):=HOW1.o.tch (Tg HG3.o) (λ_ _ h=>by cases h)
    have HTB:Hid (Tch NoB w wB):=HTA.o.trans (Tg HG3.o) (λ_ h=>by cases h)
    have HRB:Hid (wB.heap[w.heap.size]? =some (.cells #[.slice (some ⟨gi,oi,none⟩) t.1.length c1,.slice a2 t.2.length c2] 98)):=(HG3.o.block _ (Jb HRA.o) (λh=>by cases h)).trans HRA.o
    clear HTA HRA HOW1 hcell HG3
    obtain ⟨b3,n3,hv3⟩:=HOW3.o.shape
    have HNE:Hid (∀wC v4,HOwn (w.heap.size+1) wC v4 (lk.take j++lk.drop (j+1))->World.grownBy wB wC (Value.slice b3 (lk.take j).length n3).ownBlock->(Hid (HOwn (w.heap.size+1) wC v4 (lk.eraseIdx j))/\Tch NoB w wC/\wC.heap[w.heap.size]? =some (.cells #[.slice (some ⟨gi,oi,none⟩) t.1.length c1,.slice a2 t.2.length c2] 98))):=by
     intro wC v4 ho hg
     rw [hv3] at HOW3
     refine ⟨by rw [List.eraseIdx_eq_take_drop_succ];exact ho,HOW3.o.grow hg (by omega) HTB.o,(hg.block _ (Jb HRB.o) (λe=>?_)).trans HRB.o⟩
     have:=(HOW3.o.own _ e.symm).1
     omega
    have HLN:Hid ((lk.eraseIdx j).length<=lk.length/\∀x∈lk.eraseIdx j,Jr x.2):=⟨List.length_eraseIdx_le _ _,λx hx=>HOK.o x (List.mem_of_mem_eraseIdx hx)⟩
    rcases Nat.decEq cap (j+1) with hcj | hcj
    ·go_wp2_with (at_builtin;refine Xm rfl (.tmp 64) (.tmp 68) rfl rfl HOW3.o _ (lk.drop (j+1)) rfl (HOWB.o.drop (j+1) (by omega) _) (by simp;omega) (by have:=(Jb HRB.o);omega) ?_;intro v4 w4 hown4 hg4;rw [hv3] at hg4;obtain ⟨HOW4,ht4,hr4⟩:=HNE.o w4 v4 hown4 hg4;have HT4:Hid (Tch _ w w4):=ht4;have HR4:Hid (_=_):=hr4;clear hown4 hg4 ht4 hr4)
     go_roundw
     case rel=>exact ⟨k+1,lk.eraseIdx j,sm,ov2,by omega,by go_num,rfl,rfl,HOW4,HN.o,HSM.o,by have:=HLN.o.1;omega,HLN.o.2,HT4.o,HR4.o⟩
     case measure=>simp [intOf];omega
    ·go_wp2_with (at_builtin;refine Xm rfl (.tmp 64) (.tmp 68) rfl rfl HOW3.o _ (lk.drop (j+1)) rfl (HOWB.o.dropEnd (j+1) (HEC.o hcj) _) (by simp;omega) (by have:=(Jb HRB.o);omega) ?_;intro v4 w4 hown4 hg4;rw [hv3] at hg4;obtain ⟨HOW4,ht4,hr4⟩:=HNE.o w4 v4 hown4 hg4;have HT4:Hid (Tch _ w w4):=ht4;have HR4:Hid (_=_):=hr4;clear hown4 hg4 ht4 hr4)
     go_roundw
     case rel=>exact ⟨k+1,lk.eraseIdx j,sm,ov2,by omega,by go_num,rfl,rfl,HOW4,HN.o,HSM.o,by have:=HLN.o.1;omega,HLN.o.2,HT4.o,HR4.o⟩
     case measure=>simp [intOf];omega
  ·have HK1:Hid (k=t.1.length):=(by omega:k=t.1.length)
   have hge:¬(k:Int)<(t.1.length:Int):=by omega
   have HSP:Hid (Xc t.1 (l,0,false)=some (lk,ik,ok)):=(by rw [<-HS.o,HK1.o,List.drop_length];rfl:Xc t.1 (l,0,false)=some (lk,ik,ok))
   have hxb:=Qr _ _ HX.o
   have hxw:=(HT.o.cell (p:=⟨xb,1,none⟩) hxb (λh=>h)).trans HX.o
   have d1:wr.cell? ⟨w.heap.size,1,none⟩=some (.slice a2 t.2.length c2):=Ja HR.o
   have HTT:Hid (∀W,Tch NoB wr W->Calls prog 76 #[.agg #[.slice a1 t.1.length c1,.slice a2 t.2.length c2]] W λe w'=>e=.returned (.string ⟨(txB t).toArray⟩)/\Tch NoB W w'):=λW hW=>JjW wd hw B _ _ t HK.o W ((H1.o.tch HT.o noE).tch hW noE) ((H2.o.tch HT.o noE).tch hW noE)
   have HTL:Hid ((txB t).length<=200):=(by have:=Jdb wd t HK.o hw t.2.length;rw [Jda] at this;exact this:(txB t).length<=200)
   generalize hX:txB t=X at *
   have HXX:Hid (txB t=X):=hX
   clear hX HS
   obtain ⟨S,hSz,hSd,hadd⟩:∃S:BA,S.size<=300/\S.data.toList=84 :: X/\∀W,(Op.stringOp .add (⟨#[84]⟩:BA) ⟨X.toArray⟩).run prog W=.ok (.string S) W:=
    ⟨_,by rw [ByteArray.size_append];show 1+X.toArray.size<=300;have:=HTL.o;simp;omega,by simp,λW=>run_string_add_sum (P:=prog) W _ _ (by show 1+X.toArray.size<=_;have:=HTL.o;simp;omega)⟩
   have HDG:Hid (∀W,Tch NoB wr W->Calls prog 39 #[.int .i64 (wd:Int),.string S] W λe w'=>e=.returned (.string (dgW wd (84 :: X)))/\Tch NoB W w'):=λW hW=>by
    have hEW:=(HE.o.tch HT.o noE).tch hW noE
    refine (Ja5 wd S W hw1 hw (by omega) (Qk (by decide) hEW.size) hEW.table).mono ?_
    rintro _ w' ⟨rfl,ht⟩
    exact ⟨by rw [hSd];rfl,ht⟩
   clear hSz hSd
   go_upto_region 17 with fail
   go_cut [14] (λid wx=>id=.string (dgW wd (84 :: X))/\Hid (Tch NoB wr wx))
   case first=>
    go_region_with (first | (go_at_call 76;refine (HTT.o _ (Td _ _ 1)).mono ?_;rintro _ w1 ⟨rfl,ht1⟩;have hx1:=(((Td NoB wr 1).trans ht1 (λ_ h=>.inl h)).cell (p:=⟨xb,1,none⟩) (Qk hxb HT.o.size) (λh=>h)).trans hxw;have HT1:Hid (Tch NoB wr w1):=(Td NoB wr 1).trans ht1 (λ_ h=>.inl h);clear ht1) | (go_at_call 39;refine (HDG.o _ HT1.o).mono ?_;rintro _ w2 ⟨rfl,ht2⟩;have HT2:Hid (Tch NoB wr w2):=HT1.o.trans ht2 noE;clear ht2))
    all_goals (go_wp2;go_meet;exact ⟨rfl,HT2⟩)
   case rest=>
   obtain ⟨rfl,HTC⟩:=hcut
   obtain ⟨wA,hwA⟩:∃wA,wA=wc:=⟨wc,rfl⟩
   subst hwA
   have HTA:Hid (Tch NoB w wA):=HT.o.trans HTC.o noE
   have HRA:Hid (wA.heap[w.heap.size]? =some (.cells #[.slice a1 t.1.length c1,.slice a2 t.2.length c2] 98)):=(HTC.o.block _ (Jb HR.o) (λh=>h)).trans HR.o
   have HOWA:Hid (HOwn (w.heap.size+1) wA u8 lk):=HOW.o.tch HTC.o (λ_ _ h=>h)
   obtain ⟨id,hid⟩:∃id,dgW wd (84 :: X)=id:=⟨_,rfl⟩
   have HIDS:Hid (id.size=wd):=(by rw [<-hid];exact Jq wd hw _:id.size=wd)
   have HIDX:Hid (dgW wd (84 :: X)=id):=hid
   rw [hid]
   clear hid HTT HDG hadd HTL HT HTC HR HOW d0 d1 hge hxw
   go_wp2
   go_loopw [8,10,15,16] (λvn vo vi i wr=>∃(k:Nat) (lj:List Held) (ij:Nat) (oj:Bool),k<=t.2.length/\i=.int .i64 k/\vi=.int .u64 (ij:Int)/\vo=.bool oj/\Hid (HOwn (w.heap.size+1) wr vn lj)/\Hid (JE id k (t.2.drop k) (lj,ij,oj)=JE id 0 t.2 (lk,0,ok))/\Hid (ij<18446744073709551616)/\lj.length<=lk.length+k/\Hid (Tch NoB w wr)/\Hid (wr.heap[w.heap.size]? =some (.cells #[.slice a1 t.1.length c1,.slice a2 t.2.length c2] 98))) (λ_ _ _ i _=>t.2.length - (intOf i).toNat)
   case atStart=>exact ⟨0,lk,0,ok,by omega,rfl,rfl,rfl,HOWA.o,rfl,(by decide:(0:Nat)<18446744073709551616),by omega,HTA.o,HRA.o⟩
   case round=>
    clear HOWA HTA HRA
    obtain ⟨k,lj,ij,oj,hk,rfl,rfl,rfl,HOW,HRC,HIJ,hlj,HT,HR⟩:=hrel
    have d1:wr.cell? ⟨w.heap.size,1,none⟩=some (.slice a2 t.2.length c2):=Ja HR.o
    by_cases hlt:k<t.2.length
    ·rcases H2.o with ⟨e,e2⟩ | ⟨gi,oi,cc,e,_,hgi,hcell⟩
     ·rw [e2] at hlt;simp at hlt
     simp only [Qy,true_and] at e
     obtain ⟨rfl,rfl⟩:=e
     obtain ⟨f0,f1⟩:=hcell k hlt
     have HD:Hid (t.2.drop k=t.2[k] :: t.2.drop (k+1)):=List.drop_eq_getElem_cons hlt
     have HOK2:Hid (t.2[k].1<18446744073709551616):=(HK.o.outs _ (Qx hlt)).1
     have hlti:(k:Int)<(t.2.length:Int):=by omega
     clear hcell
     generalize t.2[k]=o at *
     obtain ⟨oa,oo⟩:=o
     simp only at f0 f1
     have TC:Hid (Tch NoB wr (wr.alloc (.cells #[.string id,.int .i64 (k:Int)] 49))):=Ta _ _ _
     have HF:=Jgq u8 lj (id,(k:Int)) (wr.alloc (.cells #[.string id,.int .i64 (k:Int)] 49)) (HOW.o.tch TC.out (λ_ _ h=>h)).at (by omega)
     cases hf:JZ lj (id,(k:Int)) with
     | some j=>
      have HFF:Hid (Calls prog 48 #[u8,.agg #[.string id,.int .i64 (k:Int)]] (wr.alloc (.cells #[.string id,.int .i64 (k:Int)] 49)) λe w'=>e=.returned (.int .i64 (j:Int))/\Tch NoB (wr.alloc (.cells #[.string id,.int .i64 (k:Int)] 49)) w'):=HF.mono (by rintro _ _ ⟨rfl,h⟩;exact ⟨by unfold Yt;rw [hf],h⟩)
      have HN:Hid (JE id 0 t.2 (lk,0,ok)=none):=(by rw [<-HRC.o,HD.o];simp only [JE,hf]:JE id 0 t.2 (lk,0,ok)=none)
      clear HF hf HD HRC
      have hj0:(0:Int)<=(j:Int):=by omega
      obtain ⟨va,vc,rfl⟩:=HOW.o.shape
      go_wp2_with (go_at_call 48;refine HFF.o.mono ?_;rintro _ w1 ⟨rfl,ht1⟩;have HT1:Hid (Tch _ wr w1):=TC.out.trans ht1 noE;clear ht1)
      go_ret2
      exact Zh.exist (HT.o.trans HT1.o noE) HSP.o HXX.o HIDX.o HN.o
     | none=>
      have HFF:Hid (Calls prog 48 #[u8,.agg #[.string id,.int .i64 (k:Int)]] (wr.alloc (.cells #[.string id,.int .i64 (k:Int)] 49)) λe w'=>e=.returned (.int .i64 (-1))/\Tch NoB (wr.alloc (.cells #[.string id,.int .i64 (k:Int)] 49)) w'):=HF.mono (by rintro _ _ ⟨rfl,h⟩;exact ⟨by unfold Yt;rw [hf],h⟩)
      have HN:Hid (JE id (k+1) (t.2.drop (k+1)) (lj++[((id,(k:Int)),(oa,oo))],(ij+oa) % M64,oj || decide ((ij+oa) % M64<ij))=JE id 0 t.2 (lk,0,ok)):=(by rw [<-HRC.o,HD.o];simp only [JE,hf]:_=_)
      clear HF hf HD HRC
      obtain ⟨sm,hsm⟩:∃sm:Nat,(ij+oa) % M64=sm:=⟨_,rfl⟩
      have hwr:IntKind.u64.wrap ((ij:Int)+(oa:Int))=(sm:Int):=by rw [<-hsm];simp [IntKind.wrap,IntKind.bits,IntKind.signed,M64]
      rw [hsm] at HN
      have HSM:Hid (sm<18446744073709551616):=(by rw [<-hsm];exact Nat.mod_lt _ (by decide):sm<18446744073709551616)
      clear hsm
      obtain ⟨ov2,hov2⟩:∃ov2:Bool,(oj || decide (sm<ij))=ov2:=⟨_,rfl⟩
      rw [hov2] at HN
      have HOV:Hid ((oj || decide (sm<ij))=ov2):=hov2
      clear hov2
      obtain ⟨va,vc,rfl⟩:=HOW.o.shape
      go_upto_region 25 with (go_at_call 48;refine HFF.o.mono ?_;rintro _ w1 ⟨rfl,ht1⟩;have HT1:Hid (Tch _ wr w1):=TC.out.trans ht1 noE;have hcr:w1.heap[wr.heap.size]? =some (.cells #[.string id,.int .i64 (k:Int)] 49):=(ht1.block _ (by simp) (λh=>h)).trans (Qf _ _);clear ht1)
      have HT1W:Hid (Tch NoB w w1):=HT.o.trans HT1.o noE
      have HR1:Hid (w1.heap[w.heap.size]? =some (.cells #[.slice a1 t.1.length c1,.slice (some ⟨gi,oi,none⟩) t.2.length c2] 98)):=(HT1.o.block _ (Jb HR.o) (λh=>h)).trans HR.o
      have HOW1:Hid (HOwn (w.heap.size+1) w1 _ lj):=HOW.o.tch HT1.o (λ_ _ h=>h)
      have e0:w1.cell? ⟨wr.heap.size,0,none⟩=some (.string id):=Ja hcr
      have e1:w1.cell? ⟨wr.heap.size,1,none⟩=some (.int .i64 (k:Int)):=Ja hcr
      have e2:w1.cell? ⟨w.heap.size,1,none⟩=some (.slice (some ⟨gi,oi,none⟩) t.2.length c2):=Ja HR1.o
      have e3:=(HT1W.o.cell (p:=⟨gi,oi+k * 2,none⟩) hgi (λh=>h)).trans f0
      have e4:=(HT1W.o.cell (p:=⟨gi,oi+k * 2+1,none⟩) hgi (λh=>h)).trans f1
      have HF0:Hid (w.cell? ⟨gi,oi+k * 2,none⟩=_):=f0
      clear HT HR HOW HFF TC hcr f0 f1 d1 HT1
      go_cut [8] (λv3 w3=>Hid (HOwn (w.heap.size+1) w3 v3 (lj++[((id,(k:Int)),(oa,oo))]))/\Hid (Tch NoB w w3)/\Hid (w3.heap[w.heap.size]? =some (.cells #[.slice a1 t.1.length c1,.slice (some ⟨gi,oi,none⟩) t.2.length c2] 98)))
      case first=>
       go_region_law (refine JbJ rfl _ _ rfl rfl (HOW1.o.tch (Tch.drewAlloc w1 _) (λ_ _ h=>h)) _ [((id,(k:Int)),(oa,oo))] rfl (Jfn w1.drew (id,(k:Int)) (oa,oo)) (by simp;omega) (by have:=(Jb HR1.o);simp;omega) ?_;intro v3 w3 hown3 hg3;have HOW3:Hid (HOwn _ w3 v3 _):=hown3;have HG3:Hid (World.grownBy _ w3 _):=hg3;clear hown3 hg3)
       all_goals
        go_wp2
        go_meet
        refine ⟨HOW3,(HOW1.o.tch (Tch.drewAlloc w1 _) (λ_ _ h=>h)).grow HG3.o (by omega) (HT1W.o.trans (Tch.drewAlloc w1 _) noE),?_⟩
        have hlt1:=(Jb HR1.o)
        exact (HG3.o.block _ (by simp;omega) (λe=>by have:=(HOW1.o.own _ e.symm).1;omega)).trans (((Tch.drewAlloc w1 _).block _ hlt1 (λh=>h)).trans HR1.o)
      case rest=>
      obtain ⟨HOW3,HTB,HRB⟩:=hcut
      obtain ⟨wB,hwB⟩:∃wB,wB=wc:=⟨wc,rfl⟩
      subst hwB
      have e5:wB.cell? ⟨w.heap.size,1,none⟩=some (.slice (some ⟨gi,oi,none⟩) t.2.length c2):=Ja HRB.o
      have e6:=(HTB.o.cell (p:=⟨gi,oi+k * 2,none⟩) hgi (λh=>h)).trans HF0.o
      clear e0 e1 e2 e3 e4 HF0 HT1W HR1 HOW1
      go_upto_region 26 with fail
      go_cut [10] (λvo wx=>vo=.bool ov2/\wx=wB)
      case first=>
       cases oj
       all_goals go_wp2
       all_goals go_meet
       ·refine ⟨congrArg Value.bool ?_,rfl⟩
        rw [<-HOV.o];simp
       ·refine ⟨congrArg Value.bool ?_,rfl⟩
        rw [<-HOV.o];rfl
      case rest=>
      obtain ⟨rfl,rfl⟩:=hcut
      have HLL:Hid ((lj++[((id,(k:Int)),(oa,oo))]).length<=lk.length+(k+1)):=(by simp;omega:(lj++[((id,(k:Int)),(oa,oo))]).length<=lk.length+(k+1))
      go_wp2
      go_roundw
      case rel=>exact ⟨k+1,lj++[((id,(k:Int)),(oa,oo))],sm,ov2,by omega,by go_num,rfl,rfl,HOW3,HN.o,HSM.o,HLL.o,HTB.o,HRB.o⟩
      case measure=>simp [intOf];omega
    ·have HK2:Hid (k=t.2.length):=(by omega:k=t.2.length)
     have hge:¬(k:Int)<(t.2.length:Int):=by omega
     have HRF:Hid (JE id 0 t.2 (lk,0,ok)=some (lj,ij,oj)):=(by rw [<-HRC.o,HK2.o,List.drop_length];rfl:JE id 0 t.2 (lk,0,ok)=some (lj,ij,oj))
     obtain ⟨va,vc,rfl⟩:=HOW.o.shape
     cases oj with
     | true=>
      go_wp2
      go_ret2
      exact Zh.sum HT.o HSP.o HXX.o HIDX.o HRF.o (.inl rfl)
     | false=>
      by_cases hgt:ik<ij
      ·have hgti:(ik:Int)<(ij:Int):=by omega
       go_wp2
       go_ret2
       exact Zh.sum HT.o HSP.o HXX.o HIDX.o HRF.o (.inr hgt)
      ·have hgti:¬(ik:Int)<(ij:Int):=by omega
       go_wp2
       go_ret2
       exact Zh.done HT.o HSP.o HXX.o HIDX.o HRF.o HOW.o.t (λj hj=>by have:=(HOW.o.own j hj).1;omega) (by rintro (h | h);cases h;exact hgt h)
