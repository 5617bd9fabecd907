import Derived.Test.YtighkdnooglfjaaGreatDoorTcKHeld
import Derived.Test.YtighkdnooglfjaaGreatDoorTcWText
namespace Go.Proofs.YtighkdnooglfjaaGreatDoor
open Tryz
set_option maxRecDepth 100000
set_option maxHeartbeats 4000000
open Go.RowKit

def Xu:Er->Int
 | 0=>1
 | 1=>2
 | 2=>3
 | 3=>4
 | 4=>5
 | 5=>6
 | 6=>7
def Zm (wd:Nat) (l:List Held) (t:TxL) (v:Value) (w:World) (e:Ending) (w':World):Prop:=
 Tch NoB w w'/\match Xk (dgW wd) l t with
  | .error er=>e=.returned (.tuple #[v,.int .i64 (Xu er)])
  | .ok l'=>∃v',e=.returned (.tuple #[v',.int .i64 0])/\XX w' v' l'/\∀j,v'.ownBlock=some j->w.heap.size<=j
theorem Zm.input {wd:Nat} {l:List Held} {t:TxL} {v:Value} {w w':World} (ht:Tch NoB w w') (h:Xg t.1 (l,0,false)=none):Zm wd l t v w (.returned (.tuple #[v,.int .i64 3])) w':=by
 refine ⟨ht,?_⟩
 unfold Xk;rw [h];rfl
theorem Zm.exist {wd:Nat} {l l1:List Held} {t:TxL} {v:Value} {w w':World} {i:Nat} {o:Bool} {id:BA} {X:List UInt8} (ht:Tch NoB w w') (h:Xg t.1 (l,0,false)=some (l1,i,o)) (hX:txB t=X) (hid:dgW wd (84 :: X)=id) (hr:JC id 0 t.2 (l1,0,o)=none):Zm wd l t v w (.returned (.tuple #[v,.int .i64 4])) w':=by
 refine ⟨ht,?_⟩
 unfold Xk;rw [h];dsimp only;rw [hX,hid,hr];rfl
theorem Zm.done {wd:Nat} {l l1 l2:List Held} {t:TxL} {v v':Value} {w w':World} {i u:Nat} {o o2:Bool} {id:BA} {X:List UInt8} (ht:Tch NoB w w') (h:Xg t.1 (l,0,false)=some (l1,i,o)) (hX:txB t=X) (hid:dgW wd (84 :: X)=id) (hr:JC id 0 t.2 (l1,0,o)=some (l2,u,o2)) (ho:XX w' v' l2) (hb:∀j,v'.ownBlock=some j->w.heap.size<=j) (hn:¬(o2=true\/i<u)):Zm wd l t v w (.returned (.tuple #[v',.int .i64 0])) w':=by
 refine ⟨ht,?_⟩
 unfold Xk;rw [h];dsimp only;rw [hX,hid,hr];dsimp only;rw [if_neg hn];exact ⟨v',rfl,ho,hb⟩
theorem Zm.sum {wd:Nat} {l l1 l2:List Held} {t:TxL} {v:Value} {w w':World} {i u:Nat} {o o2:Bool} {id:BA} {X:List UInt8} (ht:Tch NoB w w') (h:Xg t.1 (l,0,false)=some (l1,i,o)) (hX:txB t=X) (hid:dgW wd (84 :: X)=id) (hr:JC id 0 t.2 (l1,0,o)=some (l2,u,o2)) (hn:o2=true\/i<u):Zm wd l t v w (.returned (.tuple #[v,.int .i64 5])) w':=by
 refine ⟨ht,?_⟩
 unfold Xk;rw [h];dsimp only;rw [hX,hid,hr];dsimp only;rw [if_pos hn];rfl
theorem Tch.drewAlloc (w:World) (o:Obj):Tch NoB w (w.drew.alloc o):=(Td NoB w 1).trans (Ta NoB _ o) (λ_ h=>.inl h)
theorem Jfe (W:World) (c:BA×Int) (o:Nat×Nat):JH (W.alloc (.cells #[.string c.1,.int .i64 c.2,.int .u64 ((o.1:Nat):Int),.int .u8 ((o.2:Nat):Int)] 87)) (.slice (some ⟨W.heap.size,0,none⟩) 1 1) [(c,o)]:=by
 refine .inr ⟨W.heap.size,0,1,rfl,by simp,λi hi=>?_⟩
 obtain rfl:i=0:=by simpa using hi
 have hrow:=Qf W (.cells #[.string c.1,.int .i64 c.2,.int .u64 ((o.1:Nat):Int),.int .u8 ((o.2:Nat):Int)] 87)
 exact ⟨Ja hrow,Ja hrow,Ja hrow,Ja hrow⟩
theorem JfE {c:BA×Int} {r:List (BA×Int)} {now:List Held} {i:Nat} {o:Bool} (h:Xe now c=none):Xg (c :: r) (now,i,o)=none:=by simp only [Xg,h]
theorem JfF {c:BA×Int} {r:List (BA×Int)} {now:List Held} {i k:Nat} {o:Bool} (h:Xe now c=some k) (hk:k<now.length):Xg (c :: r) (now,i,o)=Xg r (now.eraseIdx k,(i+now[k].2.1) % M64,o || decide ((i+now[k].2.1) % M64<i)):=by
 simp only [Xg,h,Qn,Qd hk,Option.getD_some]
theorem HOwn.take {base:Nat} {w:World} {g cap:Nat} {l:List Held} (h:HOwn base w (.slice (some ⟨g,0,none⟩) l.length cap) l) (j:Nat) (hj:j<=l.length) (c:Nat):JH w (.slice (some ⟨g,0,none⟩) j c) (l.take j):=by
 rcases h.at with ⟨e,_⟩ | ⟨g',o,c',e,hg,hcell⟩
 ·cases e
 ·cases e
  have hl:(l.take j).length=j:=by rw [QB];omega
  refine .inr ⟨g,0,c,by rw [hl],hg,λi hi=>?_⟩
  have:=hcell i (by omega)
  simpa using this
theorem HOwn.drop {base:Nat} {w:World} {g cap:Nat} {l:List Held} (h:HOwn base w (.slice (some ⟨g,0,none⟩) l.length cap) l) (j:Nat) (hj:j<=l.length) (c:Nat):JH w (.slice (some ⟨g,j * 4,none⟩) (l.length - j) c) (l.drop j):=by
 rcases h.at with ⟨e,_⟩ | ⟨g',o,c',e,hg,hcell⟩
 ·cases e
 ·cases e
  refine .inr ⟨g,j * 4,c,by rw [List.length_drop],hg,λi hi=>?_⟩
  rw [List.length_drop] at hi
  have:=hcell (j+i) (by omega)
  rw [show 0+(j+i) * 4=j * 4+i * 4 by omega] at this
  simpa using this
theorem HOwn.dropEnd {base:Nat} {w:World} {g cap:Nat} {l:List Held} (h:HOwn base w (.slice (some ⟨g,0,none⟩) l.length cap) l) (j:Nat) (hj:l.length=j) (c:Nat):JH w (.slice (some ⟨g,0,none⟩) (l.length - j) c) (l.drop j):=by
 have e:l.drop j=[]:=List.drop_eq_nil_of_le (by omega)
 rw [e]
 rcases h.at with ⟨e,_⟩ | ⟨g',o,c',e,hg,hcell⟩
 ·cases e
 ·cases e
  exact .inr ⟨g,0,c,by rw [hj,Nat.sub_self];rfl,hg,λi hi=>by simp at hi⟩
theorem Jh8 (E:Nat->Addr) (wd:Nat) (hw1:1<=wd) (hw:wd<=32) (xb:Nat) (v:Value) (l:List Held) (B:Nat) (v1 v2:Value) (t:TxL) (w:World) (hE:Env E w) (hx:w.cell? ⟨xb,1,none⟩=some (.int .i64 (wd:Int))) (h:JH w v l) (hk:TxOk wd t) (h1:Jz B w v1 t.1) (h2:Jo B w v2 t.2) (hl:l.length<=900000000) (ho:∀x∈l,Jq x.2):
  Calls prog 44 #[.pointer (some ⟨xb,0,none⟩),v,.agg #[v1,v2]] w (Zm wd l t v w):=by
 obtain ⟨a0,c0,rfl⟩:=h.shape
 obtain ⟨a1,c1,rfl⟩:=h1.shape
 obtain ⟨a2,c2,rfl⟩:=h2.shape
 have l1:=hk.ins
 have l2:=hk.made
 have HK:Hid (TxOk wd t):=hk
 have H:Hid (JH _ _ _):=h
 have H1:Hid (Jz _ _ _ _):=h1
 have H2:Hid (Jo _ _ _ _):=h2
 have HE:Hid (Env E w):=hE
 have HO:Hid (∀x∈l,Jq x.2):=ho
 have HX:Hid (w.cell? ⟨xb,1,none⟩=some (.int .i64 (wd:Int))):=hx
 clear hk h1 h2 h hE ho hx
 have TB:Hid (Tch NoB w (w.alloc (.cells #[.slice a1 t.1.length c1,.slice a2 t.2.length c2] 98))):=Ta NoB w _
 go_enter func44,ntmps44
 go_wp2_with (at_builtin;refine Xp rfl _ _ rfl rfl (HOwn.nil (w.heap.size+1) _) _ l rfl (H.out.tch TB.out) (by simp;omega) (by simp) ?_;intro vn w1 hown hg;have HOW:Hid (HOwn _ w1 vn l):=hown;have HG:Hid (World.grownBy _ w1 _):=hg;clear hown hg)
 have T1:Hid (Tch NoB w w1):=HOwn.grow (HOwn.nil (w.heap.size+1) _) HG.o (by omega) TB.out
 have R1:Hid (w1.heap[w.heap.size]? =some (.cells #[.slice a1 t.1.length c1,.slice a2 t.2.length c2] 98)):=(HG.o.block _ (by simp) (λe=>by cases e)).trans (Qf _ _)
 go_loopw [8,9,10,11] (λvn vi vo i wr=>∃(k:Nat) (lk:List Held) (ik:Nat) (ok:Bool),k<=t.1.length/\i=.int .i64 k/\vi=.int .u64 (ik:Int)/\vo=.bool ok/\Hid (HOwn (w.heap.size+1) wr vn lk)/\Hid (Xg (t.1.drop k) (lk,ik,ok)=Xg t.1 (l,0,false))/\Hid (ik<18446744073709551616)/\lk.length<=l.length/\Hid (∀x∈lk,Jq x.2)/\Hid (Tch NoB w wr)/\Hid (wr.heap[w.heap.size]? =some (.cells #[.slice a1 t.1.length c1,.slice a2 t.2.length c2] 98))) (λ_ _ _ i _=>t.1.length - (intOf i).toNat)
 case atStart=>exact ⟨0,l,0,false,by omega,rfl,rfl,rfl,HOW.o,rfl,(by decide:(0:Nat)<18446744073709551616),Ql _,HO.o,T1.out,R1.o⟩
 case round=>
  clear HOW HG T1 R1 TB
  obtain ⟨k,lk,ik,ok,hk,rfl,rfl,rfl,HOW,HS,HI,hlk,HOK,HT,HR⟩:=hrel
  have d0:wr.cell? ⟨w.heap.size,0,none⟩=some (.slice a1 t.1.length c1):=Ja HR.o
  by_cases hlt:k<t.1.length
  ·rcases H1.o with ⟨e,e2⟩ | ⟨gi,oi,cc,e,_,hgi,hcell⟩
   ·rw [e2] at hlt;simp at hlt
   simp only [Qy,true_and] at e
   obtain ⟨rfl,rfl⟩:=e
   obtain ⟨f0,f1⟩:=hcell k hlt
   have q0:=(HT.o.cell (p:=⟨gi,oi+k * 2,none⟩) hgi (λh=>h)).trans f0
   have q1:=(HT.o.cell (p:=⟨gi,oi+k * 2+1,none⟩) hgi (λh=>h)).trans f1
   have hlti:(k:Int)<(t.1.length:Int):=by omega
   have HD:Hid (t.1.drop k=t.1[k] :: t.1.drop (k+1)):=List.drop_eq_getElem_cons hlt
   have HF:=Jgk u8 lk t.1[k] wr HOW.o.at (by omega)
   clear hcell f0 f1
   cases hf:Xe lk t.1[k] with
   | none=>
    have HFF:Hid (Calls prog 48 #[u8,.agg #[.string t.1[k].1,.int .i64 t.1[k].2]] wr λe w'=>e=.returned (.int .i64 (-1))/\Tch NoB wr w'):=HF.mono (by rintro _ _ ⟨rfl,h⟩;exact ⟨by unfold YB;rw [hf],h⟩)
    have HN:Hid (Xg t.1 (l,0,false)=none):=(by rw [<-HS.o,HD.o];exact JfE hf:Xg t.1 (l,0,false)=none)
    clear HF hf HD HS
    obtain ⟨va,vc,rfl⟩:=HOW.o.shape
    generalize t.1[k]=c at *
    go_wp2_with (go_at_call 48;refine HFF.o.mono ?_;rintro _ w1 ⟨rfl,ht1⟩;have HT1:Hid (Tch _ wr w1):=ht1;clear ht1)
    go_ret2
    exact Zm.input (HT.o.trans HT1.o noE) HN.o
   | some j=>
    obtain ⟨hj,_⟩:=Zf hf
    have HFF:Hid (Calls prog 48 #[u8,.agg #[.string t.1[k].1,.int .i64 t.1[k].2]] wr λe w'=>e=.returned (.int .i64 (j:Int))/\Tch NoB wr w'):=HF.mono (by rintro _ _ ⟨rfl,h⟩;exact ⟨by unfold YB;rw [hf],h⟩)
    have HN:Hid (Xg (t.1.drop (k+1)) (lk.eraseIdx j,(ik+lk[j].2.1) % M64,ok || decide ((ik+lk[j].2.1) % M64<ik))=Xg t.1 (l,0,false)):=(by rw [<-HS.o,HD.o];exact (JfF hf hj).symm:_=_)
    clear HF hf HD HS
    obtain ⟨g,cap,hvn,hcap⟩:∃g cap,u8=.slice (some ⟨g,0,none⟩) lk.length cap/\lk.length<=cap:=by
     obtain ⟨_,⟨_,h0⟩ | ⟨g,cap,cur,rfl,_,_,hc,_⟩⟩:=HOW.o
     ·omega
     ·exact ⟨g,cap,rfl,hc⟩
    subst hvn
    have HA:Hid (∀w1,Tch NoB wr w1->w1.cell? ⟨g,j * 4+2,none⟩=some (.int .u64 ((lk[j].2.1:Nat):Int))):=by
     intro w1 ht
     have hh:=(HOW.o.tch ht (λ_ _ h=>h)).at
     rcases hh with ⟨e,_⟩ | ⟨g',o,c',e,hg,hc⟩
     ·cases e
     ·cases e
      have:=(hc j hj).2.2.1
      rwa [Nat.zero_add] at this
    have HAM:Hid (lk[j].2.1<18446744073709551616):=(HOK.o _ (Qx hj)).1
    generalize lk[j].2.1=am at *
    generalize t.1[k]=c at *
    have hj0:¬(j:Int)<0:=by omega
    have hji:(j:Int)<(lk.length:Int):=by omega
    have hjc:(j:Int)<=(cap:Int):=by omega
    have HEC:Hid (cap=j+1->lk.length=j+1):=(by intro e;omega:cap=j+1->lk.length=j+1)
    obtain ⟨sm,hsm⟩:∃sm:Nat,(ik+am) % M64=sm:=⟨_,rfl⟩
    have hwr:IntKind.u64.wrap ((ik:Int)+(am:Int))=(sm:Int):=by rw [<-hsm];simp [IntKind.wrap,IntKind.bits,IntKind.signed,M64]
    rw [hsm] at HN
    have HSM:Hid (sm<18446744073709551616):=(by rw [<-hsm];exact Nat.mod_lt _ (by decide):sm<18446744073709551616)
    clear hsm HAM
    obtain ⟨ov2,hov2⟩:∃ov2:Bool,(ok || decide (sm<ik))=ov2:=⟨_,rfl⟩
    rw [hov2] at HN
    have HOV:Hid ((ok || decide (sm<ik))=ov2):=hov2
    clear hov2
    go_upto_region 11 with (go_at_call 48;refine HFF.o.mono ?_;rintro _ w1 ⟨rfl,ht1⟩;have hcell:=HA.o w1 ht1;have HT1:Hid (Tch _ wr w1):=ht1;have HOW1:Hid (HOwn (w.heap.size+1) w1 _ lk):=HOW.o.tch ht1 (λ_ _ h=>h);clear ht1)
    go_cut [10] (λvo wx=>vo=.bool ov2/\wx=w1)
    case first=>
     cases ok
     all_goals go_wp2
     all_goals go_meet
     ·refine ⟨congrArg Value.bool ?_,rfl⟩
      rw [<-HOV.o];simp
     ·refine ⟨congrArg Value.bool ?_,rfl⟩
      rw [<-HOV.o];rfl
    case rest=>
    obtain ⟨rfl,rfl⟩:=hcut
    obtain ⟨wA,hwA⟩:∃wA,wA=wc:=⟨wc,rfl⟩
    subst hwA
    have HTA:Hid (Tch NoB w wA):=HT.o.trans HT1.o noE
    have HRA:Hid (wA.heap[w.heap.size]? =some (.cells #[.slice (some ⟨gi,oi,none⟩) t.1.length c1,.slice a2 t.2.length c2] 98)):=(HT1.o.block _ (Jb HR.o) (λh=>h)).trans HR.o
    clear HT HT1 HR HOW HFF HA q0 q1 d0 HOV
    go_upto_region 14 with fail
    go_cut [13] (λv3 w3=>Hid (HOwn (w.heap.size+1) w3 v3 (lk.take j))/\Hid (World.grownBy wA w3 none))
    case first=>
     go_wp2_with (at_builtin;refine Xp rfl (.tmp 59) (.tmp 62) rfl rfl (HOwn.nil (w.heap.size+1) _) _ (lk.take j) rfl (HOW1.o.take j (by omega) _) (by simp;omega) (by have:=(Jb HRA.o);omega) ?_;intro v3 w3 hown3 hg3;have HOW3:Hid (HOwn _ w3 v3 _):=hown3;have HG3:Hid (World.grownBy wA w3 _):=hg3;clear hown3 hg3)
     go_meet
     exact ⟨HOW3,HG3⟩
    case rest=>
    obtain ⟨HOW3,HG3⟩:=hcut
    obtain ⟨wB,hwB⟩:∃wB,wB=wc:=⟨wc,rfl⟩
    subst hwB
    have HOWB:Hid (HOwn (w.heap.size+1) wB _ lk):=HOW1.o.tch (Tg HG3.o) (λ_ _ h=>by cases h)
    have HTB:Hid (Tch NoB w wB):=HTA.o.trans (Tg HG3.o) (λ_ h=>by cases h)
    have HRB:Hid (wB.heap[w.heap.size]? =some (.cells #[.slice (some ⟨gi,oi,none⟩) t.1.length c1,.slice a2 t.2.length c2] 98)):=(HG3.o.block _ (Jb HRA.o) (λh=>by cases h)).trans HRA.o
    clear HTA HRA HOW1 hcell HG3
    obtain ⟨b3,n3,hv3⟩:=HOW3.o.shape
    have HNE:Hid (∀wC v4,HOwn (w.heap.size+1) wC v4 (lk.take j++lk.drop (j+1))->World.grownBy wB wC (Value.slice b3 (lk.take j).length n3).ownBlock->(Hid (HOwn (w.heap.size+1) wC v4 (lk.eraseIdx j))/\Tch NoB w wC/\wC.heap[w.heap.size]? =some (.cells #[.slice (some ⟨gi,oi,none⟩) t.1.length c1,.slice a2 t.2.length c2] 98))):=by
     intro wC v4 ho hg
     rw [hv3] at HOW3
     refine ⟨by rw [List.eraseIdx_eq_take_drop_succ];exact ho,HOW3.o.grow hg (by omega) HTB.o,(hg.block _ (Jb HRB.o) (λe=>?_)).trans HRB.o⟩
     have:=(HOW3.o.own _ e.symm).1
     omega
    have HLN:Hid ((lk.eraseIdx j).length<=lk.length/\∀x∈lk.eraseIdx j,Jq x.2):=⟨List.length_eraseIdx_le _ _,λx hx=>HOK.o x (List.mem_of_mem_eraseIdx hx)⟩
    rcases Nat.decEq cap (j+1) with hcj | hcj
    ·go_wp2_with (at_builtin;refine Xp rfl (.tmp 64) (.tmp 68) rfl rfl HOW3.o _ (lk.drop (j+1)) rfl (HOWB.o.drop (j+1) (by omega) _) (by simp;omega) (by have:=(Jb HRB.o);omega) ?_;intro v4 w4 hown4 hg4;rw [hv3] at hg4;obtain ⟨HOW4,ht4,hr4⟩:=HNE.o w4 v4 hown4 hg4;have HT4:Hid (Tch _ w w4):=ht4;have HR4:Hid (_=_):=hr4;clear hown4 hg4 ht4 hr4)
     go_roundw
     case rel=>exact ⟨k+1,lk.eraseIdx j,sm,ov2,by omega,by go_num,rfl,rfl,HOW4,HN.o,HSM.o,by have:=HLN.o.1;omega,HLN.o.2,HT4.o,HR4.o⟩
     case measure=>simp [intOf];omega
    ·go_wp2_with (at_builtin;refine Xp rfl (.tmp 64) (.tmp 68) rfl rfl HOW3.o _ (lk.drop (j+1)) rfl (HOWB.o.dropEnd (j+1) (HEC.o hcj) _) (by simp;omega) (by have:=(Jb HRB.o);omega) ?_;intro v4 w4 hown4 hg4;rw [hv3] at hg4;obtain ⟨HOW4,ht4,hr4⟩:=HNE.o w4 v4 hown4 hg4;have HT4:Hid (Tch _ w w4):=ht4;have HR4:Hid (_=_):=hr4;clear hown4 hg4 ht4 hr4)
     go_roundw
     case rel=>exact ⟨k+1,lk.eraseIdx j,sm,ov2,by omega,by go_num,rfl,rfl,HOW4,HN.o,HSM.o,by have:=HLN.o.1;omega,HLN.o.2,HT4.o,HR4.o⟩
     case measure=>simp [intOf];omega
  ·have HK1:Hid (k=t.1.length):=(by omega:k=t.1.length)
   have hge:¬(k:Int)<(t.1.length:Int):=by omega
   have HSP:Hid (Xg t.1 (l,0,false)=some (lk,ik,ok)):=(by rw [<-HS.o,HK1.o,List.drop_length];rfl:Xg t.1 (l,0,false)=some (lk,ik,ok))
   have hxb:=Qr _ _ HX.o
   have hxw:=(HT.o.cell (p:=⟨xb,1,none⟩) hxb (λh=>h)).trans HX.o
   have d1:wr.cell? ⟨w.heap.size,1,none⟩=some (.slice a2 t.2.length c2):=Ja HR.o
   have HTT:Hid (∀W,Tch NoB wr W->Calls prog 76 #[.agg #[.slice a1 t.1.length c1,.slice a2 t.2.length c2]] W λe w'=>e=.returned (.string ⟨(txB t).toArray⟩)/\Tch NoB W w'):=λW hW=>JjT wd hw B _ _ t HK.o W ((H1.o.tch HT.o noE).tch hW noE) ((H2.o.tch HT.o noE).tch hW noE)
   have HTL:Hid ((txB t).length<=200):=(by have:=Jc8 wd t HK.o hw t.2.length;rw [Jc7] at this;exact this:(txB t).length<=200)
   generalize hX:txB t=X at *
   have HXX:Hid (txB t=X):=hX
   clear hX HS
   obtain ⟨S,hSz,hSd,hadd⟩:∃S:BA,S.size<=300/\S.data.toList=84 :: X/\∀W,(Op.stringOp .add (⟨#[84]⟩:BA) ⟨X.toArray⟩).run prog W=.ok (.string S) W:=
    ⟨_,by rw [ByteArray.size_append];show 1+X.toArray.size<=300;have:=HTL.o;simp;omega,by simp,λW=>run_string_add_sum (P:=prog) W _ _ (by show 1+X.toArray.size<=_;have:=HTL.o;simp;omega)⟩
   have HDG:Hid (∀W,Tch NoB wr W->Calls prog 39 #[.int .i64 (wd:Int),.string S] W λe w'=>e=.returned (.string (dgW wd (84 :: X)))/\Tch NoB W w'):=λW hW=>by
    have hEW:=(HE.o.tch HT.o noE).tch hW noE
    refine (Jak wd S W hw1 hw (by omega) (Qk (by decide) hEW.size) hEW.table).mono ?_
    rintro _ w' ⟨rfl,ht⟩
    exact ⟨by rw [hSd];rfl,ht⟩
   clear hSz hSd
   go_upto_region 17 with fail
   go_cut [14] (λid wx=>id=.string (dgW wd (84 :: X))/\Hid (Tch NoB wr wx))
   case first=>
    go_region_with (first | (go_at_call 76;refine (HTT.o _ (Td _ _ 1)).mono ?_;rintro _ w1 ⟨rfl,ht1⟩;have hx1:=(((Td NoB wr 1).trans ht1 (λ_ h=>.inl h)).cell (p:=⟨xb,1,none⟩) (Qk hxb HT.o.size) (λh=>h)).trans hxw;have HT1:Hid (Tch NoB wr w1):=(Td NoB wr 1).trans ht1 (λ_ h=>.inl h);clear ht1) | (go_at_call 39;refine (HDG.o _ HT1.o).mono ?_;rintro _ w2 ⟨rfl,ht2⟩;have HT2:Hid (Tch NoB wr w2):=HT1.o.trans ht2 noE;clear ht2))
    all_goals (go_wp2;go_meet;exact ⟨rfl,HT2⟩)
   case rest=>
   obtain ⟨rfl,HTC⟩:=hcut
   obtain ⟨wA,hwA⟩:∃wA,wA=wc:=⟨wc,rfl⟩
   subst hwA
   have HTA:Hid (Tch NoB w wA):=HT.o.trans HTC.o noE
   have HRA:Hid (wA.heap[w.heap.size]? =some (.cells #[.slice a1 t.1.length c1,.slice a2 t.2.length c2] 98)):=(HTC.o.block _ (Jb HR.o) (λh=>h)).trans HR.o
   have HOWA:Hid (HOwn (w.heap.size+1) wA u8 lk):=HOW.o.tch HTC.o (λ_ _ h=>h)
   obtain ⟨id,hid⟩:∃id,dgW wd (84 :: X)=id:=⟨_,rfl⟩
   have HIDS:Hid (id.size=wd):=(by rw [<-hid];exact Jp wd hw _:id.size=wd)
   have HIDX:Hid (dgW wd (84 :: X)=id):=hid
   rw [hid]
   clear hid HTT HDG hadd HTL HT HTC HR HOW d0 d1 hge hxw
   go_wp2
   go_loopw [8,10,15,16] (λvn vo vi i wr=>∃(k:Nat) (lj:List Held) (ij:Nat) (oj:Bool),k<=t.2.length/\i=.int .i64 k/\vi=.int .u64 (ij:Int)/\vo=.bool oj/\Hid (HOwn (w.heap.size+1) wr vn lj)/\Hid (JC id k (t.2.drop k) (lj,ij,oj)=JC id 0 t.2 (lk,0,ok))/\Hid (ij<18446744073709551616)/\lj.length<=lk.length+k/\Hid (Tch NoB w wr)/\Hid (wr.heap[w.heap.size]? =some (.cells #[.slice a1 t.1.length c1,.slice a2 t.2.length c2] 98))) (λ_ _ _ i _=>t.2.length - (intOf i).toNat)
   case atStart=>exact ⟨0,lk,0,ok,by omega,rfl,rfl,rfl,HOWA.o,rfl,(by decide:(0:Nat)<18446744073709551616),by omega,HTA.o,HRA.o⟩
   case round=>
    clear HOWA HTA HRA
    obtain ⟨k,lj,ij,oj,hk,rfl,rfl,rfl,HOW,HRC,HIJ,hlj,HT,HR⟩:=hrel
    have d1:wr.cell? ⟨w.heap.size,1,none⟩=some (.slice a2 t.2.length c2):=Ja HR.o
    by_cases hlt:k<t.2.length
    ·rcases H2.o with ⟨e,e2⟩ | ⟨gi,oi,cc,e,_,hgi,hcell⟩
     ·rw [e2] at hlt;simp at hlt
     simp only [Qy,true_and] at e
     obtain ⟨rfl,rfl⟩:=e
     obtain ⟨f0,f1⟩:=hcell k hlt
     have HD:Hid (t.2.drop k=t.2[k] :: t.2.drop (k+1)):=List.drop_eq_getElem_cons hlt
     have HOK2:Hid (t.2[k].1<18446744073709551616):=(HK.o.outs _ (Qx hlt)).1
     have hlti:(k:Int)<(t.2.length:Int):=by omega
     clear hcell
     generalize t.2[k]=o at *
     obtain ⟨oa,oo⟩:=o
     simp only at f0 f1
     have TC:Hid (Tch NoB wr (wr.alloc (.cells #[.string id,.int .i64 (k:Int)] 49))):=Ta _ _ _
     have HF:=Jgk u8 lj (id,(k:Int)) (wr.alloc (.cells #[.string id,.int .i64 (k:Int)] 49)) (HOW.o.tch TC.out (λ_ _ h=>h)).at (by omega)
     cases hf:Xe lj (id,(k:Int)) with
     | some j=>
      have HFF:Hid (Calls prog 48 #[u8,.agg #[.string id,.int .i64 (k:Int)]] (wr.alloc (.cells #[.string id,.int .i64 (k:Int)] 49)) λe w'=>e=.returned (.int .i64 (j:Int))/\Tch NoB (wr.alloc (.cells #[.string id,.int .i64 (k:Int)] 49)) w'):=HF.mono (by rintro _ _ ⟨rfl,h⟩;exact ⟨by unfold YB;rw [hf],h⟩)
      have HN:Hid (JC id 0 t.2 (lk,0,ok)=none):=(by rw [<-HRC.o,HD.o];simp only [JC,hf]:JC id 0 t.2 (lk,0,ok)=none)
      clear HF hf HD HRC
      have hj0:(0:Int)<=(j:Int):=by omega
      obtain ⟨va,vc,rfl⟩:=HOW.o.shape
      go_wp2_with (go_at_call 48;refine HFF.o.mono ?_;rintro _ w1 ⟨rfl,ht1⟩;have HT1:Hid (Tch _ wr w1):=TC.out.trans ht1 noE;clear ht1)
      go_ret2
      exact Zm.exist (HT.o.trans HT1.o noE) HSP.o HXX.o HIDX.o HN.o
     | none=>
      have HFF:Hid (Calls prog 48 #[u8,.agg #[.string id,.int .i64 (k:Int)]] (wr.alloc (.cells #[.string id,.int .i64 (k:Int)] 49)) λe w'=>e=.returned (.int .i64 (-1))/\Tch NoB (wr.alloc (.cells #[.string id,.int .i64 (k:Int)] 49)) w'):=HF.mono (by rintro _ _ ⟨rfl,h⟩;exact ⟨by unfold YB;rw [hf],h⟩)
      have HN:Hid (JC id (k+1) (t.2.drop (k+1)) (lj++[((id,(k:Int)),(oa,oo))],(ij+oa) % M64,oj || decide ((ij+oa) % M64<ij))=JC id 0 t.2 (lk,0,ok)):=(by rw [<-HRC.o,HD.o];simp only [JC,hf]:_=_)
      clear HF hf HD HRC
      obtain ⟨sm,hsm⟩:∃sm:Nat,(ij+oa) % M64=sm:=⟨_,rfl⟩
      have hwr:IntKind.u64.wrap ((ij:Int)+(oa:Int))=(sm:Int):=by rw [<-hsm];simp [IntKind.wrap,IntKind.bits,IntKind.signed,M64]
      rw [hsm] at HN
      have HSM:Hid (sm<18446744073709551616):=(by rw [<-hsm];exact Nat.mod_lt _ (by decide):sm<18446744073709551616)
      clear hsm
      obtain ⟨ov2,hov2⟩:∃ov2:Bool,(oj || decide (sm<ij))=ov2:=⟨_,rfl⟩
      rw [hov2] at HN
      have HOV:Hid ((oj || decide (sm<ij))=ov2):=hov2
      clear hov2
      obtain ⟨va,vc,rfl⟩:=HOW.o.shape
      go_upto_region 25 with (go_at_call 48;refine HFF.o.mono ?_;rintro _ w1 ⟨rfl,ht1⟩;have HT1:Hid (Tch _ wr w1):=TC.out.trans ht1 noE;have hcr:w1.heap[wr.heap.size]? =some (.cells #[.string id,.int .i64 (k:Int)] 49):=(ht1.block _ (by simp) (λh=>h)).trans (Qf _ _);clear ht1)
      have HT1W:Hid (Tch NoB w w1):=HT.o.trans HT1.o noE
      have HR1:Hid (w1.heap[w.heap.size]? =some (.cells #[.slice a1 t.1.length c1,.slice (some ⟨gi,oi,none⟩) t.2.length c2] 98)):=(HT1.o.block _ (Jb HR.o) (λh=>h)).trans HR.o
      have HOW1:Hid (HOwn (w.heap.size+1) w1 _ lj):=HOW.o.tch HT1.o (λ_ _ h=>h)
      have e0:w1.cell? ⟨wr.heap.size,0,none⟩=some (.string id):=Ja hcr
      have e1:w1.cell? ⟨wr.heap.size,1,none⟩=some (.int .i64 (k:Int)):=Ja hcr
      have e2:w1.cell? ⟨w.heap.size,1,none⟩=some (.slice (some ⟨gi,oi,none⟩) t.2.length c2):=Ja HR1.o
      have e3:=(HT1W.o.cell (p:=⟨gi,oi+k * 2,none⟩) hgi (λh=>h)).trans f0
      have e4:=(HT1W.o.cell (p:=⟨gi,oi+k * 2+1,none⟩) hgi (λh=>h)).trans f1
      have HF0:Hid (w.cell? ⟨gi,oi+k * 2,none⟩=_):=f0
      clear HT HR HOW HFF TC hcr f0 f1 d1 HT1
      go_cut [8] (λv3 w3=>Hid (HOwn (w.heap.size+1) w3 v3 (lj++[((id,(k:Int)),(oa,oo))]))/\Hid (Tch NoB w w3)/\Hid (w3.heap[w.heap.size]? =some (.cells #[.slice a1 t.1.length c1,.slice (some ⟨gi,oi,none⟩) t.2.length c2] 98)))
      case first=>
       go_region_law (refine JbJ rfl _ _ rfl rfl (HOW1.o.tch (Tch.drewAlloc w1 _) (λ_ _ h=>h)) _ [((id,(k:Int)),(oa,oo))] rfl (Jfe w1.drew (id,(k:Int)) (oa,oo)) (by simp;omega) (by have:=(Jb HR1.o);simp;omega) ?_;intro v3 w3 hown3 hg3;have HOW3:Hid (HOwn _ w3 v3 _):=hown3;have HG3:Hid (World.grownBy _ w3 _):=hg3;clear hown3 hg3)
       all_goals
        go_wp2
        go_meet
        refine ⟨HOW3,(HOW1.o.tch (Tch.drewAlloc w1 _) (λ_ _ h=>h)).grow HG3.o (by omega) (HT1W.o.trans (Tch.drewAlloc w1 _) noE),?_⟩
        have hlt1:=(Jb HR1.o)
        exact (HG3.o.block _ (by simp;omega) (λe=>by have:=(HOW1.o.own _ e.symm).1;omega)).trans (((Tch.drewAlloc w1 _).block _ hlt1 (λh=>h)).trans HR1.o)
      case rest=>
      obtain ⟨HOW3,HTB,HRB⟩:=hcut
      obtain ⟨wB,hwB⟩:∃wB,wB=wc:=⟨wc,rfl⟩
      subst hwB
      have e5:wB.cell? ⟨w.heap.size,1,none⟩=some (.slice (some ⟨gi,oi,none⟩) t.2.length c2):=Ja HRB.o
      have e6:=(HTB.o.cell (p:=⟨gi,oi+k * 2,none⟩) hgi (λh=>h)).trans HF0.o
      clear e0 e1 e2 e3 e4 HF0 HT1W HR1 HOW1
      go_upto_region 26 with fail
      go_cut [10] (λvo wx=>vo=.bool ov2/\wx=wB)
      case first=>
       cases oj
       all_goals go_wp2
       all_goals go_meet
       ·refine ⟨congrArg Value.bool ?_,rfl⟩
        rw [<-HOV.o];simp
       ·refine ⟨congrArg Value.bool ?_,rfl⟩
        rw [<-HOV.o];rfl
      case rest=>
      obtain ⟨rfl,rfl⟩:=hcut
      have HLL:Hid ((lj++[((id,(k:Int)),(oa,oo))]).length<=lk.length+(k+1)):=(by simp;omega:(lj++[((id,(k:Int)),(oa,oo))]).length<=lk.length+(k+1))
      go_wp2
      go_roundw
      case rel=>exact ⟨k+1,lj++[((id,(k:Int)),(oa,oo))],sm,ov2,by omega,by go_num,rfl,rfl,HOW3,HN.o,HSM.o,HLL.o,HTB.o,HRB.o⟩
      case measure=>simp [intOf];omega
    ·have HK2:Hid (k=t.2.length):=(by omega:k=t.2.length)
     have hge:¬(k:Int)<(t.2.length:Int):=by omega
     have HRF:Hid (JC id 0 t.2 (lk,0,ok)=some (lj,ij,oj)):=(by rw [<-HRC.o,HK2.o,List.drop_length];rfl:JC id 0 t.2 (lk,0,ok)=some (lj,ij,oj))
     obtain ⟨va,vc,rfl⟩:=HOW.o.shape
     cases oj with
     | true=>
      go_wp2
      go_ret2
      exact Zm.sum HT.o HSP.o HXX.o HIDX.o HRF.o (.inl rfl)
     | false=>
      by_cases hgt:ik<ij
      ·have hgti:(ik:Int)<(ij:Int):=by omega
       go_wp2
       go_ret2
       exact Zm.sum HT.o HSP.o HXX.o HIDX.o HRF.o (.inr hgt)
      ·have hgti:¬(ik:Int)<(ij:Int):=by omega
       go_wp2
       go_ret2
       exact Zm.done HT.o HSP.o HXX.o HIDX.o HRF.o HOW.o.t (λj hj=>by have:=(HOW.o.own j hj).1;omega) (by rintro (h | h);cases h;exact hgt h)

theorem Jfh (b:Nat) (wd:Nat) (hw:wd<=1000) (w:World) (c1:w.cell? ⟨b,1,none⟩=some (.int .i64 (wd:Int))):
  Calls prog 217 #[.pointer (some ⟨b,0,none⟩)] w λe w'=>e=.returned (.int .i64 ((8 * (wd+1):Nat):Int))/\w'=w:=by
 have hww:IntKind.i64.wrap ((wd:Int)+1)=(wd:Int)+1:=JM _ (by omega) (by omega)
 have hw8:IntKind.i64.wrap (8 * ((wd:Int)+1))=((8 * (wd+1):Nat):Int):=by rw [JM _ (by omega) (by omega)];omega
 go_enter func217,ntmps217
 go_wp2
 go_ret
 exact ⟨rfl,rfl⟩
theorem set5 (w:World) (g:Nat) (t:TypeId) (a b c d e v0 v1 v2 v3 v4:Value) (h:w.heap[g]? =some (.cells #[a,b,c,d,e] t (0,0))):
  ((((w.setCell ⟨g,0,none⟩ v0).setCell ⟨g,1,none⟩ v1).setCell ⟨g,2,none⟩ v2).setCell ⟨g,3,none⟩ v3).setCell ⟨g,4,none⟩ v4=w.setRow g #[v0,v1,v2,v3,v4]:=by
 rw [Qj w g 0 _ t (0,0) v0 h,Qj _ g 1 _ t (0,0) v1 (Qi w g _ _ _ _ h),QI,Qj _ g 2 _ t (0,0) v2 (Qi w g _ _ _ _ h),QI,Qj _ g 3 _ t (0,0) v3 (Qi w g _ _ _ _ h),QI,Qj _ g 4 _ t (0,0) v4 (Qi w g _ _ _ _ h),QI]
 rfl
def ToS (E:Nat->Addr) (w:World) (b:Nat) (g:Option Nat) (wd:Nat) (r:Option (List Stp×PS)) (e:Ending) (w':World):Prop:=
 ∃x1 x2 x3,e=.returned (.slice x1 x2 x3)/\StTo E w w' b g wd (r.map (·.2))/\
  ∀ys p2,r=some (ys,p2)->∃gp,x1=some ⟨gp,0,none⟩/\x2=ys.length/\x3=ys.length/\w.heap.size<=gp/\w'.heap[gp]? =some (.cells (vvA (ys.map encS)) 366)/\∀g',Jg E w' b g' wd (some p2)->some gp ≠ g'
theorem ToS.of {E:Nat->Addr} {w w':World} {b:Nat} {g:Option Nat} {wd:Nat} {r:Option (List Stp×PS)} {e:Ending} (h:ToL lkS E w b g wd (Jbj wd) r e w'):ToS E w b g wd r e w':=by
 cases r with
 | none=>
  obtain ⟨⟨x1,x2,x3,rfl⟩,g',p',v,h1,h2,h3,h4⟩:=h
  obtain ⟨t,u,rfl⟩:=h2.iface
  exact ⟨x1,x2,x3,rfl,⟨g',⟨p',t,u,h1,h2⟩,h3,h4⟩,λts p2 h=>by cases h⟩
 | some r=>
  obtain ⟨ys,p2⟩:=r
  obtain ⟨gp,xs,rfl,h2,h3,h4,g',h5,h6,h7,h8,h9⟩:=h
  refine ⟨_,_,_,rfl,⟨g',h5,h8,h9⟩,λts p3 h=>?_⟩
  simp only [Qh,Qw] at h
  obtain ⟨rfl,rfl⟩:=h
  refine ⟨gp,rfl,rfl,rfl,h2,?_,λg2 hg=>by rw [Jg.same (E:=E) hg (st':=some p2) h5];exact h6⟩
  have e:xs=ys.map encS:=by
   apply List.ext_getElem?
   intro j
   rw [List.getElem?_map]
   by_cases hj:j<ys.length
   ·rw [Qd hj,Qd (by omega:j<xs.length)]
    exact congrArg some (h7 j _ _ (Qd (by omega)) (Qd hj))
   ·rw [List.getElem?_eq_none (by omega),List.getElem?_eq_none (by omega)];rfl
  rw [<-e];exact h3
def PS.lstS (wd:Nat) (l:List Stp) (p:PS):Option (List Stp×PS):=p.lst (Jbj wd).f (0,⟨#[]⟩) 2 0 (8 * (wd+1)) l
theorem Jgo {wd:Nat} {l ys:List Stp} {p p2:PS} {v:Value} (ht:p.takes v) (hv:v=.slice none 0 0->l=[]) (h:p.lstS wd l=some (ys,p2)):p.like p2/\p2.len<=p.len+2+(wd+2) * (8 * (wd+1))/\ys.length<=8 * (wd+1):=by
 obtain ⟨h1,_,h3,h4⟩:=JbD (n:=wd+2) (λa p a' p' h=>Ja0 h) ht hv h
 exact ⟨h1,Qm h4 (by have:=Nat.mul_le_mul_left (wd+2) h3;omega),h3⟩
theorem Jj0 (E:Nat->Addr) (b:Nat) (hb12:18<=b) (g:Option Nat) (wd:Nat) (hw:wd<=32) (v:Value) (l:List Stp) (p:PS) (w:World) (hE:Env E w) (hp:Jc w b g wd .nilIface p) (hv:VAt w.heap.size w v (l.map encS)) (hvb:JbQ b g v) (hl:l.length<1000) (hs:∀s∈l,s.1<65536) (ht:p.takes v) (hd:p.len<=70000000):
  Calls prog 216 #[.pointer (some ⟨b,0,none⟩),.agg #[.string ⟨#[115,116,101,112]⟩,.int .i64 2,.int .u64 0,.int .u64 ((8 * (wd+1):Nat):Int)],v,.func (.func 218) #[.pointer (some ⟨b,0,none⟩)] #[]] w λe w'=>ToS E w b g wd (p.lstS wd l) e w':=by
 have H:=lawS E b hb12 wd 80000000 (by omega) (by omega)
 have hg:(Jbj wd).grow=wd+2:=rfl
 refine (Jlp H rfl hb12 g ⟨#[115,116,101,112]⟩ (by decide) 2 0 (8 * (wd+1)) v (l.map encS) l p w hE hp hv hvb (by simp) (by omega) (by rw [hg];omega) (by omega) (by omega) (by omega) ht (λj x a h1 h2=>?_)).mono λe w' h=>ToS.of h
 rw [List.getElem?_map,h2] at h1
 cases h1
 exact ⟨rfl,hs a (QS h2)⟩
def XR (r:Option (List Stp×PS)):Option PS:=match r with
 | none=>none
 | some (ys,p)=>Xo ys (some p)
theorem JiA (E:Nat->Addr) (b:Nat) (g:Option Nat) (wd:Int) (r:Option (List Stp×PS)) (x1:Option Addr) (x2 x3:Nat) (w:World) (hE:Env E w) (hp:Jg E w b g wd (r.map (·.2))) (hn:∀ys p2,r=some (ys,p2)->ys.length<=300) (hx:∀ys p2,r=some (ys,p2)->∃gp,x1=some ⟨gp,0,none⟩/\x2=ys.length/\x3=ys.length/\gp ≠ b/\w.heap[gp]? =some (.cells (vvA (ys.map encS)) 366)/\some gp ≠ g):
  Calls prog 219 #[.pointer (some ⟨b,0,none⟩),.string ⟨#[115,116,101,112]⟩,.slice x1 x2 x3,.func (.func 220) #[] #[]] w λe w'=>e=.returned (.tuple #[])/\StTo E w w' b g wd (XR r):=by
 cases r with
 | none=>
  refine (Jfz E b g wd _ x1 x2 x3 w hp).mono ?_
  rintro _ _ ⟨rfl,rfl⟩
  exact ⟨rfl,g,hp,.inl rfl,Te _ _⟩
 | some r=>
  obtain ⟨ys,p⟩:=r
  obtain ⟨gp,rfl,rfl,rfl,h1,h2,h3⟩:=hx ys p rfl
  exact JfA E b g wd _ (by decide) gp ys (hn ys p rfl) p w hE hp h2 h1 h3
theorem JfB {E:Nat->Addr} {w w':World} {b gp:Nat} {g g':Option Nat} {wd:Int} {st:Option PS} {o:Obj} (k:StTo E w w' b g wd st) (hp:Jg E w' b g' wd st) (h1:w.heap[gp]? =some o) (hb:gp ≠ b) (hg:some gp ≠ g):w'.heap[gp]? =some o/\some gp ≠ g':=by
 obtain ⟨g2,k1,k2,k3⟩:=k
 have hl:=(Jb h1)
 obtain rfl:g2=g':=k1.same hp
 refine ⟨(k3.block gp hl (by rintro (e | e);exact hb e;exact hg e)).trans h1,?_⟩
 rcases k2 with rfl | ⟨i,rfl,hi⟩
 ·exact hg
 ·intro e;cases e;omega
def PS.way (wd:Nat) (l:List Stp) (m:Bool) (k:BA) (o:Nat×Nat) (p:PS):Option (Wy×PS):=
 match p.lstS wd l with
 | none=>none
 | some (ys,p1)=>
  if ys.length=0/\Zy m (Xo ys (some p1))=false then (Xo ys (some p1)).map λp=>(([],none),p)
  else (JI wd k o (Xo ys (some p1))).2.map λp=>((ys,some (JI wd k o (Xo ys (some p1))).1),p)
def WyAt (w:World) (B:Nat) (b:Nat) (g:Option Nat) (wy:Wy) (x:Option Addr×Nat×Nat) (m:Bool) (k:BA) (a o:Nat):Prop:=
 (wy=([],none)/\x=(none,0,0)/\m=false/\k=⟨#[]⟩/\a=0/\o=0)\/
 ∃gp,x=(some ⟨gp,0,none⟩,wy.1.length,wy.1.length)/\B<=gp/\gp ≠ b/\some gp ≠ g/\w.heap[gp]? =some (.cells (vvA (wy.1.map encS)) 366)/\m=true/\wy.2=some (k.data.toList,(a,o))
def ToW (E:Nat->Addr) (w:World) (b:Nat) (g:Option Nat) (wd:Nat) (r:Option (Wy×PS)) (e:Ending) (w':World):Prop:=
 ∃x1 x2 x3 m k a o g',e=.returned (.agg #[.slice x1 x2 x3,.bool m,.string k,.int .u64 (a:Nat),.int .u8 (o:Nat)])/\Jg E w' b g' wd (r.map (·.2))/\Jm w g g'/\Tch (λk=>k=b\/some k=g) w w'/\
  ∀wy p2,r=some (wy,p2)->WyAt w' w.heap.size b g' wy (x1,x2,x3) m k a o
theorem JgJ (ys:List Stp) (p:PS):JN (Xo ys (some p))<=p.len:=by
 unfold Xo
 split
 ·exact Ql _
 ·exact Nat.zero_le _
theorem JkN (E:Nat->Addr) (b:Nat) (hb12:18<=b) (g:Option Nat) (wd:Nat) (hw:wd<=32) (v1:Option Addr) (v2 v3:Nat) (l:List Stp) (m:Bool) (k:BA) (a o:Nat) (ho:o<256) (p:PS) (w:World) (hE:Env E w) (hp:Jc w b g wd .nilIface p) (hv:VAt w.heap.size w (.slice v1 v2 v3) (l.map encS)) (hvb:JbQ b g (.slice v1 v2 v3)) (hl:l.length<1000) (hs:∀s∈l,s.1<65536) (ht:p.takes (.slice v1 v2 v3)) (hd:p.len<=60000000):
  Calls prog 146 #[.pointer (some ⟨b,0,none⟩),.agg #[.slice v1 v2 v3,.bool m,.string k,.int .u64 (a:Int),.int .u8 (o:Int)]] w λe w'=>ToW E w b g wd (p.way wd l m k (a,o)) e w':=by
 have hlt:=hp.lt
 have tA:=Tch.allocs NoB w (.cells #[.slice v1 v2 v3,.bool m,.string k,.int .u64 (a:Int),.int .u8 (o:Int)] 258) (.cells #[.slice none 0 0,.bool false,.string ⟨#[]⟩,.int .u64 0,.int .u8 0] 258)
 have HR0:=Run.start (st:=some p) hb12 hE hp tA
 have hvn:(Value.slice v1 v2 v3)=.slice none 0 0->l=[]:=λe=>by
  have:=hv.shape
  obtain ⟨a,c,h⟩:=this
  rw [e] at h
  simp at h
  cases l with
  | nil=>rfl
  | cons x l=>simp at h
 have HF:Hid (∀ys p2,p.lstS wd l=some (ys,p2)->p2.len<=p.len+2+(wd+2) * (8 * (wd+1))/\ys.length<=8 * (wd+1)):=λys p2 h=>(Jgo ht hvn h).2
 have HW:Hid ((wd+2) * (8 * (wd+1))<=34 * 264):=Nat.mul_le_mul (by omega) (by omega)
 have HC:Hid (∀W,Tch NoB w W->Calls prog 216 _ W _):=λW hT=>Jj0 E b hb12 g wd hw (.slice v1 v2 v3) l p W (hE.tch hT noE) (hp.tch hT (λh=>h) (λ_ _ h=>h)) ((hv.tch hT noE).up hT.size) hvb hl hs ht (by omega)
 have HKB:Hid (∀W,Tch NoB w W->Calls prog 217 _ W _):=λW hT=>Jfh b wd (by omega) W ((hp.tch hT (λh=>h) (λ_ _ h=>h)) |> λh=>Jg.width (E:=E) (st:=some p) h)
 have HPL:Hid (p.len<=60000000):=hd
 have hmf:∀(fn:Fn) (first cap:Array Value) (w:World),(Instr.makeFunc fn first cap).run prog w=.ok (.func fn first cap) w:=λ_ _ _ _=>rfl
 have HT0:Hid (Tch _ _ _):=tA
 have RUN:Hid (Run _ _ _ _ _ _ _ _ _):=HR0
 have hwu:IntKind.u64.wrap ((8 * (wd+1):Nat):Int)=((8 * (wd+1):Nat):Int):=Ju _ (by omega) (by omega)
 have HB0:=heap_alloc2_old w (.cells #[.slice v1 v2 v3,.bool m,.string k,.int .u64 (a:Int),.int .u8 (o:Int)] 258) (.cells #[.slice none 0 0,.bool false,.string ⟨#[]⟩,.int .u64 0,.int .u8 0] 258)
 have HB1:=heap_alloc2_new w (.cells #[.slice v1 v2 v3,.bool m,.string k,.int .u64 (a:Int),.int .u8 (o:Int)] 258) (.cells #[.slice none 0 0,.bool false,.string ⟨#[]⟩,.int .u64 0,.int .u8 0] 258)
 have BX0:Hid (_=_):=HB0
 have BX1:Hid (_=_):=HB1
 clear hE hp hv hvb hs ht HR0 tA HB0 HB1 hvn hd hl
 generalize hKB:(8 * (wd+1):Nat)=kb at *
 have HKE:Hid (8 * (wd+1)=kb):=hKB
 clear hKB
 go_enter func146,ntmps146
 go_upto_region 1 with fail
 go_cut [5] (λv wx=>∃x1 x2 x3 g1,v=.slice x1 x2 x3/\Hid (Run E w ((w.alloc (.cells #[.slice v1 v2 v3,.bool m,.string k,.int .u64 (a:Int),.int .u8 (o:Int)] 258)).alloc (.cells #[.slice none 0 0,.bool false,.string ⟨#[]⟩,.int .u64 0,.int .u8 0] 258)) wx b g g1 wd ((p.lstS wd l).map (·.2)))/\Hid (∀ys p2,p.lstS wd l=some (ys,p2)->∃gp,x1=some ⟨gp,0,none⟩/\x2=ys.length/\x3=ys.length/\w.heap.size<=gp/\gp ≠ b/\wx.heap[gp]? =some (.cells (vvA (ys.map encS)) 366)/\some gp ≠ g1))
 case first=>
  have HT1:Hid (Tch NoB w _):=HT0.o.trans (Td NoB _ 1) noE
  have HRUN1:Hid (Run _ _ _ _ _ _ _ _ _):=RUN.out.next (Td NoB _ 1)
  clear HF HW HPL HT0 RUN BX0 BX1
  go_region_with (first
   | (go_at_call 217;refine (HKB.o _ HT1.o).mono ?_;rintro _ _ ⟨rfl,rfl⟩)
   | (go_at_call 216;refine (HC.o _ HT1.o).mono ?_;rintro _ w1 ⟨x1,x2,x3,rfl,hst,hx⟩;obtain ⟨g1,R1⟩:=HRUN1.o.step hst;have HX:Hid (∀ys p2,p.lstS wd l=some (ys,p2)->∃gp,x1=some ⟨gp,0,none⟩/\x2=ys.length/\x3=ys.length/\w.heap.size<=gp/\gp ≠ b/\w1.heap[gp]? =some (.cells (vvA (ys.map encS)) 366)/\some gp ≠ g1):=(λys p2 hq=>by
      obtain ⟨gp,q1,q2,q3,q4,q5,q6⟩:=hx ys p2 hq
      have hz:=HT1.o.size
      refine ⟨gp,q1,q2,q3,by omega,by omega,q5,q6 g1 ?_⟩
      have:=R1.port
      rw [hq] at this
      exact this);have HR1:Hid (Run _ _ _ _ _ _ _ _ _):=R1;clear R1 hx hst))
  all_goals
   go_wp2
   go_meet
   exact ⟨x1,x2,x3,g1,rfl,HR1,HX⟩
 case rest=>
 obtain ⟨x1,x2,x3,g1,rfl,HR1,HX⟩:=hcut
 obtain ⟨w1,hw1⟩:∃w1,w1=wc:=⟨wc,rfl⟩
 subst hw1
 clear HC HKB hwu hmf RUN
 have HRS:Hid (Calls prog 219 _ w1 _):=JiA E b g1 wd (p.lstS wd l) x1 x2 x3 w1 HR1.o.env HR1.o.port (λys p2 h=>by have:=(HF.o ys p2 h).2;have:=HKE.o;omega) (λys p2 h=>by obtain ⟨gp,q1,q2,q3,q4,q5,q6,q7⟩:=HX.o ys p2 h;exact ⟨gp,q1,q2,q3,q5,q6,q7⟩)
 go_wp2_with fail
 refine HRS.o.mono ?_
 rintro _ w2 ⟨rfl,hst⟩
 obtain ⟨g2,R2⟩:=HR1.o.step hst
 have HX2:Hid (∀ys p2,p.lstS wd l=some (ys,p2)->∃gp,x1=some ⟨gp,0,none⟩/\x2=ys.length/\x3=ys.length/\w.heap.size<=gp/\gp ≠ b/\w2.heap[gp]? =some (.cells (vvA (ys.map encS)) 366)/\some gp ≠ g2):=λys p2 h=>by
  obtain ⟨gp,q1,q2,q3,q4,q5,q6,q7⟩:=HX.o ys p2 h
  obtain ⟨r1,r2⟩:=JfB hst R2.port q6 q5 q7
  exact ⟨gp,q1,q2,q3,q4,q5,r1,r2⟩
 have bx2:=(R2.box (k:=w.heap.size) (Ql _) BX0.out).1
 have c1:w2.cell? ⟨w.heap.size,1,none⟩=some (.bool m):=Ja bx2
 have c2:w2.cell? ⟨w.heap.size,2,none⟩=some (.string k):=Ja bx2
 have c3:w2.cell? ⟨w.heap.size,3,none⟩=some (.int .u64 (a:Int)):=Ja bx2
 have c4:w2.cell? ⟨w.heap.size,4,none⟩=some (.int .u8 (o:Int)):=Ja bx2
 have HLEN:Hid (JN (XR (p.lstS wd l))<=80000000):=by
  show JN (XR (p.lstS wd l))<=80000000
  cases hq:p.lstS wd l with
  | none=>simp [XR,JN]
  | some r=>
   obtain ⟨ys,p2⟩:=r
   have h1:=JgJ ys p2
   have h2:=(HF.o ys p2 hq).1
   have h3:=HW.o
   have h4:=HPL.o
   simp only [XR]
   omega
 have RUN2:Hid (Run _ _ _ _ _ _ _ _ _):=R2
 clear R2 hst HX HRS HR1 bx2
 have HMO:Hid (Calls prog 221 _ w2 _):=Jlw E b g2 wd m _ w2 RUN2.out.port
 have HWAY:Hid (p.way wd l m k (a,o)=match p.lstS wd l with
 | none=>none
 | some (ys,p1)=>
  if ys.length=0/\Zy m (Xo ys (some p1))=false then (Xo ys (some p1)).map λp=>(([],none),p)
  else (JI wd k (a,o) (Xo ys (some p1))).2.map λp=>((ys,some (JI wd k (a,o) (Xo ys (some p1))).1),p)):=(by unfold PS.way;rfl)
 go_upto_region 3 with fail
 go_cut [28] (λv wx=>v=.bool (decide (x2=0/\Zy m (XR (p.lstS wd l))=false))/\Hid (Tch NoB w2 wx))
 case first=>
  clear HF HW HPL BX0 BX1 HLEN HX2 HT0
  by_cases hx0:x2=0
  ·have hx0i:((x2:Nat):Int)=0:=by omega
   have HX0:Hid (x2=0):=hx0
   clear hx0
   go_wp2_with fail
   refine HMO.o.mono ?_
   rintro _ w3 ⟨rfl,ht⟩
   have HT3:Hid (Tch _ _ _):=ht
   clear ht
   go_wp2
   go_meet
   refine ⟨?_,HT3⟩
   rw [show decide (x2=0/\Zy m (XR (p.lstS wd l))=false)= !Zy m (XR (p.lstS wd l)) by simp [HX0.o]]
  ·have hx0i:¬((x2:Nat):Int)=0:=by omega
   go_wp2
   go_meet
   exact ⟨by simp [hx0],Te _ _⟩
 case rest=>
 obtain ⟨rfl,HT23⟩:=hcut
 obtain ⟨w3,hw3⟩:∃w3,w3=wc:=⟨wc,rfl⟩
 subst hw3
 have R3:=RUN2.out.next HT23.o
 have bx3:=(R3.box (k:=w.heap.size) (Ql _) BX0.out).1
 have c1:w3.cell? ⟨w.heap.size,1,none⟩=some (.bool m):=Ja bx3
 have c2:w3.cell? ⟨w.heap.size,2,none⟩=some (.string k):=Ja bx3
 have c3:w3.cell? ⟨w.heap.size,3,none⟩=some (.int .u64 (a:Int)):=Ja bx3
 have c4:w3.cell? ⟨w.heap.size,4,none⟩=some (.int .u8 (o:Int)):=Ja bx3
 have HX3:Hid (∀ys p2,p.lstS wd l=some (ys,p2)->∃gp,x1=some ⟨gp,0,none⟩/\x2=ys.length/\x3=ys.length/\w.heap.size<=gp/\gp ≠ b/\w3.heap[gp]? =some (.cells (vvA (ys.map encS)) 366)/\some gp ≠ g2):=λys p2 h=>by
  obtain ⟨gp,q1,q2,q3,q4,q5,q6,q7⟩:=HX2.o ys p2 h
  exact ⟨gp,q1,q2,q3,q4,q5,(HT23.o.block gp (Jb q6) (λh=>h)).trans q6,q7⟩
 have RUN3:Hid (Run _ _ _ _ _ _ _ _ _):=R3
 clear R3 bx3 HX2 HT23 HMO RUN2 HF HW HPL HT0
 by_cases hc:x2=0/\Zy m (XR (p.lstS wd l))=false
 ·have HCC:Hid (_/\_):=hc
  rw [decide_eq_true hc]
  clear hc
  have rR:=(RUN3.out.box (k:=w.heap.size+1) (by omega) BX1.out).1
  have e0:w3.cell? ⟨w.heap.size+1,0,none⟩=some (.slice none 0 0):=Ja rR
  have e1:w3.cell? ⟨w.heap.size+1,1,none⟩=some (.bool false):=Ja rR
  have e2:w3.cell? ⟨w.heap.size+1,2,none⟩=some (.string ⟨#[]⟩):=Ja rR
  have e3:w3.cell? ⟨w.heap.size+1,3,none⟩=some (.int .u64 0):=Ja rR
  have e4:w3.cell? ⟨w.heap.size+1,4,none⟩=some (.int .u8 0):=Ja rR
  have fR:∀j,w3.frozen? ⟨w.heap.size+1,j,none⟩=false:=λj=>Qg _ _ _ _ _ rR
  have RR:Hid (_=_):=rR
  clear rR
  go_wp2
  rw [set5 _ _ _ _ _ _ _ _ _ _ _ _ _ RR.out]
  have hst:=RUN3.out.done (k:=w.heap.size+1) (cs:= #[.slice none 0 0,.bool false,.string ⟨#[]⟩,.int .u64 0,.int .u8 0]) (by omega) BX1.out (by decide)
  refine QJ (v:=.agg #[.slice none 0 0,.bool false,.string ⟨#[]⟩,.int .u64 0,.int .u8 0]) (Qq results146 _ _ (w.heap.size+1) _ _ (0,0) _ rfl (Qi _ _ _ _ _ _ RR.out) underlying258 rfl (by kernel_rfl)) rfl ?_
  obtain ⟨g',h1,h2,h3⟩:=hst
  obtain ⟨hx0,hm0⟩:=HCC.o
  refine ⟨none,0,0,false,⟨#[]⟩,0,0,g',rfl,?_,h2,h3,?_⟩
  ·rw [HWAY.o]
   cases hq:p.lstS wd l with
   | none=>rw [hq] at h1;exact h1
   | some r=>
    obtain ⟨ys,p1⟩:=r
    rw [hq] at h1 hm0
    obtain ⟨_,_,q2,_⟩:=HX3.o ys p1 hq
    simp only [XR] at h1 hm0
    dsimp only
    rw [if_pos ⟨by omega,hm0⟩,Option.map_map]
    cases hr:Xo ys (some p1) with
    | none=>rw [hr] at h1;exact h1
    | some p2=>rw [hr] at h1;exact h1
  ·intro wy p2 h
   rw [HWAY.o] at h
   cases hq:p.lstS wd l with
   | none=>rw [hq] at h;cases h
   | some r=>
    obtain ⟨ys,p1⟩:=r
    rw [hq] at h hm0
    obtain ⟨_,_,q2,_⟩:=HX3.o ys p1 hq
    simp only [XR] at hm0
    dsimp only at h
    rw [if_pos ⟨by omega,hm0⟩] at h
    cases hr:Xo ys (some p1) with
    | none=>rw [hr] at h;cases h
    | some p2=>rw [hr] at h;cases h;exact .inl ⟨rfl,rfl,rfl,rfl,rfl,rfl⟩
 ·have HCC:Hid (¬(_/\_)):=hc
  rw [decide_eq_false hc]
  clear hc
  have HLF:Hid (Calls prog 222 _ w3 _):=Jhl E b hb12 g2 wd (by omega) k a o ho _ w3 RUN3.out.env RUN3.out.port HLEN.o
  go_wp2_with fail
  refine HLF.o.mono ?_
  rintro _ w4 ⟨rfl,hst⟩
  obtain ⟨g4,R4⟩:=RUN3.out.step hst
  have HX4:Hid (∀ys p2,p.lstS wd l=some (ys,p2)->∃gp,x1=some ⟨gp,0,none⟩/\x2=ys.length/\x3=ys.length/\w.heap.size<=gp/\gp ≠ b/\w4.heap[gp]? =some (.cells (vvA (ys.map encS)) 366)/\some gp ≠ g4):=λys p2 h=>by
   obtain ⟨gp,q1,q2,q3,q4,q5,q6,q7⟩:=HX3.o ys p2 h
   obtain ⟨r1,r2⟩:=JfB hst R4.port q6 q5 q7
   exact ⟨gp,q1,q2,q3,q4,q5,r1,r2⟩
  have rR:=(R4.box (k:=w.heap.size+1) (by omega) BX1.out).1
  have e0:w4.cell? ⟨w.heap.size+1,0,none⟩=some (.slice none 0 0):=Ja rR
  have e1:w4.cell? ⟨w.heap.size+1,1,none⟩=some (.bool false):=Ja rR
  have e2:w4.cell? ⟨w.heap.size+1,2,none⟩=some (.string ⟨#[]⟩):=Ja rR
  have e3:w4.cell? ⟨w.heap.size+1,3,none⟩=some (.int .u64 0):=Ja rR
  have e4:w4.cell? ⟨w.heap.size+1,4,none⟩=some (.int .u8 0):=Ja rR
  have fR:∀j,w4.frozen? ⟨w.heap.size+1,j,none⟩=false:=λj=>Qg _ _ _ _ _ rR
  have RR:Hid (_=_):=rR
  have RUN4:Hid (Run _ _ _ _ _ _ _ _ _):=R4
  clear rR R4 hst HLF HX3 RUN3
  go_wp2
  rw [set5 _ _ _ _ _ _ _ _ _ _ _ _ _ RR.out]
  have hst:=RUN4.out.done (k:=w.heap.size+1) (cs:= #[.slice x1 x2 x3,.bool true,.string ⟨(JI wd k (a,o) (XR (p.lstS wd l))).1.1.toArray⟩,.int .u64 ((JI wd k (a,o) (XR (p.lstS wd l))).1.2.1:Int),.int .u8 ((JI wd k (a,o) (XR (p.lstS wd l))).1.2.2:Int)]) (by omega) BX1.out (by decide)
  refine QJ (v:=.agg #[.slice x1 x2 x3,.bool true,.string ⟨(JI wd k (a,o) (XR (p.lstS wd l))).1.1.toArray⟩,.int .u64 ((JI wd k (a,o) (XR (p.lstS wd l))).1.2.1:Int),.int .u8 ((JI wd k (a,o) (XR (p.lstS wd l))).1.2.2:Int)]) (Qq results146 _ _ (w.heap.size+1) _ _ (0,0) _ rfl (Qi _ _ _ _ _ _ RR.out) underlying258 rfl (by kernel_rfl)) rfl ?_
  obtain ⟨g',h1,h2,h3⟩:=hst
  have hgg:g'=g4:=h1.same (RUN4.out.port.row RR.out (by decide) (RUN4.out.box (k:=w.heap.size+1) (by omega) BX1.out).2)
  refine ⟨x1,x2,x3,true,⟨(JI wd k (a,o) (XR (p.lstS wd l))).1.1.toArray⟩,(JI wd k (a,o) (XR (p.lstS wd l))).1.2.1,(JI wd k (a,o) (XR (p.lstS wd l))).1.2.2,g',rfl,?_,h2,h3,?_⟩
  ·rw [HWAY.o]
   cases hq:p.lstS wd l with
   | none=>rw [hq] at h1;exact h1
   | some r=>
    obtain ⟨ys,p1⟩:=r
    have hcc:=HCC.o
    rw [hq] at h1 hcc
    obtain ⟨_,_,q2,_⟩:=HX4.o ys p1 hq
    simp only [XR] at h1 hcc
    dsimp only
    rw [if_neg (by rw [<-q2];exact hcc),Option.map_map]
    cases hr:(JI wd k (a,o) (Xo ys (some p1))).2 with
    | none=>rw [hr] at h1;exact h1
    | some p2=>rw [hr] at h1;exact h1
  ·intro wy p2 h
   rw [HWAY.o] at h
   cases hq:p.lstS wd l with
   | none=>rw [hq] at h;cases h
   | some r=>
    obtain ⟨ys,p1⟩:=r
    have hcc:=HCC.o
    rw [hq] at h hcc
    obtain ⟨gp,q1,q2,q3,q4,q5,q6,q7⟩:=HX4.o ys p1 hq
    simp only [XR] at hcc
    dsimp only at h
    rw [if_neg (by rw [<-q2];exact hcc)] at h
    cases hr:(JI wd k (a,o) (Xo ys (some p1))).2 with
    | none=>rw [hr] at h;cases h
    | some p3=>
     rw [hr] at h
     cases h
     refine .inr ⟨gp,by rw [q1,q2,q3],q4,q5,by rw [hgg];exact q7,?_,rfl,rfl⟩
     have hne:gp ≠ w.heap.size+1:=by
      intro e
      have:=RR.out
      rw [<-e,q6] at this
      simp at this
     exact (setRow_other _ _ _ _ hne).trans q6
