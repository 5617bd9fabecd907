import Derived.Test.YtighkdnooglfjaaGreatDoorBxKText
namespace Go.Proofs.YtighkdnooglfjaaGreatDoor
open Tryz
set_option maxRecDepth 100000
set_option maxHeartbeats 1000000
open Go.RowKit

theorem Ya (n k:Nat) (w:World) (hk:k<=8):
  Calls prog 171 #[.int .u64 (n:Int),.int .i64 (k:Int)] w λe w'=>e=.returned (.string ⟨(beL n k k).toArray⟩)/\Tch NoB w w':=by
 obtain ⟨i0,hi,hz0,hz1,hz2⟩:=info_parts JaS
 have hki:(k:Int)<=8:=by omega
 go_enter func171,ntmps171
 go_wp2
 go_loopw [5,6] (λv i wr=>∃j:Nat,j<=k/\i=.int .i64 ((k:Int) - 1 - (j:Int))/\Hid (Bs w.heap.size wr v (bc (beL n k j)))/\Hid (Tch NoB w wr)) (λ_ i _=>(intOf i+1).toNat)
 case atStart=>exact ⟨0,by omega,congrArg (Value.int .i64) (by omega),Bs.nil _ _,Te _ _⟩
 case round=>
  obtain ⟨j,hj,rfl,hbs,htc⟩:=hrel
  by_cases hjk:j<k
  ·obtain ⟨m,hm',hmk⟩:∃m:Nat,(k:Int) - 1 - (j:Int)=(m:Int)/\k - 1 - j=m:=⟨k - 1 - j,by omega,rfl⟩
   have HM:Hid ((k:Int) - 1 - (j:Int)=(m:Int)/\k - 1 - j=m):=⟨hm',hmk⟩
   have hm7:m<=7:=by omega
   have HJ:Hid (j<k):=hjk
   rw [hm']
   clear hm' hmk hjk
   have hw8:IntKind.i64.wrap (8 * (m:Int))=8 * (m:Int):=Js _ (by omega) (by omega)
   have hsh:Op.shift .shr .u64 (n:Int) .i64 (8 * (m:Int))=pure (.int .u64 ((n:Int) / 2 ^ (8 * m))):=by
    rw [shift_shr_u64 _ _ _ (by omega) (by omega)]
    congr 3
   have Hbl:Hid ((bc (beL n k j)).length=j):=(by rw [XY,Je]:(bc (beL n k j)).length=j)
   obtain ⟨a0,m0,c0,hv0⟩:=hbs.out.shape3
   subst hv0
   go_wp2_with (at_builtin;refine Xq rfl _ _ 52 52 5 rfl i0 _ underlying52 hi hz0 hz1 hz2 rfl rfl (hbs.out.alloc _) _ 1 [_] rfl (Src.ofSlice _ underlying52 _ 1 1 _ rfl (cell_one_new _ _ _) (by simp [Value.oneCell'])) (by rw [Hbl.out];omega) (by have:=htc.out.size;simp;omega) ?_;intro v1 w1 hbs1 hg1 hmv1;have HB1:Hid (Bs _ w1 v1 _):=hbs1;have Hg1:Hid (World.grownBy _ w1 _):=hg1;clear hmv1 hbs1 hg1)
   have e2:[Value.int .u8 (IntKind.u8.wrap ((n:Int) / 2 ^ (8 * (m:Int)).toNat))]=bc [UInt8.ofNat (n / 2 ^ (8 * m))]:=by
    rw [IntKind.wrap_u8',show (8 * (m:Int)).toNat=8 * m by omega]
    simp [bc]
   have e3:bc (beL n k (j+1))=bc (beL n k j)++bc [UInt8.ofNat (n / 2 ^ (8 * m))]:=by
    rw [<-HM.o.2,<-Zg];rfl
   have hjk:=HJ.o
   go_roundw
   case rel=>
    refine ⟨j+1,by omega,?_,?_,?_⟩
    ·exact congrArg (Value.int .i64) (by have:=HM.o.1;omega)
    ·rw [e3,<-e2];exact HB1
    ·exact Bs.tchOwn (hbs.out.alloc _) Hg1.out (Ql _) (htc.out.trans (Ta NoB _ _) noE)
   case measure=>simp only [intOf];omega
  ·obtain rfl:j=k:=by omega
   have hneg:¬(0:Int)<=(j:Int) - 1 - (j:Int):=by omega
   have hcv:=XI (P:=prog) (l:=beL n j j) hbs.out 52 9 5 underlying52 underlying5 underlying9
   obtain ⟨a0,m0,c0,hv0⟩:=hbs.out.shape3
   subst hv0
   go_wp2
   go_ret
   exact ⟨rfl,htc.out⟩
theorem Ja2 {a b:BA} (h:a.data.toList=b.data.toList):a=b:=by
 cases a;cases b;simp only at h;rw [Array.toList_inj] at h;rw [h]
theorem JcF (b:Nat) (w:World) (k:Nat) (hb:b<256) (hc:w.cell? ⟨k,0,none⟩=some (.int .u8 (b:Int))):(convert 52 9 (.slice (some ⟨k,0,none⟩) 1 1)).run prog w=.ok (.string ⟨#[UInt8.ofNat b]⟩) w:=by
 have:=run_convert_bytes_back (P:=prog) w 52 9 5 ⟨k,0,none⟩ 1 [UInt8.ofNat b] underlying52 underlying5 underlying9 (λj hj=>by
  obtain rfl:j=0:=by simpa using hj
  rw [Addr.add_lit,Nat.zero_add,hc]
  simp [Nat.mod_eq_of_lt hb])
 exact this
theorem Jma (b:Nat) (w:World) (hb:b<256):(convert 52 9 (.slice (some ⟨w.heap.size,0,none⟩) 1 1)).run prog (w.alloc (.cells #[.int .u8 (b:Int)] 5))=.ok (.string ⟨#[UInt8.ofNat b]⟩) (w.alloc (.cells #[.int .u8 (b:Int)] 5)):=by
 have:=run_convert_bytes_back (P:=prog) (w.alloc (.cells #[.int .u8 (b:Int)] 5)) 52 9 5 ⟨w.heap.size,0,none⟩ 1 [UInt8.ofNat b] underlying52 underlying5 underlying9 (λj hj=>by
  obtain rfl:j=0:=by simpa using hj
  rw [Addr.add_lit,Nat.zero_add,Ja (Qf _ _)]
  simp [Nat.mod_eq_of_lt hb])
 exact this
theorem JdM (a o:Nat) (w:World) (ho:o<256):
  Calls prog 164 #[.agg #[.int .u64 (a:Int),.int .u8 (o:Int)]] w λe w'=>e=.returned (.string ⟨(outB (a,o)).toArray⟩)/\Tch NoB w w':=by
 have HO:Hid (o<256):=ho
 have hin:=λW=>Ya a 8 W (by omega)
 have hby:=λW=>Jma o W ho
 have hadd:∀W,(Op.stringOp .add (⟨(beL a 8 8).toArray⟩:BA) ⟨#[UInt8.ofNat o]⟩).run prog W=.ok (.string ⟨(outB (a,o)).toArray⟩) W:=λW=>by
  have:=run_string_add_sum (P:=prog) W (⟨(beL a 8 8).toArray⟩:BA) ⟨#[UInt8.ofNat o]⟩ (by show (beL a 8 8).toArray.size+1<=_;simp [Je])
  rw [this]
  exact congrArg (λx=>Result.ok (Value.string x) W) (Ja2 (by simp [outB,beL]))
 have hb2:=JcF o ((w.alloc (.cells #[.int .u64 (a:Int),.int .u8 (o:Int)] 80)).alloc (.cells #[.int .u8 (o:Int)] 5)).drew (w.heap.size+1) ho (Ja (heap_alloc2_new _ _ _))
 have HIN:Hid (∀W:World,Calls _ _ _ W _):=hin
 clear hin ho
 go_enter func164,ntmps164
 go_wp2
 go_region_with (go_at_call 171;refine (HIN.o _).mono ?_;rintro _ w1 ⟨rfl,ht1⟩;have r1:w1.heap[w.heap.size]? =some (.cells #[.int .u64 (a:Int),.int .u8 (o:Int)] 80):=(ht1.block _ (by first | (simp;done) | (simp;omega)) (λh=>h)).trans (by first | exact Qf _ _ | exact heap_alloc2_old _ _ _);have c1:w1.cell? ⟨w.heap.size,1,none⟩=some (.int .u8 (o:Int)):=Ja r1;(try (have q1:w1.heap[w.heap.size+1]? =some (.cells #[.int .u8 (o:Int)] 5):=(ht1.block _ (by simp) (λh=>h)).trans (heap_alloc2_new _ _ _);have q2:=JcF o w1 (w.heap.size+1) HO.o (Ja q1)));have HT1:Hid (Tch _ _ w1):=ht1;clear ht1 r1)
 all_goals
  go_wp2
  go_ret
  refine ⟨rfl,?_⟩
  first
   | exact (Tch.box w _).trans HT1.o noE
   | exact (Tch.box2 w _ _).trans HT1.o noE
   | exact ((Tch.box w _).trans HT1.o noE).trans (Ta NoB w1 _) noE
theorem Jah (c:BA×Int) (w:World) (h0:0<=c.2) (h3:c.2<256) (hz:c.1.size<=1000000):
  Calls prog 105 #[.agg #[.string c.1,.int .i64 c.2]] w λe w'=>e=.returned (.string ⟨(Jd c).toArray⟩)/\Tch NoB w w':=by
 obtain ⟨s,n⟩:=c
 simp only at h0 h3 hz
 obtain ⟨m,rfl⟩:=Int.eq_ofNat_of_zero_le h0
 have hm:m<256:=by omega
 have hwr:IntKind.u8.wrap (m:Int)=(m:Int):=by simp [IntKind.wrap,IntKind.bits,IntKind.signed];omega
 have hby:=JcF m ((w.alloc (.cells #[.string s,.int .i64 (m:Int)] 49)).alloc (.cells #[.int .u8 (m:Int)] 5)) (w.heap.size+1) hm (Ja (heap_alloc2_new _ _ _))
 have hadd:∀W,(Op.stringOp .add s ⟨#[UInt8.ofNat m]⟩).run prog W=.ok (.string ⟨(Jd (s,(m:Int))).toArray⟩) W:=λW=>by
  have:=run_string_add_sum (P:=prog) W s ⟨#[UInt8.ofNat m]⟩ (by show s.size+1<=_;omega)
  rw [this]
  have hx:Jw (m:Int)=m:=by have:=Yy (m:Int) h0 (by omega);omega
  exact congrArg (λx=>Result.ok (Value.string x) W) (Ja2 (by simp [Jd,hx,beL]))
 clear h0 h3 hz
 go_enter func105,ntmps105
 go_wp2
 go_ret
 exact ⟨rfl,(Ta NoB w _).trans (Ta NoB _ _) (λ_ h=>.inl h)⟩

def YR (l:List (Nat×Nat)) (i:Nat):List UInt8:=beL l.length 1 1++(l.take i).flatMap outB
theorem Jf8 (l:List (Nat×Nat)) (i:Nat) (h:i<l.length):YR l (i+1)=YR l i++outB l[i]:=by
 unfold YR;rw [QR h,List.flatMap_append,QG,List.flatMap_nil,QC,Qs]
theorem Jbz (l:List (Nat×Nat)):YR l l.length=Ju l:=by unfold YR Ju;rw [List.take_length]
theorem JbA (l:List (Nat×Nat)) (h:l.length<=3) (i:Nat):(YR l i).length<=28:=by
 unfold YR
 rw [Qe,Je,Jdx,QB]
 omega
theorem JcG (B:Nat) (v:Value) (l:List (Nat×Nat)) (hl:l.length<=3) (ho:∀o∈l,JC o) (w:World) (h:XE B w v l):
  Calls prog 104 #[v] w λe w'=>e=.returned (.string ⟨(Ju l).toArray⟩)/\Tch NoB w w':=by
 obtain ⟨a1,c1,rfl⟩:=h.shape
 have H:Hid (XE _ _ _ _):=h
 clear h
 have HO:Hid (∀o∈l,JC o):=ho
 clear ho
 have hw1:IntKind.u8.wrap (l.length:Int)=(l.length:Int):=by simp [IntKind.wrap,IntKind.bits,IntKind.signed];omega
 have hby:=JfZ l.length w (by omega)
 go_enter func104,ntmps104
 go_wp2
 go_loopw [3,4] (λs i wr=>∃k:Nat,k<=l.length/\i=.int .i64 k/\s=.string ⟨(YR l k).toArray⟩/\Hid (Tch NoB w wr)) (λ_ i _=>l.length - (intOf i).toNat)
 case atStart=>exact ⟨0,by omega,rfl,by rw [YR,beL1];simp,Ta _ _ _⟩
 case round=>
  clear hby
  obtain ⟨k,hk,rfl,rfl,hT⟩:=hrel
  by_cases hlt:k<l.length
  ·rcases H.out with ⟨e,e2⟩ | ⟨gi,oi,cc,e,_,hgi,hcell⟩
   ·rw [e2] at hlt;simp at hlt
   simp only [Qy,true_and] at e
   obtain ⟨rfl,rfl⟩:=e
   obtain ⟨f0,f1⟩:=hcell k hlt
   have hok:=HO.o _ (Qx hlt)
   have q0:=(hT.out.cell (p:=⟨gi,oi+k * 2,none⟩) hgi (λh=>h)).trans f0
   have q1:=(hT.out.cell (p:=⟨gi,oi+k * 2+1,none⟩) hgi (λh=>h)).trans f1
   have hlti:(k:Int)<(l.length:Int):=by omega
   have hadd:=JZ (YR l k) (outB l[k]) (by have:=JbA l hl k;rw [Jcx];omega)
   rw [<-Jf8 l k hlt] at hadd
   have HKT:Hid (∀V,Calls _ _ _ V _):=λV=>JdM l[k].1 l[k].2 V hok.2
   clear hcell f0 f1 hok
   generalize hc:l[k]=c at *
   obtain ⟨ca,co⟩:=c
   clear hc
   simp only at q0 q1
   generalize hX1:YR l (k+1)=X1 at *
   generalize YR l k=X0 at *
   have HX1:Hid (_=X1):=hX1
   clear hX1
   generalize outB (ca,co)=cb at *
   go_wp2_with (go_at_call 164;refine (HKT.o _).mono ?_;rintro _ w1 ⟨rfl,ht1⟩;have HT1:Hid (Tch _ wr w1):=ht1;clear ht1)
   go_roundw
   case rel=>exact ⟨k+1,by omega,by go_num,by rw [HX1.o],hT.out.trans HT1.o noE⟩
   case measure=>simp [intOf];omega
  ·have HK2:Hid (k=l.length):=(by omega:k=l.length)
   have hge:¬(k:Int)<(l.length:Int):=by omega
   have HE:Hid (YR l k=Ju l):=(by rw [HK2.o];exact Jbz l:YR l k=Ju l)
   generalize YR l k=X at *
   go_wp2
   go_ret
   exact ⟨by rw [<-HE.o];rfl,hT.out⟩
theorem Jfp (wj:Nat) (hw:wj<=32) (B:Nat) (v1 v2:Value) (t:TxL) (hk:TxOk wj t) (w:World) (h1:XL B w v1 t.1) (h2:XE B w v2 t.2):
  Calls prog 327 #[.agg #[v1,v2]] w λe w'=>e=.returned (.string ⟨(txB t).toArray⟩)/\Tch NoB w w':=by
 have HOT:Hid (∀V,Tch NoB w V->Calls prog 104 #[v2] V λe w'=>e=.returned (.string ⟨(Ju t.2).toArray⟩)/\Tch NoB V w'):=λV hV=>JcG B v2 t.2 hk.made hk.outs V (h2.tch hV noE)
 obtain ⟨a1,c1,rfl⟩:=h1.shape
 obtain ⟨a2,c2,rfl⟩:=h2.shape
 have l1:=hk.ins
 have l2:=hk.made
 have HK:Hid (TxOk wj t):=hk
 have H1:Hid (XL _ _ _ _):=h1
 clear hk h1 h2
 have hw1:IntKind.u8.wrap (t.1.length:Int)=(t.1.length:Int):=by simp [IntKind.wrap,IntKind.bits,IntKind.signed];omega
 have hby:=JaT t.1.length ((w.alloc (.cells #[.slice a1 t.1.length c1,.slice a2 t.2.length c2] 98)).alloc (.cells #[.int .u8 (t.1.length:Int)] 5)) (w.heap.size+1) (by omega) (Ja (heap_alloc2_new _ _ _))
 have T2:Hid (Tch NoB w ((w.alloc (.cells #[.slice a1 t.1.length c1,.slice a2 t.2.length c2] 98)).alloc (.cells #[.int .u8 (t.1.length:Int)] 5))):=(Ta NoB w _).trans (Ta NoB _ _) (λ_ h=>.inl h)
 have R2:Hid (((w.alloc (.cells #[.slice a1 t.1.length c1,.slice a2 t.2.length c2] 98)).alloc (.cells #[.int .u8 (t.1.length:Int)] 5)).heap[w.heap.size]? =some (.cells #[.slice a1 t.1.length c1,.slice a2 t.2.length c2] 98)):=heap_alloc2_old _ _ _
 go_enter func327,ntmps327
 go_wp2
 go_loopw [3,4] (λs i wr=>∃k:Nat,k<=t.1.length/\i=.int .i64 k/\s=.string ⟨(txA1 t k).toArray⟩/\Hid (Tch NoB w wr)/\Hid (wr.heap[w.heap.size]? =some (.cells #[.slice a1 t.1.length c1,.slice a2 t.2.length c2] 98))) (λ_ i _=>t.1.length - (intOf i).toNat)
 case atStart=>exact ⟨0,by omega,rfl,by rw [txA1,beL1];simp,T2.out,R2.o⟩
 case round=>
  clear hby T2 R2
  obtain ⟨k,hk,rfl,rfl,hT,hR⟩:=hrel
  have d0:wr.cell? ⟨w.heap.size,0,none⟩=some (.slice a1 t.1.length c1):=Ja hR.out
  by_cases hlt:k<t.1.length
  ·rcases H1.o with ⟨e,e2⟩ | ⟨gi,oi,cc,e,_,hgi,hcell⟩
   ·rw [e2] at hlt;simp at hlt
   simp only [Qy,true_and] at e
   obtain ⟨rfl,rfl⟩:=e
   obtain ⟨f0,f1⟩:=hcell k hlt
   have hck:=HK.o.coins _ (Qx hlt)
   have q0:=(hT.out.cell (p:=⟨gi,oi+k * 2,none⟩) hgi (λh=>h)).trans f0
   have q1:=(hT.out.cell (p:=⟨gi,oi+k * 2+1,none⟩) hgi (λh=>h)).trans f1
   have hlti:(k:Int)<(t.1.length:Int):=by omega
   have hcb:=JY hck
   have hadd:=JZ (txA1 t k) (Jd t.1[k]) (by have:=Jc4 wj t HK.o hw k;omega)
   rw [<-Jif t k hlt] at hadd
   have HKT:Hid (Calls _ _ _ wr _):=Jah t.1[k] wr hck.2.1 (by have:=hck.2.2;omega) (by rw [hck.1];omega)
   clear hcell f0 f1 hck hcb
   generalize t.1[k]=c at *
   generalize hX1:txA1 t (k+1)=X1 at *
   generalize txA1 t k=X0 at *
   have HX1:Hid (_=X1):=hX1
   clear hX1
   generalize Jd c=cb at *
   go_wp2_with (go_at_call 105;refine HKT.o.mono ?_;rintro _ w1 ⟨rfl,ht1⟩;have HT1:Hid (Tch _ wr w1):=ht1;clear ht1)
   go_roundw
   case rel=>exact ⟨k+1,by omega,by go_num,by rw [HX1.o],hT.out.trans HT1.o noE,(HT1.o.block _ (Jb hR.out) (λh=>h)).trans hR.out⟩
   case measure=>simp [intOf];omega
  ·have HK1:Hid (k=t.1.length):=(by omega:k=t.1.length)
   have hge:¬(k:Int)<(t.1.length:Int):=by omega
   have d1:wr.cell? ⟨w.heap.size,1,none⟩=some (.slice a2 t.2.length c2):=Ja hR.out
   have hadd0:=JZ (txA1 t k) (Ju t.2) (by have:=Jc4 wj t HK.o hw k;have h5:=JbA t.2 l2 t.2.length;rw [Jbz] at h5;omega)
   have HX:Hid (txA1 t k++Ju t.2=txB t):=by
    show txA1 t k++Ju t.2=txB t
    rw [HK1.o,txA1,List.take_length];rfl
   have HOT2:=HOT.o wr hT.out
   have HOT3:Hid (Calls _ _ _ wr _):=HOT2
   clear HOT2
   generalize txA1 t k++Ju t.2=X at *
   generalize txA1 t k=X0 at *
   go_wp2_with (go_at_call 104;refine HOT3.o.mono ?_;rintro _ w1 ⟨rfl,ht1⟩;have HT1:Hid (Tch _ wr w1):=ht1;clear ht1)
   go_ret
   exact ⟨by rw [<-HX.o];rfl,hT.out.trans HT1.o noE⟩
def TxIs (B:Nat) (w:World) (ts:List TxL) (sl:List (Sl×Sl)):Prop:=
 ts.length=sl.length/\∀i (h:i<ts.length) (h':i<sl.length),XL B w (.slice sl[i].1.1 sl[i].1.2.1 sl[i].1.2.2) ts[i].1/\XE B w (.slice sl[i].2.1 sl[i].2.2.1 sl[i].2.2.2) ts[i].2
def Yl (ts:List TxL) (i:Nat):List UInt8:=beL ts.length 1 1++(ts.take i).flatMap txB
theorem Jch (l:List TxL) (i:Nat) (h:i<l.length):Yl l (i+1)=Yl l i++txB l[i]:=by
 unfold Yl;rw [QR h,List.flatMap_append,QG,List.flatMap_nil,QC,Qs]
theorem Jbp (l:List TxL):Yl l l.length=JB l:=by unfold Yl JB;rw [List.take_length]
theorem Jf4 (l:List (Nat×Nat)) (h:l.length<=3):(Ju l).length<=28:=by have:=JbA l h l.length;rw [Jbz] at this;exact this
theorem Jc5 (wj:Nat) (hw:wj<=32) (t:TxL) (h:TxOk wj t):(txB t).length<=200:=by have:=Jj4 wj t h hw t.2.length;rw [Jj3] at this;exact this
theorem Jbq (wj:Nat) (hw:wj<=32) (ts:List TxL) (h:∀t∈ts,TxOk wj t) (i:Nat):(Yl ts i).length<=1+200 * i:=by
 induction i with
 | zero=>simp [Yl,Je]
 | succ i ih=>
  by_cases hi:i<ts.length
  ·rw [Jch _ _ hi,Qe]
   have:=Jc5 wj hw _ (h _ (Qx hi))
   omega
  ·have e:Yl ts (i+1)=Yl ts i:=by
    unfold Yl;rw [QS (by omega),QS (by omega)]
   rw [e];omega
theorem JcE (wj:Nat) (hw:wj<=32) (B:Nat) (v:Value) (ts:List TxL) (sl:List (Sl×Sl)) (hl:ts.length<=3) (ho:∀t∈ts,TxOk wj t) (w:World) (h:TxsR B w v sl) (hs:TxIs B w ts sl):
  Calls prog 256 #[v] w λe w'=>e=.returned (.string ⟨(JB ts).toArray⟩)/\Tch NoB w w':=by
 obtain ⟨a1,c1,rfl⟩:=h.shape
 have H:Hid (TxsR _ _ _ _):=h
 clear h
 have HO:Hid (∀t∈ts,TxOk wj t):=ho
 have HS:Hid (TxIs B w ts sl):=hs
 have hsl:=hs.1
 clear ho hs
 have hw1:IntKind.u8.wrap (sl.length:Int)=(sl.length:Int):=by simp [IntKind.wrap,IntKind.bits,IntKind.signed];omega
 have hby:=JfZ sl.length w (by omega)
 go_enter func256,ntmps256
 go_wp2
 go_loopw [3,4] (λs i wr=>∃k:Nat,k<=sl.length/\i=.int .i64 k/\s=.string ⟨(Yl ts k).toArray⟩/\Hid (Tch NoB w wr)) (λ_ i _=>sl.length - (intOf i).toNat)
 case atStart=>exact ⟨0,by omega,rfl,by rw [Yl,beL1,hsl];simp,Ta _ _ _⟩
 case round=>
  clear hby
  obtain ⟨k,hk,rfl,rfl,hT⟩:=hrel
  by_cases hlt:k<sl.length
  ·have hlt2:k<ts.length:=by omega
   rcases H.out with ⟨e,e2⟩ | ⟨gi,oi,cc,e,_,hgi,hcell⟩
   ·rw [e2] at hlt;simp at hlt
   simp only [Qy,true_and] at e
   obtain ⟨rfl,rfl⟩:=e
   obtain ⟨f0,f1⟩:=hcell k hlt
   have hok:=HO.o _ (Qx hlt2)
   have q0:=(hT.out.cell (p:=⟨gi,oi+k * 2,none⟩) hgi (λh=>h)).trans f0
   have q1:=(hT.out.cell (p:=⟨gi,oi+k * 2+1,none⟩) hgi (λh=>h)).trans f1
   have hlti:(k:Int)<(sl.length:Int):=by omega
   have hadd:=JZ (Yl ts k) (txB ts[k]) (by have:=Jbq wj hw ts HO.o k;have:=Jc5 wj hw _ hok;omega)
   rw [<-Jch ts k hlt2] at hadd
   obtain ⟨hc,hot⟩:=HS.o.2 k hlt2 hlt
   have HKT:Hid (∀V,Tch NoB w V->Calls _ _ _ V _):=λV hV=>Jfp wj hw B _ _ ts[k] hok V (hc.tch hV noE) (hot.tch hV noE)
   have HKW:Hid (∀V,Tch NoB wr V->Tch NoB w V):=λV hV=>hT.out.trans hV noE
   clear hcell f0 f1 hok hc hot
   generalize sl[k].1.1=y1 at *
   generalize sl[k].1.2.1=y2 at *
   generalize sl[k].1.2.2=y3 at *
   generalize sl[k].2.1=y4 at *
   generalize sl[k].2.2.1=y5 at *
   generalize sl[k].2.2.2=y6 at *
   generalize hX1:Yl ts (k+1)=X1 at *
   generalize Yl ts k=X0 at *
   have HX1:Hid (_=X1):=hX1
   clear hX1
   generalize txB ts[k]=cb at *
   go_wp2_with (go_at_call 327;refine (HKT.o _ (HKW.o _ (by first | exact Te _ _ | exact Td _ _ 1))).mono ?_;rintro _ w1 ⟨rfl,ht1⟩;have HT1:Hid (Tch _ wr w1):=ht1;clear ht1)
   go_roundw
   case rel=>exact ⟨k+1,by omega,by go_num,by rw [HX1.o],hT.out.trans HT1.o noE⟩
   case measure=>simp [intOf];omega
  ·have HK2:Hid (k=ts.length):=(by omega:k=ts.length)
   have hge:¬(k:Int)<(sl.length:Int):=by omega
   have HE:Hid (Yl ts k=JB ts):=(by rw [HK2.o];exact Jbp ts:Yl ts k=JB ts)
   generalize Yl ts k=X at *
   go_wp2
   go_ret
   exact ⟨by rw [<-HE.o];rfl,hT.out⟩

def keyS (c:BA×Int):BA:=⟨(Jd c).toArray⟩
def rhC (h:Held):List Value:=[.string (keyS h.1),.int .u64 ((h.2.1:Nat):Int),.int .u8 ((h.2.2:Nat):Int)]
def rhA (l:List Held):List Value:=l.flatMap rhC
def Za (w:World) (g k:Nat) (h:Held):Prop:=w.cell? ⟨g,k,none⟩=some (.string (keyS h.1))/\w.cell? ⟨g,k+1,none⟩=some (.int .u64 ((h.2.1:Nat):Int))/\w.cell? ⟨g,k+2,none⟩=some (.int .u8 ((h.2.2:Nat):Int))
theorem Za.tch {w w':World} {g k:Nat} {h:Held} {S:Nat->Prop} (hc:Za w g k h) (t:Tch S w w') (hg:g<w.heap.size) (hs:¬S g):Za w' g k h:=by
 have e:∀o,w'.cell? ⟨g,o,none⟩=w.cell? ⟨g,o,none⟩:=λo=>t.cell (p:=⟨g,o,none⟩) hg hs
 unfold Za
 rw [e,e,e]
 exact hc
theorem Yn (l:List Held):(rhA l).length=l.length * 3:=by
 induction l with
 | nil=>rfl
 | cons x r ih=>simp only [rhA,QG,Qe] at ih ⊢;rw [ih];simp [rhC];omega
theorem Jg0 (l:List Held):∀u∈rhA l,u.oneCell'=true:=by
 intro u hu
 simp only [rhA,List.mem_flatMap,rhC] at hu
 obtain ⟨x,_,hu⟩:=hu
 simp only [List.mem_cons,QD,or_false] at hu
 rcases hu with rfl | rfl | rfl <;> rfl
theorem ZA (l l':List Held):rhA (l++l')=rhA l++rhA l':=by simp [rhA]
theorem JgZ (l:List Held):∀(i:Nat) (h:i<l.length),(rhA l)[i * 3]? =some (.string (keyS l[i].1))/\(rhA l)[i * 3+1]? =some (.int .u64 ((l[i].2.1:Nat):Int))/\(rhA l)[i * 3+2]? =some (.int .u8 ((l[i].2.2:Nat):Int)):=by
 induction l with
 | nil=>intro i h;simp at h
 | cons x r ih=>
  intro i h
  cases i with
  | zero=>simp [rhA,rhC]
  | succ i=>
   have e:∀j,(rhA (x :: r))[(i+1) * 3+j]? =(rhA r)[i * 3+j]? :=by
    intro j
    show (rhC x++rhA r)[(i+1) * 3+j]? =_
    rw [Qz (by simp [rhC];omega)]
    congr 1;simp [rhC];omega
   refine ⟨?_,?_,?_⟩
   ·have:=e 0;rw [Nat.add_zero,Nat.add_zero] at this;rw [this];simpa using (ih i (by simpa using h)).1
   ·rw [e 1];simpa using (ih i (by simpa using h)).2.1
   ·rw [e 2];simpa using (ih i (by simpa using h)).2.2
def RhAt (w:World) (v:Value) (l:List Held):Prop:=
 (v=.slice none 0 0/\l=[])\/∃g o c,v=.slice (some ⟨g,o,none⟩) l.length c/\(g<w.heap.size/\∃cs m,w.heap[g]? =some (.cells cs 202 m))/\∀i (h:i<l.length),Za w g (o+i * 3) l[i]
theorem RhAt.tch {w w':World} {v:Value} {l:List Held} {S:Nat->Prop} (h:RhAt w v l) (k:Tch S w w') (hs:∀j,v.ownBlock=some j->¬S j):RhAt w' v l:=by
 rcases h with h | ⟨gi,oi,c,rfl,⟨h2,cs,m,h4⟩,h3⟩
 ·exact .inl h
 ·exact .inr ⟨gi,oi,c,rfl,⟨Qk h2 k.size,cs,m,(k.block gi h2 (hs gi rfl)).trans h4⟩,λi hi=>(h3 i hi).tch k h2 (hs gi rfl)⟩
theorem RhAt.tch0 {w w':World} {v:Value} {l:List Held} (h:RhAt w v l) (k:Tch NoB w w'):RhAt w' v l:=h.tch k (λ_ _ h=>h)
theorem RhAt.own {w:World} {v:Value} {l:List Held} (h:RhAt w v l):∀j,v.ownBlock=some j->j<w.heap.size/\∃cs m,w.heap[j]? =some (.cells cs 202 m):=by
 rcases h with ⟨rfl,_⟩ | ⟨g,o,c,rfl,hg,_⟩
 ·intro j hj;cases hj
 ·intro j hj;cases hj;exact hg
theorem RhAt.shape {w:World} {v:Value} {l:List Held} (h:RhAt w v l):∃a c,v=.slice a l.length c:=by
 rcases h with ⟨rfl,rfl⟩ | ⟨gi,oi,c,rfl,_⟩
 ·exact ⟨none,0,rfl⟩
 ·exact ⟨_,_,rfl⟩
theorem RhAt.cells {w:World} {g o:Nat} {l:List Held} (h:∀i (h:i<l.length),Za w g (o+i * 3) l[i]):
  ∀j u,(rhA l)[j]? =some u->w.cell? (Addr.add ⟨g,o,none⟩ j)=some u:=by
 intro j u hu
 have hj:j<l.length * 3:=by have:=(Qo.1 hu).1;rw [Yn] at this;exact this
 obtain ⟨e0,e1,e2⟩:=JgZ l (j / 3) (by omega)
 obtain ⟨f0,f1,f2⟩:=h (j / 3) (by omega)
 rw [Addr.add_lit]
 obtain hm | hm | hm:j % 3=0\/j % 3=1\/j % 3=2:=by omega
 ·rw [show j / 3 * 3=j by omega] at e0;rw [show o+j / 3 * 3=o+j by omega] at f0;rw [f0,<-e0,hu]
 ·rw [show j / 3 * 3+1=j by omega] at e1;rw [show o+j / 3 * 3+1=o+j by omega] at f1;rw [f1,<-e1,hu]
 ·rw [show j / 3 * 3+2=j by omega] at e2;rw [show o+j / 3 * 3+2=o+j by omega] at f2;rw [f2,<-e2,hu]
def ROwn (base:Nat) (w:World) (v:Value) (l:List Held):Prop:=w.ownsRow base 202 3 v l.length (rhA l)
theorem ROwn.nil (base:Nat) (w:World):ROwn base w (.slice none 0 0) []:=⟨rfl,.inl ⟨rfl,rfl⟩⟩
theorem ROwn.at {base:Nat} {w:World} {v:Value} {l:List Held} (h:ROwn base w v l):RhAt w v l:=by
 obtain ⟨_,⟨rfl,h0⟩ | ⟨g,cap,cur,rfl,_,hrow,_,_,hsz,htake⟩⟩:=h
 ·exact .inl ⟨rfl,QP h0⟩
 ·refine .inr ⟨g,0,cap,rfl,⟨(Jb hrow),_,_,hrow⟩,λi hi=>?_⟩
  obtain ⟨e0,e1,e2⟩:=JgZ l i hi
  have hc:∀j u,(rhA l)[j]? =some u->w.cell? ⟨g,0+j,none⟩=some u:=by
   intro j u hu
   rw [<-htake] at hu
   have hj:=(Qo.1 hu).1
   rw [List.getElem?_take_of_lt (by rw [QB] at hj;omega)] at hu
   rw [Ja hrow,Nat.zero_add,<-Array.getElem?_toList]
   exact hu
  exact ⟨hc _ _ e0,hc _ _ e1,hc _ _ e2⟩
theorem ROwn.own {base:Nat} {w:World} {v:Value} {l:List Held} (h:ROwn base w v l):∀k,v.ownBlock=some k->base<=k/\k<w.heap.size:=by
 obtain ⟨_,⟨rfl,h0⟩ | ⟨g,cap,cur,rfl,hb,hrow,_⟩⟩:=h
 ·intro k hk;cases hk
 ·intro k hk;cases hk;exact ⟨hb,(Jb hrow)⟩
theorem ROwn.tch {base:Nat} {w w':World} {v:Value} {l:List Held} {S:Nat->Prop} (h:ROwn base w v l) (k:Tch S w w') (hs:∀j,v.ownBlock=some j->¬S j):ROwn base w' v l:=by
 obtain ⟨h1,⟨rfl,h0⟩ | ⟨g,cap,cur,rfl,hb,hrow,h2⟩⟩:=h
 ·exact ⟨h1,.inl ⟨rfl,h0⟩⟩
 ·exact ⟨h1,.inr ⟨g,cap,cur,rfl,hb,(k.block g (Jb hrow) (hs g rfl)).trans hrow,h2⟩⟩
theorem ROwn.grow {base:Nat} {w w' W:World} {v:Value} {l:List Held} (h:ROwn base w v l) (hg:w.grownBy w' v.ownBlock) (hW:W.heap.size<=base) (k:Tch NoB W w):Tch NoB W w':=
 k.trans (Tg hg) (λj hj=>by
  have:=(h.own j hj.symm).1
  exact .inr (by omega))
theorem ROwn.shape {base:Nat} {w:World} {v:Value} {l:List Held} (h:ROwn base w v l):∃a c,v=.slice a l.length c:=h.at.shape
theorem JgO:(prog.info? 202).map (λi=>(i.zero,i.size,i.bytes))=some (some (.agg #[.string ⟨#[]⟩,.int .u64 0,.int .u8 0]),3,32):=by kernel_rfl
theorem Jau {base:Nat} {w:World} {v:Value} {l:List Held} (h:ROwn base w v l) (x:Value) (l2:List Held) (hx:RhAt w x l2) (ty:TypeId) (hb:l.length+l2.length<=1000000000) (hbase:base<=w.heap.size):
  ∃v' w',(Builtin.append_ #[200,200] ty #[v,x]).run prog w=.ok v' w'/\ROwn base w' v' (l++l2)/\w.grownBy w' v.ownBlock:=by
 obtain ⟨i,hi,hp⟩:=Option.map_eq_some_iff.1 JgO
 simp only [Qw] at hp
 obtain ⟨hz,hsz,hby⟩:=hp
 rcases hx with ⟨rfl,rfl⟩ | ⟨g,o,c,rfl,⟨hg,_⟩,hcell⟩
 ·exact ⟨v,w,run_append_owned_none (P:=prog) (w:=w) base 200 ty 202 i 3 underlying200 hi v l.length (rhA l) h,by rw [QC];exact h,World.grownBy.refl _ _⟩
 ·obtain ⟨v',w',hr,h2,h3,h4⟩:=run_append_own (P:=prog) w base 200 ty 202 i _ 3 32 underlying200 hi hz hsz hby rfl (by omega) v l.length (rhA l) h ⟨g,o,none⟩ l2.length c (rhA l2) (Yn l2) (RhAt.cells hcell) (Jg0 l2) (by simp only [maxLen];omega) (by omega) hbase
  exact ⟨v',w',hr,by unfold ROwn;rw [Qe,ZA];exact h2,h3⟩
theorem Ys {base:Nat} {w:World} {ops:Array Oper} {rest:List Oper} {o:Oper} {a:Act} {Q:Exit->Act->World->Prop} (hgd:o.guard=none) (s x:Operand)
  (ho:o.op=.call { callee:=.builtin .append,args:= #[s,x],argTypes:= #[200,200] })
  {v:Value} {l:List Held} (hv:a.eval s=v) (h:ROwn base w v l) (xv:Value) (l2:List Held) (hx:a.eval x=xv) (hs:RhAt w xv l2) (hb:l.length+l2.length<=1000000000) (hbase:base<=w.heap.size)
  (hK:∀v' w',ROwn base w' v' (l++l2)->w.grownBy w' v.ownBlock->wpList prog ops Q rest (a.put o.dst v') w'):wpList prog ops Q (o :: rest) a w:=by
 refine wpList_plain hgd λK hK'=>?_
 obtain ⟨v',w',hrun,r,r2⟩:=Jau h xv l2 hs o.type hb hbase
 unfold Oper.wp
 simp [execOp,ho,resolve,invoke,builtin,hv,hx,hrun,Result.andThen]
 exact hK' _ _ (hK v' w' r r2)
theorem Jc1 {base:Nat} {ops:Array Oper} {o:Oper} {a:Act} {w:World} {K:Act->World->Prop} {Q:Exit->Act->World->Prop} {E:Prop}
  (hgd:o.guard=none) (s x:Operand) (ho:o.op=.call { callee:=.builtin .append,args:= #[s,x],argTypes:= #[200,200] })
  {v:Value} {l:List Held} (hv:a.eval s=v) (h:ROwn base w v l) (xv:Value) (l2:List Held) (hx:a.eval x=xv) (hs:RhAt w xv l2) (hb:l.length+l2.length<=1000000000) (hbase:base<=w.heap.size)
  (hK:∀v' w',ROwn base w' v' (l++l2)->w.grownBy w' v.ownBlock->K (a.put o.dst v') w'):
  if Region.wanted o (yielded ops a.tmps)=true then Oper.wp prog o a w K Q else E:=by
 have hw:Region.wanted o (yielded ops a.tmps)=true:=by simp [Region.wanted,hgd]
 rw [if_pos hw]
 obtain ⟨v',w',hrun,r,r2⟩:=Jau h xv l2 hs o.type hb hbase
 unfold Oper.wp
 simp [execOp,ho,resolve,invoke,builtin,hv,hx,hrun,Result.andThen]
 exact hK v' w' r r2
theorem Jgj (W:World) (h:Held):RhAt (W.alloc (.cells #[.string (keyS h.1),.int .u64 ((h.2.1:Nat):Int),.int .u8 ((h.2.2:Nat):Int)] 202)) (.slice (some ⟨W.heap.size,0,none⟩) 1 1) [h]:=by
 refine .inr ⟨_,0,1,rfl,⟨by simp,_,_,Qf W _⟩,λi hi=>?_⟩
 obtain rfl:i=0:=by simpa using hi
 have hr:=Qf W (.cells #[.string (keyS h.1),.int .u64 ((h.2.1:Nat):Int),.int .u8 ((h.2.2:Nat):Int)] 202)
 exact ⟨Ja hr,Ja hr,Ja hr⟩
theorem Jft (l:List Held) (k:Nat) (hk:k<=l.length):rhA (l.take k)=(rhA l).take (k * 3):=by
 conv=>rhs;rw [<-List.take_append_drop k l,ZA]
 rw [List.take_left' (by rw [Yn,QB];omega)]
theorem JjG (l:List Held) (k:Nat) (hk:k<=l.length):rhA (l.drop k)=(rhA l).drop (k * 3):=by
 conv=>rhs;rw [<-List.take_append_drop k l,ZA]
 rw [List.drop_left' (by rw [Yn,QB];omega)]
theorem Jk4 (l:List Held) (j:Nat) (hj:j<l.length) (y:Held):rhA (l.set j y)=(rhA l).take (j * 3)++rhC y++(rhA l).drop (j * 3+3):=by
 rw [List.set_eq_take_append_cons_drop,if_pos hj,ZA,Jft l j (by omega),show rhA (y :: l.drop (j+1))=rhC y++rhA (l.drop (j+1)) from rfl,JjG l (j+1) (by omega),Qs,show (j+1) * 3=j * 3+3 by omega]
theorem ROwn.take {base:Nat} {w:World} {a:Option Addr} {n c:Nat} {l:List Held} (h:ROwn base w (.slice a n c) l) (k:Nat) (hk:k<=n):ROwn base w (.slice a k c) (l.take k):=by
 obtain ⟨h1,⟨hv,h0⟩ | ⟨g,cap,cur,hv,hb,hrow,hcap,hm,hsz,htake⟩⟩:=h
 ·cases hv
  obtain rfl:k=0:=by omega
  exact ⟨by simp [rhA],.inl ⟨rfl,by simp⟩⟩
 ·cases hv
  have hl:(l.take k).length=k:=by rw [QB];omega
  refine ⟨Yn _,.inr ⟨g,c,cur,by rw [hl],hb,hrow,by rw [hl];omega,hm,hsz,?_⟩⟩
  rw [hl,Jft l k hk,<-htake,List.take_take,Nat.min_eq_left (Nat.mul_le_mul_right _ hk)]
theorem Jb5 {base g cap:Nat} {l:List Held} {ops:Array Oper} {rest:List Oper} {op:Oper} {a:Act} {w:World} {Q:Exit->Act->World->Prop} (hgd:op.guard=none) (x y:Operand) (ho:op.op=.store 202 x y)
  (h:ROwn base w (.slice (some ⟨g,0,none⟩) l.length cap) l) (j:Nat) (hj:j<l.length) (z:Held) (hx:a.eval x=.pointer (some ⟨g,j * 3,none⟩)) (hy:a.eval y=.agg #[.string (keyS z.1),.int .u64 ((z.2.1:Nat):Int),.int .u8 ((z.2.2:Nat):Int)])
  (hK:∀w',ROwn base w' (.slice (some ⟨g,0,none⟩) l.length cap) (l.set j z)->Tch (λx=>x=g) w w'->wpList prog ops Q rest (a.put op.dst undef) w'):wpList prog ops Q (op :: rest) a w:=by
 obtain ⟨i,hi,hp⟩:=Option.map_eq_some_iff.1 JgO
 simp only [Qw] at hp
 obtain ⟨_,hsz2,_⟩:=hp
 obtain ⟨h1,⟨hv,h0⟩ | ⟨g',cap',cur,hv,hb,hrow,hcap,hm,hsz,htake⟩⟩:=h
 ·cases hv
 ·cases hv
  have hst:(storeCells ⟨g,j * 3,none⟩ [.string (keyS z.1),.int .u64 ((z.2.1:Nat):Int),.int .u8 ((z.2.2:Nat):Int)]).run prog w=_:=run_storeCells_at prog g (j * 3) 202 (rhC z) 0 cur w hrow (by simp [rhC];omega) (λu hu=>Jg0 [z] u (by simpa [rhA] using hu))
  refine wpList_plain hgd λK hK'=>?_
  unfold Oper.wp execOp
  simp [ho,hx,hy,Instr.storeAt,Instr.sureAddr,storeVar,sizeOf,typeInfo,hi,hsz2,Value.cells,hst]
  refine hK' _ _ (hK _ ⟨?_,.inr ⟨g,cap,_,by rw [List.length_set],hb,Qi w g cur _ _ _ hrow,by rw [List.length_set];exact hcap,hm,?_,?_⟩⟩ (Ts _ _ _))
  ·rw [Yn]
  ·have:cap * 3=cur.size:=hsz.symm
   simp [rhC];omega
  ·rw [List.length_set,Jk4 l j hj z,<-htake]
   simp only [List.take_take]
   rw [Nat.min_eq_left (by omega),List.drop_take,show (rhC z).length=3 from rfl]
   have hlen:(cur.toList.take (j * 3)).length=j * 3:=by rw [QB,QA];omega
   have e1:(cur.toList.take (j * 3)).take (l.length * 3)=cur.toList.take (j * 3):=QS (by rw [hlen];omega)
   have e2:(rhC z).take (l.length * 3 - j * 3)=rhC z:=QS (by show 3<=_;omega)
   rw [Qs,List.take_append,hlen,e1,List.take_append,e2,show (rhC z).length=3 from rfl,Nat.sub_sub]
