import Derived.Test.YtighkdnooglfjaaGreatDoorOxPBook
namespace Go.Proofs.YtighkdnooglfjaaGreatDoor
open Tryz
set_option maxRecDepth 100000
set_option maxHeartbeats 1000000
open Go.RowKit

theorem Tch.box (w:World) (o:Obj):Tch NoB w (w.alloc o).drew:=(Tch.alloc _ w o).trans (Tch.drewN _ (w.alloc o) 1) (λ_ h=>.inl h)
theorem Tch.box2 (w:World) (o o':Obj):Tch NoB w ((w.alloc o).alloc o').drew:=((Tch.alloc _ w o).trans (Tch.alloc _ (w.alloc o) o') (λ_ h=>.inl h)).trans (Tch.drewN _ ((w.alloc o).alloc o') 1) (λ_ h=>.inl h)
theorem Bs.tchOwn {base:Nat} {w w':World} {v:Value} {xs:List Value} (h:Bs base w v xs) (hg:w.grownBy w' v.ownBlock) {W:World} (hW:W.heap.size<=base) (k:Tch NoB W w):Tch NoB W w':=
 k.trans (Tch.grown hg) (λj hj=>by
  have:=(h.own j hj.symm).1
  exact .inr (by omega))
theorem JdR (n k:Nat) (w:World) (hk:k<=8):
  Calls prog 49 #[.int .u64 (n:Int),.int .i64 (k:Int)] w λe w'=>e=.returned (.string ⟨(beL n k k).toArray⟩)/\Tch NoB w w':=by
 obtain ⟨i0,hi,hz0,hz1,hz2⟩:=info_parts Jcl
 have hki:(k:Int)<=8:=by omega
 go_enter func49,ntmps49
 go_wp2
 go_loopw [5,6] (λv i wr=>∃j:Nat,j<=k/\i=.int .i64 ((k:Int) - 1 - (j:Int))/\Hid (Bs w.heap.size wr v (bc (beL n k j)))/\Hid (Tch NoB w wr)) (λ_ i _=>(intOf i+1).toNat)
 case atStart=>exact ⟨0,by omega,congrArg (Value.int .i64) (by omega),Bs.nil _ _,Tch.refl _ _⟩
 case round=>
  obtain ⟨j,hj,rfl,hbs,htc⟩:=hrel
  by_cases hjk:j<k
  ·obtain ⟨m,hm',hmk⟩:∃m:Nat,(k:Int) - 1 - (j:Int)=(m:Int)/\k - 1 - j=m:=⟨k - 1 - j,by omega,rfl⟩
   have HM:Hid ((k:Int) - 1 - (j:Int)=(m:Int)/\k - 1 - j=m):=⟨hm',hmk⟩
   have hm7:m<=7:=by omega
   have HJ:Hid (j<k):=hjk
   rw [hm']
   clear hm' hmk hjk
   have hw8:IntKind.i64.wrap (8 * (m:Int))=8 * (m:Int):=JD _ (by omega) (by omega)
   have hsh:Op.shift .shr .u64 (n:Int) .i64 (8 * (m:Int))=pure (.int .u64 ((n:Int) / 2 ^ (8 * m))):=by
    rw [shift_shr_u64 _ _ _ (by omega) (by omega)]
    congr 3
   have Hbl:Hid ((bc (beL n k j)).length=j):=(by rw [XZ,Je]:(bc (beL n k j)).length=j)
   obtain ⟨a0,m0,c0,hv0⟩:=hbs.out.shape3
   subst hv0
   go_wp2_with (at_builtin;refine Xy rfl _ _ 52 52 5 rfl i0 _ underlying52 hi hz0 hz1 hz2 rfl rfl (hbs.out.alloc _) _ 1 [_] rfl (Src.ofSlice _ underlying52 _ 1 1 _ rfl (cell_one_new _ _ _) (by simp [Value.oneCell'])) (by rw [Hbl.out];omega) (by have:=htc.out.size;simp;omega) ?_;intro v1 w1 hbs1 hg1 hmv1;have HB1:Hid _:=hbs1;have Hg1:Hid _:=hg1;clear hmv1 hbs1 hg1)
   have e2:[Value.int .u8 (IntKind.u8.wrap ((n:Int) / 2 ^ (8 * (m:Int)).toNat))]=bc [UInt8.ofNat (n / 2 ^ (8 * m))]:=by
    rw [IntKind.wrap_u8',show (8 * (m:Int)).toNat=8 * m by omega]
    simp [bc]
   have e3:bc (beL n k (j+1))=bc (beL n k j)++bc [UInt8.ofNat (n / 2 ^ (8 * m))]:=by
    rw [<-HM.o.2,<-Zy];rfl
   have hjk:=HJ.o
   go_roundw
   case rel=>
    refine ⟨j+1,by omega,?_,?_,?_⟩
    ·exact congrArg (Value.int .i64) (by have:=HM.o.1;omega)
    ·rw [e3,<-e2];exact HB1
    ·exact Bs.tchOwn (hbs.out.alloc _) Hg1.out (Ql _) (htc.out.trans (Tch.alloc NoB _ _) noE)
   case measure=>simp only [intOf];omega
  ·obtain rfl:j=k:=by omega
   have hneg:¬(0:Int)<=(j:Int) - 1 - (j:Int):=by omega
   have hcv:=Xw (P:=prog) (l:=beL n j j) hbs.out 52 9 5 underlying52 underlying5 underlying9
   obtain ⟨a0,m0,c0,hv0⟩:=hbs.out.shape3
   subst hv0
   go_wp2
   go_ret
   exact ⟨rfl,htc.out⟩
theorem Jcm {a b:BA} (h:a.data.toList=b.data.toList):a=b:=by
 cases a;cases b;simp only at h;rw [Array.toList_inj] at h;rw [h]
theorem Ja8 (b:Nat) (w:World) (k:Nat) (hb:b<256) (hc:w.cell? ⟨k,0,none⟩=some (.int .u8 (b:Int))):(convert 52 9 (.slice (some ⟨k,0,none⟩) 1 1)).run prog w=.ok (.string ⟨#[UInt8.ofNat b]⟩) w:=by
 have:=run_convert_bytes_back (P:=prog) w 52 9 5 ⟨k,0,none⟩ 1 [UInt8.ofNat b] underlying52 underlying5 underlying9 (λj hj=>by
  obtain rfl:j=0:=by simpa using hj
  rw [Addr.add_lit,Nat.zero_add,hc]
  simp [Nat.mod_eq_of_lt hb])
 exact this
theorem Jgs (b:Nat) (w:World) (hb:b<256):(convert 52 9 (.slice (some ⟨w.heap.size,0,none⟩) 1 1)).run prog (w.alloc (.cells #[.int .u8 (b:Int)] 5))=.ok (.string ⟨#[UInt8.ofNat b]⟩) (w.alloc (.cells #[.int .u8 (b:Int)] 5)):=by
 have:=run_convert_bytes_back (P:=prog) (w.alloc (.cells #[.int .u8 (b:Int)] 5)) 52 9 5 ⟨w.heap.size,0,none⟩ 1 [UInt8.ofNat b] underlying52 underlying5 underlying9 (λj hj=>by
  obtain rfl:j=0:=by simpa using hj
  rw [Addr.add_lit,Nat.zero_add,Ja (Qf _ _)]
  simp [Nat.mod_eq_of_lt hb])
 exact this
theorem JdS (a o:Nat) (w:World) (ho:o<256):
  Calls prog 38 #[.agg #[.int .u64 (a:Int),.int .u8 (o:Int)]] w λe w'=>e=.returned (.string ⟨(outB (a,o)).toArray⟩)/\Tch NoB w w':=by
 have HO:Hid (o<256):=ho
 have hin:=λW=>JdR a 8 W (by omega)
 have hby:=λW=>Jgs o W ho
 have hadd:∀W,(Op.stringOp .add (⟨(beL a 8 8).toArray⟩:BA) ⟨#[UInt8.ofNat o]⟩).run prog W=.ok (.string ⟨(outB (a,o)).toArray⟩) W:=λW=>by
  have:=run_string_add_sum (P:=prog) W (⟨(beL a 8 8).toArray⟩:BA) ⟨#[UInt8.ofNat o]⟩ (by show (beL a 8 8).toArray.size+1<=_;simp [Je])
  rw [this]
  exact congrArg (λx=>Result.ok (Value.string x) W) (Jcm (by simp [outB,beL]))
 have hb2:=Ja8 o ((w.alloc (.cells #[.int .u64 (a:Int),.int .u8 (o:Int)] 80)).alloc (.cells #[.int .u8 (o:Int)] 5)).drew (w.heap.size+1) ho (Ja (heap_alloc2_new _ _ _))
 have HIN:Hid _:=hin
 clear hin ho
 go_enter func38,ntmps38
 go_wp2
 go_region_with (go_at_call 49;refine (HIN.o _).mono ?_;rintro _ w1 ⟨rfl,ht1⟩;have r1:w1.heap[w.heap.size]? =some (.cells #[.int .u64 (a:Int),.int .u8 (o:Int)] 80):=(ht1.block _ (by first | (simp;done) | (simp;omega)) (λh=>h)).trans (by first | exact Qf _ _ | exact heap_alloc2_old _ _ _);have c1:w1.cell? ⟨w.heap.size,1,none⟩=some (.int .u8 (o:Int)):=Ja r1;(try (have q1:w1.heap[w.heap.size+1]? =some (.cells #[.int .u8 (o:Int)] 5):=(ht1.block _ (by simp) (λh=>h)).trans (heap_alloc2_new _ _ _);have q2:=Ja8 o w1 (w.heap.size+1) HO.o (Ja q1)));have HT1:Hid _:=ht1;clear ht1 r1)
 all_goals
  go_wp2
  go_ret
  refine ⟨rfl,?_⟩
  first
   | exact (Tch.box w _).trans HT1.o noE
   | exact (Tch.box2 w _ _).trans HT1.o noE
   | exact ((Tch.box w _).trans HT1.o noE).trans (Tch.alloc NoB w1 _) noE
theorem Jig (c:BA×Int) (w:World) (h0:0<=c.2) (h3:c.2<256) (hz:c.1.size<=1000000):
  Calls prog 54 #[.agg #[.string c.1,.int .i64 c.2]] w λe w'=>e=.returned (.string ⟨(Jd c).toArray⟩)/\Tch NoB w w':=by
 obtain ⟨s,n⟩:=c
 simp only at h0 h3 hz
 obtain ⟨m,rfl⟩:=Int.eq_ofNat_of_zero_le h0
 have hm:m<256:=by omega
 have hwr:IntKind.u8.wrap (m:Int)=(m:Int):=by simp [IntKind.wrap,IntKind.bits,IntKind.signed];omega
 have hby:=Ja8 m ((w.alloc (.cells #[.string s,.int .i64 (m:Int)] 49)).alloc (.cells #[.int .u8 (m:Int)] 5)) (w.heap.size+1) hm (Ja (heap_alloc2_new _ _ _))
 have hadd:∀W,(Op.stringOp .add s ⟨#[UInt8.ofNat m]⟩).run prog W=.ok (.string ⟨(Jd (s,(m:Int))).toArray⟩) W:=λW=>by
  have:=run_string_add_sum (P:=prog) W s ⟨#[UInt8.ofNat m]⟩ (by show s.size+1<=_;omega)
  rw [this]
  have hx:JE (m:Int)=m:=by have:=YC (m:Int) h0 (by omega);omega
  exact congrArg (λx=>Result.ok (Value.string x) W) (Jcm (by simp [Jd,hx,beL]))
 clear h0 h3 hz
 go_enter func54,ntmps54
 go_wp2
 go_ret
 exact ⟨rfl,(Tch.alloc NoB w _).trans (Tch.alloc NoB _ _) (λ_ h=>.inl h)⟩

theorem Jh4 (wd:Nat) (l:List (BA×Int)) (h:∀x∈l,Jp wd x):(l.flatMap Jd).length=l.length * (wd+1):=by
 induction l with
 | nil=>simp
 | cons x r ih=>rw [QG,Qe,Ya (h x List.mem_cons_self),ih (λy hy=>h y (List.mem_cons_of_mem _ hy)),Qp,Nat.succ_mul];omega
theorem JcL (o:Nat×Nat):(outB o).length=9:=by simp [outB,Je]
theorem JdM (l:List (Nat×Nat)):(l.flatMap outB).length=l.length * 9:=by
 induction l with
 | nil=>simp
 | cons x r ih=>rw [QG,Qe,JcL,ih,Qp,Nat.succ_mul];omega
def txA1 (t:TxL) (i:Nat):List UInt8:=beL t.1.length 1 1++(t.1.take i).flatMap Jd
def txA2 (t:TxL) (i:Nat):List UInt8:=txA1 t t.1.length++(beL t.2.length 1 1++(t.2.take i).flatMap outB)
theorem Ji2 (t:TxL) (i:Nat) (h:i<t.1.length):txA1 t (i+1)=txA1 t i++Jd t.1[i]:=by
 unfold txA1;rw [List.take_succ_eq_append_getElem h];simp only [List.flatMap_append,QG,List.flatMap_nil,QC,Qs]
theorem Ji3 (t:TxL) (i:Nat) (h:i<t.2.length):txA2 t (i+1)=txA2 t i++outB t.2[i]:=by
 unfold txA2;rw [List.take_succ_eq_append_getElem h];simp only [List.flatMap_append,QG,List.flatMap_nil,QC,Qs]
theorem Jdd (t:TxL):txA2 t t.2.length=txB t:=by
 unfold txA2 txA1 txB Jet JX;rw [List.take_length,List.take_length]
theorem Jdc (wd:Nat) (t:TxL) (h:TxOk wd t) (hw:wd<=32) (i:Nat):(txA1 t i).length<=100:=by
 unfold txA1
 rw [Qe,Je,Jh4 wd _ (λx hx=>h.coins x (List.mem_of_mem_take hx)),QB]
 have:=h.ins
 have:min i t.1.length<=3:=by omega
 have:min i t.1.length * (wd+1)<=3 * (32+1):=Nat.mul_le_mul this (by omega)
 omega
theorem Jde (wd:Nat) (t:TxL) (h:TxOk wd t) (hw:wd<=32) (i:Nat):(txA2 t i).length<=200:=by
 unfold txA2
 rw [Qe,Qe,Je,JdM,QB]
 have:=Jdc wd t h hw t.1.length
 have:=h.made
 omega
theorem Jbr (a b:List UInt8) (h:a.length+b.length<=1000000000) (W:World):(Op.stringOp .add (⟨a.toArray⟩:BA) ⟨b.toArray⟩).run prog W=.ok (.string ⟨(a++b).toArray⟩) W:=by
 rw [run_string_add_sum (P:=prog) W (⟨a.toArray⟩:BA) ⟨b.toArray⟩ (by show a.toArray.size+b.toArray.size<=_;simp;omega)]
 exact congrArg (λx=>Result.ok (Value.string x) W) (Jcm (by simp))
theorem beL1 (n:Nat):beL n 1 1=[UInt8.ofNat n]:=by simp [beL]
theorem Jj3 (wd:Nat) (hw:wd<=32) (B:Nat) (v1 v2:Value) (t:TxL) (hk:TxOk wd t) (w:World) (h1:JC B w v1 t.1) (h2:Jo B w v2 t.2):
  Calls prog 76 #[.agg #[v1,v2]] w λe w'=>e=.returned (.string ⟨(txB t).toArray⟩)/\Tch NoB w w':=by
 obtain ⟨a1,c1,rfl⟩:=h1.shape
 obtain ⟨a2,c2,rfl⟩:=h2.shape
 have l1:=hk.ins
 have l2:=hk.made
 have HK:Hid _:=hk
 have H1:Hid _:=h1
 have H2:Hid _:=h2
 clear hk h1 h2
 have hw1:IntKind.u8.wrap (t.1.length:Int)=(t.1.length:Int):=by simp [IntKind.wrap,IntKind.bits,IntKind.signed];omega
 have hw2:IntKind.u8.wrap (t.2.length:Int)=(t.2.length:Int):=by simp [IntKind.wrap,IntKind.bits,IntKind.signed];omega
 have hby:=Ja8 t.1.length ((w.alloc (.cells #[.slice a1 t.1.length c1,.slice a2 t.2.length c2] 98)).alloc (.cells #[.int .u8 (t.1.length:Int)] 5)) (w.heap.size+1) (by omega) (Ja (heap_alloc2_new _ _ _))
 have T2:Hid (Tch NoB w ((w.alloc (.cells #[.slice a1 t.1.length c1,.slice a2 t.2.length c2] 98)).alloc (.cells #[.int .u8 (t.1.length:Int)] 5))):=(Tch.alloc NoB w _).trans (Tch.alloc NoB _ _) (λ_ h=>.inl h)
 have R2:Hid (((w.alloc (.cells #[.slice a1 t.1.length c1,.slice a2 t.2.length c2] 98)).alloc (.cells #[.int .u8 (t.1.length:Int)] 5)).heap[w.heap.size]? =some (.cells #[.slice a1 t.1.length c1,.slice a2 t.2.length c2] 98)):=heap_alloc2_old _ _ _
 go_enter func76,ntmps76
 go_wp2
 go_loopw [3,4] (λs i wr=>∃k:Nat,k<=t.1.length/\i=.int .i64 k/\s=.string ⟨(txA1 t k).toArray⟩/\Hid (Tch NoB w wr)/\Hid (wr.heap[w.heap.size]? =some (.cells #[.slice a1 t.1.length c1,.slice a2 t.2.length c2] 98))) (λ_ i _=>t.1.length - (intOf i).toNat)
 case atStart=>exact ⟨0,by omega,rfl,by rw [txA1,beL1];simp,T2.out,R2.o⟩
 case round=>
  clear hby T2 R2
  obtain ⟨k,hk,rfl,rfl,hT,hR⟩:=hrel
  have d0:wr.cell? ⟨w.heap.size,0,none⟩=some (.slice a1 t.1.length c1):=Ja hR.out
  by_cases hlt:k<t.1.length
  ·rcases H1.o with ⟨e,e2⟩ | ⟨gi,oi,cc,e,_,hgi,hcell⟩
   ·rw [e2] at hlt;simp at hlt
   simp only [Qy,true_and] at e
   obtain ⟨rfl,rfl⟩:=e
   obtain ⟨f0,f1⟩:=hcell k hlt
   have hck:=HK.o.coins _ (Qx hlt)
   have q0:=(hT.out.cell (p:=⟨gi,oi+k * 2,none⟩) hgi (λh=>h)).trans f0
   have q1:=(hT.out.cell (p:=⟨gi,oi+k * 2+1,none⟩) hgi (λh=>h)).trans f1
   have hlti:(k:Int)<(t.1.length:Int):=by omega
   have hcb:=Ya hck
   have hadd:=Jbr (txA1 t k) (Jd t.1[k]) (by have:=Jdc wd t HK.o hw k;omega)
   rw [<-Ji2 t k hlt] at hadd
   have HKT:Hid (Calls _ _ _ wr _):=Jig t.1[k] wr hck.2.1 (by have:=hck.2.2;omega) (by rw [hck.1];omega)
   clear hcell f0 f1 hck hcb
   generalize t.1[k]=c at *
   generalize hX1:txA1 t (k+1)=X1 at *
   generalize txA1 t k=X0 at *
   have HX1:Hid (_=X1):=hX1
   clear hX1
   generalize Jd c=cb at *
   go_wp2_with (go_at_call 54;refine HKT.o.mono ?_;rintro _ w1 ⟨rfl,ht1⟩;have HT1:Hid _:=ht1;clear ht1)
   go_roundw
   case rel=>exact ⟨k+1,by omega,by go_num,by rw [HX1.o],hT.out.trans HT1.o noE,(HT1.o.block _ (Jb hR.out) (λh=>h)).trans hR.out⟩
   case measure=>simp [intOf];omega
  ·have HK1:Hid (k=t.1.length):=(by omega:k=t.1.length)
   have hge:¬(k:Int)<(t.1.length:Int):=by omega
   have d1:wr.cell? ⟨w.heap.size,1,none⟩=some (.slice a2 t.2.length c2):=Ja hR.out
   have hby:=Jgs t.2.length wr (by omega)
   have hadd0:=Jbr (txA1 t k) [UInt8.ofNat t.2.length] (by have:=Jdc wd t HK.o hw k;simp;omega)
   have HX:Hid (txA1 t k++[UInt8.ofNat t.2.length]=txA2 t 0):=(by rw [HK1.o,txA2,beL1];simp:txA1 t k++[UInt8.ofNat t.2.length]=txA2 t 0)
   have TB:Hid (Tch NoB w (wr.alloc (.cells #[.int .u8 (t.2.length:Int)] 5))):=hT.out.trans (Tch.alloc NoB wr _) noE
   have RB:Hid ((wr.alloc (.cells #[.int .u8 (t.2.length:Int)] 5)).heap[w.heap.size]? =some (.cells #[.slice a1 t.1.length c1,.slice a2 t.2.length c2] 98)):=(Below.heap_alloc wr _ _ (Jb hR.out)).trans hR.out
   generalize txA1 t k++[UInt8.ofNat t.2.length]=X at *
   generalize txA1 t k=X0 at *
   go_wp2
   clear hby hadd0 d0 d1 hge hR hT
   go_loopw [3,5] (λs i wr=>∃k:Nat,k<=t.2.length/\i=.int .i64 k/\s=.string ⟨(txA2 t k).toArray⟩/\Hid (Tch NoB w wr)/\Hid (wr.heap[w.heap.size]? =some (.cells #[.slice a1 t.1.length c1,.slice a2 t.2.length c2] 98))) (λ_ i _=>t.2.length - (intOf i).toNat)
   case atStart=>exact ⟨0,by omega,rfl,by rw [HX.o],TB.out,RB.out⟩
   case round=>
    clear HX TB RB HK1 hk hlt
    obtain ⟨k,hk,rfl,rfl,hT,hR⟩:=hrel
    rename_i wq _
    have d1:wr.cell? ⟨w.heap.size,1,none⟩=some (.slice a2 t.2.length c2):=Ja hR.out
    by_cases hlt:k<t.2.length
    ·rcases H2.o with ⟨e,e2⟩ | ⟨gi,oi,cc,e,_,hgi,hcell⟩
     ·rw [e2] at hlt;simp at hlt
     simp only [Qy,true_and] at e
     obtain ⟨rfl,rfl⟩:=e
     obtain ⟨f0,f1⟩:=hcell k hlt
     have hok:=HK.o.outs _ (Qx hlt)
     have q0:=(hT.out.cell (p:=⟨gi,oi+k * 2,none⟩) hgi (λh=>h)).trans f0
     have q1:=(hT.out.cell (p:=⟨gi,oi+k * 2+1,none⟩) hgi (λh=>h)).trans f1
     have hlti:(k:Int)<(t.2.length:Int):=by omega
     have hadd:=Jbr (txA2 t k) (outB t.2[k]) (by have:=Jde wd t HK.o hw k;rw [JcL];omega)
     rw [<-Ji3 t k hlt] at hadd
     have HKT:Hid (Calls _ _ _ wr _):=JdS t.2[k].1 t.2[k].2 wr hok.2
     clear hcell f0 f1 hok
     generalize hc:t.2[k]=c at *
     obtain ⟨ca,co⟩:=c
     clear hc
     simp only at q0 q1
     generalize hX1:txA2 t (k+1)=X1 at *
     generalize txA2 t k=X0 at *
     have HX1:Hid (_=X1):=hX1
     clear hX1
     generalize outB (ca,co)=cb at *
     go_wp2_with (go_at_call 38;refine HKT.o.mono ?_;rintro _ w1 ⟨rfl,ht1⟩;have HT1:Hid _:=ht1;clear ht1)
     go_roundw
     case rel=>exact ⟨k+1,by omega,by go_num,by rw [HX1.o],hT.out.trans HT1.o noE,(HT1.o.block _ (Jb hR.out) (λh=>h)).trans hR.out⟩
     case measure=>simp [intOf];omega
    ·have HK2:Hid (k=t.2.length):=(by omega:k=t.2.length)
     have hge:¬(k:Int)<(t.2.length:Int):=by omega
     have HE:Hid (txA2 t k=txB t):=(by rw [HK2.o];exact Jdd t:txA2 t k=txB t)
     generalize txA2 t k=X at *
     go_wp2
     go_ret
     exact ⟨by rw [<-HE.o];rfl,hT.out⟩
