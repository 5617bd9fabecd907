import Derived.Test.YtighkdnooglfjaaGreatDoorBxRfS
import Derived.Test.YtighkdnooglfjaaGreatDoorBxChO
namespace Go.Proofs.YtighkdnooglfjaaGreatDoor
open Tryz
set_option maxRecDepth 100000
set_option maxHeartbeats 4000000
open Go.RowKit

def zB (n:Nat):Array Value:=(List.replicate n (Value.int .u8 0)).toArray
theorem Jjd (n:Nat) (hn:n<=1000) (w:World):(Instr.makeSlice 52 (.int .i64 (n:Int)) (.int .i64 (n:Int))).run prog w=.ok (.slice (some ⟨w.heap.size,0,none⟩) n n) (w.alloc (.cells (zB n) 5)):=by
 obtain ⟨i0,hi,hz0,hz1,hz2⟩:=info_parts JaS
 have:=run_make (P:=prog) w 52 5 i0 _ underlying52 hi hz0 .i64 .i64 (n:Int) (n:Int) (by omega) (by omega) (by rw [hz2];omega) (by omega)
 rw [this,hz1]
 have e:madeCells (Value.int .u8 0).cells ((n:Int).toNat * 1)=zB n:=by
  unfold madeCells zB
  apply Array.ext
  ·simp
  ·intro i h1 h2
   simp [Value.cells,Nat.mod_one]
 rw [e,Int.toNat_natCast]
theorem JiJ (n:Nat) (w:World) (g:Nat) (hg:w.heap[g]? =some (.cells (zB n) 5)):(convert 52 9 (.slice (some ⟨g,0,none⟩) n n)).run prog w=.ok (.string (Yt n)) w:=by
 have:=run_convert_bytes_back (P:=prog) w 52 9 5 ⟨g,0,none⟩ n (List.replicate n 0) underlying52 underlying5 underlying9 (λj hj=>by
  rw [Addr.add_lit,Nat.zero_add,Ja hg]
  have hj':j<n:=by simpa using hj
  simp [zB,hj'])
 rw [List.length_replicate] at this
 exact this
def RNew (wj base:Nat) (outs:List (Nat×Nat)) (st:Option Tr) (w:World) (e:Ending) (w':World):Prop:=
 Tch NoB w w'/\∃rb G vL lv b,e=.returned (.tuple #[.pointer (some ⟨rb,0,none⟩),.int .i64 0])/\RfAt wj base w' rb G [(⟨(hdrB (XN wj outs st)).toArray⟩,st)] vL lv b/\∀j,G j->w.heap.size<=j
theorem Jjs (n:Int) (v:Value) (outs:List (Nat×Nat)) (B:Nat) (w:World) (h:XE B w v outs) (hl:outs.length<=1000000000) (hno:¬(1<=n/\n<=32/\1<=outs.length/\outs.length<=3)):
  Calls prog 63 #[.int .i64 n,v] w λe w'=>e=.returned (.tuple #[.pointer none,.int .i64 1])/\Tch NoB w w':=by
 obtain ⟨a,c,rfl⟩:=h.shape
 clear h
 by_cases c1:n<1
 ·clear hno
  go_enter func63,ntmps63
  go_wp2
  go_ret2
  exact ⟨rfl,Te _ _⟩
 ·by_cases c2:32<n
  ·clear hno
   go_enter func63,ntmps63
   go_wp2
   go_ret2
   exact ⟨rfl,Te _ _⟩
  ·by_cases c3:outs.length<1
   ·have c3i:(outs.length:Int)<1:=by omega
    clear hno c3
    go_enter func63,ntmps63
    go_wp2
    go_ret2
    exact ⟨rfl,Te _ _⟩
   ·have c4i:3<(outs.length:Int):=by omega
    have c3i:¬(outs.length:Int)<1:=by omega
    clear hno c3
    go_enter func63,ntmps63
    go_wp2
    go_ret2
    exact ⟨rfl,Te _ _⟩
theorem JmG (hD:DgC) (wj:Nat) (hw1:1<=wj) (hw:wj<=32) (v:Value) (outs:List (Nat×Nat)) (ho:∀o∈outs,JC o) (h1:1<=outs.length) (h3:outs.length<=3) (B:Nat) (w:World) (hv:XE B w v outs) (base:Nat) (hbase:base<=w.heap.size) (st:Option Tr) (hrec:Jv (dgW wj (71 :: Ju outs)) 0 outs none=.ok st):
  Calls prog 63 #[.int .i64 (wj:Int),v] w (RNew wj base outs st w):=by
 have HOT:Hid (∀V,Tch NoB w V->Calls prog 104 #[v] V λe w'=>e=.returned (.string ⟨(Ju outs).toArray⟩)/\Tch NoB V w'):=λV hV=>JcG B v outs h3 ho V (hv.tch hV noE)
 obtain ⟨id,hid⟩:∃id,dgW wj (71 :: Ju outs)=id:=⟨_,rfl⟩
 have hids:id.size=wj:=by rw [<-hid];exact Jq wj hw _
 have HFB:Hid (Book wj st (Xn id outs outs.length)):=JfT wj outs ho h3 id hids st (by rw [<-hid];exact hrec)
 have hll:=Jf4 outs h3
 have HDG:Hid (∀V,Calls prog 103 #[.int .i64 (wj:Int),.string ⟨(71 :: Ju outs).toArray⟩] V λe w'=>e=.returned (.string id)/\Tch NoB V w'):=λV=>by
  have:=hD wj ⟨(71 :: Ju outs).toArray⟩ V hw1 hw (by rw [Jk,Qp];omega)
  rw [show (⟨(71 :: Ju outs).toArray⟩:BA).data.toList=71 :: Ju outs from rfl,hid] at this
  exact this
 have a1:=JZ [71] (Ju outs) (by simp;omega)
 have a1':∀W,(Op.stringOp .add (⟨#[71]⟩:BA) ⟨(Ju outs).toArray⟩).run prog W=.ok (.string ⟨(71 :: Ju outs).toArray⟩) W:=a1
 have HIDX:Hid (dgW wj (71 :: Ju outs)=id):=hid
 have HIDS:Hid (id.size=wj):=hids
 have HO:Hid (∀o∈outs,JC o):=ho
 have HV:Hid (XE B w v outs):=hv
 obtain ⟨va,vc,hva⟩:=hv.shape
 subst hva
 have c1:¬(wj:Int)<1:=by omega
 have c2:¬32<(wj:Int):=by omega
 have c3:¬(outs.length:Int)<1:=by omega
 have c4:¬3<(outs.length:Int):=by omega
 clear a1 hid hids ho hv hrec
 generalize (⟨(71 :: Ju outs).toArray⟩:BA)=XG at *
 generalize hX0:(⟨(Ju outs).toArray⟩:BA)=X0 at *
 have HX0:Hid (_=X0):=hX0
 clear hX0
 go_enter func63,ntmps63
 go_wp2_with (first | (go_at_call 104;refine (HOT.o _ (Te _ _)).mono ?_;rintro _ w1 ⟨rfl,ht1⟩;have HT1:Hid (Tch NoB w w1):=ht1;clear ht1) | (go_at_call 103;refine (HDG.o _).mono ?_;rintro _ wA ⟨rfl,ht2⟩;have HTA:Hid (Tch NoB w wA):=HT1.o.trans ht2 (λ_ h=>.inl h);clear ht2))
 go_loopw [7,8] (λvn i wr=>∃k:Nat,k<=outs.length/\i=.int .i64 k/\Hid (ROwn w.heap.size wr vn (Xn id outs k))/\Hid (Tch NoB w wr)) (λ_ i _=>outs.length - (intOf i).toNat)
 case atStart=>exact ⟨0,by omega,rfl,ROwn.nil _ _,HTA⟩
 case round=>
  obtain ⟨k,hk,rfl,HOW,HT⟩:=hrel
  have HFL:Hid ((Xn id outs k).length=k):=by show List.length _=k;simp [Xn]
  by_cases hlt:k<outs.length
  ·rcases HV.o with ⟨e,e2⟩ | ⟨gi,oi,cc,e,_,hgi,hcell⟩
   ·rw [e2] at hlt;simp at hlt
   simp only [Qy,true_and] at e
   obtain ⟨rfl,rfl⟩:=e
   obtain ⟨f0,f1⟩:=hcell k hlt
   have hlti:(k:Int)<(outs.length:Int):=by omega
   obtain ⟨⟨oa,oo⟩,hoe⟩:∃o,outs[k]=o:=⟨_,rfl⟩
   rw [hoe] at f0 f1
   have HFS:Hid (Xn id outs (k+1)=Xn id outs k++[((id,(k:Int)),(oa,oo))]):=by
    show Xn id outs (k+1)=_
    rw [JbL,Qn,Qd hlt,hoe]
    rfl
   have hck:Jo wj (id,(k:Int)):=⟨HIDS.o,by omega,by show (k:Int)<3;omega⟩
   have HKT:Hid (∀V,Calls prog 105 #[.agg #[.string id,.int .i64 (k:Int)]] V λe w'=>e=.returned (.string (keyS (id,(k:Int))))/\Tch NoB V w'):=λV=>Jah (id,(k:Int)) V hck.2.1 (by have:=hck.2.2;omega) (by rw [hck.1];omega)
   have HCE:Hid (∀V,Tch (λj=>w.heap.size<=j) w V->V.cell? ⟨gi,oi+k * 2,none⟩=some (.int .u64 (oa:Int))/\V.cell? ⟨gi,oi+k * 2+1,none⟩=some (.int .u8 (oo:Int))):=λV hV=>⟨(hV.cell (p:=⟨gi,oi+k * 2,none⟩) hgi (λh=>absurd h (Nat.not_le.2 hgi))).trans f0,(hV.cell (p:=⟨gi,oi+k * 2+1,none⟩) hgi (λh=>absurd h (Nat.not_le.2 hgi))).trans f1⟩
   have HNEW:Hid (∀W:World,RhAt (W.alloc (.cells #[.string (keyS (id,(k:Int))),.int .u64 (oa:Int),.int .u8 (oo:Int)] 202)) (.slice (some ⟨W.heap.size,0,none⟩) 1 1) [((id,(k:Int)),(oa,oo))]):=λW=>Jgj W ((id,(k:Int)),(oa,oo))
   obtain ⟨na,nm,nc,hna⟩:∃na nm nc,u7=.slice na nm nc:=by obtain ⟨a,c,e⟩:=HOW.o.shape;exact ⟨_,_,_,e⟩
   subst hna
   obtain ⟨q0,q1⟩:=HCE.o wr (HT.o.mono noE)
   clear hcell f0 f1 hck hoe
   generalize keyS (id,(k:Int))=ks at *
   go_upto_region 8 with fail
   go_region_held3 (λV=>V.cell? ⟨gi,oi+k * 2,none⟩=some (.int .u64 (oa:Int))/\V.cell? ⟨gi,oi+k * 2+1,none⟩=some (.int .u8 (oo:Int))) (go_keep) ((first
     | (go_at_call 105;refine (HKT.o _).mono ?_;rintro _ w1 ⟨rfl,ht1⟩;have HT1:Hid (Tch NoB wr w1):=(Td NoB wr 1).trans ht1 (λ_ h=>.inl h);have y:=HCE.o w1 ((HT.o.trans HT1.o (λ_ h=>.inl h)).mono noE);obtain ⟨y0,y1⟩:=y;clear ht1)
     | (refine Jc1 rfl _ _ rfl rfl (HOW.o.tch (HT1.o.trans (Ta NoB w1 _) (λ_ h=>.inl h)) (λ_ _ h=>h)) _ [((id,(k:Int)),(oa,oo))] rfl (HNEW.o w1) (by rw [HFL.o];simp;omega) (Qm HT.o.size (Qm HT1.o.size (Ta NoB w1 _).size)) ?_;intro v3 w3 hown3 hg3;have HOW3:Hid (ROwn _ w3 v3 _):=hown3;have HT3:Hid (Tch NoB w w3):=(HOW.o.tch (HT1.o.trans (Ta NoB w1 _) (λ_ h=>.inl h)) (λ_ _ h=>h)).grow hg3 (Ql _) (HT.o.trans (HT1.o.trans (Ta NoB w1 _) (λ_ h=>.inl h)) (λ_ h=>.inl h));have y3:=HCE.o w3 (HT3.o.mono noE);obtain ⟨y4,y5⟩:=y3;clear hown3 hg3)))
   all_goals
    go_wp2
    go_roundw
    case rel=>exact ⟨k+1,by omega,by go_num,by rw [HFS.o];exact HOW3,HT3⟩
    case measure=>simp [intOf];omega
  ·obtain rfl:k=outs.length:=by omega
   have hge:¬(outs.length:Int)<(outs.length:Int):=by omega
   have hmk:=Jjd wj (by omega) wr
   obtain ⟨wZ,hwZ⟩:∃wZ,wZ=wr.alloc (.cells (zB wj) 5):=⟨_,rfl⟩
   rw [<-hwZ] at hmk
   have hcv:=JiJ wj wZ wr.heap.size (by rw [hwZ];exact Qf _ _)
   have HTZ:Hid (Tch NoB wr wZ):=by rw [hwZ];exact Ta _ _ _
   clear hwZ
   obtain ⟨na,nc,hna⟩:=HOW.o.shape
   rw [HFL.o] at hna
   subst hna
   have HRT:Hid (∀V,Tch NoB wr V->Calls prog 106 #[.int .i64 (wj:Int),.slice na outs.length nc] V λe w'=>∃S,e=.returned (.string S)/\(dgW wj S.data.toList=JV (dgW wj) st/\S.size<=1000)/\Tch NoB V w'):=λV hV=>(Jjz hD wj hw1 hw (Xn id outs outs.length).length (Xn id outs outs.length) V _ (Ql _) HFB.o.ok HFB.o.nodup (HOW.o.at.tch0 hV) (by rw [HFL.o];omega)).mono (by
    rintro e w' ⟨s,he,hr,ht⟩
    refine ⟨⟨s.toArray⟩,he,⟨?_,by rw [Jk];exact hr.rlen hw (λx hx=>(HFB.o.ok x hx).1)⟩,ht⟩
    rw [JcV,<-JdR HFB.o hr])
   have HDR:Hid (∀(S:BA) (V:World),S.size<=1000->Calls prog 103 #[.int .i64 (wj:Int),.string S] V λe w'=>∃D,e=.returned (.string D)/\D=dgW wj S.data.toList/\Tch NoB V w'):=λS V hs=>(hD wj S V hw1 hw (by omega)).mono (by rintro _ _ ⟨rfl,h⟩;exact ⟨_,rfl,rfl,h⟩)
   have hw8:IntKind.u8.wrap (wj:Int)=(wj:Int):=by simp [IntKind.wrap,IntKind.bits,IntKind.signed];omega
   go_wp2_with (first
    | (go_at_call 106;refine (HRT.o _ HTZ.o).mono ?_;rintro _ w5 ⟨S,rfl,hs5,ht5⟩;have HS5:Hid (_/\_):=hs5;have HT5:Hid (Tch NoB wr w5):=HTZ.o.trans ht5 (λ_ h=>.inl h);clear ht5 hs5)
    | (go_at_call 103;refine (HDR.o S _ HS5.o.2).mono ?_;rintro _ w6 ⟨D,rfl,hd6,ht6⟩;have HD6:Hid (D=_):=hd6;have HT6:Hid (Tch NoB wr w6):=HT5.o.trans ht6 (λ_ h=>.inl h);clear ht6 hd6))
   obtain ⟨wB,hwB⟩:∃wB,wB=(w6.alloc (.cells #[.string (Yt wj),.string id,.string D,.slice na outs.length nc] 205)).alloc (.cells #[.int .i64 (wj:Int),.slice (some ⟨w6.heap.size,0,none⟩) 1 1,.int .i64 0,.string ⟨#[]⟩] 208):=⟨_,rfl⟩
   have HTB:Hid (Tch NoB wr wB):=by rw [hwB];exact (HT6.o.trans (Ta NoB _ _) (λ_ h=>.inl h)).trans (Ta NoB _ _) (λ_ h=>.inl h)
   have HRB:Hid (wB.heap[w6.heap.size+1]? =some (.cells #[.int .i64 (wj:Int),.slice (some ⟨w6.heap.size,0,none⟩) 1 1,.int .i64 0,.string ⟨#[]⟩] 208)):=by rw [hwB];exact heap_alloc2_new _ _ _
   have HLB:Hid (wB.heap[w6.heap.size]? =some (.cells #[.string (Yt wj),.string id,.string D,.slice na outs.length nc] 205)):=by rw [hwB];exact heap_alloc2_old _ _ _
   rw [<-hwB]
   clear hwB hmk hcv
   have HG6:Hid (wr.heap.size<=w6.heap.size):=HT6.o.size
   generalize w6.heap.size=lb at *
   obtain ⟨rb,hrb⟩:∃rb,rb=lb+1:=⟨_,rfl⟩
   rw [<-hrb] at HRB
   rw [<-hrb]
   have HRBE:Hid (rb=lb+1):=hrb
   clear hrb
   have hby:=λW=>JfZ wj W (by omega)
   have hb2:=JaT wj (wB.alloc (.cells #[.int .u8 (wj:Int)] 5)).drew wB.heap.size (by omega) (cell_of_row (wB.alloc _) _ _ _ _ _ (Qf _ _))
   have hadd:=JZ [UInt8.ofNat wj] (Ju outs) (by simp;omega)
   have hadd':∀W,(Op.stringOp .add (⟨#[UInt8.ofNat wj]⟩:BA) X0).run prog W=.ok (.string ⟨([UInt8.ofNat wj]++Ju outs).toArray⟩) W:=by rw [<-HX0.o];exact hadd
   have HNT:Hid (∀V:World,V.heap[rb]? =some (.cells #[.int .i64 (wj:Int),.slice (some ⟨lb,0,none⟩) 1 1,.int .i64 0,.string ⟨#[]⟩] 208)->Calls prog 107 #[.pointer (some ⟨rb,0,none⟩),.string ⟨#[71]⟩,.string ⟨([UInt8.ofNat wj]++Ju outs).toArray⟩] V λe w'=>e=.returned (.tuple #[])/\Tch (λj=>j=rb) V w'/\∃R:BA,R.size<=1000/\w'.heap[rb]? =some (.cells #[.int .i64 (wj:Int),.slice (some ⟨lb,0,none⟩) 1 1,.int .i64 0,.string R] 208)):=λV hV=>by
    refine (JgW hD [71] ([UInt8.ofNat wj]++Ju outs) rfl (by simp;omega) V rb _ _ _ ⟨#[]⟩ (by decide) hV).mono ?_
    rintro _ w' ⟨rfl,h2,h3⟩
    refine ⟨rfl,h2,_,?_,h3⟩
    have e1:(⟨(recB [71] ([UInt8.ofNat wj]++Ju outs)).toArray⟩:BA).size=7+([UInt8.ofNat wj]++Ju outs).length:=by rw [Jk,JcM [71] _ rfl]
    rw [ByteArray.size_append,e1]
    show 0+_<=1000
    simp
    omega
   clear hadd
   generalize (⟨([UInt8.ofNat wj]++Ju outs).toArray⟩:BA)=XC at *
   have HOB:Hid (∀V,Tch NoB wB V->Calls prog 104 #[.slice va outs.length vc] V λe w'=>e=.returned (.string X0)/\Tch NoB V w'):=λV hV=>HOT.o V ((HT.o.trans HTB.o (λ_ h=>.inl h)).trans hV (λ_ h=>.inl h))
   have HEND:Hid (∀V w8:World,Tch NoB wB V->Tch (λj=>j=rb) V w8->(∃R:BA,R.size<=1000/\w8.heap[rb]? =some (.cells #[.int .i64 (wj:Int),.slice (some ⟨lb,0,none⟩) 1 1,.int .i64 0,.string R] 208))->RNew wj base outs st w (.returned (.tuple #[.pointer (some ⟨rb,0,none⟩),.int .i64 0])) w8):=by
    rintro V w8 hV h8 ⟨R,hR,hrow⟩
    have hsz:w.heap.size<=wr.heap.size:=HT.o.size
    have hg6:=HG6.o
    have hre:=HRBE.o
    have h08:Tch (λj=>j=rb) wB w8:=(hV.mono noE).trans h8 (λ_ h=>.inl h)
    refine ⟨(HT.o.trans HTB.o (λ_ h=>.inl h)).trans h08 (λx hx=>.inr (by omega)),rb,λj=>j=rb\/j=lb\/(Value.slice na outs.length nc).ownBlock=some j,.slice (some ⟨lb,0,none⟩) 1 1,[((Yt wj,id,D),(na,outs.length,nc))],R,rfl,?_,?_⟩
    ·have hlb:=(h08.block lb (Jb HLB.o) (λe=>by omega)).trans HLB.o
     have hD3:D=JV (dgW wj) st:=by rw [HD6.o];exact HS5.o.1
     refine ⟨hrow,⟨rfl,.inr ⟨lb,1,_,rfl,by omega,hlb,Ql _,by simp [maxLen],rfl,rfl⟩⟩,.inl rfl,λj hj=>.inr (.inl ?_),λx hx j hj=>?_,λj hj=>?_,⟨rfl,Ql _⟩,λi x c hx hc=>?_,λi x c hx hc=>?_,by show R.size<=1000 * 1;omega⟩
     ·cases hj;rfl
     ·obtain rfl:x=((Yt wj,id,D),(na,outs.length,nc)):=by simpa using hx
      exact .inr (.inr hj)
     ·have hs8:=h08.size
      have h1:=(Jb HRB.o)
      rcases hj with rfl | rfl | hj
      ·exact ⟨by omega,by omega⟩
      ·exact ⟨by omega,by omega⟩
      ·have:=HOW.o.own j hj
       have:=HTB.o.size
       exact ⟨by omega,by omega⟩
     ·match i,hx,hc with
      | 0,hx,hc=>
       simp only [List.getElem?_cons_zero,Qh] at hx hc
       subst hx
       subst hc
       have e:lvH 0 ((Yt wj,id,D),(na,outs.length,nc))=XN wj outs st:=by
        unfold lvH XN
        rw [HIDX.o,hD3]
       refine ⟨?_,by rw [e]⟩
       refine ⟨by show 0<2 ^ 32;decide,?_,HIDS.o,?_⟩
       ·show (Yt wj).size=wj
        unfold Yt
        rw [Jk,List.length_replicate]
       ·show D.size=wj
        rw [hD3]
        exact Xk (dgW wj) wj (λl=>Jq wj hw l) st
      | i+1,hx,hc=>simp at hx
     ·match i,hx,hc with
      | 0,hx,hc=>
       simp only [List.getElem?_cons_zero,Qh] at hx hc
       subst hx
       subst hc
       refine ⟨Xn id outs outs.length,?_,HFB.o,by rw [HFL.o];omega⟩
       refine (HOW.o.at.tch0 HTB.o).tch h08 (λj hj e=>?_)
       have:=(HOW.o.own j hj).2
       omega
      | i+1,hx,hc=>simp at hx
    ·intro j hj
     rcases hj with rfl | rfl | hj
     ·omega
     ·omega
     ·exact (HOW.o.own j hj).1
   clear HTZ HT5 HS5 HD6 HFB HOW HRT HDR
   go_region_with (first
    | (go_at_call 104;refine (HOB.o _ (by first | exact Td _ _ 1 | exact Tch.box wB _)).mono ?_;rintro _ w7 ⟨rfl,ht7⟩;have HT7:Hid (Tch NoB wB w7):=(by first | exact (Td NoB wB 1).trans ht7 (λ_ h=>.inl h) | exact (Tch.box wB _).trans ht7 (λ_ h=>.inl h));(try (have q1:w7.heap[wB.heap.size]? =some (.cells #[.int .u8 (wj:Int)] 5):=(ht7.block _ (by simp) (λh=>h)).trans (Qf wB _);have q2:=JaT wj w7 wB.heap.size (by omega) (Ja q1)));clear ht7)
    | (go_at_call 107;refine (HNT.o _ (by first | exact (HT7.o.block _ (Jb HRB.o) (λh=>h)).trans HRB.o | exact ((HT7.o.trans (Ta NoB w7 _) (λ_ h=>.inl h)).block _ (Jb HRB.o) (λh=>h)).trans HRB.o)).mono ?_;rintro _ w8 ⟨rfl,ht8,hr8⟩;have HR8:Hid (_:Prop):=hr8;have HT8:Hid (Tch _ _ w8):=ht8;clear ht8 hr8))
   all_goals
    go_wp2
    go_ret2
    first
     | exact HEND.o _ _ HT7.o HT8.o HR8.o
     | exact HEND.o _ _ (HT7.o.trans (Ta NoB w7 _) (λ_ h=>.inl h)) HT8.o HR8.o
