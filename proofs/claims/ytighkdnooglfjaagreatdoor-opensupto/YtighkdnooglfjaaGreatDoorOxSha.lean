import Derived.Test.YtighkdnooglfjaaGreatDoorOxRot
import Derived.Deep.RegionWith
namespace Go.Proofs.YtighkdnooglfjaaGreatDoor
open Tryz
set_option maxRecDepth 100000
set_option maxHeartbeats 1000000
open Go.RowKit

def H0:S8:=⟨1779033703,3144134277,1013904242,2773480762,1359893119,2600822924,528734635,1541459225⟩
def JeO:Value->Nat
 | .string s=>s.size
 | _=>0
def ZA:Nat->S8->List UInt8->S8
 | 0,s,_=>s
 | n+1,s,l=>comp (ZA n s l) ((l.drop (64 * n)).take 64)

def shaS (l:List UInt8):S8:=
 ZA ((padL (l.drop (64 * (l.length / 64))) l.length).length / 64) (ZA (l.length / 64) H0 l) (padL (l.drop (64 * (l.length / 64))) l.length)
theorem set8 (w:World) (g:Nat) (t:TypeId) (old:Array Value) (v0 v1 v2 v3 v4 v5 v6 v7:Value) (ho:old.size=8) (h:w.heap[g]? =some (.cells old t (0,0))):
  (((((((w.setCell ⟨g,0,none⟩ v0).setCell ⟨g,1,none⟩ v1).setCell ⟨g,2,none⟩ v2).setCell ⟨g,3,none⟩ v3).setCell ⟨g,4,none⟩ v4).setCell ⟨g,5,none⟩ v5).setCell ⟨g,6,none⟩ v6).setCell ⟨g,7,none⟩ v7=w.setRow g #[v0,v1,v2,v3,v4,v5,v6,v7]:=by
 rw [setCell_eq_setRow w g 0 old t (0,0) v0 h,
  setCell_eq_setRow _ g 1 _ t (0,0) v1 (setRow_heap _ _ _ _ _ _ h),setRow_setRow,
  setCell_eq_setRow _ g 2 _ t (0,0) v2 (setRow_heap _ _ _ _ _ _ h),setRow_setRow,
  setCell_eq_setRow _ g 3 _ t (0,0) v3 (setRow_heap _ _ _ _ _ _ h),setRow_setRow,
  setCell_eq_setRow _ g 4 _ t (0,0) v4 (setRow_heap _ _ _ _ _ _ h),setRow_setRow,
  setCell_eq_setRow _ g 5 _ t (0,0) v5 (setRow_heap _ _ _ _ _ _ h),setRow_setRow,
  setCell_eq_setRow _ g 6 _ t (0,0) v6 (setRow_heap _ _ _ _ _ _ h),setRow_setRow,
  setCell_eq_setRow _ g 7 _ t (0,0) v7 (setRow_heap _ _ _ _ _ _ h),setRow_setRow]
 refine congrArg (w.setRow g) ?_
 obtain ⟨l⟩:=old
 match l,ho with
 | [_,_,_,_,_,_,_,_],_=>simp
structure At8 (w:World) (g:Nat) (s:S8):Prop where
 row:w.heap[g]? =some (.cells #[.int .u32 s.a,.int .u32 s.b,.int .u32 s.c,.int .u32 s.d,.int .u32 s.e,.int .u32 s.f,.int .u32 s.g,.int .u32 s.h] 434)

theorem Jb7 {w wr w1:World} {T0:S8} (C:S8) (hR:wr.heap[w.heap.size]? =some (.cells (arr8 []) 335)) (hA:At8 wr (w.heap.size+1) T0) (hB:Below w.heap.size w wr) (hB1:Below wr.heap.size wr w1) (hN:w.heap.size+1<wr.heap.size):
  (((((((((w1.setCell ⟨w.heap.size+1,0,none⟩ (.int .u32 C.a)).setCell ⟨w.heap.size+1,1,none⟩ (.int .u32 C.b)).setCell ⟨w.heap.size+1,2,none⟩ (.int .u32 C.c)).setCell ⟨w.heap.size+1,3,none⟩ (.int .u32 C.d)).setCell ⟨w.heap.size+1,4,none⟩ (.int .u32 C.e)).setCell ⟨w.heap.size+1,5,none⟩ (.int .u32 C.f)).setCell ⟨w.heap.size+1,6,none⟩ (.int .u32 C.g)).setCell ⟨w.heap.size+1,7,none⟩ (.int .u32 C.h))).heap[w.heap.size]? =some (.cells (arr8 []) 335)/\
  At8 ((((((((w1.setCell ⟨w.heap.size+1,0,none⟩ (.int .u32 C.a)).setCell ⟨w.heap.size+1,1,none⟩ (.int .u32 C.b)).setCell ⟨w.heap.size+1,2,none⟩ (.int .u32 C.c)).setCell ⟨w.heap.size+1,3,none⟩ (.int .u32 C.d)).setCell ⟨w.heap.size+1,4,none⟩ (.int .u32 C.e)).setCell ⟨w.heap.size+1,5,none⟩ (.int .u32 C.f)).setCell ⟨w.heap.size+1,6,none⟩ (.int .u32 C.g)).setCell ⟨w.heap.size+1,7,none⟩ (.int .u32 C.h)) (w.heap.size+1) C/\
  Below w.heap.size w ((((((((w1.setCell ⟨w.heap.size+1,0,none⟩ (.int .u32 C.a)).setCell ⟨w.heap.size+1,1,none⟩ (.int .u32 C.b)).setCell ⟨w.heap.size+1,2,none⟩ (.int .u32 C.c)).setCell ⟨w.heap.size+1,3,none⟩ (.int .u32 C.d)).setCell ⟨w.heap.size+1,4,none⟩ (.int .u32 C.e)).setCell ⟨w.heap.size+1,5,none⟩ (.int .u32 C.f)).setCell ⟨w.heap.size+1,6,none⟩ (.int .u32 C.g)).setCell ⟨w.heap.size+1,7,none⟩ (.int .u32 C.h)):=by
 have row1:=(hB1.block _ hN).trans hA.row
 rw [set8 w1 (w.heap.size+1) 434 _ _ _ _ _ _ _ _ _ rfl row1]
 refine ⟨?_,⟨setRow_heap _ _ _ _ _ _ row1⟩,XA (hB.trans (hB1.mono hB.size)) (by omega) _⟩
 rw [setRow_other _ _ _ _ (by omega),hB1.block _ (by omega)];exact hR
theorem Jfj (r:ByteArray) (l:List UInt8) (n:Nat) (h:r.data.toList=l):(r.extract 0 n).data.toList=l.take n:=by
 subst h;simp [ByteArray.data_extract]
theorem Jfi (r:ByteArray) (l:List UInt8) (n m:Nat) (h:r.data.toList=l.drop m):(r.extract n r.size).data.toList=l.drop (m+n):=by
 have hz:r.size=r.data.toList.length:=by simp
 rw [ByteArray.data_extract,Array.toList_extract,List.extract_eq_take_drop,<-List.drop_drop,<-h]
 exact List.take_of_length_le (by rw [List.length_drop,<-hz];exact Nat.le_refl _)

theorem JfF (r:List UInt8) (n:Nat):(padL r n).length % 64=0:=by
 simp [padL,be8,zs];omega
theorem Jeq (q:ByteArray) (h:q.size=0):q.toList.isEmpty=true:=by
 have hl:q.data.toList.length=0:=by rw [<-h];simp
 rw [ByteArray.toList_eq,List.eq_nil_of_length_eq_zero hl];rfl
theorem Jdn (q:ByteArray) (h:0<q.size):q.toList.isEmpty=false:=by
 have hl:q.data.toList.length=q.size:=by simp
 rw [ByteArray.toList_eq]
 cases hx:q.data.toList with
 | nil=>rw [hx] at hl;simp at hl;omega
 | cons _ _=>rfl

theorem JlO (s:ByteArray) (w:World) (hs:s.size<1152921504606846976) (h7:13<w.heap.size) (hT:∀i,i<64->w.cell? ⟨13,i,none⟩=some (.int .u32 (Ks.getD i 0))):
  Calls prog 199 #[.string s] w λe w'=>e=.returned (.agg (arr8 (asB (shaS s.data.toList) 32)))/\Below w.heap.size w w':=by
 have HT:Hid _:=hT
 clear hT
 go_enter func199,ntmps199
 go_wp2
 go_loopw [4] (λv wr=>∃(k:Nat) (r:ByteArray),64 * k<=s.size/\v=.string r/\r.data.toList=s.data.toList.drop (64 * k)/\wr.heap[w.heap.size]? =some (.cells (arr8 []) 335)/\At8 wr (w.heap.size+1) (ZA k H0 s.data.toList)/\Below w.heap.size w wr) (λv _=>JeO v)
 case atStart=>exact ⟨0,s,by omega,rfl,rfl,heap_alloc2_old _ _ _,⟨heap_alloc2_new _ _ _⟩,((Below.refl _ _).alloc (Nat.le_refl _) _).alloc (by simp) _⟩
 case round=>
  obtain ⟨k,r,hk,rfl,hr,hR,hA,hB⟩:=hrel
  have hrs:r.size=s.size - 64 * k:=by
   have:r.data.toList.length=(s.data.toList.drop (64 * k)).length:=by rw [hr]
   simpa using this
  have hN:w.heap.size+1<wr.heap.size:=by
   have:=hA.row
   exact (Array.getElem?_eq_some_iff.1 this).1
  by_cases hlt:64 * (k+1)<=s.size
  ·have Hst:Hid (ZA (k+1) H0 s.data.toList=comp (ZA k H0 s.data.toList) ((s.data.toList.drop (64 * k)).take 64)):=rfl
   have Hrx:Hid ((r.extract 0 64).data.toList=(s.data.toList.drop (64 * k)).take 64/\(r.extract 64 (s.size - 64 * k)).data.toList=s.data.toList.drop (64 * (k+1))):=⟨Jfj r _ 64 hr,by rw [<-hrs,show 64 * (k+1)=64 * k+64 by omega];exact Jfi r _ 64 (64 * k) hr⟩
   generalize ZA k H0 s.data.toList=T0 at *
   have hrow:=hA.row
   have HR:Hid (_=_):=hrow
   have c0:wr.cell? ⟨w.heap.size+1,0,none⟩=some (.int .u32 T0.a):=cell_of_row _ _ _ _ _ _ hrow
   have c1:wr.cell? ⟨w.heap.size+1,1,none⟩=some (.int .u32 T0.b):=cell_of_row _ _ _ _ _ _ hrow
   have c2:wr.cell? ⟨w.heap.size+1,2,none⟩=some (.int .u32 T0.c):=cell_of_row _ _ _ _ _ _ hrow
   have c3:wr.cell? ⟨w.heap.size+1,3,none⟩=some (.int .u32 T0.d):=cell_of_row _ _ _ _ _ _ hrow
   have c4:wr.cell? ⟨w.heap.size+1,4,none⟩=some (.int .u32 T0.e):=cell_of_row _ _ _ _ _ _ hrow
   have c5:wr.cell? ⟨w.heap.size+1,5,none⟩=some (.int .u32 T0.f):=cell_of_row _ _ _ _ _ _ hrow
   have c6:wr.cell? ⟨w.heap.size+1,6,none⟩=some (.int .u32 T0.g):=cell_of_row _ _ _ _ _ _ hrow
   have c7:wr.cell? ⟨w.heap.size+1,7,none⟩=some (.int .u32 T0.h):=cell_of_row _ _ _ _ _ _ hrow
   have f0:∀j,wr.frozen? ⟨w.heap.size+1,j,none⟩=false:=λj=>frozen_of_row _ _ _ _ _ hrow
   have hge:(64:Int)<=(r.size:Int):=by omega
   have hx64:(r.extract 0 64).size=64:=by simp;omega
   have h7r:13<wr.heap.size:=by omega
   have HTr:Hid (∀i,i<64->wr.cell? ⟨13,i,none⟩=some (.int .u32 (Ks.getD i 0))):=λi hi=>by rw [hB.cell (p:=⟨13,i,none⟩) h7];exact HT.out i hi
   clear hrow
   go_wp2
   go_region_with (go_at_call 277;refine (Jfd T0 _ _ ?_ ?_ ?_).mono ?_;exact hx64;exact h7r;exact HTr.out;rintro _ w1 ⟨rfl,hB1⟩;have d0:=(hB1.cell (p:=⟨w.heap.size+1,0,none⟩) hN).trans c0;have d1:=(hB1.cell (p:=⟨w.heap.size+1,1,none⟩) hN).trans c1;have d2:=(hB1.cell (p:=⟨w.heap.size+1,2,none⟩) hN).trans c2;have d3:=(hB1.cell (p:=⟨w.heap.size+1,3,none⟩) hN).trans c3;have d4:=(hB1.cell (p:=⟨w.heap.size+1,4,none⟩) hN).trans c4;have d5:=(hB1.cell (p:=⟨w.heap.size+1,5,none⟩) hN).trans c5;have d6:=(hB1.cell (p:=⟨w.heap.size+1,6,none⟩) hN).trans c6;have d7:=(hB1.cell (p:=⟨w.heap.size+1,7,none⟩) hN).trans c7;have g0:∀j,w1.frozen? ⟨w.heap.size+1,j,none⟩=false:=λj=>(hB1.frozen (p:=⟨w.heap.size+1,j,none⟩) hN).trans (f0 j);generalize hC:comp T0 _=C;have HC:Hid (_=C):=hC;clear hC;have HB1:Hid _:=hB1;clear hB1;unfold S8.val)
   all_goals
    go_wp2
    go_roundw
    case rel=>
     obtain ⟨e1,e2,e3⟩:=Jb7 C hR hA hB ⟨HB1.out.os,HB1.out.tape,HB1.out.output,HB1.out.size,HB1.out.block⟩ hN
     exact ⟨k+1,_,hlt,rfl,Hrx.out.2,e1,by rw [Hst.out,<-Hrx.out.1,HC.out];exact e2,e3⟩
    case measure=>simp [JeO];omega
  ·have hr64:r.size<64:=by omega
   generalize hT0:ZA k H0 s.data.toList=T0 at *
   have HT0:Hid (_=T0):=hT0
   have Hr:Hid _:=hr
   have Hk:Hid (k=s.size / 64):=(by omega:k=s.size / 64)
   have hlt2:¬(64:Int)<=(r.size:Int):=by omega
   clear hT0 hr hlt
   go_wp2_with (go_at_call 278;refine (JlD r s.size _ hr64 hs).mono ?_;rintro _ w1 ⟨rfl,hB1⟩)
   have hR1:w1.heap[w.heap.size]? =some (.cells (arr8 []) 335):=(hB1.block _ (by omega)).trans hR
   have hA1:At8 w1 (w.heap.size+1) T0:=⟨(hB1.block _ hN).trans hA.row⟩
   have hB2:Below w.heap.size w w1:=hB.trans (hB1.mono hB.size)
   clear hR hA hB hB1 hN
   have HL:Hid ((padL r.data.toList s.size).length % 64=0):=JfF _ _
   generalize hP:padL r.data.toList s.size=PL at *
   have HP:Hid (_=PL):=hP
   clear hP
   go_loopw [4] (λv wr=>∃(j:Nat) (q:ByteArray),64 * j<=PL.length/\v=.string q/\q.data.toList=PL.drop (64 * j)/\wr.heap[w.heap.size]? =some (.cells (arr8 []) 335)/\At8 wr (w.heap.size+1) (ZA j T0 PL)/\Below w.heap.size w wr) (λv _=>JeO v)
   case atStart=>exact ⟨0,_,by omega,rfl,rfl,hR1,hA1,hB2⟩
   case round=>
    clear hR1 hA1 hB2
    obtain ⟨j,q,hj,rfl,hq,hR,hA,hB⟩:=hrel
    have hqs:q.size=PL.length - 64 * j:=by
     have:q.data.toList.length=(PL.drop (64 * j)).length:=by rw [hq]
     simpa using this
    have hN:w.heap.size+1<wr.heap.size:=(Array.getElem?_eq_some_iff.1 hA.row).1
    by_cases hlt:64 * (j+1)<=PL.length
    ·have Hst:Hid (ZA (j+1) T0 PL=comp (ZA j T0 PL) ((PL.drop (64 * j)).take 64)):=rfl
     have Hrx:Hid ((q.extract 0 64).data.toList=(PL.drop (64 * j)).take 64/\(q.extract 64 q.size).data.toList=PL.drop (64 * (j+1))):=⟨Jfj q _ 64 hq,by rw [show 64 * (j+1)=64 * j+64 by omega];exact Jfi q _ 64 (64 * j) hq⟩
     generalize ZA j T0 PL=T1 at *
     have hrow:=hA.row
     have c0:wr.cell? ⟨w.heap.size+1,0,none⟩=some (.int .u32 T1.a):=cell_of_row _ _ _ _ _ _ hrow
     have c1:wr.cell? ⟨w.heap.size+1,1,none⟩=some (.int .u32 T1.b):=cell_of_row _ _ _ _ _ _ hrow
     have c2:wr.cell? ⟨w.heap.size+1,2,none⟩=some (.int .u32 T1.c):=cell_of_row _ _ _ _ _ _ hrow
     have c3:wr.cell? ⟨w.heap.size+1,3,none⟩=some (.int .u32 T1.d):=cell_of_row _ _ _ _ _ _ hrow
     have c4:wr.cell? ⟨w.heap.size+1,4,none⟩=some (.int .u32 T1.e):=cell_of_row _ _ _ _ _ _ hrow
     have c5:wr.cell? ⟨w.heap.size+1,5,none⟩=some (.int .u32 T1.f):=cell_of_row _ _ _ _ _ _ hrow
     have c6:wr.cell? ⟨w.heap.size+1,6,none⟩=some (.int .u32 T1.g):=cell_of_row _ _ _ _ _ _ hrow
     have c7:wr.cell? ⟨w.heap.size+1,7,none⟩=some (.int .u32 T1.h):=cell_of_row _ _ _ _ _ _ hrow
     have f0:∀j,wr.frozen? ⟨w.heap.size+1,j,none⟩=false:=λj=>frozen_of_row _ _ _ _ _ hrow
     have hge:(64:Int)<=(q.size:Int):=by omega
     have hx64:(q.extract 0 64).size=64:=by simp;omega
     have h7r:13<wr.heap.size:=by omega
     have HTr:Hid (∀i,i<64->wr.cell? ⟨13,i,none⟩=some (.int .u32 (Ks.getD i 0))):=λi hi=>by rw [hB.cell (p:=⟨13,i,none⟩) h7];exact HT.out i hi
     have hne:q.toList.isEmpty=false:=Jdn q (by omega)
     clear hrow hq hqs
     go_wp2
     go_region_with (go_at_call 277;refine (Jfd T1 _ _ ?_ ?_ ?_).mono ?_;exact hx64;exact h7r;exact HTr.out;rintro _ w1 ⟨rfl,hB1⟩;have d0:=(hB1.cell (p:=⟨w.heap.size+1,0,none⟩) hN).trans c0;have d1:=(hB1.cell (p:=⟨w.heap.size+1,1,none⟩) hN).trans c1;have d2:=(hB1.cell (p:=⟨w.heap.size+1,2,none⟩) hN).trans c2;have d3:=(hB1.cell (p:=⟨w.heap.size+1,3,none⟩) hN).trans c3;have d4:=(hB1.cell (p:=⟨w.heap.size+1,4,none⟩) hN).trans c4;have d5:=(hB1.cell (p:=⟨w.heap.size+1,5,none⟩) hN).trans c5;have d6:=(hB1.cell (p:=⟨w.heap.size+1,6,none⟩) hN).trans c6;have d7:=(hB1.cell (p:=⟨w.heap.size+1,7,none⟩) hN).trans c7;have g0:∀j,w1.frozen? ⟨w.heap.size+1,j,none⟩=false:=λj=>(hB1.frozen (p:=⟨w.heap.size+1,j,none⟩) hN).trans (f0 j);generalize hC:comp T1 _=C;have HC:Hid (_=C):=hC;clear hC;have HB1:Hid _:=hB1;clear hB1;unfold S8.val)
     all_goals
      go_wp2
      go_roundw
      case rel=>
       obtain ⟨e1,e2,e3⟩:=Jb7 C hR hA hB ⟨HB1.out.os,HB1.out.tape,HB1.out.output,HB1.out.size,HB1.out.block⟩ hN
       exact ⟨j+1,_,hlt,rfl,Hrx.out.2,e1,by rw [Hst.out,<-Hrx.out.1,HC.out];exact e2,e3⟩
      case measure=>simp [JeO];omega
    ·have hLL:=HL.out
     have Hj:Hid (j=PL.length / 64):=(by omega:j=PL.length / 64)
     have hem:q.toList.isEmpty=true:=Jeq q (by omega)
     generalize hT1:ZA j T0 PL=T1 at *
     have HT1:Hid (_=T1):=hT1
     have hrow:=hA.row
     have c0:wr.cell? ⟨w.heap.size+1,0,none⟩=some (.int .u32 T1.a):=cell_of_row _ _ _ _ _ _ hrow
     have c1:wr.cell? ⟨w.heap.size+1,1,none⟩=some (.int .u32 T1.b):=cell_of_row _ _ _ _ _ _ hrow
     have c2:wr.cell? ⟨w.heap.size+1,2,none⟩=some (.int .u32 T1.c):=cell_of_row _ _ _ _ _ _ hrow
     have c3:wr.cell? ⟨w.heap.size+1,3,none⟩=some (.int .u32 T1.d):=cell_of_row _ _ _ _ _ _ hrow
     have c4:wr.cell? ⟨w.heap.size+1,4,none⟩=some (.int .u32 T1.e):=cell_of_row _ _ _ _ _ _ hrow
     have c5:wr.cell? ⟨w.heap.size+1,5,none⟩=some (.int .u32 T1.f):=cell_of_row _ _ _ _ _ _ hrow
     have c6:wr.cell? ⟨w.heap.size+1,6,none⟩=some (.int .u32 T1.g):=cell_of_row _ _ _ _ _ _ hrow
     have c7:wr.cell? ⟨w.heap.size+1,7,none⟩=some (.int .u32 T1.h):=cell_of_row _ _ _ _ _ _ hrow
     clear hrow hq hqs hT1 hLL hlt hj
     go_wp2_with fail
     refine (Jk4 T1 _).mono ?_
     rintro _ w1 ⟨rfl,hB1⟩
     have hG0:w1.heap[w.heap.size]? =some (.cells (arr8 []) 335):=(hB1.block _ (by omega)).trans hR
     have hBf:Below w.heap.size w w1:=hB.trans (hB1.mono hB.size)
     clear hB1 c0 c1 c2 c3 c4 c5 c6 c7 hR hA hB
     have hA32:(arr8 (asB T1 32)).size=32:=Jbx _ (by rw [YY];omega)
     have hA1:(arr8 (asB T1 32)).all (·.oneCell')=true:=Jcu _
     have HE:Hid (arr8 (asB T1 32)=arr8 (asB (shaS s.data.toList) 32)):=by
      show _=_
      rw [<-HT1.out,Hj.out,<-HP.out,Hr.out,<-HT0.out,Hk.out]
      simp [shaS]
     generalize arr8 (asB T1 32)=A at *
     have hi:(prog.info? 335).map (·.size)=some A.size:=by rw [hA32];kernel_rfl
     go_wp2_with (refine wpList_store_row rfl 335 _ _ rfl w.heap.size A rfl rfl 335 (arr8 []) hG0 hi (by rw [hA32];rfl) hA1 ?_)
     refine bodyPost_ret (v:=.agg A) (results_cell_row results199 _ _ w.heap.size 335 A (0,0) (.array 32 5) rfl (setRow_heap _ _ _ _ _ _ hG0) underlying335 rfl hi) rfl ⟨by rw [HE.out],XA hBf (Nat.le_refl _) _⟩

def digL (l:List UInt8):List UInt8:=(asB (shaS l) 32).map λx=>UInt8.ofNat x.toNat
theorem Jej (x:Int) (j:Nat):0<=Jby x j/\Jby x j<256:=⟨Int.emod_nonneg _ (by omega),Int.emod_lt_of_pos _ (by omega)⟩
theorem JhF (s:S8) (k:Nat):∀x∈asB s k,0<=x/\x<256:=by
 induction k with
 | zero=>intro x hx;cases hx
 | succ k ih=>
  intro x hx
  simp only [asB,List.mem_append,List.mem_singleton] at hx
  rcases hx with hx | rfl
  ·exact ih x hx
  ·exact Jej _ _
theorem JbV (l:List UInt8):(digL l).length=32:=by simp [digL,YY]
theorem Jgg (L:List Int) (j:Nat) (hr:∀x∈L,0<=x/\x<256) (h:j<(L.map λx=>UInt8.ofNat x.toNat).length):(arr8 L)[j]? =some (.int .u8 ((L.map λx=>UInt8.ofNat x.toNat)[j].toNat:Int)):=by
 have hj':j<L.length:=by simpa using h
 rw [Jjs _ _ hj']
 have hr:=hr _ (List.getElem_mem hj')
 simp only [List.getElem_map,List.getD_eq_getElem?_getD,List.getElem?_eq_getElem hj',Option.getD_some,UInt8.toNat_ofNat']
 congr 2
 omega
theorem JhP (l:List UInt8) (j:Nat) (h:j<(digL l).length):(arr8 (asB (shaS l) 32))[j]? =some (.int .u8 ((digL l)[j].toNat:Int)):=
 Jgg (asB (shaS l) 32) j (JhF _ _) h

theorem Jkh (n:Nat) (s:ByteArray) (w:World) (h1:1<=n) (h32:n<=32) (hs:s.size<1152921504606846976) (h7:13<w.heap.size) (hT:∀i,i<64->w.cell? ⟨13,i,none⟩=some (.int .u32 (Ks.getD i 0))):
  Calls prog 130 #[.int .i64 (n:Int),.string s] w λe w'=>e=.returned (.string ⟨((digL s.data.toList).take n).toArray⟩)/\Below w.heap.size w w':=by
 have HT:Hid _:=hT
 clear hT
 go_enter func130,ntmps130
 go_wp2_with fail
 refine (JlO s _ hs h7 HT.out).mono ?_
 rintro _ w1 ⟨rfl,hB⟩
 have hA32:(arr8 (asB (shaS s.data.toList) 32)).size=32:=Jbx _ (by rw [YY];omega)
 have hA1:(arr8 (asB (shaS s.data.toList) 32)).all (·.oneCell')=true:=Jcu _
 have HC:Hid (∀j (hj:j<(digL s.data.toList).length),(arr8 (asB (shaS s.data.toList) 32))[j]? =some (.int .u8 ((digL s.data.toList)[j].toNat:Int))):=λj hj=>JhP _ j hj
 generalize arr8 (asB (shaS s.data.toList) 32)=A at *
 have hi:(prog.info? 335).map (·.size)=some A.size:=by rw [hA32];kernel_rfl
 have hBc:∀o,Below w.heap.size w ((w1.alloc o).setRow w1.heap.size A):=λo=>XA (hB.alloc hB.size _) hB.size _
 have hconv:∀C,(convert 52 9 (.slice (some ⟨w1.heap.size,0,none⟩) n 32)).run prog ((w1.alloc (.cells C 335)).setRow w1.heap.size A)=.ok (.string ⟨((digL s.data.toList).take n).toArray⟩) ((w1.alloc (.cells C 335)).setRow w1.heap.size A):=by
  intro C
  have hrow:((w1.alloc (.cells C 335)).setRow w1.heap.size A).heap[w1.heap.size]? =some (.cells A 335):=setRow_heap _ _ _ _ _ _ (heap_alloc_new _ _)
  have hl:((digL s.data.toList).take n).length=n:=by rw [List.length_take,JbV];omega
  have:=run_convert_bytes_back (P:=prog) ((w1.alloc (.cells C 335)).setRow w1.heap.size A) 52 9 5 ⟨w1.heap.size,0,none⟩ 32 ((digL s.data.toList).take n) underlying52 underlying5 underlying9 (λj hj=>by
   rw [Addr.add_lit,Nat.zero_add,cell_of_row _ _ _ _ _ _ hrow]
   have hj2:j<(digL s.data.toList).length:=by rw [List.length_take] at hj;omega
   rw [HC.out j hj2]
   simp)
  rw [hl] at this
  exact this
 have h32i:(n:Int)<=32:=by omega
 have h32:¬32=0:=by omega
 go_wp2_with (refine wpList_store_row rfl 335 _ _ rfl w1.heap.size A rfl rfl 335 _ (heap_alloc_new _ _) hi (by rw [hA32];rfl) hA1 ?_)
 all_goals go_ret
 all_goals exact ⟨rfl,hBc _⟩

theorem Zt (n:Nat) (w:World) (h1:1<=n) (h32:n<=32):
  Calls prog 124 #[.int .i64 (n:Int)] w λe w'=>e=.returned .nilIface/\w=w':=by
 have a1:¬(n:Int)<1:=by omega
 have a2:¬(32:Int)<(n:Int):=by omega
 go_enter func124,ntmps124
 go_wp2
 go_ret
 exact ⟨rfl,rfl⟩
theorem JhQ (n:Nat) (s:ByteArray) (w:World) (h1:1<=n) (h32:n<=32) (hs:s.size<1152921504606846976) (h7:13<w.heap.size) (hT:∀i,i<64->w.cell? ⟨13,i,none⟩=some (.int .u32 (Ks.getD i 0))):
  Calls prog 73 #[.int .i64 (n:Int),.string s] w λe w'=>e=.returned (.tuple #[.string ⟨((digL s.data.toList).take n).toArray⟩,.int .i64 0])/\Below w.heap.size w w':=by
 have HT:Hid _:=hT
 clear hT
 go_enter func73,ntmps73
 go_wp2_with fail
 refine (Zt n _ h1 h32).mono ?_
 rintro _ _ ⟨rfl,rfl⟩
 go_wp2_with fail
 refine (Jkh n s _ h1 h32 hs h7 HT.out).mono ?_
 rintro _ w1 ⟨rfl,hB⟩
 go_wp2
 go_ret2
 exact ⟨rfl,hB⟩

def dgW (wd:Nat) (l:List UInt8):ByteArray:=⟨((digL l).take wd).toArray⟩
theorem Jr (wd:Nat) (hw:wd<=32) (l:List UInt8):(dgW wd l).size=wd:=by
 show ((digL l).take wd).toArray.size=wd
 simp [JbV];omega
