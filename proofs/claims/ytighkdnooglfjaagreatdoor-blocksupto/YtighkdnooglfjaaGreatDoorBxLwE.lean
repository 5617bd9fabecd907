import Derived.Test.YtighkdnooglfjaaGreatDoorBxLwA
namespace Go.Proofs.YtighkdnooglfjaaGreatDoor
open Tryz
set_option maxRecDepth 100000
set_option maxHeartbeats 1000000
open Go.RowKit

abbrev behB:BA:=⟨#[98,101,104,105,110,100]⟩
theorem Yg (i:Int) (w:World):Calls prog 265 #[.int .i64 i] w λe w'=>e=.returned (.agg #[.string behB,.int .i64 (wrap64 (wrap64 (-i) - 1))])/\Tch NoB w w':=by
 generalize hz:wrap64 (wrap64 (-i) - 1)=z
 go_enter func265,ntmps265
 go_wp2
 refine QK (v:=.agg #[.string behB,.int .i64 _]) (Qq results265 _ _ w.heap.size _ _ (0,0) _ rfl (Qf _ _) underlying49 rfl (by kernel_rfl)) rfl ⟨?_,Ta _ _ _⟩
 rw [<-hz]
def behC (i:Nat):VV:=(.string behB,.int .i64 (-(i:Int) - 1))
def Yw:List VV:=(List.range 8).map behC
theorem Je8 {B:Nat} (w:World) (v:Value) (l:List VV) (hl:l.length<=1000000) (hv:VR B w v l) (hs:∀x∈l,ShC x):
  Calls prog 264 #[v] w λe w'=>∃g,e=.returned (.slice (some ⟨g,0,none⟩) (l.length+8) (l.length+8))/\w.heap.size<=g/\w'.heap[g]? =some (.cells (vvA (l++Yw)) 49)/\Tch NoB w w':=by
 obtain ⟨ia,ic,hvs⟩:=hv.shape
 have hmk:=mkV isC (l.length+8) (by omega) w
 have hrow0:=Qf w (.cells (vvA (List.replicate (l.length+8) zC)) 49)
 obtain ⟨r,hcp⟩:=JgL isC (k:=8) hs (hv.tch (Ta NoB w (.cells (vvA (List.replicate (l.length+8) zC)) 49)) noE) hrow0
 have wn:IntKind.i64.wrap ((l.length:Int)+8)=((l.length+8:Nat):Int):=by rw [w63 _ (by omega) (by omega)];omega
 obtain ⟨L0,hL0⟩:∃L0,l++List.replicate 8 zC=L0:=⟨_,rfl⟩
 have hcp':∀ty,(Builtin.copy_ #[96,96] ty #[.slice (some ⟨w.heap.size,0,none⟩) (l.length+8) (l.length+8),v]).run prog (w.alloc (.cells (vvA (List.replicate (l.length+8) zC)) 49))=.ok (.int .i64 r) ((w.alloc (.cells (vvA (List.replicate (l.length+8) zC)) 49)).setRow w.heap.size (vvA L0)):=by rw [<-hL0];exact hcp
 have HL0:Hid (l++List.replicate 8 zC=L0):=hL0
 clear hcp hL0
 subst hvs
 generalize hln:l.length=n at *
 generalize hmm:n+8=m at *
 have HR0:Hid ((w.alloc _).heap[w.heap.size]? =_):=hrow0
 have HLN:Hid (l.length=n/\n+8=m):=⟨hln,hmm⟩
 have hm2:(n:Int)+8<=(m:Int):=by omega
 have hm3:(m:Int)<=1000008:=by omega
 clear hln hv hs hmm
 go_enter func264,ntmps264
 go_wp2
 have HB:Hid (∀(k:Nat) V,k<8->Calls prog 265 #[.int .i64 (k:Int)] V λe w'=>e=.returned (.agg #[.string behB,.int .i64 (-(k:Int) - 1)])/\Tch NoB V w'):=λk V hk=>by
  have:=Yg (k:Int) V
  rw [show wrap64 (wrap64 (-(k:Int)) - 1)= -(k:Int) - 1 by unfold wrap64;omega] at this
  exact this
 go_loopw [4] (λi wr=>∃k:Nat,k<=8/\i=.int .i64 k/\Hid (wr.heap[w.heap.size]? =some (.cells (vvA (l++(List.range k).map behC++List.replicate (8 - k) zC)) 49))/\Hid (Tch NoB w wr)) (λi _=>8 - (intOf i).toNat)
 case atStart=>
  refine ⟨0,by omega,rfl,by show _=_;rw [show l++List.map behC (List.range 0)++List.replicate (8 - 0) zC=L0 by rw [<-HL0.o];simp];exact Qi _ _ _ _ _ _ HR0.o,?_⟩
  exact (Ta NoB w _).trans (Ts _ _ _) (λj hj=>.inr (by rw [hj];exact Ql _))
 case round=>
  obtain ⟨k,hk,rfl,HR,HT⟩:=hrel
  by_cases hlt:k<8
  ·have hlti:(k:Int)<8:=by omega
   obtain ⟨q,hq⟩:∃q:Nat,n+k=q:=⟨_,rfl⟩
   have wq:IntKind.i64.wrap ((n:Int)+(k:Int))=(q:Int):=by rw [w63 _ (by omega) (by omega)];omega
   have hqm:(q:Int)<(m:Int):=by omega
   have HQ:Hid (n+k=q):=hq
   have HBk:Hid (∀V,Calls prog 265 #[.int .i64 (k:Int)] V λe w'=>e=.returned (.agg #[.string behB,.int .i64 (-(k:Int) - 1)])/\Tch NoB V w'):=λV=>HB.o k V hlt
   have HLL:Hid (q<(l++(List.range k).map behC++List.replicate (8 - k) zC).length):=by
    show q<List.length _
    simp only [Qe,QM,List.length_range,List.length_replicate]
    have:=HLN.o.1
    omega
   obtain ⟨z,hz⟩:∃z:Int, -(k:Int) - 1=z:=⟨_,rfl⟩
   rw [hz] at HBk
   have HZ:Hid (-(k:Int) - 1=z):=hz
   clear hz hq
   go_wp2_with (go_at_call 265;refine (HBk.o _).mono ?_;rintro _ w2 ⟨rfl,ht2⟩;have HT2:Hid (Tch NoB wr w2):=ht2;have HR2:Hid (w2.heap[w.heap.size]? =some (.cells (vvA (l++(List.range k).map behC++List.replicate (8 - k) zC)) 49)):=(HT2.o.block _ (Jb HR.o) (λh=>h)).trans HR.o;obtain ⟨f0,f1⟩:=Xf HR2.o _ (Qd HLL.o);have fz:=Yr HR2.o;clear ht2)
   obtain ⟨p1,p2⟩:=JbE HR2.o HLL.o (.string behB) (.int .i64 z)
   go_roundw
   case rel=>
    refine ⟨k+1,by omega,by go_num,?_,?_⟩
    ·show _=_
     rw [p1]
     congr 2
     have h1:=HLN.o.1
     have h2:=HQ.o
     have h3:=HZ.o
     rw [<-h2,<-h1,Qs,List.set_append_right _ _ (by omega),Qs,List.set_append_right _ _ (by simp)]
     rw [show 8 - k=(8 - (k+1))+1 by omega,List.replicate_succ,List.range_succ,List.map_append,Qs]
     simp only [QM,List.length_range,Nat.add_sub_cancel_left,Nat.sub_self,Qb,List.map_cons,List.map_nil,List.cons_append,List.nil_append]
     rw [<-h3]
     rfl
    ·exact (HT.o.trans HT2.o (λ_ h=>.inl h)).trans p2 (λj hj=>.inr (by rw [hj];exact Ql _))
   case measure=>simp [intOf];omega
  ·obtain rfl:k=8:=by omega
   have hge:¬((8:Nat):Int)<8:=by omega
   go_wp2
   go_ret
   refine ⟨w.heap.size,rfl,Ql _,?_,HT.o⟩
   have:=HR.o
   simp only [Nat.sub_self,List.replicate_zero,QC] at this
   exact this
abbrev othB:BA:=⟨#[111,116,104,101,114]⟩
abbrev qC:VV:=(.string othB,.int .i64 99)
theorem Je7 {B:Nat} (w:World) (g:Nat) (v:Value) (l:List VV) (hl:l.length<=1000000) (hv:VR B w v l) (hg:B<=g) (hs:∀x∈l,ShC x) (hrow:w.heap[g]? =some (.cells (vvA (l++Yw)) 49)):
  Calls prog 267 #[.slice (some ⟨g,0,none⟩) (l.length+8) (l.length+8),v] w λe w'=>e=.returned (.bool true)/\w'.heap[g]? =some (.cells (vvA (List.replicate (l.length+8) qC)) 49)/\Tch (λk=>k=g) w w':=by
 have HSH:Hid (∀x∈l++Yw,ShC x):=λx hx=>by
  rcases QE.1 hx with h | h
  ·exact hs x h
  ·obtain ⟨k,_,rfl⟩:=QL.1 h
   exact ⟨_,_,rfl⟩
 have HLL:Hid ((l++Yw).length=l.length+8):=by show List.length _=_;rw [Qe];rfl
 obtain ⟨ia,ic,hvs⟩:=hv.shape
 subst hvs
 generalize hln:l.length=n at *
 generalize hmm:n+8=m at *
 have HLN:Hid (l.length=n/\n+8=m):=⟨hln,hmm⟩
 have hm2:(n:Int)+8<=(m:Int):=by omega
 have hm3:(m:Int)<=1000008:=by omega
 have HV:Hid (VR B w (.slice ia n ic) l):=hv
 have HG:Hid (B<=g):=hg
 have HR0:Hid (w.heap[g]? =_):=hrow
 clear hln hv hs hmm hg hrow
 go_enter func267,ntmps267
 go_wp2
 go_loopw [5,6] (λok i wr=>∃k:Nat,k<=m/\ok=.bool true/\i=.int .i64 k/\Hid (wr.heap[g]? =some (.cells (vvA (List.replicate k qC++(l++Yw).drop k)) 49))/\Hid (Tch (λk=>k=g) w wr)) (λ_ i _=>m - (intOf i).toNat)
 case atStart=>exact ⟨0,by omega,rfl,rfl,by show _=_;rw [List.replicate_zero,List.nil_append,List.drop_zero];exact HR0.o,Te _ _⟩
 case round=>
  obtain ⟨k,hk,rfl,rfl,HR,HT⟩:=hrel
  by_cases hlt:k<m
  ·have hlti:(k:Int)<(m:Int):=by omega
   have HKL:Hid (k<(l++Yw).length):=by show k<List.length _;rw [HLL.o];exact hlt
   obtain ⟨x,hx⟩:∃x,(l++Yw)[k]? =some x:=⟨_,Qd HKL.o⟩
   obtain ⟨xa,xo,rfl⟩:=HSH.o x (QT hx)
   have HX:Hid ((l++Yw)[k]? =some (.string xa,.int .i64 xo)):=hx
   have HRK:Hid ((List.replicate k qC++(l++Yw).drop k)[k]? =some (.string xa,.int .i64 xo)):=by
    show _=_
    rw [Qz (by simp),List.length_replicate,Nat.sub_self,List.getElem?_drop,Nat.add_zero]
    exact hx
   clear hx
   obtain hkn | hkn:=Nat.lt_or_ge k n
   case' inl=>
    have hkni:(k:Int)<(n:Int):=by omega
    obtain ⟨gi,oi,rfl,hgi,HCE⟩:∃gi oi,ia=some ⟨gi,oi,none⟩/\gi ≠ g/\Hid (∀V,Tch (λk=>k=g) w V->V.cell? ⟨gi,oi+k * 2,none⟩=some (.string xa)/\V.cell? ⟨gi,oi+k * 2+1,none⟩=some (.int .i64 xo)):=by
     rcases HV.o with ⟨e,e2⟩ | ⟨gi,oi,c,e,hgB,hgi,hcell⟩
     ·rw [e2] at HLN;have:=HLN.o.1;simp at this;omega
     ·simp only [Qy] at e
      have h2:k<l.length:=by rw [HLN.o.1];exact hkn
      have h3:l[k]=(.string xa,.int .i64 xo):=by
       have:=HX.o
       rw [QF h2,Qd h2] at this
       exact Option.some.inj this
      have h4:=hcell k h2
      rw [h3] at h4
      have hgg:gi ≠ g:=by have:=HG.o;omega
      refine ⟨gi,oi,e.1,hgg,λV hV=>?_⟩
      rw [hV.cell (p:=⟨gi,oi+k * 2,none⟩) hgi hgg,hV.cell (p:=⟨gi,oi+k * 2+1,none⟩) hgi hgg]
      exact h4
    go_upto_region 7 with (go_at_call 265;refine (Yg _ _).mono ?_;rintro _ w2 ⟨rfl,ht2⟩;have HT2:Hid (Tch NoB wr w2):=ht2;clear ht2)
    generalize wrap64 (wrap64 (-((k:Int) - (n:Int))) - 1)=p
    obtain ⟨w3,hw3⟩:∃w3,w3=w2.alloc (.cells #[.string behB,.int .i64 p] 49):=⟨_,rfl⟩
    have h3:w3.heap[w2.heap.size]? =some (.cells #[.string behB,.int .i64 p] 49):=by rw [hw3];exact Qf _ _
    have HT3:Hid (Tch NoB wr w3):=HT2.o.trans (by rw [hw3];exact Ta NoB _ _) (λ_ h=>.inl h)
    have HXB:Hid (wr.heap.size<=w2.heap.size):=HT2.o.size
    rw [<-hw3]
    clear hw3
    generalize w2.heap.size=xb at *
    obtain ⟨p1,p2⟩:=JcC h3 (.string xa) (.int .i64 xo)
    have b0:w3.cell? ⟨xb,0,none⟩=some (.string behB):=Ja h3
    have b1:w3.cell? ⟨xb,1,none⟩=some (.int .i64 p):=Ja h3
    have bf:∀j,w3.frozen? ⟨xb,j,none⟩=false:=λj=>Qg _ _ _ _ _ h3
    obtain ⟨q0,q1⟩:=HCE.o w3 (HT.o.trans HT3.o noE)
    have HTX:Hid (Tch NoB wr ((w3.setCell ⟨xb,0,none⟩ (.string xa)).setCell ⟨xb,1,none⟩ (.int .i64 xo))):=HT3.o.trans p2 (λj hj=>.inr (by rw [hj];exact HXB.o))
    have HBX:Hid (((w3.setCell ⟨xb,0,none⟩ (.string xa)).setCell ⟨xb,1,none⟩ (.int .i64 xo)).heap[xb]? =some (.cells #[.string xa,.int .i64 xo] 49)):=p1
    clear p1 p2 h3
    go_upto_region 8 with fail
    generalize (w3.setCell ⟨xb,0,none⟩ (.string xa)).setCell ⟨xb,1,none⟩ (.int .i64 xo)=wx at *
    clear b0 b1 bf q0 q1 hkni
   case' inr=>
    have hkni:¬(k:Int)<(n:Int):=by omega
    obtain ⟨hxa,hxo⟩:xo= -((k - n:Nat):Int) - 1/\xa=behB:=by
     have h2:=HX.o
     rw [Qz (by rw [HLN.o.1];exact hkn),HLN.o.1] at h2
     have h4:=HLN.o.2
     have h3:Yw[k - n]? =some (behC (k - n)):=by
      unfold Yw
      rw [List.getElem?_map,List.getElem?_range (by omega)]
      rfl
     rw [h3] at h2
     simp only [behC,Qh,Qw,Value.int.injEq,Value.string.injEq,true_and] at h2
     exact ⟨h2.2.symm,h2.1.symm⟩
    have hwr:wrap64 (wrap64 (-((k:Int) - (n:Int))) - 1)=xo:=by
     rw [hxa]
     unfold wrap64
     omega
    have HXO:Hid (xa=behB):=hxo
    clear hxa hxo
    go_upto_region 8 with (go_at_call 265;refine (Yg _ _).mono ?_;rintro _ w2 ⟨rfl,ht2⟩;have HT2:Hid (Tch NoB wr w2):=ht2;clear ht2)
    obtain ⟨wx,hw3⟩:∃w3,w3=w2.alloc (.cells #[.string behB,.int .i64 xo] 49):=⟨_,rfl⟩
    have HBX:Hid (wx.heap[w2.heap.size]? =some (.cells #[.string xa,.int .i64 xo] 49)):=by rw [hw3,HXO.o];exact Qf _ _
    have HTX:Hid (Tch NoB wr wx):=HT2.o.trans (by rw [hw3];exact Ta NoB _ _) (λ_ h=>.inl h)
    have HXB:Hid (wr.heap.size<=w2.heap.size):=HT2.o.size
    rw [<-hw3]
    clear hw3 hwr hkni
    generalize w2.heap.size=xb at *
   all_goals
    have HRX:Hid (wx.heap[g]? =some (.cells (vvA (List.replicate k qC++(l++Yw).drop k)) 49)):=(HTX.o.block _ (Jb HR.o) (λh=>h)).trans HR.o
    obtain ⟨s0,s1⟩:=Xf HRX.o _ HRK.o
    have b0:=cell_of_row wx xb 0 _ _ _ HBX.o
    have b1:=cell_of_row wx xb 1 _ _ _ HBX.o
    simp only [List.getElem?_toArray,List.getElem?_cons_zero,List.getElem?_cons_succ] at b0 b1
    go_cut [5] (λv5 wy=>v5=.bool true/\Hid (Tch NoB wx wy))
    case first=>
     go_region_held3 (λV=>V.cell? ⟨g,k * 2,none⟩=some (.string xa)/\V.cell? ⟨g,k * 2+1,none⟩=some (.int .i64 xo)/\V.cell? ⟨xb,0,none⟩=some (.string xa)/\V.cell? ⟨xb,1,none⟩=some (.int .i64 xo)) (go_keep) (fail)
     all_goals
      go_wp2
      go_meet
      exact ⟨rfl,Td _ _ 1⟩
    case rest=>
    obtain ⟨rfl,HTY⟩:=hcut
    obtain ⟨wy,hwy⟩:∃wy,wy=wc:=⟨wc,rfl⟩
    subst hwy
    clear s0 s1 b0 b1
    have HRY:Hid (wy.heap[g]? =some (.cells (vvA (List.replicate k qC++(l++Yw).drop k)) 49)):=(HTY.o.block _ (Jb HRX.o) (λh=>h)).trans HRX.o
    obtain ⟨s0,s1⟩:=Xf HRY.o _ HRK.o
    have fz:=Yr HRY.o
    obtain ⟨p1,p2⟩:=JbE HRY.o (Qo.1 HRK.o).1 (.string othB) (.int .i64 99)
    have HP1:Hid (_=some (Obj.cells _ _)):=p1
    have HP2:Hid (Tch _ wy _):=p2
    clear p1 p2
    go_wp2
    go_roundw
    case rel=>
     refine ⟨k+1,by omega,rfl,by go_num,?_,?_⟩
     ·show _=_
      rw [HP1.o]
      congr 2
      have h1:=HKL.o
      rw [List.set_append_right _ _ (by simp),List.length_replicate,Nat.sub_self,List.drop_eq_getElem_cons h1,Qb,List.replicate_succ',Qs]
      rfl
     ·exact ((HT.o.trans HTX.o noE).trans HTY.o noE).trans HP2.o (λj hj=>.inl hj)
    case measure=>simp [intOf];omega
  ·obtain rfl:k=m:=by omega
   have hge:¬(k:Int)<(k:Int):=by omega
   go_wp2
   go_ret
   refine ⟨rfl,?_,HT.o⟩
   have h1:=HR.o
   rw [List.drop_eq_nil_of_le (by rw [HLL.o];exact Ql _),QC] at h1
   exact h1

def sV1 (s:Sl):Value:=.slice s.1 s.2.1 s.2.2
structure TxV (B:Nat) (w:World) (v:Value) (n:Nat) (sl:Nat->Sl×Sl) (c o:Nat->List VV):Prop where
 at':VR B w v ((List.range n).map λi=>encT (sl i))
 ins:∀i,i<n->VR B w (sV1 (sl i).1) (c i)/\(∀x∈c i,ShC x)/\(c i).length<=1000000
 outs:∀i,i<n->VR B w (sV1 (sl i).2) (o i)/\(∀x∈o i,ShO x)/\(o i).length<=1000000
theorem TxV.tch {B:Nat} {w w':World} {v:Value} {n:Nat} {sl:Nat->Sl×Sl} {c o:Nat->List VV} {S:Nat->Prop} (h:TxV B w v n sl c o) (k:Tch S w w') (hs:∀j,S j->B<=j):TxV B w' v n sl c o:=
 ⟨h.at'.tch k hs,λi hi=>⟨(h.ins i hi).1.tch k hs,(h.ins i hi).2⟩,λi hi=>⟨(h.outs i hi).1.tch k hs,(h.outs i hi).2⟩⟩
theorem TxV.shape {B:Nat} {w:World} {v:Value} {n:Nat} {sl:Nat->Sl×Sl} {c o:Nat->List VV} (h:TxV B w v n sl c o):∃a cap,v=.slice a n cap:=by
 obtain ⟨a,cap,e⟩:=h.at'.shape
 rw [QM,List.length_range] at e
 exact ⟨a,cap,e⟩
theorem TxV.cell {B:Nat} {w:World} {a:Option Addr} {cap:Nat} {n:Nat} {sl:Nat->Sl×Sl} {c o:Nat->List VV} (h:TxV B w (.slice a n cap) n sl c o) (i:Nat) (hi:i<n):∃gi oi,a=some ⟨gi,oi,none⟩/\gi<B/\gi<w.heap.size/\w.cell? ⟨gi,oi+i * 2,none⟩=some (sV1 (sl i).1)/\w.cell? ⟨gi,oi+i * 2+1,none⟩=some (sV1 (sl i).2):=by
 rcases h.at' with ⟨_,e2⟩ | ⟨gi,oi,cc,e,h1,h2,h3⟩
 ·have:=congrArg List.length e2;simp at this;omega
 ·simp only [Qy] at e
  have:=h3 i (by simpa using hi)
  simp only [List.getElem_map,List.getElem_range] at this
  exact ⟨gi,oi,e.1,h1,h2,this⟩
theorem TxV.lens {B:Nat} {w:World} {v:Value} {n:Nat} {sl:Nat->Sl×Sl} {c o:Nat->List VV} (h:TxV B w v n sl c o) (i:Nat) (hi:i<n):(sl i).1.2.1=(c i).length/\(sl i).2.2.1=(o i).length:=by
 obtain ⟨a,k,e⟩:=(h.ins i hi).1.shape
 obtain ⟨a',k',e'⟩:=(h.outs i hi).1.shape
 unfold sV1 at e e'
 simp only [Qy] at e e'
 exact ⟨e.2.1,e'.2.1⟩
def inV (c:Nat->List VV) (ga:Nat->Nat) (i:Nat):Value:=.slice (some ⟨ga i,0,none⟩) ((c i).length+8) ((c i).length+8)
def txE (c o:Nat->List VV) (ga gb:Nat->Nat) (i:Nat):VV:=(.slice (some ⟨ga i,0,none⟩) (c i).length ((c i).length+8),.slice (some ⟨gb i,0,none⟩) (o i).length ((o i).length+8))
def ZU (hb:Nat->Nat) (i:Nat):VV:=(.slice (some ⟨hb i,0,none⟩) 1 1,.slice none 0 0)
structure LC (base:Nat) (w:World) (f k:Nat) (c o:Nat->List VV) (ga gb:Nat->Nat):Prop where
 rowC:∀i,f<=i->i<k->base<=ga i/\w.heap[ga i]? =some (.cells (vvA (c i++Yw)) 49)
 rowO:∀i,f<=i->i<k->base<=gb i/\w.heap[gb i]? =some (.cells (vvA (o i++Xw)) 80)
 incC:∀i j,i<j->j<k->ga i<ga j
 incO:∀i j,i<j->j<k->gb i<gb j
theorem LC.tch {base : Nat} {w w' : World} {f k : Nat} {c o : Nat -> List VV} {ga gb : Nat -> Nat} {S : Nat -> Prop} (h : LC base w f k c o ga gb) (t : Tch S w w') (hs : ∀ j cs m, w.heap[j]? = some (.cells cs 49 m) \/ w.heap[j]? = some (.cells cs 80 m) -> ¬ S j) : LC base w' f k c o ga gb :=
  ⟨λi h1 h2 => ⟨(h.rowC i h1 h2).1, (t.block _ (QJ.1 (h.rowC i h1 h2).2).1 (hs _ _ _ (.inl (h.rowC i h1 h2).2))).trans (h.rowC i h1 h2).2⟩,
   λi h1 h2 => ⟨(h.rowO i h1 h2).1, (t.block _ (QJ.1 (h.rowO i h1 h2).2).1 (hs _ _ _ (.inr (h.rowO i h1 h2).2))).trans (h.rowO i h1 h2).2⟩, h.incC, h.incO⟩
theorem Jai {α:Type} {f f':Nat->α} {k:Nat} (h:∀i,i<k->f' i=f i):(List.range (k+1)).map f'=(List.range k).map f++[f' k]:=by
 rw [List.range_succ,List.map_append,List.map_cons,List.map_nil]
 congr 1
 exact List.map_congr_left (λi hi=>h i (List.mem_range.1 hi))
def upd (f:Nat->Nat) (k g:Nat):Nat->Nat:=λj=>if j=k then g else f j
theorem Yj {f:Nat->Nat} {k g i:Nat} (h:i<k):upd f k g i=f i:=if_neg (by omega)
theorem Ze {f:Nat->Nat} {k g:Nat}:upd f k g k=g:=if_pos rfl
theorem LC.more {base:Nat} {w:World} {k:Nat} {c o:Nat->List VV} {ga gb:Nat->Nat} {g g':Nat} (h:LC base w 0 k c o ga gb) (h1:base<=g/\w.heap[g]? =some (.cells (vvA (c k++Yw)) 49)) (h2:base<=g'/\w.heap[g']? =some (.cells (vvA (o k++Xw)) 80)) (h3:∀i,i<k->ga i<g) (h4:∀i,i<k->gb i<g'):LC base w 0 (k+1) c o (upd ga k g) (upd gb k g'):=by
 refine ⟨λi _ hi=>?_,λi _ hi=>?_,λi j hij hj=>?_,λi j hij hj=>?_⟩
 ·by_cases e:i=k
  ·rw [e,Ze];exact h1
  ·rw [Yj (by omega)];exact h.rowC i (by omega) (by omega)
 ·by_cases e:i=k
  ·rw [e,Ze];exact h2
  ·rw [Yj (by omega)];exact h.rowO i (by omega) (by omega)
 ·by_cases e:j=k
  ·rw [e,Ze,Yj (by omega)];exact h3 i (by omega)
  ·rw [Yj (show i<k by omega),Yj (show j<k by omega)];exact h.incC i j hij (by omega)
 ·by_cases e:j=k
  ·rw [e,Ze,Yj (by omega)];exact h4 i (by omega)
  ·rw [Yj (show i<k by omega),Yj (show j<k by omega)];exact h.incO i j hij (by omega)
structure Lnd (base:Nat) (w:World) (nb gt m:Nat) (vi vo:Value) (T:List VV) (LI LO:List Value):Prop where
 row:w.heap[nb]? =some (.cells #[.slice (some ⟨gt,0,none⟩) m m,vi,vo] 311)
 txs:w.heap[gt]? =some (.cells (vvA T) 98)
 ins:VOwn 96 base w vi LI
 outs:VOwn 22 base w vo LO
 low:base<=nb/\base<=gt
theorem Lnd.tch0 {base:Nat} {w w':World} {nb gt m:Nat} {vi vo:Value} {T:List VV} {LI LO:List Value} (h:Lnd base w nb gt m vi vo T LI LO) (k:Tch NoB w w'):Lnd base w' nb gt m vi vo T LI LO:=
 ⟨(k.block _ (Jb h.row) (λh=>h)).trans h.row,(k.block _ (Jb h.txs) (λh=>h)).trans h.txs,h.ins.tch k (λ_ _ h=>h),h.outs.tch k (λ_ _ h=>h),h.low⟩
theorem Lnd.app1 {base:Nat} {w w3:World} {nb gt m:Nat} {vi vo v':Value} {T:List VV} {LI LO LI':List Value} (h:Lnd base w nb gt m vi vo T LI LO) (hv:VOwn 96 base w3 v' LI') (hg:w.grownBy w3 vi.ownBlock):
  w3.cell? ⟨nb,1,none⟩=some vi/\(∀j,w3.frozen? ⟨nb,j,none⟩=false)/\Lnd base (w3.setCell ⟨nb,1,none⟩ v') nb gt m v' vo T LI' LO/\Tch (λj=>j=nb\/vi.ownBlock=some j) w (w3.setCell ⟨nb,1,none⟩ v'):=by
 have t3:Tch (λj=>vi.ownBlock=some j) w w3:=(Tg hg).mono (λj hj=>.inl hj.symm)
 have ne:∀j cs T m,w.heap[j]? =some (.cells cs T m)->T ≠ 96->¬vi.ownBlock=some j:=λj cs T m hr hT e=>by
  obtain ⟨_,_,cs',m',hr'⟩:=h.ins.own j e
  rw [hr] at hr'
  simp at hr'
  exact hT hr'.2.1
 have r3:=(t3.block nb (Jb h.row) (ne _ _ _ _ h.row (by decide))).trans h.row
 have x3:=(t3.block gt (Jb h.txs) (ne _ _ _ _ h.txs (by decide))).trans h.txs
 have e4:=Qj w3 nb 1 _ _ _ v' r3
 have t4:=Ts w3 nb #[.slice (some ⟨gt,0,none⟩) m m,v',vo]
 have hne:∀j cs T m,w3.heap[j]? =some (.cells cs T m)->T ≠ 311->¬j=nb:=λj cs T m hr hT e=>by
  rw [e,r3] at hr
  simp at hr
  exact hT hr.2.1.symm
 refine ⟨Ja r3,λj=>Qg _ _ _ _ _ r3,?_,?_⟩
 ·rw [e4]
  refine ⟨Qi _ _ _ _ _ _ r3,(t4.block gt (Jb x3) (hne _ _ _ _ x3 (by decide))).trans x3,hv.tch t4 (λj hj e=>?_),(h.outs.tch t3 (λj hj e=>?_)).tch t4 (λj hj e=>?_),h.low⟩
  ·obtain ⟨_,_,cs,mm,hr⟩:=hv.own j hj
   exact hne j _ _ _ hr (by decide) e
  ·obtain ⟨_,_,cs,mm,hr⟩:=h.outs.own j hj
   exact ne j _ _ _ hr (by decide) e
  ·obtain ⟨_,_,cs,mm,hr⟩:=h.outs.own j hj
   have hr3:=(t3.block j (Jb hr) (ne j _ _ _ hr (by decide))).trans hr
   exact hne j _ _ _ hr3 (by decide) e
 ·rw [e4]
  exact (t3.mono (λj hj=>.inl (.inr hj))).trans t4 (λj hj=>.inl (.inl hj))
theorem Lnd.app2 {base:Nat} {w w3:World} {nb gt m:Nat} {vi vo v':Value} {T:List VV} {LI LO LO':List Value} (h:Lnd base w nb gt m vi vo T LI LO) (hv:VOwn 22 base w3 v' LO') (hg:w.grownBy w3 vo.ownBlock):
  w3.cell? ⟨nb,2,none⟩=some vo/\(∀j,w3.frozen? ⟨nb,j,none⟩=false)/\Lnd base (w3.setCell ⟨nb,2,none⟩ v') nb gt m vi v' T LI LO'/\Tch (λj=>j=nb\/vo.ownBlock=some j) w (w3.setCell ⟨nb,2,none⟩ v'):=by
 have t3:Tch (λj=>vo.ownBlock=some j) w w3:=(Tg hg).mono (λj hj=>.inl hj.symm)
 have ne:∀j cs T m,w.heap[j]? =some (.cells cs T m)->T ≠ 22->¬vo.ownBlock=some j:=λj cs T m hr hT e=>by
  obtain ⟨_,_,cs',m',hr'⟩:=h.outs.own j e
  rw [hr] at hr'
  simp at hr'
  exact hT hr'.2.1
 have r3:=(t3.block nb (Jb h.row) (ne _ _ _ _ h.row (by decide))).trans h.row
 have x3:=(t3.block gt (Jb h.txs) (ne _ _ _ _ h.txs (by decide))).trans h.txs
 have e4:=Qj w3 nb 2 _ _ _ v' r3
 have t4:=Ts w3 nb #[.slice (some ⟨gt,0,none⟩) m m,vi,v']
 have hne:∀j cs T m,w3.heap[j]? =some (.cells cs T m)->T ≠ 311->¬j=nb:=λj cs T m hr hT e=>by
  rw [e,r3] at hr
  simp at hr
  exact hT hr.2.1.symm
 refine ⟨Ja r3,λj=>Qg _ _ _ _ _ r3,?_,?_⟩
 ·rw [e4]
  refine ⟨Qi _ _ _ _ _ _ r3,(t4.block gt (Jb x3) (hne _ _ _ _ x3 (by decide))).trans x3,(h.ins.tch t3 (λj hj e=>?_)).tch t4 (λj hj e=>?_),hv.tch t4 (λj hj e=>?_),h.low⟩
  ·obtain ⟨_,_,cs,mm,hr⟩:=h.ins.own j hj
   exact ne j _ _ _ hr (by decide) e
  ·obtain ⟨_,_,cs,mm,hr⟩:=h.ins.own j hj
   have hr3:=(t3.block j (Jb hr) (ne j _ _ _ hr (by decide))).trans hr
   exact hne j _ _ _ hr3 (by decide) e
  ·obtain ⟨_,_,cs,mm,hr⟩:=hv.own j hj
   exact hne j _ _ _ hr (by decide) e
 ·rw [e4]
  exact (t3.mono (λj hj=>.inl (.inr hj))).trans t4 (λj hj=>.inl (.inl hj))
theorem Lnd.put {base:Nat} {w:World} {nb gt m:Nat} {vi vo:Value} {T:List VV} {LI LO:List Value} (h:Lnd base w nb gt m vi vo T LI LO) {i:Nat} (hi:i<T.length) (a b:Value):
  Lnd base ((w.setCell ⟨gt,i * 2,none⟩ a).setCell ⟨gt,i * 2+1,none⟩ b) nb gt m vi vo (T.set i (a,b)) LI LO/\Tch (λj=>j=gt) w ((w.setCell ⟨gt,i * 2,none⟩ a).setCell ⟨gt,i * 2+1,none⟩ b):=by
 obtain ⟨p1,p2⟩:=JbE h.txs hi a b
 have hne:∀j cs T m,w.heap[j]? =some (.cells cs T m)->T ≠ 98->¬j=gt:=λj cs T m hr hT e=>by
  rw [e,h.txs] at hr
  simp at hr
  exact hT hr.2.1.symm
 refine ⟨⟨(p2.block nb (Jb h.row) (hne _ _ _ _ h.row (by decide))).trans h.row,p1,h.ins.tch p2 (λj hj e=>?_),h.outs.tch p2 (λj hj e=>?_),h.low⟩,p2⟩
 ·obtain ⟨_,_,cs,mm,hr⟩:=h.ins.own j hj
  exact hne j _ _ _ hr (by decide) e
 ·obtain ⟨_,_,cs,mm,hr⟩:=h.outs.own j hj
  exact hne j _ _ _ hr (by decide) e
structure JQ (base:Nat) (w:World) (nb gt n:Nat) (vi vo:Value) (c o:Nat->List VV) (ga gb hb:Nat->Nat) (f:Nat):Prop where
 row:w.heap[nb]? =some (.cells #[.slice (some ⟨gt,0,none⟩) (n+8) (n+8),vi,vo] 311)
 txs:w.heap[gt]? =some (.cells (vvA ((List.range n).map (txE c o ga gb)++(List.range 8).map (ZU hb))) 98)
 ins:VOwn 96 base w vi ((List.range n).map (inV c ga))
 outs:VOwn 22 base w vo ((List.range n).map (inV o gb))
 lc:LC base w f n c o ga gb
 rm:∀i,i<8->base<=hb i/\w.heap[hb i]? =some (.cells (vvA [behC i]) 49)/\∀j,j<n->ga j<hb i
 low:base<=nb/\base<=gt
