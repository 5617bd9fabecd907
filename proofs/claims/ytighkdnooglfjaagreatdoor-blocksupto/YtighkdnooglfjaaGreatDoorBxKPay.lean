import Derived.Test.YtighkdnooglfjaaGreatDoorBxRfZ
namespace Go.Proofs.YtighkdnooglfjaaGreatDoor
open Go.RowKit


def YC (base:Nat) (w:World) (v:Value) (ts:List TxL):Prop:=
 ∃l:List (Sl×Sl),TOwn base w v l/\l.length=ts.length/\∀(j:Nat) x t,l[j]? =some x->ts[j]? =some t->COwn base w (.slice x.1.1 x.1.2.1 x.1.2.2) t.1/\OOwn base w (.slice x.2.1 x.2.2.1 x.2.2.2) t.2
theorem Jdc {b b':Nat} {w:World} {v v2:Value} {cs:List (BA×Int)} {l:List (Sl×Sl)} (h:COwn b w v cs) (h2:TOwn b' w v2 l):∀j,v.ownBlock=some j->¬some j=v2.ownBlock:=by
 intro j hj hj2
 obtain ⟨_,⟨rfl,_⟩ | ⟨g,cap,cur,rfl,_,hrow,_⟩⟩:=h
 ·cases hj
 obtain ⟨_,⟨rfl,_⟩ | ⟨g',cap',cur',rfl,_,hrow',_⟩⟩:=h2
 ·cases hj2
 cases hj
 cases hj2
 rw [hrow] at hrow'
 simp at hrow'
theorem Jeo {b b':Nat} {w:World} {v v2:Value} {cs:List (Nat×Nat)} {l:List (Sl×Sl)} (h:OOwn b w v cs) (h2:TOwn b' w v2 l):∀j,v.ownBlock=some j->¬some j=v2.ownBlock:=by
 intro j hj hj2
 obtain ⟨_,⟨rfl,_⟩ | ⟨g,cap,cur,rfl,_,hrow,_⟩⟩:=h
 ·cases hj
 obtain ⟨_,⟨rfl,_⟩ | ⟨g',cap',cur',rfl,_,hrow',_⟩⟩:=h2
 ·cases hj2
 cases hj
 cases hj2
 rw [hrow] at hrow'
 simp at hrow'
theorem YC.tch {base:Nat} {w w':World} {v:Value} {ts:List TxL} (h:YC base w v ts) (k:Tch NoB w w'):YC base w' v ts:=by
 obtain ⟨l,h1,h2,h3⟩:=h
 exact ⟨l,h1.tch k (λ_ _ e=>e),h2,λj x t hx ht=>⟨(h3 j x t hx ht).1.tch k (λ_ _ e=>e),(h3 j x t hx ht).2.tch k (λ_ _ e=>e)⟩⟩
theorem YC.push {base:Nat} {W w3:World} {v v3:Value} {ts:List TxL} {lt:List (Sl×Sl)} {x:Sl×Sl} {t:TxL} (h1:TOwn base W v lt) (h2:lt.length=ts.length) (h3:∀(j:Nat) x t,lt[j]? =some x->ts[j]? =some t->COwn base W (.slice x.1.1 x.1.2.1 x.1.2.2) t.1/\OOwn base W (.slice x.2.1 x.2.2.1 x.2.2.2) t.2)
  (hc:COwn base W (.slice x.1.1 x.1.2.1 x.1.2.2) t.1) (ho:OOwn base W (.slice x.2.1 x.2.2.1 x.2.2.2) t.2) (hn:TOwn base w3 v3 (lt++[x])) (hg:World.grownBy W w3 v.ownBlock):YC base w3 v3 (ts++[t]):=by
 refine ⟨lt++[x],hn,by simp [h2],λj y u hy hu=>?_⟩
 have hold:COwn base W (.slice y.1.1 y.1.2.1 y.1.2.2) u.1/\OOwn base W (.slice y.2.1 y.2.2.1 y.2.2.2) u.2:=by
  by_cases hj:j<lt.length
  ·rw [QF hj] at hy
   rw [QF (by omega)] at hu
   exact h3 j y u hy hu
  ·rw [Qz (by omega)] at hy
   rw [Qz (by omega)] at hu
   have e1:j - lt.length=0:=by have:=(Qo.1 hy).1;simp at this;omega
   rw [e1] at hy
   rw [<-h2,e1] at hu
   simp only [List.getElem?_cons_zero,Qh] at hy hu
   subst hy;subst hu
   exact ⟨hc,ho⟩
 exact ⟨hold.1.tch (Tg hg) (Jdc hold.1 h1),hold.2.tch (Tg hg) (Jeo hold.2 h1)⟩
open Tryz
set_option maxRecDepth 100000
set_option maxHeartbeats 4000000

def JbX (ts:List TxL) (r:Option (List TxL×Nat)):Option (List TxL×Nat):=r.map λx=>(ts++x.1,x.2)
theorem Jgx (wj:Nat) (s:List UInt8) (ts:List TxL) (n i:Nat) (t:TxL) (j:Nat) (h:Xe wj s i=some (t,j)):JbX ts (JX wj s (n+1) i)=JbX (ts++[t]) (JX wj s n j):=by
 simp only [JX,h]
 cases JX wj s n j with
 | none=>rfl
 | some y=>simp [JbX]
theorem Jgy (wj:Nat) (s:List UInt8) (ts:List TxL) (n i:Nat) (h:Xe wj s i=none):JbX ts (JX wj s (n+1) i)=none:=by
 simp only [JX,h]
 rfl
theorem JkT (W:World) (o:Obj) (x:Sl×Sl):JR (W.heap.size+1+1) ((W.alloc o).alloc (.cells #[.slice x.1.1 x.1.2.1 x.1.2.2,.slice x.2.1 x.2.2.1 x.2.2.2] 98)) (.slice (some ⟨W.heap.size+1,0,none⟩) 1 1) [x]:=by
 have:=Jl0 (W.alloc o) x
 rw [show (W.alloc o).heap.size=W.heap.size+1 by simp] at this
 exact this
def Jlm (wj:Nat) (s:List UInt8) (w:World) (e:Ending) (w':World):Prop:=
 Tch NoB w w'/\match XJ wj s with
 | none=>∃v:Value,e=.returned (.tuple #[v,.bool false])
 | some ts=>∃v,e=.returned (.tuple #[v,.bool true])/\YC w.heap.size w' v ts
theorem Jl9 (wj:Nat) (hw1:1<=wj) (hw:wj<=32) (s:BA) (hs:s.size<=10000000) (w:World):
  Calls prog 170 #[.int .i64 (wj:Int),.string s] w (Jlm wj s.data.toList w):=by
 have hsz:s.data.toList.length=s.size:=by rw [QA];rfl
 by_cases h1:0<s.size
 ·have h1i:(0:Int)<(s.size:Int):=by omega
  have hem:s.toList.isEmpty=false:=by
   rw [ByteArray.toList_eq]
   cases hd:s.data.toList with
   | nil=>rw [hd] at hsz;simp at hsz;omega
   | cons a r=>rfl
  have hbg:=ZK s 0 h1
  obtain ⟨c,hc⟩:∃c:Nat,s[0].toNat=c:=⟨_,rfl⟩
  have hcb:=UInt8.toNat_lt s[0]
  rw [hc] at hbg hcb
  have wc:IntKind.i64.wrap (c:Int)=(c:Int):=w63 _ (by omega) (by omega)
  by_cases h2:c<=3
  ·have h2i:¬3<(c:Int):=by omega
   have HE:Hid (∀x,JX wj s.data.toList c 1=x->XJ wj s.data.toList=match x with | none=>none | some (ts,j)=>if j=s.size then some ts else none):=by
    rintro x rfl
    unfold XJ
    rw [hbg,hsz,if_pos ⟨by omega,h2⟩]
    rfl
   clear hbg hsz
   go_enter func170,ntmps170
   go_wp2
   go_loopw [6,7,8] (λvl va vi wr=>∃(m j:Nat) (ts:List TxL),m<=c/\vi=.int .i64 (m:Int)/\va=.int .i64 (j:Int)/\j<=s.size/\Hid (ts.length=m)/\Hid (YC w.heap.size wr vl ts)/\Hid (JX wj s.data.toList c 1=JbX ts (JX wj s.data.toList (c - m) j))/\Hid (Tch NoB w wr)) (λ_ _ vi _=>c - (intOf vi).toNat)
   case atStart=>
    refine ⟨0,1,[],by omega,rfl,rfl,by omega,rfl,⟨[],TOwn.nil _ _,rfl,λj x t h=>by simp at h⟩,?_,Te _ _⟩
    show JX _ _ _ _=_
    cases h:JX wj s.data.toList c 1 <;> simp [JbX]
   case round=>
    obtain ⟨m,j,ts,hm,rfl,rfl,hj,HTL,HOW,HTX,HT⟩:=hrel
    have h0i:(0:Int)<(s.size:Int):=h1i
    by_cases hlt:m<c
    ·have hli:(m:Int)<(c:Int):=by omega
     have HR:=λV=>r_tx wj hw1 hw s j hj hs V
     have HRT:Hid (∀V,Calls _ _ _ V _):=HR
     clear HR
     obtain ⟨k,hk⟩:∃k,c - m=k+1:=⟨c - m - 1,by omega⟩
     rw [hk] at HTX
     have HKK:Hid (c - (m+1)=k):=(by omega:c - (m+1)=k)
     clear hk
     cases htx:Xe wj s.data.toList j with
     | none=>
      have HRT2:Hid (∀V,Calls prog 254 #[.int .i64 (wj:Int),.string s,.int .i64 (j:Int)] V λe w'=>∃x:Sl×Sl,e=.returned (.tuple #[.agg #[.slice x.1.1 x.1.2.1 x.1.2.2,.slice x.2.1 x.2.2.1 x.2.2.2],.int .i64 (-1)])/\Tch NoB V w'):=λV=>(HRT.o V).mono (by
       rintro e w' ⟨g1,g2⟩
       rw [htx] at g2
       obtain ⟨x,he⟩:=g2
       exact ⟨x,he,g1⟩)
      have HEN:Hid (XJ wj s.data.toList=none):=by
       rw [Jgy wj s.data.toList ts k j htx] at HTX
       exact HE.o _ HTX.o
      clear HRT htx HTX HE
      go_wp2_with (go_at_call 254;refine (HRT2.o _).mono ?_;rintro _ w1 ⟨x,rfl,ht1⟩;have HT1:Hid (Tch NoB wr w1):=ht1;clear ht1)
      go_ret2
      refine ⟨(HT.o.trans HT1.o (λ_ h=>.inl h)).trans (Ta NoB _ _) (λ_ h=>.inl h),?_⟩
      rw [HEN.o]
      exact ⟨_,rfl⟩
     | some y=>
      obtain ⟨t,n⟩:=y
      have hn:=(Jbg htx).1
      have hsz:s.data.toList.length=s.size:=by rw [QA];rfl
      rw [hsz] at hn
      simp only at hn
      have HRT2:Hid (∀V,Tch NoB w V->Calls prog 254 #[.int .i64 (wj:Int),.string s,.int .i64 (j:Int)] V λe w'=>∃x:Sl×Sl,e=.returned (.tuple #[.agg #[.slice x.1.1 x.1.2.1 x.1.2.2,.slice x.2.1 x.2.2.1 x.2.2.2],.int .i64 (n:Int)])/\(COwn w.heap.size w' (.slice x.1.1 x.1.2.1 x.1.2.2) t.1/\OOwn w.heap.size w' (.slice x.2.1 x.2.2.1 x.2.2.2) t.2)/\Tch NoB V w'):=λV hV=>(HRT.o V).mono (by
       rintro e w' ⟨g1,g2⟩
       rw [htx] at g2
       obtain ⟨x,he,hc1,ho1⟩:=g2
       refine ⟨x,he,⟨?_,?_⟩,g1⟩
       ·obtain ⟨k1,k2 | ⟨g,cap,cur,k2,k3,k4⟩⟩:=hc1
        ·exact ⟨k1,.inl k2⟩
        ·exact ⟨k1,.inr ⟨g,cap,cur,k2,Qm hV.size k3,k4⟩⟩
       ·obtain ⟨k1,k2 | ⟨g,cap,cur,k2,k3,k4⟩⟩:=ho1
        ·exact ⟨k1,.inl k2⟩
        ·exact ⟨k1,.inr ⟨g,cap,cur,k2,Qm hV.size k3,k4⟩⟩)
      have HNX:Hid (JX wj s.data.toList c 1=JbX (ts++[t]) (JX wj s.data.toList k n)):=by
       show JX _ _ _ _=_
       rw [HTX.o]
       exact Jgx wj s.data.toList ts k j t n htx
      have hn0:¬(n:Int)<0:=by omega
      clear HRT htx HTX HE hsz
      obtain ⟨lt,hT1,hT2,hT3⟩:=HOW.o
      obtain ⟨ta,tm,tc,hta⟩:=hT1.shape3
      subst hta
      have HTT:Hid (TOwn w.heap.size wr (.slice ta tm tc) lt):=hT1
      have HLL:Hid (lt.length=ts.length):=hT2
      have HLD:Hid (∀(j:Nat) x t,lt[j]? =some x->ts[j]? =some t->COwn w.heap.size wr (.slice x.1.1 x.1.2.1 x.1.2.2) t.1/\OOwn w.heap.size wr (.slice x.2.1 x.2.2.1 x.2.2.2) t.2):=hT3
      clear hT1 hT2 hT3 HOW
      go_wp2_with (first
       | (go_at_call 254;refine (HRT2.o _ HT.o).mono ?_;rintro _ w1 ⟨x,rfl,hco1,ht1⟩;have HCO:Hid (_/\_):=hco1;have HT1:Hid (Tch NoB wr w1):=ht1;clear ht1 hco1)
       | (at_builtin;refine JbF rfl _ _ rfl rfl (HTT.o.tch ((HT1.o.trans (Ta NoB w1 _) (λ_ h=>.inl h)).trans (Ta NoB _ _) (λ_ h=>.inl h)) (λ_ _ h=>h)) _ _ [x] rfl (JkT w1 _ x) (by rw [HLL.o,HTL.o];simp;omega) (Qm HT.o.size (Qm HT1.o.size (Qm (Ta NoB w1 _).size (Ta NoB _ _).size))) ?_;intro v3 w3 hown3 hg3;have HOW3:Hid (TOwn _ w3 v3 _):=hown3;have HG3:Hid (World.grownBy _ w3 _):=hg3;clear hown3 hg3))
      go_roundw
      case rel=>
       have t12:Tch NoB wr ((w1.alloc (.cells #[.slice x.1.1 x.1.2.1 x.1.2.2,.slice x.2.1 x.2.2.1 x.2.2.2] 98)).alloc (.cells #[.slice x.1.1 x.1.2.1 x.1.2.2,.slice x.2.1 x.2.2.1 x.2.2.2] 98)):=(HT1.o.trans (Ta NoB w1 _) (λ_ h=>.inl h)).trans (Ta NoB _ _) (λ_ h=>.inl h)
       have t1:Tch NoB w1 ((w1.alloc (.cells #[.slice x.1.1 x.1.2.1 x.1.2.2,.slice x.2.1 x.2.2.1 x.2.2.2] 98)).alloc (.cells #[.slice x.1.1 x.1.2.1 x.1.2.2,.slice x.2.1 x.2.2.1 x.2.2.2] 98)):=(Ta NoB w1 _).trans (Ta NoB _ _) (λ_ h=>.inl h)
       refine ⟨m+1,n,ts++[t],by omega,by go_num,rfl,hn,by show (ts++[t]).length=m+1;rw [Qe,HTL.o];rfl,?_,by show JX _ _ _ _=_;rw [HKK.o];exact HNX.o,?_⟩
       ·exact YC.push (x:=x) (HTT.o.tch t12 (λ_ _ h=>h)) HLL.o (λj x t hx ht=>⟨(HLD.o j x t hx ht).1.tch t12 (λ_ _ h=>h),(HLD.o j x t hx ht).2.tch t12 (λ_ _ h=>h)⟩) (HCO.o.1.tch t1 (λ_ _ h=>h)) (HCO.o.2.tch t1 (λ_ _ h=>h)) HOW3.o HG3.o
       ·exact (HT.o.trans t12 (λ_ h=>.inl h)).trans (Tg HG3.o) (λj hj=>.inr (HTT.o.own j hj.symm).1)
      case measure=>simp [intOf];omega
    ·obtain rfl:m=c:=by omega
     have hge:¬(m:Int)<(m:Int):=by omega
     have HB:=HE.o _ HTX.o
     rw [Nat.sub_self] at HB
     simp only [JX,JbX,Option.map_some,QC] at HB
     have HBB:Hid (XJ wj s.data.toList=_):=HB
     clear HE HB
     obtain ⟨lt,hT1,_⟩:=HOW.o
     obtain ⟨ta,tm,tc,hta⟩:=hT1.shape3
     subst hta
     clear hT1
     by_cases he:j=s.size
     ·have hei:(j:Int)=(s.size:Int):=by omega
      have HF:Hid (XJ wj s.data.toList=some ts):=by show XJ _ _=_;rw [HBB.o,if_pos he]
      have HEB:Hid (((j:Int) == (s.size:Int))=true):=by show _=true;simp [he]
      go_wp2
      go_ret2
      refine ⟨HT.o,?_⟩
      rw [HF.o]
      refine ⟨.slice ta tm tc,?_,HOW.o⟩
      first
       | rfl
       | (show Ending.returned (.tuple #[.slice ta tm tc,.bool ((j:Int) == (s.size:Int))])=_;rw [HEB.o])
     ·have hei:¬(j:Int)=(s.size:Int):=by omega
      have HF:Hid (XJ wj s.data.toList=none):=by show XJ _ _=_;rw [HBB.o,if_neg he]
      have HEB:Hid (((j:Int) == (s.size:Int))=false):=by show _=false;simp [hei]
      go_wp2
      go_ret2
      refine ⟨HT.o,?_⟩
      rw [HF.o]
      refine ⟨.slice ta tm tc,?_⟩
      first
       | rfl
       | (show Ending.returned (.tuple #[.slice ta tm tc,.bool ((j:Int) == (s.size:Int))])=_;rw [HEB.o])
  ·have h2i:3<(c:Int):=by omega
   have HE:Hid (XJ wj s.data.toList=none):=by
    show XJ _ _=_
    unfold XJ
    rw [hbg,if_neg (λh=>h2 h.2)]
   clear hbg hsz
   go_enter func170,ntmps170
   go_wp2
   go_ret2
   exact ⟨Te _ _,by rw [HE.o];exact ⟨_,rfl⟩⟩
 ·have hem:s.toList.isEmpty=true:=by
   rw [ByteArray.toList_eq,QP (show s.data.toList.length=0 by omega)]
   rfl
  have HE:Hid (XJ wj s.data.toList=none):=by
   show XJ _ _=_
   unfold XJ
   rw [hsz,if_neg (λh=>by omega)]
  clear hsz
  go_enter func170,ntmps170
  go_wp2
  go_ret2
  exact ⟨Te _ _,by rw [HE.o];exact ⟨_,rfl⟩⟩

theorem YH (s:List UInt8) (i a b:Nat):(s.drop i).take a++(s.drop (i+a)).take b=(s.drop i).take (a+b):=by
 rw [List.take_add,List.drop_drop]
theorem ZT (s:List UInt8) (i:Nat) (h:i<s.length):beL (Jt s i) 1 1=(s.drop i).take 1:=by
 rw [<-Jaf s i h]
 exact Jcg _ 1 (by rw [QB,List.length_drop];omega)
theorem Jl6 (s:List UInt8) (i:Nat) (h:i+9<=s.length):outB (outP s i)=(s.drop i).take 9:=by
 unfold outB outP
 rw [Jcg _ 8 (by rw [QB,List.length_drop];omega),ZT s (i+8) (by omega)]
 exact YH s i 8 1
theorem JcA (s:List UInt8):∀(n i:Nat),i+9 * n<=s.length->(Ym s i n).flatMap outB=(s.drop i).take (9 * n)
 | 0,i,_=>by simp [Ym]
 | n+1,i,h=>by
  rw [Jcz,QG,Jl6 s i (by omega),JcA s n (i+9) (by omega),YH,show 9+9 * n=9 * (n+1) by omega]
theorem Jep (s:List UInt8) (i n:Nat):(Ym s i n).length=n:=by simp [Ym]
theorem Jdi {s:List UInt8} {i:Nat} {x:List (Nat×Nat)×Nat} (h:JT s i=some x):Ju x.1=(s.drop i).take (x.2 - i):=by
 unfold JT at h
 split at h
 ·rename_i hc
  cases h
  simp only
  unfold Ju
  rw [Jep,ZT s i hc.1,JcA s _ (i+1) hc.2.2,YH,show i+1+9 * Jt s i - i=1+9 * Jt s i by omega]
 ·cases h
theorem Jkr (wj:Nat) (s:List UInt8) (i:Nat) (h:i+(wj+1)<=s.length):Jd (Jao wj s i)=(s.drop i).take (wj+1):=by
 unfold Jd Jao
 have hb:Jt s (i+wj)<256:=UInt8.toNat_lt _
 have hx:Jw (Jt s (i+wj):Int)=Jt s (i+wj):=by
  unfold Jw
  omega
 simp only
 rw [hx,ZT s (i+wj) (by omega)]
 exact YH s i wj 1
theorem JbJ (wj:Nat) (s:List UInt8):∀(n i:Nat),i+(wj+1) * n<=s.length->(XD wj s i n).flatMap Jd=(s.drop i).take ((wj+1) * n)
 | 0,i,_=>by simp [XD]
 | n+1,i,h=>by
  have hmul:(wj+1) * (n+1)=(wj+1)+(wj+1) * n:=by rw [Nat.mul_add];omega
  rw [JbI,QG,Jkr wj s i (by omega),JbJ wj s n (i+(wj+1)) (by omega),YH,hmul]
theorem Jdd (wj:Nat) (s:List UInt8) (i n:Nat):(XD wj s i n).length=n:=by simp [XD]
theorem JfD {wj:Nat} {s:List UInt8} {i:Nat} {x:TxL×Nat} (h:Xe wj s i=some x):txB x.1=(s.drop i).take (x.2 - i):=by
 unfold Xe at h
 split at h
 ·rename_i hc
  obtain ⟨y,hy,rfl⟩:=Option.map_eq_some_iff.1 h
  have h1:=Jdi hy
  have h2:=Jcy hy
  simp only
  unfold txB Jcu
  simp only
  rw [h1,Jdd,ZT s i hc.1,JbJ wj s _ (i+1) hc.2.2.2.1,YH,show i+1+(wj+1) * Jt s i=i+(1+(wj+1) * Jt s i) by omega,YH]
  congr 1
  omega
 ·cases h
theorem Jbh {wj:Nat} {s:List UInt8}:∀(n i:Nat) {x:List TxL×Nat},JX wj s n i=some x->x.1.length=n/\i<=x.2/\x.1.flatMap txB=(s.drop i).take (x.2 - i)
 | 0,i,x,h=>by cases h;simp
 | n+1,i,x,h=>by
  simp only [JX] at h
  cases ht:Xe wj s i with
  | none=>rw [ht] at h;cases h
  | some y=>
   obtain ⟨t,j⟩:=y
   rw [ht] at h
   simp only at h
   cases hr:JX wj s n j with
   | none=>rw [hr] at h;cases h
   | some z=>
    obtain ⟨ts,k⟩:=z
    rw [hr] at h
    cases h
    have h1:=JfD ht
    have h2:=(Jbg ht).2
    obtain ⟨g1,g2,g3⟩:=Jbh (x:=(ts,k)) n j hr
    simp only at h1 h2 g1 g2 g3
    refine ⟨by simp [g1],by show i<=k;omega,?_⟩
    simp only
    rw [QG,h1,g3]
    have e:j=i+(j - i):=by omega
    have:=YH s i (j - i) (k - j)
    rw [<-e] at this
    rw [this]
    congr 1
    omega
theorem JeP {wj:Nat} {s:List UInt8} {ts:List TxL} (h:XJ wj s=some ts):JB ts=s:=by
 unfold XJ at h
 split at h
 ·rename_i hc
  cases ht:JX wj s (Jt s 0) 1 with
  | none=>rw [ht] at h;cases h
  | some y=>
   obtain ⟨us,j⟩:=y
   rw [ht] at h
   simp only at h
   split at h
   ·rename_i he
    cases h
    obtain ⟨g1,g2,g3⟩:=Jbh (x:=(ts,j)) _ _ ht
    simp only at g1 g2 g3
    unfold JB
    rw [g1,g3,ZT s 0 (by omega),he]
    have:=YH s 0 1 (s.length - 1)
    rw [show (0:Nat)+1=1 from rfl] at this
    rw [this,List.drop_zero,QS (by omega)]
   ·cases h
 ·cases h

theorem YE.kind {base:Nat} {w:World} {v:Value} {l:List Lv} (h:YE base w v l):∀j,v.ownBlock=some j->∃cur m,w.heap[j]? =some (.cells cur 205 m):=by
 obtain ⟨_,⟨rfl,h0⟩ | ⟨g,cap,cur,rfl,hb,hrow,_⟩⟩:=h
 ·intro k hk;cases hk
 ·intro k hk;cases hk;exact ⟨_,_,hrow⟩
theorem JcQ {base rb:Nat} {w:World} {v:Value} {lv:List Lv} {cs:Array Value} {m:Nat×Nat} (h:w.heap[rb]? =some (.cells cs 208 m)) (h':YE base w v lv):v.ownBlock ≠ some rb:=by
 intro e
 obtain ⟨c,m,hr⟩:=h'.kind rb e
 rw [h] at hr
 simp at hr
theorem Jk3 {wj base:Nat} {w wD w3 w5:World} {rb g cap:Nat} {G:Nat->Prop} {ch:Ch} {lv:List Lv} {b R hd:BA} {v3:Value} {x:Lv} {st:Option Tr}
  (h0:RfAt wj base w rb G ch (.slice (some ⟨g,0,none⟩) ch.length cap) lv b) (tD:Tch NoB w wD) (t3:Tch (λj=>j=g) wD w3) (t5:Tch (λj=>j=rb) w3 w5)
  (h3:YE base w3 v3 (lv++[x])) (hv3:∀j,v3.ownBlock=some j->j=g\/wD.heap.size<=j)
  (hR5:w5.heap[rb]? =some (.cells #[.int .i64 (wj:Int),v3,.int .i64 0,.string R] 208)) (hRs:R.size<=b.size+1000)
  (hl:∃l:List Held,RhAt wD (.slice x.2.1 x.2.2.1 x.2.2.2) l/\Book wj st l/\l.length<=9 * (ch.length+1)/\∀j,(Value.slice x.2.1 x.2.2.1 x.2.2.2).ownBlock=some j->G j\/w.heap.size<=j)
  (hh:HdOk wj (lvH ch.length x)/\hd=⟨(hdrB (lvH ch.length x)).toArray⟩) (hbw:base<=w.heap.size):
  Tch G w w5/\∃G' vL lv b,RfAt wj base w5 rb G' (ch++[(hd,st)]) vL lv b/\∀j,G' j->G j\/w.heap.size<=j:=by
 have hGg:G g:=h0.vG g rfl
 have tD3:Tch (λj=>j=g\/j=rb) wD w3:=t3.mono (λ_ h=>.inl (.inl h))
 have tD5:Tch (λj=>j=g\/j=rb) wD w5:=tD3.trans t5 (λj h=>.inl (Or.inr h))
 have tG:Tch G w w5:=(tD.mono noE).trans tD5 (λj hj=>.inl (by
  rcases hj with e | e
  ·rw [e];exact hGg
  ·rw [e];exact h0.rbG))
 obtain ⟨cg,mg,kg⟩:=h0.lvs.kind g rfl
 have hlenc:=h0.len.1
 obtain ⟨l,hl1,hl2,hl3,hl4⟩:=hl
 have s1:=tD.size
 have s2:=t3.size
 have s3:=t5.size
 have s4:=tD5.size
 -- what holds coins is neither the ledger's block nor its heights' one
 have hne:∀V,Tch NoB w V->∀(v:Value) (l:List Held),RhAt V v l->∀j,v.ownBlock=some j->¬(j=g\/j=rb):=λV hV v l h j hj e=>by
  obtain ⟨_,cs,m,hk⟩:=h.own j hj
  rcases e with e | e
  ·subst e
   rw [(hV.block j (Jb kg) (λh=>h)).trans kg] at hk
   simp at hk
  ·subst e
   rw [(hV.block j (Jb h0.row) (λh=>h)).trans h0.row] at hk
   simp at hk
 refine ⟨tG,λj=>G j\/v3.ownBlock=some j\/(Value.slice x.2.1 x.2.2.1 x.2.2.2).ownBlock=some j,v3,lv++[x],R,?_,?_⟩
 ·refine ⟨hR5,?_,.inl h0.rbG,λj hj=>.inr (.inl hj),?_,?_,?_,?_,?_,?_⟩
  ·have hr3:w3.heap[rb]? =some (.cells #[.int .i64 (wj:Int),.slice (some ⟨g,0,none⟩) ch.length cap,.int .i64 0,.string b] 208):=by
    have hrD:=(tD.block rb (Jb h0.row) (λh=>h)).trans h0.row
    refine (t3.block rb (Jb hrD) (λe=>?_)).trans hrD
    subst e
    exact JcQ h0.row h0.lvs rfl
   exact h3.tch t5 (λj hj e=>by subst e;exact JcQ hr3 h3 hj)
  ·intro y hy j hj
   rcases QE.1 hy with hy | hy
   ·exact .inl (h0.cG y hy j hj)
   ·obtain rfl:y=x:=by simpa using hy
    exact .inr (.inr hj)
  ·intro j hj
   rcases hj with hj | hj | hj
   ·have:=h0.own j hj
    exact ⟨this.1,by omega⟩
   ·have:=h3.own j hj
    exact ⟨this.1,by omega⟩
   ·have h8:=(hl1.own j hj).1
    refine ⟨?_,by omega⟩
    rcases hl4 j hj with h | h
    ·exact (h0.own j h).1
    ·omega
  ·rw [Qe,Qe,hlenc]
   exact ⟨rfl,by simp⟩
  ·intro i y c hy hc
   by_cases hi:i<ch.length
   ·rw [QF (by omega)] at hy hc
    exact h0.hdr i y c hy hc
   ·rw [Qz (by omega)] at hy hc
    obtain rfl:i=ch.length:=by
     have:=(Qo.1 hc).1
     simp at this
     omega
    rw [hlenc,Nat.sub_self] at hy
    rw [Nat.sub_self] at hc
    simp only [List.getElem?_cons_zero,Qh] at hy hc
    subst hy
    subst hc
    exact hh
  ·intro i y c hy hc
   by_cases hi:i<ch.length
   ·rw [QF (by omega)] at hy hc
    obtain ⟨l',p1,p2,p3⟩:=h0.coins i y c hy hc
    exact ⟨l',(p1.tch0 tD).tch tD5 (hne wD tD _ _ (p1.tch0 tD)),p2,p3⟩
   ·rw [Qz (by omega)] at hy hc
    obtain rfl:i=ch.length:=by
     have:=(Qo.1 hc).1
     simp at this
     omega
    rw [hlenc,Nat.sub_self] at hy
    rw [Nat.sub_self] at hc
    simp only [List.getElem?_cons_zero,Qh] at hy hc
    subst hy
    subst hc
    exact ⟨l,hl1.tch tD5 (hne wD tD _ _ hl1),hl2,hl3⟩
  ·rw [Qe]
   have:=h0.log
   show R.size<=1000 * (ch.length+1)
   omega
 ·intro j hj
  rcases hj with hj | hj | hj
  ·exact .inl hj
  ·rcases hv3 j hj with h | h
   ·rw [h];exact .inl hGg
   ·exact .inr (by omega)
  ·exact hl4 j hj
