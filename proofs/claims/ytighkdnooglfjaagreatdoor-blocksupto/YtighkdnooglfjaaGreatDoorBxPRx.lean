import Derived.Test.YtighkdnooglfjaaGreatDoorBxRfS
namespace Go.Proofs.YtighkdnooglfjaaGreatDoor

def rdAt (q s:List UInt8) (i:Nat):PS:=.rd (q++s.take i) (s.drop i)
theorem YS (q s:List UInt8) (i x k:Nat) (hi:i<=s.length):(rdAt q s i).num x k=if i+k<=s.length then some (numL ((s.drop i).take k),rdAt q s (i+k)) else none:=by
 unfold rdAt
 simp only [PS.num,List.length_drop,List.drop_drop,Qs]
 by_cases h:i+k<=s.length
 ·rw [if_pos h,if_pos (by omega),List.take_add]
 ·rw [if_neg h,if_neg (by omega)]
theorem Ja4 (q s x:List UInt8) (i k:Nat) (hi:i<=s.length):(rdAt q s i).txt x k=if i+k<=s.length then some ((s.drop i).take k,rdAt q s (i+k)) else none:=by
 unfold rdAt
 simp only [PS.txt,List.length_drop,List.drop_drop,Qs]
 by_cases h:i+k<=s.length
 ·rw [if_pos h,if_pos (by omega),List.take_add]
 ·rw [if_neg h,if_neg (by omega)]
def Jt (s:List UInt8) (i:Nat):Nat:=(s.getD i 0).toNat
theorem Jaf (s:List UInt8) (i:Nat) (h:i<s.length):numL ((s.drop i).take 1)=Jt s i:=by
 rw [List.drop_eq_getElem_cons h,List.take_succ_cons,List.take_zero]
 unfold Jt
 rw [Qn,Qd h]
 simp [numL]
def outP (s:List UInt8) (i:Nat):Nat×Nat:=(numL ((s.drop i).take 8),Jt s (i+8))
def Ym (s:List UInt8) (i n:Nat):List (Nat×Nat):=(List.range n).map λj=>outP s (i+9 * j)
theorem Jcz (s:List UInt8) (i n:Nat):Ym s i (n+1)=outP s i :: Ym s (i+9) n:=by
 unfold Ym
 rw [List.range_succ_eq_map,List.map_cons,List.map_map]
 congr 1
 refine List.map_congr_left λj _=>?_
 show outP s (i+9 * (j+1))=outP s (i+9+9 * j)
 congr 1
 omega
theorem Jf9 (s:List UInt8) (i n:Nat):Ym s i (n+1)=Ym s i n++[outP s (i+9 * n)]:=by
 unfold Ym
 rw [List.range_succ,List.map_append]
 rfl
theorem JdN (q s:List UInt8):∀(n i:Nat),i<=s.length->PS.outs (List.replicate n (0,0)) (rdAt q s i)=if i+9 * n<=s.length then some (Ym s i n,rdAt q s (i+9 * n)) else none
 | 0,i,hi=>by rw [if_pos (by omega)];rfl
 | n+1,i,hi=>by
  rw [List.replicate_succ]
  simp only [PS.outs,PS.out]
  rw [YS q s i 0 8 hi]
  by_cases h8:i+8<=s.length
  ·rw [if_pos h8]
   simp only
   rw [YS q s (i+8) 0 1 h8]
   by_cases h9:i+8+1<=s.length
   ·rw [if_pos h9]
    simp only
    rw [JdN q s n (i+8+1) h9,Jcz,Jaf s (i+8) (by omega)]
    by_cases hn:i+9 * (n+1)<=s.length
    ·rw [if_pos hn,if_pos (by omega)]
     simp only [outP]
     rw [show i+8+1+9 * n=i+9 * (n+1) by omega]
    ·rw [if_neg hn,if_neg (by omega)]
   ·rw [if_neg h9,if_neg (by omega)]
  ·rw [if_neg h8,if_neg (by omega)]
def JT (s:List UInt8) (i:Nat):Option (List (Nat×Nat)×Nat):=
 if i<s.length/\Jt s i<=3/\i+1+9 * Jt s i<=s.length then some (Ym s (i+1) (Jt s i),i+1+9 * Jt s i) else none
theorem Jge (q s:List UInt8) (i:Nat) (hi:i<=s.length):(rdAt q s i).listO 0 3 []=(JT s i).map λx=>(x.1,rdAt q s x.2):=by
 unfold PS.listO JT
 rw [YS q s i _ 1 hi]
 by_cases h1:i<s.length
 ·rw [if_pos (by omega)]
  simp only
  rw [Jaf s i h1]
  by_cases h2:Jt s i<=3
  ·rw [if_neg (by omega),show Yq [] (Jt s i)=List.replicate (Jt s i) (0,0) from if_pos rfl,JdN q s _ (i+1) (by omega)]
   by_cases h3:i+1+9 * Jt s i<=s.length
   ·rw [if_pos h3,if_pos ⟨h1,h2,h3⟩];rfl
   ·rw [if_neg h3,if_neg (λh=>h3 h.2.2)];rfl
  ·rw [if_pos (by omega),if_neg (λh=>h2 h.2.1)];rfl
 ·rw [if_neg (by omega),if_neg (λh=>h1 h.1)];rfl
def Jao (wj:Nat) (s:List UInt8) (i:Nat):BA×Int:=(⟨((s.drop i).take wj).toArray⟩,(Jt s (i+wj):Int))
def XD (wj:Nat) (s:List UInt8) (i n:Nat):List (BA×Int):=(List.range n).map λj=>Jao wj s (i+(wj+1) * j)
theorem JbI (wj:Nat) (s:List UInt8) (i n:Nat):XD wj s i (n+1)=Jao wj s i :: XD wj s (i+(wj+1)) n:=by
 unfold XD
 rw [List.range_succ_eq_map,List.map_cons,List.map_map]
 congr 1
 refine List.map_congr_left λj _=>?_
 show Jao wj s (i+(wj+1) * (j+1))=Jao wj s (i+(wj+1)+(wj+1) * j)
 congr 1
 rw [Nat.mul_add]
 omega
theorem JeS (wj:Nat) (s:List UInt8) (i n:Nat):XD wj s i (n+1)=XD wj s i n++[Jao wj s (i+(wj+1) * n)]:=by
 unfold XD
 rw [List.range_succ,List.map_append]
 rfl
def Yf (wj:Nat) (s:List UInt8) (i n:Nat):Prop:=∀j,j<n->Jt s (i+(wj+1) * j+wj)<3
theorem Zu (wj:Nat) (s:List UInt8) (i n:Nat):Yf wj s i (n+1)↔Jt s (i+wj)<3/\Yf wj s (i+(wj+1)) n:=by
 unfold Yf
 constructor
 ·intro h
  refine ⟨by simpa using h 0 (by omega),λj hj=>?_⟩
  have:=h (j+1) (by omega)
  rwa [show i+(wj+1) * (j+1)+wj=i+(wj+1)+(wj+1) * j+wj by rw [Nat.mul_add];omega] at this
 ·rintro ⟨h0,h⟩ j hj
  cases j with
  | zero=>simpa using h0
  | succ j=>
   have:=h j (by omega)
   rwa [show i+(wj+1) * (j+1)+wj=i+(wj+1)+(wj+1) * j+wj by rw [Nat.mul_add];omega]
open Classical in
theorem JcH (wj:Nat) (q s:List UInt8):∀(n i:Nat),i<=s.length->PS.coins wj (List.replicate n (⟨#[]⟩,0)) (rdAt q s i)=if i+(wj+1) * n<=s.length/\Yf wj s i n then some (XD wj s i n,rdAt q s (i+(wj+1) * n)) else none
 | 0,i,hi=>by rw [if_pos ⟨by omega,λj hj=>absurd hj (by omega)⟩];rfl
 | n+1,i,hi=>by
  rw [List.replicate_succ]
  simp only [PS.coins,PS.coin]
  have hmul:(wj+1) * (n+1)=(wj+1)+(wj+1) * n:=by rw [Nat.mul_add];omega
  rw [Ja4 q s _ i wj hi]
  by_cases hw:i+wj<=s.length
  ·rw [if_pos hw]
   simp only
   rw [YS q s (i+wj) _ 1 hw]
   by_cases h9:i+wj+1<=s.length
   ·rw [if_pos h9]
    simp only
    rw [Jaf s (i+wj) (by omega)]
    by_cases hc:Jt s (i+wj)<3
    ·rw [if_pos hc]
     simp only
     rw [show i+wj+1=i+(wj+1) by omega,JcH wj q s n (i+(wj+1)) (by omega),JbI]
     by_cases hn:i+(wj+1)+(wj+1) * n<=s.length/\Yf wj s (i+(wj+1)) n
     ·rw [if_pos hn,if_pos ⟨by omega,(Zu wj s i n).2 ⟨hc,hn.2⟩⟩]
      simp only
      rw [show i+(wj+1)+(wj+1) * n=i+(wj+1) * (n+1) by omega]
      rfl
     ·rw [if_neg hn,if_neg (λh=>hn ⟨by omega,((Zu wj s i n).1 h.2).2⟩)]
    ·rw [if_neg hc,if_neg (λh=>hc ((Zu wj s i n).1 h.2).1)]
   ·rw [if_neg h9,if_neg (λh=>h9 (by omega))]
  ·rw [if_neg hw,if_neg (λh=>hw (by omega))]
open Classical in
noncomputable def Xe (wj:Nat) (s:List UInt8) (i:Nat):Option (TxL×Nat):=
 if i<s.length/\1<=Jt s i/\Jt s i<=3/\i+1+(wj+1) * Jt s i<=s.length/\Yf wj s (i+1) (Jt s i) then
  (JT s (i+1+(wj+1) * Jt s i)).map λx=>((XD wj s (i+1) (Jt s i),x.1),x.2)
 else none
open Classical in
theorem Jk0 (wj:Nat) (q s:List UInt8) (i:Nat) (hi:i<=s.length):(rdAt q s i).tx wj ([],[])=(Xe wj s i).map λx=>(x.1,rdAt q s x.2):=by
 unfold PS.tx PS.listC Xe
 simp only
 rw [YS q s i _ 1 hi]
 by_cases h1:i<s.length
 ·rw [if_pos (by omega)]
  simp only
  rw [Jaf s i h1]
  by_cases h2:1<=Jt s i/\Jt s i<=3
  ·rw [if_neg (by omega),show XX [] (Jt s i)=List.replicate (Jt s i) (⟨#[]⟩,0) from if_pos rfl,JcH wj q s _ (i+1) (by omega)]
   by_cases h3:i+1+(wj+1) * Jt s i<=s.length/\Yf wj s (i+1) (Jt s i)
   ·rw [if_pos h3,if_pos ⟨h1,h2.1,h2.2,h3.1,h3.2⟩]
    simp only
    rw [Jge q s _ h3.1]
    cases JT s (i+1+(wj+1) * Jt s i) <;> rfl
   ·rw [if_neg h3,if_neg (λh=>h3 ⟨h.2.2.2.1,h.2.2.2.2⟩)];rfl
  ·rw [if_pos (by omega),if_neg (λh=>h2 ⟨h.2.1,h.2.2.1⟩)];rfl
 ·rw [if_neg (by omega),if_neg (λh=>h1 h.1)];rfl
theorem Jcy {s:List UInt8} {i:Nat} {x:List (Nat×Nat)×Nat} (h:JT s i=some x):x.2<=s.length/\i<x.2:=by
 unfold JT at h
 split at h
 ·rename_i hc
  cases h
  exact ⟨hc.2.2,by show i<i+1+_;omega⟩
 ·cases h
theorem Jbg {wj:Nat} {s:List UInt8} {i:Nat} {x:TxL×Nat} (h:Xe wj s i=some x):x.2<=s.length/\i<x.2:=by
 unfold Xe at h
 split at h
 ·obtain ⟨y,hy,rfl⟩:=Option.map_eq_some_iff.1 h
  have:=Jcy hy
  exact ⟨this.1,by show i<y.2;omega⟩
 ·cases h
noncomputable def JX (wj:Nat) (s:List UInt8):Nat->Nat->Option (List TxL×Nat)
 | 0,i=>some ([],i)
 | n+1,i=>match Xe wj s i with
  | none=>none
  | some (t,j)=>match JX wj s n j with
   | none=>none
   | some (ts,k)=>some (t :: ts,k)
theorem Jfq (wj:Nat) (q s:List UInt8):∀(n i:Nat),i<=s.length->PS.txs wj (List.replicate n ([],[])) (rdAt q s i)=(JX wj s n i).map λx=>(x.1,rdAt q s x.2)
 | 0,i,_=>rfl
 | n+1,i,hi=>by
  rw [List.replicate_succ]
  simp only [PS.txs,JX]
  rw [Jk0 wj q s i hi]
  cases ht:Xe wj s i with
  | none=>rfl
  | some x=>
   obtain ⟨t,j⟩:=x
   simp only [Option.map_some]
   rw [Jfq wj q s n j (Jbg ht).1]
   cases JX wj s n j with
   | none=>rfl
   | some y=>rfl
noncomputable def XJ (wj:Nat) (s:List UInt8):Option (List TxL):=
 if 1<=s.length/\Jt s 0<=3 then match JX wj s (Jt s 0) 1 with
  | none=>none
  | some (ts,j)=>if j=s.length then some ts else none
 else none

theorem Jfh:∀(n:Nat) (a b:List UInt8),a.length=n->b.length=n->numL a=numL b->a=b
 | 0,a,b,ha,hb,_=>by rw [QP ha,QP hb]
 | n+1,a,b,ha,hb,h=>by
  have hna:a ≠ []:=λe=>by rw [e] at ha;simp at ha
  have hnb:b ≠ []:=λe=>by rw [e] at hb;simp at hb
  have ea:=List.dropLast_concat_getLast hna
  have eb:=List.dropLast_concat_getLast hnb
  rw [<-ea,<-eb,Zi,Zi] at h
  have h1:=UInt8.toNat_lt (a.getLast hna)
  have h2:=UInt8.toNat_lt (b.getLast hnb)
  have e1:numL a.dropLast=numL b.dropLast:=by omega
  have e2:(a.getLast hna).toNat=(b.getLast hnb).toNat:=by omega
  have i1:=Jfh n a.dropLast b.dropLast (by simp [ha]) (by simp [hb]) e1
  rw [<-ea,<-eb,i1,UInt8.toNat_inj.1 e2]
theorem Jcg (l:List UInt8) (k:Nat) (h:l.length=k):beL (numL l) k k=l:=by
 refine Jfh k _ _ (Je _ _ _) h ?_
 have hlt:=Ja0 l
 rw [h] at hlt
 have h2:numL l<2 ^ (8 * k):=by rw [Nat.pow_mul];exact hlt
 rw [Jb9 (numL l) k h2 k (Ql _),Nat.sub_self]
 simp
theorem JdO (q s:List UInt8):rdAt q s 0=.rd q s:=by simp [rdAt]
theorem JjA (wj:Nat) (s:List UInt8) (z:HdL):(PS.rd [] s).hdr wj z=if 4+3 * wj<=s.length then some ((numL (s.take 4),⟨((s.drop 4).take wj).toArray⟩,⟨((s.drop (4+wj)).take wj).toArray⟩,⟨((s.drop (4+wj+wj)).take wj).toArray⟩),.rd (s.take (4+3 * wj)) (s.drop (4+3 * wj))) else none:=by
 rw [<-JdO]
 unfold PS.hdr
 rw [YS [] s 0 _ 4 (by omega)]
 by_cases h1:0+4<=s.length
 ·rw [if_pos h1]
  simp only
  rw [Ja4 [] s _ (0+4) wj h1]
  by_cases h2:0+4+wj<=s.length
  ·rw [if_pos h2]
   simp only
   rw [Ja4 [] s _ (0+4+wj) wj h2]
   by_cases h3:0+4+wj+wj<=s.length
   ·rw [if_pos h3]
    simp only
    rw [Ja4 [] s _ (0+4+wj+wj) wj h3]
    by_cases h4:0+4+wj+wj+wj<=s.length
    ·rw [if_pos h4,if_pos (by omega)]
     simp only [rdAt,List.drop_zero,List.nil_append,Nat.zero_add]
     rw [show 4+wj+wj+wj=4+3 * wj by omega]
    ·rw [if_neg h4,if_neg (by omega)]
   ·rw [if_neg h3,if_neg (by omega)]
  ·rw [if_neg h2,if_neg (by omega)]
 ·rw [if_neg h1,if_neg (by omega)]
theorem JdY {wj:Nat} {s:List UInt8}:∀(n i:Nat) {x:List TxL×Nat},i<=s.length->JX wj s n i=some x->x.2<=s.length
 | 0,i,x,hi,h=>by cases h;exact hi
 | n+1,i,x,hi,h=>by
  simp only [JX] at h
  cases ht:Xe wj s i with
  | none=>rw [ht] at h;cases h
  | some y=>
   obtain ⟨t,j⟩:=y
   rw [ht] at h
   simp only at h
   cases hr:JX wj s n j with
   | none=>rw [hr] at h;cases h
   | some z=>
    obtain ⟨ts,k⟩:=z
    rw [hr] at h
    cases h
    have:=JdY (x:=(ts,k)) n j (Jbg ht).1 hr
    exact this
theorem Jcj (wj:Nat) (q s:List UInt8):(match (PS.rd q s).body wj [] with | some (ts,.rd _ [])=>some ts | _=>none)=XJ wj s:=by
 rw [<-JdO]
 unfold PS.body XJ
 rw [YS q s 0 _ 1 (by omega)]
 by_cases h1:1<=s.length
 ·rw [if_pos (by omega)]
  simp only
  rw [Jaf s 0 (by omega)]
  by_cases h2:Jt s 0<=3
  ·rw [if_neg (by omega),if_pos ⟨h1,h2⟩,show YD [] (Jt s 0)=List.replicate (Jt s 0) ([],[]) from if_pos rfl,Jfq wj q s _ (0+1) (by omega)]
   cases ht:JX wj s (Jt s 0) (0+1) with
   | none=>rfl
   | some x=>
    obtain ⟨ts,j⟩:=x
    have hj:=JdY _ _ (by omega) ht
    simp only [Option.map_some,rdAt] at hj ⊢
    by_cases he:j=s.length
    ·rw [if_pos he,he,List.drop_length]
    ·rw [if_neg he]
     cases hd:s.drop j with
     | nil=>
      have:=congrArg List.length hd
      rw [List.length_drop] at this
      simp at this
      omega
     | cons a r=>rfl
  ·rw [if_pos (by omega),if_neg (λh=>h2 h.2)]
 ·rw [if_neg (by omega),if_neg (λh=>h1 h.1)]
def tipB (wj:Nat) (ch:Ch) (s:List UInt8):List UInt8:=beL ch.length 4 4++(dgW wj (72 :: ch.last.1.data.toList)).data.toList++(dgW wj (66 :: s)).data.toList
noncomputable def Xi (wj:Nat) (ch:Ch) (text:List UInt8):Except Er Ch:=
 if text.length<4+3 * wj then .error .form else match XJ wj (text.drop (4+3 * wj)) with
  | none=>.error .form
  | some ts=>if text.take (4+2 * wj) ≠ tipB wj ch (text.drop (4+3 * wj)) then .error .tip else match JA (dgW wj) ch.last.2 ts with
   | .error e=>.error e
   | .ok st=>if (text.drop (4+2 * wj)).take wj ≠ (JV (dgW wj) st).data.toList then .error .root else .ok (ch++[(⟨(text.take (4+3 * wj)).toArray⟩,st)])
theorem JaP {a:List UInt8} {b:BA}:(⟨a.toArray⟩:BA)=b↔a=b.data.toList:=by
 constructor
 ·rintro rfl;rfl
 ·rintro rfl;simp
theorem Jgr (wj:Nat) (hw:wj<=32) (ch:Ch) (hc:ch.length<2 ^ 32) (text:List UInt8):Jbd (dgW wj) wj ch text=Xi wj ch text:=by
 unfold Jbd Xi
 rw [JjA]
 by_cases hn:4+3 * wj<=text.length
 ·rw [if_pos hn,if_neg (by omega)]
  simp only
  have hb:=Jcj wj (text.take (4+3 * wj)) (text.drop (4+3 * wj))
  have hlen:text.length - (text.drop (4+3 * wj)).length=4+3 * wj:=by rw [List.length_drop];omega
  have htip:((numL (text.take 4),(⟨((text.drop 4).take wj).toArray⟩:BA),(⟨((text.drop (4+wj)).take wj).toArray⟩:BA),(⟨((text.drop (4+wj+wj)).take wj).toArray⟩:BA))=Jar (dgW wj) ch (text.drop (4+3 * wj)) ⟨((text.drop (4+wj+wj)).take wj).toArray⟩)↔text.take (4+2 * wj)=tipB wj ch (text.drop (4+3 * wj)):=by
   unfold Jar tipB
   have hd1:(dgW wj (72 :: ch.last.1.data.toList)).data.toList.length=wj:=by rw [QA];exact Jq wj hw _
   have hd2:(dgW wj (66 :: text.drop (4+3 * wj))).data.toList.length=wj:=by rw [QA];exact Jq wj hw _
   have hsp:text.take (4+2 * wj)=text.take 4++(text.drop 4).take wj++(text.drop (4+wj)).take wj:=by
    rw [show 4+2 * wj=4+wj+wj by omega,List.take_add,List.take_add]
   rw [hsp,Qw,Qw,Qw]
   constructor
   ·rintro ⟨e1,e2,e3,_⟩
    rw [JaP] at e2 e3
    rw [e2,e3]
    congr 2
    rw [<-e1]
    exact (Jcg _ 4 (by rw [QB];omega)).symm
   ·intro e
    have l1:(text.take 4++(text.drop 4).take wj).length=(beL ch.length 4 4++(dgW wj (72 :: ch.last.1.data.toList)).data.toList).length:=by
     simp only [Qe,QB,List.length_drop,Je,hd1];omega
    obtain ⟨e12,e3⟩:=List.append_inj e l1
    obtain ⟨e1,e2⟩:=List.append_inj e12 (by simp only [QB,Je];omega)
    refine ⟨?_,JaP.2 e2,JaP.2 e3,rfl⟩
    rw [e1,Jb9 ch.length 4 (by omega) 4 (Ql _),Nat.sub_self]
    simp
  cases hbb:(PS.rd (text.take (4+3 * wj)) (text.drop (4+3 * wj))).body wj [] with
  | none=>rw [hbb] at hb;simp only at hb ⊢;rw [<-hb]
  | some x=>
   obtain ⟨ts,p⟩:=x
   rw [hbb] at hb
   cases p with
   | wr d=>simp only at hb ⊢;rw [<-hb]
   | rd pre rest=>
    cases rest with
    | cons a r=>simp only at hb ⊢;rw [<-hb]
    | nil=>
     simp only at hb ⊢
     rw [<-hb]
     simp only
     by_cases ht:text.take (4+2 * wj)=tipB wj ch (text.drop (4+3 * wj))
     ·rw [if_neg (λh=>h (htip.2 ht)),if_neg (λh=>h ht)]
      cases JA (dgW wj) ch.last.2 ts with
      | error e=>rfl
      | ok st=>
       simp only
       rw [show 4+2 * wj=4+wj+wj by omega,hlen]
       by_cases hr:(text.drop (4+wj+wj)).take wj=(JV (dgW wj) st).data.toList
       ·rw [if_neg (λh=>h (JaP.2 hr)),if_neg (λh=>h hr)]
       ·rw [if_pos (λh=>hr (JaP.1 h)),if_pos hr]
     ·rw [if_pos (λh=>ht (htip.1 h)),if_pos ht]
 ·rw [if_neg hn,if_pos (by omega)]
open Tryz
set_option maxRecDepth 100000
set_option maxHeartbeats 2000000
open Go.RowKit

theorem ZK (s:BA) (i:Nat) (h:i<s.size):Jt s.data.toList i=s[i].toNat:=by
 unfold Jt
 rw [Qn,Qd (by rw [QA];exact h)]
 rfl
theorem Jjv (s:BA) (k:Nat) (hk:k<=8) (hs:k<=s.size) (w:World):
  Calls prog 112 #[.string s,.int .i64 (k:Int)] w λe w'=>e=.returned (.int .u64 ((numL (s.data.toList.take k):Nat):Int))/\Tch NoB w w':=by
 go_enter func112,ntmps112
 go_wp2
 go_loopw [5,6] (λn i wr=>∃j:Nat,j<=k/\i=.int .i64 (j:Int)/\n=.int .u64 ((numL (s.data.toList.take j):Nat):Int)/\Hid (Tch NoB w wr)) (λ_ i _=>k - (intOf i).toNat)
 case atStart=>exact ⟨0,by omega,rfl,rfl,Te _ _⟩
 case round=>
  obtain ⟨j,hj,rfl,rfl,HT⟩:=hrel
  by_cases hlt:j<k
  ·have hli:(j:Int)<(k:Int):=by omega
   have hjs:j<s.size:=by omega
   have hji:(j:Int)<(s.size:Int):=by omega
   have hN:=Ja0 (s.data.toList.take j)
   have hlj:(s.data.toList.take j).length=j:=by rw [QB,QA];have:s.data.size=s.size:=rfl;omega
   rw [hlj] at hN
   have h7:256 ^ j<=256 ^ 7:=Nat.pow_le_pow_right (by omega) (by omega)
   have HS:Hid (numL (s.data.toList.take (j+1))=numL (s.data.toList.take j) * 256+s[j].toNat):=by
    show numL _=_
    rw [QR (by rw [QA];exact hjs),Zi]
    rfl
   have hb:=UInt8.toNat_lt s[j]
   obtain ⟨x,hx⟩:∃x:Nat,s[j].toNat=x:=⟨_,rfl⟩
   rw [hx] at HS hb
   obtain ⟨N,hNe⟩:∃N,numL (s.data.toList.take j)=N:=⟨_,rfl⟩
   rw [hNe] at HS hN
   rw [hNe]
   have hN8:N<72057594037927936:=by omega
   have w1:IntKind.u64.wrap ((N:Int) * 256)=(N:Int) * 256:=by simp [IntKind.wrap,IntKind.bits,IntKind.signed];omega
   have w2:IntKind.u64.wrap (x:Int)=(x:Int):=by simp [IntKind.wrap,IntKind.bits,IntKind.signed];omega
   have w3:IntKind.u64.wrap ((N:Int) * 256+(x:Int))=(N:Int) * 256+(x:Int):=by simp [IntKind.wrap,IntKind.bits,IntKind.signed];omega
   clear hN h7 hlj hNe
   go_wp2
   go_roundw
   case rel=>exact ⟨j+1,by omega,by go_num,by rw [HS.o];congr 1,HT⟩
   case measure=>simp [intOf];omega
  ·obtain rfl:j=k:=by omega
   have hge:¬(j:Int)<(j:Int):=by omega
   obtain ⟨N,hNe⟩:∃N,numL (s.data.toList.take j)=N:=⟨_,rfl⟩
   rw [hNe]
   have HN:Hid (_=N):=hNe
   clear hNe
   go_wp2
   go_ret
   exact ⟨by rw [HN.o];rfl,HT.o⟩
def Jln (s:List UInt8) (i:Nat) (w:World) (e:Ending) (w':World):Prop:=
 Tch NoB w w'/\match JT s i with
 | none=>e=.returned (.tuple #[.slice none 0 0,.int .i64 (-1)])
 | some (l,n)=>∃v,e=.returned (.tuple #[v,.int .i64 (n:Int)])/\OOwn w.heap.size w' v l
theorem Jmc (s:BA) (i:Nat) (hi:i<=s.size) (hs:s.size<=10000000) (w:World):
  Calls prog 109 #[.string s,.int .i64 (i:Int)] w (Jln s.data.toList i w):=by
 have hsz:s.data.toList.length=s.size:=by rw [QA];rfl
 by_cases h1:i<s.size
 ·have h1i:(i:Int)<(s.size:Int):=by omega
  have h1n:¬(s.size:Int)<=(i:Int):=by omega
  have hbg:=ZK s i h1
  obtain ⟨c,hc⟩:∃c:Nat,s[i].toNat=c:=⟨_,rfl⟩
  have hcb:=UInt8.toNat_lt s[i]
  rw [hc] at hbg hcb
  have wc:IntKind.i64.wrap (c:Int)=(c:Int):=w63 _ (by omega) (by omega)
  by_cases h2:c<=3
  ·have h2i:¬3<(c:Int):=by omega
   have w9:IntKind.i64.wrap (9 * (c:Int))=9 * (c:Int):=w63 _ (by omega) (by omega)
   have wi:IntKind.i64.wrap ((i:Int)+1)=(i:Int)+1:=w63 _ (by omega) (by omega)
   have wt:IntKind.i64.wrap ((i:Int)+1+9 * (c:Int))=(i:Int)+1+9 * (c:Int):=w63 _ (by omega) (by omega)
   by_cases h3:i+1+9 * c<=s.size
   ·have h3i:¬(s.size:Int)<(i:Int)+1+9 * (c:Int):=by omega
    have HE:Hid (JT s.data.toList i=some (Ym s.data.toList (i+1) c,i+1+9 * c)):=by
     show JT _ _=_
     unfold JT
     rw [hbg,hsz,if_pos ⟨h1,h2,h3⟩]
    clear hbg hsz
    go_enter func109,ntmps109
    go_wp2
    go_loopw [6,7] (λvl j wr=>∃m:Nat,m<=c/\j=.int .i64 (m:Int)/\Hid (OOwn w.heap.size wr vl (Ym s.data.toList (i+1) m))/\Hid (Tch NoB w wr)) (λ_ j _=>c - (intOf j).toNat)
    case atStart=>exact ⟨0,by omega,rfl,OOwn.nil _ _,Te _ _⟩
    case round=>
     obtain ⟨m,hm,rfl,HOW,HT⟩:=hrel
     by_cases hlt:m<c
     ·have hli:(m:Int)<(c:Int):=by omega
      have w5:IntKind.i64.wrap (9 * (m:Int))=9 * (m:Int):=w63 _ (by omega) (by omega)
      have w6:IntKind.i64.wrap ((i:Int)+1+9 * (m:Int))=(i:Int)+1+9 * (m:Int):=w63 _ (by omega) (by omega)
      have p1:(0:Int)<=(i:Int)+1+9 * (m:Int):=by omega
      have p2:(i:Int)+1+9 * (m:Int)<=(s.size:Int):=by omega
      have p3:((i:Int)+1+9 * (m:Int)).toNat=i+1+9 * m:=by omega
      obtain ⟨P,hP⟩:∃P:BA,s.extract (i+1+9 * m) s.size=P:=⟨_,rfl⟩
      have hPl:P.data.toList=s.data.toList.drop (i+1+9 * m):=by
       rw [<-hP,ByteArray.data_extract,Array.toList_extract,List.extract_eq_take_drop,QS]
       rw [List.length_drop,QA]
       show s.size - _<=_
       omega
      have hPs:P.size=s.size - (i+1+9 * m):=by rw [<-hP,ByteArray.size_extract];omega
      have hP8:8<P.size:=by omega
      have hP8i:(8:Int)<(P.size:Int):=by omega
      have HNB:Hid (∀V,Calls prog 112 #[.string P,.int .i64 8] V λe w'=>e=.returned (.int .u64 (((outP s.data.toList (i+1+9 * m)).1:Nat):Int))/\Tch NoB V w'):=λV=>by
       have:=Jjv P 8 (by omega) (by omega) V
       rw [hPl] at this
       exact this
      obtain ⟨o8,ho8⟩:∃o8:Nat,P[8].toNat=o8:=⟨_,rfl⟩
      have HO8:Hid ((outP s.data.toList (i+1+9 * m)).2=o8):=by
       show Jt _ _=_
       rw [<-ho8,<-ZK P 8 hP8,hPl]
       unfold Jt
       rw [Qn,Qn,List.getElem?_drop]
      have HSN:Hid (Ym s.data.toList (i+1) (m+1)=Ym s.data.toList (i+1) m++[outP s.data.toList (i+1+9 * m)]):=Jf9 _ _ _
      have HPE:Hid (∃a,outP s.data.toList (i+1+9 * m)=(a,o8)/\(outP s.data.toList (i+1+9 * m)).1=a):=⟨_,by rw [<-HO8.o],rfl⟩
      obtain ⟨a8,hpe,hpa⟩:=HPE.o
      rw [hpe] at HSN
      rw [hpa] at HNB
      have HOL:Hid ((Ym s.data.toList (i+1) m).length+1<=1000000000):=by show List.length _+1<=_;simp [Ym];omega
      obtain ⟨na,nm,nc,hna⟩:∃na nm nc,u6=.slice na nm nc:=by obtain ⟨a,c,e⟩:=HOW.o.shape;exact ⟨_,_,_,e⟩
      subst hna
      clear hPl hPs hpe hpa HPE HO8
      go_upto_region 8 with fail
      clear hP
      go_region_held3 (λ_=>True) (trivial) ((first
       | (go_at_call 112;refine (HNB.o _).mono ?_;rintro _ w1 ⟨rfl,ht1⟩;have HT1:Hid (Tch NoB wr w1):=(Td NoB wr 1).trans ht1 (λ_ h=>.inl h);clear ht1)
       | (refine Jb3 rfl _ _ rfl rfl (HOW.o.tch (HT1.o.trans (Ta NoB w1 _) (λ_ h=>.inl h)) (λ_ _ h=>h)) _ _ [(a8,o8)] rfl (JgT w1 (a8,o8)) HOL.o (Qm HT.o.size (Qm HT1.o.size (Ta NoB w1 _).size)) ?_;intro v3 w3 hown3 hg3;have HOW3:Hid (OOwn _ w3 v3 _):=hown3;have HT3:Hid (Tch NoB w w3):=((HT.o.trans (HT1.o.trans (Ta NoB w1 _) (λ_ h=>.inl h)) (λ_ h=>.inl h)).trans (Tg hg3) (λj hj=>.inr (HOW.o.own j hj.symm).1));clear hown3 hg3)))
      all_goals
       go_wp2
       go_roundw
       case rel=>exact ⟨m+1,by omega,by go_num,by rw [HSN.o];exact HOW3,HT3⟩
       case measure=>simp [intOf];omega
     ·obtain rfl:m=c:=by omega
      have hge:¬(m:Int)<(m:Int):=by omega
      go_wp2_with fail
      go_region_held3 (λ_=>True) (trivial) (fail)
      all_goals
       go_wp2
       go_ret2
       refine ⟨HT.o.trans (Td NoB _ 1) (λ_ h=>.inl h),?_⟩
       rw [HE.o]
       exact ⟨_,by first | rfl | simp,HOW.o.tch (Td NoB _ 1) (λ_ _ h=>h)⟩
   ·have h3i:(s.size:Int)<(i:Int)+1+9 * (c:Int):=by omega
    have HE:Hid (JT s.data.toList i=none):=by
     show JT _ _=_
     unfold JT
     rw [hbg,hsz,if_neg (λh=>h3 h.2.2)]
    clear hbg hsz
    go_enter func109,ntmps109
    go_wp2
    go_ret2
    exact ⟨Te _ _,by rw [HE.o];rfl⟩
  ·have h2i:3<(c:Int):=by omega
   have HE:Hid (JT s.data.toList i=none):=by
    show JT _ _=_
    unfold JT
    rw [hbg,if_neg (λh=>h2 h.2.1)]
   clear hbg hsz
   go_enter func109,ntmps109
   go_wp2
   go_ret2
   exact ⟨Te _ _,by rw [HE.o];rfl⟩
 ·have h1n:(s.size:Int)<=(i:Int):=by omega
  have HE:Hid (JT s.data.toList i=none):=by
   show JT _ _=_
   unfold JT
   rw [hsz,if_neg (λh=>h1 h.1)]
  clear hsz
  go_enter func109,ntmps109
  go_wp2
  go_ret2
  exact ⟨Te _ _,by rw [HE.o];rfl⟩
