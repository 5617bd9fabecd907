import Derived.Test.YtighkdnooglfjaaGreatDoorBxRText
import Derived.Test.YtighkdnooglfjaaGreatDoorBxKRow
import Derived.Deep.RegionHeld3
namespace Go.Proofs.YtighkdnooglfjaaGreatDoor
open Tryz
set_option maxRecDepth 100000
set_option maxHeartbeats 2000000
open Go.RowKit

theorem JdV (l:List (Nat×Nat)) (k:Nat) (h:k<l.length):Jn l (k+1)=Jn l k+l[k].1:=by
 unfold Jn;rw [QR h];simp only [List.map_append,List.sum_append,List.map_cons,List.map_nil,List.sum_cons,List.sum_nil];omega
theorem Jlc (l:List (Nat×Nat)) (k:Nat):Jn l k<=Jn l l.length:=by
 unfold Jn
 rw [List.take_length]
 conv=>rhs;rw [<-List.take_append_drop k l]
 rw [List.map_append,List.sum_append]
 omega

theorem Jlw (k:List UInt8) (i:Nat) (hi:i<8 * k.length) (hl:k.length<=1000000) (w:World):
  Calls prog 253 #[.string ⟨k.toArray⟩,.int .i64 (i:Int)] w λe w'=>e=.returned (.int .i64 (bt k i:Int))/\Tch NoB w w':=by
 have hsz:(⟨k.toArray⟩:BA).size=k.length:=Jk k
 have hix:i / 8<(⟨k.toArray⟩:BA).size:=by omega
 have HB:Hid ((⟨k.toArray⟩:BA)[i / 8].toNat=(k.getD (i / 8) 0).toNat):=by
  show UInt8.toNat _=_
  congr 1
  simp [List.getD_eq_getElem?_getD,show i / 8<k.length by omega]
  rfl
 have hlt:=UInt8.toNat_lt (⟨k.toArray⟩:BA)[i / 8]
 have HBT:Hid (bt k i=(k.getD (i / 8) 0).toNat / 2 ^ (7 - i % 8) % 2):=rfl
 clear hsz
 generalize (⟨k.toArray⟩:BA)=tb at *
 have hq:((i:Int) / 8).toNat=i / 8:=by omega
 obtain ⟨x,hx⟩:∃x:Nat,tb[i / 8].toNat=x:=⟨_,rfl⟩
 rw [hx] at hlt HB
 have hwx:IntKind.i64.wrap (x:Int)=(x:Int):=Js _ (by omega) (by omega)
 go_enter func253,ntmps253
 go_wp2
 go_loopw [5,6] (λn j wr=>∃m:Nat,m<=7 - i % 8/\n=.int .i64 ((x / 2 ^ m:Nat):Int)/\j=.int .i64 ((i % 8+m:Nat):Int)/\Hid (Tch NoB w wr)) (λ_ j _=>7 - (intOf j).toNat)
 case atStart=>exact ⟨0,by omega,by simp,by simp,Te _ _⟩
 case round=>
  obtain ⟨m,hm,rfl,rfl,HT⟩:=hrel
  have hb8:i % 8<8:=Nat.mod_lt _ (by omega)
  have hle:x / 2 ^ m<=x:=Nat.div_le_self _ _
  have HS:Hid (x / 2 ^ (m+1)=x / 2 ^ m / 2):=by show x / 2 ^ (m+1)=_;rw [Nat.pow_succ,Nat.div_div_eq_div_mul]
  by_cases hlt2:i % 8+m<7
  ·have hli:((i % 8+m:Nat):Int)<7:=by omega
   have HI:Hid (i % 8+m<7):=hlt2
   generalize hy:x / 2 ^ m=y at *
   generalize hz:i % 8+m=z at *
   have HZ:Hid (i % 8+m=z):=hz
   clear hz hy
   go_wp2
   go_roundw
   case rel=>exact ⟨m+1,by have:=HI.o;have:=HZ.o;omega,by rw [HS.o];congr 1,by have:=HZ.o;go_num,HT⟩
   case measure=>have:=HI.o;simp [intOf];omega
  ·have hli:¬((i % 8+m:Nat):Int)<7:=by omega
   have HM:Hid (m=7 - i % 8):=(by omega:m=7 - i % 8)
   have HE:Hid (x / 2 ^ m % 2=bt k i):=by
    show x / 2 ^ m % 2=bt k i
    rw [HBT.o,HM.o,<-HB.o]
   generalize hy:x / 2 ^ m=y at *
   generalize i % 8+m=z at *
   go_wp2
   go_ret
   exact ⟨congrArg (λn=>Ending.returned (.int .i64 n)) (by rw [<-HE.o];omega),HT.o⟩
theorem JiZ {wj:Nat} {c d:BA×Int} (h1:Jo wj c) (h2:Jo wj d) (h:(keyS c).toList=(keyS d).toList):c=d:=by
 rw [ByteArray.toList_eq,ByteArray.toList_eq] at h
 exact Zh h1 h2 (by simpa [keyS] using h)
theorem JgX (wj:Nat) (v:Value) (l:List Held) (c:BA×Int) (w:World) (h:RhAt w v l) (hl:l.length<1000000000) (hok:∀h∈l,Jo wj h.1) (hc:Jo wj c):
  Calls prog 263 #[v,.string (keyS c)] w λe w'=>e=.returned (.int .i64 (XF l c))/\Tch NoB w w':=by
 obtain ⟨a,cc,rfl⟩:=h.shape
 have H:Hid (RhAt _ _ _):=h
 have HOK:Hid ((∀h∈l,Jo wj h.1)/\Jo wj c):=⟨hok,hc⟩
 clear h hok hc
 go_enter func263,ntmps263
 go_wp2
 go_loopw [5] (λi wr=>∃k:Nat,k<=l.length/\i=.int .i64 k/\Hid (Tch NoB w wr)/\Hid (∀j (hj:j<l.length),j<k->l[j].1 ≠ c)) (λi _=>l.length - (intOf i).toNat)
 case atStart=>exact ⟨0,by omega,rfl,Te _ _,λj _ h=>absurd h (by omega)⟩
 case round=>
  obtain ⟨k,hk,rfl,HT,HN⟩:=hrel
  by_cases hlt:k<l.length
  ·rcases H.out with ⟨e,e2⟩ | ⟨gi,oi,c2,e,⟨hgi,_⟩,hcell⟩
   ·rw [e2] at hlt;simp at hlt
   simp only [Qy,true_and] at e
   obtain ⟨rfl,rfl⟩:=e
   obtain ⟨q0,_,_⟩:=(hcell k hlt).tch HT.o hgi (λh=>h)
   have hlti:(k:Int)<(l.length:Int):=by omega
   clear hcell
   by_cases he:l[k].1=c
   ·have hs:((keyS l[k].1).toList == (keyS c).toList)=true:=by rw [he];simp
    have HF:Hid (Xr l c=some k):=Je0 hlt he HN.o
    clear he
    generalize keyS l[k].1=y at *
    generalize keyS c=z at *
    go_wp2
    go_ret
    exact ⟨by unfold XF;rw [HF.o];rfl,HT.o⟩
   ·have hs:((keyS l[k].1).toList == (keyS c).toList)=false:=by
     rw [beq_eq_false_iff_ne]
     exact λe=>he (JiZ (HOK.o.1 _ (Qx hlt)) HOK.o.2 e)
    have HN2:Hid (∀j (hj:j<l.length),j<k+1->l[j].1 ≠ c):=λj hj hjk=>by
     rcases Nat.lt_succ_iff_lt_or_eq.1 hjk with h | h
     ·exact HN.o j hj h
     ·subst h;exact he
    clear he
    generalize keyS l[k].1=y at *
    generalize keyS c=z at *
    go_wp2
    go_roundw
    case rel=>exact ⟨k+1,by omega,by go_num,HT,HN2⟩
    case measure=>simp [intOf];omega
  ·have hge:¬(k:Int)<(l.length:Int):=by omega
   have HF:Hid (Xr l c=none):=JiO λj hj=>HN.o j hj (by omega)
   generalize keyS c=z at *
   go_wp2
   go_ret
   exact ⟨by unfold XF;rw [HF.o];rfl,HT.o⟩
theorem Jjw (B:Nat) (v:Value) (l:List (Nat×Nat)) (w:World) (h:XE B w v l) (hl:l.length<1000000000):
  Calls prog 328 #[v] w λe w'=>e=.returned (.bool (decide (18446744073709551616<=Jn l l.length)))/\Tch NoB w w':=by
 obtain ⟨a,cc,rfl⟩:=h.shape
 have H:Hid (XE _ _ _ _):=h
 clear h
 go_enter func328,ntmps328
 go_wp2
 go_loopw [3,4] (λs i wr=>∃k:Nat,k<=l.length/\i=.int .i64 k/\s=.int .u64 ((18446744073709551615 - Jn l k:Nat):Int)/\Hid (Jn l k<=18446744073709551615)/\Hid (Tch NoB w wr)) (λ_ i _=>l.length - (intOf i).toNat)
 case atStart=>exact ⟨0,by omega,rfl,rfl,(by simp [Jn]:Jn l 0<=_),Te _ _⟩
 case round=>
  obtain ⟨k,hk,rfl,rfl,HS,HT⟩:=hrel
  by_cases hlt:k<l.length
  ·rcases H.out with ⟨e,e2⟩ | ⟨gi,oi,c2,e,_,hgi,hcell⟩
   ·rw [e2] at hlt;simp at hlt
   simp only [Qy,true_and] at e
   obtain ⟨rfl,rfl⟩:=e
   have q0:=(HT.o.cell (p:=⟨gi,oi+k * 2,none⟩) hgi (λh=>h)).trans (hcell k hlt).1
   have hlti:(k:Int)<(l.length:Int):=by omega
   have HN:Hid (Jn l (k+1)=Jn l k+l[k].1):=JdV l k hlt
   have HM:=Jlc l (k+1)
   have HM':Hid (_<=_):=HM
   clear hcell HM
   generalize l[k].1=y at *
   obtain ⟨f,hf⟩:∃f:Nat,f=18446744073709551615 - Jn l k:=⟨_,rfl⟩
   have HF:Hid (f=18446744073709551615 - Jn l k):=hf
   rw [<-hf]
   by_cases hy:f<y
   ·have hyi:(f:Int)<(y:Int):=by omega
    have HY:Hid (f<y):=hy
    clear hf hy
    go_wp2
    go_ret
    refine ⟨?_,HT.o⟩
    have h1:=HY.o;have h2:=HF.o;have h3:=HN.o;have h4:=HM'.out;have h5:=HS.o
    rw [decide_eq_true (by omega)];rfl
   ·have hyi:¬(f:Int)<(y:Int):=by omega
    have hwr:IntKind.u64.wrap ((f:Int) - (y:Int))=((f - y:Nat):Int):=by
     have:f<18446744073709551616:=by omega
     simp [IntKind.wrap,IntKind.bits,IntKind.signed];omega
    have HY:Hid (¬f<y):=hy
    clear hf hy
    go_wp2
    go_roundw
    case rel=>exact ⟨k+1,by omega,by go_num,by have h1:=HY.o;have h2:=HF.o;have h3:=HN.o;have h5:=HS.o;congr 1;omega,by have h1:=HY.o;have h2:=HF.o;have h3:=HN.o;have h5:=HS.o;show Jn l (k+1)<=_;omega,HT⟩
    case measure=>simp [intOf];omega
  ·have hge:¬(k:Int)<(l.length:Int):=by omega
   have HK:Hid (k=l.length):=(by omega:k=l.length)
   obtain ⟨f,hf⟩:∃f:Nat,f=18446744073709551615 - Jn l k:=⟨_,rfl⟩
   rw [<-hf]
   clear hf
   go_wp2
   go_ret
   refine ⟨?_,HT.o⟩
   have h1:=HS.o
   rw [HK.o] at h1
   rw [decide_eq_false (by omega)];rfl
theorem JgU (B:Nat) (v:Value) (l:List (Nat×Nat)) (w:World) (h:XE B w v l) (hl:l.length<1000000000):
  Calls prog 329 #[v] w λe w'=>e=.returned (.int .u64 ((Jn l l.length % 18446744073709551616:Nat):Int))/\Tch NoB w w':=by
 obtain ⟨a,cc,rfl⟩:=h.shape
 have H:Hid (XE _ _ _ _):=h
 clear h
 go_enter func329,ntmps329
 go_wp2
 go_loopw [3,4] (λs i wr=>∃k:Nat,k<=l.length/\i=.int .i64 k/\s=.int .u64 ((Jn l k % 18446744073709551616:Nat):Int)/\Hid (Tch NoB w wr)) (λ_ i _=>l.length - (intOf i).toNat)
 case atStart=>exact ⟨0,by omega,rfl,rfl,Te _ _⟩
 case round=>
  obtain ⟨k,hk,rfl,rfl,HT⟩:=hrel
  by_cases hlt:k<l.length
  ·rcases H.out with ⟨e,e2⟩ | ⟨gi,oi,c2,e,_,hgi,hcell⟩
   ·rw [e2] at hlt;simp at hlt
   simp only [Qy,true_and] at e
   obtain ⟨rfl,rfl⟩:=e
   have q0:=(HT.o.cell (p:=⟨gi,oi+k * 2,none⟩) hgi (λh=>h)).trans (hcell k hlt).1
   have hlti:(k:Int)<(l.length:Int):=by omega
   have HN:Hid (Jn l (k+1)=Jn l k+l[k].1):=JdV l k hlt
   clear hcell
   generalize l[k].1=y at *
   obtain ⟨f,hf⟩:∃f:Nat,f=Jn l k % 18446744073709551616:=⟨_,rfl⟩
   have HF:Hid (f=Jn l k % 18446744073709551616):=hf
   rw [<-hf]
   have hwr:IntKind.u64.wrap ((f:Int)+(y:Int))=(((f+y) % 18446744073709551616:Nat):Int):=by
    simp [IntKind.wrap,IntKind.bits,IntKind.signed]
   clear hf
   go_wp2
   go_roundw
   case rel=>exact ⟨k+1,by omega,by go_num,by rw [HN.o,HF.o];congr 1;omega,HT⟩
   case measure=>simp [intOf];omega
  ·have hge:¬(k:Int)<(l.length:Int):=by omega
   have HK:Hid (k=l.length):=(by omega:k=l.length)
   obtain ⟨f,hf⟩:∃f:Nat,f=Jn l k % 18446744073709551616:=⟨_,rfl⟩
   have HF:Hid (f=Jn l k % 18446744073709551616):=hf
   rw [<-hf]
   clear hf
   go_wp2
   go_ret
   exact ⟨by rw [HF.o,HK.o];rfl,HT.o⟩

theorem Jgc (h:Held) (w:World) (ho:h.2.2<256) (hk:(Jd h.1).length<=1000000):
  Calls prog 165 #[.agg #[.string (keyS h.1),.int .u64 ((h.2.1:Nat):Int),.int .u8 ((h.2.2:Nat):Int)]] w λe w'=>e=.returned (.string ⟨(76 :: (Jd h.1++outB h.2)).toArray⟩)/\Tch NoB w w':=by
 obtain ⟨c,a,o⟩:=h
 simp only at ho hk ⊢
 have HOT:Hid (∀V,Calls prog 164 #[.agg #[.int .u64 (a:Int),.int .u8 (o:Int)]] V λe w'=>e=.returned (.string ⟨(outB (a,o)).toArray⟩)/\Tch NoB V w'):=λV=>JdM a o V ho
 have h1:=JZ [76] (Jd c) (by simp;omega)
 have h2:=JZ ([76]++Jd c) (outB (a,o)) (by rw [Jcx];simp;omega)
 have HX:Hid ([76]++Jd c++outB (a,o)=76 :: (Jd c++outB (a,o))):=rfl
 have h1':∀W,(Op.stringOp .add (⟨#[76]⟩:BA) (keyS c)).run prog W=.ok (.string ⟨([76]++Jd c).toArray⟩) W:=h1
 clear h1
 generalize [76]++Jd c++outB (a,o)=X at *
 generalize [76]++Jd c=Y at *
 generalize outB (a,o)=Z at *
 generalize keyS c=ks at *
 go_enter func165,ntmps165
 go_wp2
 go_region_with (go_at_call 164;refine (HOT.o _).mono ?_;rintro _ w1 ⟨rfl,ht1⟩;have r1:w1.heap[w.heap.size]? =some (.cells #[.string ks,.int .u64 (a:Int),.int .u8 (o:Int)] 202):=(ht1.block _ (by first | (simp;done) | (simp;omega)) (λh=>h)).trans (Qf _ _);have c1:w1.cell? ⟨w.heap.size,0,none⟩=some (.string ks):=Ja r1;have HT1:Hid (Tch _ _ w1):=ht1;clear ht1 r1)
 all_goals
  go_wp2
  go_ret
  exact ⟨by rw [<-HX.o];rfl,(Tch.box w _).trans HT1.o noE⟩
theorem Jgb (b:Nat) (x y:List UInt8) (w:World) (hb:b<65536) (hx:x.length<=1000000) (hy:y.length<=1000000):
  Calls prog 168 #[.int .i64 (b:Int),.string ⟨x.toArray⟩,.string ⟨y.toArray⟩] w λe w'=>e=.returned (.string ⟨(78 :: (beL b 2 2++(x++y))).toArray⟩)/\Tch NoB w w':=by
 have HIN:Hid (∀V,Calls prog 171 #[.int .u64 (b:Int),.int .i64 2] V λe w'=>e=.returned (.string ⟨(beL b 2 2).toArray⟩)/\Tch NoB V w'):=λV=>Ya b 2 V (by omega)
 have hwr:IntKind.u64.wrap (b:Int)=(b:Int):=by simp [IntKind.wrap,IntKind.bits,IntKind.signed];omega
 have h1:=JZ [78] (beL b 2 2) (by simp [Je])
 have h2:=JZ ([78]++beL b 2 2) x (by simp [Je];omega)
 have h3:=JZ ([78]++beL b 2 2++x) y (by simp [Je];omega)
 have HX:Hid ([78]++beL b 2 2++x++y=78 :: (beL b 2 2++(x++y))):=by show _=_;simp
 have h1':∀W,(Op.stringOp .add (⟨#[78]⟩:BA) ⟨(beL b 2 2).toArray⟩).run prog W=.ok (.string ⟨([78]++beL b 2 2).toArray⟩) W:=h1
 clear h1
 generalize [78]++beL b 2 2++x++y=X at *
 generalize [78]++beL b 2 2++x=Y at *
 generalize [78]++beL b 2 2=Z at *
 generalize beL b 2 2=B at *
 go_enter func168,ntmps168
 go_wp2_with (go_at_call 171;refine (HIN.o _).mono ?_;rintro _ w1 ⟨rfl,ht1⟩;have HT1:Hid (Tch _ _ w1):=ht1;clear ht1)
 go_ret
 exact ⟨by rw [<-HX.o];rfl,HT1.o⟩

def Tr.text (d:List UInt8->BA):Tr->List UInt8
 | .leaf k o=>76 :: (k++outB o)
 | .br b l r=>78 :: (beL b 2 2++((l.dig d).data.toList++(r.dig d).data.toList))
theorem Tr.dig_text (d:List UInt8->BA) (t:Tr):t.dig d=d (t.text d):=by cases t <;> rfl
def Jgo (d:List UInt8->BA):Option Tr->List UInt8
 | none=>[69]
 | some t=>t.text d
theorem JcV (d:List UInt8->BA) (st:Option Tr):JV d st=d (Jgo d st):=by
 cases st with
 | none=>rfl
 | some t=>exact t.dig_text d
abbrev KO:=Key×(Nat×Nat)
def Fork (l:List KO) (b:Nat):Prop:=(∀x∈l,∀y∈l,∀i,i<b->bt x.1 i=bt y.1 i)/\∃x∈l,∃y∈l,bt x.1 b ≠ bt y.1 b
def side (l:List KO) (b v:Nat):List KO:=l.filter λx=>bt x.1 b=v
inductive Root (d:List UInt8->BA):List KO->List UInt8->Prop where
 | none:Root d [] [69]
 | one (k:Key) (o:Nat×Nat):Root d [(k,o)] (76 :: (k++outB o))
 | two (l:List KO) (b:Nat) (x y:List UInt8):Fork l b->Root d (side l b 0) x->Root d (side l b 1) y->Root d l (78 :: (beL b 2 2++((d x).data.toList++(d y).data.toList)))
theorem Fork.unique {l:List KO} {b b':Nat} (h:Fork l b) (h':Fork l b'):b=b':=by
 obtain ⟨p1,x,hx,y,hy,p2⟩:=h
 obtain ⟨q1,u,hu,v,hv,q2⟩:=h'
 rcases Nat.lt_trichotomy b b' with h | h | h
 ·exact absurd (q1 x hx y hy b h) p2
 ·exact h
 ·exact absurd (p1 u hu v hv b' h) q2
theorem Fork.two {l:List KO} {b:Nat} (h:Fork l b):2<=l.length:=by
 obtain ⟨_,x,hx,y,hy,h⟩:=h
 match l,hx,hy with
 | [],hx,_=>cases hx
 | [a],hx,hy=>simp only [Qt] at hx hy;rw [hx,hy] at h;exact absurd rfl h
 | _ :: _ :: _,_,_=>simp
theorem Root.of_tree {d:List UInt8->BA} (t:Tr):∀(l:List KO) (s:List UInt8),t.Wf->(∀x,x∈l↔x∈t.coins)->(l.map (·.1)).Nodup->Root d l s->s=t.text d:=by
 induction t with
 | leaf k o=>
  intro l s _ hm hn hr
  simp only [Tr.coins,Qt] at hm
  have hl:l=[(k,o)]:=by
   match l,hm,hn with
   | [],hm,_=>exact absurd ((hm (k,o)).2 rfl) (by simp)
   | [a],hm,_=>rw [(hm a).1 (by simp)]
   | a :: b :: r,hm,hn=>
    have e1:=(hm a).1 (by simp)
    have e2:=(hm b).1 (by simp)
    simp [e1,e2] at hn
  subst hl
  cases hr with
  | one=>rfl
  | two _ b x y hf _ _=>exact absurd hf.two (by simp)
 | br b lt rt ihl ihr=>
  intro l s hw hm hn hr
  obtain ⟨w1,w2,h0,h1,hs⟩:=hw
  have hf:Fork l b:=by
   obtain ⟨x,hx⟩:=List.exists_mem_of_ne_nil _ lt.coins_ne
   obtain ⟨y,hy⟩:=List.exists_mem_of_ne_nil _ rt.coins_ne
   refine ⟨λx hx y hy i hi=>hs x ((hm x).1 hx) y ((hm y).1 hy) i hi,x,(hm x).2 (by simp [Tr.coins,hx]),y,(hm y).2 (by simp [Tr.coins,hy]),?_⟩
   rw [h0 x hx,h1 y hy];decide
  have hl2:=hf.two
  cases hr with
  | none=>simp at hl2
  | one=>simp at hl2
  | two _ b' x y hf' hx hy=>
   obtain rfl:=hf.unique hf'
   have hx':=ihl (side l b 0) x w1 (λz=>by
    unfold side
    rw [QO,hm]
    simp only [Tr.coins,QE,decide_eq_true_iff]
    constructor
    ·rintro ⟨h | h,h2⟩
     ·exact h
     ·have:=h1 z h;omega
    ·intro h;exact ⟨.inl h,h0 z h⟩) (hn.sublist (List.Sublist.map _ List.filter_sublist)) hx
   have hy':=ihr (side l b 1) y w2 (λz=>by
    unfold side
    rw [QO,hm]
    simp only [Tr.coins,QE,decide_eq_true_iff]
    constructor
    ·rintro ⟨h | h,h2⟩
     ·have:=h0 z h;omega
     ·exact h
    ·intro h;exact ⟨.inr h,h1 z h⟩) (hn.sublist (List.Sublist.map _ List.filter_sublist)) hy
   rw [hx',hy',<-Tr.dig_text d lt,<-Tr.dig_text d rt];rfl
theorem Root.of_state {d:List UInt8->BA} {st:Option Tr} {l:List KO} {s:List UInt8} (hw:∀t,st=some t->t.Wf) (hm:∀x,x∈l↔x∈JS st) (hn:(l.map (·.1)).Nodup) (hr:Root d l s):s=Jgo d st:=by
 cases st with
 | none=>
  cases l with
  | nil=>cases hr with
   | none=>rfl
   | two _ b x y hf _ _=>exact absurd hf.two (by simp)
  | cons a r=>exact absurd ((hm a).1 (by simp)) (by simp [JS])
 | some t=>exact Root.of_tree t l s (hw t rfl) hm hn hr

theorem JjP (l:List KO) (b:Nat):(side l b 0).length+(side l b 1).length=l.length:=by
 unfold side
 induction l with
 | nil=>rfl
 | cons x r ih=>
  have h2:bt x.1 b=0\/bt x.1 b=1:=by have:=YO x.1 b;omega
  rcases h2 with h | h
  ·simp [h] at ih ⊢;omega
  ·simp [h] at ih ⊢;omega

def alkB (l:List Held) (b:Nat):Bool:=match l with
 | []=>true
 | h :: r=>r.all λx=>bt (Jd x.1) b == bt (Jd h.1) b
def koR (l:List Held):List KO:=l.map λh=>(Jd h.1,h.2)
theorem Zf (h0:Held) (r:List Held) (b:Nat):alkB (h0 :: r) b=true↔∀x∈h0 :: r,bt (Jd x.1) b=bt (Jd h0.1) b:=by
 unfold alkB
 simp only [List.all_eq_true,beq_iff_eq,List.mem_cons,forall_eq_or_imp,true_and]
theorem JiR (h0:Held) (r:List Held) (b:Nat) (hno:alkB (h0 :: r) b=false) (hyes:∀i,i<b->alkB (h0 :: r) i=true):Fork (koR (h0 :: r)) b:=by
 constructor
 ·intro x hx y hy i hi
  have h:=(Zf h0 r i).1 (hyes i hi)
  obtain ⟨u,hu,rfl⟩:=QL.1 hx
  obtain ⟨v,hv,rfl⟩:=QL.1 hy
  exact (h u hu).trans (h v hv).symm
 ·apply Classical.byContradiction
  intro hc
  have:alkB (h0 :: r) b=true:=(Zf h0 r b).2 λx hx=>by
   apply Classical.byContradiction
   intro hne
   exact hc ⟨_,QL.2 ⟨x,hx,rfl⟩,_,QL.2 ⟨h0,QN,rfl⟩,hne⟩
  rw [hno] at this
  cases this
theorem JiQ {wj:Nat} (h0 x:Held) (r:List Held) (hok:∀h∈h0 :: x :: r,Jo wj h.1) (hnd:((h0 :: x :: r).map (·.1)).Nodup):∃b,b<8 * (wj+1)/\alkB (h0 :: x :: r) b=false:=by
 have k0:=hok h0 (by simp)
 have kx:=hok x (by simp)
 have hne:Jd h0.1 ≠ Jd x.1:=λe=>by
  have:=Zh k0 kx e
  simp [this] at hnd
 obtain ⟨h1,h2,_⟩:=JgM (Jd h0.1) (Jd x.1) (by rw [JY k0,JY kx]) hne
 rw [JY k0] at h1
 refine ⟨_,h1,?_⟩
 cases ha:alkB (h0 :: x :: r) (fd (Jd h0.1) (Jd x.1)) with
 | false=>rfl
 | true=>exact absurd ((Zf h0 (x :: r) _).1 ha x (by simp)).symm h2
def sidL (l:List Held) (b v:Nat):List Held:=l.filter λh=>bt (Jd h.1) b=v
theorem Jcq (l:List Held) (b v:Nat):koR (sidL l b v)=side (koR l) b v:=by
 unfold koR sidL side
 rw [List.filter_map]
 rfl
theorem Jh0 (l:List Held) (x:Held) (b v:Nat):sidL (l++[x]) b v=if bt (Jd x.1) b=v then sidL l b v++[x] else sidL l b v:=by
 unfold sidL
 rw [List.filter_append]
 by_cases h:bt (Jd x.1) b=v
 ·rw [if_pos h,List.filter_cons_of_pos (by simpa using h)];rfl
 ·rw [if_neg h,List.filter_cons_of_neg (by simpa using h)];simp
theorem JjO (l:List Held) (b:Nat):(sidL l b 0).length+(sidL l b 1).length=l.length:=by
 have:=JjP (koR l) b
 rw [<-Jcq,<-Jcq] at this
 simpa [koR] using this
theorem Jk9 (h0:Held) (r:List Held) (b:Nat) (hno:alkB (h0 :: r) b=false):(sidL (h0 :: r) b 0).length<(h0 :: r).length/\(sidL (h0 :: r) b 1).length<(h0 :: r).length:=by
 have hl:=JjO (h0 :: r) b
 have hx:∃x∈h0 :: r,¬bt (Jd x.1) b=bt (Jd h0.1) b:=by
  apply Classical.byContradiction
  intro hc
  have:alkB (h0 :: r) b=true:=(Zf h0 r b).2 λx hx=>by
   apply Classical.byContradiction
   intro hne
   exact hc ⟨x,hx,hne⟩
  rw [hno] at this
  cases this
 obtain ⟨x,hx,hne⟩:=hx
 have b0:=YO (Jd h0.1) b
 have bx:=YO (Jd x.1) b
 have m0:h0∈sidL (h0 :: r) b (bt (Jd h0.1) b):=QO.2 ⟨QN,by simp⟩
 have mx:x∈sidL (h0 :: r) b (bt (Jd x.1) b):=QO.2 ⟨hx,by simp⟩
 have p0:=List.length_pos_of_mem m0
 have px:=List.length_pos_of_mem mx
 have h2:(bt (Jd h0.1) b=0/\bt (Jd x.1) b=1)\/(bt (Jd h0.1) b=1/\bt (Jd x.1) b=0):=by omega
 rcases h2 with ⟨e1,e2⟩ | ⟨e1,e2⟩
 ·rw [e1] at p0;rw [e2] at px;omega
 ·rw [e1] at p0;rw [e2] at px;omega
theorem Je2 {wj:Nat} (h0 x:Held) (r:List Held) (hok:∀h∈h0 :: x :: r,Jo wj h.1) (hnd:((h0 :: x :: r).map (·.1)).Nodup):∃b,b<8 * (wj+1)/\alkB (h0 :: x :: r) b=false/\∀i,i<b->alkB (h0 :: x :: r) i=true:=by
 obtain ⟨b,hb,hf⟩:=JiQ h0 x r hok hnd
 generalize 8 * (wj+1)=M at *
 generalize h0 :: x :: r=l at *
 clear hok hnd
 induction b using Nat.strongRecOn with
 | _ b ih=>
  by_cases hall:∀i,i<b->alkB l i=true
  ·exact ⟨b,hb,hf,hall⟩
  ·obtain ⟨i,hi⟩:=Classical.not_forall.1 hall
   obtain ⟨hib,hia⟩:=Classical.not_imp.1 hi
   exact ih i hib (by omega) (by simpa using hia)
theorem JhX {d:List UInt8->BA} (h0:Held) (r:List Held) (b:Nat) (hno:alkB (h0 :: r) b=false) (hyes:∀i,i<b->alkB (h0 :: r) i=true) {s t:List UInt8} (hs:Root d (koR (sidL (h0 :: r) b 0)) s) (ht:Root d (koR (sidL (h0 :: r) b 1)) t):
  Root d (koR (h0 :: r)) (78 :: (beL b 2 2++((d s).data.toList++(d t).data.toList))):=by
 rw [Jcq] at hs ht
 exact .two _ b s t (JiR h0 r b hno hyes) hs ht
theorem Jg4 {P:Held->Prop} (l:List Held) (b v:Nat) (h:∀x∈l,P x):∀x∈sidL l b v,P x:=λx hx=>h x (QO.1 hx).1
theorem Jgl (l:List Held) (b v:Nat) (h:(l.map (·.1)).Nodup):((sidL l b v).map (·.1)).Nodup:=h.sublist (List.Sublist.map _ List.filter_sublist)
theorem Root.rlen {wj:Nat} (hw:wj<=32) {l:List Held} (hok:∀h∈l,Jo wj h.1) {s:List UInt8} (h:Root (dgW wj) (koR l) s):s.length<=1000:=by
 have hd:∀y,(dgW wj y).data.toList.length=wj:=λy=>by
  have:=Jq wj hw y
  rw [QA];exact this
 generalize hk:koR l=kl at h
 cases h with
 | none=>simp
 | one k o=>
  have hm:(k,o)∈koR l:=by rw [hk];simp
  obtain ⟨x,hx,e⟩:=QL.1 hm
  have hl:=JY (hok x hx)
  have e1:Jd x.1=k:=congrArg Prod.fst e
  rw [e1] at hl
  simp only [Qp,Qe,hl,outB,Je]
  omega
 | two _ b x y hf _ _=>
  simp only [Qp,Qe,Je,hd]
  omega
theorem JdD {wj:Nat}:∀(l:List Held),(∀h∈l,Jo wj h.1)->(l.map (·.1)).Nodup->((koR l).map (·.1)).Nodup
 | [],_,_=>by simp [koR]
 | x :: r,hok,hnd=>by
  simp only [koR,List.map_cons,List.nodup_cons] at hnd ⊢
  refine ⟨λhm=>hnd.1 ?_,JdD r (λh hh=>hok h (by simp [hh])) hnd.2⟩
  obtain ⟨y,hy,e⟩:=QL.1 hm
  obtain ⟨z,hz,rfl⟩:=QL.1 hy
  have:=Zh (hok z (by simp [hz])) (hok x (by simp)) e
  exact QL.2 ⟨z,hz,this⟩
theorem JdR {wj:Nat} {d:List UInt8->BA} {st:Option Tr} {l:List Held} (B:Book wj st l) {s:List UInt8} (h:Root d (koR l) s):s=Jgo d st:=by
 refine Root.of_state B.wf (λx=>?_) (JdD l (λh hh=>(B.ok h hh).1) B.nodup) h
 obtain ⟨k,o⟩:=x
 rw [B.mem k o]
 unfold koR
 rw [QL]
 constructor
 ·rintro ⟨y,hy,e⟩
  exact ⟨y,hy,congrArg Prod.fst e,congrArg Prod.snd e⟩
 ·rintro ⟨y,hy,e1,e2⟩
  exact ⟨y,hy,by rw [e1,e2]⟩

theorem Jmb (wj b0:Nat) (hw:wj<=32) (v:Value) (h0:Held) (r:List Held) (w:World) (hv:RhAt w v (h0 :: r)) (hco:∀h∈h0 :: r,Jo wj h.1) (hlen:r.length<=900000000) (hb:b0<8 * (wj+1)) (hno:alkB (h0 :: r) b0=false) (hyes:∀i,i<b0->alkB (h0 :: r) i=true):
  Calls prog 166 #[v] w λe w'=>e=.returned (.int .i64 (b0:Int))/\Tch NoB w w':=by
 rcases hv with ⟨_,e⟩ | ⟨g,o,c,rfl,⟨hg,_⟩,hcell⟩
 ·cases e
 have HBT:Hid (∀V (c:BA×Int) (b:Nat),Jo wj c->b<8 * (wj+1)->Calls prog 253 #[.string (keyS c),.int .i64 (b:Int)] V λe w'=>e=.returned (.int .i64 (bt (Jd c) b:Int))/\Tch NoB V w'):=λV c b hc hb=>by
  have hl:=JY hc
  exact Jlw (Jd c) b (by rw [hl];exact hb) (by rw [hl];omega) V
 have HC:Hid (∀(i:Nat) (h:i<(h0 :: r).length),Jo wj (h0 :: r)[i].1/\∀V,Tch NoB w V->V.cell? ⟨g,o+i * 3,none⟩=some (.string (keyS (h0 :: r)[i].1))):=λi h=>⟨hco _ (Qx h),λV hV=>((hcell i h).tch hV hg (λh=>h)).1⟩
 have HSZ:Hid ((keyS h0.1).size=wj+1):=by
  show ByteArray.size _=_
  unfold keyS
  rw [Jk,JY (hco h0 (by simp))]
 have HNO:Hid (alkB (h0 :: r) b0=false):=hno
 have HYES:Hid (∀i,i<b0->alkB (h0 :: r) i=true):=hyes
 have HK0:Hid (∀V,Tch NoB w V->V.cell? ⟨g,o,none⟩=some (.string (keyS h0.1))):=λV hV=>by
  have:=(HC.o 0 (by simp)).2 V hV
  simpa using this
 have HCO:Hid (Jo wj h0.1):=hco h0 (by simp)
 have hn:(h0 :: r).length=r.length+1:=rfl
 rw [hn]
 clear hcell hco hn hno hyes
 go_enter func166,ntmps166
 go_wp2
 go_loopw [3] (λi wr=>∃k:Nat,k<=b0/\i=.int .i64 (k:Int)/\Hid (Tch NoB w wr)) (λi _=>b0+1 - (intOf i).toNat)
 case atStart=>exact ⟨0,Nat.zero_le _,rfl,Te _ _⟩
 case round=>
  obtain ⟨k,hk,rfl,HT⟩:=hrel
  have z0:=HK0.o wr HT.o
  have hsz:=HSZ.o
  have hw8:IntKind.i64.wrap (8 * ((keyS h0.1).size:Int))=8 * ((wj:Int)+1):=by rw [hsz,Js _ (by omega) (by omega)];omega
  have hlt:(k:Int)<8 * ((wj:Int)+1):=by omega
  clear hsz
  go_upto_region 4 with fail
  go_wp2
  go_loopw [4] (λi wx=>∃m:Nat,m<=r.length/\i=.int .i64 ((m:Int)+1)/\Hid (∀j (hj:j<r.length),j<m->bt (Jd r[j].1) k=bt (Jd h0.1) k)/\Hid (Tch NoB w wx)) (λi _=>r.length+1 - (intOf i).toNat)
  case atStart=>exact ⟨0,Nat.zero_le _,rfl,λj _ h=>absurd h (by omega),HT⟩
  case round=>
   clear z0 HT hw8 hlt
   obtain ⟨m,hm,rfl,HA,HT⟩:=hrel
   by_cases hgo:m<r.length
   ·have hki:(m:Int)+1<((r.length+1:Nat):Int):=by omega
    obtain ⟨okk,ck⟩:=HC.o (m+1) (by simp;omega)
    have hxe:(h0 :: r)[m+1]'(by simp;omega)=r[m]:=rfl
    rw [hxe] at okk ck
    obtain ⟨x,hx⟩:∃x:Held,x=r[m]:=⟨_,rfl⟩
    rw [<-hx] at okk ck
    have HO:Hid (Jo wj h0.1/\Jo wj x.1):=⟨HCO.o,okk⟩
    have hkb:k<8 * (wj+1):=by omega
    have HBX:Hid (∀V,Calls prog 253 #[.string (keyS x.1),.int .i64 (k:Int)] V λe w'=>e=.returned (.int .i64 (bt (Jd x.1) k:Int))/\Tch NoB V w'):=λV=>HBT.o V x.1 k okk hkb
    have HB0:Hid (∀V,Calls prog 253 #[.string (keyS h0.1),.int .i64 (k:Int)] V λe w'=>e=.returned (.int .i64 (bt (Jd h0.1) k:Int))/\Tch NoB V w'):=λV=>HBT.o V h0.1 k HCO.o hkb
    have HCC:Hid (∀V,Tch NoB w V->V.cell? ⟨g,o,none⟩=some (.string (keyS h0.1))/\V.cell? ⟨g,o+(m+1) * 3,none⟩=some (.string (keyS x.1))):=λV hV=>⟨HK0.o V hV,ck V hV⟩
    have HNX:Hid (bt (Jd x.1) k=bt (Jd h0.1) k->∀j (hj:j<r.length),j<m+1->bt (Jd r[j].1) k=bt (Jd h0.1) k):=λe j hj hjm=>by
     rcases Nat.lt_succ_iff_lt_or_eq.1 hjm with h | h
     ·exact HA.o j hj h
     ·subst h;rw [<-hx];exact e
    have HKB:Hid (¬bt (Jd x.1) k=bt (Jd h0.1) k->k=b0):=λe=>by
     rcases Nat.lt_or_eq_of_le hk with h | h
     ·exact absurd ((Zf h0 r k).1 (HYES.o k h) x (by rw [hx];exact QQ _ (Qx hgo))) e
     ·exact h
    obtain ⟨x0,xk⟩:=HCC.o wr HT.o
    have hk0:(0:Int)<=(m:Int)+1:=by omega
    have HGO:Hid (m<r.length):=hgo
    clear okk ck hxe hx hgo HA
    go_upto_region 7 with fail
    go_cut [34] (λv wx=>v=.bool (decide (¬bt (Jd x.1) k=bt (Jd h0.1) k))/\Hid (Tch NoB w wx))
    case first=>
     have hkt:((m:Int)+1).toNat=m+1:=by omega
     have HTd:Hid (Tch NoB w wr.drew):=HT.o.trans (Td _ wr 1) (λ_ h=>.inl h)
     generalize keyS x.1=kx at *
     generalize keyS h0.1=kh at *
     go_region_held3 (λV=>V.cell? ⟨g,o,none⟩=some (.string kh)/\V.cell? ⟨g,o+(m+1) * 3,none⟩=some (.string kx)) (go_keep) ((first | (go_at_call_of 253 (Value.string kx);refine (HBX.o _).mono ?_;rintro _ w5 ⟨rfl,ht5⟩;have HT5:Hid (Tch NoB w w5):=HTd.o.trans ht5 (λ_ h=>.inl h);obtain ⟨y0,yk⟩:=HCC.o w5 HT5.o;clear ht5) | (go_at_call_of 253 (Value.string kh);refine (HB0.o _).mono ?_;rintro _ w6 ⟨rfl,ht6⟩;have HT6:Hid (Tch NoB w w6):=HT5.o.trans ht6 (λ_ h=>.inl h);obtain ⟨z0,zk⟩:=HCC.o w6 HT6.o;clear ht6)))
     all_goals
      go_wp2
      go_meet
      refine ⟨?_,HT6⟩
      rw [Value.bool.injEq,Bool.eq_iff_iff]
      simp only [bne_iff_ne,ne_eq,decide_eq_true_eq]
      omega
    case rest=>
    obtain ⟨rfl,HT6⟩:=hcut
    obtain ⟨w6,hw6⟩:∃w6,w6=wc:=⟨wc,rfl⟩
    subst hw6
    clear HCC x0 xk
    by_cases hne:bt (Jd x.1) k=bt (Jd h0.1) k
    ·have hd:(decide (¬bt (Jd x.1) k=bt (Jd h0.1) k))=false:=by simp [hne]
     rw [hd]
     have HN:=HNX.o hne
     have HN2:Hid (_:Prop):=HN
     clear HN
     go_wp2
     go_roundw
     case rel=>exact ⟨m+1,HGO.o,by have:=HGO.o;go_num,HN2,HT6⟩
     case measure=>have:=HGO.o;simp [intOf];omega
    ·have hd:(decide (¬bt (Jd x.1) k=bt (Jd h0.1) k))=true:=by simp [hne]
     rw [hd]
     have HN:Hid (k=b0):=HKB.o hne
     go_wp2
     go_ret
     exact ⟨by rw [<-HN.o];rfl,HT6.o⟩
   ·have hge:¬(m:Int)+1<((r.length+1:Nat):Int):=by omega
    have HKL:Hid (k<b0):=by
     rcases Nat.lt_or_eq_of_le hk with h | h
     ·exact h
     ·subst h
      have h2:=(Zf h0 r k).2 λx hx=>by
       rcases List.mem_cons.1 hx with rfl | hx
       ·rfl
       ·obtain ⟨j,hj,rfl⟩:=List.getElem_of_mem hx
        exact HA.o j hj (by omega)
      rw [HNO.o] at h2
      cases h2
    clear HA
    go_wp2
    go_roundw
    case rel=>exact ⟨k+1,HKL.o,by go_num,HT⟩
    case measure=>have:=HKL.o;simp [intOf];omega
theorem Jmd (wj b u:Nat) (hw:wj<=32) (v:Value) (l:List Held) (w:World) (hv:RhAt w v l) (hco:∀h∈l,Jo wj h.1) (hlen:l.length<=900000000) (hb:b<8 * (wj+1)):
  Calls prog 167 #[v,.int .i64 (b:Int),.int .i64 (u:Int)] w λe w'=>∃v',e=.returned v'/\ROwn w.heap.size w' v' (sidL l b u)/\Tch NoB w w':=by
 obtain ⟨a,cc,rfl⟩:=hv.shape
 have H:Hid (RhAt _ _ _):=hv
 have HBT:Hid (∀V (c:BA×Int),Jo wj c->Calls prog 253 #[.string (keyS c),.int .i64 (b:Int)] V λe w'=>e=.returned (.int .i64 (bt (Jd c) b:Int))/\Tch NoB V w'):=λV c hc=>by
  have hl:=JY hc
  exact Jlw (Jd c) b (by rw [hl];exact hb) (by rw [hl];omega) V
 have HCO:Hid (∀h∈l,Jo wj h.1):=hco
 clear hv hco
 go_enter func167,ntmps167
 go_wp2
 go_loopw [7,8] (λvo i wr=>∃k:Nat,k<=l.length/\i=.int .i64 (k:Int)/\Hid (ROwn w.heap.size wr vo (sidL (l.take k) b u))/\Hid (Tch NoB w wr)) (λ_ i _=>l.length - (intOf i).toNat)
 case atStart=>exact ⟨0,Nat.zero_le _,rfl,ROwn.nil _ _,Te _ _⟩
 case round=>
  obtain ⟨k,hk,rfl,HOW,HT⟩:=hrel
  by_cases hlt:k<l.length
  ·rcases H.out with ⟨e,e2⟩ | ⟨gi,oi,c2,e,⟨hgi,_⟩,hcell⟩
   ·rw [e2] at hlt;simp at hlt
   simp only [Qy,true_and] at e
   obtain ⟨rfl,rfl⟩:=e
   obtain ⟨x,hx⟩:∃x:Held,l[k]=x:=⟨_,rfl⟩
   have HCL:Hid (∀V,Tch NoB w V->Za V gi (oi+k * 3) x):=λV hV=>by have:=(hcell k hlt).tch hV hgi (λh=>h);rw [hx] at this;exact this
   have HBX:=λV=>HBT.o V x.1 (HCO.o x (by rw [<-hx];exact Qx hlt))
   have HBX':Hid (∀V,Calls _ _ _ V _):=HBX
   have HS:Hid (sidL (l.take (k+1)) b u=if bt (Jd x.1) b=u then sidL (l.take k) b u++[x] else sidL (l.take k) b u):=by
    show sidL _ _ _=_
    rw [QR hlt,hx,Jh0]
   have HLN:Hid ((sidL (l.take k) b u).length+1<=1000000000):=by
    show List.length _+1<=_
    have h1:(sidL (l.take k) b u).length<=(l.take k).length:=List.length_filter_le _ _
    rw [QB] at h1
    omega
   have hlti:(k:Int)<(l.length:Int):=by omega
   obtain ⟨q0,q1,q2⟩:=HCL.o wr HT.o
   clear hcell HBX
   obtain ⟨va,vm,vc,hva⟩:∃va vm vc,u7=.slice va vm vc:=by obtain ⟨a,c,e⟩:=HOW.o.shape;exact ⟨_,_,_,e⟩
   subst hva
   have HRX:Hid (∀W:World,RhAt (W.alloc (.cells #[.string (keyS x.1),.int .u64 ((x.2.1:Nat):Int),.int .u8 ((x.2.2:Nat):Int)] 202)) (.slice (some ⟨W.heap.size,0,none⟩) 1 1) [x]):=λW=>Jgj W x
   by_cases hbu:bt (Jd x.1) b=u
   ·have hbi:(bt (Jd x.1) b:Int)=(u:Int):=by omega
    rw [if_pos hbu] at HS
    generalize bt (Jd x.1) b=bx at *
    go_wp2_with (first | (go_at_call 253;refine (HBX'.out _).mono ?_;rintro _ w1 ⟨rfl,ht1⟩;have HT1:Hid (Tch NoB wr w1):=ht1;obtain ⟨y0,y1,y2⟩:=HCL.o w1 (HT.o.trans ht1 (λ_ h=>.inl h));clear ht1) | (at_builtin;refine Ys rfl _ _ rfl rfl (HOW.o.tch (HT1.o.trans (Ta NoB w1 _) (λ_ h=>.inl h)) (λ_ _ h=>h)) _ [x] rfl (HRX.o w1) HLN.o (Qm HT.o.size (Qm HT1.o.size (Ta NoB w1 _).size)) ?_;intro v3 w3 hown3 hg3;have HOW3:Hid (ROwn _ w3 v3 _):=hown3;have HG3:Hid (World.grownBy _ w3 _):=hg3;clear hown3 hg3))
    go_roundw
    case rel=>exact ⟨k+1,by omega,by go_num,by rw [HS.o];exact HOW3,HOW.o.tch (HT1.o.trans (Ta NoB w1 _) (λ_ h=>.inl h)) (λ_ _ h=>h) |>.grow HG3.o (Ql _) (HT.o.trans (HT1.o.trans (Ta NoB w1 _) (λ_ h=>.inl h)) (λ_ h=>.inl h))⟩
    case measure=>simp [intOf];omega
   ·have hbi:¬(bt (Jd x.1) b:Int)=(u:Int):=by omega
    rw [if_neg hbu] at HS
    generalize bt (Jd x.1) b=bx at *
    go_wp2_with (first | (go_at_call 253;refine (HBX'.out _).mono ?_;rintro _ w1 ⟨rfl,ht1⟩;have HT1:Hid (Tch NoB wr w1):=ht1;clear ht1))
    go_roundw
    case rel=>exact ⟨k+1,by omega,by go_num,by rw [HS.o];exact HOW.o.tch HT1.o (λ_ _ h=>h),HT.o.trans HT1.o (λ_ h=>.inl h)⟩
    case measure=>simp [intOf];omega
  ·have hge:¬(k:Int)<(l.length:Int):=by omega
   have HE:Hid (l.take k=l):=QS (by omega)
   go_wp2
   go_ret
   exact ⟨_,rfl,by have:=HOW.o;rw [HE.o] at this;exact this,HT.o⟩
