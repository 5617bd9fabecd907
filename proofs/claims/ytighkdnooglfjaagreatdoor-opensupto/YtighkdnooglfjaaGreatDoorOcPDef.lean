import Derived.Test.YtighkdnooglfjaaGreatDoorOcRd
import Derived.Test.YtighkdnooglfjaaGreatDoorOcMDef
namespace Go.Proofs.YtighkdnooglfjaaGreatDoor

def PS.out (a o:Nat) (p:PS):Option ((Nat×Nat)×PS):=
 match p.num a 8 with
 | none=>none
 | some (a',p1)=>match p1.num o 1 with
  | none=>none
  | some (o',p2)=>some ((a',o'),p2)
def JD (n:Int):Nat:=(n % 18446744073709551616).toNat
def PS.coin (wd:Nat) (c:BA×Int) (p:PS):Option ((BA×Int)×PS):=
 match p.txt c.1.data.toList wd with
 | none=>none
 | some (t,p1)=>match p1.num (JD c.2) 1 with
  | none=>none
  | some (m,p2)=>if m<3 then some ((⟨t.toArray⟩,(m:Int)),p2) else none
def PS.coins (wd:Nat):List (BA×Int)->PS->Option (List (BA×Int)×PS)
 | [],p=>some ([],p)
 | x :: r,p=>match p.coin wd x with
  | none=>none
  | some (y,p1)=>match PS.coins wd r p1 with
   | none=>none
   | some (ys,p2)=>some (y :: ys,p2)
def PS.outs:List (Nat×Nat)->PS->Option (List (Nat×Nat)×PS)
 | [],p=>some ([],p)
 | x :: r,p=>match p.out x.1 x.2 with
  | none=>none
  | some (y,p1)=>match PS.outs r p1 with
   | none=>none
   | some (ys,p2)=>some (y :: ys,p2)
def YI (l:List (BA×Int)) (cnt:Nat):List (BA×Int):=if l=[] then List.replicate cnt (⟨#[]⟩,0) else l
def YJ (l:List (Nat×Nat)) (cnt:Nat):List (Nat×Nat):=if l=[] then List.replicate cnt (0,0) else l
def PS.listC (wd least most:Nat) (l:List (BA×Int)) (p:PS):Option (List (BA×Int)×PS):=
 match p.num l.length 1 with
 | none=>none
 | some (cnt,p1)=>if cnt<least\/most<cnt then none else PS.coins wd (YI l cnt) p1
def PS.listO (least most:Nat) (l:List (Nat×Nat)) (p:PS):Option (List (Nat×Nat)×PS):=
 match p.num l.length 1 with
 | none=>none
 | some (cnt,p1)=>if cnt<least\/most<cnt then none else PS.outs (YJ l cnt) p1
abbrev TxL:=List (BA×Int)×List (Nat×Nat)
def PS.tx (wd:Nat) (t:TxL) (p:PS):Option (TxL×PS):=
 match p.listC wd 1 3 t.1 with
 | none=>none
 | some (ys,p1)=>match p1.listO 0 3 t.2 with
  | none=>none
  | some (zs,p2)=>some ((ys,zs),p2)
def PS.txs (wd:Nat):List TxL->PS->Option (List TxL×PS)
 | [],p=>some ([],p)
 | x :: r,p=>match p.tx wd x with
  | none=>none
  | some (y,p1)=>match PS.txs wd r p1 with
   | none=>none
   | some (ys,p2)=>some (y :: ys,p2)
def ZW (ts:List TxL) (cnt:Nat):List TxL:=if ts=[] then List.replicate cnt ([],[]) else ts
def PS.body (wd:Nat) (ts:List TxL) (p:PS):Option (List TxL×PS):=
 match p.num ts.length 1 with
 | none=>none
 | some (cnt,p1)=>if 3<cnt then none else PS.txs wd (ZW ts cnt) p1
def PS.hdr (wd:Nat) (h:Nat×BA×BA×BA) (p:PS):Option ((Nat×BA×BA×BA)×PS):=
 match p.num h.1 4 with
 | none=>none
 | some (n,p1)=>match p1.txt h.2.1.data.toList wd with
  | none=>none
  | some (t1,p2)=>match p2.txt h.2.2.1.data.toList wd with
   | none=>none
   | some (t2,p3)=>match p3.txt h.2.2.2.data.toList wd with
    | none=>none
    | some (t3,p4)=>some ((n,⟨t1.toArray⟩,⟨t2.toArray⟩,⟨t3.toArray⟩),p4)
def JI (l:List (Nat×Nat)) (k:Nat):Nat:=((l.take k).map (·.1)).sum
def Xr (l1 l2:List (Nat×Nat)):Prop:=18446744073709551616<=JI l1 l1.length\/18446744073709551616<=JI l2 l2.length\/JI l1 l1.length<JI l2 l2.length


structure Rt {α:Type} (fw fr:PS->Option (α×PS)) (y:α) (bs:List UInt8):Prop where
 wr:∀d,fw (.wr d)=some (y,.wr (d++bs))
 rd:∀q r,fr (.rd q (bs++r))=some (y,.rd (q++bs) r)
 cut:∀q j,j<bs.length->fr (.rd q (bs.take j))=none
theorem Rt.ret {α:Type} (y:α) (fw fr:PS->Option (α×PS)) (hw:∀p,fw p=some (y,p)) (hr:∀p,fr p=some (y,p)):Rt fw fr y []:=
 ⟨λd=>by rw [hw,QC],λq r=>by rw [QC];exact hr _,λq j hj=>absurd hj (by simp)⟩
theorem Rt.bind {α β:Type} {f f':PS->Option (α×PS)} {K K':α->PS->Option (β×PS)} {F F':PS->Option (β×PS)} {a:α} {y:β} {b1 b2:List UInt8}
  (hf:Rt f f' a b1) (hk:Rt (K a) (K' a) y b2) (hF:∀p,F p=(f p).bind λq=>K q.1 q.2) (hF':∀p,F' p=(f' p).bind λq=>K' q.1 q.2):Rt F F' y (b1++b2):=by
 refine ⟨λd=>?_,λq r=>?_,λq j hj=>?_⟩
 ·rw [hF,hf.wr];simp only [Qu];rw [hk.wr,Qs]
 ·rw [hF',Qs,hf.rd];simp only [Qu];rw [hk.rd,Qs]
 ·rw [hF']
  by_cases h:j<b1.length
  ·rw [List.take_append_of_le_length (by omega),hf.cut q j h];rfl
  ·have e:(b1++b2).take j=b1++b2.take (j - b1.length):=by rw [List.take_append];rw [QQ (by omega)]
   rw [e,hf.rd];simp only [Qu]
   exact hk.cut _ _ (by rw [Qe] at hj;omega)
theorem Jas (x k:Nat) (h:x<2 ^ (8 * k)):∀j,j<=k->numL (beL x k j)=x / 2 ^ (8 * (k - j)):=by
 intro j
 induction j with
 | zero=>intro _;simp only [beL,Nat.sub_zero];rw [Nat.div_eq_of_lt h];rfl
 | succ j ih=>
  intro hj
  simp only [beL]
  rw [Jax,ih (by omega)]
  have e:8 * (k - j)=8 * (k - 1 - j)+8:=by omega
  have e2:k - (j+1)=k - 1 - j:=by omega
  rw [e,e2,Nat.pow_add,<-Nat.div_div_eq_div_mul]
  generalize x / 2 ^ (8 * (k - 1 - j))=y
  rw [UInt8.toNat_ofNat']
  omega
theorem XL (x k z:Nat) (h:x<2 ^ (8 * k)):Rt (PS.num x k) (PS.num z k) x (beL x k k):=by
 have hn:numL (beL x k k)=x:=by rw [Jas x k h k (Ql _),Nat.sub_self];simp
 have hl:=Je x k k
 refine ⟨λd=>?_,λq r=>?_,λq j hj=>?_⟩
 ·simp only [PS.num];rw [if_pos (Nat.div_eq_of_lt h)]
 ·simp only [PS.num,Qe];rw [if_pos (by omega)]
  rw [List.take_append_of_le_length (by omega),QQ (by omega),hn,List.drop_append_of_le_length (by omega),List.drop_eq_nil_of_le (by omega)];rfl
 ·simp only [PS.num];rw [if_neg (by rw [QB];omega)]
theorem Zv (s z:List UInt8) (k:Nat) (h:s.length=k):Rt (PS.txt s k) (PS.txt z k) s s:=by
 refine ⟨λd=>?_,λq r=>?_,λq j hj=>?_⟩
 ·simp only [PS.txt];rw [if_pos h]
 ·simp only [PS.txt,Qe];rw [if_pos (by omega)]
  rw [List.take_append_of_le_length (by omega),QQ (by omega),List.drop_append_of_le_length (by omega),List.drop_eq_nil_of_le (by omega)];rfl
 ·simp only [PS.txt];rw [if_neg (by rw [QB];omega)]

def outB (o:Nat×Nat):List UInt8:=beL o.1 8 8++beL o.2 1 1
def Jr (o:Nat×Nat):Prop:=o.1<2 ^ 64/\o.2<256
def Jd (c:BA×Int):List UInt8:=c.1.data.toList++beL (JD c.2) 1 1
def Jn (wd:Nat) (c:BA×Int):Prop:=c.1.size=wd/\0<=c.2/\c.2<3
theorem Jkr (o:Nat×Nat) (z1 z2:Nat) (h:Jr o):Rt (PS.out o.1 o.2) (PS.out z1 z2) o (outB o):=by
 refine Rt.bind (K:=λa p=>(p.num o.2 1).bind λq=>some ((a,q.1),q.2)) (K':=λa p=>(p.num z2 1).bind λq=>some ((a,q.1),q.2)) (XL o.1 8 z1 (by have:=h.1;omega)) ?_ ?_ ?_
 ·have:=Rt.bind (F:=λp=>(p.num o.2 1).bind λq=>some ((o.1,q.1),q.2)) (F':=λp=>(p.num z2 1).bind λq=>some ((o.1,q.1),q.2)) (XL o.2 1 z2 (by have:=h.2;omega)) (Rt.ret o (λp=>some ((o.1,o.2),p)) (λp=>some ((o.1,o.2),p)) (λ_=>rfl) (λ_=>rfl)) (K:=λb p=>some ((o.1,b),p)) (K':=λb p=>some ((o.1,b),p)) (λ_=>rfl) (λ_=>rfl)
  rw [QC] at this;exact this
 ·intro p;unfold PS.out;cases p.num o.1 8 with
  | none=>rfl
  | some q=>obtain ⟨a,p1⟩:=q;simp only [Qu];cases p1.num o.2 1 <;> rfl
 ·intro p;unfold PS.out;cases p.num z1 8 with
  | none=>rfl
  | some q=>obtain ⟨a,p1⟩:=q;simp only [Qu];cases p1.num z2 1 <;> rfl
theorem YA (n:Int) (h0:0<=n) (h:n<18446744073709551616):(JD n:Int)=n:=by unfold JD;omega
theorem Jhp (wd:Nat) (c z:BA×Int) (h:Jn wd c):Rt (PS.coin wd c) (PS.coin wd z) c (Jd c):=by
 obtain ⟨h1,h2,h3⟩:=h
 have hx:=YA c.2 h2 (by omega)
 have hx3:JD c.2<3:=by omega
 refine Rt.bind (K:=λt p=>(p.num (JD c.2) 1).bind λq=>if q.1<3 then some ((⟨t.toArray⟩,(q.1:Int)),q.2) else none) (K':=λt p=>(p.num (JD z.2) 1).bind λq=>if q.1<3 then some ((⟨t.toArray⟩,(q.1:Int)),q.2) else none) (Zv c.1.data.toList z.1.data.toList wd (by rw [<-h1];simp)) ?_ ?_ ?_
 ·have:=Rt.bind (F:=λp=>(p.num (JD c.2) 1).bind λq=>if q.1<3 then some (((⟨c.1.data.toList.toArray⟩:BA),(q.1:Int)),q.2) else none) (F':=λp=>(p.num (JD z.2) 1).bind λq=>if q.1<3 then some (((⟨c.1.data.toList.toArray⟩:BA),(q.1:Int)),q.2) else none) (XL (JD c.2) 1 (JD z.2) (by omega)) (Rt.ret c (λp=>if JD c.2<3 then some (((⟨c.1.data.toList.toArray⟩:BA),(JD c.2:Int)),p) else none) (λp=>if JD c.2<3 then some (((⟨c.1.data.toList.toArray⟩:BA),(JD c.2:Int)),p) else none) (λp=>by rw [if_pos hx3,hx]) (λp=>by rw [if_pos hx3,hx])) (K:=λ(b:Nat) p=>if b<3 then some ((⟨c.1.data.toList.toArray⟩,(b:Int)),p) else none) (K':=λ(b:Nat) p=>if b<3 then some ((⟨c.1.data.toList.toArray⟩,(b:Int)),p) else none) (λ_=>rfl) (λ_=>rfl)
  rw [QC] at this;exact this
 ·intro p;unfold PS.coin;cases p.txt c.1.data.toList wd with
  | none=>rfl
  | some q=>obtain ⟨a,p1⟩:=q;simp only [Qu];cases p1.num (JD c.2) 1 <;> rfl
 ·intro p;unfold PS.coin;cases p.txt z.1.data.toList wd with
  | none=>rfl
  | some q=>obtain ⟨a,p1⟩:=q;simp only [Qu];cases p1.num (JD z.2) 1 <;> rfl
theorem JlG:∀(l:List (Nat×Nat)),(∀x∈l,Jr x)->Rt (PS.outs l) (PS.outs (List.replicate l.length (0,0))) l (l.flatMap outB):=by
 intro l
 induction l with
 | nil=>intro _;exact Rt.ret [] _ _ (λ_=>rfl) (λ_=>rfl)
 | cons x r ih=>
  intro h
  have hr:=ih (λy hy=>h y (QO _ hy))
  rw [QG]
  refine Rt.bind (K:=λy p=>(PS.outs r p).bind λq=>some (y :: q.1,q.2)) (K':=λy p=>(PS.outs (List.replicate r.length (0,0)) p).bind λq=>some (y :: q.1,q.2)) (Jkr x 0 0 (h x QM)) ?_ ?_ ?_
  ·have:=Rt.bind (F:=λp=>(PS.outs r p).bind λq=>some (x :: q.1,q.2)) (F':=λp=>(PS.outs (List.replicate r.length (0,0)) p).bind λq=>some (x :: q.1,q.2)) hr (Rt.ret (x :: r) (λp=>some (x :: r,p)) (λp=>some (x :: r,p)) (λ_=>rfl) (λ_=>rfl)) (K:=λb p=>some (x :: b,p)) (K':=λb p=>some (x :: b,p)) (λ_=>rfl) (λ_=>rfl)
   rw [QC] at this;exact this
  ·intro p;simp only [PS.outs];cases p.out x.1 x.2 with
   | none=>rfl
   | some q=>obtain ⟨a,p1⟩:=q;simp only [Qu];cases PS.outs r p1 <;> rfl
  ·intro p;simp only [Qp,List.replicate_succ,PS.outs];cases p.out 0 0 with
   | none=>rfl
   | some q=>obtain ⟨a,p1⟩:=q;simp only [Qu];cases PS.outs (List.replicate r.length (0,0)) p1 <;> rfl
theorem Jkp (wd:Nat):∀(l:List (BA×Int)),(∀x∈l,Jn wd x)->Rt (PS.coins wd l) (PS.coins wd (List.replicate l.length (⟨#[]⟩,0))) l (l.flatMap Jd):=by
 intro l
 induction l with
 | nil=>intro _;exact Rt.ret [] _ _ (λ_=>rfl) (λ_=>rfl)
 | cons x r ih=>
  intro h
  have hr:=ih (λy hy=>h y (QO _ hy))
  rw [QG]
  refine Rt.bind (K:=λy p=>(PS.coins wd r p).bind λq=>some (y :: q.1,q.2)) (K':=λy p=>(PS.coins wd (List.replicate r.length (⟨#[]⟩,0)) p).bind λq=>some (y :: q.1,q.2)) (Jhp wd x (⟨#[]⟩,0) (h x QM)) ?_ ?_ ?_
  ·have:=Rt.bind (F:=λp=>(PS.coins wd r p).bind λq=>some (x :: q.1,q.2)) (F':=λp=>(PS.coins wd (List.replicate r.length (⟨#[]⟩,0)) p).bind λq=>some (x :: q.1,q.2)) hr (Rt.ret (x :: r) (λp=>some (x :: r,p)) (λp=>some (x :: r,p)) (λ_=>rfl) (λ_=>rfl)) (K:=λb p=>some (x :: b,p)) (K':=λb p=>some (x :: b,p)) (λ_=>rfl) (λ_=>rfl)
   rw [QC] at this;exact this
  ·intro p;simp only [PS.coins];cases p.coin wd x with
   | none=>rfl
   | some q=>obtain ⟨a,p1⟩:=q;simp only [Qu];cases PS.coins wd r p1 <;> rfl
  ·intro p;simp only [Qp,List.replicate_succ,PS.coins];cases p.coin wd (⟨#[]⟩,0) with
   | none=>rfl
   | some q=>obtain ⟨a,p1⟩:=q;simp only [Qu];cases PS.coins wd (List.replicate r.length (⟨#[]⟩,0)) p1 <;> rfl
def JW (l:List (Nat×Nat)):List UInt8:=beL l.length 1 1++l.flatMap outB
def Jer (l:List (BA×Int)):List UInt8:=beL l.length 1 1++l.flatMap Jd
theorem Jbk (least most:Nat) (l:List (Nat×Nat)) (h:∀x∈l,Jr x) (h1:least<=l.length) (h2:l.length<=most) (h3:l.length<256):Rt (PS.listO least most l) (PS.listO least most []) l (JW l):=by
 have hg:¬(l.length<least\/most<l.length):=by omega
 refine Rt.bind (K:=λcnt p=>if cnt<least\/most<cnt then none else PS.outs (YJ l cnt) p) (K':=λcnt p=>if cnt<least\/most<cnt then none else PS.outs (YJ [] cnt) p) (XL l.length 1 0 (by omega)) ?_ ?_ ?_
 ·have hs:YJ l l.length=l:=by unfold YJ;split <;> simp_all
  have hz:YJ [] l.length=List.replicate l.length (0,0):=rfl
  simp only [hg,if_false,hs,hz]
  exact JlG l h
 ·intro p;unfold PS.listO;cases p.num l.length 1 <;> rfl
 ·intro p;unfold PS.listO;simp only [Qv];cases p.num 0 1 <;> rfl
theorem Jkq (wd least most:Nat) (l:List (BA×Int)) (h:∀x∈l,Jn wd x) (h1:least<=l.length) (h2:l.length<=most) (h3:l.length<256):Rt (PS.listC wd least most l) (PS.listC wd least most []) l (Jer l):=by
 have hg:¬(l.length<least\/most<l.length):=by omega
 refine Rt.bind (K:=λcnt p=>if cnt<least\/most<cnt then none else PS.coins wd (YI l cnt) p) (K':=λcnt p=>if cnt<least\/most<cnt then none else PS.coins wd (YI [] cnt) p) (XL l.length 1 0 (by omega)) ?_ ?_ ?_
 ·have hs:YI l l.length=l:=by unfold YI;split <;> simp_all
  have hz:YI [] l.length=List.replicate l.length (⟨#[]⟩,0):=rfl
  simp only [hg,if_false,hs,hz]
  exact Jkp wd l h
 ·intro p;unfold PS.listC;cases p.num l.length 1 <;> rfl
 ·intro p;unfold PS.listC;simp only [Qv];cases p.num 0 1 <;> rfl
def txB (t:TxL):List UInt8:=Jer t.1++JW t.2
structure TxOk (wd:Nat) (t:TxL):Prop where
 coins:∀x∈t.1,Jn wd x
 outs:∀x∈t.2,Jr x
 one:1<=t.1.length
 ins:t.1.length<=3
 made:t.2.length<=3
theorem Jl8 (wd:Nat) (t:TxL) (h:TxOk wd t):Rt (PS.tx wd t) (PS.tx wd ([],[])) t (txB t):=by
 refine Rt.bind (K:=λys p=>(p.listO 0 3 t.2).bind λq=>some ((ys,q.1),q.2)) (K':=λys p=>(p.listO 0 3 []).bind λq=>some ((ys,q.1),q.2)) (Jkq wd 1 3 t.1 h.coins h.one h.ins (by have:=h.ins;omega)) ?_ ?_ ?_
 ·have:=Rt.bind (F:=λp=>(p.listO 0 3 t.2).bind λq=>some ((t.1,q.1),q.2)) (F':=λp=>(p.listO 0 3 []).bind λq=>some ((t.1,q.1),q.2)) (Jbk 0 3 t.2 h.outs (by omega) h.made (by have:=h.made;omega)) (Rt.ret t (λp=>some ((t.1,t.2),p)) (λp=>some ((t.1,t.2),p)) (λ_=>rfl) (λ_=>rfl)) (K:=λb p=>some ((t.1,b),p)) (K':=λb p=>some ((t.1,b),p)) (λ_=>rfl) (λ_=>rfl)
  rw [QC] at this;exact this
 ·intro p;unfold PS.tx;cases p.listC wd 1 3 t.1 with
  | none=>rfl
  | some q=>obtain ⟨a,p1⟩:=q;simp only [Qu];cases p1.listO 0 3 t.2 <;> rfl
 ·intro p;unfold PS.tx;simp only;cases p.listC wd 1 3 [] with
  | none=>rfl
  | some q=>obtain ⟨a,p1⟩:=q;simp only [Qu];cases p1.listO 0 3 [] <;> rfl
theorem JmH (wd:Nat):∀(l:List TxL),(∀x∈l,TxOk wd x)->Rt (PS.txs wd l) (PS.txs wd (List.replicate l.length ([],[]))) l (l.flatMap txB):=by
 intro l
 induction l with
 | nil=>intro _;exact Rt.ret [] _ _ (λ_=>rfl) (λ_=>rfl)
 | cons x r ih=>
  intro h
  have hr:=ih (λy hy=>h y (QO _ hy))
  rw [QG]
  refine Rt.bind (K:=λy p=>(PS.txs wd r p).bind λq=>some (y :: q.1,q.2)) (K':=λy p=>(PS.txs wd (List.replicate r.length ([],[])) p).bind λq=>some (y :: q.1,q.2)) (Jl8 wd x (h x QM)) ?_ ?_ ?_
  ·have:=Rt.bind (F:=λp=>(PS.txs wd r p).bind λq=>some (x :: q.1,q.2)) (F':=λp=>(PS.txs wd (List.replicate r.length ([],[])) p).bind λq=>some (x :: q.1,q.2)) hr (Rt.ret (x :: r) (λp=>some (x :: r,p)) (λp=>some (x :: r,p)) (λ_=>rfl) (λ_=>rfl)) (K:=λb p=>some (x :: b,p)) (K':=λb p=>some (x :: b,p)) (λ_=>rfl) (λ_=>rfl)
   rw [QC] at this;exact this
  ·intro p;simp only [PS.txs];cases p.tx wd x with
   | none=>rfl
   | some q=>obtain ⟨a,p1⟩:=q;simp only [Qu];cases PS.txs wd r p1 <;> rfl
  ·intro p;simp only [Qp,List.replicate_succ,PS.txs];cases p.tx wd ([],[]) with
   | none=>rfl
   | some q=>obtain ⟨a,p1⟩:=q;simp only [Qu];cases PS.txs wd (List.replicate r.length ([],[])) p1 <;> rfl
def Xf (ts:List TxL):List UInt8:=beL ts.length 1 1++ts.flatMap txB
theorem JeH (wd:Nat) (ts:List TxL) (h:∀t∈ts,TxOk wd t) (h3:ts.length<=3):Rt (PS.body wd ts) (PS.body wd []) ts (Xf ts):=by
 have hg:¬3<ts.length:=by omega
 refine Rt.bind (K:=λcnt p=>if 3<cnt then none else PS.txs wd (ZW ts cnt) p) (K':=λcnt p=>if 3<cnt then none else PS.txs wd (ZW [] cnt) p) (XL ts.length 1 0 (by omega)) ?_ ?_ ?_
 ·have hs:ZW ts ts.length=ts:=by unfold ZW;split <;> simp_all
  have hz:ZW [] ts.length=List.replicate ts.length ([],[]):=rfl
  simp only [hg,if_false,hs,hz]
  exact JmH wd ts h
 ·intro p;unfold PS.body;cases p.num ts.length 1 <;> rfl
 ·intro p;unfold PS.body;simp only [Qv];cases p.num 0 1 <;> rfl
abbrev HdL:=Nat×BA×BA×BA
def hdrB (h:HdL):List UInt8:=beL h.1 4 4++(h.2.1.data.toList++(h.2.2.1.data.toList++h.2.2.2.data.toList))
structure HdOk (wd:Nat) (h:HdL):Prop where
 height:h.1<2 ^ 32
 a:h.2.1.size=wd
 b:h.2.2.1.size=wd
 c:h.2.2.2.size=wd
theorem JeI (wd:Nat) (h z:HdL) (hk:HdOk wd h):Rt (PS.hdr wd h) (PS.hdr wd z) h (hdrB h):=by
 obtain ⟨k1,k2,k3,k4⟩:=hk
 obtain ⟨n,a,b,c⟩:=h
 have r3:=Rt.bind (F:=λp=>(p.txt c.data.toList wd).bind λq=>some (((n,a,b,(⟨q.1.toArray⟩:BA)):HdL),q.2)) (F':=λp=>(p.txt z.2.2.2.data.toList wd).bind λq=>some ((n,a,b,(⟨q.1.toArray⟩:BA)),q.2)) (Zv c.data.toList z.2.2.2.data.toList wd (by rw [<-k4];simp)) (Rt.ret (n,a,b,c) (λp=>some ((n,a,b,c),p)) (λp=>some ((n,a,b,c),p)) (λ_=>rfl) (λ_=>rfl)) (K:=λt p=>some ((n,a,b,⟨t.toArray⟩),p)) (K':=λt p=>some ((n,a,b,⟨t.toArray⟩),p)) (λ_=>rfl) (λ_=>rfl)
 rw [QC] at r3
 have r2:=Rt.bind (F:=λp=>(p.txt b.data.toList wd).bind λq1=>(q1.2.txt c.data.toList wd).bind λq=>some (((n,a,(⟨q1.1.toArray⟩:BA),(⟨q.1.toArray⟩:BA)):HdL),q.2)) (F':=λp=>(p.txt z.2.2.1.data.toList wd).bind λq1=>(q1.2.txt z.2.2.2.data.toList wd).bind λq=>some ((n,a,(⟨q1.1.toArray⟩:BA),(⟨q.1.toArray⟩:BA)),q.2)) (Zv b.data.toList z.2.2.1.data.toList wd (by rw [<-k3];simp)) r3 (K:=λt p=>(p.txt c.data.toList wd).bind λq=>some ((n,a,(⟨t.toArray⟩:BA),(⟨q.1.toArray⟩:BA)),q.2)) (K':=λt p=>(p.txt z.2.2.2.data.toList wd).bind λq=>some ((n,a,(⟨t.toArray⟩:BA),(⟨q.1.toArray⟩:BA)),q.2)) (λ_=>rfl) (λ_=>rfl)
 have r1:=Rt.bind (F:=λp=>(p.txt a.data.toList wd).bind λq2=>(q2.2.txt b.data.toList wd).bind λq1=>(q1.2.txt c.data.toList wd).bind λq=>some (((n,(⟨q2.1.toArray⟩:BA),(⟨q1.1.toArray⟩:BA),(⟨q.1.toArray⟩:BA)):HdL),q.2)) (F':=λp=>(p.txt z.2.1.data.toList wd).bind λq2=>(q2.2.txt z.2.2.1.data.toList wd).bind λq1=>(q1.2.txt z.2.2.2.data.toList wd).bind λq=>some ((n,(⟨q2.1.toArray⟩:BA),(⟨q1.1.toArray⟩:BA),(⟨q.1.toArray⟩:BA)),q.2)) (Zv a.data.toList z.2.1.data.toList wd (by rw [<-k2];simp)) r2 (K:=λt p=>(p.txt b.data.toList wd).bind λq1=>(q1.2.txt c.data.toList wd).bind λq=>some ((n,(⟨t.toArray⟩:BA),(⟨q1.1.toArray⟩:BA),(⟨q.1.toArray⟩:BA)),q.2)) (K':=λt p=>(p.txt z.2.2.1.data.toList wd).bind λq1=>(q1.2.txt z.2.2.2.data.toList wd).bind λq=>some ((n,(⟨t.toArray⟩:BA),(⟨q1.1.toArray⟩:BA),(⟨q.1.toArray⟩:BA)),q.2)) (λ_=>rfl) (λ_=>rfl)
 refine Rt.bind (XL n 4 z.1 (by simp only at k1;omega)) r1 (K:=λm p=>(p.txt a.data.toList wd).bind λq2=>(q2.2.txt b.data.toList wd).bind λq1=>(q1.2.txt c.data.toList wd).bind λq=>some ((m,(⟨q2.1.toArray⟩:BA),(⟨q1.1.toArray⟩:BA),(⟨q.1.toArray⟩:BA)),q.2)) (K':=λm p=>(p.txt z.2.1.data.toList wd).bind λq2=>(q2.2.txt z.2.2.1.data.toList wd).bind λq1=>(q1.2.txt z.2.2.2.data.toList wd).bind λq=>some ((m,(⟨q2.1.toArray⟩:BA),(⟨q1.1.toArray⟩:BA),(⟨q.1.toArray⟩:BA)),q.2)) ?_ ?_
 ·intro p;unfold PS.hdr;simp only;cases p.num n 4 with
  | none=>rfl
  | some q=>obtain ⟨x,p1⟩:=q;simp only [Qu];cases p1.txt a.data.toList wd with
   | none=>rfl
   | some q=>obtain ⟨x,p1⟩:=q;simp only [Qu];cases p1.txt b.data.toList wd with
    | none=>rfl
    | some q=>obtain ⟨x,p1⟩:=q;simp only [Qu];cases p1.txt c.data.toList wd <;> rfl
 ·intro p;unfold PS.hdr;cases p.num z.1 4 with
  | none=>rfl
  | some q=>obtain ⟨x,p1⟩:=q;simp only [Qu];cases p1.txt z.2.1.data.toList wd with
   | none=>rfl
   | some q=>obtain ⟨x,p1⟩:=q;simp only [Qu];cases p1.txt z.2.2.1.data.toList wd with
    | none=>rfl
    | some q=>obtain ⟨x,p1⟩:=q;simp only [Qu];cases p1.txt z.2.2.2.data.toList wd <;> rfl
