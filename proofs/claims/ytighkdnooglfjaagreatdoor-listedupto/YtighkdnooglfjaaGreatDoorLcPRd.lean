import Derived.Test.YtighkdnooglfjaaGreatDoorLcTotal
import Derived.Test.YtighkdnooglfjaaGreatDoorLcTree3
namespace Go.Proofs.YtighkdnooglfjaaGreatDoor
open Go.RowKit

variable {ops:Array Oper}{b:Bool}{Q:Exit->Act->World->Prop}{a:List (List UInt8)}{l:List (Sl×Sl)}{rest:List Oper}{s:List UInt8}{d:List UInt8->BA}{base m n p:Nat}{E:Nat->Addr}{S:Nat->Prop}{o:Oper}{α:Type}{v:Value}{w w':World}
def RdOk{α:Type}(f:PS->Option (α×PS))(Ok:α->Prop)(m:Nat):Prop:=∀q r y p',f (.rd q r)=some (y,p')->∃b r',b.length<=m/\r=b++r'/\p'=.rd (q++b) r'/\Ok y
theorem Zs(x k:Nat):RdOk (PS.num x k) (λn=>n<256 ^ k) k:=by
 intro q r y p' h;simp only[PS.num]at h
 split at h
 ·rename_i hk
  cases h
  refine⟨r.take k,r.drop k,by simp;omega,(List.take_append_drop k r).symm,rfl,?_⟩;have:=JcQ (r.take k)
  rwa [QB,Nat.min_eq_left hk]at this
 ·cases h
theorem JbG(s:List UInt8)(k:Nat):RdOk (PS.txt s k) (λt=>t.length=k) k:=by
 intro q r y p' h;simp only[PS.txt]at h
 split at h
 ·rename_i hk
  cases h
  exact⟨r.take k,r.drop k,by simp;omega,(List.take_append_drop k r).symm,rfl,by simp;omega⟩
 ·cases h
theorem RdOk.bind{β:Type}{f:PS->Option (α×PS)}{g:α->PS->Option (β×PS)}{h:PS->Option (β×PS)}{A:α->Prop}{B:β->Prop}(hf:RdOk f A m)(hg:∀a,A a->RdOk (g a) B n)(hh:∀p y p',h p=some (y,p')->∃a p1,f p=some (a,p1)/\g a p1=some (y,p')):RdOk h B (m+n):=by
 intro q r y p' e;obtain⟨a,p1,e1,e2⟩:=hh _ _ _ e;obtain⟨b,r1,l1,rfl,rfl,ha⟩:=hf _ _ _ _ e1;obtain⟨b2,r2,l2,rfl,rfl,hb⟩:=hg a ha _ _ _ _ e2;exact⟨b++b2,r2,by rw[Qe];omega,by rw[Qs],by rw[Qs],hb⟩
theorem RdOk.mono{f:PS->Option (α×PS)}{A B:α->Prop}(h:RdOk f A m)(hab:∀a,A a->B a)(hmn:m<=n):RdOk f B n:=by
 intro q r y p' e;obtain⟨b,r1,l1,e1,e2,ha⟩:=h _ _ _ _ e;exact⟨b,r1,by omega,e1,e2,hab _ ha⟩
theorem RdOk.ret(y:α){A:α->Prop}(h:A y):RdOk (λp=>some (y,p)) A 0:=by
 intro q r z p' e
 cases e
 exact⟨[],r,Ql _,rfl,by rw[QC],h⟩
theorem Jlr(a o:Nat):RdOk (PS.out a o) Jy 9:=by
 refine RdOk.bind (n:=1) (Zs a 8) (g:=λn p=>(p.num o 1).bind λq=>some ((n,q.1),q.2)) (λn hn=>?_) ?_
 ·refine RdOk.bind (n:=0) (Zs o 1) (g:=λk p=>some ((n,k),p)) (λk hk=>RdOk.ret (n,k) ⟨by simpa using hn,by simpa using hk⟩) ?_;intro p y p' e
  cases h1:p.num o 1 with
  | none=>rw[h1]at e;cases e
  | some r=>rw[h1]at e;cases e;exact⟨_,_,rfl,rfl⟩
 ·intro p y p' e;unfold PS.out at e
  cases h1:p.num a 8 with
  | none=>rw[h1]at e;cases e
  | some r=>
   obtain⟨n,p1⟩:=r;rw[h1]at e;dsimp only at e;refine⟨n,p1,rfl,?_⟩
   cases h2:p1.num o 1 with
   | none=>rw[h2]at e;cases e
   | some r2=>obtain⟨k,p2⟩:=r2;rw[h2]at e;cases e;rfl
theorem JjG(wj:Nat)(c:BA×Int):RdOk (PS.coin wj c) (Jk wj) (wj+1):=by
 intro q r y p' e;unfold PS.coin at e
 cases h1:(PS.rd q r).txt c.1.data.toList wj with
 | none=>rw[h1]at e;cases e
 | some r1=>
  obtain⟨t,p1⟩:=r1;rw[h1]at e;dsimp only at e;obtain⟨b,r',l1,rfl,rfl,ht⟩:=JbG _ _ _ _ _ _ h1
  cases h2:(PS.rd (q++b) r').num (JE c.2) 1 with
  | none=>rw[h2]at e;cases e
  | some r2=>
   obtain⟨m,p2⟩:=r2;rw[h2]at e;dsimp only at e;obtain⟨b2,r2',l2,rfl,rfl,hm⟩:=Zs _ _ _ _ _ _ h2
   split at e
   ·rename_i h3
    cases e
    exact⟨b++b2,r2',by rw[Qe];omega,by rw[Qs],by rw[Qs],by show t.toArray.size=_;simpa using ht,by show (0:Int)<=(m:Int);omega,by show (m:Int)<3;omega⟩
   ·cases e
theorem JhD(wj:Nat):∀(l:List (BA×Int)),RdOk (PS.coins wj l) (λys=>ys.length=l.length/\∀y∈ys,Jk wj y) (l.length*(wj+1)):=by
 intro l
 induction l with
 | nil=>rw[Qv,Nat.zero_mul];exact RdOk.ret [] ⟨rfl,λ_ h=>by cases h⟩
 | cons x r ih=>
  refine(RdOk.bind (B:=λys=>ys.length=r.length+1/\∀y∈ys,Jk wj y) (n:=r.length*(wj+1)) (JjG wj x) (g:=λy p=>(PS.coins wj r p).bind λq=>some (y::q.1,q.2)) (λy hy=>?_) ?_).mono (λ_ h=>h) (by rw[Qp,Nat.succ_mul];omega)
  ·have:=RdOk.bind (n:=0) (h:=λp=>(PS.coins wj r p).bind λq=>some (y::q.1,q.2)) ih (g:=λys p=>some (y::ys,p)) (B:=λys=>ys.length=r.length+1/\∀y∈ys,Jk wj y) (λys hys=>RdOk.ret (y::ys) ⟨by simp[hys.1],λz hz=>by rcases List.mem_cons.1 hz with rfl|hz;exact hy;exact hys.2 z hz⟩) (λp z p' e=>by
    cases h1:PS.coins wj r p with
    | none=>rw[h1]at e;cases e
    | some r=>rw[h1]at e;cases e;exact⟨_,_,rfl,rfl⟩)
   rwa [Nat.add_zero]at this
  ·intro p z p' e;unfold PS.coins at e
   cases h1:p.coin wj x with
   | none=>rw[h1]at e;cases e
   | some r1=>
    obtain⟨y,p1⟩:=r1;rw[h1]at e;dsimp only at e;refine⟨y,p1,rfl,?_⟩
    cases h2:PS.coins wj r p1 with
    | none=>rw[h2]at e;cases e
    | some r2=>obtain⟨ys,p2⟩:=r2;rw[h2]at e;cases e;rfl
theorem JjH:∀(l:List (Nat×Nat)),RdOk (PS.outs l) (λys=>ys.length=l.length/\∀y∈ys,Jy y) (l.length*9):=by
 intro l
 induction l with
 | nil=>rw[Qv,Nat.zero_mul];exact RdOk.ret [] ⟨rfl,λ_ h=>by cases h⟩
 | cons x r ih=>
  refine(RdOk.bind (B:=λys=>ys.length=r.length+1/\∀y∈ys,Jy y) (n:=r.length*9) (Jlr x.1 x.2) (g:=λy p=>(PS.outs r p).bind λq=>some (y::q.1,q.2)) (λy hy=>?_) ?_).mono (λ_ h=>h) (by rw[Qp,Nat.succ_mul];omega)
  ·have:=RdOk.bind (n:=0) (h:=λp=>(PS.outs r p).bind λq=>some (y::q.1,q.2)) ih (g:=λys p=>some (y::ys,p)) (B:=λys=>ys.length=r.length+1/\∀y∈ys,Jy y) (λys hys=>RdOk.ret (y::ys) ⟨by simp[hys.1],λz hz=>by rcases List.mem_cons.1 hz with rfl|hz;exact hy;exact hys.2 z hz⟩) (λp z p' e=>by
    cases h1:PS.outs r p with
    | none=>rw[h1]at e;cases e
    | some r=>rw[h1]at e;cases e;exact⟨_,_,rfl,rfl⟩)
   rwa [Nat.add_zero]at this
  ·intro p z p' e;unfold PS.outs at e
   cases h1:p.out x.1 x.2 with
   | none=>rw[h1]at e;cases e
   | some r1=>
    obtain⟨y,p1⟩:=r1;rw[h1]at e;dsimp only at e;refine⟨y,p1,rfl,?_⟩
    cases h2:PS.outs r p1 with
    | none=>rw[h2]at e;cases e
    | some r2=>obtain⟨ys,p2⟩:=r2;rw[h2]at e;cases e;rfl
theorem JdG(n:Nat):(YZ [] n).length=n:=by simp[YZ]
theorem JdH(n:Nat):(Za [] n).length=n:=by simp[Za]
theorem JhE(wj least:Nat)(hw:wj<=32):RdOk (PS.listC wj least 3 []) (λys=>least<=ys.length/\ys.length<=3/\∀y∈ys,Jk wj y) 100:=by
 refine(RdOk.bind (n:=99) (Zs 0 1) (g:=λcnt p=>if cnt<least\/3<cnt then none else PS.coins wj (YZ [] cnt) p) (λcnt _=>?_) ?_).mono (λ_ h=>h) (by omega)
 ·by_cases h:cnt<least\/3<cnt
  ·intro q r y p' e;simp only[if_pos h]at e;cases e
  ·simp only[if_neg h];refine(JhD wj (YZ [] cnt)).mono (λys hy=>?_) ?_
   ·rw[JdG]at hy;exact⟨by omega,by omega,hy.2⟩
   ·rw[JdG];have:cnt*(wj+1)<=3*33:=Nat.mul_le_mul (by omega) (by omega);omega
 ·intro p y p' e;unfold PS.listC at e
  cases h1:p.num ([]:List (BA×Int)).length 1 with
  | none=>rw[h1]at e;cases e
  | some r1=>obtain⟨cnt,p1⟩:=r1;rw[h1]at e;exact⟨cnt,p1,rfl,e⟩
theorem JhF:RdOk (PS.listO 0 3 []) (λys=>ys.length<=3/\∀y∈ys,Jy y) 28:=by
 refine(RdOk.bind (n:=27) (Zs 0 1) (g:=λcnt p=>if cnt<0\/3<cnt then none else PS.outs (Za [] cnt) p) (λcnt _=>?_) ?_).mono (λ_ h=>h) (by omega)
 ·by_cases h:cnt<0\/3<cnt
  ·intro q r y p' e;simp only[if_pos h]at e;cases e
  ·simp only[if_neg h];refine(JjH (Za [] cnt)).mono (λys hy=>?_) ?_
   ·rw[JdH]at hy;exact⟨by omega,hy.2⟩
   ·rw[JdH];omega
 ·intro p y p' e;unfold PS.listO at e
  cases h1:p.num ([]:List (Nat×Nat)).length 1 with
  | none=>rw[h1]at e;cases e
  | some r1=>obtain⟨cnt,p1⟩:=r1;rw[h1]at e;exact⟨cnt,p1,rfl,e⟩
theorem JmN(wj:Nat)(hw:wj<=32):RdOk (PS.tx wj ([],[])) (TxOk wj) 128:=by
 refine RdOk.bind (n:=28) (JhE wj 1 hw) (g:=λys p=>(p.listO 0 3 []).bind λq=>some ((ys,q.1),q.2)) (λys hy=>?_) ?_
 ·refine RdOk.bind (n:=0) JhF (g:=λzs p=>some ((ys,zs),p)) (λzs hz=>RdOk.ret (ys,zs) ⟨hy.2.2,hz.2,hy.1,hy.2.1,hz.1⟩) ?_;intro p y p' e
  cases h1:p.listO 0 3 [] with
  | none=>rw[h1]at e;cases e
  | some r=>rw[h1]at e;cases e;exact⟨_,_,rfl,rfl⟩
 ·intro p y p' e;unfold PS.tx at e
  cases h1:p.listC wj 1 3 [] with
  | none=>rw[h1]at e;cases e
  | some r=>
   obtain⟨ys,p1⟩:=r;rw[h1]at e;dsimp only at e;refine⟨ys,p1,rfl,?_⟩
   cases h2:p1.listO 0 3 [] with
   | none=>rw[h2]at e;cases e
   | some r2=>obtain⟨k,p2⟩:=r2;rw[h2]at e;cases e;rfl
theorem Jls(wj:Nat)(hw:wj<=32):∀n,RdOk (PS.txs wj (List.replicate n ([],[]))) (λys=>ys.length=n/\∀y∈ys,TxOk wj y) (n*128):=by
 intro n
 induction n with
 | zero=>rw[Nat.zero_mul];exact RdOk.ret [] ⟨rfl,λ_ h=>by cases h⟩
 | succ n ih=>
  rw[List.replicate_succ];refine(RdOk.bind (B:=λys=>ys.length=n+1/\∀y∈ys,TxOk wj y) (n:=n*128) (JmN wj hw) (g:=λy p=>(PS.txs wj (List.replicate n ([],[])) p).bind λq=>some (y::q.1,q.2)) (λy hy=>?_) ?_).mono (λ_ h=>h) (by omega)
  ·have:=RdOk.bind (n:=0) (h:=λp=>(PS.txs wj (List.replicate n ([],[])) p).bind λq=>some (y::q.1,q.2)) ih (g:=λys p=>some (y::ys,p)) (B:=λys=>ys.length=n+1/\∀y∈ys,TxOk wj y) (λys hys=>RdOk.ret (y::ys) ⟨by simp[hys.1],λz hz=>by rcases List.mem_cons.1 hz with rfl|hz;exact hy;exact hys.2 z hz⟩) (λp z p' e=>by
    cases h1:PS.txs wj (List.replicate n ([],[])) p with
    | none=>rw[h1]at e;cases e
    | some r=>rw[h1]at e;cases e;exact⟨_,_,rfl,rfl⟩)
   rwa [Nat.add_zero]at this
  ·intro p z p' e;unfold PS.txs at e
   cases h1:p.tx wj ([],[]) with
   | none=>rw[h1]at e;cases e
   | some r1=>
    obtain⟨y,p1⟩:=r1;rw[h1]at e;dsimp only at e;refine⟨y,p1,rfl,?_⟩
    cases h2:PS.txs wj (List.replicate n ([],[])) p1 with
    | none=>rw[h2]at e;cases e
    | some r2=>obtain⟨ys,p2⟩:=r2;rw[h2]at e;cases e;rfl
theorem JaT(wj:Nat)(hw:wj<=32):RdOk (PS.body wj []) (λts=>ts.length<=3/\∀t∈ts,TxOk wj t) 385:=by
 refine RdOk.bind (m:=1) (n:=384) (Zs 0 1) (g:=λcnt p=>if 3<cnt then none else PS.txs wj (Jal [] cnt) p) (λcnt _=>?_) ?_
 ·by_cases h:3<cnt
  ·intro q r y p' e;simp only[if_pos h]at e;cases e
  ·simp only[if_neg h];exact(Jls wj hw cnt).mono (λys hy=>⟨by omega,hy.2⟩) (by omega)
 ·intro p y p' e;unfold PS.body at e
  cases h1:p.num ([]:List TxL).length 1 with
  | none=>rw[h1]at e;cases e
  | some r1=>obtain⟨cnt,p1⟩:=r1;rw[h1]at e;exact⟨cnt,p1,rfl,e⟩
theorem Jdn(wj:Nat)(hw:wj<=32)(z:HdL):RdOk (PS.hdr wj z) (HdOk wj) 100:=by
 intro q r y p' e;unfold PS.hdr at e
 cases h1:(PS.rd q r).num z.1 4 with
 | none=>rw[h1]at e;cases e
 | some r1=>
  obtain⟨n,p1⟩:=r1;rw[h1]at e;dsimp only at e;obtain⟨b1,s1,l1,rfl,rfl,k1⟩:=Zs _ _ _ _ _ _ h1
  cases h2:(PS.rd (q++b1) s1).txt z.2.1.data.toList wj with
  | none=>rw[h2]at e;cases e
  | some r2=>
   obtain⟨t2,p2⟩:=r2;rw[h2]at e;dsimp only at e;obtain⟨b2,s2,l2,rfl,rfl,k2⟩:=JbG _ _ _ _ _ _ h2
   cases h3:(PS.rd (q++b1++b2) s2).txt z.2.2.1.data.toList wj with
   | none=>rw[h3]at e;cases e
   | some r3=>
    obtain⟨t3,p3⟩:=r3;rw[h3]at e;dsimp only at e;obtain⟨b3,s3,l3,rfl,rfl,k3⟩:=JbG _ _ _ _ _ _ h3
    cases h4:(PS.rd (q++b1++b2++b3) s3).txt z.2.2.2.data.toList wj with
    | none=>rw[h4]at e;cases e
    | some r4=>
     obtain⟨t4,p4⟩:=r4;rw[h4]at e;dsimp only at e;obtain⟨b4,s4,l4,rfl,rfl,k4⟩:=JbG _ _ _ _ _ _ h4
     cases e
     refine⟨b1++b2++b3++b4,s4,by simp only[Qe];omega,by simp only[Qs],by simp only[Qs],?_⟩;exact⟨by simpa using k1,(List.size_toArray).trans k2,(List.size_toArray).trans k3,(List.size_toArray).trans k4⟩
open Tryz

def txC(h:Sl×Sl):List Value:=[.slice h.1.1 h.1.2.1 h.1.2.2,.slice h.2.1 h.2.2.1 h.2.2.2]
def txV(l:List (Sl×Sl)):List Value:=l.flatMap txC
theorem JdN(l:List (Sl×Sl)):(txV l).length=l.length*2:=by
 induction l with
 | nil=>rfl
 | cons x r ih=>simp only[txV,QG,Qe]at ih ⊢;rw[ih];simp[txC];omega
theorem Jm0(l:List (Sl×Sl)):∀u∈txV l,u.oneCell'=true:=by
 intro u hu;simp only[txV,List.mem_flatMap,txC]at hu;obtain⟨x,_,hu⟩:=hu;simp only[List.mem_cons,QD,or_false]at hu
 rcases hu with rfl|rfl<;>rfl
theorem Jh1(l l':List (Sl×Sl)):txV (l++l')=txV l++txV l':=by simp[txV]
theorem JiB(l:List (Sl×Sl)):∀(i:Nat)(h:i<l.length),(txV l)[i*2]? =some (.slice l[i].1.1 l[i].1.2.1 l[i].1.2.2)/\(txV l)[i*2+1]? =some (.slice l[i].2.1 l[i].2.2.1 l[i].2.2.2):=by
 induction l with
 | nil=>intro i h;simp at h
 | cons x r ih=>
  intro i h
  cases i with
  | zero=>simp[txV,txC]
  | succ i=>
   have e:∀j,(txV (x::r))[(i+1)*2+j]? =(txV r)[i*2+j]? :=by
    intro j;show (txC x++txV r)[(i+1)*2+j]? =_;rw[Qz (by simp[txC];omega)]
    congr 1;simp[txC];omega
   refine⟨?_,?_⟩
   ·have:=e 0;rw[Nat.add_zero,Nat.add_zero]at this;rw[this];simpa using (ih i (by simpa using h)).1
   ·rw[e 1];simpa using (ih i (by simpa using h)).2
theorem Xq.cells{g o:Nat}(h:∀i (h:i<l.length),w.cell? ⟨g,o+i*2,none⟩=some (.slice l[i].1.1 l[i].1.2.1 l[i].1.2.2)/\w.cell? ⟨g,o+i*2+1,none⟩=some (.slice l[i].2.1 l[i].2.2.1 l[i].2.2.2)):
  ∀j u,(txV l)[j]? =some u->w.cell? (Addr.add ⟨g,o,none⟩ j)=some u:=by
 intro j u hu;have hj:j<l.length*2:=by have:=(Qo.1 hu).1;rw[JdN]at this;exact this
 obtain⟨e0,e1⟩:=JiB l (j/2) (by omega);obtain⟨f0,f1⟩:=h (j/2) (by omega);rw[Addr.add_lit];obtain hm|hm:j % 2=0\/j % 2=1:=by omega
 ·rw[show j/2*2=j by omega]at e0;rw[show o+j/2*2=o+j by omega]at f0;rw[f0,<-e0,hu]
 ·rw[show j/2*2+1=j by omega]at e1;rw[show o+j/2*2+1=o+j by omega]at f1;rw[f1,<-e1,hu]
def TOwn(base:Nat)(w:World)(v:Value)(l:List (Sl×Sl)):Prop:=w.ownsRow base 98 2 v l.length (txV l)
theorem TOwn.at(h:TOwn base w v l):Xq w.heap.size w v l:=by
 obtain⟨_,⟨rfl,h0⟩|⟨g,cap,cur,rfl,_,hrow,_,_,hsz,htake⟩⟩:=h
 ·exact .inl ⟨rfl,QO h0⟩
 ·have hlt:=(Jb hrow)
  refine .inr ⟨g,0,cap,rfl,hlt,hlt,λi hi=>?_⟩;obtain⟨e0,e1⟩:=JiB l i hi;have hc:∀j u,(txV l)[j]? =some u->w.cell? ⟨g,0+j,none⟩=some u:=by intro j u hu;rw[<-htake]at hu;have hj:=(Qo.1 hu).1;rw[List.getElem?_take_of_lt (by rw[QB]at hj;omega)]at hu;rw[Ja hrow,Nat.zero_add,<-Array.getElem?_toList];exact hu
  exact⟨hc _ _ e0,hc _ _ e1⟩
theorem TOwn.own(h:TOwn base w v l):∀k,v.ownBlock=some k->base<=k/\k<w.heap.size:=by
 obtain⟨_,⟨rfl,h0⟩|⟨g,cap,cur,rfl,hb,hrow,_⟩⟩:=h
 ·intro k hk;cases hk
 ·intro k hk;cases hk;exact⟨hb,(Jb hrow)⟩
theorem TOwn.tch(h:TOwn base w v l)(k:Tch S w w')(hs:∀j,v.ownBlock=some j->¬S j):TOwn base w' v l:=by
 obtain⟨h1,⟨rfl,h0⟩|⟨g,cap,cur,rfl,hb,hrow,h2⟩⟩:=h
 ·exact⟨h1,.inl ⟨rfl,h0⟩⟩
 ·exact⟨h1,.inr ⟨g,cap,cur,rfl,hb,(k.block g (Jb hrow) (hs g rfl)).trans hrow,h2⟩⟩
theorem TOwn.shape(h:TOwn base w v l):∃a c,v=.slice a l.length c:=h.at.shape
theorem TOwn.shape3(h:TOwn base w v l):∃a m c,v=.slice a m c:=by
 obtain⟨a,c,h⟩:=h.shape;exact⟨a,_,c,h⟩
theorem Jmk:(prog.info? 98).map (λi=>(i.zero,i.size,i.bytes))=some (some (.agg #[.slice none 0 0,.slice none 0 0]),2,48):=by kernel_rfl
theorem Jd9(h:TOwn base w v l)(x:Value)(B:Nat)(l2:List (Sl×Sl))(hx:Xq B w x l2)(ty:TypeId)(hb:l.length+l2.length<=1000000000)(hbase:base<=w.heap.size):
  ∃v' w',(Builtin.append_ #[73,73] ty #[v,x]).run prog w=.ok v' w'/\TOwn base w' v' (l++l2)/\w.grownBy w' v.ownBlock:=by
 obtain⟨i,hi,hp⟩:=Option.map_eq_some_iff.1 Jmk;simp only[Qw]at hp;obtain⟨hz,hsz,hby⟩:=hp
 rcases hx with⟨rfl,rfl⟩|⟨g,o,c,rfl,_,hg,hcell⟩
 ·exact⟨v,w,run_append_owned_none (P:=prog) (w:=w) base 73 ty 98 i 2 underlying73 hi v l.length (txV l) h,by rw[QC];exact h,World.grownBy.refl _ _⟩
 ·obtain⟨v',w',hr,h2,h3,h4⟩:=run_append_own (P:=prog) w base 73 ty 98 i _ 2 48 underlying73 hi hz hsz hby rfl (by omega) v l.length (txV l) h ⟨g,o,none⟩ l2.length c (txV l2) (JdN l2) (Xq.cells hcell) (Jm0 l2) (by simp only[maxLen];omega) (by omega) hbase;exact⟨v',w',hr,by unfold TOwn;rw[Qe,Jh1];exact h2,h3⟩
theorem Jcj{a:Act}(hgd:o.guard=none)(s x:Operand)
 (ho:o.op=.call { callee:=.builtin .append,args:= #[s,x],argTypes:= #[73,73] })
 (hv:a.eval s=v) (h:TOwn base w v l) (xv:Value) (B:Nat) (l2:List (Sl×Sl)) (hx:a.eval x=xv) (hs:Xq B w xv l2) (hb:l.length+l2.length<=1000000000) (hbase:base<=w.heap.size)
 (hK:∀v' w',TOwn base w' v' (l++l2)->w.grownBy w' v.ownBlock->wpList prog ops Q rest (a.put o.dst v') w'):wpList prog ops Q (o::rest) a w:=by
 refine wpList_plain hgd λK hK'=>?_;obtain⟨v',w',hrun,r,r2⟩:=Jd9 h xv B l2 hs o.type hb hbase;unfold Oper.wp;simp[execOp,ho,resolve,invoke,builtin,hv,hx,hrun,Result.andThen];exact hK' _ _ (hK v' w' r r2)
theorem JnM(W:World)(c:Sl×Sl):Xq (W.heap.size+1) (W.alloc (.cells #[.slice c.1.1 c.1.2.1 c.1.2.2,.slice c.2.1 c.2.2.1 c.2.2.2] 98)) (.slice (some ⟨W.heap.size,0,none⟩) 1 1) [c]:=by
 refine .inr ⟨W.heap.size,0,1,rfl,by omega,by simp,λi hi=>?_⟩;obtain rfl:i=0:=by simpa using hi
 have hrow:=Qf W (.cells #[.slice c.1.1 c.1.2.1 c.1.2.2,.slice c.2.1 c.2.2.1 c.2.2.2] 98);exact⟨Ja hrow,Ja hrow⟩

def Jkn(w:World)(v:Value)(ts:List TxL):Prop:=
 ∃l:List (Sl×Sl),Xq w.heap.size w v l/\l.length=ts.length/\∀(j:Nat) x t,l[j]? =some x->ts[j]? =some t->JD w.heap.size w (.slice x.1.1 x.1.2.1 x.1.2.2) t.1/\Jq w.heap.size w (.slice x.2.1 x.2.2.1 x.2.2.2) t.2
structure Xm(E:Nat->Addr)(base:Nat)(w:World):Prop where
 env:Env E w
 sent:Sent E w
 vars:18<=base
 rows:∀g∈Ss,(E g).block<base
theorem Xm.tch(h:Xm E base w)(k:Tch S w w')(hs:∀j,S j->base<=j):Xm E base w':=
 ⟨h.env.tch k (λj hj=>Qm h.vars (hs j hj)),h.sent.tch k (λg hg hj=>by have:=hs _ hj;have:=h.rows g hg;omega),h.vars,h.rows⟩
def Jc5(ch:Ch)(h:Int):BA:=if 0<=h then (ch.getD h.toNat (⟨#[]⟩,none)).1 else ⟨#[]⟩
structure Led(E:Nat->Addr)(wj base:Nat) where
 At:World->Nat->(Nat->Prop)->Nat->Ch->Prop
 keep:∀{w w':World} {lb:Nat} {F S:Nat->Prop} {fl:Nat} {ch:Ch},At w lb F fl ch->Tch S w w'->(∀j,S j->¬F j)->At w' lb F fl ch
 own:∀{w:World} {lb:Nat} {F:Nat->Prop} {fl:Nat} {ch:Ch},At w lb F fl ch->∀j,F j->base<=j/\j<w.heap.size
 kinds:∀{w:World} {lb:Nat} {F:Nat->Prop} {fl:Nat} {ch:Ch},At w lb F fl ch->∀j,F j->∀cur T m,w.heap[j]? =some (.cells cur T m)->T ≠ 35/\T ≠ 43/\T ≠ 87
 tip:∀{w:World} {lb:Nat} {F:Nat->Prop} {fl:Nat} {ch:Ch},At w lb F fl ch->Xm E base w->
  Calls prog 15 #[.pointer (some ⟨lb,0,none⟩)] w λe w'=>e=.returned (.int .i64 ((ch.length:Int)-1))/\Tch NoB w w'
 header:∀{w:World} {lb:Nat} {F:Nat->Prop} {fl:Nat} {ch:Ch} (h:Int),At w lb F fl ch->Xm E base w-> -9223372036854775808<=h->h<9223372036854775808->
  Calls prog 16 #[.pointer (some ⟨lb,0,none⟩),.int .i64 h] w λe w'=>e=.returned (.tuple #[.string (Jc5 ch h),.int .i64 (if 0<=h/\h<(ch.length:Int) then 0 else 7)])/\Tch NoB w w'
 seals:∀{w:World} {lb:Nat} {F:Nat->Prop} {fl:Nat} {ch:Ch} (v:Value) (ts:List TxL),At w lb F fl ch->Xm E base w->Jkn w v ts->(∀t∈ts,TxOk wj t)->ts.length<=3->ch.length<2 ^ 27->
  Calls prog 18 #[.pointer (some ⟨lb,0,none⟩),v] w λe w'=>Tch NoB w w'/\match JgL (dgW wj) wj ch ts with
   | .ok b=>e=.returned (.tuple #[.string ⟨b.toArray⟩,.int .i64 0])
   | .error er=>e=.returned (.tuple #[.string ⟨#[]⟩,.int .i64 (XP er)])
 submits:∀{w:World} {lb:Nat} {F:Nat->Prop} {fl:Nat} {ch:Ch} (s:BA),At w lb F fl ch->Xm E base w->s.size<=1000000->ch.length<2 ^ 27->
  Calls prog 19 #[.pointer (some ⟨lb,0,none⟩),.string s] w λe w'=>Tch F w w'/\∃F':Nat->Prop,(∀j,F' j->F j\/w.heap.size<=j)/\match YQ (dgW wj) wj ch s.data.toList with
   | .ok ch'=>e=.returned (.int .i64 0)/\At w' lb F' fl ch'
   | .error er=>e=.returned (.int .i64 (XP er))/\At w' lb F' fl ch
def slV(l:List Sl):List Value:=l.map λx=>.slice x.1 x.2.1 x.2.2
theorem JhH(l l':List Sl):slV (l++l')=slV l++slV l':=by simp[slV]
def SOwn(base:Nat)(w:World)(v:Value)(l:List Sl):Prop:=w.ownsRow base 43 1 v l.length (slV l)
theorem SOwn.own{l:List Sl}(h:SOwn base w v l):∀k,v.ownBlock=some k->base<=k/\k<w.heap.size:=by
 obtain⟨_,⟨rfl,h0⟩|⟨g,cap,cur,rfl,hb,hrow,_⟩⟩:=h
 ·intro k hk;cases hk
 ·intro k hk;cases hk;exact⟨hb,(Jb hrow)⟩
theorem SOwn.tch{l:List Sl}(h:SOwn base w v l)(k:Tch S w w')(hs:∀j,v.ownBlock=some j->¬S j):SOwn base w' v l:=by
 obtain⟨h1,⟨rfl,h0⟩|⟨g,cap,cur,rfl,hb,hrow,h2⟩⟩:=h
 ·exact⟨h1,.inl ⟨rfl,h0⟩⟩
 ·exact⟨h1,.inr ⟨g,cap,cur,rfl,hb,(k.block g (Jb hrow) (hs g rfl)).trans hrow,h2⟩⟩
theorem SOwn.at{l:List Sl}(h:SOwn base w v l)(hl:l ≠ []):∃g cap,v=.slice (some ⟨g,0,none⟩) l.length cap/\∀i (hi:i<l.length),w.cell? ⟨g,i,none⟩=some (.slice l[i].1 l[i].2.1 l[i].2.2):=by
 obtain⟨_,⟨rfl,h0⟩|⟨g,cap,cur,rfl,hb,hrow,_,_,hsz,htake⟩⟩:=h
 ·exact absurd (QO h0) hl
 ·refine⟨g,cap,rfl,λi hi=>?_⟩;rw[Ja hrow,<-Array.getElem?_toList];have e:(slV l)[i]? =some (.slice l[i].1 l[i].2.1 l[i].2.2):=by simp[slV,hi]
  rw[<-htake,List.getElem?_take_of_lt (by omega)]at e;exact e
theorem Jmi:(prog.info? 43).map (λi=>(i.zero,i.size,i.bytes))=some (some (.slice none 0 0),1,24):=by kernel_rfl
theorem Jd7{l:List Sl}(h:SOwn base w v l)(k:Nat)(x:Sl)(hx:w.cell? ⟨k,0,none⟩=some (.slice x.1 x.2.1 x.2.2))(ty:TypeId)(hb:l.length<=10000000000)(hbase:base<=w.heap.size):
  ∃v' w',(Builtin.append_ #[33,33] ty #[v,.slice (some ⟨k,0,none⟩) 1 1]).run prog w=.ok v' w'/\SOwn base w' v' (l++[x])/\w.grownBy w' v.ownBlock:=by
 obtain⟨i,hi,hp⟩:=Option.map_eq_some_iff.1 Jmi;simp only[Qw]at hp;obtain⟨hz,hsz,hby⟩:=hp;obtain⟨v',w',hr,h2,h3,h4⟩:=run_append_own (P:=prog) w base 33 ty 43 i _ 1 24 underlying33 hi hz hsz hby rfl (by omega) v l.length (slV l) h ⟨k,0,none⟩ 1 1 (slV [x]) rfl (λj u hu=>by
  cases j with
  | zero=>simp only[slV,List.map_cons,List.map_nil,List.getElem?_cons_zero,Qh]at hu;rw[<-hu,Addr.add_lit];exact hx
  | succ j=>simp[slV]at hu) (λu hu=>by simp only[slV,List.map_cons,List.map_nil,Qt]at hu;rw[hu];rfl) (by simp only[maxLen];omega) (by omega) hbase
 exact⟨v',w',hr,by unfold SOwn;rw[Qe,JhH];exact h2,h3⟩
theorem Jci{a:Act}(hgd:o.guard=none)(s x:Operand)
 (ho:o.op=.call { callee:=.builtin .append,args:= #[s,x],argTypes:= #[33,33] })
 {l:List Sl} (hv:a.eval s=v) (h:SOwn base w v l) (k:Nat) (y:Sl) (hx:a.eval x=.slice (some ⟨k,0,none⟩) 1 1) (hc:w.cell? ⟨k,0,none⟩=some (.slice y.1 y.2.1 y.2.2)) (hb:l.length<=10000000000) (hbase:base<=w.heap.size)
 (hK:∀v' w',SOwn base w' v' (l++[y])->w.grownBy w' v.ownBlock->wpList prog ops Q rest (a.put o.dst v') w'):wpList prog ops Q (o::rest) a w:=by
 refine wpList_plain hgd λK hK'=>?_;obtain⟨v',w',hrun,r,r2⟩:=Jd7 h k y hc o.type hb hbase;unfold Oper.wp;simp[execOp,ho,resolve,invoke,builtin,hv,hx,hrun,Result.andThen];exact hK' _ _ (hK v' w' r r2)
structure JL{E:Nat->Addr}{wj base:Nat}(L:Led E wj base)(w:World)(xb lb:Nat)(F:Nat->Prop)(fl:Nat)(ch:Ch)(vst:Value)(sl:List Sl)(states:List (List Held)):Prop where
 row:w.heap[xb]? =some (.cells #[.pointer (some ⟨lb,0,none⟩),.int .i64 (wj:Int),vst,.int .i64 (fl:Int)] 35)
 led:L.At w lb F fl ch
 st:SOwn base w vst sl
 low:base<=xb
 held:∀(i:Nat) x l,sl[i]? =some x->states[i]? =some l->Yi w (.slice x.1 x.2.1 x.2.2) l
 len:sl.length=states.length/\ch.length=states.length/\1<=states.length
 floor:fl<states.length
 book:∀(i:Nat) c l,0<=i->ch[i]? =some c->states[i]? =some l->Book wj c.2 l
theorem JL.next{wj:Nat}{L:Led E wj base}{xb lb:Nat}{F:Nat->Prop}{fl:Nat}{ch:Ch}{vst:Value}{sl:List Sl}{states:List (List Held)}(h:JL L w xb lb F fl ch vst sl states)(k:Tch NoB w w'):JL L w' xb lb F fl ch vst sl states:=
 ⟨(k.block _ (Jb h.row) (λe=>e)).trans h.row,L.keep h.led k (λ_ e=>e.elim),h.st.tch k (λ_ _ e=>e),h.low,λi x l h1 h2=>(h.held i x l h1 h2).tch k (λ_ _ e=>e),h.len,h.floor,h.book⟩

set_option maxRecDepth 100000
set_option maxHeartbeats 400000

theorem Jff(a:Addr)(w:World):(method 641 170 (.pointer (some a)) "trove/wire.more").run prog w=.ok (140,.pointer (some a)) w:=by kernel_rfl
theorem Jfg(a:Addr)(w:World):(method 641 153 (.pointer (some a)) "trove/wire.more").run prog w=.ok (377,.pointer (some a)) w:=by kernel_rfl
theorem Jkb(a:Value)(m:Bool)(w:World):Calls prog 377 #[a,.bool m] w λe w'=>e=.returned (.bool m)/\w'=w:=by
 go_enter func377,ntmps377;go_wp2;go_ret;exact⟨rfl,rfl⟩
def JnX(m:Bool):Option PS->Bool
 | none=>false
 | some (⟨.inl (_,rest)⟩)=> !rest.isEmpty
 | some (⟨.inr _⟩)=>m
theorem Jio(E:Nat->Addr)(b:Nat)(g:Option Nat)(wj:Int)(m:Bool)(st:Option PS)(w:World)(hp:Ji E w b g wj st):
  Calls prog 221 #[.pointer (some ⟨b,0,none⟩),.bool m] w λe w'=>e=.returned (.bool (JnX m st))/\Tch NoB w w':=by
 cases st with
 | none=>
  obtain⟨p,t,u,h1,_⟩:=hp;have ce:=h1.errCell;go_enter func221,ntmps221;go_wp2;go_ret;exact⟨rfl,Te _ _⟩
 | some p=>
  have hp:=hp;have ce:=hp.errCell
  cases p using PS.on with
  | rd pre rest=>
   obtain⟨c0, -⟩:=rows hp.2;have hm:=Jff ⟨b,0,none⟩;have HP:Hid (Jc _ _ _ _ _ _):=hp;go_enter func221,ntmps221;go_wp2_with fail;refine(Jcc b g wj .nilIface _ pre rest w HP.o).mono ?_;rintro _ w1⟨rfl,(HT:Hid _)⟩;go_wp2;go_ret;exact⟨rfl,HT⟩
  | wr d=>
   have c0:w.cell? ⟨b,0,none⟩=some (.iface 153 (.pointer (some ⟨b,0,none⟩))):=(by obtain⟨v,_,_,hr⟩:=hp;exact Ja hr);have hm:=Jfg ⟨b,0,none⟩;go_enter func221,ntmps221;go_wp2_with fail;refine(Jkb _ m w).mono ?_;rintro _ _⟨rfl,rfl⟩;go_wp2;go_ret;exact⟨rfl,Te _ _⟩



def Tr.posts(d:List UInt8->BA):Tr->List (List UInt8)
 | ⟨.inl (k,o)⟩=>[(Tr.leaf k o).text d]
 | ⟨.inr (b,l,r)⟩=>l.posts d++r.posts d++[(Tr.br b l r).text d]
def Xt(d:List UInt8->BA):Option Tr->List (List UInt8)
 | none=>[[69]]
 | some t=>t.posts d
structure Xa(d:List UInt8->BA)(l:List KO)(s:List UInt8)(a:List (List UInt8)):Prop where
 of ::
 c:∀C:List KO->List UInt8->List (List UInt8)->Prop,C [] [69] [[69]]->(∀k o,C [(k,o)] (76::(k++outB o)) [76::(k++outB o)])->(∀l b x y p q,Fork l b->C (side l b 0) x p->C (side l b 1) y q->C l (78::(beL b 2 2++((d x).data.toList++(d y).data.toList))) (p++q++[78::(beL b 2 2++((d x).data.toList++(d y).data.toList))]))->C l s a
theorem Xa.none:Xa d [] [69] [[69]]:=⟨λ_ h _ _=>h⟩
theorem Xa.one(k:Key)(o:Nat×Nat):Xa d [(k,o)] (76::(k++outB o)) [76::(k++outB o)]:=⟨λ_ _ h _=>h k o⟩
theorem Xa.two(l:List KO)(b:Nat)(x y:List UInt8)(p q:List (List UInt8))(hf:Fork l b)(hx:Xa d (side l b 0) x p)(hy:Xa d (side l b 1) y q):Xa d l (78::(beL b 2 2++((d x).data.toList++(d y).data.toList))) (p++q++[78::(beL b 2 2++((d x).data.toList++(d y).data.toList))]):=⟨λC h1 h2 h3=>h3 l b x y p q hf (hx.c C h1 h2 h3) (hy.c C h1 h2 h3)⟩
theorem Xa.ri{motive:∀l s a,Xa d l s a->Prop}(none:motive _ _ _ .none)(one:∀k o,motive _ _ _ (.one k o))(two:∀l b x y p q hf hx hy,motive _ _ _ hx->motive _ _ _ hy->motive _ _ _ (.two l b x y p q hf hx hy)):∀{l s a} (h:Xa d l s a),motive l s a h:=λ{_ _ _} h=>
 (h.c (λl s a=>∃h:Xa d l s a,motive l s a h) ⟨_,none⟩ (λk o=>⟨_,one k o⟩) λl b x y p q hf hx hy=>⟨_,two l b x y p q hf hx.1 hy.1 hx.2 hy.2⟩).2
theorem Xa.inv{l:List KO}(h:Xa d l s a):(l=[]/\s=[69]/\a=[[69]])\/(∃k o,l=[(k,o)]/\s=76::(k++outB o)/\a=[76::(k++outB o)])\/∃b x y p q,Fork l b/\Xa d (side l b 0) x p/\Xa d (side l b 1) y q/\s=(78::(beL b 2 2++((d x).data.toList++(d y).data.toList)))/\a=(p++q++[78::(beL b 2 2++((d x).data.toList++(d y).data.toList))]):=by
 cases h using Xa.ri with
 | none=>exact .inl ⟨rfl,rfl,rfl⟩
 | one k o=>exact .inr (.inl ⟨k,o,rfl,rfl,rfl⟩)
 | two _ b x y p q hf hx hy=>exact .inr (.inr ⟨b,x,y,p,q,hf,hx,hy,rfl,rfl⟩)
theorem Xa.root{l:List KO}(h:Xa d l s a):Root d l s:=by
 induction h using Xa.ri with
 | none=>exact .none
 | one k o=>exact .one k o
 | two l b x y p q hf _ _ h1 h2=>exact .two l b x y hf h1 h2
theorem Xa.of_tree(t:Tr):∀(l:List KO)(s:List UInt8)(a:List (List UInt8)),t.Wf->(∀x,x∈l↔x∈t.coins)->(l.map (·.1)).Nodup->Xa d l s a->a=t.posts d:=by
 induction t using Tr.ri with
 | leaf k o=>
  intro l s a _ hm hn hr;simp only[Tr.coins,Qt]at hm;have hl:l=[(k,o)]:=by
   match l,hm,hn with
   | [],hm,_=>exact absurd ((hm (k,o)).2 rfl) (by simp)
   | [a],hm,_=>rw[(hm a).1 (by simp)]
   | a::b::r,hm,hn=>
    have e1:=(hm a).1 (by simp);have e2:=(hm b).1 (by simp);simp[e1,e2]at hn
  subst hl;obtain⟨h,_⟩|⟨_,_,h,_,rfl⟩|⟨b,x,y,p,q,hf,_⟩:=hr.inv
  ·cases h
  ·cases h;rfl
  ·exact absurd hf.two (by simp)
 | br b lt rt ihl ihr=>
  intro l s a hw hm hn hr;have hroot:=Root.of_tree (.br b lt rt) l s hw hm hn hr.root;obtain⟨w1,w2,h0,h1,hs⟩:=hw;have hf:Fork l b:=by obtain⟨x,hx⟩:=List.exists_mem_of_ne_nil _ lt.coins_ne;obtain⟨y,hy⟩:=List.exists_mem_of_ne_nil _ rt.coins_ne;refine⟨λx hx y hy i hi=>hs x ((hm x).1 hx) y ((hm y).1 hy) i hi,x,(hm x).2 (by simp[Tr.coins,hx]),y,(hm y).2 (by simp[Tr.coins,hy]),?_⟩;rw[h0 x hx,h1 y hy];decide
  have hl2:=hf.two;obtain⟨rfl,_⟩|⟨_,_,rfl,_⟩|⟨b',x,y,p,q,hf',hx,hy,rfl,rfl⟩:=hr.inv
  ·simp at hl2
  ·simp at hl2
  ·obtain rfl:=hf.unique hf';have hx':=ihl (side l b 0) x p w1 (λz=>by
    unfold side;rw[QN,hm];simp only[Tr.coins,QE,decide_eq_true_iff];constructor
    ·rintro⟨h|h,h2⟩
     ·exact h
     ·have:=h1 z h;omega
    ·intro h;exact⟨.inl h,h0 z h⟩) (hn.sublist (List.Sublist.map _ List.filter_sublist)) hx
   have hy':=ihr (side l b 1) y q w2 (λz=>by
    unfold side;rw[QN,hm];simp only[Tr.coins,QE,decide_eq_true_iff];constructor
    ·rintro⟨h|h,h2⟩
     ·have:=h0 z h;omega
     ·exact h
    ·intro h;exact⟨.inr h,h1 z h⟩) (hn.sublist (List.Sublist.map _ List.filter_sublist)) hy
   rw[hroot,hx',hy'];rfl
theorem Xa.of_state{st:Option Tr}{l:List KO}(hw:∀t,st=some t->t.Wf)(hm:∀x,x∈l↔x∈Jr st)(hn:(l.map (·.1)).Nodup)(hr:Xa d l s a):a=Xt d st:=by
 cases st with
 | none=>
  cases l with
  | nil=>
   obtain⟨_,_,rfl⟩|⟨_,_,h,_⟩|⟨b,x,y,p,q,hf,_⟩:=hr.inv
   ·rfl
   ·cases h
   ·exact absurd hf.two (by simp)
  | cons a r=>exact absurd ((hm a).1 (by simp)) (by simp[Jr])
 | some t=>exact Xa.of_tree t l s a (hw t rfl) hm hn hr
theorem JgN(l:List KO)(b:Nat):(side l b 0).length+(side l b 1).length=l.length:=by
 unfold side
 induction l with
 | nil=>rfl
 | cons x r ih=>
  have h2:bt x.1 b=0\/bt x.1 b=1:=by have:=Yf x.1 b;omega
  rcases h2 with h|h
  ·simp[h]at ih ⊢;omega
  ·simp[h]at ih ⊢;omega
theorem Xa.len{l:List KO}(h:Xa d l s a):l ≠ []->a.length+1=2*l.length:=by
 induction h using Xa.ri with
 | none=>intro h;exact absurd rfl h
 | one k o=>intro _;rfl
 | two l b x y p q hf _ _ h1 h2=>
  intro _;have hs:=JgN l b;obtain⟨_,u,hu,v,hv,hne⟩:=hf;have k0:side l b 0 ≠ []:=λe=>by
   have a1:u ∉ side l b 0:=(by rw[e];simp);have a2:v ∉ side l b 0:=(by rw[e];simp);unfold side at a1 a2;rw[QN]at a1 a2;have b1:=Yf u.1 b;have b2:=Yf v.1 b;simp only[hu,hv,true_and,decide_eq_true_eq]at a1 a2;omega
  have k1:side l b 1 ≠ []:=λe=>by
   have a1:u ∉ side l b 1:=(by rw[e];simp);have a2:v ∉ side l b 1:=(by rw[e];simp);unfold side at a1 a2;rw[QN]at a1 a2;have b1:=Yf u.1 b;have b2:=Yf v.1 b;simp only[hu,hv,true_and,decide_eq_true_eq]at a1 a2;omega
  have e1:=h1 k0;have e2:=h2 k1;simp only[Qe,Qp,Qv];omega
theorem Jjw:∀(a b:List α),a.Nodup->b.Nodup->(∀x,x∈a↔x∈b)->a.length=b.length:=λ_ _ ha hb h=>((List.perm_ext_iff_of_nodup ha hb).2 h).length_eq

theorem Jgd{s:BA}{x:Jj}(h:(Instr.lookup 262 (.map (some p)) (.string s) true).run prog w=.ok (.tuple #[.agg (Jo x),.bool b]) w):
  Calls prog 298 #[.map (some p),.string s] w λe w'=>e=.returned (.bool b)/\Tch NoB w w':=by
 obtain⟨n1,n2,⟨n3,n4⟩,n5,n6,n7⟩:=x;simp only[Jo]at h;have hT:=Ta NoB w (.cells #[.string n1,.string n2,.int .u64 (n3:Int),.int .u8 (n4:Int),.int .i64 n5,.string n6,.string n7] 281);go_enter func298,ntmps298;go_wp2;go_ret;exact⟨rfl,hT⟩
theorem JcK{s:BA}{a o:Int}(h:(Instr.lookup 268 (.map (some p)) (.string s) true).run prog w=.ok (.tuple #[.agg #[.int .u64 a,.int .u8 o],.bool b]) w):
  Calls prog 238 #[.map (some p),.string s] w λe w'=>e=.returned (.bool b)/\Tch NoB w w':=by
 have hT:=Ta NoB w (.cells #[.int .u64 a,.int .u8 o] 80);go_enter func238,ntmps238;go_wp2;go_ret;exact⟨rfl,hT⟩
theorem JcJ{s:BA}(h:(Instr.lookup 267 (.map (some p)) (.string s) true).run prog w=.ok (.tuple #[.agg #[],.bool b]) w):
  Calls prog 231 #[.map (some p),.string s] w λe w'=>e=.returned (.bool b)/\Tch NoB w w':=by
 have hT:=Ta NoB w (.cells #[] 288);go_enter func231,ntmps231;go_wp2;go_ret;exact⟨rfl,hT⟩
