import Derived.Shelf.Strconv.Clone
import Derived.Shelf.Strings.Repeat
import Derived.Test.YtighkdnooglfjaaGreatDoorQyTreeA
open Go renaming Calls->aB,Value->aG,World->aA
open Go.Ending renaming returned->aC
open Go.IntKind renaming i64->I,u64->aD,u8->aE
open Go.Obj renaming cells->T,cells->lV
open Go.Proofs.Tryz renaming prog->N
open Go.RowKit renaming Hid->J
open Go.Value renaming agg->aH,bool->aL,iface->aJ,int->O,nilIface->aK,pointer->X,slice->R,string->L,tuple->aI
open Option renaming none->Y,some->Z,map_some->lZ
open Go.Act renaming put->lD
open Array renaming getElem?_eq_some_iff->lF,replicate->lJ,getD->lK,getElem?_toList->lQ
open List renaming replicate->lE,exists_mem_of_ne_nil->lG,mem_cons->lM,size_toArray->lO,append_assoc->lP,headD_cons->lR,append_inj->lS,mem_cons_self->lT,getElem?_map->lU,map_cons->lW,all_eq_true->lX,cons_append->lY
open Go.Region renaming ready->lC,Mode->lH,wanted->lI
open Go.World renaming cell?_setCell_other->lN
set_option maxRecDepth 100000
set_option maxHeartbeats 4000000
namespace Go.Proofs.YtighkdnooglfjaaGreatDoor
open Go.RowKit

def RdOk{α:Type}(f:PS->Option (α×PS))(Ok:α->Prop)(m:Nat):Prop:=∀q r y p',f (.rd q r)=Z (y,p')->∃b r',b.length<=m/\r=b++r'/\p'=.rd (q++b) r'/\Ok y
theorem ZK(x k:Nat):RdOk (PS.num x k) (λn=>n<256 ^ k) k:=by
 intro q r y p' h;simp only[PS.num]at h
 split at h
 ·rename_i hk
  cases h
  refine⟨r.take k,r.drop k,by simp;omega,(List.take_append_drop k r).symm,rfl,?_⟩;have:=Yt (r.take k)
  rwa [QB,Nat.min_eq_left hk]at this
 ·cases h
theorem Jcd(s:List UInt8)(k:Nat):RdOk (PS.txt s k) (λt=>t.length=k) k:=by
 intro q r y p' h;simp only[PS.txt]at h
 split at h
 ·rename_i hk
  cases h
  exact⟨r.take k,r.drop k,by simp;omega,(List.take_append_drop k r).symm,rfl,by simp;omega⟩
 ·cases h
theorem RdOk.bind{α β:Type}{f:PS->Option (α×PS)}{g:α->PS->Option (β×PS)}{h:PS->Option (β×PS)}{A:α->Prop}{B:β->Prop}{m n:Nat}(hf:RdOk f A m)(hg:∀a,A a->RdOk (g a) B n)(hh:∀p y p',h p=Z (y,p')->∃a p1,f p=Z (a,p1)/\g a p1=Z (y,p')):RdOk h B (m+n):=by
 intro q r y p' e;obtain⟨a,p1,e1,e2⟩:=hh _ _ _ e;obtain⟨b,r1,l1,rfl,rfl,ha⟩:=hf _ _ _ _ e1;obtain⟨b2,r2,l2,rfl,rfl,hb⟩:=hg a ha _ _ _ _ e2;exact⟨b++b2,r2,by rw[Qe];omega,by rw[Qs],by rw[Qs],hb⟩
theorem RdOk.mono{α:Type}{f:PS->Option (α×PS)}{A B:α->Prop}{m n:Nat}(h:RdOk f A m)(vH:∀a,A a->B a)(hmn:m<=n):RdOk f B n:=by
 intro q r y p' e;obtain⟨b,r1,l1,e1,e2,ha⟩:=h _ _ _ _ e;exact⟨b,r1,by omega,e1,e2,vH _ ha⟩
theorem RdOk.ret{α:Type}(y:α){A:α->Prop}(h:A y):RdOk (λp=>Z (y,p)) A 0:=by
 intro q r z p' e
 cases e
 exact⟨[],r,Ql _,rfl,by rw[QC],h⟩
theorem Jne(a o:Nat):RdOk (PS.out a o) Jy 9:=by
 refine RdOk.bind (n:=1) (ZK a 8) (g:=λn p=>(p.num o 1).bind λq=>Z ((n,q.1),q.2)) (λn hn=>?_) ?_
 ·refine RdOk.bind (n:=0) (ZK o 1) (g:=λk p=>Z ((n,k),p)) (λk hk=>RdOk.ret (n,k) ⟨by simpa using hn,by simpa using hk⟩) ?_;intro p y p' e
  cases h1:p.num o 1 with
  | none=>rw[h1]at e;cases e
  | some r=>rw[h1]at e;cases e;exact⟨_,_,rfl,rfl⟩
 ·intro p y p' e;unfold PS.out at e
  cases h1:p.num a 8 with
  | none=>rw[h1]at e;cases e
  | some r=>
   obtain⟨n,p1⟩:=r;rw[h1]at e;dsimp only at e;refine⟨n,p1,rfl,?_⟩
   cases h2:p1.num o 1 with
   | none=>rw[h2]at e;cases e
   | some r2=>obtain⟨k,p2⟩:=r2;rw[h2]at e;cases e;rfl
theorem Jla(wj:Nat)(c:BA×Int):RdOk (PS.coin wj c) (Jj wj) (wj+1):=by
 intro q r y p' e;unfold PS.coin at e
 cases h1:(PS.rd q r).txt c.1.data.toList wj with
 | none=>rw[h1]at e;cases e
 | some r1=>
  obtain⟨t,p1⟩:=r1;rw[h1]at e;dsimp only at e;obtain⟨b,r',l1,rfl,rfl,ht⟩:=Jcd _ _ _ _ _ _ h1
  cases h2:(PS.rd (q++b) r').num (JD c.2) 1 with
  | none=>rw[h2]at e;cases e
  | some r2=>
   obtain⟨m,p2⟩:=r2;rw[h2]at e;dsimp only at e;obtain⟨b2,r2',l2,rfl,rfl,hm⟩:=ZK _ _ _ _ _ _ h2
   split at e
   ·rename_i h3
    cases e
    exact⟨b++b2,r2',by rw[Qe];omega,by rw[Qs],by rw[Qs],by show t.toArray.size=_;simpa using ht,by show (0:Int)<=(m:Int);omega,by show (m:Int)<3;omega⟩
   ·cases e
theorem Ji3(wj:Nat):∀(l:List (BA×Int)),RdOk (PS.coins wj l) (λys=>ys.length=l.length/\∀y∈ys,Jj wj y) (l.length*(wj+1)):=by
 intro l
 induction l with
 | nil=>rw[Qv,Nat.zero_mul];exact RdOk.ret [] ⟨rfl,λ_ h=>by cases h⟩
 | cons x r ih=>
  refine(RdOk.bind (B:=λys=>ys.length=r.length+1/\∀y∈ys,Jj wj y) (n:=r.length*(wj+1)) (Jla wj x) (g:=λy p=>(PS.coins wj r p).bind λq=>Z (y::q.1,q.2)) (λy hy=>?_) ?_).mono (λ_ h=>h) (by rw[Qp,Nat.succ_mul];omega)
  ·have:=RdOk.bind (n:=0) (h:=λp=>(PS.coins wj r p).bind λq=>Z (y::q.1,q.2)) ih (g:=λys p=>Z (y::ys,p)) (B:=λys=>ys.length=r.length+1/\∀y∈ys,Jj wj y) (λys uC=>RdOk.ret (y::ys) ⟨by simp[uC.1],λz hz=>by rcases lM.1 hz with rfl|hz;exact hy;exact uC.2 z hz⟩) (λp z p' e=>by
    cases h1:PS.coins wj r p with
    | none=>rw[h1]at e;cases e
    | some r=>rw[h1]at e;cases e;exact⟨_,_,rfl,rfl⟩)
   rwa [Nat.add_zero]at this
  ·intro p z p' e;unfold PS.coins at e
   cases h1:p.coin wj x with
   | none=>rw[h1]at e;cases e
   | some r1=>
    obtain⟨y,p1⟩:=r1;rw[h1]at e;dsimp only at e;refine⟨y,p1,rfl,?_⟩
    cases h2:PS.coins wj r p1 with
    | none=>rw[h2]at e;cases e
    | some r2=>obtain⟨ys,p2⟩:=r2;rw[h2]at e;cases e;rfl
theorem Jlb:∀(l:List (Nat×Nat)),RdOk (PS.outs l) (λys=>ys.length=l.length/\∀y∈ys,Jy y) (l.length*9):=by
 intro l
 induction l with
 | nil=>rw[Qv,Nat.zero_mul];exact RdOk.ret [] ⟨rfl,λ_ h=>by cases h⟩
 | cons x r ih=>
  refine(RdOk.bind (B:=λys=>ys.length=r.length+1/\∀y∈ys,Jy y) (n:=r.length*9) (Jne x.1 x.2) (g:=λy p=>(PS.outs r p).bind λq=>Z (y::q.1,q.2)) (λy hy=>?_) ?_).mono (λ_ h=>h) (by rw[Qp,Nat.succ_mul];omega)
  ·have:=RdOk.bind (n:=0) (h:=λp=>(PS.outs r p).bind λq=>Z (y::q.1,q.2)) ih (g:=λys p=>Z (y::ys,p)) (B:=λys=>ys.length=r.length+1/\∀y∈ys,Jy y) (λys uC=>RdOk.ret (y::ys) ⟨by simp[uC.1],λz hz=>by rcases lM.1 hz with rfl|hz;exact hy;exact uC.2 z hz⟩) (λp z p' e=>by
    cases h1:PS.outs r p with
    | none=>rw[h1]at e;cases e
    | some r=>rw[h1]at e;cases e;exact⟨_,_,rfl,rfl⟩)
   rwa [Nat.add_zero]at this
  ·intro p z p' e;unfold PS.outs at e
   cases h1:p.out x.1 x.2 with
   | none=>rw[h1]at e;cases e
   | some r1=>
    obtain⟨y,p1⟩:=r1;rw[h1]at e;dsimp only at e;refine⟨y,p1,rfl,?_⟩
    cases h2:PS.outs r p1 with
    | none=>rw[h2]at e;cases e
    | some r2=>obtain⟨ys,p2⟩:=r2;rw[h2]at e;cases e;rfl
theorem JeA(n:Nat):(YC [] n).length=n:=by simp[YC]
theorem JeB(n:Nat):(Ze [] n).length=n:=by simp[Ze]
theorem Ji4(wj least:Nat)(hw:wj<=32):RdOk (PS.listC wj least 3 []) (λys=>least<=ys.length/\ys.length<=3/\∀y∈ys,Jj wj y) 100:=by
 refine(RdOk.bind (n:=99) (ZK 0 1) (g:=λcnt p=>if cnt<least\/3<cnt then Y else PS.coins wj (YC [] cnt) p) (λcnt _=>?_) ?_).mono (λ_ h=>h) (by omega)
 ·by_cases h:cnt<least\/3<cnt
  ·intro q r y p' e;simp only[if_pos h]at e;cases e
  ·simp only[if_neg h];refine(Ji3 wj (YC [] cnt)).mono (λys hy=>?_) ?_
   ·rw[JeA]at hy;exact⟨by omega,by omega,hy.2⟩
   ·rw[JeA];have:cnt*(wj+1)<=3*33:=Nat.mul_le_mul (by omega) (by omega);omega
 ·intro p y p' e;unfold PS.listC at e
  cases h1:p.num ([]:List (BA×Int)).length 1 with
  | none=>rw[h1]at e;cases e
  | some r1=>obtain⟨cnt,p1⟩:=r1;rw[h1]at e;exact⟨cnt,p1,rfl,e⟩
theorem Ji5:RdOk (PS.listO 0 3 []) (λys=>ys.length<=3/\∀y∈ys,Jy y) 28:=by
 refine(RdOk.bind (n:=27) (ZK 0 1) (g:=λcnt p=>if cnt<0\/3<cnt then Y else PS.outs (Ze [] cnt) p) (λcnt _=>?_) ?_).mono (λ_ h=>h) (by omega)
 ·by_cases h:cnt<0\/3<cnt
  ·intro q r y p' e;simp only[if_pos h]at e;cases e
  ·simp only[if_neg h];refine(Jlb (Ze [] cnt)).mono (λys hy=>?_) ?_
   ·rw[JeB]at hy;exact⟨by omega,hy.2⟩
   ·rw[JeB];omega
 ·intro p y p' e;unfold PS.listO at e
  cases h1:p.num ([]:List (Nat×Nat)).length 1 with
  | none=>rw[h1]at e;cases e
  | some r1=>obtain⟨cnt,p1⟩:=r1;rw[h1]at e;exact⟨cnt,p1,rfl,e⟩
theorem JoS(wj:Nat)(hw:wj<=32):RdOk (PS.tx wj ([],[])) (TxOk wj) 128:=by
 refine RdOk.bind (n:=28) (Ji4 wj 1 hw) (g:=λys p=>(p.listO 0 3 []).bind λq=>Z ((ys,q.1),q.2)) (λys hy=>?_) ?_
 ·refine RdOk.bind (n:=0) Ji5 (g:=λzs p=>Z ((ys,zs),p)) (λzs hz=>RdOk.ret (ys,zs) ⟨hy.2.2,hz.2,hy.1,hy.2.1,hz.1⟩) ?_;intro p y p' e
  cases h1:p.listO 0 3 [] with
  | none=>rw[h1]at e;cases e
  | some r=>rw[h1]at e;cases e;exact⟨_,_,rfl,rfl⟩
 ·intro p y p' e;unfold PS.tx at e
  cases h1:p.listC wj 1 3 [] with
  | none=>rw[h1]at e;cases e
  | some r=>
   obtain⟨ys,p1⟩:=r;rw[h1]at e;dsimp only at e;refine⟨ys,p1,rfl,?_⟩
   cases h2:p1.listO 0 3 [] with
   | none=>rw[h2]at e;cases e
   | some r2=>obtain⟨k,p2⟩:=r2;rw[h2]at e;cases e;rfl
theorem Jnf(wj:Nat)(hw:wj<=32):∀n,RdOk (PS.txs wj (lE n ([],[]))) (λys=>ys.length=n/\∀y∈ys,TxOk wj y) (n*128):=by
 intro n
 induction n with
 | zero=>rw[Nat.zero_mul];exact RdOk.ret [] ⟨rfl,λ_ h=>by cases h⟩
 | succ n ih=>
  rw[List.replicate_succ];refine(RdOk.bind (B:=λys=>ys.length=n+1/\∀y∈ys,TxOk wj y) (n:=n*128) (JoS wj hw) (g:=λy p=>(PS.txs wj (lE n ([],[])) p).bind λq=>Z (y::q.1,q.2)) (λy hy=>?_) ?_).mono (λ_ h=>h) (by omega)
  ·have:=RdOk.bind (n:=0) (h:=λp=>(PS.txs wj (lE n ([],[])) p).bind λq=>Z (y::q.1,q.2)) ih (g:=λys p=>Z (y::ys,p)) (B:=λys=>ys.length=n+1/\∀y∈ys,TxOk wj y) (λys uC=>RdOk.ret (y::ys) ⟨by simp[uC.1],λz hz=>by rcases lM.1 hz with rfl|hz;exact hy;exact uC.2 z hz⟩) (λp z p' e=>by
    cases h1:PS.txs wj (lE n ([],[])) p with
    | none=>rw[h1]at e;cases e
    | some r=>rw[h1]at e;cases e;exact⟨_,_,rfl,rfl⟩)
   rwa [Nat.add_zero]at this
  ·intro p z p' e;unfold PS.txs at e
   cases h1:p.tx wj ([],[]) with
   | none=>rw[h1]at e;cases e
   | some r1=>
    obtain⟨y,p1⟩:=r1;rw[h1]at e;dsimp only at e;refine⟨y,p1,rfl,?_⟩
    cases h2:PS.txs wj (lE n ([],[])) p1 with
    | none=>rw[h2]at e;cases e
    | some r2=>obtain⟨ys,p2⟩:=r2;rw[h2]at e;cases e;rfl
theorem Jam(wj:Nat)(hw:wj<=32):RdOk (PS.body wj []) (λts=>ts.length<=3/\∀t∈ts,TxOk wj t) 385:=by
 refine RdOk.bind (m:=1) (n:=384) (ZK 0 1) (g:=λcnt p=>if 3<cnt then Y else PS.txs wj (Zr [] cnt) p) (λcnt _=>?_) ?_
 ·by_cases h:3<cnt
  ·intro q r y p' e;simp only[if_pos h]at e;cases e
  ·simp only[if_neg h];exact(Jnf wj hw cnt).mono (λys hy=>⟨by omega,hy.2⟩) (by omega)
 ·intro p y p' e;unfold PS.body at e
  cases h1:p.num ([]:List TxL).length 1 with
  | none=>rw[h1]at e;cases e
  | some r1=>obtain⟨cnt,p1⟩:=r1;rw[h1]at e;exact⟨cnt,p1,rfl,e⟩
theorem JhP(wj:Nat)(hw:wj<=32)(z:HdL):RdOk (PS.hdr wj z) (HdOk wj) 100:=by
 intro q r y p' e;unfold PS.hdr at e
 cases h1:(PS.rd q r).num z.1 4 with
 | none=>rw[h1]at e;cases e
 | some r1=>
  obtain⟨n,p1⟩:=r1;rw[h1]at e;dsimp only at e;obtain⟨b1,s1,l1,rfl,rfl,k1⟩:=ZK _ _ _ _ _ _ h1
  cases h2:(PS.rd (q++b1) s1).txt z.2.1.data.toList wj with
  | none=>rw[h2]at e;cases e
  | some r2=>
   obtain⟨t2,p2⟩:=r2;rw[h2]at e;dsimp only at e;obtain⟨b2,s2,l2,rfl,rfl,k2⟩:=Jcd _ _ _ _ _ _ h2
   cases h3:(PS.rd (q++b1++b2) s2).txt z.2.2.1.data.toList wj with
   | none=>rw[h3]at e;cases e
   | some r3=>
    obtain⟨t3,p3⟩:=r3;rw[h3]at e;dsimp only at e;obtain⟨b3,s3,l3,rfl,rfl,k3⟩:=Jcd _ _ _ _ _ _ h3
    cases h4:(PS.rd (q++b1++b2++b3) s3).txt z.2.2.2.data.toList wj with
    | none=>rw[h4]at e;cases e
    | some r4=>
     obtain⟨t4,p4⟩:=r4;rw[h4]at e;dsimp only at e;obtain⟨b4,s4,l4,rfl,rfl,k4⟩:=Jcd _ _ _ _ _ _ h4
     cases e
     refine⟨b1++b2++b3++b4,s4,by simp only[Qe];omega,by simp only[Qs],by simp only[Qs],?_⟩;exact⟨by simpa using k1,(lO).trans k2,(lO).trans k3,(lO).trans k4⟩
end Go.Proofs.YtighkdnooglfjaaGreatDoor
namespace Go.Proofs
open Go.Proofs.Tryz
open Go.Shelf
def Jgb:Go.Shelf.Ren:=⟨fun|316=>142|n=>n,fun|9=>9|3=>3|4=>4|37=>52|0=>0|127=>358|5=>5|n=>n,fun|n=>n⟩
theorem Jmz:Go.Proofs.LaysM.n316 N Jgb:={
 mixed:=by kernel_rfl
 f316:=func142.trans (congrArg Z (by kernel_rfl))
 t0:=underlying0
 a0:=isAgg0
 z0:=sizeOf0
 v0:=zeroValue0
 t3:=underlying3
 a3:=isAgg3
 z3:=sizeOf3
 v3:=zeroValue3
 t4:=underlying4
 a4:=isAgg4
 z4:=sizeOf4
 v4:=zeroValue4
 t9:=underlying9
 a9:=isAgg9
 z9:=sizeOf9
 v9:=zeroValue9
 t37:=underlying52
 a37:=isAgg52
 z37:=sizeOf52
 v37:=zeroValue52
 t127:=underlying358
 a127:=isAgg358
 z127:=sizeOf358
 v127:=zeroValue358
 t5:=underlying5
 a5:=isAgg5
 z5:=sizeOf5
 v5:=zeroValue5
 i0:=by kernel_rfl
 i3:=by kernel_rfl
 i4:=by kernel_rfl
 i5:=by kernel_rfl
 i9:=by kernel_rfl
 i37:=by kernel_rfl
 i127:=by kernel_rfl }
open Go.RowKit in
theorem stringslite_Clone(s:ByteArray)(w:aA)(sN:s.size<=281474976710656):
  aB N 142 #[L s] w λe w'=>e=aC (L s)/\Below w.heap.size w w':=Any.stringslite_Clone Jmz s w sN
def Jc3:Go.Shelf.Ren:=⟨fun|105=>128|212=>192|99=>193|165=>194|166=>195|170=>196|169=>197|263=>272|264=>273|206=>274|240=>275|241=>276|276=>335|277=>336|n=>n,fun|9=>9|3=>3|4=>4|20=>20|0=>0|46=>322|109=>323|5=>5|72=>328|76=>330|51=>429|146=>430|53=>78|148=>432|70=>326|37=>52|75=>92|127=>358|164=>483|80=>61|n=>n,fun|n=>n⟩
theorem JjS:Go.Proofs.Lays.n105 N Jc3:={
 mixed:=by kernel_rfl
 f99:=func193.trans (congrArg Z (by kernel_rfl))
 f105:=func128.trans (congrArg Z (by kernel_rfl))
 f165:=func194.trans (congrArg Z (by kernel_rfl))
 f166:=func195.trans (congrArg Z (by kernel_rfl))
 f169:=func197.trans (congrArg Z (by kernel_rfl))
 f170:=func196.trans (congrArg Z (by kernel_rfl))
 f206:=func274.trans (congrArg Z (by kernel_rfl))
 f212:=func192.trans (congrArg Z (by kernel_rfl))
 f240:=func275.trans (congrArg Z (by kernel_rfl))
 f241:=func276.trans (congrArg Z (by kernel_rfl))
 f263:=func272.trans (congrArg Z (by kernel_rfl))
 f264:=func273.trans (congrArg Z (by kernel_rfl))
 f276:=func335.trans (congrArg Z (by kernel_rfl))
 f277:=func336.trans (congrArg Z (by kernel_rfl))
 t0:=underlying0
 a0:=isAgg0
 z0:=sizeOf0
 v0:=zeroValue0
 t3:=underlying3
 a3:=isAgg3
 z3:=sizeOf3
 v3:=zeroValue3
 t4:=underlying4
 a4:=isAgg4
 z4:=sizeOf4
 v4:=zeroValue4
 t5:=underlying5
 a5:=isAgg5
 z5:=sizeOf5
 v5:=zeroValue5
 t9:=underlying9
 a9:=isAgg9
 z9:=sizeOf9
 v9:=zeroValue9
 t20:=underlying20
 a20:=isAgg20
 z20:=sizeOf20
 v20:=zeroValue20
 t37:=underlying52
 a37:=isAgg52
 z37:=sizeOf52
 v37:=zeroValue52
 t46:=underlying322
 a46:=isAgg322
 z46:=sizeOf322
 v46:=zeroValue322
 t51:=underlying429
 a51:=isAgg429
 z51:=sizeOf429
 v51:=zeroValue429
 t53:=underlying78
 a53:=isAgg78
 z53:=sizeOf78
 v53:=zeroValue78
 t70:=underlying326
 a70:=isAgg326
 z70:=sizeOf326
 v70:=zeroValue326
 t72:=underlying328
 a72:=isAgg328
 z72:=sizeOf328
 v72:=zeroValue328
 t75:=underlying92
 a75:=isAgg92
 z75:=sizeOf92
 v75:=zeroValue92
 t76:=underlying330
 a76:=isAgg330
 z76:=sizeOf330
 v76:=zeroValue330
 t109:=underlying323
 a109:=isAgg323
 z109:=sizeOf323
 v109:=zeroValue323
 t127:=underlying358
 a127:=isAgg358
 z127:=sizeOf358
 v127:=zeroValue358
 t146:=underlying430
 a146:=isAgg430
 z146:=sizeOf430
 v146:=zeroValue430
 t148:=underlying432
 a148:=isAgg432
 z148:=sizeOf432
 v148:=zeroValue432
 t164:=underlying483
 a164:=isAgg483
 z164:=sizeOf483
 v164:=zeroValue483 }
theorem JbP:Builder.Extra N Jc3:={
 sizeBuilder:=by kernel_rfl
 liesBuilder:=by kernel_rfl
 t5:=underlying5
 a5:=isAgg5
 z5:=sizeOf5
 v5:=zeroValue5
 infoByte:=by kernel_rfl
 cellsByte:=by kernel_rfl
 sizeByte:=by kernel_rfl
 neB5:=by decide }
open Go.RowKit Go.Lib in
theorem strings_Repeat_main(s:ByteArray)(c:Nat)(w:aA)(hc2:2<=c)(hc:c<=9223372036854775807)(Hq:s.size*c<=140737488355328)(h0:0<s.size):
  aB N 128 #[L s,O I c] w λe w'=>e=aC (L ⟨(Lib.repeatL s.data.toList c).toArray⟩)/\Below w.heap.size w w':=Any.strings_Repeat_main JjS JbP s c w hc2 hc Hq h0
open Go.RowKit Go.Lib in
theorem strings_Repeat_one(s:ByteArray)(w:aA):
  aB N 128 #[L s,O I 1] w λe w'=>e=aC (L s)/\w'=w:=Any.strings_Repeat_one JjS s w
end Go.Proofs
namespace Go.Proofs.YtighkdnooglfjaaGreatDoor
open Go.Proofs.Tryz
open Go.RowKit
theorem M.of_belowN{w w':aA}(h:Below w.heap.size w w'):M D w w':=(M.of_below h).mono (λ_ hj=>.inr hj)
set_option maxRecDepth 100000 in
theorem Jkp(s:BA)(w:aA)(hs:s.size<=1000000):aB N 90 #[L s] w λe w'=>e=aC (L s)/\M D w w':=by
 have HC:J (∀W,aB N 142 #[L s] W λe w'=>e=aC (L s)/\M D W w'):=λW=>(stringslite_Clone s W (by omega)).mono λe w' h=>⟨h.1,M.of_belowN h.2⟩
 clear hs;go_enter func90,ntmps90;go_wp2_with fail;refine(HC.o _).mono ?_;rintro _ w1⟨rfl,h⟩;have HH:J _:=h;clear h HC;go_wp2;go_ret;exact⟨rfl,HH.o⟩
theorem Ji7(c:Nat)(h1:1<=c)(h2:c<=32)(w:aA):aB N 128 #[L ⟨#[0]⟩,O I (c:Int)] w λe w'=>e=aC (L ⟨(lE c (0:UInt8)).toArray⟩)/\M D w w':=by
 by_cases hc:c=1
 ·subst hc;exact(strings_Repeat_one ⟨#[0]⟩ w).mono λe w' h=>⟨h.1,by rw[h.2];exact Te _ _⟩
 ·refine(strings_Repeat_main ⟨#[0]⟩ c w (by omega) (by omega) (by show 1*c<=_;omega) (by show 0<1;omega)).mono λe w' h=>⟨?_,M.of_belowN h.2⟩
  have e:Lib.repeatL [0] c=lE c (0:UInt8):=by have:=Lib.repeatL_replicate 0 1 c;rw[Nat.mul_one]at this;exact this
  rw[h.1,show (⟨#[0]⟩:BA).data.toList=[0] from rfl,e]

def subP(d:List UInt8->BA)(wj m:Nat)(bh:BA)(st:Option Tr)(text:List UInt8):Except Er (BA×Option Tr):=
 match (PS.rd [] text).hdr wj (0,⟨#[]⟩,⟨#[]⟩,⟨#[]⟩) with
 | some (h,⟨Sum.inl (H4,body)⟩)=>match (PS.rd H4 body).body wj [] with
  | some (ts,⟨Sum.inl (_,[])⟩)=>if h ≠ (m+1,d (72::bh.data.toList),d (66::body),h.2.2.2) then .error .tip else match JH d st ts with
   | .error e=>.error e
   | .ok st'=>if h.2.2.2 ≠ Xh d st' then .error .root else .ok (⟨(text.take (text.length-body.length)).toArray⟩,st')
  | _=>.error .form
 | _=>.error .form
theorem Jjj(d:List UInt8->BA)(wj m:Nat)(bh:BA)(st:Option Tr)(ch:Ch)(hl:ch.length=m+1)(hla:ch.last=(bh,st))(text:List UInt8):
  Jcm d wj ch text=match subP d wj m bh st text with | .error e=>.error e | .ok x=>.ok (ch++[x]):=by
 unfold Jcm subP Jbt;rw[hl,hla];dsimp only
 cases (PS.rd [] text).hdr wj (0,⟨#[]⟩,⟨#[]⟩,⟨#[]⟩) with
 | none=>rfl
 | some x=>
  obtain⟨h,p⟩:=x
  cases p using PS.on with
  | wr d=>rfl
  | rd H4 body=>
   dsimp only
   cases (PS.rd H4 body).body wj [] with
   | none=>rfl
   | some y=>
    obtain⟨ts,p⟩:=y
    cases p using PS.on with
    | wr d=>rfl
    | rd q r=>
     cases r with
     | cons a l=>rfl
     | nil=>
      dsimp only
      split
      ·rfl
      ·cases JH d st ts with
       | error e=>rfl
       | ok st'=>dsimp only;split<;>rfl
def NoTo(E:Nat->Addr)(er:Nat)(w:aA)(e:Ending)(w':aA):Prop:=M D w w'/\∃t u,e=aC (aJ t u)/\Jn E er w' (aJ t u)
theorem JgV(E:Nat->Addr){w:aA}(hE:Env E w){cb wj fl r:Nat}(hw:wj<=32){bs:List BV}{lv:aG}(h:JR w cb wj fl r bs lv)(s:BA)(hs:s.size<=1100000)(hh:(PS.rd [] s.data.toList).hdr wj (0,⟨#[]⟩,⟨#[]⟩,⟨#[]⟩)=Y):
  aB N 46 #[X (Z ⟨cb,0,Y⟩),L s] w λe w'=>NoTo E 7 w e w':=by
 have Hp:=hE.size;have c0:w.cell? ⟨cb,0,Y⟩=Z (O I (wj:Int)):=Ja h.row;have zw:J (∀W,M D w W->Jd W w.heap.size Y (wj:Int) aK (.rd [] s.data.toList)->aB N 86 #[X (Z ⟨w.heap.size,0,Y⟩),aH #[O aD 0,L ⟨#[]⟩,L ⟨#[]⟩,L ⟨#[]⟩]] W λe w'=>∃(n:Nat)(x1 x2 x3:BA),e=aC (aH #[O aD (n:Int),L x1,L x2,L x3])/\RdTo E W w' w.heap.size (wj:Int) Y):=λW hT hp=>by
  have:=Jfm E w.heap.size Hp wj 0 ⟨#[]⟩ ⟨#[]⟩ ⟨#[]⟩ (Z (.rd [] s.data.toList)) W (hE.tch hT noE) ⟨hp,_,_,rfl⟩ (by simp only[JP,PS.len,Qv,QA];have:s.data.size<=1100000:=hs;omega);refine this.mono λe w' k=>?_;rw[Jex wj _ _ hh]at k;exact⟨_,_,_,_,k.1,k.2⟩
 clear hE h hh hs;go_enter func46,ntmps46;go_wp2_with fail;refine(XT _ _ _).mono ?_;rintro _ w1⟨rfl,Hy,H9⟩;have H5:J (M D w w1):=H9;have Hx:J (Jd w1 w.heap.size Y (wj:Int) aK (.rd [] s.data.toList)):=Hy;clear H9 Hy c0;go_wp2_with fail;refine(zw.o w1 H5.o Hx.o).mono ?_;rintro _ w2⟨n,x1,x2,x3,rfl,⟨q,rr,t,u,kV,s7⟩,Ha⟩;have hA:=Ta D w2 (T #[O aD (n:Int),L x1,L x2,L x3] 167);have H6:J (M D w _):=(H5.o.trans Ha (λj hj=>.inr (Nat.le_of_eq hj.symm))).go hA;have kF:J (Jd _ w.heap.size Y (wj:Int) (aJ t u) (.rd q rr)):=kV.tch hA (λh=>h) (λ_ _ h=>h);have uT:J (Jn E 7 _ (aJ t u)):=s7.next hA;clear kV s7 Ha zw Hx H5 hA;go_wp2_with fail;refine(Jem w.heap.size Y (wj:Int) _ q rr _ kF.o).mono ?_;rintro _ w3⟨rfl,Hs⟩;have Hb:J (M D w w3):=H6.o.go Hs;have qs:J (Jd w3 w.heap.size Y (wj:Int) (aJ t u) (.rd q rr)):=kF.o.tch Hs (λh=>h) (λ_ _ h=>h);have HE3:J (Jn E 7 w3 (aJ t u)):=uT.o.next Hs;clear Hs H6 kF uT;go_wp2_with fail;refine(Jl0 w.heap.size Y wj Y 0 0 _ t u w3 qs.o).mono ?_;rintro _ w4⟨rfl,yj,Hu⟩;have Hm:J (M D w w4):=Hb.o.go Hu;have pB:J (Jd w4 w.heap.size Y (wj:Int) (aJ t u) (.rd q rr)):=yj;have HE4:J (Jn E 7 w4 (aJ t u)):=HE3.o.next Hu;clear Hu yj Hb qs HE3;go_wp2_with fail;refine(JfF w.heap.size Y (wj:Int) t u _ w4 pB.o).mono ?_;rintro _ w5⟨rfl,kR⟩;have kD:J (M D w w5):=Hm.o.go kR;have sM:J (Jn E 7 w5 (aJ t u)):=HE4.o.next kR;clear kR Hm pB HE4;go_wp2_with fail;refine(Xk _ _ _ _).mono ?_;rintro _ _⟨rfl,rfl⟩;go_wp2;go_ret;exact⟨kD.o.go (Ta _ _ _),_,_,rfl,.wrap _ _ _ (Qf _ _) (sM.o.next (Ta _ _ _))⟩
theorem Jji(E:Nat->Addr){w W:aA}(hE:Env E w)(wj:Nat)(hw:wj<=32)(s:BA)(hs:s.size<=1100000)(y:HdL)(p:PS)(hh:(PS.rd [] s.data.toList).hdr wj (0,⟨#[]⟩,⟨#[]⟩,⟨#[]⟩)=Z (y,p))(hT:M D w W)(hp:Jd W w.heap.size Y (wj:Int) aK (.rd [] s.data.toList)):
  aB N 86 #[X (Z ⟨w.heap.size,0,Y⟩),aH #[O aD 0,L ⟨#[]⟩,L ⟨#[]⟩,L ⟨#[]⟩]] W λe w'=>e=aC (aH #[O aD (y.1:Int),L y.2.1,L y.2.2.1,L y.2.2.2])/\RdTo E W w' w.heap.size (wj:Int) (Z p):=by
 have:=Jfm E w.heap.size hE.size wj 0 ⟨#[]⟩ ⟨#[]⟩ ⟨#[]⟩ (Z (.rd [] s.data.toList)) W (hE.tch hT noE) ⟨hp,_,_,rfl⟩ (by simp only[JP,PS.len,Qv,QA];have:s.data.size<=1100000:=hs;omega);refine this.mono λe w' k=>?_;obtain⟨e1,e2⟩:=JbN wj _ _ _ _ hh;rw[e1]at k;rw[e2]at k;exact k
theorem Jka(E:Nat->Addr){w W:aA}(hE:Env E w)(wj:Nat)(hw:wj<=32)(H4 body:List UInt8)(hl:H4.length+body.length<=1100000)(hT:M D w W)(hp:Jd W w.heap.size Y (wj:Int) aK (.rd H4 body)):
  aB N 78 #[X (Z ⟨w.heap.size,0,Y⟩),R Y 0 0] W λe w'=>ToB E W w.heap.size Y wj ((PS.rd H4 body).body wj []) e w':=
 JdF E w.heap.size hE.size Y wj hw (R Y 0 0) [] [] (.rd H4 body) W (hE.tch hT noE) hp (.inl ⟨rfl,rfl⟩) rfl (by simp) (λ_ _ _=>rfl) (λj x t h=>by simp at h) (by simp only[PS.len];omega)
theorem JgW(E:Nat->Addr){w:aA}(hE:Env E w){cb wj fl r:Nat}(hw:wj<=32){bs:List BV}{lv:aG}(h:JR w cb wj fl r bs lv)(s:BA)(hs:s.size<=1100000)(y:HdL)(H4 body:List UInt8)(hh:(PS.rd [] s.data.toList).hdr wj (0,⟨#[]⟩,⟨#[]⟩,⟨#[]⟩)=Z (y,.rd H4 body))(hl:H4.length+body.length<=1100000)(hb:∀ts q,(PS.rd H4 body).body wj [] ≠ Z (ts,.rd q [])):
  aB N 46 #[X (Z ⟨cb,0,Y⟩),L s] w λe w'=>NoTo E 7 w e w':=by
 have Hp:=hE.size;have c0:w.cell? ⟨cb,0,Y⟩=Z (O I (wj:Int)):=Ja h.row;have zw:J (∀W,M D w W->Jd W w.heap.size Y (wj:Int) aK (.rd [] s.data.toList)->aB N 86 #[X (Z ⟨w.heap.size,0,Y⟩),aH #[O aD 0,L ⟨#[]⟩,L ⟨#[]⟩,L ⟨#[]⟩]] W λe w'=>e=aC (aH #[O aD (y.1:Int),L y.2.1,L y.2.2.1,L y.2.2.2])/\RdTo E W w' w.heap.size (wj:Int) (Z (.rd H4 body))):=λW hT hp=>Jji E hE wj hw s hs y _ hh hT hp;have zu:J (∀W,M D w W->Jd W w.heap.size Y (wj:Int) aK (.rd H4 body)->aB N 78 #[X (Z ⟨w.heap.size,0,Y⟩),R Y 0 0] W λe w'=>ToB E W w.heap.size Y wj ((PS.rd H4 body).body wj []) e w'):=λW hT hp=>Jka E hE wj hw H4 body hl hT hp;have tQ:J (∀W g,M D w W->Jg E W w.heap.size g (wj:Int) (((PS.rd H4 body).body wj []).map (·.2))->aB N 88 #[X (Z ⟨w.heap.size,0,Y⟩)] W λe w'=>M D W w'/\∃t u,e=aC (aJ t u)/\Jn E 7 w' (aJ t u)):=λW g hT hp=>by
  cases hx:(PS.rd H4 body).body wj [] with
  | none=>
   rw[hx]at hp;exact Ja2 E w.heap.size wj Y (λp h=>by cases h) W (hE.tch hT noE) g hp
  | some z=>
   obtain⟨ts,p⟩:=z;obtain⟨b1,r1,_,_,e1,_⟩:=Jam wj hw _ _ _ _ hx;subst e1;rw[hx]at hp
   cases r1 with
   | nil=>exact absurd hx (hb _ _)
   | cons a l=>exact Ja2 E w.heap.size wj (Z (.rd (H4++b1) (a::l))) (λp h=>⟨_,_,(Option.some.inj h).symm⟩) W (hE.tch hT noE) g hp
 clear hE h hh hs hb hl;go_enter func46,ntmps46;go_wp2_with fail;refine(XT _ _ _).mono ?_;rintro _ w1⟨rfl,Hy,H9⟩;have H5:J (M D w w1):=H9;have Hx:J (Jd w1 w.heap.size Y (wj:Int) aK (.rd [] s.data.toList)):=Hy;clear H9 Hy c0;go_wp2_with fail;refine(zw.o w1 H5.o Hx.o).mono ?_;rintro _ w2⟨rfl,⟨kV,_⟩,Ha⟩;have hA:=Ta D w2 (T #[O aD (y.1:Int),L y.2.1,L y.2.2.1,L y.2.2.2] 167);have H6:J (M D w _):=(H5.o.trans Ha (λj hj=>.inr (Nat.le_of_eq hj.symm))).go hA;have kF:J (Jd _ w.heap.size Y (wj:Int) aK (.rd H4 body)):=kV.tch hA (λh=>h) (λ_ _ h=>h);clear kV Ha zw Hx H5 hA;go_wp2_with fail;refine(Jem w.heap.size Y (wj:Int) _ H4 body _ kF.o).mono ?_;rintro _ w3⟨rfl,Hs⟩;have Hb:J (M D w w3):=H6.o.go Hs;have qs:J (Jd w3 w.heap.size Y (wj:Int) aK (.rd H4 body)):=kF.o.tch Hs (λh=>h) (λ_ _ h=>h);clear Hs H6 kF;go_wp2_with fail;refine(zu.o w3 Hb.o qs.o).mono ?_;rintro _ w4⟨⟨z1,z2,z3⟩,g4,rfl,yj,_,Hu,_⟩;have Hm:J (M D w w4):=XD (b:=w.heap.size) (Ql _) Hb.o Hu;have pB:J (Jg E w4 w.heap.size g4 (wj:Int) (((PS.rd H4 body).body wj []).map (·.2))):=yj;clear Hu yj Hb qs;go_wp2_with fail;refine(tQ.o w4 g4 Hm.o pB.o).mono ?_;rintro _ w5⟨kR,t,u,rfl,fZ⟩;have kD:J (M D w w5):=Hm.o.go kR;have sM:J (Jn E 7 w5 (aJ t u)):=fZ;clear kR Hm pB fZ tQ zu;go_wp2_with fail;refine(Xk _ _ _ _).mono ?_;rintro _ _⟨rfl,rfl⟩;go_wp2;go_ret;exact⟨kD.o.go (Ta _ _ _),_,_,rfl,.wrap _ _ _ (Qf _ _) (sM.o.next (Ta _ _ _))⟩

def Tr.text(d:List UInt8->BA):Tr->List UInt8
 | ⟨Sum.inl (k,o)⟩=>76::(k++outB o)
 | ⟨Sum.inr (b,l,r)⟩=>78::(Hf b 2 2++((l.dig d).data.toList++(r.dig d).data.toList))
theorem Tr.dig_text(d:List UInt8->BA)(t:Tr):t.dig d=d (t.text d):=by cases t using Tr.ri<;>rfl
def Jjf(d:List UInt8->BA):Option Tr->List UInt8
 | none=>[69]
 | some t=>t.text d
theorem Jew(d:List UInt8->BA)(st:Option Tr):Xh d st=d (Jjf d st):=by
 cases st with
 | none=>rfl
 | some t=>exact t.dig_text d
abbrev KO:=Key×(Nat×Nat)
def Fork(l:List KO)(b:Nat):Prop:=(∀x∈l,∀y∈l,∀i,i<b->bt x.1 i=bt y.1 i)/\∃x∈l,∃y∈l,bt x.1 b ≠ bt y.1 b
def side(l:List KO)(b v:Nat):List KO:=l.filter λx=>bt x.1 b=v
structure Root(d:List UInt8->BA)(l:List KO)(s:List UInt8):Prop where
 of ::
 c:∀C:List KO->List UInt8->Prop,C [] [69]->(∀k o,C [(k,o)] (76::(k++outB o)))->(∀l b x y,Fork l b->C (side l b 0) x->C (side l b 1) y->C l (78::(Hf b 2 2++((d x).data.toList++(d y).data.toList))))->C l s
theorem Root.none{d:List UInt8->BA}:Root d [] [69]:=⟨λ_ h _ _=>h⟩
theorem Root.one{d:List UInt8->BA}(k:Key)(o:Nat×Nat):Root d [(k,o)] (76::(k++outB o)):=⟨λ_ _ h _=>h k o⟩
theorem Root.two{d:List UInt8->BA}(l:List KO)(b:Nat)(x y:List UInt8)(hf:Fork l b)(hx:Root d (side l b 0) x)(hy:Root d (side l b 1) y):Root d l (78::(Hf b 2 2++((d x).data.toList++(d y).data.toList))):=⟨λC h1 h2 h3=>h3 l b x y hf (hx.c C h1 h2 h3) (hy.c C h1 h2 h3)⟩
theorem Root.ri{d:List UInt8->BA}{motive:∀l s,Root d l s->Prop}(Y:motive _ _ .none)(one:∀k o,motive _ _ (.one k o))(two:∀l b x y hf hx hy,motive _ _ hx->motive _ _ hy->motive _ _ (.two l b x y hf hx hy)):∀{l s} (h:Root d l s),motive l s h:=λ{_ _} h=>
 (h.c (λl s=>∃h:Root d l s,motive l s h) ⟨_,Y⟩ (λk o=>⟨_,one k o⟩) λl b x y hf hx hy=>⟨_,two l b x y hf hx.1 hy.1 hx.2 hy.2⟩).2
theorem Root.inv{d:List UInt8->BA}{l:List KO}{s:List UInt8}(h:Root d l s):(l=[]/\s=[69])\/(∃k o,l=[(k,o)]/\s=76::(k++outB o))\/∃b x y,Fork l b/\Root d (side l b 0) x/\Root d (side l b 1) y/\s=(78::(Hf b 2 2++((d x).data.toList++(d y).data.toList))):=by
 cases h using Root.ri with
 | Y=>exact .inl ⟨rfl,rfl⟩
 | one k o=>exact .inr (.inl ⟨k,o,rfl,rfl⟩)
 | two _ b x y hf hx hy=>exact .inr (.inr ⟨b,x,y,hf,hx,hy,rfl⟩)
theorem Fork.unique{l:List KO}{b b':Nat}(h:Fork l b)(h':Fork l b'):b=b':=by
 obtain⟨p1,x,hx,y,hy,p2⟩:=h;obtain⟨q1,u,hu,v,hv,q2⟩:=h'
 rcases Nat.lt_trichotomy b b' with h|h|h
 ·exact absurd (q1 x hx y hy b h) p2
 ·exact h
 ·exact absurd (p1 u hu v hv b' h) q2
theorem Fork.two{l:List KO}{b:Nat}(h:Fork l b):2<=l.length:=by
 obtain⟨_,x,hx,y,hy,h⟩:=h
 match l,hx,hy with
 | [],hx,_=>cases hx
 | [a],hx,hy=>simp only[Qt]at hx hy;rw[hx,hy]at h;exact absurd rfl h
 | _::_::_,_,_=>simp
theorem Root.of_tree{d:List UInt8->BA}(t:Tr):∀(l:List KO)(s:List UInt8),t.Wf->(∀x,x∈l↔x∈t.coins)->(l.map (·.1)).Nodup->Root d l s->s=t.text d:=by
 induction t using Tr.ri with
 | leaf k o=>
  intro l s _ hm hn hr;simp only[Tr.coins,Qt]at hm;have hl:l=[(k,o)]:=by
   match l,hm,hn with
   | [],hm,_=>exact absurd ((hm (k,o)).2 rfl) (by simp)
   | [a],hm,_=>rw[(hm a).1 (by simp)]
   | a::b::r,hm,hn=>
    have e1:=(hm a).1 (by simp);have e2:=(hm b).1 (by simp);simp[e1,e2]at hn
  subst hl;obtain⟨h,_⟩|⟨_,_,h,rfl⟩|⟨b,x,y,hf,_⟩:=hr.inv
  ·cases h
  ·cases h;rfl
  ·exact absurd hf.two (by simp)
 | br b lt rt ihl ihr=>
  intro l s hw hm hn hr;obtain⟨w1,w2,h0,h1,hs⟩:=hw;have hf:Fork l b:=by obtain⟨x,hx⟩:=lG _ lt.coins_ne;obtain⟨y,hy⟩:=lG _ rt.coins_ne;refine⟨λx hx y hy i hi=>hs x ((hm x).1 hx) y ((hm y).1 hy) i hi,x,(hm x).2 (by simp[Tr.coins,hx]),y,(hm y).2 (by simp[Tr.coins,hy]),?_⟩;rw[h0 x hx,h1 y hy];decide
  have qS:=hf.two;obtain⟨rfl,_⟩|⟨_,_,rfl,_⟩|⟨b',x,y,hf',hx,hy,rfl⟩:=hr.inv
  ·simp at qS
  ·simp at qS
  ·obtain rfl:=hf.unique hf';have dY:=ihl (side l b 0) x w1 (λz=>by
    unfold side;rw[QO,hm];simp only[Tr.coins,QE,decide_eq_true_iff];constructor
    ·rintro⟨h|h,h2⟩
     ·exact h
     ·have:=h1 z h;omega
    ·intro h;exact⟨.inl h,h0 z h⟩) (hn.sublist (List.Sublist.map _ List.filter_sublist)) hx
   have hy':=ihr (side l b 1) y w2 (λz=>by
    unfold side;rw[QO,hm];simp only[Tr.coins,QE,decide_eq_true_iff];constructor
    ·rintro⟨h|h,h2⟩
     ·have:=h0 z h;omega
     ·exact h
    ·intro h;exact⟨.inr h,h1 z h⟩) (hn.sublist (List.Sublist.map _ List.filter_sublist)) hy
   rw[dY,hy',<-Tr.dig_text d lt,<-Tr.dig_text d rt];rfl
theorem Root.of_state{d:List UInt8->BA}{st:Option Tr}{l:List KO}{s:List UInt8}(hw:∀t,st=Z t->t.Wf)(hm:∀x,x∈l↔x∈JX st)(hn:(l.map (·.1)).Nodup)(hr:Root d l s):s=Jjf d st:=by
 cases st with
 | none=>
  cases l with
  | nil=>
   obtain⟨_,rfl⟩|⟨_,_,h,_⟩|⟨b,x,y,hf,_⟩:=hr.inv
   ·rfl
   ·cases h
   ·exact absurd hf.two (by simp)
  | cons a r=>exact absurd ((hm a).1 (by simp)) (by simp[JX])
 | some t=>exact Root.of_tree t l s (hw t rfl) hm hn hr

abbrev Stp:=Nat×BA
abbrev Wy:=List Stp×Option KO
def Tr.way(d:List UInt8->BA)(k:Key):Tr->List Stp×KO
 | ⟨Sum.inl (k',o)⟩=>([],(k',o))
 | ⟨Sum.inr (b,l,r)⟩=>if bt k b=0 then (((b,r.dig d)::(l.way d k).1),(l.way d k).2) else (((b,l.dig d)::(r.way d k).1),(r.way d k).2)
def YS(d:List UInt8->BA)(k:Key):Option Tr->Wy
 | none=>([],Y)
 | some t=>((t.way d k).1,Z (t.way d k).2)
def Xb:Option KO->List UInt8
 | none=>[69]
 | some (k,o)=>76::(k++outB o)
def Xn(w:Wy):Key:=match w.2 with|none=>[]|some (k,_)=>k
def JM(d:List UInt8->BA)(key:Key)(e:List UInt8):List Stp->List (List UInt8)
 | []=>[e]
 | (b,jq)::r=>(78::(Hf b 2 2++(if bt key b=0 then (d ((JM d key e r).headD [])).data.toList++jq.data.toList else jq.data.toList++(d ((JM d key e r).headD [])).data.toList)))::JM d key e r
def Wy.nodes(d:List UInt8->BA)(w:Wy):List (List UInt8):=JM d (Xn w) (Xb w.2) w.1
theorem Tr.way_near(d:List UInt8->BA)(k:Key)(t:Tr):(t.way d k).2=t.near k:=by
 induction t using Tr.ri with
 | leaf=>rfl
 | br b l r ihl ihr=>simp only[way,near];split<;>assumption
theorem JZ(d:List UInt8->BA)(key:Key)(e:List UInt8)(l:List Stp):(JM d key e l).length=l.length+1:=by
 induction l with
 | nil=>rfl
 | cons s r ih=>obtain⟨b,o⟩:=s;simp[JM,ih]
def Wy.said(w:Wy)(k:Key):Option (Nat×Nat):=match w.2 with|none=>Y|some (k',o)=>if k'=k then Z o else Y
structure Wy.Holds(d:List UInt8->BA)(k:Key)(H8:BA)(w:Wy):Prop where
 bits:∀s∈w.1,bt k s.1=bt (Xn w) s.1
 small:∀s∈w.1,s.1<65536
 wide:∀s∈w.1,∀l,s.2.size=(d l).size
 bare:w.2=Y->w.1=[]
 key:w.2 ≠ Y->(Xn w).length=k.length
 root:d ((w.nodes d).headD [])=H8
def Ya:List (List UInt8)->List (List UInt8)->Option (List UInt8×List UInt8)
 | x::a,y::b=>if x=y then Ya a b else Z (x,y)
 | _,_=>Y
theorem Jl2{a b:Nat}(ha:a<65536)(hb:b<65536)(h:Hf a 2 2=Hf b 2 2):a=b:=by
 have y:∀n,n<65536->kC (Hf n 2 2)=n:=λn hn=>by rw[YK n 2 (by omega) 2 (Ql _)];simp
 rw[<-y a ha,<-y b hb,h]
theorem Jit{a b:BA}(h:a.data.toList=b.data.toList):a=b:=by
 cases a;cases b;simp only at h;rw[Array.toList_inj]at h;rw[h]
theorem Jgn(d:List UInt8->BA)(wj:Nat)(hd:∀l,(d l).size=wj)(k:Key)(k1 k2:Key)(e1 e2:List UInt8)(eT:e1.head? ≠ Z 78)(s7:e2.head? ≠ Z 78):∀(l1 l2:List Stp),
  (∀s∈l1,bt k s.1=bt k1 s.1/\s.1<65536/\s.2.size=wj)->(∀s∈l2,bt k s.1=bt k2 s.1/\s.1<65536/\s.2.size=wj)->d ((JM d k1 e1 l1).headD [])=d ((JM d k2 e2 l2).headD [])->
  (∃x y,Ya (JM d k1 e1 l1) (JM d k2 e2 l2)=Z (x,y)/\x ≠ y/\d x=d y)\/(Ya (JM d k1 e1 l1) (JM d k2 e2 l2)=Y/\l1.length=l2.length/\e1=e2):=by
 intro l1
 induction l1 with
 | nil=>
  intro l2 _ h2 hr
  cases l2 with
  | nil=>
   simp only[JM,lR]at hr;simp only[JM,Ya]
   by_cases he:e1=e2
   ·right;rw[if_pos he];exact⟨by trivial,by trivial,he⟩
   ·left;rw[if_neg he];exact⟨_,_,rfl,he,hr⟩
  | cons s r=>
   obtain⟨b,o⟩:=s;left;simp only[JM,lR]at hr;simp only[JM,Ya];have Hl:e1 ≠ 78::(Hf b 2 2++(if bt k2 b=0 then (d ((JM d k2 e2 r).headD [])).data.toList++o.data.toList else o.data.toList++(d ((JM d k2 e2 r).headD [])).data.toList)):=(by intro h;rw[h]at eT;exact eT rfl);rw[if_neg Hl];exact⟨_,_,rfl,Hl,hr⟩
 | cons s l1 ih=>
  obtain⟨b,o⟩:=s;intro l2 h1 h2 hr
  cases l2 with
  | nil=>
   left;simp only[JM,lR]at hr;simp only[JM,Ya];have Hl:¬(78::(Hf b 2 2++(if bt k1 b=0 then (d ((JM d k1 e1 l1).headD [])).data.toList++o.data.toList else o.data.toList++(d ((JM d k1 e1 l1).headD [])).data.toList)))=e2:=(by intro h;rw[<-h]at s7;exact s7 rfl);rw[if_neg Hl];exact⟨_,_,rfl,Hl,hr⟩
  | cons s' l2=>
   obtain⟨b',o'⟩:=s';obtain⟨a1,a2,a3⟩:=h1 (b,o) (by simp);obtain⟨c1,c2,c3⟩:=h2 (b',o') (by simp);simp only at a1 a2 a3 c1 c2 c3;generalize hX:(78::(Hf b 2 2++(if bt k1 b=0 then (d ((JM d k1 e1 l1).headD [])).data.toList++o.data.toList else o.data.toList++(d ((JM d k1 e1 l1).headD [])).data.toList)))=aX;generalize hY:(78::(Hf b' 2 2++(if bt k2 b'=0 then (d ((JM d k2 e2 l2).headD [])).data.toList++o'.data.toList else o'.data.toList++(d ((JM d k2 e2 l2).headD [])).data.toList)))=aP;have eX:JM d k1 e1 ((b,o)::l1)=aX::JM d k1 e1 l1:=(by rw[<-hX];rfl);have eY:JM d k2 e2 ((b',o')::l2)=aP::JM d k2 e2 l2:=(by rw[<-hY];rfl);rw[eX,eY]at hr ⊢;simp only[lR]at hr;simp only[Ya]
   by_cases dZ:aX=aP
   ·rw[if_pos dZ];rw[<-hX,<-hY,QH]at dZ;obtain⟨_,dZ⟩:=dZ;obtain⟨hb,hs⟩:=lS dZ (by rw[Jf,Jf]);obtain rfl:=Jl2 a2 c2 hb;have sz:∀x:BA,x.data.toList.length=x.size:=λx=>by simp only[QA];rfl
    have hdd:d ((JM d k1 e1 l1).headD [])=d ((JM d k2 e2 l2).headD []):=by
     rw[<-a1,<-c1]at hs
     split at hs
     ·exact Jit (lS hs (by rw[sz,sz,hd,hd])).1
     ·exact Jit (lS hs (by rw[sz,sz,a3,c3])).2
    have:=ih l2 (λs hs=>h1 s (by simp[hs])) (λs hs=>h2 s (by simp[hs])) hdd
    rcases this with⟨x,y,q1,q2,q3⟩|⟨q1,q2,q3⟩
    ·exact .inl ⟨x,y,q1,q2,q3⟩
    ·exact .inr ⟨q1,by simp[q2],q3⟩
   ·rw[if_neg dZ];exact .inl ⟨_,_,rfl,dZ,hr⟩
theorem JbZ(e:Option KO):(Xb e).head? ≠ Z 78:=by
 cases e with
 | none=>simp[Xb]
 | some x=>obtain⟨k,o⟩:=x;simp[Xb]
theorem Wy.sound(d:List UInt8->BA)(wj:Nat)(hd:∀l,(d l).size=wj)(k:Key)(H8:BA)(w1 w2:Wy)(h1:w1.Holds d k H8)(h2:w2.Holds d k H8)(pC:∀x,w1.2=Z x->Jy x.2)(eU:∀x,w2.2=Z x->Jy x.2)(Hl:w1.said k ≠ w2.said k):
  ∃x y,Ya (w1.nodes d) (w2.nodes d)=Z (x,y)/\x ≠ y/\d x=d y:=by
 have:=Jgn d wj hd k (Xn w1) (Xn w2) (Xb w1.2) (Xb w2.2) (JbZ _) (JbZ _) w1.1 w2.1 (λs hs=>⟨h1.bits s hs,h1.small s hs,(h1.wide s hs []).trans (hd _)⟩) (λs hs=>⟨h2.bits s hs,h2.small s hs,(h2.wide s hs []).trans (hd _)⟩) (h1.root.trans h2.root.symm)
 rcases this with h|⟨_,_,he⟩
 ·exact h
 ·exfalso;apply Hl;unfold said;obtain⟨l1,e1⟩:=w1;obtain⟨l2,e2⟩:=w2;simp only at he pC eU ⊢
  cases e1 with
  | none=>cases e2 with
   | none=>rfl
   | some y=>obtain⟨k2,o2⟩:=y;simp[Xb]at he
  | some x=>
   obtain⟨k1,o1⟩:=x
   cases e2 with
   | none=>simp[Xb]at he
   | some y=>
    obtain⟨k2,o2⟩:=y;have l1':=h1.key (by simp);have l2':=h2.key (by simp);simp only[Xn]at l1' l2';simp only[Xb,QH,true_and]at he;obtain⟨e1,e2⟩:=lS he (by rw[l1',l2']);subst e1;have p1:=pC _ rfl;have p2:=eU _ rfl;have:o1=o2:=(by have r1:=(Jgv o1 0 0 p1).rd [] [];have r2:=(Jgv o2 0 0 p2).rd [] [];rw[e2,r2]at r1;simp only[Qh,Qw]at r1;exact r1.1.symm);subst this;rfl

def PS.step(wj:Nat)(s:Stp)(p:PS):Option (Stp×PS):=
 match p.num s.1 2 with
 | none=>Y
 | some (m,p1)=>if 8*(wj+1)<=m then Y else match p1.txt s.2.data.toList wj with
  | none=>Y
  | some (t,p2)=>Z ((m,⟨t.toArray⟩),p2)
def ZO(wj:Nat)(k:Int)(x:BA)(st:Option PS):(Nat×List UInt8)×Option PS:=(((YR wj k st).1,(Jm x.data.toList wj (YR wj k st).2).1),(Jm x.data.toList wj (YR wj k st).2).2)
theorem Jo4(E:Nat->Addr)(b:Nat)(Hi:18<=b)(g:Option Nat)(wj:Nat)(hw:wj<=1000)(k:Int)(x:BA)(st:Option PS)(w:aA)(hE:Env E w)(hp:Jg E w b g wj st)(hd:JP st<=80000000):
  aB N 218 #[X (Z ⟨b,0,Y⟩),aH #[O I k,L x]] w λe w'=>e=aC (aH #[O I ((ZO wj k x st).1.1:Int),L ⟨(ZO wj k x st).1.2.toArray⟩])/\StTo E w w' b g wj (ZO wj k x st).2:=by
 have H7:=hp.lt;have gC:=Run.start Hi hE hp (M.allocs D w (T #[O I k,L x] 366) (T #[O I 0,L ⟨#[]⟩] 366));have zm:=JfJ wj k st;have RUN:J _:=gC;go_enter func218,ntmps218;go_wp2_with fail;refine(JlY E b Hi g wj hw k st _ RUN.env RUN.port (by omega)).mono ?_;rintro _ w1⟨rfl,h⟩;obtain⟨g1,(Hz:J _)⟩:=RUN.step h;have qj:=(Hz.box (k:=w.heap.size) (Ql _) (heap_alloc2_old _ _ _)).1;obtain⟨-,c1⟩:=rows qj;clear qj h;go_wp2_with fail;refine(Za E b g1 wj x _ _ Hz.env Hz.port (by omega)).mono ?_;rintro _ w3⟨rfl,h⟩;obtain⟨g3,(gD:J _)⟩:=Hz.step h;have rR:=(gD.box (k:=w.heap.size+1) (by omega) (heap_alloc2_new _ _ _)).1;obtain⟨e0,e1⟩:=rows rR;have fR:∀j,w3.frozen? ⟨w.heap.size+1,j,Y⟩=false:=λj=>Qg _ _ _ _ _ rR;have RR:J _:=rR;clear rR h;go_wp2;rw[set2 _ _ _ _ _ _ _ RR.out];exact QK (v:=aH #[O I ((ZO wj k x st).1.1:Int),L ⟨(ZO wj k x st).1.2.toArray⟩]) (Qq results218 _ _ (w.heap.size+1) _ _ (0,0) _ rfl (Qi _ _ _ _ _ _ RR) underlying366 rfl (by kernel_rfl)) rfl ⟨rfl,gD.done (k:=w.heap.size+1) (by omega) (heap_alloc2_new _ _ _) (by decide)⟩
theorem Jfe(n:Nat)(h:n<65536):JD (n:Int)=n:=by unfold JD;omega
theorem Jh2(wj:Nat)(s:Stp)(hs:s.1<65536)(p:PS)(h:p.step wj s=Y):(ZO wj (s.1:Int) s.2 (Z p)).2=Y:=by
 unfold ZO YR;rw[Jfe _ hs];unfold PS.step at h
 cases h1:p.num s.1 2 with
 | none=>rw[ZN h1];dsimp only;split<;>rfl
 | some r=>
  obtain⟨m,p1⟩:=r;rw[h1]at h;dsimp only at h;rw[JS h1];dsimp only
  split at h
  ·rename_i hm;rw[if_pos hm];rfl
  ·rename_i hm;rw[if_neg hm]
   cases h2:p1.txt s.2.data.toList wj with
   | none=>rw[Yb h2]
   | some r2=>rw[h2]at h;cases h
theorem Jh3(wj:Nat)(s y:Stp)(hs:s.1<65536)(p p2:PS)(h:p.step wj s=Z (y,p2)):(ZO wj (s.1:Int) s.2 (Z p)).2=Z p2/\y=((ZO wj (s.1:Int) s.2 (Z p)).1.1,⟨(ZO wj (s.1:Int) s.2 (Z p)).1.2.toArray⟩):=by
 unfold ZO YR;rw[Jfe _ hs];unfold PS.step at h
 cases h1:p.num s.1 2 with
 | none=>rw[h1]at h;cases h
 | some r=>
  obtain⟨m,p1⟩:=r;rw[h1]at h;dsimp only at h;rw[JS h1];dsimp only
  split at h
  ·cases h
  ·rename_i hm;rw[if_neg hm]
   cases h2:p1.txt s.2.data.toList wj with
   | none=>rw[h2]at h;cases h
   | some r2=>
    obtain⟨t,p3⟩:=r2;rw[h2]at h;simp only[Qh,Qw]at h;obtain⟨rfl,rfl⟩:=h;rw[JN h2];exact⟨rfl,rfl⟩
def encS(s:Stp):VV:=(O I (s.1:Int),L s.2)
def JaM(wj:Nat):XY Stp where
 f:=λs p=>p.step wj s
 grow:=wj+2
 zero:=(0,⟨#[]⟩)
 zeroV:=zS
 Init:=λ_ _ _ x s=>x=encS s/\s.1<65536
 Done:=λ_ _ _ x s=>x=encS s
theorem JbO{wj:Nat}{s y:Stp}{p p2:PS}(h:p.step wj s=Z (y,p2)):p.like p2/\p2.len<=p.len+(wj+2):=by
 unfold PS.step at h
 cases h1:p.num s.1 2 with
 | none=>rw[h1]at h;cases h
 | some r=>
  obtain⟨m,p1⟩:=r;rw[h1]at h;dsimp only at h
  split at h
  ·cases h
  ·cases h2:p1.txt s.2.data.toList wj with
   | none=>rw[h2]at h;cases h
   | some r2=>
    obtain⟨t,p3⟩:=r2;rw[h2]at h;simp only[Qh,Qw]at h;obtain⟨_,rfl⟩:=h;have l1:=ZR _ _ _ _ _ h1;have l2:=JgC _ _ _ _ _ h2;exact⟨(Yo h1).trans (Jih h2),by omega⟩
theorem lawS(E:Nat->Addr)(b:Nat)(Hi:18<=b)(wj j6:Nat)(hw:wj<=1000)(hl:j6<=80000000):Zi E b wj j6 lkS.fP (JaM wj) ShS where
 init_tch:=λh _ _ _=>h
 init_zero:=λ_ _=>⟨rfl,by show 0<65536;omega⟩
 init_shape:=λh=>⟨_,_,h.1⟩
 done_tch:=λh _ _ _=>h
 done_mono:=λh _=>h
 like:=λh=>(JbO h).1
 len:=λ_ h=>(JbO h).2
 call:=λ{w g p x a} hE hp hI hd=>by
  obtain⟨rfl,ha⟩:=hI;show aB _ _ #[_,aH #[O I (a.1:Int),L a.2]] _ _;refine(Jo4 E b Hi g wj hw (a.1:Int) a.2 (Z p) w hE hp (by simp only[JP];omega)).mono ?_;rintro e w'⟨rfl,g',k1,k2,k3⟩;refine⟨(O I _,L _),⟨_,_,rfl⟩,rfl,?_⟩;show ToP E w b g wj (JaM wj) (p.step wj a) _ w'
  cases h:p.step wj a with
  | none=>
   rw[Jh2 wj a ha p h]at k1;obtain⟨p',t,u,h1,h2⟩:=k1;exact⟨g',_,p',h1,k2,k3,h2⟩
  | some r=>
   obtain⟨y,p2⟩:=r;obtain⟨e1,e2⟩:=Jh3 wj a y ha p p2 h;rw[e1]at k1;exact⟨g',_,p2,k1,k2,k3,rfl,rfl,by rw[e2];rfl⟩

theorem Jfo(a:Int)(w:aA):aB N 344 #[O I a] w λe w'=>e=aC (aL false)/\w'=w:=by
 go_enter func344,ntmps344;go_wp2;go_ret;exact⟨by simp,rfl⟩
def sgn(a b:Int):Int:=if a<b then -1 else if b<a then 1 else 0
theorem Jqg(a b:Int):(0<=sgn a b)↔¬a<b:=by unfold sgn;split<;>(try split)<;>omega
theorem JgZ(a b:Int)(w:aA):aB N 293 #[O I a,O I b] w λe w'=>e=aC (O I (sgn a b))/\w'=w:=by
 go_enter func293,ntmps293;go_wp2_with fail;refine(Jfo _ _).mono ?_;rintro _ _⟨rfl,rfl⟩;go_wp2_with fail;refine(Jfo _ _).mono ?_;rintro _ _⟨rfl,rfl⟩
 by_cases h1:a<b
 ·have HS:J (sgn a b= -1):=(by unfold sgn;rw[if_pos h1]:sgn a b= -1)
  go_wp2;go_ret;exact⟨by rw[HS.o];rfl,rfl⟩
 ·by_cases h2:b<a
  ·have HS:J (sgn a b=1):=(by unfold sgn;rw[if_neg h1,if_pos h2]:sgn a b=1)
   go_wp2;go_ret;exact⟨by rw[HS.o];rfl,rfl⟩
  ·have HS:J (sgn a b=0):=(by unfold sgn;rw[if_neg h1,if_neg h2]:sgn a b=0)
   go_wp2;go_ret;exact⟨by rw[HS.o];rfl,rfl⟩
theorem Jix(a b:Int)(x y:BA)(w:aA):aB N 220 #[aH #[O I a,L x],aH #[O I b,L y]] w λe w'=>e=aC (O I (sgn a b))/\M D w w':=by
 go_enter func220,ntmps220;go_wp2_with fail;refine(JgZ _ _ _).mono ?_;rintro _ _⟨rfl,rfl⟩;go_wp2;go_ret;exact⟨rfl,M.allocs _ w _ _⟩

theorem Jgd(a:Addr)(w:aA):(method 641 170 (X (Z a)) "trove/wire.more").run N w=.ok (140,X (Z a)) w:=by kernel_rfl
theorem Jge(a:Addr)(w:aA):(method 641 153 (X (Z a)) "trove/wire.more").run N w=.ok (377,X (Z a)) w:=by kernel_rfl
theorem JlA(a:aG)(m:Bool)(w:aA):aB N 377 #[a,aL m] w λe w'=>e=aC (aL m)/\w'=w:=by
 go_enter func377,ntmps377;go_wp2;go_ret;exact⟨rfl,rfl⟩
def ZY(m:Bool):Option PS->Bool
 | none=>false
 | some (⟨Sum.inl (_,rest)⟩)=> !rest.isEmpty
 | some (⟨Sum.inr _⟩)=>m
theorem JoJ(E:Nat->Addr)(b:Nat)(g:Option Nat)(wj:Int)(m:Bool)(st:Option PS)(w:aA)(hp:Jg E w b g wj st):
  aB N 221 #[X (Z ⟨b,0,Y⟩),aL m] w λe w'=>e=aC (aL (ZY m st))/\M D w w':=by
 cases st with
 | none=>
  obtain⟨p,t,u,h1,_⟩:=hp;have ce:=h1.errCell;go_enter func221,ntmps221;go_wp2;go_ret;exact⟨rfl,Te _ _⟩
 | some p=>
  have hp:=hp;have ce:=hp.errCell
  cases p using PS.on with
  | rd H4 rest=>
   obtain⟨c0, -⟩:=rows hp.2;have hm:=Jgd ⟨b,0,Y⟩;have HP:J (Jd _ _ _ _ _ _):=hp;go_enter func221,ntmps221;go_wp2_with fail;refine(JcO b g wj aK _ H4 rest w HP.o).mono ?_;rintro _ w1⟨rfl,(HT:J _)⟩;go_wp2;go_ret;exact⟨rfl,HT⟩
  | wr d=>
   have c0:w.cell? ⟨b,0,Y⟩=Z (aJ 153 (X (Z ⟨b,0,Y⟩))):=(by obtain⟨v,_,_,hr⟩:=hp;exact Ja hr);have hm:=Jge ⟨b,0,Y⟩;go_enter func221,ntmps221;go_wp2_with fail;refine(JlA _ m w).mono ?_;rintro _ _⟨rfl,rfl⟩;go_wp2;go_ret;exact⟨rfl,Te _ _⟩
def YJ(ys:List Stp)(k:Nat):Prop:=∀i,1<=i->i<k->∀x y,ys[i-1]? =Z x->ys[i]? =Z y->x.1<y.1
def JoV(ys:List Stp)(k:Nat):Decidable (YJ ys k):=
 decidable_of_iff (∀i,i<k->1<=i->∀x∈ys[i-1]?,∀y∈ys[i]?,x.1<y.1) ⟨λh i h1 h2 x y hx hy=>h i h2 h1 x hx y hy,λh i h2 h1 x hx y hy=>h i h1 h2 x y hx hy⟩
def Xl(ys:List Stp)(st:Option PS):Option PS:=haveI:=JoV ys ys.length;if YJ ys ys.length then st else Y
theorem JhT(E:Nat->Addr)(b:Nat)(g:Option Nat)(wj:Int)(what:aG)(a:Option Addr)(n c:Nat)(w:aA)(hp:Jg E w b g wj Y):
  aB N 219 #[X (Z ⟨b,0,Y⟩),what,R a n c,.func (.func 220) #[] #[]] w λe w'=>e=aC (aI #[])/\w'=w:=by
 obtain⟨p,t,u,h1,_⟩:=hp;have ce:=h1.errCell;clear h1;go_enter func219,ntmps219;go_wp2;go_loopw [8] (λi wr=>i=O I 1/\wr=w) (λ_ _=>0)
 case atStart=>exact⟨rfl,rfl⟩
 case round=>
  obtain⟨rfl,rfl⟩:=hrel
  by_cases H7:1<n
  ·have kj:(1:Int)<(n:Int):=(by omega);go_wp2;exact bodyPost_end (v:=aI #[]) (results_none results219 _ _ _) rfl ⟨rfl,rfl⟩
  ·have kj:¬(1:Int)<(n:Int):=(by omega);go_wp2;exact bodyPost_end (v:=aI #[]) (results_none results219 _ _ _) rfl ⟨rfl,rfl⟩
theorem JhU(E:Nat->Addr)(b:Nat)(g:Option Nat)(wj:Int)(what:BA)(gU:what.size<=1000)(gp:Nat)(ys:List Stp)(hn:ys.length<=300)(p:PS)(w:aA)(hE:Env E w)(hp:Jg E w b g wj (Z p))(hr:w.heap[gp]? =Z (T (Hv (ys.map encS)) 366))(da:gp ≠ b)(uV:Z gp ≠ g):
  aB N 219 #[X (Z ⟨b,0,Y⟩),L what,R (Z ⟨gp,0,Y⟩) ys.length ys.length,.func (.func 220) #[] #[]] w λe w'=>e=aC (aI #[])/\StTo E w w' b g wj (Xl ys (Z p)):=by
 have HG:J (gp ≠ b/\Z gp ≠ g):=⟨da,uV⟩
 have HE:J (Env E w):=hE;have HP:J (Jg E w b g wj (Z p)):=hp;have HR:J (w.heap[gp]? =Z (T (Hv (ys.map encS)) 366)):=hr;have HN:J (ys.length<=300):=hn;clear hE hp hr da uV hn;go_enter func219,ntmps219;go_wp2;go_loopw [8] (λi wr=>∃k:Nat,1<=k/\i=O I k/\((J (M D w wr)/\J (YJ ys k))\/(J (StTo E w wr b g wj Y)/\J (¬YJ ys ys.length)))) (λi _=>ys.length+1-(intOf i).toNat)
 case atStart=>exact⟨1,by omega,rfl,.inl ⟨Te _ w,λi h1 h2=>by omega⟩⟩
 case round=>
  obtain⟨k,qL,rfl,⟨hT,eW⟩|⟨hS,hNR⟩⟩:=hrel
  ·by_cases H7:k<ys.length
   ·have hZ:=(hT.out.block gp (Jb HR.o) (λh=>h)).trans HR.o;have hpk:=HP.o.next hT.out;have ce:=Jd.errCell hpk;have Hq:ys.length<=300:=HN.o;have hgk:=λi (hi:i<ys.length)=>Yu (ys.map encS) i (by simpa using hi);have cell:∀i (hi:i<ys.length),wr.cell? ⟨gp,i*2,Y⟩=Z (O I (ys[i].1:Int))/\wr.cell? ⟨gp,i*2+1,Y⟩=Z (L ys[i].2):=λi hi=>by
     obtain⟨e1,e2⟩:=hgk i hi;rw[List.getElem_map]at e1 e2;exact⟨(Ja hZ).trans e1,(Ja hZ).trans e2⟩
    obtain⟨j,nT⟩:∃j,k=j+1:=⟨k-1,by omega⟩
    obtain⟨a0,a1⟩:=cell j (by omega);obtain⟨b0,b1⟩:=cell k H7;have fJ:J (k<ys.length):=H7;have HA:J (ys[j]? =Z ys[j]):=Qd (by omega);have HB:J (ys[k]? =Z ys[k]):=Qd H7;have kj:(k:Int)<(ys.length:Int):=(by omega);have xK:I.wrap ((k:Int)-1)=(j:Int):=(by rw[Jo _ (by omega) (by omega)];omega);have hj0:j<ys.length:=(by omega);have pW:(j:Int)<(ys.length:Int):=(by omega);have HJK:J (k=j+1):=nT;clear cell hgk hZ;generalize hX:ys[j]=aX at *;generalize hY:ys[k]=aP at *;obtain⟨x0,x1⟩:=aX;obtain⟨y0,y1⟩:=aP;dsimp only at a0 a1 b0 b1;clear hX hY hpk H7 nT;go_upto_region 3 with fail;go_cut [33] (λvb wx=>vb=aL (decide (0<=sgn (x0:Int) (y0:Int)))/\J (M D wr wx))
    case first=>
     clear eW hT HA HB HE HP HR HN;go_region_with (go_at_call 220;refine(Jix _ _ _ _ _).mono ?_;rintro _ w1⟨rfl,ht⟩;have H5:J (M _ _ _):=ht;clear ht)
     all_goals go_wp2;go_meet;exact⟨rfl,(Td D wr 1).trans H5.o (λ_ h=>.inl h)⟩
    case rest=>
    obtain⟨rfl,hTx⟩:=hcut;obtain⟨wA,jC⟩:∃wA,wA=wc:=⟨_,rfl⟩
    have ki:J (M D w wA):=hT.out.trans (jC ▸ hTx.out) (λ_ h=>.inl h);subst jC;have bn:=HP.o.next ki.o;have hSG:(0<=sgn (x0:Int) (y0:Int))↔¬x0<y0:=by rw[Jqg];omega
    by_cases H7:x0<y0
    ·have uS:decide (0<=sgn (x0:Int) (y0:Int))=false:=(by simp[hSG,H7]);rw[uS];have mD:J (YJ ys (k+1)):=λi h1 h2 x y hx hy=>by
      by_cases hi:i<k
      ·exact eW.out i h1 hi x y hx hy
      ·obtain rfl:i=k:=(by omega);rw[show i-1=j by have:=HJK.o;omega,HA.o]at hx;rw[HB.o]at hy
       cases hx;cases hy;exact H7
     clear eW hSG uS H7 bn;go_wp2;go_roundw
     case rel=>exact⟨k+1,by omega,by go_num,.inl ⟨ki.o,mD.o⟩⟩
     case measure=>have:=fJ.o;simp[intOf];omega
    ·have uS:decide (0<=sgn (x0:Int) (y0:Int))=true:=(by simp[hSG,H7]);rw[uS];have vp:J (¬YJ ys ys.length):=λh=>H7 (h k qL fJ.o _ _ (by rw[show k-1=j by have:=HJK.o;omega];exact HA.o) HB.o);have yM:J (Env E wA):=HE.o.tch ki.o noE;have HPA:J (Jg E wA b g wj (Z p)):=bn;clear eW hSG uS H7 bn;have fQ:(what++(⟨#[32]⟩:BA)).size<=1001:=(by rw[ByteArray.size_append];show what.size+1<=1001;omega);have hnb0:¬(what.size+(⟨#[32]⟩:BA).size > 9223372036854775807):=(by show ¬(what.size+1 > 9223372036854775807);omega);go_wp2_with fail;refine(JdQ yM.o k (by omega)).mono ?_;rintro _ w2⟨⟨s1,xt,rfl⟩,vB⟩;have H6:J (M D wA w2):=(M.of_below vB).mono (λ_ h=>.inr h);clear vB;generalize what++(⟨#[32]⟩:BA)=ws at *;have tM:¬(ws.size+s1.size > 9223372036854775807):=(by omega);go_wp2_with fail;refine(Jao E b g wj (ws++s1) _ w2 (yM.o.tch H6.o noE) (HPA.o.next H6.o)).mono ?_;rintro _ w3⟨rfl,au⟩;have zv:J (StTo E w w3 b g wj Y):=StTo.fresh (ki.o.trans H6.o (λ_ h=>.inl h)) au;clear au;go_wp2;go_roundw
     case rel=>exact⟨k+1,by omega,by go_num,.inr ⟨zv.o,vp.o⟩⟩
     case measure=>have:=fJ.o;simp[intOf];omega
   ·have mD:J (YJ ys ys.length):=λi h1 h2=>eW.out i h1 (by omega);have kj:¬((k:Nat):Int)<(ys.length:Int):=(by omega);go_wp2;refine bodyPost_end (v:=aI #[]) (results_none results219 _ _ _) rfl ⟨rfl,?_⟩;unfold Xl;rw[if_pos mD.o];exact⟨g,HP.o.next hT.out,.inl rfl,hT.out.mono noE⟩
  ·have sB:=hS.out.choose_spec.1.err;obtain⟨_,t,u,ce⟩|⟨⟨_,h⟩,_⟩:=sB
   ·by_cases H7:k<ys.length
    ·have kj:((k:Nat):Int)<(ys.length:Int):=(by omega);go_wp2;refine bodyPost_end (v:=aI #[]) (results_none results219 _ _ _) rfl ⟨rfl,?_⟩;unfold Xl;rw[if_neg hNR.out];exact hS.out
    ·have kj:¬((k:Nat):Int)<(ys.length:Int):=(by omega);go_wp2;refine bodyPost_end (v:=aI #[]) (results_none results219 _ _ _) rfl ⟨rfl,?_⟩;unfold Xl;rw[if_neg hNR.out];exact hS.out
   ·cases h

theorem Jhn(b:Nat)(wj:Nat)(hw:wj<=1000)(w:aA)(c1:w.cell? ⟨b,1,Y⟩=Z (O I (wj:Int))):
  aB N 217 #[X (Z ⟨b,0,Y⟩)] w λe w'=>e=aC (O I ((8*(wj+1):Nat):Int))/\w'=w:=by
 have hww:I.wrap ((wj:Int)+1)=(wj:Int)+1:=Jo _ (by omega) (by omega);have uN:I.wrap (8*((wj:Int)+1))=((8*(wj+1):Nat):Int):=by rw[Jo _ (by omega) (by omega)];omega
 go_enter func217,ntmps217;go_wp2;go_ret;exact⟨rfl,rfl⟩
theorem set5(w:aA)(g:Nat)(t:TypeId)(a b c d e v0 v1 v2 v3 v4:aG)(h:w.heap[g]? =Z (T #[a,b,c,d,e] t (0,0))):
  ((((w.setCell ⟨g,0,Y⟩ v0).setCell ⟨g,1,Y⟩ v1).setCell ⟨g,2,Y⟩ v2).setCell ⟨g,3,Y⟩ v3).setCell ⟨g,4,Y⟩ v4=w.setRow g #[v0,v1,v2,v3,v4]:=by
 rw[Qj w g 0 _ t (0,0) v0 h,Qj _ g 1 _ t (0,0) v1 (Qi w g _ _ _ _ h),QI,Qj _ g 2 _ t (0,0) v2 (Qi w g _ _ _ _ h),QI,Qj _ g 3 _ t (0,0) v3 (Qi w g _ _ _ _ h),QI,Qj _ g 4 _ t (0,0) v4 (Qi w g _ _ _ _ h),QI];rfl
def ToS(E:Nat->Addr)(w:aA)(b:Nat)(g:Option Nat)(wj:Nat)(r:Option (List Stp×PS))(e:Ending)(w':aA):Prop:=
 ∃x1 x2 x3,e=aC (R x1 x2 x3)/\StTo E w w' b g wj (r.map (·.2))/\
  ∀ys p2,r=Z (ys,p2)->∃gp,x1=Z ⟨gp,0,Y⟩/\x2=ys.length/\x3=ys.length/\w.heap.size<=gp/\w'.heap[gp]? =Z (T (Hv (ys.map encS)) 366)/\∀g',Jg E w' b g' wj (Z p2)->Z gp ≠ g'
theorem ToS.of{E:Nat->Addr}{w w':aA}{b:Nat}{g:Option Nat}{wj:Nat}{r:Option (List Stp×PS)}{e:Ending}(h:ToL lkS E w b g wj (JaM wj) r e w'):ToS E w b g wj r e w':=by
 cases r with
 | none=>
  obtain⟨⟨x1,x2,x3,rfl⟩,g',p',v,h1,h2,h3,h4⟩:=h;obtain⟨t,u,rfl⟩:=h2.iface;exact⟨x1,x2,x3,rfl,⟨g',⟨p',t,u,h1,h2⟩,h3,h4⟩,λts p2 h=>by cases h⟩
 | some r=>
  obtain⟨ys,p2⟩:=r;obtain⟨gp,xs,rfl,h2,h3,h4,g',h5,h6,h7,h8,h9⟩:=h;refine⟨_,_,_,rfl,⟨g',h5,h8,h9⟩,λts p3 h=>?_⟩;simp only[Qh,Qw]at h;obtain⟨rfl,rfl⟩:=h;refine⟨gp,rfl,rfl,rfl,h2,?_,λg2 hg=>by rw[Jg.same (E:=E) hg (st':=Z p2) h5];exact h6⟩;have e:xs=ys.map encS:=by
   apply List.ext_getElem?;intro j;rw[lU]
   by_cases hj:j<ys.length
   ·rw[Qd hj,Qd (by omega:j<xs.length)];exact congrArg Z (h7 j _ _ (Qd (by omega)) (Qd hj))
   ·rw[List.getElem?_eq_none (by omega),List.getElem?_eq_none (by omega)];rfl
  rw[<-e];exact h3
def PS.lstS(wj:Nat)(l:List Stp)(p:PS):Option (List Stp×PS):=p.lst (JaM wj).f (0,⟨#[]⟩) 2 0 (8*(wj+1)) l
theorem JiP{wj:Nat}{l ys:List Stp}{p p2:PS}{v:aG}(ht:p.takes v)(hv:v=R Y 0 0->l=[])(h:p.lstS wj l=Z (ys,p2)):p.like p2/\p2.len<=p.len+2+(wj+2)*(8*(wj+1))/\ys.length<=8*(wj+1):=by
 obtain⟨h1,_,h3,h4⟩:=JcF (n:=wj+2) (λa p a' p' h=>JbO h) ht hv h;exact⟨h1,Qm h4 (by have:=Nat.mul_le_mul_left (wj+2) h3;omega),h3⟩
theorem JmD(E:Nat->Addr)(b:Nat)(Hi:18<=b)(g:Option Nat)(wj:Nat)(hw:wj<=32)(v:aG)(l:List Stp)(p:PS)(w:aA)(hE:Env E w)(hp:Jd w b g wj aK p)(hv:VAt w.heap.size w v (l.map encS))(xB:JcX b g v)(hl:l.length<1000)(hs:∀s∈l,s.1<65536)(ht:p.takes v)(hd:p.len<=70000000):
  aB N 216 #[X (Z ⟨b,0,Y⟩),aH #[L ⟨#[115,116,101,112]⟩,O I 2,O aD 0,O aD ((8*(wj+1):Nat):Int)],v,.func (.func 218) #[X (Z ⟨b,0,Y⟩)] #[]] w λe w'=>ToS E w b g wj (p.lstS wj l) e w':=by
 have H:=lawS E b Hi wj 80000000 (by omega) (by omega);have hg:(JaM wj).grow=wj+2:=rfl;refine(JoB H rfl Hi g ⟨#[115,116,101,112]⟩ (by decide) 2 0 (8*(wj+1)) v (l.map encS) l p w hE hp hv xB (by simp) (by omega) (by rw[hg];omega) (by omega) (by omega) (by omega) ht (λj x a h1 h2=>?_)).mono λe w' h=>ToS.of h;rw[lU,h2]at h1
 cases h1
 exact⟨rfl,hs a (QT h2)⟩
def Yh(r:Option (List Stp×PS)):Option PS:=match r with
 | none=>Y
 | some (ys,p)=>Xl ys (Z p)
theorem Jld(E:Nat->Addr)(b:Nat)(g:Option Nat)(wj:Int)(r:Option (List Stp×PS))(x1:Option Addr)(x2 x3:Nat)(w:aA)(hE:Env E w)(hp:Jg E w b g wj (r.map (·.2)))(hn:∀ys p2,r=Z (ys,p2)->ys.length<=300)(hx:∀ys p2,r=Z (ys,p2)->∃gp,x1=Z ⟨gp,0,Y⟩/\x2=ys.length/\x3=ys.length/\gp ≠ b/\w.heap[gp]? =Z (T (Hv (ys.map encS)) 366)/\Z gp ≠ g):
  aB N 219 #[X (Z ⟨b,0,Y⟩),L ⟨#[115,116,101,112]⟩,R x1 x2 x3,.func (.func 220) #[] #[]] w λe w'=>e=aC (aI #[])/\StTo E w w' b g wj (Yh r):=by
 cases r with
 | none=>
  refine(JhT E b g wj _ x1 x2 x3 w hp).mono ?_;rintro _ _⟨rfl,rfl⟩;exact⟨rfl,g,hp,.inl rfl,Te _ _⟩
 | some r=>
  obtain⟨ys,p⟩:=r;obtain⟨gp,rfl,rfl,rfl,h1,h2,h3⟩:=hx ys p rfl;exact JhU E b g wj _ (by decide) gp ys (hn ys p rfl) p w hE hp h2 h1 h3
theorem JhV{E:Nat->Addr}{w w':aA}{b gp:Nat}{g g':Option Nat}{wj:Int}{st:Option PS}{o:Obj}(k:StTo E w w' b g wj st)(hp:Jg E w' b g' wj st)(h1:w.heap[gp]? =Z o)(hb:gp ≠ b)(hg:Z gp ≠ g):w'.heap[gp]? =Z o/\Z gp ≠ g':=by
 obtain⟨g2,k1,k2,k3⟩:=k;have hl:=(Jb h1)
 obtain rfl:g2=g':=k1.same hp;refine⟨(k3.block gp hl (by rintro(e|e);exact hb e;exact hg e)).trans h1,?_⟩
 rcases k2 with rfl|⟨i,rfl,hi⟩
 ·exact hg
 ·intro e;cases e;omega
def PS.way(wj:Nat)(l:List Stp)(m:Bool)(k:BA)(o:Nat×Nat)(p:PS):Option (Wy×PS):=
 match p.lstS wj l with
 | none=>Y
 | some (ys,p1)=>
  if ys.length=0/\ZY m (Xl ys (Z p1))=false then (Xl ys (Z p1)).map λp=>(([],Y),p)
  else (Jv wj k o (Xl ys (Z p1))).2.map λp=>((ys,Z (Jv wj k o (Xl ys (Z p1))).1),p)
def WyAt(w:aA)(B:Nat)(b:Nat)(g:Option Nat)(wy:Wy)(x:Option Addr×Nat×Nat)(m:Bool)(k:BA)(a o:Nat):Prop:=
 (wy=([],Y)/\x=(Y,0,0)/\m=false/\k=⟨#[]⟩/\a=0/\o=0)\/
 ∃gp,x=(Z ⟨gp,0,Y⟩,wy.1.length,wy.1.length)/\B<=gp/\gp ≠ b/\Z gp ≠ g/\w.heap[gp]? =Z (T (Hv (wy.1.map encS)) 366)/\m=true/\wy.2=Z (k.data.toList,(a,o))
def ToW(E:Nat->Addr)(w:aA)(b:Nat)(g:Option Nat)(wj:Nat)(r:Option (Wy×PS))(e:Ending)(w':aA):Prop:=
 ∃x1 x2 x3 m k a o g',e=aC (aH #[R x1 x2 x3,aL m,L k,O aD (a:Nat),O aE (o:Nat)])/\Jg E w' b g' wj (r.map (·.2))/\Jq w g g'/\M (λk=>k=b\/Z k=g) w w'/\
  ∀wy p2,r=Z (wy,p2)->WyAt w' w.heap.size b g' wy (x1,x2,x3) m k a o
theorem Jjd(wj:Nat)(k:BA)(o:Nat×Nat):(Jv wj k o Y).2=Y:=rfl
theorem Jje(ys:List Stp)(p:PS):JP (Xl ys (Z p))<=p.len:=by
 unfold Xl
 split
 ·exact Ql _
 ·exact Nat.zero_le _
theorem JnR(E:Nat->Addr)(b:Nat)(Hi:18<=b)(g:Option Nat)(wj:Nat)(hw:wj<=32)(v1:Option Addr)(v2 v3:Nat)(l:List Stp)(m:Bool)(k:BA)(a o:Nat)(ho:o<256)(p:PS)(w:aA)(hE:Env E w)(hp:Jd w b g wj aK p)(hv:VAt w.heap.size w (R v1 v2 v3) (l.map encS))(xB:JcX b g (R v1 v2 v3))(hl:l.length<1000)(hs:∀s∈l,s.1<65536)(ht:p.takes (R v1 v2 v3))(hd:p.len<=60000000):
  aB N 146 #[X (Z ⟨b,0,Y⟩),aH #[R v1 v2 v3,aL m,L k,O aD (a:Int),O aE (o:Int)]] w λe w'=>ToW E w b g wj (p.way wj l m k (a,o)) e w':=by
 have H7:=hp.lt;have tA:=M.allocs D w (T #[R v1 v2 v3,aL m,L k,O aD (a:Int),O aE (o:Int)] 258) (T #[R Y 0 0,aL false,L ⟨#[]⟩,O aD 0,O aE 0] 258);have gC:=Run.start (st:=Z p) Hi hE hp tA;have hvn:(Value.slice v1 v2 v3)=R Y 0 0->l=[]:=λe=>by
  have:=hv.shape;obtain⟨a,c,h⟩:=this;rw[e]at h;simp at h
  cases l with
  | nil=>rfl
  | cons x l=>simp at h
 have HF:J (∀ys p2,p.lstS wj l=Z (ys,p2)->p2.len<=p.len+2+(wj+2)*(8*(wj+1))/\ys.length<=8*(wj+1)):=λys p2 h=>(JiP ht hvn h).2;have HW:J ((wj+2)*(8*(wj+1))<=34*264):=Nat.mul_le_mul (by omega) (by omega);have HC:J (∀W,M D w W->aB N 216 _ W _):=λW hT=>JmD E b Hi g wj hw (R v1 v2 v3) l p W (hE.tch hT noE) (hp.tch hT (λh=>h) (λ_ _ h=>h)) ((hv.tch hT noE).up hT.size) xB hl hs ht (by omega);have qp:J (∀W,M D w W->aB N 217 _ W _):=λW hT=>Jhn b wj (by omega) W ((hp.tch hT (λh=>h) (λ_ _ h=>h)) |> λh=>Jg.width (E:=E) (st:=Z p) h);have uj:J (p.len<=60000000):=hd;have uQ:∀(fn:Fn)(first cap:Array aG)(w:aA),(Instr.makeFunc fn first cap).run N w=.ok (.func fn first cap) w:=λ_ _ _ _=>rfl;have kJ:J (M _ _ _):=tA;have RUN:J (Run _ _ _ _ _ _ _ _ _):=gC;have hwu:IntKind.u64.wrap ((8*(wj+1):Nat):Int)=((8*(wj+1):Nat):Int):=JK _ (by omega) (by omega);have qA:=heap_alloc2_old w (T #[R v1 v2 v3,aL m,L k,O aD (a:Int),O aE (o:Int)] 258) (T #[R Y 0 0,aL false,L ⟨#[]⟩,O aD 0,O aE 0] 258);have kf:=heap_alloc2_new w (T #[R v1 v2 v3,aL m,L k,O aD (a:Int),O aE (o:Int)] 258) (T #[R Y 0 0,aL false,L ⟨#[]⟩,O aD 0,O aE 0] 258);have BX0:J (_=_):=qA;have BX1:J (_=_):=kf;clear hE hp hv xB hs ht gC tA qA kf hvn hd hl;generalize yI:(8*(wj+1):Nat)=kb at *;have HKE:J (8*(wj+1)=kb):=yI;clear yI;go_enter func146,ntmps146;go_upto_region 1 with fail;go_cut [5] (λv wx=>∃x1 x2 x3 g1,v=R x1 x2 x3/\J (Run E w ((w.alloc (T #[R v1 v2 v3,aL m,L k,O aD (a:Int),O aE (o:Int)] 258)).alloc (T #[R Y 0 0,aL false,L ⟨#[]⟩,O aD 0,O aE 0] 258)) wx b g g1 wj ((p.lstS wj l).map (·.2)))/\J (∀ys p2,p.lstS wj l=Z (ys,p2)->∃gp,x1=Z ⟨gp,0,Y⟩/\x2=ys.length/\x3=ys.length/\w.heap.size<=gp/\gp ≠ b/\wx.heap[gp]? =Z (T (Hv (ys.map encS)) 366)/\Z gp ≠ g1))
 case first=>
  have H5:J (M D w _):=kJ.o.trans (Td D _ 1) noE;have eZ:J (Run _ _ _ _ _ _ _ _ _):=RUN.out.next (Td D _ 1);clear HF HW uj kJ RUN BX0 BX1;go_region_with (first
   | (go_at_call 217;refine(qp.o _ H5.o).mono ?_;rintro _ _⟨rfl,rfl⟩)
   | (go_at_call 216;refine(HC.o _ H5.o).mono ?_;rintro _ w1⟨x1,x2,x3,rfl,kL,hx⟩;obtain⟨g1,R1⟩:=eZ.o.step kL;have HX:J (∀ys p2,p.lstS wj l=Z (ys,p2)->∃gp,x1=Z ⟨gp,0,Y⟩/\x2=ys.length/\x3=ys.length/\w.heap.size<=gp/\gp ≠ b/\w1.heap[gp]? =Z (T (Hv (ys.map encS)) 366)/\Z gp ≠ g1):=(λys p2 hq=>by
      obtain⟨gp,q1,q2,q3,q4,q5,q6⟩:=hx ys p2 hq;have hz:=H5.o.size;refine⟨gp,q1,q2,q3,by omega,by omega,q5,q6 g1 ?_⟩;have:=R1.port;rw[hq]at this;exact this);have qR:J (Run _ _ _ _ _ _ _ _ _):=R1;clear R1 hx kL))
  all_goals go_wp2;go_meet;exact⟨x1,x2,x3,g1,rfl,qR,HX⟩
 case rest=>
 obtain⟨x1,x2,x3,g1,rfl,qR,HX⟩:=hcut;obtain⟨w1,Hn⟩:∃w1,w1=wc:=⟨wc,rfl⟩
 subst Hn;clear HC qp hwu uQ RUN;have uy:J (aB N 219 _ w1 _):=Jld E b g1 wj (p.lstS wj l) x1 x2 x3 w1 qR.o.env qR.o.port (λys p2 h=>by have:=(HF.o ys p2 h).2;have:=HKE.o;omega) (λys p2 h=>by obtain⟨gp,q1,q2,q3,q4,q5,q6,q7⟩:=HX.o ys p2 h;exact⟨gp,q1,q2,q3,q5,q6,q7⟩);go_wp2_with fail;refine uy.o.mono ?_;rintro _ w2⟨rfl,kL⟩;obtain⟨g2,R2⟩:=qR.o.step kL;have vy:J (∀ys p2,p.lstS wj l=Z (ys,p2)->∃gp,x1=Z ⟨gp,0,Y⟩/\x2=ys.length/\x3=ys.length/\w.heap.size<=gp/\gp ≠ b/\w2.heap[gp]? =Z (T (Hv (ys.map encS)) 366)/\Z gp ≠ g2):=λys p2 h=>by
  obtain⟨gp,q1,q2,q3,q4,q5,q6,q7⟩:=HX.o ys p2 h;obtain⟨r1,r2⟩:=JhV kL R2.port q6 q5 q7;exact⟨gp,q1,q2,q3,q4,q5,r1,r2⟩
 have bx2:=(R2.box (k:=w.heap.size) (Ql _) BX0.out).1;have c1:w2.cell? ⟨w.heap.size,1,Y⟩=Z (aL m):=Ja bx2;have c2:w2.cell? ⟨w.heap.size,2,Y⟩=Z (L k):=Ja bx2;have c3:w2.cell? ⟨w.heap.size,3,Y⟩=Z (O aD (a:Int)):=Ja bx2;have c4:w2.cell? ⟨w.heap.size,4,Y⟩=Z (O aE (o:Int)):=Ja bx2;have s8:J (JP (Yh (p.lstS wj l))<=80000000):=by
  show JP (Yh (p.lstS wj l))<=80000000
  cases hq:p.lstS wj l with
  | none=>simp[Yh,JP]
  | some r=>
   obtain⟨ys,p2⟩:=r;have h1:=Jje ys p2;have h2:=(HF.o ys p2 hq).1;have h3:=HW.o;have h4:=uj.o;simp only[Yh];omega
 have kQ:J (Run _ _ _ _ _ _ _ _ _):=R2;clear R2 kL HX uy qR bx2;have HMO:J (aB N 221 _ w2 _):=JoJ E b g2 wj m _ w2 kQ.out.port;have vR:J (p.way wj l m k (a,o)=match p.lstS wj l with
 | none=>Y
 | some (ys,p1)=>
  if ys.length=0/\ZY m (Xl ys (Z p1))=false then (Xl ys (Z p1)).map λp=>(([],Y),p)
  else (Jv wj k (a,o) (Xl ys (Z p1))).2.map λp=>((ys,Z (Jv wj k (a,o) (Xl ys (Z p1))).1),p)):=(by unfold PS.way;rfl)
 go_upto_region 3 with fail;go_cut [28] (λv wx=>v=aL (decide (x2=0/\ZY m (Yh (p.lstS wj l))=false))/\J (M D w2 wx))
 case first=>
  clear HF HW uj BX0 BX1 s8 vy kJ
  by_cases ru:x2=0
  ·have db:((x2:Nat):Int)=0:=(by omega);have bo:J (x2=0):=ru;clear ru;go_wp2_with fail;refine HMO.o.mono ?_;rintro _ w3⟨rfl,ht⟩;have Hb:J (M _ _ _):=ht;clear ht;go_wp2;go_meet;refine⟨?_,Hb⟩;rw[show decide (x2=0/\ZY m (Yh (p.lstS wj l))=false)= !ZY m (Yh (p.lstS wj l)) by simp[bo.o]]
  ·have db:¬((x2:Nat):Int)=0:=(by omega);go_wp2;go_meet;exact⟨by simp[ru],Te _ _⟩
 case rest=>
 obtain⟨rfl,dc⟩:=hcut;obtain⟨w3,jw⟩:∃w3,w3=wc:=⟨wc,rfl⟩
 subst jw;have R3:=kQ.out.next dc.o;have bx3:=(R3.box (k:=w.heap.size) (Ql _) BX0.out).1;have c1:w3.cell? ⟨w.heap.size,1,Y⟩=Z (aL m):=Ja bx3;have c2:w3.cell? ⟨w.heap.size,2,Y⟩=Z (L k):=Ja bx3;have c3:w3.cell? ⟨w.heap.size,3,Y⟩=Z (O aD (a:Int)):=Ja bx3;have c4:w3.cell? ⟨w.heap.size,4,Y⟩=Z (O aE (o:Int)):=Ja bx3;have nz:J (∀ys p2,p.lstS wj l=Z (ys,p2)->∃gp,x1=Z ⟨gp,0,Y⟩/\x2=ys.length/\x3=ys.length/\w.heap.size<=gp/\gp ≠ b/\w3.heap[gp]? =Z (T (Hv (ys.map encS)) 366)/\Z gp ≠ g2):=λys p2 h=>by
  obtain⟨gp,q1,q2,q3,q4,q5,q6,q7⟩:=vy.o ys p2 h;exact⟨gp,q1,q2,q3,q4,q5,(dc.o.block gp (Jb q6) (λh=>h)).trans q6,q7⟩
 have gD:J (Run _ _ _ _ _ _ _ _ _):=R3;clear R3 bx3 vy dc HMO kQ HF HW uj kJ
 by_cases hc:x2=0/\ZY m (Yh (p.lstS wj l))=false
 ·have qJ:J (_/\_):=hc;rw[decide_eq_true hc];clear hc;have rR:=(gD.out.box (k:=w.heap.size+1) (by omega) BX1.out).1;have e0:w3.cell? ⟨w.heap.size+1,0,Y⟩=Z (R Y 0 0):=Ja rR;have e1:w3.cell? ⟨w.heap.size+1,1,Y⟩=Z (aL false):=Ja rR;have e2:w3.cell? ⟨w.heap.size+1,2,Y⟩=Z (L ⟨#[]⟩):=Ja rR;have e3:w3.cell? ⟨w.heap.size+1,3,Y⟩=Z (O aD 0):=Ja rR;have e4:w3.cell? ⟨w.heap.size+1,4,Y⟩=Z (O aE 0):=Ja rR;have fR:∀j,w3.frozen? ⟨w.heap.size+1,j,Y⟩=false:=λj=>Qg _ _ _ _ _ rR;have RR:J (_=_):=rR;clear rR;go_wp2;rw[set5 _ _ _ _ _ _ _ _ _ _ _ _ _ RR.out];have kL:=gD.out.done (k:=w.heap.size+1) (cs:= #[R Y 0 0,aL false,L ⟨#[]⟩,O aD 0,O aE 0]) (by omega) BX1.out (by decide);refine QK (v:=aH #[R Y 0 0,aL false,L ⟨#[]⟩,O aD 0,O aE 0]) (Qq results146 _ _ (w.heap.size+1) _ _ (0,0) _ rfl (Qi _ _ _ _ _ _ RR.out) underlying258 rfl (by kernel_rfl)) rfl ?_;obtain⟨g',h1,h2,h3⟩:=kL;obtain⟨ru,mE⟩:=qJ.o;refine⟨Y,0,0,false,⟨#[]⟩,0,0,g',rfl,?_,h2,h3,?_⟩
  ·rw[vR.o]
   cases hq:p.lstS wj l with
   | none=>rw[hq]at h1;exact h1
   | some r=>
    obtain⟨ys,p1⟩:=r;rw[hq]at h1 mE;obtain⟨_,_,q2,_⟩:=nz.o ys p1 hq;simp only[Yh]at h1 mE;dsimp only;rw[if_pos ⟨by omega,mE⟩,Option.map_map]
    cases hr:Xl ys (Z p1) with
    | none=>rw[hr]at h1;exact h1
    | some p2=>rw[hr]at h1;exact h1
  ·intro wy p2 h;rw[vR.o]at h
   cases hq:p.lstS wj l with
   | none=>rw[hq]at h;cases h
   | some r=>
    obtain⟨ys,p1⟩:=r;rw[hq]at h mE;obtain⟨_,_,q2,_⟩:=nz.o ys p1 hq;simp only[Yh]at mE;dsimp only at h;rw[if_pos ⟨by omega,mE⟩]at h
    cases hr:Xl ys (Z p1) with
    | none=>rw[hr]at h;cases h
    | some p2=>rw[hr]at h;cases h;exact .inl ⟨rfl,rfl,rfl,rfl,rfl,rfl⟩
 ·have qJ:J (¬(_/\_)):=hc;rw[decide_eq_false hc];clear hc;have HLF:J (aB N 222 _ w3 _):=JjT E b Hi g2 wj (by omega) k a o ho _ w3 gD.out.env gD.out.port s8.o;go_wp2_with fail;refine HLF.o.mono ?_;rintro _ w4⟨rfl,kL⟩;obtain⟨g4,R4⟩:=gD.out.step kL;have fy:J (∀ys p2,p.lstS wj l=Z (ys,p2)->∃gp,x1=Z ⟨gp,0,Y⟩/\x2=ys.length/\x3=ys.length/\w.heap.size<=gp/\gp ≠ b/\w4.heap[gp]? =Z (T (Hv (ys.map encS)) 366)/\Z gp ≠ g4):=λys p2 h=>by
   obtain⟨gp,q1,q2,q3,q4,q5,q6,q7⟩:=nz.o ys p2 h;obtain⟨r1,r2⟩:=JhV kL R4.port q6 q5 q7;exact⟨gp,q1,q2,q3,q4,q5,r1,r2⟩
  have rR:=(R4.box (k:=w.heap.size+1) (by omega) BX1.out).1;have e0:w4.cell? ⟨w.heap.size+1,0,Y⟩=Z (R Y 0 0):=Ja rR;have e1:w4.cell? ⟨w.heap.size+1,1,Y⟩=Z (aL false):=Ja rR;have e2:w4.cell? ⟨w.heap.size+1,2,Y⟩=Z (L ⟨#[]⟩):=Ja rR;have e3:w4.cell? ⟨w.heap.size+1,3,Y⟩=Z (O aD 0):=Ja rR;have e4:w4.cell? ⟨w.heap.size+1,4,Y⟩=Z (O aE 0):=Ja rR;have fR:∀j,w4.frozen? ⟨w.heap.size+1,j,Y⟩=false:=λj=>Qg _ _ _ _ _ rR;have RR:J (_=_):=rR;have jp:J (Run _ _ _ _ _ _ _ _ _):=R4;clear rR R4 kL HLF nz gD;go_wp2;rw[set5 _ _ _ _ _ _ _ _ _ _ _ _ _ RR.out];have kL:=jp.out.done (k:=w.heap.size+1) (cs:= #[R x1 x2 x3,aL true,L ⟨(Jv wj k (a,o) (Yh (p.lstS wj l))).1.1.toArray⟩,O aD ((Jv wj k (a,o) (Yh (p.lstS wj l))).1.2.1:Int),O aE ((Jv wj k (a,o) (Yh (p.lstS wj l))).1.2.2:Int)]) (by omega) BX1.out (by decide);refine QK (v:=aH #[R x1 x2 x3,aL true,L ⟨(Jv wj k (a,o) (Yh (p.lstS wj l))).1.1.toArray⟩,O aD ((Jv wj k (a,o) (Yh (p.lstS wj l))).1.2.1:Int),O aE ((Jv wj k (a,o) (Yh (p.lstS wj l))).1.2.2:Int)]) (Qq results146 _ _ (w.heap.size+1) _ _ (0,0) _ rfl (Qi _ _ _ _ _ _ RR.out) underlying258 rfl (by kernel_rfl)) rfl ?_;obtain⟨g',h1,h2,h3⟩:=kL;have uV:g'=g4:=h1.same (jp.out.port.row RR.out (by decide) (jp.out.box (k:=w.heap.size+1) (by omega) BX1.out).2);refine⟨x1,x2,x3,true,⟨(Jv wj k (a,o) (Yh (p.lstS wj l))).1.1.toArray⟩,(Jv wj k (a,o) (Yh (p.lstS wj l))).1.2.1,(Jv wj k (a,o) (Yh (p.lstS wj l))).1.2.2,g',rfl,?_,h2,h3,?_⟩
  ·rw[vR.o]
   cases hq:p.lstS wj l with
   | none=>rw[hq]at h1;exact h1
   | some r=>
    obtain⟨ys,p1⟩:=r;have tp:=qJ.o;rw[hq]at h1 tp;obtain⟨_,_,q2,_⟩:=fy.o ys p1 hq;simp only[Yh]at h1 tp;dsimp only;rw[if_neg (by rw[<-q2];exact tp),Option.map_map]
    cases hr:(Jv wj k (a,o) (Xl ys (Z p1))).2 with
    | none=>rw[hr]at h1;exact h1
    | some p2=>rw[hr]at h1;exact h1
  ·intro wy p2 h;rw[vR.o]at h
   cases hq:p.lstS wj l with
   | none=>rw[hq]at h;cases h
   | some r=>
    obtain⟨ys,p1⟩:=r;have tp:=qJ.o;rw[hq]at h tp;obtain⟨gp,q1,q2,q3,q4,q5,q6,q7⟩:=fy.o ys p1 hq;simp only[Yh]at tp;dsimp only at h;rw[if_neg (by rw[<-q2];exact tp)]at h
    cases hr:(Jv wj k (a,o) (Xl ys (Z p1))).2 with
    | none=>rw[hr]at h;cases h
    | some p3=>
     rw[hr]at h
     cases h
     refine .inr ⟨gp,by rw[q1,q2,q3],q4,q5,by rw[uV];exact q7,?_,rfl,rfl⟩;have Hl:gp ≠ w.heap.size+1:=by intro e;have:=RR.out;rw[<-e,q6]at this;simp at this
     exact(setRow_other _ _ _ _ Hl).trans q6

def Xe(s:Stp):List UInt8:=Hf s.1 2 2++s.2.data.toList
def endB:Option KO->List UInt8
 | none=>[]
 | some (k,o)=>k++outB o
def kT(wy:Wy):List UInt8:=Hf wy.1.length 2 2++(wy.1.flatMap Xe++endB wy.2)
def Zu(wj:Nat)(s:Stp):Prop:=s.1<8*(wj+1)/\s.2.size=wj
structure WyOk(wj:Nat)(wy:Wy):Prop where
 steps:∀s∈wy.1,Zu wj s
 rise:YJ wy.1 wy.1.length
 len:wy.1.length<=8*(wj+1)
 bare:wy.2=Y->wy.1=[]
 key:∀x,wy.2=Z x->x.1.length=wj+1/\(x.1.getD wj 0).toNat<3/\Jy x.2
theorem Zx(x:BA):(⟨x.data.toList.toArray⟩:BA)=x:=by cases x;simp
theorem Jo5{wj:Nat}(hw:wj<=1000){s:Stp}(h:Zu wj s)(d:List UInt8):PS.step wj s (.wr d)=Z (s,.wr (d++Xe s)):=by
 obtain⟨h1,h2⟩:=h;unfold PS.step;rw[(Yj s.1 2 0 (by omega)).wr];dsimp only;rw[if_neg (by omega),(ZX s.2.data.toList [] wj (by rw[<-h2];simp)).wr];dsimp only;rw[Zx,Qs];rfl
theorem Jo3{wj:Nat}(hw:wj<=1000){s:Stp}(z:Stp)(h:Zu wj s)(q r:List UInt8):PS.step wj z (.rd q (Xe s++r))=Z (s,.rd (q++Xe s) r):=by
 obtain⟨h1,h2⟩:=h;unfold PS.step Xe;rw[Qs,(Yj s.1 2 z.1 (by omega)).rd];dsimp only;rw[if_neg (by omega),(ZX s.2.data.toList z.2.data.toList wj (by rw[<-h2];simp)).rd];dsimp only;rw[Zx,Qs]
theorem Jnz{wj:Nat}(hw:wj<=1000):∀(l:List Stp)(_:∀s∈l,Zu wj s)(d:List UInt8),PS.many (JaM wj).f l (.wr d)=Z (l,.wr (d++l.flatMap Xe)):=by
 intro l
 induction l with
 | nil=>intro _ d;simp[PS.many]
 | cons s l ih=>
  intro h d;simp only[PS.many,QG];rw[show (JaM wj).f s (.wr d)=PS.step wj s (.wr d) from rfl,Jo5 hw (h s (by simp))];dsimp only;rw[ih (λs hs=>h s (by simp[hs])),Qs]
theorem Jny{wj:Nat}(hw:wj<=1000):∀(l:List Stp)(_:∀s∈l,Zu wj s)(q r:List UInt8),PS.many (JaM wj).f (lE l.length (0,⟨#[]⟩)) (.rd q (l.flatMap Xe++r))=Z (l,.rd (q++l.flatMap Xe) r):=by
 intro l
 induction l with
 | nil=>intro _ q r;simp[PS.many]
 | cons s l ih=>
  intro h q r;simp only[Qp,List.replicate_succ,PS.many,QG,Qs];rw[show (JaM wj).f ((0,⟨#[]⟩):Stp) _=PS.step wj ((0,⟨#[]⟩):Stp) _ from rfl,Jo3 hw _ (h s (by simp))];dsimp only;rw[ih (λs hs=>h s (by simp[hs])),Qs]
theorem JoF{wj:Nat}(hw:wj<=1000)(l:List Stp)(h:∀s∈l,Zu wj s)(hl:l.length<=8*(wj+1))(d:List UInt8):PS.lstS wj l (.wr d)=Z (l,.wr (d++(Hf l.length 2 2++l.flatMap Xe))):=by
 unfold PS.lstS PS.lst;rw[(Yj l.length 2 0 (by omega)).wr];dsimp only;rw[if_neg (by omega)];have e:Jw ((0,⟨#[]⟩):Stp) l l.length=l:=by unfold Jw;cases l<;>simp
 rw[e,Jnz hw l h,Qs]
theorem JoE{wj:Nat}(hw:wj<=1000)(l:List Stp)(h:∀s∈l,Zu wj s)(hl:l.length<=8*(wj+1))(q r:List UInt8):PS.lstS wj [] (.rd q (Hf l.length 2 2++(l.flatMap Xe++r)))=Z (l,.rd (q++(Hf l.length 2 2++l.flatMap Xe)) r):=by
 unfold PS.lstS PS.lst;rw[Qv,(Yj l.length 2 0 (by omega)).rd];dsimp only;rw[if_neg (by omega)];have e:Jw ((0,⟨#[]⟩):Stp) [] l.length=lE l.length (0,⟨#[]⟩):=by simp[Jw]
 rw[e,Jny hw l h,Qs]
theorem JqH{wj:Nat}(k:BA)(o:Nat×Nat)(h1:k.data.toList.length=wj+1)(h2:(k.data.toList.getD wj 0).toNat<3)(h3:Jy o)(d:List UInt8):Jv wj k o (Z (.wr d))=((k.data.toList,o),Z (.wr (d++(k.data.toList++outB o)))):=by
 have e1:=JN ((ZX k.data.toList [] (wj+1) h1).wr d);have e2:YY wj k.data.toList (Z (.wr d))=(k.data.toList,Z (.wr (d++k.data.toList))):=by unfold YY;rw[e1];dsimp only;rw[if_neg (by omega)]
 have e3:JF o.1 8 (Z (.wr (d++k.data.toList)))=(o.1,Z (.wr (d++k.data.toList++Hf o.1 8 8))):=JS ((Yj o.1 8 0 (by have:=h3.1;omega)).wr _);have e4:JF o.2 1 (Z (.wr (d++k.data.toList++Hf o.1 8 8)))=(o.2,Z (.wr (d++k.data.toList++Hf o.1 8 8++Hf o.2 1 1))):=JS ((Yj o.2 1 0 (by have:=h3.2;omega)).wr _);unfold Jv stO;rw[e2];dsimp only;rw[e3];dsimp only;rw[e4];simp[outB,lP]
theorem JqG{wj:Nat}(k z:BA)(o y:Nat×Nat)(h1:k.data.toList.length=wj+1)(h2:(k.data.toList.getD wj 0).toNat<3)(h3:Jy o)(q r:List UInt8):Jv wj z y (Z (.rd q (k.data.toList++outB o++r)))=((k.data.toList,o),Z (.rd (q++(k.data.toList++outB o)) r)):=by
 have e1:Jm z.data.toList (wj+1) (Z (.rd q (k.data.toList++(outB o++r))))=(k.data.toList,Z (.rd (q++k.data.toList) (outB o++r))):=JN ((ZX k.data.toList z.data.toList (wj+1) h1).rd q _);have e2:YY wj z.data.toList (Z (.rd q (k.data.toList++(outB o++r))))=(k.data.toList,Z (.rd (q++k.data.toList) (outB o++r))):=by unfold YY;rw[e1];dsimp only;rw[if_neg (by omega)]
 have e3:JF y.1 8 (Z (.rd (q++k.data.toList) (outB o++r)))=(o.1,Z (.rd (q++k.data.toList++Hf o.1 8 8) (Hf o.2 1 1++r))):=by unfold outB;rw[Qs];exact JS ((Yj o.1 8 y.1 (by have:=h3.1;omega)).rd _ _)
 have e4:JF y.2 1 (Z (.rd (q++k.data.toList++Hf o.1 8 8) (Hf o.2 1 1++r)))=(o.2,Z (.rd (q++k.data.toList++Hf o.1 8 8++Hf o.2 1 1) r)):=JS ((Yj o.2 1 y.2 (by have:=h3.2;omega)).rd _ _);unfold Jv stO;rw[Qs,e2];dsimp only;rw[e3];dsimp only;rw[e4];simp[outB,lP]
def ji(wy:Wy):BA:=match wy.2 with|none=>⟨#[]⟩|some x=>⟨x.1.toArray⟩
def gE(wy:Wy):Nat×Nat:=match wy.2 with|none=>(0,0)|some x=>x.2
theorem Jqr{wj:Nat}(hw:wj<=1000){wy:Wy}(h:WyOk wj wy)(d:List UInt8):PS.way wj wy.1 wy.2.isSome (ji wy) (gE wy) (.wr d)=Z (wy,.wr (d++kT wy)):=by
 obtain⟨l,e⟩:=wy;unfold PS.way;rw[JoF hw l h.steps h.len];dsimp only;have hr:Xl l (Z (PS.wr (d++(Hf l.length 2 2++l.flatMap Xe))))=Z (PS.wr (d++(Hf l.length 2 2++l.flatMap Xe))):=by unfold Xl;rw[if_pos h.rise]
 rw[hr]
 cases e with
 | none=>
  obtain rfl:l=[]:=h.bare rfl;rw[if_pos ⟨rfl,rfl⟩];simp[kT,endB]
 | some x=>
  obtain⟨k,o⟩:=x;obtain⟨h1,h2,h3⟩:=h.key _ rfl;rw[if_neg (by simp[ZY])];have e1:=JqH (wj:=wj) ⟨k.toArray⟩ o h1 h2 h3 (d++(Hf l.length 2 2++l.flatMap Xe));simp only[ji,gE];rw[e1];simp[kT,endB,lP]
theorem Jqq{wj:Nat}(hw:wj<=1000){wy:Wy}(h:WyOk wj wy)(k:BA)(o:Nat×Nat)(q:List UInt8):PS.way wj [] false k o (.rd q (kT wy))=Z (wy,.rd (q++kT wy) []):=by
 obtain⟨l,e⟩:=wy;unfold PS.way;have e0:kT (l,e)=Hf l.length 2 2++(l.flatMap Xe++endB e):=rfl;rw[e0,JoE hw l h.steps h.len];dsimp only;have hr:∀p,Xl l (Z p)=Z p:=λp=>by unfold Xl;rw[if_pos h.rise]
 rw[hr]
 cases e with
 | none=>
  obtain rfl:l=[]:=h.bare rfl;rw[if_pos ⟨rfl,by simp[ZY,endB]⟩];simp[endB]
 | some x=>
  obtain⟨k',o'⟩:=x;obtain⟨h1,h2,h3⟩:=h.key _ rfl;rw[if_neg (by simp[ZY,endB];intro _ h;exact absurd h (by intro e;simp[e]at h1))];have e1:=JqG (wj:=wj) ⟨k'.toArray⟩ k o' o h1 h2 h3 (q++(Hf l.length 2 2++l.flatMap Xe)) [];simp only[QC]at e1;simp only[endB];rw[e1];simp[lP]
theorem Tr.bit_lt{b b':Nat}{l' r' t r:Tr}(ht:t=.br b' l' r')(h:(Tr.br b t r).Wf\/(Tr.br b r t).Wf):b<b':=by
 subst ht;obtain⟨x,hx⟩:=lG _ (Tr.coins_ne l');obtain⟨y,hy⟩:=lG _ (Tr.coins_ne r');apply Nat.lt_of_not_le;intro vk
 rcases h with⟨⟨_,_,h0,h1,_⟩,_,k0,k1,k2⟩|⟨_,⟨_,_,h0,h1,_⟩,k0,k1,k2⟩
 ·have e0:=h0 x hx;have e1:=h1 y hy
  by_cases he:b'=b
  ·subst he;have:=k0 y (by simp[Tr.coins,hy]);omega
  ·have:=k2 x (by simp[Tr.coins,hx]) y (by simp[Tr.coins,hy]) b' (by omega);omega
 ·have e0:=h0 x hx;have e1:=h1 y hy
  by_cases he:b'=b
  ·subst he;have:=k1 x (by simp[Tr.coins,hx]);omega
  ·have:=k2 x (by simp[Tr.coins,hx]) y (by simp[Tr.coins,hy]) b' (by omega);omega
theorem JfH{s:Stp}{l:List Stp}(h:YJ l l.length)(hs:∀x,l.head? =Z x->s.1<x.1):YJ (s::l) (s::l).length:=by
 intro i h1 h2 x y hx hy;obtain⟨j,rfl⟩:∃j,i=j+1:=⟨i-1,by omega⟩
 simp only[Nat.add_sub_cancel,List.getElem?_cons_succ]at hx hy
 cases j with
 | zero=>
  simp only[List.getElem?_cons_zero,Qh]at hx;subst hx;exact hs y (by rw[List.head?_eq_getElem?];exact hy)
 | succ j=>
  simp only[List.getElem?_cons_succ]at hx;exact h (j+1) (by omega) (by simp at h2;omega) x y (by simpa using hx) hy
theorem Tr.way_head(d:List UInt8->BA)(k:Key)(t:Tr)(x:Stp)(h:(t.way d k).1.head? =Z x):∃l r,t=.br x.1 l r:=by
 cases t using Tr.ri with
 | leaf=>simp[way]at h
 | br b l r=>
  simp only[way]at h
  split at h
  ·simp at h;subst h;exact⟨l,r,rfl⟩
  ·simp at h;subst h;exact⟨l,r,rfl⟩
theorem Tr.way_rise(d:List UInt8->BA)(k:Key)(t:Tr)(hw:t.Wf):YJ (t.way d k).1 (t.way d k).1.length:=by
 induction t using Tr.ri with
 | leaf=>intro i h1 h2;simp[way]at h2
 | br b l r ihl ihr=>
  have zD:=hw;obtain⟨w1,w2,_⟩:=hw;simp only[way]
  split
  ·refine JfH (ihl w1) (λx hx=>?_);obtain⟨l',r',e⟩:=Tr.way_head d k l x hx;exact Tr.bit_lt e (.inl zD)
  ·refine JfH (ihr w2) (λx hx=>?_);obtain⟨l',r',e⟩:=Tr.way_head d k r x hx;exact Tr.bit_lt e (.inr zD)
theorem Tr.way_steps(d:List UInt8->BA)(wj:Nat)(hd:∀l,(d l).size=wj)(k:Key)(t:Tr)(h:TrOk wj t):∀s∈(t.way d k).1,Zu wj s:=by
 induction t using Tr.ri with
 | leaf=>intro s hs;cases hs
 | br b l r ihl ihr=>
  obtain⟨hb,h1,h2⟩:=h;intro s hs;simp only[way]at hs
  split at hs
  ·simp only[lM]at hs
   rcases hs with rfl|hs
   ·exact⟨hb,by rw[Tr.dig_text,hd]⟩
   ·exact ihl h1 s hs
  ·simp only[lM]at hs
   rcases hs with rfl|hs
   ·exact⟨hb,by rw[Tr.dig_text,hd]⟩
   ·exact ihr h2 s hs
theorem Tr.near_ok(wj:Nat)(k:Key)(t:Tr)(h:TrOk wj t):(t.near k).1.length=wj+1/\((t.near k).1.getD wj 0).toNat<3/\Jy (t.near k).2:=by
 induction t using Tr.ri with
 | leaf=>exact h
 | br b l r ihl ihr=>
  obtain⟨_,h1,h2⟩:=h;simp only[near]
  split
  ·exact ihl h1
  ·exact ihr h2
theorem JhS(n:Nat)(l:List Stp)(h:YJ l l.length)(hb:∀s∈l,s.1<n):l.length<=n:=by
 have key:∀i (hi:i<l.length),i<=l[i].1:=by
  intro i
  induction i with
  | zero=>intro _;omega
  | succ i ih=>
   intro hi;have h1:=ih (by omega);have h2:=h (i+1) (by omega) hi l[i] l[i+1] (by simp) (by simp);omega
 by_cases h0:l.length=0
 ·omega
 ·have h1:=key (l.length-1) (by omega);have h2:=hb l[l.length-1] (Qx _);omega
theorem Jcj(d:List UInt8->BA)(wj:Nat)(hd:∀l,(d l).size=wj)(k:Key)(st:Option Tr)(hw:∀t,st=Z t->t.Wf/\TrOk wj t):WyOk wj (YS d k st):=by
 cases st with
 | none=>exact⟨λs hs=>(by cases hs),λi h1 h2=>(by simp[YS]at h2),by simp[YS],λ_=>rfl,λx hx=>(by cases hx)⟩
 | some t=>
  obtain⟨h1,h2⟩:=hw t rfl;have hs:=Tr.way_steps d wj hd k t h2;exact⟨hs,Tr.way_rise d k t h1,JhS _ _ (Tr.way_rise d k t h1) (λs h=>(hs s h).1),λh=>(by cases h),λx hx=>(by cases hx;rw[Tr.way_near];exact Tr.near_ok wj k t h2)⟩
theorem Jhh{wj:Nat}:∀(l:List Stp),(∀s∈l,Zu wj s)->(l.flatMap Xe).length=(wj+2)*l.length:=by
 intro l
 induction l with
 | nil=>intro _;rfl
 | cons s l ih=>
  intro h;have h1:=(h s (by simp)).2;have e:s.2.data.toList.length=wj:=by rw[<-h1];simp
  rw[QG,Qe,ih (λs hs=>h s (by simp[hs])),Xe,Qe,Jf,e,Qp,Nat.mul_add];omega
theorem JnO{wj:Nat}{wy:Wy}(h:WyOk wj wy):(kT wy).length<=2+8*(wj+1)*(2+wj)+wj+10:=by
 obtain⟨l,e⟩:=wy;have h1:=Jhh l h.steps;have h2:=h.len;simp only at h2;have h3:(wj+2)*l.length<=(wj+2)*(8*(wj+1)):=Nat.mul_le_mul_left _ h2;have h4:(wj+2)*(8*(wj+1))=8*(wj+1)*(2+wj):=by rw[Nat.mul_comm,Nat.add_comm wj 2]
 simp only[kT,Qe,Jf,h1]
 cases e with
 | none=>simp[endB];omega
 | some x=>
  obtain⟨k,o⟩:=x;have:=(h.key _ rfl).1;simp only at this;simp only[endB,Qe,outB,Jf];omega
open Go.RowKit Go.Shelf

attribute [local go_sem] Oper.semAt_some

theorem Jiu(n:Nat)(dg:BA)(b nl nr:Nat)(k:Key)(hk:b<8*k.length)(gS:k.length<=1000000)(w:aA)(h:w.heap[n]? =Z (T (brC dg b nl nr) 243)):
  aB N 225 #[X (Z ⟨n,0,Y⟩),L ⟨k.toArray⟩] w λe w'=>e=aC (X (Z ⟨if bt k b=0 then nr else nl,0,Y⟩))/\∃m,w'=w.drewN m:=by
 obtain⟨-, -, -, -,c4,c5,c6⟩:=rows h;have HB:J (∀W,_):=λW=>XL k b hk gS W;have hb:=Yx k b;generalize (⟨k.toArray⟩:BA)=kb at *;generalize bt k b=a at *;obtain rfl|rfl:a=0\/a=1:=by omega
 ·rw[if_pos rfl];go_enter func225,ntmps225;go_wp2;go_region_with (go_at_call 288;refine(HB _).mono ?_;rintro _ _⟨rfl,rfl⟩)
  all_goals go_wp2
  all_goals go_ret
  all_goals exact⟨rfl,1,rfl⟩
 ·rw[if_neg (by decide)];go_enter func225,ntmps225;go_wp2;go_region_with (go_at_call 288;refine(HB _).mono ?_;rintro _ _⟨rfl,rfl⟩)
  all_goals go_wp2
  all_goals go_ret
  all_goals exact⟨rfl,1,rfl⟩

def stpC(h:Stp):List aG:=[O I (h.1:Int),L h.2]
def stpV(l:List Stp):List aG:=l.flatMap stpC
theorem JnA(l:List Stp):∀u∈stpV l,u.oneCell'=true:=by
 intro u hu;simp only[stpV,List.mem_flatMap,stpC]at hu;obtain⟨x,_,hu⟩:=hu;simp only[lM,QD,or_false]at hu
 rcases hu with rfl|rfl<;>rfl
theorem Jo6(l:List Stp):stpV l=(Hv (l.map encS)).toList:=by
 simp[stpV,Hv,encS,List.flatMap_map];rfl
def POwn(base:Nat)(w:aA)(v:aG)(l:List Stp):Prop:=w.ownsRow base 366 2 v l.length (stpV l)
theorem POwn.nil(base:Nat)(w:aA):POwn base w (R Y 0 0) []:=⟨rfl,.inl ⟨rfl,rfl⟩⟩
theorem POwn.own{base:Nat}{w:aA}{v:aG}{l:List Stp}(h:POwn base w v l):∀k,v.ownBlock=Z k->base<=k/\∃cs m,w.heap[k]? =Z (T cs 366 m):=by
 obtain⟨_,⟨rfl,h0⟩|⟨g,cap,cur,rfl,hb,hZ,_⟩⟩:=h
 ·intro k hk;cases hk
 ·intro k hk;cases hk;exact⟨hb,_,_,hZ⟩
theorem POwn.tch{base:Nat}{w w':aA}{v:aG}{l:List Stp}{S:Nat->Prop}(h:POwn base w v l)(k:M S w w')(hs:∀j,v.ownBlock=Z j->¬S j):POwn base w' v l:=by
 obtain⟨h1,⟨rfl,h0⟩|⟨g,cap,cur,rfl,hb,hZ,h2⟩⟩:=h
 ·exact⟨h1,.inl ⟨rfl,h0⟩⟩
 ·exact⟨h1,.inr ⟨g,cap,cur,rfl,hb,(k.block g (Jb hZ) (hs g rfl)).trans hZ,h2⟩⟩
theorem POwn.shape{base:Nat}{w:aA}{v:aG}{l:List Stp}(h:POwn base w v l):∃a c,v=R a l.length c:=by
 obtain⟨_,⟨rfl,h0⟩|⟨g,cap,cur,rfl,hb,hZ,_⟩⟩:=h
 ·exact⟨Y,0,by rw[h0]⟩
 ·exact⟨_,_,rfl⟩
theorem POwn.vat{base:Nat}{w:aA}{v:aG}{l:List Stp}(h:POwn base w v l):VAt w.heap.size w v (l.map encS):=by
 obtain⟨_,⟨rfl,h0⟩|⟨g,cap,cur,rfl,_,hZ,_,_,Hp,kU⟩⟩:=h
 ·exact .inl ⟨rfl,by rw[QP h0];rfl⟩
 ·have H7:=(Jb hZ)
  refine .inr ⟨g,0,cap,by rw[QM],H7,H7,λi hi=>?_⟩;obtain⟨e0,e1⟩:=Yu (l.map encS) i hi;have hc:∀j u,(Hv (l.map encS))[j]? =Z u->w.cell? ⟨g,0+j,Y⟩=Z u:=by intro j u hu;rw[<-lQ,<-Jo6,<-kU]at hu;have hj:=(Qo.1 hu).1;rw[List.getElem?_take_of_lt (by rw[QB]at hj;omega)]at hu;rw[Ja hZ,Nat.zero_add,<-lQ];exact hu
  exact⟨hc _ _ e0,hc _ _ e1⟩
theorem Ju{W W':aA}{row:Option Nat}{B:Nat}{cs:Array aG}{aY:TypeId}{m:Nat×Nat}(h:W.heap[B]? =Z (T cs aY m))(hg:W.grownBy W' row)(hr:∀r,row=Z r->∃o:Obj,W.heap[r]? =Z o/\o.isCells=false):W'.heap[B]? =Z (T cs aY m):=by
 refine(hg.block B (Jb h) (λe=>?_)).trans h;obtain⟨o,ho,hc⟩:=hr B e.symm;rw[h]at ho
 cases ho
 cases hc
theorem POwn.kept{base:Nat}{W W':aA}{v:aG}{l:List Stp}{row:Option Nat}(h:POwn base W v l)(hg:W.grownBy W' row)(hr:∀r,row=Z r->∃o:Obj,W.heap[r]? =Z o/\o.isCells=false):POwn base W' v l:=by
 obtain⟨h1,⟨rfl,h0⟩|⟨g,cap,cur,rfl,hb,hZ,h2⟩⟩:=h
 ·exact⟨h1,.inl ⟨rfl,h0⟩⟩
 ·exact⟨h1,.inr ⟨g,cap,cur,rfl,hb,Ju hZ hg hr,h2⟩⟩
theorem Jbf{S:Nat->Prop}{W W':aA}(h:M S W W')(hs:∀j,S j->∃cs aY m,W.heap[j]? =Z (T cs aY m)):KeepsOthers W W':=by
 refine⟨h.size,λk o hk ho=>(h.block k (Jb hk) (λhS=>?_)).trans hk⟩;obtain⟨cs,aY,m,e⟩:=hs k hS;rw[hk]at e
 cases e
 cases ho

def JpB(w:aA)(k:Key):Nat×(KO ⊕ Stp)->Prop
 | (x,.inl (k',o))=>∃dg,w.heap[x]? =Z (T (Jah dg k' o) 243)
 | (x,.inr (b,od))=>∃dg nl nr cs,w.heap[x]? =Z (T (brC dg b nl nr) 243)/\b<8*k.length/\w.heap[if bt k b=0 then nr else nl]? =Z (T cs 243)/\cs[0]? =Z (L od)
abbrev Yf(w:aA)(k:Key):={ y:Nat×(KO ⊕ Stp) // JpB w k y }
theorem Jh.dig{d:List UInt8->BA}{F:Nat->Prop}{w:aA}{n:Nat}{t:Tr}(h:Jh d F w n t):∃cs,w.heap[n]? =Z (T cs 243)/\cs[0]? =Z (L (t.dig d)):=by
 cases h using Jh.ri with
 | leaf _ k o hF hr=>exact⟨_,hr,rfl⟩
 | br _ b nl nr l r hF hr=>exact⟨_,hr,rfl⟩
theorem Jh.wayD{d:List UInt8->BA}{F:Nat->Prop}{w:aA}{n wj:Nat}{t:Tr}{k:Key}(hk:k.length=wj+1)(h:Jh d F w n t)(Hg:TrOk wj t):∃ds:List (Yf w k),Way w.heap.size k w (Z n) (ds.map (·.1.1))/\ds.map (·.1.2)=(t.way d k).1.map .inr++[.inl (t.way d k).2]:=by
 induction h using Jh.ri with
 | leaf n k' o hF hr=>exact⟨[⟨(n,.inl (k',o)),_,hr⟩],⟨rfl,(Jb hr),.inl ⟨_,_,_,hr,rfl⟩⟩,rfl⟩
 | br n b nl nr l r hF hr hl kS ihl ihr=>
  obtain⟨hb,vJ,vK⟩:=Hg
  by_cases h0:bt k b=0
  ·have ew:(Tr.br b l r).way d k=((b,r.dig d)::(l.way d k).1,(l.way d k).2):=(by simp only[Tr.way];rw[if_pos h0]);rw[ew];obtain⟨ds,h1,h2⟩:=ihl vJ;obtain⟨cs,e1,e2⟩:=kS.dig;refine⟨⟨(n,.inr (b,r.dig d)),_,nl,nr,cs,hr,by omega,by rw[if_pos h0];exact e1,e2⟩ :: ds,⟨rfl,(Jb hr),.inr ⟨_,b,nl,nr,hr,by omega,by rw[if_pos h0];exact h1⟩⟩,?_⟩;exact congrArg (List.cons _) h2
  ·have ew:(Tr.br b l r).way d k=((b,l.dig d)::(r.way d k).1,(r.way d k).2):=(by simp only[Tr.way];rw[if_neg h0]);rw[ew];obtain⟨ds,h1,h2⟩:=ihr vK;obtain⟨cs,e1,e2⟩:=hl.dig;refine⟨⟨(n,.inr (b,l.dig d)),_,nl,nr,cs,hr,by omega,by rw[if_neg h0];exact e1,e2⟩ :: ds,⟨rfl,(Jb hr),.inr ⟨_,b,nl,nr,hr,by omega,by rw[if_neg h0];exact h1⟩⟩,?_⟩;exact congrArg (List.cons _) h2
theorem Jf6(n:Nat)(hn:2<=n)(Bt Bk n₀:Nat)(k:Key)(qL:1<=k.length)(gS:k.length<=1000000)(q:Option Nat)(v:aA)(ds:List (Yf v k))(w:aA)(hBt:Bt<w.heap.size)(fV:Bk<w.heap.size)(hn₀:n₀<=w.heap.size)(c1:w.cell? ⟨Bt,1,Y⟩=Z (Jl q))(c2:w.cell? ⟨Bk,0,Y⟩=Z (L ⟨k.toArray⟩))(hL:Way n₀ k w q (ds.map (·.1.1))):
  SeqStopsK Fence.wide n N 295 #[X (Z ⟨Bt,0,Y⟩),X (Z ⟨Bk,0,Y⟩)] (λy:Yf v k=> #[Value.pointer (Z ⟨y.1.1,0,Y⟩)]) (JgK n₀ Bk) (λys=>ys=ds) (λH4=>H4 <+:ds) ds.length w:=λl aR Jx W hW hJ _ hY h0=>by
 refine(Jg1 n hn l Bt Bk n₀ k qL gS q (ds.map (·.1.1)) (λp W=>∃H4:List (Yf v k),H4 <+:ds/\H4.map (·.1.1)=p/\aR H4 W) (λp W=>∃H4:List (Yf v k),H4 <+:ds/\H4.map (·.1.1)=p/\Jx H4 W) (λp W' m ⟨H4,h1,h2,h⟩=>⟨H4,h1,h2,hJ H4 W' (W'.drewN m) Y h ⟨rfl,rfl,rfl,Ql _,λ_ _ _=>rfl⟩ (λr e=>by cases e)⟩) ?_ W ((hW.cell (p:=⟨Bt,1,Y⟩) hBt).trans c1) ((hW.cell (p:=⟨Bk,0,Y⟩) fV).trans c2) (Way.below (hW.mono hn₀) hL) ⟨[],List.nil_prefix,rfl,h0⟩).mono ?_
 ·rintro p x W1⟨H4,hp,rfl,de⟩ hx;rw[QM,lU]at hx
  cases hy:ds[H4.length]? with
  | none=>rw[hy]at hx;cases hx
  | some y=>
   rw[hy]at hx;simp only[lZ,Qh]at hx;have H7:=(Qo.1 hy).1;have nB:H4++[y] <+:ds:=by
    obtain⟨r,rfl⟩:=hp;rw[Qz (Ql _),Nat.sub_self]at hy
    cases r with
    | nil=>cases hy
    | cons z r=>simp at hy;subst hy;exact⟨r,by simp⟩
   have:=hY H4 y W1 de H7;subst hx;refine YieldAt.mono this ?_;rintro e W' (⟨rfl,h1,h2⟩|⟨rfl,h1⟩)
   ·exact .inl ⟨rfl,⟨H4++[y],nB,by simp,h1⟩,h2⟩
   ·exact .inr ⟨rfl,⟨H4++[y],nB,by simp,h1⟩⟩
 ·rintro e W'⟨hv,⟨ys,uC,H4,hp,hm,h⟩|⟨p,_,H4,hp,_,h⟩⟩
  ·refine⟨hv,.inl ⟨H4,?_,h⟩⟩;have hl:H4.length=ds.length:=(by have:=congrArg List.length (hm.trans uC);simpa using this);exact hp.eq_of_length hl
  ·exact⟨hv,.inr ⟨H4,hp,h⟩⟩
open Go

section
variable {P:Program}{md:lH}{Q:Exit->Act->aA->Prop}

def JaD(md:lH)(o:Oper):List Nat:=(o.after.toList.filter (Region.binds md)).map (·.on)
def JnM(md:lH)(l:List Oper):Nat->List Nat->List Nat
 | 0,aV=>aV
 | n+1,aV=>JnM md l n ((aV++aV.flatMap λj=>((l[j]?).map (JaD md)).getD []).eraseDups)
def Jfr(md:lH)(l:List Oper)(o:Oper)(n:Nat):Bool:=
 (List.range l.length).all (λj=>(JnM md l n (JaD md o)).contains j) && (JaD md o).all (λj=>decide (j<l.length)) &&
 (List.range l.length).all (λi=>((l[i]?).map (λx=>(JaD md x).all (λj=>decide (j<i)))).getD true) && l.all (λx=>x.guard.isNone) && o.guard.isNone
theorem Zm{o:Oper}{j:Nat}:j∈JaD md o↔∃e∈o.after,Region.binds md e=true/\e.on=j:=by
 simp only[JaD,List.mem_map,List.mem_filter,Array.mem_toList_iff,and_assoc]
def JjD(md:lH)(l:List Oper)(listed:Array Bool):Prop:=∀i o,l[i]? =Z o->listed.getD i false=true->∀j∈JaD md o,listed.getD j false=true
theorem Jcs{l:List Oper}{listed:Array Bool}(h:JjD md l listed):∀(n:Nat)(aV:List Nat),(∀j∈aV,listed.getD j false=true)->∀j∈JnM md l n aV,listed.getD j false=true
 | 0,_,hD=>hD
 | n+1,aV,hD=>Jcs h n _ (λj hj=>by
   rw[List.mem_eraseDups,List.mem_append,List.mem_flatMap]at hj
   rcases hj with hj|⟨i,hi,hj⟩
   ·exact hD j hj
   ·cases ho:l[i]? with
    | none=>rw[ho]at hj;simp at hj
    | some o=>rw[ho]at hj;exact h i o ho (hD i hi) j (by simpa using hj))
def Jdz(P:Program)(ops:Array Oper)(o:Oper)(Q:Exit->Act->aA->Prop):Exit->Act->aA->Prop
 | .normal,a,w=>wpList P ops Q [o] a w
 | e,a,w=>Q e a w
theorem Zz{listed:Array Bool}{i:Nat}(h:i<listed.size)(d:Bool):(listed.push false).getD i d=listed.getD i d:=by
 simp[lK,h,Array.getElem_push_lt,Nat.lt_succ_of_lt h]
theorem JaG{l:List Oper}{o:Oper}{n:Nat}(hB:Jfr md l o n=true):∀(fuel:Nat)(listed:Array Bool)(a:Act)(w:aA),listed.size=l.length->JjD md l listed->
  wpAny P md l.toArray (Jdz P (l++[o]).toArray o Q) fuel listed a w->wpAny P md (l++[o]).toArray Q (fuel+1) (listed.push false) a w:=by
 simp only[Jfr,Bool.and_eq_true,lX,List.mem_range,List.contains_iff_mem,decide_eq_true_eq,Option.isNone_iff_eq_none]at hB;obtain⟨⟨⟨⟨h1,h2⟩,h3⟩,h4⟩,h5⟩:=hB;have q8:∀listed:Array Bool,listed.size=l.length->JjD md l listed->l.length∈lC md (l++[o]).toArray (listed.push false)->∀j<l.length,listed.getD j false=true:=by
  intro listed hs hc hr j hj;obtain⟨_,o',ho',xj⟩:=mem_ready.1 hr;have ho'':o'=o:=by simpa using ho'.symm
  subst ho'';refine Jcs hc n _ (λi hi=>?_) j (h1 j hj);obtain⟨e,he,hb,rfl⟩:=Zm.1 hi;have:=xj e he hb
  rwa [Zz (by rw[hs];exact h2 _ hi)]at this
 have yO:∀(listed:Array Bool),listed.size=l.length->∀i,i<l.length->(i∈lC md (l++[o]).toArray (listed.push false)↔i∈lC md l.toArray listed):=by
  intro listed hs i hi;rw[mem_ready,mem_ready,Zz (by omega)];have e1:((l++[o]).toArray)[i]? =l.toArray[i]? :=by simp[List.getElem?_append_left hi]
  rw[e1];refine and_congr_right λ_=>exists_congr λx=>and_congr_right λhx=>forall_congr' λe=>forall_congr' λhe=>forall_congr' λhb=>?_;have dY:l[i]? =Z x:=by simpa using hx
  have H7:e.on<i:=by have:=h3 i hi;rw[dY]at this;simp only[lZ,Option.getD_some,lX,decide_eq_true_eq]at this;exact this _ (Zm.2 ⟨e,he,hb,rfl⟩)
  rw[Zz (by omega)]
 have se:∀(listed:Array Bool),listed.size=l.length->lC md l.toArray listed=[]->∀j<l.length,listed.getD j false=true:=by
  intro listed hs hr j
  induction j using Nat.strongRecOn with
  | _ j ih=>
   intro hj
   cases hd:listed.getD j false with
   | true=>rfl
   | false=>
    exfalso;have:j∈lC md l.toArray listed:=by
     refine mem_ready.2 ⟨?_,l[j],by simp[hj],λe he hb=>?_⟩
     ·have xg:j<listed.size:=(by omega);simp[lK,xg]at hd ⊢;exact hd
     ·have hx:=h3 j hj;rw[List.getElem?_eq_getElem hj]at hx;simp only[lZ,Option.getD_some,lX,decide_eq_true_eq]at hx;have:=hx _ (Zm.2 ⟨e,he,hb,rfl⟩);exact ih _ this (by omega)
    rw[hr]at this;cases this
 have hwO:∀(listed:Array Bool)(i:Nat)(K:Act->aA->Prop)(Q':Exit->Act->aA->Prop)(a:Act)(w:aA),i<l.length->wpOp P l.toArray Q' i K a w->wpOp P (l++[o]).toArray Q' i K a w:=by
  intro listed i K Q' a w hi h;unfold wpOp at *;have e1:((l++[o]).toArray)[i]? =l.toArray[i]? :=by simp[List.getElem?_append_left hi]
  rw[e1];have e2:l.toArray[i]? =Z l[i]:=by simp[hi]
  rw[e2]at h ⊢;have hg:(l[i]).guard=Y:=h4 _ (List.getElem_mem hi);simpa only [lI,hg,if_true]using h
 have hQ:∀(i:Nat)(K:Act->aA->Prop)(a:Act)(w:aA),wpOp P (l++[o]).toArray (Jdz P (l++[o]).toArray o Q) i K a w->wpOp P (l++[o]).toArray Q i K a w:=by
  intro i K a w h;unfold wpOp at *
  split at h
  ·exact h
  ·rename_i x hx
   split at h
   ·rename_i hw;rw[if_pos hw]
    rcases h with h|⟨h,hl⟩
    ·refine .inl ?_;unfold Oper.wp at *;generalize (execOp a.eval x).run P w=r at *
     cases r with
     | ok nx w'=>
      cases nx<;>simp only[Oper.upon]at h ⊢<;>first|exact h|exact Calls.mono h (λe w'' he=>by cases e<;>exact he)
     | halt y w'=>cases y<;>simp only[Oper.upon]at h ⊢<;>exact h
    ·exact .inr ⟨h,hl⟩
   ·rename_i hw;rw[if_neg hw];exact h
 have hk:∀(listed:Array Bool),listed.size=l.length->∀i∈lC md (l++[o]).toArray (listed.push false),i<l.length\/i=l.length:=by intro listed hs i hi;obtain⟨_,x,hx,_⟩:=mem_ready.1 hi;have:=(lF.1 hx).1;simp at this;omega
 have ed:∀(fuel:Nat)(listed:Array Bool)(a:Act)(w:aA),listed.size=l.length->(∀j<l.length,listed.getD j false=true)->wpList P (l++[o]).toArray Q [o] a w->wpAny P md (l++[o]).toArray Q (fuel+1) (listed.push false) a w:=by
  intro fuel listed a w hs xj h;have hkr:l.length∈lC md (l++[o]).toArray (listed.push false):=by
   refine mem_ready.2 ⟨?_,o,by simp,λe he hb=>?_⟩
   ·simp[lK,<-hs]
   ·have:=h2 _ (Zm.2 ⟨e,he,hb,rfl⟩);rw[Zz (by omega)];exact xj _ this
  have ef:∀i∈lC md (l++[o]).toArray (listed.push false),i=l.length:=by
   intro i hi
   rcases hk listed hs i hi with H7|he
   ·have h0:=(mem_ready.1 hi).1;rw[Zz (by omega)]at h0;have:=xj i H7;have xg:i<listed.size:=(by omega);simp[lK,xg]at h0 this;rw[h0]at this;cases this
   ·exact he
  refine⟨λh0=>(by rw[h0]at hkr;cases hkr),λi hi=>?_⟩;have:=ef i hi;subst this;have eg:∀(f:Nat)(a:Act)(w:aA),Q .normal a w->wpAny P md (l++[o]).toArray Q f ((listed.push false).setIfInBounds l.length true) a w:=by
   intro f a w hq;have mF:lC md (l++[o]).toArray ((listed.push false).setIfInBounds l.length true)=[]:=by
    cases hr:lC md (l++[o]).toArray ((listed.push false).setIfInBounds l.length true) with
    | nil=>rfl
    | cons i t=>
     exfalso;have yW:i∈lC md (l++[o]).toArray ((listed.push false).setIfInBounds l.length true):=(by rw[hr];exact lT);obtain⟨h0,x,hx,_⟩:=mem_ready.1 yW;have H7:=(lF.1 hx).1;simp at H7
     by_cases xY:i=l.length
     ·subst xY;simp[lK,<-hs]at h0
     ·rw[getD_set_ne true (λe=>xY e.symm),Zz (by omega)]at h0;have:=xj i (by omega);have xg:i<listed.size:=(by omega);simp[lK,xg]at h0 this;rw[h0]at this;cases this
   cases f with
   | zero=>exact⟨mF,hq⟩
   | succ f=>exact⟨λ_=>hq,by rw[mF];intro i hi;cases hi⟩
  unfold wpOp;have e2:((l++[o]).toArray)[l.length]? =Z o:=by simp
  rw[e2];simp only[wpList]at h;simp only[lI,h5,if_true]at h ⊢
  rcases h with h|h
  ·exact .inl (Oper.wp_mono (λa w hq=>eg fuel a w hq) h)
  ·exact .inr h
 intro fuel
 induction fuel with
 | zero=>
  intro listed a w hs hc h;exact ed 0 listed a w hs (se listed hs h.1) h.2
 | succ fuel ih=>
  intro listed a w hs hc h
  by_cases Hl:lC md l.toArray listed=[]
  ·exact ed (fuel+1) listed a w hs (se listed hs Hl) (h.1 Hl)
  ·refine⟨λh0=>?_,λi hi=>?_⟩
   ·exfalso
    cases hr:lC md l.toArray listed with
    | nil=>exact Hl hr
    | cons j t=>
     have hj:j∈lC md l.toArray listed:=(by rw[hr];exact lT);have H7:j<l.length:=(by obtain⟨_,x,hx,_⟩:=mem_ready.1 hj;simpa using (lF.1 hx).1);have:=(yO listed hs j H7).2 hj;rw[h0]at this;cases this
   ·rcases hk listed hs i hi with H7|he
    ·have yW:=(yO listed hs i H7).1 hi;have hw:=h.2 i yW;have jg:(listed.push false).setIfInBounds i true=(listed.setIfInBounds i true).push false:=by
      apply Array.ext_getElem?;intro j;simp only[Array.getElem?_setIfInBounds,Array.getElem?_push,Array.size_setIfInBounds,Array.size_push]
      by_cases pW:i=j
      ·subst pW;simp[hs,H7,Nat.lt_succ_of_lt H7,Nat.ne_of_lt H7]
      ·simp[pW]
     have hc':JjD md l (listed.setIfInBounds i true):=by
      intro m x hx hm j hj
      by_cases pX:m=i
      ·subst pX;obtain⟨_,x',dY,xj⟩:=mem_ready.1 yW;have:x'=x:=by
        have:l[m]? =Z x':=(by simpa using dY);rw[hx]at this;exact(Option.some.inj this).symm
       subst this;obtain⟨e,he,hb,rfl⟩:=Zm.1 hj;exact getD_set_true (xj e he hb)
      ·rw[getD_set_ne false (λe=>pX e.symm)]at hm;exact getD_set_true (hc m x hx hm j hj)
     refine hQ i _ a w (hwO listed i _ _ a w H7 (wpOp_mono (λa' w' h'=>?_) hw));rw[jg];exact ih _ a' w' (by simp[hs]) hc' h'
    ·subst he;have:=q8 listed hs hc hi;exfalso;apply Hl
     cases hr:lC md l.toArray listed with
     | nil=>rfl
     | cons j t=>
      have hj:j∈lC md l.toArray listed:=(by rw[hr];exact lT);obtain⟨h0,x,hx,_⟩:=mem_ready.1 hj;have H7:j<l.length:=(by simpa using (lF.1 hx).1);have h':=this j H7;have xg:j<listed.size:=(by omega);simp[lK,xg]at h0 h';rw[h0]at h';cases h'
theorem YP(n:Nat):(lJ n false).push false=lJ (n+1) false:=by rw[Array.replicate_succ]

variable {S:aA->Prop}
theorem Xm{id:Nat}{a:Act}{w:aA}{aS:List Oper}(n:Nat)(Hl:aS ≠ [])(hm:P.follows .mixedOrders=true)(hB:Jfr .any aS.dropLast (aS.getLast Hl) n=true)(hS:S w.drew)
  (h:S w.drew->∀l o,aS.dropLast=l->aS.getLast Hl=o->wpAnyH P .any l.toArray (Jdz P aS.toArray o Q) S l.length (lJ l.length false) a w.drew):(Code.region id aS.toArray true).wp P Q a w:=by
 refine wp_region_any hm ?_;have e:aS=aS.dropLast++[aS.getLast Hl]:=(List.dropLast_concat_getLast Hl).symm;have h1:=wpAny_of_held _ _ _ _ (h hS _ _ rfl rfl);have h2:=JaG (Q:=Q) hB aS.dropLast.length (lJ aS.dropLast.length false) a w.drew (by simp) (λi o _ hi=>by simp[lK]at hi) (by rw[<-e];exact h1);rw[<-e,YP]at h2;have hl:aS.dropLast.length+1=aS.toArray.size:=by have:=congrArg List.length e;simpa using this.symm
 rw[hl]at h2;exact h2
theorem Ja8{l:List Oper}{md:lH}{i:Nat}{oi:Oper}{v:aG}{fuel:Nat}{listed:Array Bool}{a:Act}{w:aA}(hi:l[i]? =Z oi)
  (hs:Region.noSelect l.toArray=true) (hf:Region.free md l.toArray listed i=true) (hr:(lC md l.toArray listed).contains i=true)
  (hQ:∀c a w,Q (.panic c) (a.put oi.dst v) w->Q (.panic c) a w) (hg:oi.guard=Y) (hy:∀w,S w->(execOp a.eval oi).run P w=.ok (.value v) w) (hS:S w)
  (h:wpAnyH P md l.toArray Q S fuel (listed.setIfInBounds i true) (a.put oi.dst v) w):wpAnyH P md l.toArray Q S (fuel+1) listed a w:=
 wpAnyH_take (by simpa using hi) hs hf hr hQ (.inl ⟨by simp[lI,hg],hy⟩) hS h
theorem tkL{l:List Oper}{md:lH}(i:Nat){oi:Oper}{v:aG}{fuel:Nat}{listed:Array Bool}{a:Act}{w:aA}(h:wpAnyH P md l.toArray Q S fuel (listed.setIfInBounds i true) (a.put oi.dst v) w)(hi:l[i]? =Z oi:=by rfl)(hs:Region.noSelect l.toArray=true:=by kernel_rfl)(hf:Region.free md l.toArray listed i=true:=by kernel_rfl)(hr:(lC md l.toArray listed).contains i=true:=by kernel_rfl)
  (hQ:∀c a w,Q (.panic c) (a.put oi.dst v) w->Q (.panic c) a w:=by exact λ_ _ _ h=>h) (hg:oi.guard=Y:=by rfl) (hy:∀w,S w->(execOp a.eval oi).run P w=.ok (.value v) w:=by intro W yD;(try dsimp only at yD);go_simp;(try with_reducible rfl)) (hS:S w:=by first|assumption|trivial):wpAnyH P md l.toArray Q S (fuel+1) listed a w:=Ja8 hi hs hf hr hQ hg hy hS h
theorem JaK{l:List Oper}{md:lH}{i:Nat}{oi:Oper}{fuel:Nat}{listed:Array Bool}{a:Act}{w:aA}(hi:l[i]? =Z oi)(hr:lC md l.toArray listed=[i])
  (h:∀K:Act->aA->Prop,Shut (∀a w,S w->(S w->wpAnyH P md l.toArray Q S fuel (listed.setIfInBounds i true) a w)->K a w)->if lI oi (yielded l.toArray a.tmps)=true then Oper.wp P oi a w K Q else K (a.put oi.dst undef) w):wpAnyH P md l.toArray Q S (fuel+1) listed a w:=
 wpAnyH_ready hr (by simp) (AllReadyH.cons (o:=oi) (by simpa using hi) h AllReadyH.nil)
end

section
variable {P:Program}{md:lH}{Q:Exit->Act->aA->Prop}{l n:Nat}
theorem JjX{o:Oper}{a:Act}{w:aA}{K K':Act->aA->Prop}(j9:∀c,o.op ≠ .defer c)(hK:∀a w,K a w->K' a w)(h:Oper.wp P o a w K Q):Oper.wpIn (Fence.wide.inRound l) n P o a w K' Q:=by
 unfold Oper.wpIn;refine⟨λ_ _=>trivial,?_⟩;rw[Fence.inRound_round,Oper.semAt_some l _ _ j9];unfold Oper.wp at h;generalize (execOp a.eval o).run P w=r at *
 cases r with
 | ok x w'=>
  cases x with
  | enter f args=>
   refine⟨λh=>by simp[Fence.wide]at h,callsIn_wide.2 (Calls.mono h ?_)⟩;intro e w2 h2
   cases e with
   | returned v=>exact hK _ _ h2
   | panicked c=>exact h2
   | outgrown=>exact h2
  | row r args=>
   refine⟨λh=>by simp[Fence.wide]at h,λc cs _=>?_⟩;obtain⟨v,w2,h2,h3⟩:=h c cs;exact⟨v,w2,hK _ _ h2,stepsIn_wide.2 h3⟩
  | value v=>exact hK _ _ h
  | skip=>exact hK _ _ h
  | defer d=>exact hK _ _ h
  | round _ _ _ _ _=>exact h.elim
  | _=>exact h.elim
 | halt hl w'=>
  cases hl with
  | panic v=>exact h
  | _=>exact h.elim
theorem JpF{ops:Array Oper}(j9:∀(i:Nat) o,ops[i]? =Z o->∀c,o.op ≠ .defer c)(hQ:¬LetsOut Q):∀(fuel:Nat)(listed:Array Bool)(a:Act)(w:aA),wpAny P md ops Q fuel listed a w->wpAnyIn (Fence.wide.inRound l) n P md ops Q fuel listed a w:=by
 intro fuel
 induction fuel with
 | zero=>intro listed a w h;exact h
 | succ fuel ih=>
  intro listed a w h;refine⟨h.1,λi hi=>?_⟩;have h2:=h.2 i hi;unfold wpOp at h2;unfold wpOpIn
  cases ho:ops[i]? with
  | none=>rw[ho]at h2;exact ih _ _ _ h2
  | some o=>
   rw[ho]at h2;dsimp only at h2 ⊢
   split
   ·rename_i hw;rw[if_pos hw]at h2
    rcases h2 with h2|h2
    ·exact JjX (j9 i o ho) (ih _) h2
    ·exact absurd h2.2 hQ
   ·rename_i hw;rw[if_neg hw]at h2;exact⟨λ_ _=>trivial,ih _ _ _ h2⟩
variable {S:aA->Prop}
theorem YZ{id:Nat}{a:Act}{w:aA}{aS:List Oper}(m:Nat)(Hl:aS ≠ [])(hm:P.follows .mixedOrders=true)(hB:Jfr .any aS.dropLast (aS.getLast Hl) m=true)(j9:∀o∈aS,∀c,o.op ≠ .defer c)(hQ:¬LetsOut Q)(hS:S w.drew)
  (h:S w.drew->∀l o,aS.dropLast=l->aS.getLast Hl=o->wpAnyH P .any l.toArray (Jdz P aS.toArray o Q) S l.length (lJ l.length false) a w.drew):(Code.region id aS.toArray true).wpIn (Fence.wide.inRound l) n P Q a w:=by
 refine wpIn_region_any hm (JpF (λi o ho=>j9 o (List.mem_of_getElem? (by simpa using ho))) hQ _ _ _ _ ?_);have e:aS=aS.dropLast++[aS.getLast Hl]:=(List.dropLast_concat_getLast Hl).symm;have h1:=wpAny_of_held _ _ _ _ (h hS _ _ rfl rfl);have h2:=JaG (Q:=Q) hB aS.dropLast.length (lJ aS.dropLast.length false) a w.drew (by simp) (λi o _ hi=>by simp[lK]at hi) (by rw[<-e];exact h1);rw[<-e,YP]at h2;have hl:aS.dropLast.length+1=aS.toArray.size:=by have:=congrArg List.length e;simpa using this.symm
 rw[hl]at h2;exact h2
end

attribute [local go_sem] Oper.semAt_some

def Jp{w:aA}{k:Key}(l:List (Yf w k)):List Stp:=l.filterMap λy=>match y.1.2 with | .inl _=>Y | .inr s=>Z s
def JC(v:aG)(m:Bool)(kb:BA)(a o:Nat):Array aG:= #[v,aL m,L kb,O aD (a:Int),O aE (o:Int)]
def WayV(base:Nat)(w:aA)(wy:Wy)(e:Ending):Prop:=∃v,e=aC (aH (JC v wy.2.isSome (ji wy) (gE wy).1 (gE wy).2))/\POwn base w v wy.1
theorem JkK:(prog.info? 366).map (λi=>(i.zero,i.size,i.bytes))=Z (Z (aH #[O I 0,L ⟨#[]⟩]),2,24):=by kernel_rfl
theorem Jdn{P:Program}{ops:Array Oper}{o:Oper}{a:Act}{w w':aA}{K:Act->aA->Prop}{Q:Exit->Act->aA->Prop}{E:Prop}{v xv v':aG}(jz:o.guard=Y)(s x:Operand)(aY:TypeId)(ho:o.op=.call { callee:=.builtin .append,args:= #[s,x],argTypes:= #[aY,aY] })
  (hv:a.eval s=v) (hx:a.eval x=xv) (hr:(Builtin.append_ #[aY,aY] o.type #[v,xv]).run P w=.ok v' w') (hK:K (a.put o.dst v') w'):if lI o (yielded ops a.tmps)=true then Oper.wp P o a w K Q else E:=by
 have hw:lI o (yielded ops a.tmps)=true:=by simp[lI,jz]
 rw[if_pos hw];unfold Oper.wp;simp[execOp,ho,resolve,invoke,builtin,hv,hx,hr,Result.andThen];exact hK
structure WayI(w:aA)(k:Key)(H4:List (Yf w k))(W:aA):Prop where
 below:Below w.heap.size w W
 brs:∀y∈H4,∃s,y.1.2=.inr s
 row:∃v,W.heap[w.heap.size+3]? =Z (T (JC v false ⟨#[]⟩ 0 0) 258)/\POwn w.heap.size W v (Jp H4)
 key:W.heap[w.heap.size+1]? =Z (T #[L ⟨k.toArray⟩] 9)
 cap:W.heap[w.heap.size+5]? =Z (T #[L ⟨k.toArray⟩] 9)
 res:W.heap[w.heap.size+2]? =Z (T (JC (R Y 0 0) false ⟨#[]⟩ 0 0) 258)
structure WayX(w:aA)(k:Key)(H4:List (Yf w k))(W:aA):Prop where
 below:Below w.heap.size w W
 row:∃q y v x,H4=q++[y]/\y.1.2=.inl x/\(∀y∈q,∃s,y.1.2=.inr s)/\W.heap[w.heap.size+3]? =Z (T (JC v true ⟨x.1.toArray⟩ x.2.1 x.2.2) 258)/\POwn w.heap.size W v (Jp q)
 res:W.heap[w.heap.size+2]? =Z (T (JC (R Y 0 0) false ⟨#[]⟩ 0 0) 258)
theorem WayI.own{w:aA}{k:Key}{B:Nat}(hB:w.heap.size+4<=B):OwnFrom B (WayI w k):=by
 intro s W W' row h hg hr;have kS:∀r,row=Z r->∃o:Obj,W.heap[r]? =Z o/\o.isCells=false:=λr e=>(hr r e).2;obtain⟨v,h1,h2⟩:=h.row;exact⟨ownFrom_below (β:=List (Yf w k)) (w₀:=w) (n₀:=w.heap.size) (B:=B) (Ql _) (by omega) s W W' row h.below hg hr,h.brs,⟨v,Ju h1 hg kS,h2.kept hg kS⟩,Ju h.key hg kS,Ju h.cap hg kS,Ju h.res hg kS⟩
theorem WayX.own{w:aA}{k:Key}{B:Nat}(hB:w.heap.size+4<=B):OwnFrom B (WayX w k):=by
 intro s W W' row h hg hr;have kS:∀r,row=Z r->∃o:Obj,W.heap[r]? =Z o/\o.isCells=false:=λr e=>(hr r e).2;obtain⟨q,y,v,x,e1,e2,e3,h1,h2⟩:=h.row;exact⟨ownFrom_below (β:=List (Yf w k)) (w₀:=w) (n₀:=w.heap.size) (B:=B) (Ql _) (by omega) s W W' row h.below hg hr,⟨q,y,v,x,e1,e2,e3,Ju h1 hg kS,h2.kept hg kS⟩,Ju h.res hg kS⟩
theorem JeG{w:aA}{k:Key}(l m:List (Yf w k)):Jp (l++m)=Jp l++Jp m:=by simp[Jp]
theorem Jh8{w:aA}{k:Key}(l:List (Yf w k)):(Jp l).length<=l.length:=List.length_filterMap_le _ _
theorem Jh9{w:aA}{k:Key}{y:Yf w k}{s:Stp}(h:y.1.2=.inr s):Jp [y]=[s]:=by simp[Jp,h]
theorem WayI.add{w W w3:aA}{k:Key}{H4:List (Yf w k)}{v v':aG}{y:Yf w k}{s:Stp}(HI:WayI w k H4 W)(jj:POwn w.heap.size W v (Jp H4))(hT:M (λj=>Z j=v.ownBlock) W w3)(qT:POwn w.heap.size w3 v' (Jp H4++[s]))(hZ:w3.heap[w.heap.size+3]? =Z (T (JC v false ⟨#[]⟩ 0 0) 258))(hy:y.1.2=.inr s):
  KeepsOthers W (w3.setCell ⟨w.heap.size+3,0,Y⟩ v')/\JgK w.heap.size (w.heap.size+5) W (w3.setCell ⟨w.heap.size+3,0,Y⟩ v')/\WayI w k (H4++[y]) (w3.setCell ⟨w.heap.size+3,0,Y⟩ v'):=by
 have jg:w3.setCell ⟨w.heap.size+3,0,Y⟩ v'=w3.setRow (w.heap.size+3) (JC v' false ⟨#[]⟩ 0 0):=Qj w3 (w.heap.size+3) 0 _ _ (0,0) v' hZ;rw[jg];obtain⟨v0,rg,_⟩:=HI.row;have xD:M (λj=>Z j=v.ownBlock\/j=w.heap.size+3) W (w3.setRow (w.heap.size+3) (JC v' false ⟨#[]⟩ 0 0)):=(hT.mono (λ_ h=>.inl (.inl h))).trans (Ts _ _ _) (λ_ h=>.inl (.inr h));have ky:∀{j:Nat} {cs:Array aG} {aY:TypeId},aY ≠ 366->j ≠ w.heap.size+3->W.heap[j]? =Z (T cs aY)->_:=λHl hj h=>(xD.block _ (Jb h) (λe=>by
  rcases e with e|e
  ·obtain⟨_,cs,m,hc⟩:=jj.own _ e.symm;rw[h]at hc;simp only[Qh,lV.injEq]at hc;exact Hl hc.2.1
  ·exact hj e)).trans h
 have hz:=HI.below.size;have jA:∀j,(Z j=v.ownBlock\/j=w.heap.size+3)->w.heap.size<=j:=λj e=>by
  rcases e with e|e
  ·exact(jj.own _ e.symm).1
  ·omega
 have hB:=xD.below hz jA;have yy:=ky (by decide) (by omega) HI.cap;refine⟨Jbf xD (λj e=>?_),⟨hB,λu hu=>?_⟩,HI.below.trans hB,?_,⟨v',Qi _ _ _ _ _ _ hZ,?_⟩,ky (by decide) (by omega) HI.key,yy,ky (by decide) (by omega) HI.res⟩
 ·rcases e with e|e
  ·obtain⟨_,cs,m,hc⟩:=jj.own _ e.symm;exact⟨cs,_,m,hc⟩
  ·exact⟨_,_,_,by rw[e];exact rg⟩
 ·rw[Ja HI.cap]at hu;rw[Ja yy];exact hu
 ·intro z hz
  rcases QE.1 hz with hz|hz
  ·exact HI.brs z hz
  ·simp only[Qt]at hz;exact⟨s,by rw[hz];exact hy⟩
 ·rw[JeG,Jh9 hy];refine qT.tch (Ts _ _ _) (λj hj e=>?_);obtain⟨_,cs,m,hc⟩:=qT.own _ hj;rw[e,hZ]at hc;simp only[Qh,lV.injEq]at hc;exact absurd hc.2.1 (by decide)
theorem WayI.leaf{w W:aA}{k:Key}{H4:List (Yf w k)}{y:Yf w k}{x:KO}(HI:WayI w k H4 W){v:aG}(hZ:W.heap[w.heap.size+3]? =Z (T (JC v false ⟨#[]⟩ 0 0) 258))(jj:POwn w.heap.size W v (Jp H4))(hy:y.1.2=.inl x)(n:Nat):
  KeepsOthers W ((W.drewN n).setRow (w.heap.size+3) (JC v true ⟨x.1.toArray⟩ x.2.1 x.2.2))/\JgK w.heap.size (w.heap.size+5) W ((W.drewN n).setRow (w.heap.size+3) (JC v true ⟨x.1.toArray⟩ x.2.1 x.2.2))/\WayX w k (H4++[y]) ((W.drewN n).setRow (w.heap.size+3) (JC v true ⟨x.1.toArray⟩ x.2.1 x.2.2)):=by
 have xD:M (λj=>j=w.heap.size+3) W ((W.drewN n).setRow (w.heap.size+3) (JC v true ⟨x.1.toArray⟩ x.2.1 x.2.2)):=(Td _ W n).trans (Ts _ _ _) (λ_ h=>.inl h);have hz:=HI.below.size;have hB:=xD.below hz (λj e=>by omega);have ky:∀{j:Nat} {o:Obj},j ≠ w.heap.size+3->W.heap[j]? =Z o->_:=λhj h=>(xD.block _ (Jb h) hj).trans h;have yy:=ky (by omega) HI.cap;refine⟨Jbf xD (λj e=>by subst e;exact⟨_,_,_,hZ⟩),⟨hB,λu hu=>?_⟩,HI.below.trans hB,⟨H4,y,v,x,rfl,hy,HI.brs,Qi _ _ _ _ _ _ (show (W.drewN n).heap[w.heap.size+3]? =_ from hZ),?_⟩,ky (by omega) HI.res⟩
 ·rw[Ja HI.cap]at hu;rw[Ja yy];exact hu
 ·refine jj.tch xD (λj hj e=>?_);obtain⟨_,cs,m,hc⟩:=jj.own _ hj;rw[e,hZ]at hc;simp only[Qh,lV.injEq]at hc;exact absurd hc.2.1 (by decide)
theorem Jkb{α β:Type}{x x':α}:∀(Q A:List β)(aW:List (α ⊕ β)),Q.map Sum.inr++(Sum.inl x::aW)=A.map Sum.inr++[Sum.inl x']->Q=A/\x=x'
 | [],[],aW,h=>by simp at h;exact⟨rfl,h.1⟩
 | [],a::A,aW,h=>by simp at h
 | q::Q,[],aW,h=>by simp at h
 | q::Q,a::A,aW,h=>by
  simp only[lW,lY,QH,Sum.inr.injEq]at h;obtain⟨h1,h2⟩:=Jkb Q A aW h.2;exact⟨by rw[h.1,h1],h2⟩
theorem Jdd{w:aA}{k:Key}:∀(q:List (Yf w k)),(∀z∈q,∃s,z.1.2=.inr s)->q.map (·.1.2)=(Jp q).map Sum.inr
 | [],_=>rfl
 | z::q,h=>by
  obtain⟨s,hs⟩:=h z (by simp);have ih:=Jdd q (λy hy=>h y (by simp[hy]));rw[show Jp (z::q)=s::Jp q by simp[Jp,hs],lW,lW,ih,hs]
theorem Jpf{w:aA}{k:Key}{ds H4 q:List (Yf w k)}{y:Yf w k}{x:KO}{wy:Wy}(hp:H4 <+:ds)(e1:H4=q++[y])(e2:y.1.2=.inl x)(e3:∀z∈q,∃s,z.1.2=.inr s)
  (h:(ds=[]/\wy=([],Y))\/ds.map (·.1.2)=wy.1.map .inr++(wy.2.toList.map .inl)/\wy.2 ≠ Y):wy=(Jp q,Z x):=by
 obtain⟨r,hr⟩:=hp
 rcases h with⟨h,_⟩|⟨h,hn⟩
 ·rw[h,e1]at hr;simp at hr
 ·obtain⟨A,e⟩:=wy
  cases e with
  | none=>exact absurd rfl hn
  | some x'=>
   rw[<-hr,e1,List.map_append,List.map_append,Jdd q e3]at h;simp only[lW,List.map_nil,e2,Qs,lY,List.nil_append,Option.toList_some]at h;obtain⟨h1,h2⟩:=Jkb _ _ _ h;rw[h1,h2]
theorem Jik(wj:Int)(q:Option Nat)(k:Key)(qL:1<=k.length)(gS:k.length<=1000000)(w:aA)(ds:List (Yf w k))(hdl:ds.length<=1000000)(hL:Way w.heap.size k w q (ds.map (·.1.1)))(wy:Wy)(Hl:ds=[]↔q=Y)(tO:(ds=[]/\wy=([],Y))\/ds.map (·.1.2)=wy.1.map .inr++(wy.2.toList.map .inl)/\wy.2 ≠ Y):
  CallsIn Fence.wide 5 N 147 #[aH #[O I wj,Jl q],L ⟨k.toArray⟩] w λe W'=>WayV w.heap.size W' wy e/\Below w.heap.size w W':=by
 have h1:1<=5:=by omega
 have yJ:Fence.wide.round=Y:=rfl;have HL:J _:=hL;have ym:J _:=Hl;have uD:J _:=tO;clear hL Hl tO;obtain⟨rv,kE⟩:∃rv,rv=(q.map λn=>(⟨n,0,Y⟩:Addr)):=⟨_,rfl⟩
 have jy:J (Jl q=X rv):=by rw[kE];rfl
 rw[jy.o];clear kE;refine callsIn_of_wp_marks func147 rfl trivial ?_ yJ;simp only[ntmps147,lO,Qp,Qv,Nat.reduceAdd,Nat.reduceSub,Array.replicate_succ,Array.replicate_zero,List.push_toArray,List.append_toArray,List.nil_append,lY];gi_wp2;refine⟨trivial,(callsIn_wide.2 (callsIn_wide.1 (JjL _ _ _ _))).mono ?_⟩;rintro _ _⟨rfl,rfl⟩;gi_wp2;obtain⟨WD,jd⟩:∃WD,WD=(((((w.alloc (T #[O I wj,X rv] 146)).alloc (T #[L ⟨k.toArray⟩] 9)).alloc (T #[R Y 0 0,aL false,L ⟨#[]⟩,O aD 0,O aE 0] 258)).alloc (T #[R Y 0 0,aL false,L ⟨#[]⟩,O aD 0,O aE 0] 258)).alloc (T #[O I wj,X rv] 146)).alloc (T #[L ⟨k.toArray⟩] 9):=⟨_,rfl⟩
 rw[<-jd];have qr:Below w.heap.size w WD:=by rw[jd];exact((((((Below.refl _ w).alloc (Ql _) _).alloc (by simp) _).alloc (by simp;omega) _).alloc (by simp;omega) _).alloc (by simp;omega) _).alloc (by simp;omega) _
 have hz:WD.heap.size=w.heap.size+6:=by rw[jd];simp
 have jT:∀(V:aA)(o:Obj)(j:Nat)(x:Obj),V.heap[j]? =Z x->_:=λV o j x h=>(Below.heap_alloc V o j (Jb h)).trans h;have qU:∀(V:aA)(o:Obj)(j:Nat),V.heap.size=j->(V.alloc o).heap[j]? =Z o:=λV o j h=>by subst h;exact Qf V o
 have r1:WD.heap[w.heap.size+1]? =Z (T #[L ⟨k.toArray⟩] 9):=by rw[jd];exact jT _ _ _ _ (jT _ _ _ _ (jT _ _ _ _ (jT _ _ _ _ (qU _ _ _ (by simp)))))
 have r2:WD.heap[w.heap.size+2]? =Z (T #[R Y 0 0,aL false,L ⟨#[]⟩,O aD 0,O aE 0] 258):=by rw[jd];exact jT _ _ _ _ (jT _ _ _ _ (jT _ _ _ _ (qU _ _ _ (by simp))))
 have r3:WD.heap[w.heap.size+3]? =Z (T #[R Y 0 0,aL false,L ⟨#[]⟩,O aD 0,O aE 0] 258):=by rw[jd];exact jT _ _ _ _ (jT _ _ _ _ (qU _ _ _ (by simp)))
 have r4:WD.heap[w.heap.size+4]? =Z (T #[O I wj,X rv] 146):=by rw[jd];exact jT _ _ _ _ (qU _ _ _ (by simp))
 have r5:WD.heap[w.heap.size+5]? =Z (T #[L ⟨k.toArray⟩] 9):=by rw[jd];exact qU _ _ _ (by simp)
 have pD:WayI w k [] WD:=⟨qr,λy hy=>(by cases hy),⟨R Y 0 0,r3,POwn.nil _ _⟩,r1,r5,r2⟩
 clear jT qU;refine wpIn_rangeFunc_ownF yJ h1 (gf:=295) (lb:= #[X (Z ⟨w.heap.size+1+1+1+1,0,Y⟩),X (Z ⟨w.heap.size+1+1+1+1+1,0,Y⟩)]) rfl trivial (enters_of func295 (by kernel_rfl) rfl)
  (Jf6 4 (by omega) (w.heap.size+1+1+1+1) (w.heap.size+1+1+1+1+1) w.heap.size k qL gS q w ds WD (by omega) (by omega) (by omega) (by rw[jy.o];exact Ja r4) (Ja r5) (Way.below qr HL)) (λh k=>⟨h.1.trans k.1,λv hv=>k.2 v (h.2 v hv)⟩)
  (λW l o o' hl ho hc zD=>⟨belowK_b (w:=w) (Ql _) W l o o' (by omega) ho hc zD,λv hv=>cell_kept hv (grownBy_putObj' _ l o') (λr e=>by cases e;exact⟨o,ho,hc⟩)⟩) (Below.refl _ _) (λ_=>rfl)
  (WayI w k) (λc H4 W=>c=.exit 0/\WayX w k H4 W) (WayI.own (by omega)) (λc=>λs W W' row h hg hr=>⟨h.1,WayX.own (by omega) s W W' row h.2 hg hr⟩) pD
  (λx=>{ tmps:= #[aH #[O I wj,X rv],L ⟨k.toArray⟩,X (Z ⟨w.heap.size,0,Y⟩),X (Z ⟨w.heap.size+1,0,Y⟩),X (Z ⟨w.heap.size+1+1,0,Y⟩),X (Z ⟨w.heap.size+1+1+1,0,Y⟩),X (Z ⟨x.1.1,0,Y⟩),aH #[O I wj,X rv],L ⟨k.toArray⟩,.func (.func 295) #[] #[X (Z ⟨w.heap.size+1+1+1+1,0,Y⟩),X (Z ⟨w.heap.size+1+1+1+1+1,0,Y⟩)],X (Z ⟨x.1.1,0,Y⟩),undef,undef,undef,undef,undef,undef,undef,undef,undef,undef,undef,undef,undef,undef,undef,undef,undef,undef,undef,undef,undef,undef,undef,undef,undef,undef,undef,undef,undef,undef],defers:=[] }) ?assign ?body ?done ?stop
 case assign=>intro l x W K hK;gi_wp2;exact hK
 case body=>
  clear r1 r2 r3 r4 r5 qr pD HL ym uD;rintro l H4 y W hI qq;obtain⟨x,dsc,hyx⟩:∃x dsc,y.1=(x,dsc):=⟨_,_,rfl⟩
  have hx:=y.2;rw[hyx]at hx;have pt:y.1.1=x:=by rw[hyx]
  rw[pt];clear pt;obtain⟨v,hZ,jj⟩:=hI.row;have c0:=rows hZ
  cases dsc with
  | inl kd=>
   obtain⟨k',oa,oo⟩:=kd;obtain⟨dg,hlr⟩:=hx;have zp:=(Jb hlr)
   have sg:=(hI.below.block x zp).trans hlr;have xY:=JaT x dg k' (oa,oo) W sg;have HI:J _:=hI;have gL:J _:=hZ;have yP:J _:=jj;have dh:J (x ≠ w.heap.size+1+1+1):=(by omega:x ≠ w.heap.size+1+1+1)
   have s0:(λ(aX:aA)=>aX.cell? ⟨x,1,Y⟩=Z (L ⟨k'.toArray⟩)/\aX.cell? ⟨x,2,Y⟩=Z (O aD (oa:Int))/\aX.cell? ⟨x,3,Y⟩=Z (O aE (oo:Int))) W.drew:=⟨Ja sg,Ja sg,Ja sg⟩
   obtain⟨-,c1⟩:=rows (show W.drew.heap[w.heap.size+3]? =_ from hZ);have f1:W.drew.frozen? ⟨w.heap.size+1+1+1,1,Y⟩=false:=Qg _ _ _ _ _ (show W.drew.heap[w.heap.size+3]? =_ from hZ);clear hI hZ jj sg hlr c0 zp;generalize hKB':(⟨k'.toArray⟩:BA)=kb' at *;gi_wp2;refine⟨trivial,(CallsIn.inRound l (callsIn_wide.2 xY)).mono ?_⟩;rintro _ aX⟨rfl,hX⟩;rw[hX];clear xY hX aX;gi_wp2;have hmx:prog.follows .mixedOrders=true:=(by kernel_rfl);refine YZ (S:=(λ(aX:aA)=>aX.cell? ⟨x,1,Y⟩=Z (L kb')/\aX.cell? ⟨x,2,Y⟩=Z (O aD (oa:Int))/\aX.cell? ⟨x,3,Y⟩=Z (O aE (oo:Int)))) 17 (by simp) (by kernel_rfl) (by kernel_rfl) (by simp) ?hq s0 (λhHeld l0 o0 zm eh=>?_)
   case hq=>rintro⟨_,_,h⟩;exact h
   simp only[List.dropLast,List.getLast_cons_cons,List.getLast_singleton]at zm eh;subst zm;subst eh;refine tkL 0 ?_;simp only[lD,Qa,Qb,Qc];refine tkL 1 ?_;simp only[lD,Qa,Qb,Qc];refine tkL 2 ?_;simp only[lD,Qa,Qb,Qc];refine tkL 3 ?_;simp only[lD,Qa,Qb,Qc];refine tkL 4 ?_;simp only[lD,Qa,Qb,Qc];refine tkL 5 ?_;simp only[lD,Qa,Qb,Qc];refine tkL 6 ?_;simp only[lD,Qa,Qb,Qc];refine tkL 7 ?_;simp only[lD,Qa,Qb,Qc];refine tkL 8 ?_;simp only[lD,Qa,Qb,Qc];refine tkL 9 ?_;simp only[lD,Qa,Qb,Qc];refine JaK (i:=10) rfl (by kernel_rfl) (λK hK=>?_);go_simp;obtain⟨u0,u1,u2⟩:=s0;have s1:(λ(aX:aA)=>aX.cell? ⟨x,1,Y⟩=Z (L kb')/\aX.cell? ⟨x,2,Y⟩=Z (O aD (oa:Int))/\aX.cell? ⟨x,3,Y⟩=Z (O aE (oo:Int))) (W.drew.setCell ⟨w.heap.size+1+1+1,1,Y⟩ (aL true)):=⟨(lN _ _ _ _ (by have:=dh.o;simp)).trans u0,(lN _ _ _ _ (by have:=dh.o;simp)).trans u1,(lN _ _ _ _ (by have:=dh.o;simp)).trans u2⟩
   refine hK _ _ s1 (λsi=>?_);clear hK K hHeld
   try simp only[lD,Qa,Qb,Qc]
   refine tkL 11 ?_;simp only[lD,Qa,Qb,Qc];have mG:(W.setCell ⟨w.heap.size+1+1+1,1,Y⟩ (aL true)).drew=W.drew.setRow (w.heap.size+3) (JC v true ⟨#[]⟩ 0 0):=(congrArg World.drew (Qj W (w.heap.size+3) 1 _ _ (0,0) (aL true) gL)).trans rfl;rw[mG];have kK:(W.drew.setRow (w.heap.size+3) (JC v true ⟨#[]⟩ 0 0)).heap[w.heap.size+3]? =Z (T (JC v true ⟨#[]⟩ 0 0) 258):=Qi _ _ _ _ _ _ (show W.drew.heap[w.heap.size+3]? =_ from gL);have qR:J _:=kK;have g2:(W.drew.setRow (w.heap.size+3) (JC v true ⟨#[]⟩ 0 0)).cell? ⟨w.heap.size+1+1+1,2,Y⟩=Z (L ⟨#[]⟩):=Ja kK;have g3:(W.drew.setRow (w.heap.size+3) (JC v true ⟨#[]⟩ 0 0)).cell? ⟨w.heap.size+1+1+1,3,Y⟩=Z (O aD 0):=Ja kK;have g4:(W.drew.setRow (w.heap.size+3) (JC v true ⟨#[]⟩ 0 0)).cell? ⟨w.heap.size+1+1+1,4,Y⟩=Z (O aE 0):=Ja kK;have fg:∀j,(W.drew.setRow (w.heap.size+3) (JC v true ⟨#[]⟩ 0 0)).frozen? ⟨w.heap.size+1+1+1,j,Y⟩=false:=λj=>Qg _ _ _ _ _ kK;clear kK mG c1 f1 s1;obtain⟨W1,(di:J _)⟩:∃W1,W1=W.drew.setRow (w.heap.size+3) (JC v true ⟨#[]⟩ 0 0):=⟨_,rfl⟩
   rw[<-di]at g2 g3 g4 fg qR ⊢;refine wpAnyH_done (by kernel_rfl) ?_ _;show wpList _ _ _ [_] _ _;go_wp2;gi_wp2;subst hKB';have jg:((W1.setCell ⟨w.heap.size+1+1+1,2,Y⟩ (L ⟨k'.toArray⟩)).setCell ⟨w.heap.size+1+1+1,3,Y⟩ (O aD (oa:Int))).setCell ⟨w.heap.size+1+1+1,4,Y⟩ (O aE (oo:Int))=(W.drewN 1).setRow (w.heap.size+3) (JC v true ⟨k'.toArray⟩ oa oo):=by rw[Qj W1 (w.heap.size+3) 2 _ _ (0,0) _ qR.o,Qj _ (w.heap.size+3) 3 _ _ (0,0) _ (Qi _ _ _ _ _ _ qR.o),QI,Qj _ (w.heap.size+3) 4 _ _ (0,0) _ (Qi _ _ _ _ _ _ qR.o),QI,di.o,QI];rfl
   have ej:=HI.o.leaf (x:=(k',oa,oo)) gL yP (y:=y) (by rw[hyx]) 1;rw[jg];exact⟨ej.1,rfl,ej.2.2⟩
  | inr s=>
   obtain⟨b,od⟩:=s;obtain⟨dg,nl,nr,cs,hbr,tu,hor,hod⟩:=hx;have uk:=(hI.below.block x (Jb hbr)).trans hbr;have dj:=(hI.below.block _ (Jb hor)).trans hor;have xY:=Jbe x dg b nl nr W uk;obtain⟨va,vc,kG⟩:=jj.shape;subst kG;have hzW:=hI.below.size;have HBES:J (∀aX,M D W aX->aB N 225 #[X (Z ⟨x,0,Y⟩),L ⟨k.toArray⟩] aX λe w'=>e=aC (X (Z ⟨if bt k b=0 then nr else nl,0,Y⟩))/\M D W w'):=λaX hT=>(Jiu x dg b nl nr k tu gS aX ((hT.block x (Jb uk) (λh=>h)).trans uk)).mono λe w' ⟨h1,m,h2⟩=>⟨h1,by rw[h2];exact hT.trans (Td D aX m) (λ_ h=>.inl h)⟩
   have HC:J (∀aX,M D W aX->aX.cell? ⟨w.heap.size+1+1+1,0,Y⟩=Z (R va (Jp H4).length vc)/\aX.cell? ⟨w.heap.size+1,0,Y⟩=Z (L ⟨k.toArray⟩)/\aX.cell? ⟨x,4,Y⟩=Z (O I (b:Int))/\aX.cell? ⟨if bt k b=0 then nr else nl,0,Y⟩=Z (L od)):=λaX hT=>by
    have hb:∀{j:Nat} {o:Obj},W.heap[j]? =Z o->_:=λh=>(hT.block _ (Jb h) (λh=>h)).trans h;exact⟨Ja (hb hZ),Ja (hb hI.key),Ja (hb uk),(Ja (hb dj)).trans hod⟩
   have HI:J _:=hI;have gL:J _:=hZ;have yP:J (POwn w.heap.size W (R va (Jp H4).length vc) (Jp H4)):=jj;have HZW:J _:=hzW;have s8:J ((Jp H4).length<=1000000):=(by have:=Jh8 H4;exact(by omega:(Jp H4).length<=1000000));have HAPP:J (∀aX,M D W aX->∃va' vc' w3,(Builtin.append_ #[255,255] 255 #[R va (Jp H4).length vc,R (Z ⟨aX.heap.size,0,Y⟩) 1 1]).run N (aX.alloc (T #[O I (b:Int),L od] 366))=.ok (R va' ((Jp H4).length+1) vc') w3/\POwn w.heap.size w3 (R va' ((Jp H4).length+1) vc') (Jp H4++[(b,od)])/\(aX.alloc (T #[O I (b:Int),L od] 366)).grownBy w3 (Value.ownBlock (R va (Jp H4).length vc))/\w3.cell? ⟨w.heap.size+1+1+1,0,Y⟩=Z (R va (Jp H4).length vc)/\w3.frozen? ⟨w.heap.size+1+1+1,0,Y⟩=false/\w3.heap[w.heap.size+3]? =Z (T (JC (R va (Jp H4).length vc) false ⟨#[]⟩ 0 0) 258)/\((w3.cell? ⟨w.heap.size+1,0,Y⟩=Z (L ⟨k.toArray⟩)/\w3.cell? ⟨x,4,Y⟩=Z (O I (b:Int))/\w3.cell? ⟨if bt k b=0 then nr else nl,0,Y⟩=Z (L od))/\w3.heap[w.heap.size+5]? =Z (T #[L ⟨k.toArray⟩] 9)/\M (λj=>Z j=Value.ownBlock (R va (Jp H4).length vc)) W w3)):=λaX hT=>by
    obtain⟨i0,hi,hp⟩:=Option.map_eq_some_iff.1 JkK;simp only[Qw]at hp;obtain⟨xV,jH,qQ⟩:=hp;have hTa:M D W (aX.alloc (T #[O I (b:Int),L od] 366)):=hT.trans (Ta D aX _) noE;have hzX:=hTa.size;have el:=Qf aX (T #[O I (b:Int),L od] 366);obtain⟨v',w3,hr,h2,h3,_⟩:=run_append_own (P:=N) (aX.alloc (T #[O I (b:Int),L od] 366)) w.heap.size 255 255 366 i0 _ 2 24 underlying255 hi xV jH qQ rfl (by omega) (R va (Jp H4).length vc) (Jp H4).length (stpV (Jp H4)) (yP.o.tch hTa (λ_ _ h=>h)) ⟨aX.heap.size,0,Y⟩ 1 1 (stpV [(b,od)]) rfl (λj u hu=>by
     rw[Addr.add_lit,Nat.zero_add,Ja el,<-lQ];exact hu) (JnA _) (by have:=s8.o;simp only[maxLen];omega) (by have:=s8.o;omega) (by have:=HZW.o;omega)
    have h2':POwn w.heap.size w3 v' (Jp H4++[(b,od)]):=(by unfold POwn;rw[Qe,show stpV (Jp H4++[(b,od)])=stpV (Jp H4)++stpV [(b,od)] by simp[stpV]];exact h2);obtain⟨a',c',hv'⟩:=h2'.shape;rw[Qe]at hv';have hv':=hv';subst hv';have hTg:=(hTa.mono noE).trans (Tg h3) (λ_ h=>.inl h);have ky:∀{j:Nat} {cs:Array aG} {aY:TypeId},aY ≠ 366->W.heap[j]? =Z (T cs aY)->_:=λHl h=>(hTg.block _ (Jb h) (λe=>by
     obtain⟨_,cs,m,hc⟩:=yP.o.own _ e.symm;rw[h]at hc;simp only[Qh,lV.injEq]at hc;exact Hl hc.2.1)).trans h
    have e3:=ky (by decide) gL.o;exact⟨a',c',w3,hr,h2',h3,Ja e3,Qg _ _ _ _ _ e3,e3,⟨Ja (ky (by decide) HI.key),Ja (ky (by decide) uk),(Ja (ky (by decide) dj)).trans hod⟩,ky (by decide) HI.cap,hTg⟩
   have hmx:prog.follows .mixedOrders=true:=(by kernel_rfl);obtain⟨d0,d1,d2,d3⟩:=HC W (Te _ _);clear hI hZ jj uk dj hbr hor c0 hzW;generalize (if bt k b=0 then nr else nl)=jq at *;gi_wp2;refine⟨trivial,(CallsIn.inRound l (callsIn_wide.2 xY)).mono ?_⟩;rintro _ aX⟨rfl,hX⟩;rw[hX];clear xY hX aX;generalize yI:(⟨k.toArray⟩:BA)=kb at *;gi_wp2;have s0:=HC _ (Td D W 1);refine YZ (S:=(λ(aX:aA)=>aX.cell? ⟨w.heap.size+1+1+1,0,Y⟩=Z (R va (Jp H4).length vc)/\aX.cell? ⟨w.heap.size+1,0,Y⟩=Z (L kb)/\aX.cell? ⟨x,4,Y⟩=Z (O I (b:Int))/\aX.cell? ⟨jq,0,Y⟩=Z (L od))) 17 (by simp) (by kernel_rfl) (by kernel_rfl) (by simp) ?hq s0 (λhHeld l0 o0 zm eh=>?_)
   case hq=>rintro⟨_,_,h⟩;exact h
   simp only[List.dropLast,List.getLast_cons_cons,List.getLast_singleton]at zm eh;subst zm;subst eh;refine tkL 0 ?_;simp only[lD,Qa,Qb,Qc];refine tkL 1 ?_;simp only[lD,Qa,Qb,Qc];refine tkL 2 ?_;simp only[lD,Qa,Qb,Qc];refine tkL 3 ?_;simp only[lD,Qa,Qb,Qc];refine tkL 4 ?_;simp only[lD,Qa,Qb,Qc];refine tkL 5 ?_;simp only[lD,Qa,Qb,Qc];refine tkL 6 ?_;simp only[lD,Qa,Qb,Qc];refine tkL 7 ?_;simp only[lD,Qa,Qb,Qc];refine JaK (i:=8) rfl (by kernel_rfl) (λK hK=>?_);go_simp;refine(HBES _ (Td D _ 1)).mono ?_;rintro _ W2⟨rfl,qm⟩;have s2:=HC _ qm;refine hK _ _ s2 (λsi=>?_);clear hK K hHeld
   try simp only[lD,Qa,Qb,Qc]
   refine tkL 9 ?_;simp only[lD,Qa,Qb,Qc];refine tkL 10 ?_;simp only[lD,Qa,Qb,Qc];refine tkL 11 ?_;simp only[lD,Qa,Qb,Qc];refine tkL 12 ?_;simp only[lD,Qa,Qb,Qc];refine JaK (i:=13) rfl (by kernel_rfl) (λK hK=>?_);go_simp;have s3:(λ(aX:aA)=>aX.cell? ⟨w.heap.size+1+1+1,0,Y⟩=Z (R va (Jp H4).length vc)/\aX.cell? ⟨w.heap.size+1,0,Y⟩=Z (L kb)/\aX.cell? ⟨x,4,Y⟩=Z (O I (b:Int))/\aX.cell? ⟨jq,0,Y⟩=Z (L od)) (W2.alloc (T #[O I (b:Int),L od] 366)):=HC _ (qm.trans (Ta D W2 _) noE);refine hK _ _ s3 (λdk=>?_);clear hK K si
   try simp only[lD,Qa,Qb,Qc]
   obtain⟨va',vc',w3,kH,kv,vS,g0,g1,g2,gk,g5,hTw⟩:=HAPP W2 qm;refine JaK (i:=14) rfl (by kernel_rfl) (λK hK=>?_);refine Jdn rfl _ _ 255 rfl rfl rfl kH ?_;have s4:(λ(aX:aA)=>aX.cell? ⟨w.heap.size+1+1+1,0,Y⟩=Z (R va (Jp H4).length vc)/\aX.cell? ⟨w.heap.size+1,0,Y⟩=Z (L kb)/\aX.cell? ⟨x,4,Y⟩=Z (O I (b:Int))/\aX.cell? ⟨jq,0,Y⟩=Z (L od)) w3:=⟨g0,gk⟩
   refine hK _ _ s4 (λhHeld4=>?_);clear hK K dk
   try simp only[lD,Qa,Qb,Qc]
   refine tkL 15 ?_;simp only[lD,Qa,Qb,Qc];refine wpAnyH_done (by kernel_rfl) ?_ _;show wpList _ _ _ [_] _ _;go_wp2;exact HI.add yP hTw kv g2 (by rw[hyx])
 case done=>
  rintro aV ys W hD rfl hI hK;have hds:ys=[]/\wy=([],Y):=by
   rcases uD with h|⟨h1,h2⟩
   ·exact h
   ·exfalso
    cases xd:wy.2 with
    | none=>exact h2 xd
    | some x=>
     rw[xd]at h1;have:(Sum.inl x)∈ys.map (·.1.2):=(by rw[h1];simp);obtain⟨y,hy,e⟩:=QL.1 this;obtain⟨s,hs⟩:=hI.brs y hy;rw[hs]at e
     cases e
  obtain⟨rfl,rfl⟩:=hds;obtain⟨v,hZ,jj⟩:=hI.row;have pE:=hI.below;have kP:=hI.res;obtain⟨va,vc,kG⟩:=jj.shape;subst kG;clear hI;obtain⟨vn,mm,kb,oa,oo,e1,e2,e3,e4,e5⟩:∃(vn:Nat)(mm:Bool)(kb:BA)(oa oo:Nat),vn=(Jp ([]:List (Yf w k))).length/\mm=false/\kb=⟨#[]⟩/\oa=0/\oo=0:=⟨_,_,_,_,_,rfl,rfl,rfl,rfl,rfl⟩
  rw[<-e1]at jj;have hZ:W.heap[w.heap.size+3]? =Z (T (JC (R va vn vc) mm kb oa oo) 258):=by rw[e1,e2,e3,e4,e5];exact hZ
  have sX:J (JC (R va vn vc) mm kb oa oo=JC (R va vn vc) (([],Y):Wy).2.isSome (ji ([],Y)) (gE ([],Y)).1 (gE ([],Y)).2):=by rw[e2,e3,e4,e5];rfl
  clear e1 e2 e3 e4 e5;obtain⟨c0,c1,c2,c3,c4⟩:=rows hZ;obtain⟨d0,d1,d2,d3,d4⟩:=rows kP;have fd:∀j,W.frozen? ⟨w.heap.size+1+1,j,Y⟩=false:=λj=>Qg _ _ _ _ _ kP;have jV:J _:=kP;have yP:J (POwn _ _ _ _):=jj;have ul:J _:=pE;clear kP jj pE hZ HL ym uD r1 r2 r3 r4 r5 pD;gi_wp2;rw[set5 _ _ _ _ _ _ _ _ _ _ _ _ _ jV.o];have Hl:aV ≠ w.heap.size+2:=λe=>by rw[e,jV.o]at hK;simp at hK
  have dl:(W.setRow (w.heap.size+2) (JC (R va vn vc) mm kb oa oo)).heap[aV]? =Z (.deferred (Z [])):=(setRow_other _ _ _ _ Hl).trans hK;have qH:(W.setRow (w.heap.size+2) (JC (R va vn vc) mm kb oa oo)).heap[w.heap.size+2]? =Z (T (JC (R va vn vc) mm kb oa oo) 258):=Qi _ _ _ _ _ _ jV.o;have hg:=grownBy_putObj' (W.setRow (w.heap.size+2) (JC (R va vn vc) mm kb oa oo)) aV (.deferred Y);have kS:∀r,Z aV=Z r->∃o:Obj,(W.setRow (w.heap.size+2) (JC (R va vn vc) mm kb oa oo)).heap[r]? =Z o/\o.isCells=false:=λr e=>by cases e;exact⟨_,dl,rfl⟩
  refine⟨by simp,.inl ⟨_,_,rfl,run_takeDeferred dl,?_⟩⟩;refine⟨_,Qq results147 _ _ (w.heap.size+2) _ _ (0,0) _ rfl (Ju qH hg kS) underlying258 rfl (by kernel_rfl),⟨⟨_,congrArg (λx=>Ending.returned (aH x)) sX,?_⟩,?_⟩⟩
  ·refine(yP.tch (Ts W (w.heap.size+2) (JC (R va vn vc) mm kb oa oo)) (λj hj e=>?_)).kept hg kS;obtain⟨_,cs,m,hc⟩:=yP.own _ hj;rw[e,jV.o]at hc;simp only[Qh,lV.injEq]at hc;exact absurd hc.2.1 (by decide)
  ·refine ul.trans ?_;have t1:Below w.heap.size W (W.setRow (w.heap.size+2) (JC (R va vn vc) mm kb oa oo)):=(Ts W (w.heap.size+2) _).below ul.size (λj hj=>by omega);exact t1.trans (belowK_b (w:=w) (Ql _) _ aV _ _ (by omega) dl rfl rfl)
 case stop=>
  rintro aV c H4 W hD sq⟨rfl,hX⟩ hK;obtain⟨q0,y,v,x,e1,e2,e3,hZ,jj⟩:=hX.row;have pE:=hX.below;have kP:=hX.res;have tO:=Jpf sq e1 e2 e3 uD.o;obtain⟨va,vc,kG⟩:=jj.shape;subst kG;subst tO;clear hX sq e1 e2 e3;obtain⟨vn,mm,kb,oa,oo,e1,e2,e3,e4,e5⟩:∃(vn:Nat)(mm:Bool)(kb:BA)(oa oo:Nat),vn=(Jp q0).length/\mm=true/\kb=⟨x.1.toArray⟩/\oa=x.2.1/\oo=x.2.2:=⟨_,_,_,_,_,rfl,rfl,rfl,rfl,rfl⟩
  rw[<-e1]at jj;have hZ:W.heap[w.heap.size+3]? =Z (T (JC (R va vn vc) mm kb oa oo) 258):=by rw[e1,e2,e3,e4,e5];exact hZ
  have sX:J (JC (R va vn vc) mm kb oa oo=JC (R va vn vc) ((Jp q0,Z x):Wy).2.isSome (ji (Jp q0,Z x)) (gE (Jp q0,Z x)).1 (gE (Jp q0,Z x)).2):=by rw[e2,e3,e4,e5];rfl
  clear e1 e2 e3 e4 e5;obtain⟨c0,c1,c2,c3,c4⟩:=rows hZ;obtain⟨d0,d1,d2,d3,d4⟩:=rows kP;have fd:∀j,W.frozen? ⟨w.heap.size+1+1,j,Y⟩=false:=λj=>Qg _ _ _ _ _ kP;have jV:J _:=kP;have yP:J (POwn _ _ _ _):=jj;have ul:J _:=pE;clear kP jj pE hZ HL ym uD r1 r2 r3 r4 r5 pD;gi_wp2;rw[set5 _ _ _ _ _ _ _ _ _ _ _ _ _ jV.o];have Hl:aV ≠ w.heap.size+2:=λe=>by rw[e,jV.o]at hK;simp at hK
  have dl:(W.setRow (w.heap.size+2) (JC (R va vn vc) mm kb oa oo)).heap[aV]? =Z (.deferred (Z [])):=(setRow_other _ _ _ _ Hl).trans hK;have qH:(W.setRow (w.heap.size+2) (JC (R va vn vc) mm kb oa oo)).heap[w.heap.size+2]? =Z (T (JC (R va vn vc) mm kb oa oo) 258):=Qi _ _ _ _ _ _ jV.o;have hg:=grownBy_putObj' (W.setRow (w.heap.size+2) (JC (R va vn vc) mm kb oa oo)) aV (.deferred Y);have kS:∀r,Z aV=Z r->∃o:Obj,(W.setRow (w.heap.size+2) (JC (R va vn vc) mm kb oa oo)).heap[r]? =Z o/\o.isCells=false:=λr e=>by cases e;exact⟨_,dl,rfl⟩
  refine⟨by simp,.inl ⟨_,_,rfl,run_takeDeferred dl,?_⟩⟩;refine⟨_,Qq results147 _ _ (w.heap.size+2) _ _ (0,0) _ rfl (Ju qH hg kS) underlying258 rfl (by kernel_rfl),⟨⟨_,congrArg (λx=>Ending.returned (aH x)) sX,?_⟩,?_⟩⟩
  ·refine(yP.tch (Ts W (w.heap.size+2) (JC (R va vn vc) mm kb oa oo)) (λj hj e=>?_)).kept hg kS;obtain⟨_,cs,m,hc⟩:=yP.own _ hj;rw[e,jV.o]at hc;simp only[Qh,lV.injEq]at hc;exact absurd hc.2.1 (by decide)
  ·refine ul.trans ?_;have t1:Below w.heap.size W (W.setRow (w.heap.size+2) (JC (R va vn vc) mm kb oa oo)):=(Ts W (w.heap.size+2) _).below ul.size (λj hj=>by omega);exact t1.trans (belowK_b (w:=w) (Ql _) _ aV _ _ (by omega) dl rfl rfl)

theorem JnP(wj:Nat)(hw:wj<=32)(F:Nat->Prop)(q:Option Nat)(st:Option Tr)(k:Key)(hk:k.length=wj+1)(w:aA)(hs:StAt (H3 wj) F w q st)(Hg:∀t,st=Z t->t.Wf/\TrOk wj t):
  aB N 147 #[JB wj q,L ⟨k.toArray⟩] w λe W'=>WayV w.heap.size W' (YS (H3 wj) k st) e/\M D w W':=by
 have HT:∀{W':aA},Below w.heap.size w W'->M D w W':=λh=>(M.of_below h).mono (λ_ hj=>.inr hj)
 cases st with
 | none=>
  obtain rfl:=hs.of_none;exact(callsIn_wide.1 (Jik (wj:Int) Y k (by omega) (by omega) w [] (by simp) rfl ([],Y) (by simp) (.inl ⟨rfl,rfl⟩))).mono λe W' h=>⟨h.1,HT h.2⟩
 | some t=>
  obtain⟨n,rfl,hn⟩:=hs.of_some;obtain⟨_,h2⟩:=Hg t rfl;obtain⟨ds,hL,hd⟩:=hn.wayD hk h2;have Hq:=congrArg List.length hd;simp only[QM,Qe,Qp,Qv]at Hq;have h3:(t.way (H3 wj) k).1.length<=8*(wj+1):=(Jcj (H3 wj) wj (Jk wj hw) k (Z t) Hg).len;refine(callsIn_wide.1 (Jik (wj:Int) (Z n) k (by omega) (by omega) w ds (by omega) hL ((t.way (H3 wj) k).1,Z (t.way (H3 wj) k).2) ?_ (.inr ⟨hd,λe=>(by cases e)⟩))).mono λe W' h=>⟨h.1,HT h.2⟩
  constructor
  ·intro e;rw[e]at Hq;simp at Hq
  ·intro e
   cases e
theorem Xu{wj:Nat}{c:BA×Int}(hc:Jj wj c):(Jc c).length=wj+1:=(Jbc hc (o:=(0,0)) ⟨by decide,by decide⟩).1
theorem Jpg(E:Nat->Addr)(b:Nat)(Hi:18<=b)(wj:Nat)(hw:wj<=32)(wy:Wy)(Hg:WyOk wj wy)(v:aG)(w:aA)(hE:Env E w)(hp:Jd w b Y (wj:Int) aK (.wr []))(base:Nat)(hb:b<base)(hv:POwn base w v wy.1):
  aB N 146 #[X (Z ⟨b,0,Y⟩),aH (JC v wy.2.isSome (ji wy) (gE wy).1 (gE wy).2)] w λe w'=>∃r g',e=aC r/\Jg E w' b g' (wj:Int) (Z (.wr (kT wy)))/\M (λk=>k=b\/Z k=Y) w w':=by
 obtain⟨v1,v3,rfl⟩:=hv.shape;have ho:(gE wy).2<256:=by
  unfold gE
  cases h:wy.2 with
  | none=>decide
  | some x=>exact(Hg.key x h).2.2.2
 refine(JnR E b Hi Y wj hw v1 wy.1.length v3 wy.1 wy.2.isSome (ji wy) (gE wy).1 (gE wy).2 ho (.wr []) w hE hp hv.vat ?_ (by have:=Hg.len;omega) (λs hs=>by have:=(Hg.steps s hs).1;omega) ?_ (by simp[PS.len])).mono ?_
 ·intro a n c e;simp only[Qy]at e;obtain⟨rfl,_,_⟩:=e;exact⟨λe=>by have:=(hv.own _ rfl).1;omega,λe=>by cases e⟩
 ·simp[PS.takes]
 ·rintro e w'⟨x1,x2,x3,m,k,a,o,g',rfl,h1,_,h3,_⟩;rw[Jqr (by omega) Hg]at h1;exact⟨_,g',rfl,h1,h3⟩
theorem Jm0(E:Nat->Addr)(wj:Nat)(hw:wj<=32)(F:Nat->Prop)(q:Option Nat)(st:Option Tr)(c:BA×Int)(hc:Jj wj c)(w:aA)(hE:Env E w)(hs:StAt (H3 wj) F w q st)(Hg:∀t,st=Z t->t.Wf/\TrOk wj t):
  aB N 93 #[JB wj q,aH #[L c.1,O I c.2]] w λe w'=>e=aC (aI #[L ⟨(kT (YS (H3 wj) (Jc c) st)).toArray⟩,aK])/\M D w w':=by
 have Hp:=hE.size;have yG:J (18<=w.heap.size):=Hp;have HE:J (Env E w):=hE;have yF:=Jcj (H3 wj) wj (Jk wj hw) (Jc c) st Hg;have HK:J (∀W,M D w W->_):=λW hT=>Jbg E wj hw c hc W (hE.tch hT noE);have HWT:J (∀W,M D w W->_):=λW hT=>JnP wj hw F q st (Jc c) (Xu hc) W (hs.next hT) Hg;generalize YS (H3 wj) (Jc c) st=wy at *;have uD:J (WyOk wj wy):=yF;obtain⟨rv,kE⟩:∃rv,rv=(q.map λn=>(⟨n,0,Y⟩:Addr)):=⟨_,rfl⟩
 have e0:Jl q=X rv:=by rw[kE]
 have e1:JB wj q=aH #[O I (wj:Int),X rv]:=by show Value.agg _=_;rw[e0]
 rw[e1]at HWT ⊢;obtain⟨s,aZ⟩:=c;dsimp only at HK ⊢;generalize (⟨(Jc (s,aZ)).toArray⟩:BA)=kb at *;go_enter func93,ntmps93;go_wp2_with fail;refine(HK _ (M.allocs D w _ _)).mono ?_;rintro _ w1⟨rfl,H9⟩;have qr:=heap_alloc2_old w (T #[O I (wj:Int),X rv] 146) (T #[L s,O I aZ] 49);have pF:=(M.allocs D w _ _).trans H9 noE;have r1:=(H9.block _ (by simp;omega) (λh=>h)).trans qr;have jH:w.heap.size+2<=w1.heap.size:=by have:=H9.size;simp at this;omega
 obtain⟨c0,c1⟩:=rows r1;have H5:J _:=pF;have em:J (w.heap.size+2<=w1.heap.size):=jH;have R1:J _:=r1;go_wp2_with fail;refine(JY _ _).mono ?_;rintro _ w2⟨rfl,kV,Ha⟩;have qm:=H5.trans Ha noE;have r2:=(Ha.block _ (by have:=em.o;omega) (λh=>h)).trans R1.o;obtain⟨c0,c1⟩:=rows r2;have H6:J (M D w w2):=qm;have kF:J (Jd w2 w1.heap.size Y (wj:Int) aK (.wr [])):=kV;generalize mH:w1.heap.size=b at *;have zJ:J _:=mH;have pA:J (∀W v,M D w2 W->POwn w2.heap.size W v wy.1->aB N 146 _ W _):=λW v hT hv=>Jpg E b (by have:=em.o;have:=yG.o;omega) wj hw wy uD.o v W ((HE.o.tch H6.o noE).tch hT noE) (kF.o.tch hT (λh=>h) (λ_ _ h=>h)) w2.heap.size kF.o.lt hv;go_wp2_with fail;go_region_with (first
  | (go_at_call 147;refine(HWT _ (H6.trans (Td D w2 1) noE)).mono ?_;rintro _ w3⟨⟨v,rfl,(HV:J _)⟩,Hs⟩;have Hb:J _:=(Td D w2 1).trans Hs noE;clear Hs)
  | (go_at_call 146;refine(pA _ _ Hb HV).mono ?_;rintro _ w4⟨r,g',rfl,(pB:J _),(Hm:J _)⟩))
 all_goals
  have kD:J _:=(H6.trans Hb noE).trans Hm (λj hj=>by
   rcases hj with rfl|hj
   ·exact .inr (by have:=em.o;omega)
   ·cases hj)
  have HR:J (aB N 79 _ w4 _):=Jas E b g' wj (Z (.wr (kT wy))) (λp hp=>by cases hp;exact⟨_,rfl⟩) w4 pB.o;go_wp2_with fail;refine HR.o.mono ?_;rintro _ w5⟨kR,rfl⟩;have kz:J _:=kD.trans kR noE;go_wp2;go_ret2;exact⟨rfl,kz⟩
