import Derived.Test.YtighkdnooglfjaaGreatDoorLxRgC
namespace Go.Proofs.YtighkdnooglfjaaGreatDoor
open Tryz
set_option maxRecDepth 100000
set_option maxHeartbeats 4000000
open Go.RowKit

attribute [local go_sem] Oper.semAt_some

def ItW(n0:Nat)(A B:World):Prop:=Tch (λj=>n0<=j/\∃o,A.heap[j]? =some o/\o.isWalk=true) A B
structure KpW(n0:Nat)(A B:World):Prop where
 below:Below n0 A B
 walk:∀(j:Nat)(o:Obj),A.heap[j]? =some o->o.isWalk=true->B.heap[j]? =some o
def Jee(gf:Nat)(lb:Array Value)(n0 m N:Nat)(End:List BA->Prop)(w:World):Prop:=
 ∀(l:Nat)(J:List BA->World->Prop)(W:World),Tch NoB w W->(∀s A B,J s A->ItW n0 A B->J s B)->
  (∀s x V,s.length<N->J s V->YieldAt Fence.wide (m-1) prog l #[.string x] V λe V'=>e=.returned (.bool true)/\J (s++[x]) V'/\KpW n0 V V')->J [] W->
  CallsIn Fence.wide m prog gf (#[.func (.yield l) #[] #[]]++lb) W λe W'=>(∃v,e=.returned v)/\∃s,End s/\J s W'
def YG(w:World)(v:Value)(s:List BA):Prop:=∃a c,v=.slice a s.length c/\∀i (h:i<s.length),∃g,a=some ⟨g,0,none⟩/\w.cell? ⟨g,i,none⟩=some (.string s[i])
theorem NOwn.str{base:Nat}{w:World}{v:Value}{l:List BA}(h:NOwn base w v l):YG w v l:=by
 obtain⟨a,c,hv⟩:=h.shape;refine⟨a,c,hv,λi hi=>?_⟩;obtain⟨g,cap,hv2,_,_,_,hc⟩:=h.at (λe=>by rw[e]at hi;simp at hi);rw[hv]at hv2;simp only[Qy]at hv2;exact⟨g,hv2.1,(hc i hi).1⟩
theorem Jka(v:Value)(a:Option Addr)(n c:Nat)(hv:v=.slice a n c)(w:World):
  Calls prog 234 #[v] w λe w'=>e=.returned (.func (.func 304) #[] #[.pointer (some ⟨w.heap.size,0,none⟩)])/\w'=w.alloc (.cells #[v] 58):=by
 subst hv;have hmf:∀(fn:Fn)(first cap:Array Value)(w:World),(Instr.makeFunc fn first cap).run prog w=.ok (.func fn first cap) w:=λ_ _ _ _=>rfl;go_enter func234,ntmps234;go_wp2;go_ret;exact⟨rfl,rfl⟩
theorem Jmr(p:Nat)(w:World):
  Calls prog 237 #[.map (some p)] w λe w'=>e=.returned (.func (.func 306) #[] #[.pointer (some ⟨w.heap.size,0,none⟩)])/\w'=w.alloc (.cells #[.map (some p)] 268):=by
 have hmf:∀(fn:Fn)(first cap:Array Value)(w:World),(Instr.makeFunc fn first cap).run prog w=.ok (.func fn first cap) w:=λ_ _ _ _=>rfl;go_enter func237,ntmps237;go_wp2;go_ret;exact⟨rfl,rfl⟩
theorem Jh4(B n0 m:Nat)(hm:2<=m)(xs:List BA)(hl:xs.length<=10000000000)(v:Value)(w:World)(hB:w.heap[B]? =some (.cells #[v] 58))(hv:YG w v xs)(h0:n0=w.heap.size):
  Jee 304 #[.pointer (some ⟨B,0,none⟩)] n0 m xs.length (λs=>s=xs) w:=by
 intro l J W hT hJ hY h0J;obtain⟨a,c,rfl,hc⟩:=hv;have c0:W.cell? ⟨B,0,none⟩=some (.slice a xs.length c):=(hT.cell (p:=⟨B,0,none⟩) (Jb hB) (λh=>h)).trans (Ja hB);have HC:Hid (∀i (h:i<xs.length),∃g,a=some ⟨g,0,none⟩/\g<n0/\W.cell? ⟨g,i,none⟩=some (.string xs[i])):=λi h=>by
  obtain⟨g,h1,h2⟩:=hc i h;have hg:=Qr _ _ h2;exact⟨g,h1,by rw[h0];exact hg,(hT.cell (p:=⟨g,i,none⟩) hg (λh=>h)).trans h2⟩
 have HY:Hid (∀s x V,s.length<xs.length->J s V->_):=hY;have HWB:Hid (Below n0 W W/\J [] W):=⟨Below.refl _ _,h0J⟩
 obtain⟨n,hn⟩:∃n,n=xs.length:=⟨_,rfl⟩
 rw[<-hn]at c0;have HN:Hid (xs.length=n):=hn.symm;have hnb:n<=10000000000:=by omega
 clear hT hJ hY hc hB hn h0J hl;show CallsIn Fence.wide m prog _ #[.func (.yield l) #[] #[],.pointer (some ⟨B,0,none⟩)] W _;refine callsIn_of_wp func304 rfl trivial ?_ rfl;simp only[ntmps304,List.size_toArray,Qp,Qv,Nat.reduceAdd,Nat.reduceSub,Array.replicate_succ,Array.replicate_zero,List.push_toArray,List.append_toArray,List.nil_append,List.cons_append];gi_wp2;gi_loopw [7] (λi wr=>∃k:Nat,k<=n/\i=.int .i64 (k:Int)/\Hid (Below n0 W wr/\J (xs.take k) wr)) (λi _=>n-(intOf i).toNat)
 case atStart=>exact⟨0,Nat.zero_le _,rfl,HWB.o⟩
 case round=>
  obtain⟨k,hk,rfl,HR⟩:=hrel
  by_cases hlt:k<n
  ·have hkl:k<xs.length:=(by rw[HN.o];exact hlt);obtain⟨g,rfl,hg,hcg⟩:=HC.o k hkl;have d0:wr.cell? ⟨g,k,none⟩=some (.string xs[k]):=(HR.o.1.cell (p:=⟨g,k,none⟩) hg).trans hcg;obtain⟨fn,tmps,assign,body,hy,hR⟩:=HY.o (xs.take k) xs[k] wr (by rw[QB];omega) HR.o.2;have HTK:Hid (xs.take k++[xs[k]]=xs.take (k+1)):=(QQ hkl).symm;rw[HTK.o]at hR;generalize xs[k]=x at *;have hlti:(k:Int)<(n:Int):=(by omega);have hk0:(0:Int)<=(k:Int):=(by omega);clear hcg hg hkl;gi_wp2;refine⟨λ_=>by omega,hR.mono ?_⟩;clear hR hy;rintro e V3⟨rfl,hJ3,hk3⟩;have HR3:Hid (Below n0 W V3/\J (xs.take (k+1)) V3):=⟨HR.o.1.trans hk3.below,hJ3⟩
   clear hJ3 hk3 d0;gi_wp2;go_roundw
   case rel=>exact⟨k+1,by omega,by go_num,HR3⟩
   case measure=>simp[intOf];omega
  ·have HK:Hid (k=n):=(by omega:k=n)
   have hge:¬(k:Int)<(n:Int):=(by omega);gi_wp2;refine bodyPost_end (v:=.tuple #[]) (results_none results304 _ _ _) rfl ?_;have e:xs.take k=xs:=QR (by rw[HK.o,HN.o];exact Ql _);have h2:J xs wr:=(by have:=HR.o.2;rwa [e]at this);exact⟨⟨_,rfl⟩,h2⟩
theorem Jk6(B n0 m p:Nat)(hm:2<=m){α:Type}(enc:α->Value)(ls:List (BA×α))(w:World)(hB:w.heap[B]? =some (.cells #[.map (some p)] 268))(hp:MpAt w p (smE enc ls))(h0:n0=w.heap.size):
  Jee 306 #[.pointer (some ⟨B,0,none⟩)] n0 m ls.length (λs=>s.Perm (ls.map (·.1))) w:=by
 intro l J W hT hJ hY h0J;have c0:W.cell? ⟨B,0,none⟩=some (.map (some p)):=(hT.cell (p:=⟨B,0,none⟩) (Jb hB) (λh=>h)).trans (Ja hB);have hpW:=hp.next hT (λh=>h);have hpl:p<n0:=by rw[h0];exact(Jb hp)
 obtain⟨hrg,hit⟩:=JbA underlying268 hpW;obtain⟨W1,hW1⟩:∃W1,W1=W.alloc (.mapIter (some p) (smE enc ls).length #[] (smE enc ls).length):=⟨_,rfl⟩
 rw[<-hW1]at hrg hit;have hJ1:J [] W1:=hJ _ _ _ h0J (by rw[hW1];exact(Ta NoB W _).mono noE);have hW1r:W1.heap.size=W.heap.size+1:=by rw[hW1];simp
 have HY:Hid (∀s x V,s.length<ls.length->J s V->_):=hY;have HJ:Hid (∀s A B,J s A->ItW n0 A B->J s B):=hJ;have HPL:Hid (p<n0/\n0<=W.heap.size):=⟨hpl,by rw[h0];exact hT.size⟩
 have HW1:Hid (W1=_):=hW1;have HI0:Hid (MIt W1 W.heap.size p (smE enc ls) []/\J [] W1):=⟨hit,hJ1⟩
 clear hT hJ hY hB hp hpW hpl hit hJ1 h0J hW1 h0;show CallsIn Fence.wide m prog _ #[.func (.yield l) #[] #[],.pointer (some ⟨B,0,none⟩)] W _;refine callsIn_of_wp func306 rfl trivial ?_ rfl;simp only[ntmps306,List.size_toArray,Qp,Qv,Nat.reduceAdd,Nat.reduceSub,Array.replicate_succ,Array.replicate_zero,List.push_toArray,List.append_toArray,List.nil_append,List.cons_append];gi_wp2;gi_loopw [] (λwr=>∃seen:List Nat,Hid (MIt wr W.heap.size p (smE enc ls) seen/\J (seen.filterMap λi=>(ls[i]?).map (·.1)) wr)) (λwr=>ls.length-seenN wr W.heap.size)
 case atStart=>exact⟨[],HI0⟩
 case round=>
  obtain⟨seen,HR⟩:=hrel;have hsl:seen.length<=ls.length:=by have:=ZR (smE enc ls).length seen HR.o.1.nd HR.o.1.lt;simpa [smE]using this
  have hlen:(seen.filterMap λi=>(ls[i]?).map (·.1)).length<=seen.length:=List.length_filterMap_le _ _
  rcases JcS HR.o.1 0 with⟨hall,hrun⟩|⟨j,kv,vv,w',hj,hl,hrun,hit2,ht2,hen⟩
  ·have HALL:Hid (∀i,i<(smE enc ls).length->i∈seen):=hall;clear hall;gi_wp2;refine bodyPost_end (v:=.tuple #[]) (results_none results306 _ _ _) rfl ?_;refine⟨⟨_,rfl⟩,_,?_,HR.o.2⟩;have hp:seen.Perm (List.range ls.length):=(List.perm_ext_iff_of_nodup HR.o.1.nd List.nodup_range).2 λi=>by
    rw[List.mem_range];exact⟨λh=>by have:=HR.o.1.lt i h;simpa [smE]using this,λh=>HALL.o i (by simpa [smE]using h)⟩
   refine(hp.filterMap _).trans (List.Perm.of_eq ?_);apply List.ext_getElem?;intro i;have e:(List.range ls.length).filterMap (λi=>(ls[i]?).map (·.1))=ls.map (·.1):=by
    have e2:(List.range ls.length).map (λi=>(ls[i]?).map (·.1))=(ls.map (·.1)).map some:=by
     apply List.ext_getElem?;intro i
     by_cases hi:i<ls.length
     ·simp[hi]
     ·simp[hi]
    have:=congrArg (List.filterMap id) e2;rw[List.filterMap_map,List.filterMap_map]at this;simpa using this
   rw[e]
  ·have hl2:∃x a,ls[j]? =some (x,a)/\kv=.string x/\vv=enc a:=by
    unfold smE at hl;rw[List.getElem?_map]at hl
    cases hq:ls[j]? with
    | none=>rw[hq]at hl;cases hl
    | some y=>rw[hq]at hl;simp at hl;exact⟨y.1,y.2,rfl,hl.1.symm,hl.2.symm⟩
   obtain⟨x,a,hM,rfl,rfl⟩:=hl2;have hms:(seen++[j]).length<=ls.length:=(by have:=ZR (smE enc ls).length (seen++[j]) hit2.nd hit2.lt;simpa [smE]using this);simp only[Qe,Qp,Qv]at hms;have HMS:Hid (seen.length+1<=ls.length):=hms;have hJ2:=HJ.o _ _ _ HR.o.2 (ht2.mono (λi hi=>.inl (by subst hi;exact⟨HPL.o.2,_,HR.o.1.it,rfl⟩)));have hfm:(seen++[j]).filterMap (λi=>(ls[i]?).map (·.1))=(seen.filterMap λi=>(ls[i]?).map (·.1))++[x]:=(by rw[List.filterMap_append];simp[hM]);obtain⟨fn,tmps,assign,body,hy,hR⟩:=HY.o _ x w' (by omega) hJ2;rw[<-hfm]at hR;have HI2:Hid (MIt w' W.heap.size p (smE enc ls) (seen++[j])):=hit2;clear hit2 ht2 hl hM hJ2 hfm hms hj;generalize enc a=ev at *;gi_wp2;refine⟨λ_=>by omega,hR.mono ?_⟩;clear hR hy;rintro e V3⟨rfl,hJ3,hk3⟩;have HR3:Hid (MIt V3 W.heap.size p (smE enc ls) (seen++[j])/\J ((seen++[j]).filterMap λi=>(ls[i]?).map (·.1)) V3):=⟨⟨hk3.walk _ _ HI2.o.it rfl,(hk3.below.block _ HPL.o.1).trans HI2.o.at_,HI2.o.nd,HI2.o.lt⟩,hJ3⟩
   clear hJ3 hk3;gi_wp2;go_roundw
   case rel=>exact⟨_,HR3⟩
   case measure=>rw[HR3.o.1.seenN,HR.o.1.seenN,Qe];have:=HMS.o;simp only[Qp,Qv];omega

attribute [local go_sem] Oper.semAt_some

structure ApI(w:World)(s:List BA)(W:World):Prop where
 below:Below w.heap.size w W
 row:∃v,W.heap[w.heap.size]? =some (.cells #[v] 58)/\NOwn (w.heap.size+3) W v s
 size:w.heap.size+1<=W.heap.size
theorem ApI.tch{w:World}{s:List BA}{W W':World}{S:Nat->Prop}(h:ApI w s W)(k:Tch S W W')(h1:∀j,S j->w.heap.size<j)(h2:∀j cs m,S j->w.heap.size+3<=j->W.heap[j]? ≠ some (.cells cs 9 m)):ApI w s W':=by
 obtain⟨v,hr,ho⟩:=h.row;refine⟨h.below.trans (k.below h.below.size (λj hj=>by have:=h1 j hj;omega)),⟨v,(k.block _ (Jb hr) (λe=>by have:=h1 _ e;omega)).trans hr,ho.tch k (λj hj e=>?_)⟩,Qm h.size k.size⟩;obtain⟨hb,cs,m,hr⟩:=ho.own j hj;exact h2 j cs m e hb hr
theorem JeR(gf:Nat)(lb:Array Value)(N:Nat)(End:List BA->Prop)(eg:∀args w,(callFunc gf args).run prog w=.ok (.enter gf args) w)(w:World)(hN:N<=1000000000)(hseq:Jee gf lb w.heap.size 3 N End w):
  CallsIn Fence.wide 4 prog 345 #[.slice none 0 0,.func (.func gf) #[] lb] w λe w'=>∃v s,e=.returned v/\End s/\NOwn w.heap.size w' v s/\Tch NoB w w':=by
 have h1:1<=4:=by omega
 obtain⟨WD,hWD⟩:∃WD,WD=w.alloc (.cells #[.slice none 0 0] 58):=⟨_,rfl⟩
 have tD:Tch NoB w WD:=by rw[hWD];exact Ta _ _ _
 have r0:WD.heap[w.heap.size]? =some (.cells #[.slice none 0 0] 58):=by rw[hWD];exact Qf _ _
 have hzD:WD.heap.size=w.heap.size+1:=by rw[hWD];simp
 have HZ:Hid (WD.heap.size=w.heap.size+1):=hzD;have HWD:Hid (WD=_):=hWD;have HTD:Hid (Tch NoB w WD):=tD;have HI0:Hid (ApI w [] WD):=⟨tD.below (Ql _) noE,⟨_,r0,NOwn.nil _ _⟩,by omega⟩
 have HSQ:Hid (Jee gf lb w.heap.size 3 N End w):=hseq;clear hWD tD r0 hseq hzD;refine callsIn_of_wp_marks func345 rfl trivial ?_ rfl;simp only[ntmps345,List.size_toArray,Qp,Qv,Nat.reduceAdd,Nat.reduceSub,Array.replicate_succ,Array.replicate_zero,List.push_toArray,List.append_toArray,List.nil_append,List.cons_append];gi_upto_region 1 with fail;rw[<-HWD.o];gi_wp2;have hzD:=HZ.o;refine JgK (α:=BA) (σ:=List BA) h1 (gf:=gf) (lb:=lb) rfl eg (encs:=λs=> #[.string s]) (λ_=>rfl)
  (λs _=>s.length<N) (λs x s'=>s'=s++[x]) (λ_ _=>False) (ItW w.heap.size) (KpW w.heap.size) [] (λr=>∃s,r=some s/\End s) (ApI w) (λ_=>False)
  ?hI (λ_ _ h _=>h) ?hIi ?hIt (λh k=>⟨h.below.trans k.below,λj o h1 h2=>k.walk j o (h.walk j o h1 h2) h2⟩) ?hKb HI0.o
  (λx V=>{ tmps:= #[.slice none 0 0,.func (.func gf) #[] lb,.pointer (some ⟨w.heap.size,0,none⟩),undef,.slice none 0 0,.string x,.func (.func gf) #[] lb,.string x,undef,undef,undef,undef,undef],defers:=[] })
  (λx V=>V) (λx V=>Te _ _) ?hseq ?hassign ?hbody (λV x=>⟨Below.refl _ _,λ_ _ h _=>h⟩) (λ_ _ _ h=>h) ?hdone ?hstop
 case hI=>intro s A B hA hk;exact hA.tch hk (λj hj=>by rcases hj with rfl|rfl<;>omega) (λj cs m hj h7 _=>by rcases hj with rfl|rfl<;>omega)
 case hIi=>
  intro s A B hA hk;obtain⟨v,hr,_⟩:=hA.row;refine⟨hA.below.trans (hk.below hA.below.size (λj hj=>hj.1)),?_,Qm hA.size hk.size⟩;obtain⟨v,hr,ho⟩:=hA.row;refine⟨v,(hk.block _ (Jb hr) (λhj=>?_)).trans hr,ho.tch hk (λj hj e=>?_)⟩
  ·obtain⟨_,o,h1,h2⟩:=hj;rw[hr]at h1
   cases h1
   cases h2
  ·obtain⟨_,cs,m,hr2⟩:=ho.own j hj;obtain⟨_,o,h1,h2⟩:=e;rw[hr2]at h1
   cases h1
   cases h2
 case hIt=>
  intro A B l o hk ho hc hw;refine(hk.block _ (Jb ho) (λhj=>?_)).trans ho;obtain⟨_,o',h1,h2⟩:=hj;rw[ho]at h1
  cases h1
  rw[hw]at h2
  cases h2
 case hKb=>
  intro A B l o hl ho hc hw hk;refine⟨hk.below (Nat.le_of_lt (Nat.lt_of_le_of_lt (by omega) (Jb ho))) (λj hj=>by omega),λj o' h1 h2=>(hk.block _ (Jb h1) (λe=>?_)).trans h1⟩;rw[e,ho]at h1
  cases h1
  rw[hw]at h2
  cases h2
 case hseq=>
  intro J Jx W hT hJ hY hJ0;refine(HSQ.o (WD.heap.size+1) J W (HTD.o.go hT) hJ (λs x V hs hj=>?_) hJ0).mono ?_
  ·obtain⟨fn,tmps,assign,body,hy,hR⟩:=hY s x V hs hj;refine⟨fn,tmps,assign,body,hy,hR.mono ?_⟩;rintro e V' (⟨h1,s',rfl,h2⟩|⟨_,h,_⟩)
   ·exact⟨h1,h2⟩
   ·exact h.elim
  ·rintro e W'⟨h1,s,h2,h3⟩;exact⟨h1,.inl ⟨s,⟨s,rfl,h2⟩,h3⟩⟩
 case hassign=>intro l x W K hK;clear hzD;gi_wp2;exact hK
 case hbody=>
  rintro l s x V W hcan hI htL hz;obtain⟨v,hrow,hpo⟩:=hI.row;have c0:W.cell? ⟨w.heap.size,0,none⟩=some v:=Ja hrow;have HI:Hid (ApI w s W):=hI;have HROW:Hid (W.heap[w.heap.size]? =some (.cells #[v] 58)):=hrow;have HPO:Hid (NOwn (w.heap.size+3) W v s):=hpo;have tA:=Ta NoB W (.cells #[.string x] 9);obtain⟨v',w3,hrun,hown,hg⟩:=Xx (hpo.tch tA (λ_ _ h=>h)) W.heap.size x (Ja (Qf W _)) 58 (by omega) (by have:=htL.size;have:=tA.size;omega);have hT3:Tch (λj=>some j=v.ownBlock) W w3:=(tA.mono noE).trans (Tg hg) (λ_ h=>.inl h);have e3:w3.heap[w.heap.size]? =some (.cells #[v] 58):=(hT3.block _ (Jb hrow) (λe=>by have:=(hpo.own _ e.symm).1;omega)).trans hrow;have d0:w3.cell? ⟨w.heap.size,0,none⟩=some v:=Ja e3;have f0:w3.frozen? ⟨w.heap.size,0,none⟩=false:=Qg _ _ _ _ _ e3;obtain⟨a',c',hvs⟩:=hown.shape;generalize (s++[x]).length=n' at hvs;subst hvs;obtain⟨X,hX⟩:∃X,X=w3.setRow w.heap.size #[.slice a' n' c']:=⟨_,rfl⟩
  have tX:Tch (λj=>j=w.heap.size) w3 X:=by rw[hX];exact Ts _ _ _
  have hXr:X.heap[w.heap.size]? =some (.cells #[.slice a' n' c'] 58):=by rw[hX];exact Qi _ _ _ _ _ _ e3
  have HXE:Hid (w3.setCell ⟨w.heap.size,0,none⟩ (.slice a' n' c')=X):=by show w3.setCell ⟨w.heap.size,0,none⟩ (.slice a' n' c')=X;rw[hX,Qj w3 w.heap.size 0 _ _ (0,0) _ e3];rfl
  have tWX:Tch (λj=>j=w.heap.size\/some j=v.ownBlock) W X:=(hT3.mono (λ_ h=>.inl (.inr h))).trans tX (λ_ h=>.inl (.inl h));have HEND:Hid (ApI w (s++[x]) X/\KpW w.heap.size W X/\∀l o,W.heap[l]? =some o->l=WD.heap.size\/l=WD.heap.size+1->X.heap[l]? =some o):=by
   have hlow:∀j,(j=w.heap.size\/some j=v.ownBlock)->w.heap.size<=j/\¬(j=WD.heap.size\/j=WD.heap.size+1):=λj hj=>by
    rcases hj with rfl|e
    ·omega
    ·have:=(hpo.own j e.symm).1;omega
   refine⟨⟨hI.below.trans (tWX.below hI.below.size (λj hj=>(hlow j hj).1)),⟨_,hXr,hown.tch tX (λj hj e=>by have:=(hown.own j hj).1;omega)⟩,Qm hI.size tWX.size⟩,⟨tWX.below hI.below.size (λj hj=>(hlow j hj).1),λj o h1 h2=>(tWX.block _ (Jb h1) (λe=>?_)).trans h1⟩,λl o ho hl=>(tWX.block _ (Jb ho) (λe=>(hlow l e).2 hl)).trans ho⟩
   rcases e with rfl|e
   ·rw[hrow]at h1;cases h1;cases h2
   ·obtain⟨_,cs,m,hr⟩:=hpo.own j e.symm;rw[hr]at h1;cases h1;cases h2
  clear hI hrow hpo tA hown hg hT3 e3 hX tX hXr tWX hcan htL hz hzD;gi_wp2_with (gi_at_builtin;refine JdZ rfl _ _ 58 rfl rfl rfl hrun ?_);rw[HXE.o]
  first
   | exact⟨.inl ⟨rfl,_,rfl,HEND.o.1,HEND.o.2.1⟩,HEND.o.2.2⟩
   | exact⟨⟨HEND.o.1,HEND.o.2.1⟩,HEND.o.2.2⟩
   | exact⟨⟨_,rfl,HEND.o.1,HEND.o.2.1⟩,HEND.o.2.2⟩
 case hdone=>
  rintro D s W hDe⟨s',hs',hen⟩ hI hK
  cases hs'
  obtain⟨v,hrow,hpo⟩:=hI.row;obtain⟨a',c',hvs⟩:=hpo.shape;generalize s.length=n' at hvs;subst hvs;have c0:W.cell? ⟨w.heap.size,0,none⟩=some (.slice a' n' c'):=Ja hrow;have tP:Tch (λj=>j=D) W (W.putObj D (.deferred none)):=Tch.putObj _ _ _ _ rfl;have HFIN:Hid (End s/\NOwn w.heap.size (W.putObj D (.deferred none)) (.slice a' n' c') s/\Tch NoB w (W.putObj D (.deferred none))):=by refine⟨hen,?_,((Tch.of_below hI.below).trans tP (λj hj=>.inr (by omega))).mono (λj hj=>.inr hj)⟩;obtain⟨h1,h2⟩:=hpo.tch tP (λj hj e=>by have:=(hpo.own j hj).1;omega);refine⟨h1,h2.imp_right ?_⟩;rintro⟨g,cap,cur,h3,h4,h5⟩;exact⟨g,cap,cur,h3,by omega,h5⟩
  have HK:Hid (W.heap[D]? =some (.deferred (some []))):=hK;clear hI hrow hpo tP hK hDe hzD hen;gi_wp2;refine⟨by simp,.inl ⟨_,_,rfl,run_takeDeferred HK.o,?_⟩⟩;exact⟨_,results_tmp results345 _ _ _,_,_,rfl,HFIN.o⟩
 case hstop=>rintro D W _ _ h _;exact h.elim
theorem Jhf(gf:Nat)(lb:Array Value)(N:Nat)(End:List BA->Prop)(eg:∀args w,(callFunc gf args).run prog w=.ok (.enter gf args) w)(w:World)(hN:N<=1000000000)(hseq:Jee gf lb w.heap.size 3 N End w):
  Calls prog 303 #[.func (.func gf) #[] lb] w λe w'=>∃v s,e=.returned v/\End s/\NOwn w.heap.size w' v s/\Tch NoB w w':=by
 have HA:Hid (Calls prog 345 _ w _):=callsIn_wide.1 (JeR gf lb N End eg w hN hseq);clear hseq eg hN;go_enter func303,ntmps303;go_wp2_with fail;refine HA.o.mono ?_;rintro _ w1⟨v,s,rfl,h1,h2,h3⟩;have HX:Hid (End s/\NOwn w.heap.size w1 v s/\Tch NoB w w1):=⟨h1,h2,h3⟩
 clear h1 h2 h3;go_wp2;go_ret;exact⟨_,s,rfl,HX.o⟩
def Xj(s:List BA):List BA:=((s.map λt=>t.data.toList).mergeSort λx y=>decide (x<=y)).map bsL
theorem JaV(s:List BA):(Xj s).length=s.length:=by simp[Xj]
theorem JlE{base:Nat}(v:Value)(s:List BA)(w:World)(h:NOwn base w v s)(hl:s.length<=1000000000):
  Calls prog 155 #[v] w λe w'=>e=.returned (.tuple #[])/\Tch (λj=>some j=v.ownBlock) w w'/\YG w' v (Xj s):=by
 obtain⟨a,c,hv⟩:=h.shape
 by_cases hs:s=[]
 ·subst hs;subst hv;refine(slices_Sort_string_none a c w).mono ?_;rintro e w'⟨rfl,rfl⟩;exact⟨rfl,Te _ _,a,c,by rw[JaV],λi hi=>by simp[Xj]at hi⟩
 ·obtain⟨g,cap,rfl,hgb,hgl,⟨gc,gm,hgr⟩,hcells⟩:=h.at hs;have hH:Go.Sort.Holds Go.Proofs.encStr w g 0 (s.map λt=>t.data.toList).toArray:=λj hj=>by
   have hj':j<s.length:=(by simpa using hj);obtain⟨h1,h2⟩:=hcells j hj';refine⟨?_,by rw[Nat.zero_add];exact h2⟩;rw[Nat.zero_add,h1];simp[hj',Go.Proofs.encStr]
  have:=slices_Sort_string g 0 cap (s.map λt=>t.data.toList) w hH hgl (by simp;omega);rw[QL]at this;refine this.mono ?_;rintro e w'⟨rfl,n,os,rfl⟩;refine⟨rfl,(Tch.putRowG _ _ _ _ _ _ _).mono (λj hj=>.inl (by rw[hj];rfl)),some ⟨g,0,none⟩,cap,by rw[JaV],λi hi=>⟨g,rfl,?_⟩⟩;have hi2:i<((s.map λt=>t.data.toList).mergeSort λx y=>decide (x<=y)).length:=by simpa [Xj]using hi
  have hsz:((s.map λt=>t.data.toList).mergeSort λx y=>decide (x<=y)).toArray.size=(s.map λt=>t.data.toList).toArray.size:=by simp
  have k:=Go.Sort.holds_putRow Go.Proofs.encStr (Go.Sort.ahead w n) g 0 (s.map λt=>t.data.toList).toArray ((s.map λt=>t.data.toList).mergeSort λx y=>decide (x<=y)).toArray (Go.Sort.holds_ahead _ _ _ _ _ _ hH) hsz;have h2:=(Go.Sort.holds_grow _ _ os g 0 _ (by simpa using hgl) k i (by simpa using hi2)).1;rw[Nat.zero_add]at h2;rw[h2,getElem!_pos _ i (by simpa using hi2)];simp[Xj];rfl
theorem YG.next{w w':World}{v:Value}{s:List BA}(h:YG w v s)(k:Tch NoB w w'):YG w' v s:=by
 obtain⟨a,c,e,hc⟩:=h;refine⟨a,c,e,λi hi=>?_⟩;obtain⟨g,h1,h2⟩:=hc i hi;exact⟨g,h1,(k.cell (p:=⟨g,i,none⟩) (Qr _ _ h2) (λh=>h)).trans h2⟩
theorem JeI(gf:Nat)(lb:Array Value)(N:Nat)(End:List BA->Prop)(eg:∀args w,(callFunc gf args).run prog w=.ok (.enter gf args) w)(w:World)(hN:N<=1000000000)(hEnd:∀s,End s->s.length<=1000000000)(hseq:Jee gf lb w.heap.size 3 N End w):
  Calls prog 233 #[.func (.func gf) #[] lb] w λe w'=>∃v s,e=.returned v/\End s/\YG w' v (Xj s)/\Tch NoB w w':=by
 have HA:Hid (Calls prog 303 _ w _):=Jhf gf lb N End eg w hN hseq;have HEN:Hid (∀s,End s->s.length<=1000000000):=hEnd;clear hseq eg hN hEnd;go_enter func233,ntmps233;go_wp2_with fail;refine HA.o.mono ?_;rintro _ w1⟨v,s,rfl,h1,h2,h3⟩;have HSO:Hid (Calls prog 155 #[v] w1 _):=JlE v s w1 h2 (HEN.o s h1);have HX:Hid (End s/\NOwn w.heap.size w1 v s/\Tch NoB w w1):=⟨h1,h2,h3⟩
 obtain⟨a,c,hv⟩:=h2.shape;generalize s.length=n at hv;subst hv;clear h1 h2 h3 HA;go_wp2_with fail;refine HSO.o.mono ?_;rintro _ w2⟨rfl,ht2,hst⟩;have HT2:Hid (Tch NoB w w2):=HX.o.2.2.trans ht2 (λj hj=>.inr (HX.o.2.1.own j hj.symm).1);have HST:Hid (YG w2 (.slice a n c) (Xj s)):=hst;clear ht2 hst HSO;go_wp2;go_ret;exact⟨_,s,rfl,HX.o.1,HST.o,HT2.o⟩
theorem JkQ(v1 v2:Value)(s1 s2:List BA)(hb:s1.length<=1000000000)(w:World)(h1:YG w v1 s1)(h2:YG w v2 s2):
  Calls prog 232 #[v1,v2] w λe w'=>(∃b,e=.returned (.bool b)/\(s1=s2->b=true))/\Tch NoB w w':=by
 obtain⟨a1,c1,rfl,hc1⟩:=h1;obtain⟨a2,c2,rfl,hc2⟩:=h2
 by_cases hl:s1.length=s2.length
 ·have HC1:Hid (∀i (h:i<s1.length),∃g,a1=some ⟨g,0,none⟩/\w.cell? ⟨g,i,none⟩=some (.string s1[i])):=hc1;have HC2:Hid (∀i (h:i<s2.length),∃g,a2=some ⟨g,0,none⟩/\w.cell? ⟨g,i,none⟩=some (.string s2[i])):=hc2;rw[<-hl];obtain⟨n,hn⟩:∃n,n=s1.length:=⟨_,rfl⟩
  have HN:Hid (n=s1.length/\n=s2.length):=⟨hn,hn.trans hl⟩
  rw[<-hn];have hnb:n<=1000000000:=by omega
  clear hc1 hc2 hl hn hb;go_enter func232,ntmps232;go_wp2;go_loopw [13] (λi wr=>∃k:Nat,k<=n/\i=.int .i64 (k:Int)/\Hid (Tch NoB w wr)) (λi _=>n-(intOf i).toNat)
  case atStart=>exact⟨0,Nat.zero_le _,rfl,Te _ _⟩
  case round=>
   obtain⟨k,hk,rfl,HT⟩:=hrel
   by_cases hlt:k<n
   ·have hk1:k<s1.length:=(by rw[<-HN.o.1];exact hlt);have hk2:k<s2.length:=(by rw[<-HN.o.2];exact hlt);obtain⟨g1,rfl,e1⟩:=HC1.o k hk1;obtain⟨g2,rfl,e2⟩:=HC2.o k hk2;have d1:wr.cell? ⟨g1,k,none⟩=some (.string s1[k]):=(HT.o.cell (p:=⟨g1,k,none⟩) (Qr _ _ e1) (λh=>h)).trans e1;have d2:wr.cell? ⟨g2,k,none⟩=some (.string s2[k]):=(HT.o.cell (p:=⟨g2,k,none⟩) (Qr _ _ e2) (λh=>h)).trans e2;have HEQ:Hid (s1=s2->s1[k]=s2[k]):=λh=>by subst h;rfl
    have HTD:Hid (Tch NoB w wr.drew):=HT.o.go (Td _ _ 1);generalize s1[k]=x at *;generalize s2[k]=y at *;have hlti:(k:Int)<(n:Int):=(by omega);have hk0:(0:Int)<=(k:Int):=(by omega);clear e1 e2 hk1 hk2 HC1 HC2
    by_cases hxy:x=y
    ·subst hxy;go_upto_region 6 with fail;go_region_held3 (λV=>V.cell? ⟨g1,k,none⟩=some (.string x)/\V.cell? ⟨g2,k,none⟩=some (.string x)) (go_keep) (fail)
     all_goals go_wp2;go_roundw
     all_goals first
      | exact⟨k+1,by omega,by go_num,HTD⟩
      | (simp[intOf];omega)
    ·have HXY:Hid (¬x=y):=hxy;have hne:(x.toList == y.toList)=false:=by
      rw[ByteArray.toList_eq,ByteArray.toList_eq,beq_eq_false_iff_ne];exact λe=>hxy (ByteArray.ext (Array.toList_inj.1 e))
     clear hxy;go_upto_region 6 with fail;go_region_held3 (λV=>V.cell? ⟨g1,k,none⟩=some (.string x)/\V.cell? ⟨g2,k,none⟩=some (.string y)) (go_keep) (fail)
     all_goals go_wp2;go_ret;exact⟨⟨false,rfl,λh=>absurd (HEQ.o h) HXY.o⟩,HTD.o⟩
   ·have hge:¬(k:Int)<(n:Int):=(by omega);go_wp2;go_ret
    first|exact⟨⟨true,rfl,λ_=>rfl⟩,HT.o⟩|exact⟨.inr rfl,HT.o⟩
 ·have HL:Hid (¬s1.length=s2.length):=hl;have hli:¬((s1.length:Int)=(s2.length:Int)):=by omega
  clear hc1 hc2;go_enter func232,ntmps232;go_wp2;go_ret;exact⟨⟨false,rfl,λh=>absurd (congrArg List.length h) HL.o⟩,Te _ _⟩
