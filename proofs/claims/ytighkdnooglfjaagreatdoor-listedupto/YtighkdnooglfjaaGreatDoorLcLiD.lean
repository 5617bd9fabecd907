import Derived.Test.YtighkdnooglfjaaGreatDoorLcLiA
import Derived.Test.YtighkdnooglfjaaGreatDoorLcLiC
namespace Go.Proofs.YtighkdnooglfjaaGreatDoor
open Tryz
open Go.RowKit

variable {x:Jj}{l:List Jj}{base cb fl lb wj:Nat}{F:Nat->Prop}{α:Type}{v:Value}{w:World}
def strR(l:List BA):Array Value:=(l.map Value.string).toArray
theorem JlO(l:List BA)(k:Nat)(x:BA):(strR l).setIfInBounds k (.string x)=strR (l.set k x):=by
 unfold strR;rw[Qa,List.map_set]
theorem JmH(n:Nat)(h:n<=1000000000)(w:World):(Instr.makeSlice 58 (.int .i64 (n:Int)) (.int .i64 (n:Int))).run prog w=.ok (.slice (some ⟨w.heap.size,0,none⟩) n n) (w.alloc (.cells (strR (List.replicate n ⟨#[]⟩)) 9)):=by
 obtain⟨i,hi,hp⟩:=Option.map_eq_some_iff.1 Jgh;simp only[Qw]at hp;obtain⟨hz,hsz,hby⟩:=hp;have:=run_make (P:=prog) w 58 9 i _ underlying58 hi hz .i64 .i64 (n:Int) (n:Int) (by omega) (by omega) (by rw[hby];omega) (by omega);rw[this,Int.toNat_natCast,hsz,Nat.mul_one];have e:madeCells (Value.string ⟨#[]⟩).cells n=strR (List.replicate n ⟨#[]⟩):=by
  unfold madeCells strR;apply Array.ext_getElem?;intro j;rw[show (Value.string ⟨#[]⟩).cells= #[.string ⟨#[]⟩] from rfl]
  by_cases hj:j<n
  ·simp[hj,Nat.mod_one]
  ·simp[hj]
 rw[e]
theorem YG.at(h:YG base w v l)(hl:l ≠ []):∃g cap,v=.slice (some ⟨g,0,none⟩) l.length cap/\base<=g/\g<w.heap.size/\∀i (hi:i<l.length) c (_:c<7),w.cell? ⟨g,i*7+c,none⟩=(Jo l[i])[c]? :=by
 obtain⟨h1,⟨_,h0⟩|⟨g,cap,cur,rfl,hb,hrow,h2,h3,h4,h5⟩⟩:=h
 ·exact absurd (QO h0) hl
 ·refine⟨g,cap,rfl,hb,(Jb hrow),λi hi c _=>?_⟩;rw[Ja hrow,<-Array.getElem?_toList];have hlt:i*7+c<l.length*7:=by omega
  have e:(cur.toList.take (l.length*7))[i*7+c]? =cur.toList[i*7+c]? :=List.getElem?_take_of_lt hlt;rw[<-e,h5];have key:∀(l:List Jj)(i:Nat)(hi:i<l.length),(l.flatMap λn=>(Jo n).toList)[i*7+c]? =(Jo l[i])[c]? :=by
   intro l
   induction l with
   | nil=>intro i hi;simp at hi
   | cons x r ih=>
    intro i hi
    cases i with
    | zero=>
     rw[QG,QF (by rw[Jb9];omega),Nat.zero_mul,Nat.zero_add,Array.getElem?_toList];rfl
    | succ i=>
     rw[QG,Qz (by rw[Jb9];omega),Jb9,show (i+1)*7+c-7=i*7+c by omega,ih i (by simpa using hi)];rfl
  exact key l i hi
def bsL(t:List UInt8):BA:=⟨t.toArray⟩
theorem Tch.putRowG[Inhabited α](enc:α->Value)(w:World)(n blk off:Nat)(d:Array α)(os:Array Obj):Tch (λj=>j=blk) w (Go.Sort.grow (Go.Sort.putRow enc (Go.Sort.ahead w n) blk off d) os):=by
 refine⟨rfl,rfl,rfl,by simp,λk hk hn=>?_⟩;rw[Go.Sort.heap_grow_old _ _ (by simpa using hk)];simp[Go.Sort.putRow,Go.Sort.mapBlock,Go.Sort.ahead,Array.getElem?_modify,Ne.symm hn]
theorem JjO(g cap:Nat)(ss:List (List UInt8))(w:World)(hr:w.heap[g]? =some (.cells (strR (ss.map bsL)) 9))(hl:ss.length<=1000000000):
  Calls prog 155 #[.slice (some ⟨g,0,none⟩) ss.length cap] w λe w'=>e=.returned (.tuple #[])/\Tch (λj=>j=g) w w'/\∀i (h:i<(ss.mergeSort λx y=>decide (x<=y)).length),w'.cell? ⟨g,i,none⟩=some (.string (bsL (ss.mergeSort λx y=>decide (x<=y))[i])):=by
 have hgl:=(Jb hr)
 have hH:Go.Sort.Holds Go.Proofs.encStr w g 0 ss.toArray:=λj hj=>by
  have hj':j<ss.length:=by simpa using hj
  refine⟨?_,?_⟩
  ·rw[Nat.zero_add,Ja hr];simp[strR,hj'];rfl
  ·exact Qg _ _ _ _ _ hr
 refine(slices_Sort_string g 0 cap ss w hH hgl (by omega)).mono ?_;rintro e w'⟨rfl,n,os,rfl⟩;refine⟨rfl,Tch.putRowG _ _ _ _ _ _ _,λi h=>?_⟩;have hsz:(ss.mergeSort λx y=>decide (x<=y)).toArray.size=ss.toArray.size:=by simp
 have:=Go.Sort.holds_putRow Go.Proofs.encStr (Go.Sort.ahead w n) g 0 ss.toArray (ss.mergeSort λx y=>decide (x<=y)).toArray (Go.Sort.holds_ahead _ _ _ _ _ _ hH) hsz;have h2:=(Go.Sort.holds_grow _ _ os g 0 _ (by simpa using hgl) this i (by simpa using h)).1;rw[Nat.zero_add]at h2;rw[h2,getElem!_pos _ i (by simpa using h)];rfl
set_option maxRecDepth 100000
set_option maxHeartbeats 2000000

theorem Jih:∀(a b:List UInt8),¬b<a->a ≠ b->Lib.compareBytes a b<0
 | [],[],_,h=>absurd rfl h
 | [],_::_,_,_=>by simp[Lib.compareBytes]
 | _::_,[],h,_=>absurd (List.nil_lt_cons _ _) h
 | x::xs,y::ys,h,hne=>by
  unfold Lib.compareBytes
  by_cases h1:x<y
  ·simp[h1]
  ·by_cases h2:y<x
   ·exact absurd (List.cons_lt_cons_iff.2 (.inl h2)) h
   ·have e:x=y:=UInt8.le_antisymm (UInt8.not_lt.1 h2) (UInt8.not_lt.1 h1);subst e;simp only[h1,if_false];exact Jih xs ys (λh3=>h (List.cons_lt_cons_iff.2 (.inr ⟨rfl,h3⟩))) (λe=>hne (by rw[e]))
theorem JgQ(ss:List (List UInt8))(hd:ss.Nodup):ZJ ((ss.mergeSort λx y=>decide (x<=y)).map bsL):=by
 have hp:=List.pairwise_mergeSort (le:=λ(x y:List UInt8)=>decide (x<=y)) (λa b c h1 h2=>by simp only[decide_eq_true_eq]at *;exact List.le_trans h1 h2) (λa b=>by simp only[Bool.or_eq_true,decide_eq_true_eq];exact List.le_total a b) ss;have hn:(ss.mergeSort λx y=>decide (x<=y)).Nodup:=(List.mergeSort_perm ss _).nodup_iff.2 hd;generalize (ss.mergeSort λx y=>decide (x<=y))=S at *;intro i hi;have hi':i+1<S.length:=by simpa using hi
 simp only[List.getElem_map,bsL];have h1:=List.pairwise_iff_getElem.1 hp i (i+1) (by omega) hi' (by omega);have h2:S[i] ≠ S[i+1]:=λe=>by
  have:=(List.getElem_inj hn).1 e;omega
 exact Jih _ _ (List.not_lt.2 (by simpa using h1)) h2
theorem XU:∀(a b:List α),a.Nodup->(∀x∈a,x∈b)->a.length<=b.length
 | [],b,_,_=>by simp
 | x::r,b,hd,h=>by
  obtain⟨p,q,rfl⟩:=List.append_of_mem (h x QM);have hr:=List.nodup_cons.1 hd;have h3:=XU r (p++q) hr.2 (λy hy=>by
   have h1:=h y (QP _ hy);have h2:y ≠ x:=λe=>hr.1 (e ▸ hy);simp only[QE,List.mem_cons,h2,false_or]at h1 ⊢;exact h1)
  simp only[Qe,Qp]at h3 ⊢;omega
def Yj(al:List Jj)(k:Nat):List BA:=(al.take k).map (λx=>bsL (txtN x))++List.replicate (al.length-k) ⟨#[]⟩
theorem Jhj(al:List Jj):Yj al 0=List.replicate al.length ⟨#[]⟩:=by simp[Yj]
theorem Ji5(al:List Jj):Yj al al.length=(al.map txtN).map bsL:=by simp[Yj]
theorem Jej(al:List Jj)(k:Nat)(hk:k<=al.length):(Yj al k).length=al.length:=by
 simp[Yj];omega
theorem Ji6(al:List Jj)(k:Nat)(hk:k<al.length):(Yj al k).set k (bsL (txtN al[k]))=Yj al (k+1):=by
 apply List.ext_getElem?;intro i;have hl:(Yj al k).length=al.length:=Jej al k (by omega);have e:∀j,j<=al.length->∀i,(Yj al j)[i]? =if i<j then (al[i]?).map (λx=>bsL (txtN x)) else if i<al.length then some ⟨#[]⟩ else none:=by
  intro j hj i;unfold Yj
  by_cases h1:i<j
  ·rw[QF (by simp;omega),if_pos h1,List.getElem?_map,List.getElem?_take_of_lt h1]
  ·rw[Qz (by simp;omega),if_neg h1,List.getElem?_replicate];simp only[QL,QB]
   by_cases h2:i<al.length
   ·rw[if_pos (by omega),if_pos h2]
   ·rw[if_neg (by omega),if_neg h2]
 rw[e (k+1) (by omega),List.getElem?_set]
 by_cases hki:k=i
 ·subst hki;rw[if_pos rfl,if_pos (by omega),if_pos (by omega),Qd hk];rfl
 ·rw[if_neg hki,e k (by omega)]
  by_cases h1:i<k
  ·rw[if_pos h1,if_pos (by omega)]
  ·simp only[h1,show ¬i<k+1 by omega,if_false]
theorem YG.shape(h:YG base w v l):∃a c,v=.slice a l.length c:=by
 obtain⟨_,⟨h,h0⟩|⟨_,_,_,h,_⟩⟩:=h
 ·exact⟨none,0,by rw[h,h0]⟩
 ·exact⟨_,_,h⟩
theorem Jj4(E:Nat->Addr)(d:List UInt8->BA)(w:World)(hF:∀j,F j->j<w.heap.size)(wj:Nat)(q1 q2:Option Nat)(st1 st2:Option Tr)(hs1:StAt d F w q1 st1)(hw1:∀t,st1=some t->t.Wf)(hK1:∀x∈Jd d st1,YR x)(hs2:StAt d F w q2 st2)(hw2:∀t,st2=some t->t.Wf)(hK2:∀x∈Jd d st2,YR x)(hln:(Jd d st1).length+(Jd d st2).length<=1000000000)
 (hTX:∀x,x∈Jd d st1\/x∈Jd d st2->∀V,Tch NoB w V->Calls prog 154 #[.agg (Jo x),.int .i64 (wj:Int)] V λe w'=>Tch NoB V w'/\e=.returned (.tuple #[.string (bsL (txtN x)),.nilIface]))
 (hsz:∀x,x∈Jd d st1\/x∈Jd d st2->(txtN x).length<65536) (hinj:∀x y,(x∈Jd d st1\/x∈Jd d st2)->(y∈Jd d st1\/y∈Jd d st2)->txtN x=txtN y->x=y)
 (hby:∀L:List (List UInt8),L.Nodup->(∀t∈L,∃x,(x∈Jd d st1\/x∈Jd d st2)/\txtN x=t)->(szsB (L.map bsL)).length<=1000000000000):
  Calls prog 96 #[.agg #[.int .i64 (wj:Int),Jh q1],.agg #[.int .i64 (wj:Int),Jh q2]] w λe w'=>∃L:List (List UInt8),e=.returned (.tuple #[.string ⟨(szsB (L.map bsL)).toArray⟩,.nilIface])/\ZJ (L.map bsL)/\(∀t,t∈L↔∃x,txtN x=t/\((x∈Jd d st1/\x ∉ Jd d st2)\/(x ∉ Jd d st1/\x∈Jd d st2)))/\Tch NoB w w':=by
 obtain⟨rv1,hr1⟩:∃rv,Jh q1=.pointer rv:=⟨_,rfl⟩
 obtain⟨rv2,hr2⟩:∃rv,Jh q2=.pointer rv:=⟨_,rfl⟩
 have HAL:Hid (∀V,Tch NoB w V->Calls prog 153 #[.agg #[.int .i64 (wj:Int),.pointer rv1],.agg #[.int .i64 (wj:Int),.pointer rv2]] V λe w'=>∃al v,e=.returned v/\(al.Nodup/\∀x,x∈al↔(x∈Jd d st1/\x ∉ Jd d st2)\/(x ∉ Jd d st1/\x∈Jd d st2))/\YG V.heap.size w' v al/\Tch NoB V w'):=λV hT=>by
  have:=JiK d V (λj hj=>Qk (hF j hj) hT.size) wj wj q1 q2 st1 st2 (hs1.next hT) hw1 hK1 (hs2.next hT) hw2 hK2 hln;rw[hr1,hr2]at this;exact this
 rw[hr1,hr2];have HU:Hid (((Jd d st1).length+(Jd d st2).length<=1000000000)/\(∀x,x∈Jd d st1\/x∈Jd d st2->∀V,Tch NoB w V->Calls prog 154 #[.agg (Jo x),.int .i64 (wj:Int)] V λe w'=>Tch NoB V w'/\e=.returned (.tuple #[.string (bsL (txtN x)),.nilIface]))/\(∀x,x∈Jd d st1\/x∈Jd d st2->(txtN x).length<65536)/\(∀x y,(x∈Jd d st1\/x∈Jd d st2)->(y∈Jd d st1\/y∈Jd d st2)->txtN x=txtN y->x=y)/\(∀L:List (List UInt8),L.Nodup->(∀t∈L,∃x,(x∈Jd d st1\/x∈Jd d st2)/\txtN x=t)->(szsB (L.map bsL)).length<=1000000000000)):=⟨hln,hTX,hsz,hinj,hby⟩
 clear hF hs1 hw1 hK1 hs2 hw2 hK2 hln hTX hsz hinj hby hr1 hr2;go_enter func96,ntmps96;go_wp2_with fail;refine(HAL.o _ (Tch.allocs _ _ _ _)).mono ?_;rintro _ w1⟨al,v1,rfl,hal,hown,ht1⟩;obtain⟨a1,c1,hv1⟩:=hown.shape;obtain⟨n,hn⟩:∃n,n=al.length:=⟨_,rfl⟩
 rw[<-hn]at hv1;subst hv1;have hU:∀x∈al,x∈Jd d st1\/x∈Jd d st2:=λx hx=>by
  rcases(hal.2 x).1 hx with h|h
  ·exact .inl h.1
  ·exact .inr h.2
 have hnb:n<=1000000000:=by
  have h1:=HU.o.1;have h2:al.length<=(Jd d st1++Jd d st2).length:=by have h3:∀x∈al,x∈Jd d st1++Jd d st2:=λx hx=>QE.2 (hU x hx);exact XU _ _ hal.1 h3
  rw[Qe]at h2;omega
 have HN:Hid (n=al.length):=hn;have HA:Hid ((al.Nodup/\∀x,x∈al↔(x∈Jd d st1/\x ∉ Jd d st2)\/(x ∉ Jd d st1/\x∈Jd d st2))/\∀x∈al,x∈Jd d st1\/x∈Jd d st2):=⟨hal,hU⟩
 have tw1:Tch NoB w w1:=(Tch.allocs _ _ _ _).go ht1;have c0:w1.cell? ⟨w.heap.size,0,none⟩=some (.int .i64 (wj:Int)):=Ja ((ht1.block _ (by simp;omega) (λh=>h)).trans (heap_alloc2_old _ _ _));have hlt0:w.heap.size<w1.heap.size:=Qr _ _ c0;have hmk:=JmH n hnb w1;obtain⟨WT,hWT⟩:∃WT,WT=w1.alloc (.cells (strR (List.replicate n ⟨#[]⟩)) 9):=⟨_,rfl⟩
 have tA:Tch NoB w1 WT:=by rw[hWT];exact Ta _ _ _
 have HR0:Hid (WT.heap[w1.heap.size]? =some (.cells (strR (Yj al 0)) 9)):=by show WT.heap[w1.heap.size]? =_;rw[hWT,Jhj,<-hn];exact Qf _ _
 rw[<-hWT]at hmk;have HTW:Hid (Tch NoB w WT):=tw1.go tA;have HC0:Hid (∀V,Tch (λj=>j=w1.heap.size) WT V->V.cell? ⟨w.heap.size,0,none⟩=some (.int .i64 (wj:Int))):=λV hT=>(hT.cell (p:=⟨w.heap.size,0,none⟩) (Qk hlt0 tA.size) (by show ¬w.heap.size=w1.heap.size;omega)).trans ((tA.cell (p:=⟨w.heap.size,0,none⟩) hlt0 (λh=>h)).trans c0);have HND:Hid (∀k (hk:k<al.length),∃gi,a1=some ⟨gi,0,none⟩/\gi<w1.heap.size/\∀V,Tch (λj=>j=w1.heap.size) WT V->∀c,c<7->V.cell? ⟨gi,k*7+c,none⟩=(Jo al[k])[c]?):=λk hk=>by
  obtain⟨gi,cap,hv,_,hlt,hc⟩:=hown.at (λe=>by rw[e]at hk;simp at hk)
  cases hv
  refine⟨gi,rfl,hlt,λV hT c hc7=>?_⟩;rw[<-hc k hk c hc7];exact(hT.cell (p:=⟨gi,k*7+c,none⟩) (Qk hlt tA.size) (by show ¬gi=w1.heap.size;omega)).trans (tA.cell (p:=⟨gi,k*7+c,none⟩) hlt (λh=>h))
 clear hal hU hown ht1 hn tA hWT HAL;go_wp2;go_loopw [21] (λi wr=>∃k:Nat,k<=n/\i=.int .i64 (k:Int)/\Hid (wr.heap[w1.heap.size]? =some (.cells (strR (Yj al k)) 9))/\Hid (Tch (λj=>j=w1.heap.size) WT wr)) (λi _=>n-(intOf i).toNat)
 case atStart=>exact⟨0,Nat.zero_le _,rfl,HR0,Te _ _⟩
 case round=>
  obtain⟨k,hk,rfl,HR,HT⟩:=hrel
  by_cases hlt:k<n
  ·have hkl:k<al.length:=(by have:=HN.o;omega);obtain⟨gi,hgi,hgl,hcell⟩:=HND.o k hkl;subst hgi;obtain⟨x,hx⟩:∃x,x=al[k]:=⟨_,rfl⟩
   have HX:Hid (x∈al/\(Yj al k).set k (bsL (txtN x))=Yj al (k+1)):=⟨by rw[hx];exact Qx hkl,by rw[hx];exact Ji6 al k hkl⟩
   have hq:=hcell wr HT.o;rw[<-hx]at hq;obtain⟨t,ht⟩:∃t,t=bsL (txtN x):=⟨_,rfl⟩
   have HTX:Hid (∀V,Tch (λj=>j=w1.heap.size) WT V->Calls prog 154 #[.agg (Jo x),.int .i64 (wj:Int)] V λe w'=>Tch NoB V w'/\e=.returned (.tuple #[.string t,.nilIface])):=λV hT=>by
    rw[ht];exact HU.o.2.1 x (HA.o.2 x HX.o.1) V (HTW.o.trans hT (λj hj=>.inr (by have:=HTW.o.size;omega)))
   have HTE:Hid (t=bsL (txtN x)):=ht;have c0':=HC0.o wr HT.o;have hki:(k:Int)<(n:Int):=(by omega);have hfl:=Jej al k (by omega);have HSL:Hid (k<(strR (Yj al k)).size):=(by show k<_;simp[strR,hfl];omega);obtain⟨n1,n2,⟨n3,n4⟩,n5,n6,n7⟩:=x;have q0:wr.cell? ⟨gi,k*7,none⟩=some (.string n1):=hq 0 (by omega);have q1:wr.cell? ⟨gi,k*7+1,none⟩=some (.string n2):=hq 1 (by omega);have q2:wr.cell? ⟨gi,k*7+2,none⟩=some (.int .u64 (n3:Int)):=hq 2 (by omega);have q3:wr.cell? ⟨gi,k*7+3,none⟩=some (.int .u8 (n4:Int)):=hq 3 (by omega);have q4:wr.cell? ⟨gi,k*7+4,none⟩=some (.int .i64 n5):=hq 4 (by omega);have q5:wr.cell? ⟨gi,k*7+5,none⟩=some (.string n6):=hq 5 (by omega);have q6:wr.cell? ⟨gi,k*7+6,none⟩=some (.string n7):=hq 6 (by omega);simp only[Jo]at HTX;have tB:=Ta (λj=>j=w1.heap.size) wr (.cells #[.string n1,.string n2,.int .u64 (n3:Int),.int .u8 (n4:Int),.int .i64 n5,.string n6,.string n7] 281);have HTB:Hid (Tch (λj=>j=w1.heap.size) WT (wr.alloc (.cells #[.string n1,.string n2,.int .u64 (n3:Int),.int .u8 (n4:Int),.int .i64 n5,.string n6,.string n7] 281))):=HT.o.trans tB (λ_ h=>.inl h);have c0A:=HC0.o _ HTB.o;have HRB:Hid ((wr.alloc (.cells #[.string n1,.string n2,.int .u64 (n3:Int),.int .u8 (n4:Int),.int .i64 n5,.string n6,.string n7] 281)).heap[w1.heap.size]? =some (.cells (strR (Yj al k)) 9)):=((Ta NoB wr _).block _ (Jb HR.o) (λh=>h)).trans HR.o;clear hq hcell hx ht hkl hfl hmk tB;go_wp2_with fail;refine(HTX.o _ HTB.o).mono ?_;rintro _ w2⟨ht2,rfl⟩;have hrow:=(ht2.block _ (Jb HRB.o) (λh=>h)).trans HRB.o;have hfz:w2.frozen? ⟨w1.heap.size,k,none⟩=false:=Qg _ _ _ _ _ hrow;have hcs:(w2.cell? ⟨w1.heap.size,k,none⟩).isSome=true:=(by rw[Ja hrow,Array.getElem?_eq_getElem HSL.o];rfl);obtain⟨u,hcu⟩:=Option.isSome_iff_exists.1 hcs;have hset:w2.setCell ⟨w1.heap.size,k,none⟩ (.string t)=w2.setRow w1.heap.size (strR (Yj al (k+1))):=(by rw[Qj _ _ _ _ _ _ _ hrow,JlO,HTE.o,HX.o.2]);have HW3:Hid ((w2.setRow w1.heap.size (strR (Yj al (k+1)))).heap[w1.heap.size]? =some (.cells (strR (Yj al (k+1))) 9)/\Tch (λj=>j=w1.heap.size) WT (w2.setRow w1.heap.size (strR (Yj al (k+1))))):=⟨Qi _ _ _ _ _ _ hrow,(HTB.o.trans ht2 noE).trans (Ts _ _ _) (λ_ h=>.inl h)⟩
   clear ht2 hrow hcs HRB HTB HTX c0A;go_wp2;go_roundw
   case rel=>exact⟨k+1,hlt,by go_num,HW3.o.1,HW3.o.2⟩
   case measure=>simp[intOf];omega
  ·have hki:¬(k:Int)<(n:Int):=(by omega);have hkn:k=al.length:=(by have:=HN.o;omega);have HRF:Hid (wr.heap[w1.heap.size]? =some (.cells (strR ((al.map txtN).map bsL)) 9)):=by
    show wr.heap[w1.heap.size]? =_;rw[<-Ji5,<-hkn];exact HR.o
   obtain⟨ss,hss⟩:∃ss,ss=al.map txtN:=⟨_,rfl⟩
   have hsl:ss.length=n:=(by rw[hss,QL];exact HN.o.symm);obtain⟨S,hS⟩:∃S,S=ss.mergeSort λx y=>decide (x<=y):=⟨_,rfl⟩
   have hSl:S.length=n:=(by rw[hS,List.length_mergeSort,hsl]);have hnd:ss.Nodup:=(by rw[hss];exact List.Pairwise.map _ (λa c h=>h) (List.Pairwise.imp_of_mem (λ{a c} ha hc hne e=>hne (HU.o.2.2.2.1 a c (HA.o.2 a ha) (HA.o.2 c hc) e)) HA.o.1.1));have hmem:∀t,t∈S↔∃x∈al,txtN x=t:=λt=>by rw[hS,List.mem_mergeSort,hss,QK]
   have HF:Hid (ZJ (S.map bsL)/\S.Nodup/\∀t,t∈S↔∃x∈al,txtN x=t):=⟨by rw[hS];exact JgQ ss hnd,by rw[hS];exact(List.mergeSort_perm ss _).nodup_iff.2 hnd,hmem⟩
   have HSO:Hid (Calls prog 155 #[.slice (some ⟨w1.heap.size,0,none⟩) n n] wr λe w'=>e=.returned (.tuple #[])/\Tch (λj=>j=w1.heap.size) wr w'/\∀i (h:i<S.length),w'.cell? ⟨w1.heap.size,i,none⟩=some (.string (bsL S[i]))):=(by have:=JjO w1.heap.size n ss wr (by rw[hss];exact HRF.o) (by omega);rw[hsl]at this;subst hS;exact this);have c0':=HC0.o wr HT.o;clear hkn hmk hss hsl hS hnd hmem;go_wp2_with fail;refine HSO.o.mono ?_;rintro _ w2⟨rfl,ht2,hc2⟩;have HT2:Hid (Tch (λj=>j=w1.heap.size) WT w2):=HT.o.trans ht2 (λ_ h=>.inl h);have c02:=HC0.o w2 HT2.o;have HC2:Hid (∀i (h:i<S.length),w2.cell? ⟨w1.heap.size,i,none⟩=some (.string (bsL S[i]))):=hc2;have HL2:Hid (w1.heap.size<w2.heap.size):=Qk (Jb HR.o) ht2.size;clear ht2 hc2 HSO c0' HR HRF HT;go_wp2_with fail;refine(Xf (wj:Int) w2).mono ?_;rintro _ w3⟨rfl,hp3,ht3⟩;have HDW:Hid (Calls prog 156 #[.pointer (some ⟨w2.heap.size,0,none⟩),.slice (some ⟨w1.heap.size,0,none⟩) n n] w3 λe w'=>(∃v',e=.returned v')/\JY w3 w' w2.heap.size none (wj:Int) (.wr (szsB (S.map bsL)))):=by
    have hv:TxAt w2.heap.size w3 (.slice (some ⟨w1.heap.size,0,none⟩) n n) (S.map bsL):=(by refine .inr ⟨w1.heap.size,0,n,by rw[QL,hSl],HL2.o,Qk HL2.o ht3.size,λi h=>?_⟩;have h':i<S.length:=(by simpa using h);have c:=HC2.o i h';rw[Nat.zero_add,List.getElem_map];exact(ht3.cell (p:=⟨w1.heap.size,i,none⟩) HL2.o (λh=>h)).trans c);have hU:∀t∈S,∃x,(x∈Jd d st1\/x∈Jd d st2)/\txtN x=t:=λt ht=>by
     obtain⟨x,hx,e⟩:=(HF.o.2.2 t).1 ht;exact⟨x,HA.o.2 x hx,e⟩
    have:=JdT E w2.heap.size none (wj:Int) _ (S.map bsL) [] w3 hp3 hv (λt ht=>by
     obtain⟨y,hy,rfl⟩:=QK.1 ht;obtain⟨x,hx,rfl⟩:=hU y hy;have h1:=HU.o.2.2.1 x hx;have e:(bsL (txtN x)).size=(txtN x).length:=(by simp[bsL,ByteArray.size]);omega) HF.o.1 (by rw[QL];omega) (by rw[List.nil_append];exact HU.o.2.2.2.2 S HF.o.2.1 hU)
    rw[List.nil_append]at this;exact this
   have HT3:Hid (Tch NoB w w3):=(HTW.o.trans HT2.o (λj hj=>.inr (by have:=HTW.o.size;omega))).go ht3;have HZ3:Hid (w.heap.size<=w2.heap.size):=Qm HTW.o.size HT2.o.size;clear hp3 ht3 c02 HC2;go_wp2_with fail;refine HDW.o.mono ?_;rintro _ w4⟨⟨v',rfl⟩,g4,hp4,hm4,ht4⟩;have HDN:Hid (Calls prog 79 #[.pointer (some ⟨w2.heap.size,0,none⟩)] w4 λe w'=>Tch NoB w4 w'/\e=.returned (.tuple #[.string ⟨(szsB (S.map bsL)).toArray⟩,.nilIface])):=Zl E w2.heap.size g4 (wj:Int) (some (.wr (szsB (S.map bsL)))) (λp h=>by cases h;exact⟨_,rfl⟩) w4 hp4;have HT4:Hid (Tch NoB w w4):=HT3.o.trans ht4 (λj hj=>by
    rcases hj with rfl|hj
    ·exact .inr HZ3.o
    ·cases hj)
   clear hp4 hm4 ht4 HDW;go_wp2_with fail;refine HDN.o.mono ?_;rintro _ w5⟨ht5,rfl⟩;have HT5:Hid (Tch NoB w w5):=HT4.o.go ht5;clear ht5 HDN;go_wp2;go_ret2;refine⟨S,rfl,HF.o.1,λt=>?_,HT5.o⟩;rw[HF.o.2.2 t];constructor
   ·rintro⟨x,hx,e⟩;exact⟨x,e,(HA.o.1.2 x).1 hx⟩
   ·rintro⟨x,e,hx⟩;exact⟨x,(HA.o.1.2 x).2 hx,e⟩

theorem JkN{r:Nat}{bs:List BV}(h:JB w cb wj fl r bs v)(a b:Nat)(ba bb:BV)(ha:bs[a]? =some ba)(hb:bs[b]? =some bb)(hfa:fl<=a)(hfb:fl<=b)(hwa:ba.2.1=wj)(hwb:bb.2.1=wj)(P:BA->Prop)
 (hD:∀V,Tch NoB w V->Calls prog 96 #[Jv wj ba.2.2,Jv wj bb.2.2] V λe w'=>∃s,e=.returned (.tuple #[.string s,.nilIface])/\P s/\Tch NoB V w'):
  Calls prog 55 #[.pointer (some ⟨cb,0,none⟩),.int .i64 (a:Int),.int .i64 (b:Int)] w λe w'=>∃s,e=.returned (.tuple #[.string s,.nilIface])/\P s/\Tch NoB w w':=by
 have HA:Hid (∀W,Tch NoB w W->Calls prog 92 _ W _):=λW hT=>Jbl (h.next hT) a ba ha hfa;have HB:Hid (∀W,Tch NoB w W->Calls prog 92 _ W _):=λW hT=>Jbl (h.next hT) b bb hb hfb;rw[hwa]at HA;rw[hwb]at HB;obtain⟨ra,hra⟩:∃rv,Jv wj ba.2.2=.agg #[.int .i64 (wj:Int),.pointer rv]:=⟨_,rfl⟩
 obtain⟨rb,hrb⟩:∃rv,Jv wj bb.2.2=.agg #[.int .i64 (wj:Int),.pointer rv]:=⟨_,rfl⟩
 have HD:Hid (∀V,Tch NoB w V->Calls prog 96 _ V _):=hD;rw[hra]at HA HD;rw[hrb]at HB HD;clear h ha hb hwa hwb hra hrb hD;go_enter func55,ntmps55;go_wp2_with fail;refine(HA.o w (Te _ _)).mono ?_;rintro _ w1⟨rfl,ht1⟩;have tA:=Ta NoB w1 (.cells #[.int .i64 (wj:Int),.pointer ra] 146);have HT1:Hid (Tch NoB w (w1.alloc (.cells #[.int .i64 (wj:Int),.pointer ra] 146))):=ht1.go tA;clear ht1 tA HA;go_wp2_with fail;refine(HB.o _ HT1.o).mono ?_;rintro _ w2⟨rfl,ht2⟩;have r1:w2.heap[w1.heap.size]? =some (.cells #[.int .i64 (wj:Int),.pointer ra] 146):=(ht2.block _ (by simp) (λh=>h)).trans (Qf _ _);have c0:w2.cell? ⟨w1.heap.size,0,none⟩=some (.int .i64 (wj:Int)):=Ja r1;have c1:w2.cell? ⟨w1.heap.size,1,none⟩=some (.pointer ra):=Ja r1;have hz:=(Jb r1)
 have HT2:Hid (Tch NoB w (w2.alloc (.cells #[.int .i64 (wj:Int),.pointer rb] 146))):=(HT1.o.go ht2).go (Ta _ _ _);clear ht2 r1 HB HT1;go_wp2_with fail;refine(HD.o _ HT2.o).mono ?_;rintro _ w3⟨s,rfl,hP,ht3⟩;have HP:Hid (P s/\Tch NoB w w3):=⟨hP,HT2.o.go ht3⟩
 clear hP ht3 HD c0 c1;go_wp2;go_ret2;exact⟨s,rfl,HP.o.1,HP.o.2⟩
theorem Ji1(hl:w.cell? ⟨lb,0,none⟩=some (.pointer (some ⟨cb,0,none⟩)))(a b:Int)(P:BA->Prop)(h:Calls prog 55 #[.pointer (some ⟨cb,0,none⟩),.int .i64 a,.int .i64 b] w λe w'=>∃s,e=.returned (.tuple #[.string s,.nilIface])/\P s/\Tch NoB w w'):
  Calls prog 27 #[.pointer (some ⟨lb,0,none⟩),.int .i64 a,.int .i64 b] w λe w'=>∃s,e=.returned (.tuple #[.string s,.int .i64 0])/\P s/\Tch NoB w w':=by
 have H:Hid (Calls prog 55 _ w _):=h;clear h;go_enter func27,ntmps27;go_wp2_with fail;refine H.out.mono ?_;rintro _ w1⟨s,rfl,hP,ht⟩;have HP:Hid (P s/\Tch NoB w w1):=⟨hP,ht⟩
 clear hP ht H;go_wp2_with fail;refine(ZN _).mono ?_;rintro _ _⟨rfl,rfl⟩;go_wp2;go_ret2;exact⟨s,rfl,HP.o.1,HP.o.2⟩

def XN(wj:Nat)(x:Jj):Prop:=x=(⟨#[69]⟩,⟨#[]⟩,(0,0),0,⟨#[]⟩,⟨#[]⟩)\/∃t,x=JF (dgW wj) t/\TrOk wj t
theorem Yr{st:Option Tr}(h:StOk wj st):∀x∈Jd (dgW wj) st,XN wj x:=by
 cases st with
 | none=>intro x hx;rw[Jd,Qt]at hx;exact .inl hx
 | some t=>
  intro x hx;obtain⟨s,h1,h2,_⟩:=(YT (dgW wj) t h).1 x hx;exact .inr ⟨s,h1,h2⟩
theorem ZM(hw:wj<=32)(t:Tr):(Tr.dig (dgW wj) t).size=wj:=by cases t using Tr.ri<;>exact Jz wj hw _
theorem Jhf(wj:Nat):ZV (XJ wj (⟨#[69]⟩,⟨#[]⟩,(0,0),0,⟨#[]⟩,⟨#[]⟩) (some (.wr []))).2=some [69]:=by
 rfl
theorem Jju(E:Nat->Addr)(hw:wj<=32)(h:XN wj x)(w:World)(hE:Env E w):
  Calls Tryz.prog 154 #[.agg (Jo x),.int .i64 (wj:Int)] w λe w'=>Tch NoB w w'/\e=.returned (.tuple #[.string (bsL (txtN x)),.nilIface]):=by
 rcases h with rfl|⟨t,rfl,ht⟩
 ·have:=Zh E wj (by omega) (⟨#[69]⟩,⟨#[]⟩,(0,0),0,⟨#[]⟩,⟨#[]⟩) (show (0:Nat)<256 by decide) w hE;rw[Jhf]at this;exact this
 ·rw[Xh]
  cases t using Tr.ri with
  | leaf k o=>
   have:=Zh E wj (by omega) (⟨#[76]⟩,⟨k.toArray⟩,o,0,⟨#[]⟩,⟨#[]⟩) ht.2.2.2 w hE;rw[Jeq wj k o ht]at this;exact this
  | br b l r=>
   have:=Zh E wj (by omega) (⟨#[78]⟩,⟨#[]⟩,(0,0),(b:Int),Tr.dig (dgW wj) l,Tr.dig (dgW wj) r) (show (0:Nat)<256 by decide) w hE;rw[Jif wj b _ _ (by omega) ht.1 (ZM hw l) (ZM hw r)]at this;exact this
theorem Zx(hw:wj<=32)(h:XN wj x):(txtN x).length<=100:=by
 rcases h with rfl|⟨t,rfl,ht⟩
 ·decide
 ·rw[Xh]
  cases t using Tr.ri with
  | leaf k o=>
   have:=ht.1;simp only[Tr.text,Qp,Qe,outB,Jf];omega
  | br b l r=>
   have h1:=ZM hw l;have h2:=ZM hw r;simp only[Tr.text,Qp,Qe,Jf,JT];omega
theorem JdO(hw:wj<=32){y:Jj}(hx:XN wj x)(hy:XN wj y)(h:txtN x=txtN y):x=y:=by
 rcases hx with rfl|⟨s,rfl,hs⟩
 ·rcases hy with rfl|⟨t,rfl,ht⟩
  ·rfl
  ·rw[Xh]at h
   cases t using Tr.ri<;>(unfold Tr.text at h;simp[txtN]at h)
 ·rcases hy with rfl|⟨t,rfl,ht⟩
  ·rw[Xh]at h
   cases s using Tr.ri<;>(unfold Tr.text at h;simp[txtN]at h)
  ·rw[Xh,Xh]at h;exact JlS hw s t hs ht h
theorem JeI(L:List BA)(h:∀t∈L,t.size<=100):(szsB L).length<=102*L.length:=by
 induction L with
 | nil=>simp[szsB]
 | cons x r ih=>
  have h1:=ih (λt ht=>h t (QP _ ht));have h2:=h x QM;simp only[szsB,QG,Qe,JbQ,Qp]at h1 ⊢;omega
def JeL(wj:Nat)(st1 st2:Option Tr)(L:List (List UInt8)):Prop:=ZJ (L.map bsL)/\∀t,t∈L↔∃x,txtN x=t/\((x∈Jd (dgW wj) st1/\x ∉ Jd (dgW wj) st2)\/(x ∉ Jd (dgW wj) st1/\x∈Jd (dgW wj) st2))
theorem Jjj(E:Nat->Addr)(wj base:Nat){pn:Nat}{ch:Ch}(a b:Nat)(ca cb':BA×Option Tr)(hA:LAt wj base pn w lb F fl ch)(hF:Xm E base w)(ha:ch[a]? =some ca)(hb:ch[b]? =some cb')(hfa:fl<=a)(hfb:fl<=b)(hoa:StOk wj ca.2/\∀t,ca.2=some t->t.Wf)(hob:StOk wj cb'.2/\∀t,cb'.2=some t->t.Wf)(hln:(Jd (dgW wj) ca.2).length+(Jd (dgW wj) cb'.2).length<=1000000000):
  Calls Tryz.prog 27 #[.pointer (some ⟨lb,0,none⟩),.int .i64 (a:Int),.int .i64 (b:Int)] w λe w'=>∃s,e=.returned (.tuple #[.string s,.int .i64 0])/\(∃L,s=⟨(szsB (L.map bsL)).toArray⟩/\JeL wj ca.2 cb'.2 L)/\Tch NoB w w':=by
 obtain⟨⟨_,hw⟩,lg,cb,r,bs,lv,C⟩:=hA;have hl:w.cell? ⟨lb,0,none⟩=some (.pointer (some ⟨cb,0,none⟩)):=Ja C.led;have hal:=(Qo.1 ha).1;have hbl:=(Qo.1 hb).1;have hba:bs[a]? =some (bs[a]'(by rw[C.len];exact hal)):=Qd _;have hbb:bs[b]? =some (bs[b]'(by rw[C.len];exact hbl)):=Qd _;obtain⟨a1,a2,_⟩:=C.st a _ ca hba ha hfa;obtain⟨b1,b2,_⟩:=C.st b _ cb' hbb hb hfb;have hof:∀x,x∈Jd (dgW wj) ca.2\/x∈Jd (dgW wj) cb'.2->XN wj x:=λx hx=>by
  rcases hx with hx|hx
  ·exact Yr hoa.1 x hx
  ·exact Yr hob.1 x hx
 refine Ji1 hl (a:Int) (b:Int) _ (JkN C.row a b _ _ hba hbb hfa hfb a1 b1 _ (λV hT=>?_));refine(Jj4 E (dgW wj) (F:=F) V ?_ wj _ _ ca.2 cb'.2 (a2.next hT) hoa.2 (JeG hw _ hoa.1) (b2.next hT) hob.2 (JeG hw _ hob.1) hln (λx hx U hU=>Jju E hw (hof x hx) U ((hF.tch hT (λ_ e=>e.elim)).env.tch hU (λ_ e=>e.elim))) (λx hx=>by have:=Zx hw (hof x hx);omega) (λx y hx hy h=>JdO hw (hof x hx) (hof y hy) h) (λL hd hL=>?_)).mono ?_
 ·exact λj hj=>Qk (C.low j hj).2 hT.size
 ·have h1:=XU L ((Jd (dgW wj) ca.2++Jd (dgW wj) cb'.2).map txtN) hd (λt ht=>by
   obtain⟨x,hx,rfl⟩:=hL t ht;exact List.mem_map_of_mem (QE.2 hx))
  have h2:=JeI (L.map bsL) (λt ht=>by
   obtain⟨y,hy,rfl⟩:=QK.1 ht;obtain⟨x,hx,rfl⟩:=hL y hy;have h3:=Zx hw (hof x hx);have e:(bsL (txtN x)).size=(txtN x).length:=(by simp[bsL,ByteArray.size]);omega)
  simp only[QL,Qe]at h1 h2;omega
 ·rintro e w'⟨L,rfl,h1,h2,h3⟩;exact⟨_,rfl,⟨L,rfl,h1,h2⟩,h3⟩

theorem JaJ(s q a r:List UInt8)(k:Nat)(h:a.length=k):Jl s k (some (.rd q (a++r)))=(a,some (.rd (q++a) r)):=by
 subst h;have e:(PS.rd q (a++r)).txt s a.length=some (a,.rd (q++a) r):=by simp[PS.txt]
 simp[Jl,e]
theorem JdE(x:Nat)(q r:List UInt8)(n k:Nat)(h:n<2 ^ (8*k)):JQ x k (some (.rd q (beL n k k++r)))=(n,some (.rd (q++beL n k k) r)):=by
 have hl:(beL n k k).length=k:=Jf _ _ _;have hb:numL (beL n k k)=n:=by rw[Jab n k h k (Ql _),Nat.sub_self];simp
 have e:(PS.rd q (beL n k k++r)).num x k=some (n,.rd (q++beL n k k) r):=by simp only[PS.num];rw[if_pos (by simp[hl]),List.take_left' hl,List.drop_left' hl,hb]
 simp[JQ,e]
theorem JjI(hw:wj<=32)(h:XN wj x):∃q,XJ wj Xc (some (.rd [] (txtN x)))=(x,some (.rd q [])):=by
 rcases h with rfl|⟨t,rfl,ht⟩
 ·exact⟨[69],rfl⟩
 ·rw[Xh]
  cases t using Tr.ri with
  | leaf k o=>
   have h1:Jl Xc.1.data.toList 1 (some (.rd [] (Tr.text (dgW wj) (.leaf k o))))=([76],some (.rd [76] (k++outB o))):=JaJ _ [] [76] (k++outB o) 1 rfl;have h2:Zv wj Xc.2.1.data.toList (some (.rd [76] (k++outB o)))=(k,some (.rd ([76]++k) (outB o))):=(by unfold Zv;rw[JaJ _ [76] k (outB o) (wj+1) ht.1];simp only;rw[if_neg (by have:=ht.2.1;omega)]);have h3:stO Xc.2.2.1 (some (.rd ([76]++k) (outB o)))=(o,some (.rd ([76]++k++beL o.1 8 8++beL o.2 1 1) [])):=(by unfold stO outB;rw[JdE _ ([76]++k) (beL o.2 1 1) o.1 8 (by have:=ht.2.2.1;omega)];have:=JdE Xc.2.2.1.2 ([76]++k++beL o.1 8 8) [] o.2 1 (by have:=ht.2.2.2;omega);rw[QC]at this;simp only[this]);refine⟨[76]++k++beL o.1 8 8++beL o.2 1 1,?_⟩;unfold XJ XV;rw[h1];simp only[h2,h3];rfl
  | br b l r=>
   have hl:=(JT (Tr.dig (dgW wj) l)).trans (ZM hw l);have hr:=(JT (Tr.dig (dgW wj) r)).trans (ZM hw r);have h1:Jl Xc.1.data.toList 1 (some (.rd [] (Tr.text (dgW wj) (.br b l r))))=([78],some (.rd [78] (beL b 2 2++((Tr.dig (dgW wj) l).data.toList++(Tr.dig (dgW wj) r).data.toList)))):=JaJ _ [] [78] _ 1 rfl;have h2:Zc wj Xc.2.2.2.1 (some (.rd [78] (beL b 2 2++((Tr.dig (dgW wj) l).data.toList++(Tr.dig (dgW wj) r).data.toList))))=(b,some (.rd ([78]++beL b 2 2) ((Tr.dig (dgW wj) l).data.toList++(Tr.dig (dgW wj) r).data.toList))):=(by unfold Zc;rw[JdE _ [78] _ b 2 (by have:=ht.1;omega)];simp only;rw[if_neg (by have:=ht.1;omega)]);have h3:=JaJ Xc.2.2.2.2.1.data.toList ([78]++beL b 2 2) (Tr.dig (dgW wj) l).data.toList (Tr.dig (dgW wj) r).data.toList wj hl;have h4:=JaJ Xc.2.2.2.2.2.data.toList ([78]++beL b 2 2++(Tr.dig (dgW wj) l).data.toList) (Tr.dig (dgW wj) r).data.toList [] wj hr;rw[QC]at h4;refine⟨[78]++beL b 2 2++(Tr.dig (dgW wj) l).data.toList++(Tr.dig (dgW wj) r).data.toList,?_⟩;unfold XJ stBr;rw[h1];simp only[h2,h3,h4];rfl

theorem Jfz:KLw 9:=KLw.str underlying9
theorem byTy:MpTy 262 9 281 (.agg (Jo Xc)):=⟨underlying262,Jfz,λw=>by kernel_rfl⟩
theorem Jew:MpTy 268 9 80 (.agg #[.int .u64 0,.int .u8 0]):=⟨underlying268,Jfz,λw=>by kernel_rfl⟩
theorem Jgt:MpTy 267 9 288 (.agg #[]):=⟨underlying267,Jfz,λw=>by kernel_rfl⟩
section
variable {α:Type}{enc:α->Value}{l:List (BA×α)}{s:BA}{a:α}{m e:TypeId}{z:Value}{w:World}{p:Nat}
def smE(enc:α->Value)(l:List (BA×α)):List (Value×Value):=l.map λq=>(.string q.1,enc q.2)
theorem Je5(s:BA):IsK 9 (.string s):=.inr ⟨underlying9,s,rfl⟩
theorem JcS:∀q∈smE enc l,IsK 9 q.1:=λq hq=>by
 obtain⟨x,_,rfl⟩:=QK.1 hq;exact Je5 _
theorem JlD:(smE enc l).map (·.1)=(l.map (·.1)).map Value.string:=by simp[smE]
theorem JgP(h:(l.map (·.1)).Nodup):((smE enc l).map (·.1)).Nodup:=by
 rw[JlD];exact List.Pairwise.map _ (λa b hab e=>hab (by cases e;rfl)) h
theorem JlE(h:s ∉ l.map (·.1)):Value.string s ∉ (smE enc l).map (·.1):=by
 rw[JlD];intro k;obtain⟨x,hx,e⟩:=QK.1 k
 cases e
 exact h hx
theorem Jce(T:MpTy m 9 e z)(h:MpAt w p (smE enc l))(hd:(l.map (·.1)).Nodup)(hq:(s,a)∈l)(c:Bool):(Instr.lookup m (.map (some p)) (.string s) c).run prog w=.ok (if c then .tuple #[enc a,.bool true] else enc a) w:=by
 obtain⟨j,hj⟩:=List.getElem?_of_mem hq;exact Jfj T h JcS (JgP hd) j (by rw[smE,List.getElem?_map,hj];rfl) c
theorem JaW(T:MpTy m 9 e z)(h:MpAt w p (smE enc l))(hn:s ∉ l.map (·.1))(c:Bool):(Instr.lookup m (.map (some p)) (.string s) c).run prog w=.ok (if c then .tuple #[z,.bool false] else z) w:=
 Jip T h (Je5 s) JcS (JlE hn) c
theorem Jfv(T:MpTy m 9 e z)(h:MpAt w p (smE enc l))(hn:s ∉ l.map (·.1)):(Instr.mapUpdate m (.map (some p)) (.string s) (enc a)).run prog w=.ok () (w.setMp p (smE enc (l++[(s,a)])))/\MpAt (w.setMp p (smE enc (l++[(s,a)]))) p (smE enc (l++[(s,a)])):=by
 refine⟨?_,Zu h _⟩;rw[JnK T h (Je5 s) JcS (JlE hn)];simp[smE]
end
abbrev byE(b:ByL):List (Value×Value):=smE (λn=>.agg (Jo n)) b
def Jm4(b:ByL)(d:BA):Prop:=d∈b.map (·.1)
def JaM(b:ByL):Prop:=¬(b.map (·.1)).Nodup
def Er3(w:World):Prop:=(∃t u,w.cell? ⟨12,0,none⟩=some (.iface t u))/\(∃t u,w.cell? ⟨9,0,none⟩=some (.iface t u))/\∃t u,w.cell? ⟨10,0,none⟩=some (.iface t u)
theorem Er3.tch{S:Nat->Prop}{w':World}(h:Er3 w)(k:Tch S w w')(hs:∀j,S j->18<=j):Er3 w':=by
 have hk:∀g,g<18->(∃t u,w.cell? ⟨g,0,none⟩=some (.iface t u))->∃t u,w'.cell? ⟨g,0,none⟩=some (.iface t u):=λg hg ⟨t,u,hc⟩=>⟨t,u,(k.cell (Qr _ _ hc) (λe=>by have:=hs _ e;show False;simp only at this;omega)).trans hc⟩
 exact⟨hk _ (by decide) h.1,hk _ (by decide) h.2.1,hk _ (by decide) h.2.2⟩
theorem Jl3(E:Nat->Addr)(hw1:1<=wj)(hw:wj<=32)(p:Nat)(b:ByL)(i:Value)(hx:XN wj x)(w:World)(hE:Env E w)(hT:Er3 w)(hp12:18<=p)(hm:MpAt w p (byE b))(hd:(b.map (·.1)).Nodup):
  Calls prog 228 #[.agg #[.int .i64 (wj:Int),.map (some p)],i,.string (bsL (txtN x))] w λe w'=>Tch (λj=>j=p) w w'/\((dgW wj (txtN x) ∉ b.map (·.1)/\e=.returned .nilIface/\MpAt w' p (byE (b++[(dgW wj (txtN x),x)])))\/(Jm4 b (dgW wj (txtN x))/\∃t u,e=.returned (.iface t u))):=by
 obtain⟨q,hq⟩:=JjI hw hx;have hlen:=Zx hw hx;have hpl:=(Jb hm)
 obtain⟨W,hW⟩:∃W,W=w.alloc (.cells #[.int .i64 (wj:Int),.map (some p)] 264):=⟨_,rfl⟩
 have tA:Tch NoB w W:=by rw[hW];exact Ta _ _ _
 have r0:W.heap[w.heap.size]? =some (.cells #[.int .i64 (wj:Int),.map (some p)] 264):=by rw[hW];exact Qf _ _
 have HW:Hid (W=_):=hW;have HTA:Hid (Tch NoB w W):=tA;have hsz:W.heap.size=w.heap.size+1:=by rw[hW];simp
 obtain⟨B,hB⟩:∃B,B=W.heap.size:=⟨_,rfl⟩
 have HND:Hid (∀V,Tch NoB W V->Jc V B none (wj:Int) .nilIface (.rd [] (txtN x))->Calls prog 240 #[.pointer (some ⟨B,0,none⟩),.agg #[.string ⟨#[]⟩,.string ⟨#[]⟩,.int .u64 0,.int .u8 0,.int .i64 0,.string ⟨#[]⟩,.string ⟨#[]⟩]] V λe w'=>e=.returned (.agg (Jo x))/\Jc w' B none (wj:Int) .nilIface (.rd q [])/\Tch (λj=>j=B) V w'):=λV hV hP=>by
  have:=Jiq E B (by rw[hB,hsz];have:=hE.size;omega) none wj (by omega) Xc (by decide) (some (.rd [] (txtN x))) V ((hE.tch tA noE).tch hV noE) hP (by simp[Xb,PS.len];omega);rw[hq]at this;refine this.mono ?_;rintro e w'⟨rfl,g',h1,h2,h3⟩;have hg:g'=none:=h1.1;subst hg;exact⟨rfl,h1,h3.mono (λj hj=>hj.elim (λh=>.inl h) (λh=>by cases h))⟩
 have HOF:Hid (∀V,Tch (λj=>j=B) W V->Calls prog 130 #[.int .i64 (wj:Int),.string (bsL (txtN x))] V λe w'=>e=.returned (.string (dgW wj (txtN x)))/\Tch NoB V w'):=λV hV=>Jbg E wj (bsL (txtN x)) V ((hE.tch tA noE).tch hV (λj h=>by rw[h,hB,hsz];have:=hE.size;omega)) hw1 hw (by show (txtN x).toArray.size<=_;simp;omega);have HNR:Hid (∀V,Calls prog 85 #[.int .i64 (wj:Int),.string (bsL (txtN x))] V λe w'=>e=.returned (.pointer (some ⟨V.heap.size,0,none⟩))/\Jc w' V.heap.size none wj .nilIface (.rd [] (txtN x))/\Tch NoB V w'):=λV=>XT _ _ _;have HDN:Hid (∀V,Jc V B none (wj:Int) .nilIface (.rd q [])->Calls prog 88 #[.pointer (some ⟨B,0,none⟩)] V λe w'=>e=.returned .nilIface/\Tch NoB V w'):=λV h=>JbH B _ q V h;obtain⟨dg,hdg⟩:∃dg,dg=dgW wj (txtN x):=⟨_,rfl⟩
 rw[<-hdg]at HOF ⊢;obtain⟨tx,htx⟩:∃tx,tx=bsL (txtN x):=⟨_,rfl⟩
 rw[<-htx]at HOF HNR ⊢;generalize hpl':txtN x=pl at *;have HP:Hid (p<w.heap.size/\18<=p):=⟨hpl,hp12⟩
 have HM:Hid (MpAt w p (byE b)):=hm;have HD:Hid ((b.map (·.1)).Nodup):=hd;have HR0:Hid (W.heap[w.heap.size]? =_):=r0;have HER:Hid (Er3 w):=hT;have HBS:Hid (B=W.heap.size/\W.heap.size=w.heap.size+1):=⟨hB,hsz⟩
 have HX:Hid (Jo x=Jo x):=rfl;obtain⟨n1,n2,⟨n3,n4⟩,n5,n6,n7⟩:=x;have HNC:Hid (Jo (n1,n2,(n3,n4),n5,n6,n7)= #[.string n1,.string n2,.int .u64 (n3:Int),.int .u8 (n4:Int),.int .i64 n5,.string n6,.string n7]):=rfl;rw[HNC.o]at HND;have c0:W.cell? ⟨w.heap.size,0,none⟩=some (.int .i64 (wj:Int)):=Ja r0;clear hE hT hp12 hm hd hx hq hlen hpl tA r0 hW hsz hdg htx hpl' HX hB;go_enter func228,ntmps228;go_upto_region 1 with fail;rw[<-HW.o];go_wp2_with fail;refine(HNR.o W).mono ?_;rw[<-HBS.o.1];rintro _ w1⟨rfl,hp1,ht1⟩;have HT1:Hid (Tch NoB W w1):=ht1;have HP1:Hid (Jc w1 B none (wj:Int) .nilIface (.rd [] pl)):=hp1;clear ht1 hp1 HNR c0;go_wp2_with fail;refine(HND.o w1 HT1.o HP1.o).mono ?_;rintro _ w2⟨rfl,hp2,ht2⟩;obtain⟨W3,hW3⟩:∃W3,W3=w2.alloc (.cells #[.string n1,.string n2,.int .u64 (n3:Int),.int .u8 (n4:Int),.int .i64 n5,.string n6,.string n7] 281):=⟨_,rfl⟩
 have hA:Tch NoB w2 W3:=by rw[hW3];exact Ta _ _ _
 have HT3:Hid (Tch (λj=>j=B) W W3):=((HT1.o.mono noE).trans ht2 (λ_ h=>.inl h)).go hA;have HP3:Hid (Jc W3 B none (wj:Int) .nilIface (.rd q [])):=hp2.tch hA (λh=>h) (λ_ _ h=>h);have HR3:Hid (W3.heap[w2.heap.size]? =some (.cells #[.string n1,.string n2,.int .u64 (n3:Int),.int .u8 (n4:Int),.int .i64 n5,.string n6,.string n7] 281)):=by show W3.heap[w2.heap.size]? =_;rw[hW3];exact Qf _ _
 have HW3:Hid (W3=_):=hW3;have HZ2:Hid (W.heap.size<=w2.heap.size):=Qm HT1.o.size ht2.size;clear hp2 ht2 hA hW3 HND HT1 HP1;go_upto_region 3 with fail;rw[<-HW3.o];go_wp2_with fail;refine(HDN.o W3 HP3.o).mono ?_;rintro _ w4⟨rfl,ht4⟩;have HT4:Hid (Tch (λj=>j=B) W w4):=HT3.o.go ht4;have HT34:Hid (Tch NoB W3 w4):=ht4;have c0:w4.cell? ⟨w.heap.size,0,none⟩=some (.int .i64 (wj:Int)):=Ja ((HT4.o.block _ (Jb HR0.o) (by have:=HBS.o;omega)).trans HR0.o);clear ht4 HDN HP3;go_wp2_with fail;refine(HOF.o w4 HT4.o).mono ?_;rintro _ w5⟨rfl,ht5⟩;have HT5:Hid (Tch (λj=>j=B) W w5):=HT4.o.go ht5;have HTW:Hid (Tch NoB w w5):=HTA.o.trans HT5.o (λj hj=>.inr (by have:=HBS.o;omega));have hm5:=HM.o.next HTW.o (λh=>h);have HR5:Hid (w5.heap[w2.heap.size]? =some (.cells #[.string n1,.string n2,.int .u64 (n3:Int),.int .u8 (n4:Int),.int .i64 n5,.string n6,.string n7] 281)):=((HT34.o.go ht5).block _ (Jb HR3.o) (λh=>h)).trans HR3.o;have c1:w5.cell? ⟨w.heap.size,1,none⟩=some (.map (some p)):=Ja ((HT5.o.block _ (Jb HR0.o) (by have:=HBS.o;omega)).trans HR0.o);have HM5:Hid (MpAt w5 p (byE b)):=hm5;clear ht5 HOF hm5 HT34 HT4 c0 HT3 HR3
 by_cases hin:dg∈b.map (·.1)
 ·have HIN:Hid (Jm4 b dg):=hin;obtain⟨⟨dg',x'⟩,hq',rfl⟩:=QK.1 hin;have hl:=Jce byTy HM5.o HD.o hq' true;have HH:Hid (Calls prog 298 #[.map (some p),.string dg'] w5 _):=Jgd hl;obtain⟨⟨t,u,hte⟩,_,_⟩:=HER.o.tch HTW.o noE;clear hin hq' hl;go_wp2_with fail;refine HH.o.mono ?_;rintro _ w6⟨rfl,ht6⟩;have HT6:Hid (Tch NoB w5 w6):=ht6;have hte6:w6.cell? ⟨12,0,none⟩=some (.iface t u):=(ht6.cell (Qr _ _ hte) (λh=>h)).trans hte;clear ht6 hte HH c1;go_wp2_with fail;refine(Xl _ t u w6).mono ?_;rintro _ _⟨rfl,rfl⟩;go_wp2;go_ret;exact⟨((HTW.o.go HT6.o).go (Ta _ _ _)).mono noE,.inr ⟨HIN.o,_,_,rfl⟩⟩
 ·have HIN:Hid (dg ∉ b.map (·.1)):=hin;have hl:=JaW byTy HM5.o hin true;have HH:Hid (Calls prog 298 #[.map (some p),.string dg] w5 _):=Jgd hl;clear hin hl;go_wp2_with fail;refine HH.o.mono ?_;rintro _ w6⟨rfl,ht6⟩;have HT6:Hid (Tch NoB w w6):=HTW.o.go ht6;have c1:w6.cell? ⟨w.heap.size,1,none⟩=some (.map (some p)):=(ht6.cell (Qr _ _ c1) (λh=>h)).trans c1;have hr6:=(ht6.block _ (Jb HR5.o) (λh=>h)).trans HR5.o;have k0:w6.cell? ⟨w2.heap.size,0,none⟩=some (.string n1):=Ja hr6;have k1:w6.cell? ⟨w2.heap.size,1,none⟩=some (.string n2):=Ja hr6;have k2:w6.cell? ⟨w2.heap.size,2,none⟩=some (.int .u64 (n3:Int)):=Ja hr6;have k3:w6.cell? ⟨w2.heap.size,3,none⟩=some (.int .u8 (n4:Int)):=Ja hr6;have k4:w6.cell? ⟨w2.heap.size,4,none⟩=some (.int .i64 n5):=Ja hr6;have k5:w6.cell? ⟨w2.heap.size,5,none⟩=some (.string n6):=Ja hr6;have k6:w6.cell? ⟨w2.heap.size,6,none⟩=some (.string n7):=Ja hr6;obtain⟨hup,hmn⟩:=Jfv (a:=(n1,n2,(n3,n4),n5,n6,n7)) byTy (HM5.o.next ht6 (λh=>h)) HIN.o

  rw[HNC.o]at hup;have HMN:Hid (MpAt _ p _):=hmn;have HTN:Hid (Tch (λj=>j=p) w6 _):=Tch.setMp w6 p (smE (λn=>.agg (Jo n)) (b++[(dg,(n1,n2,(n3,n4),n5,n6,n7))]));generalize w6.setMp p (smE (λn=>.agg (Jo n)) (b++[(dg,(n1,n2,(n3,n4),n5,n6,n7))]))=w7 at *;clear ht6 hr6 hmn HH;go_wp2;go_ret;exact⟨(HT6.o.mono noE).trans HTN.o (λ_ h=>.inl h),.inl ⟨HIN.o,rfl,HMN.o⟩⟩

theorem Jk4{E:Nat->Addr}(hE:Env E w)(i:Nat)(hi:i<=10000000000000):Calls prog 101 #[.int .i64 (i:Int)] w λe w'=>(∃s:BA,s.size<=30/\e=.returned (.string s))/\Tch NoB w w':=by
 refine(strconv_Itoa (i:Int) (by omega) (by omega) w hE.pow).mono λe w' h=>?_;obtain⟨h1,k,os,h2⟩:=h;refine⟨⟨_,?_,h1⟩,by rw[h2];exact(Tch.of_below (Jc4 w k os)).mono (λ_ h=>.inr h)⟩;have:=Lib.itoa_length_le (i:Int) (by omega) (by omega);show (Lib.itoa (i:Int)).toArray.size<=30;simp;omega
def byOf(wj:Nat)(xs:List Jj):ByL:=xs.map λx=>(dgW wj (txtN x),x)
structure AddI(wj p:Nat)(xs:List Jj)(w:World)(k:Nat)(W:World):Prop where
 tch:Tch (λj=>j=p) w W
 nd:((byOf wj (xs.take k)).map (·.1)).Nodup
 mp:MpAt W p (byE (byOf wj (xs.take k)))
theorem Jku(E:Nat->Addr)(hw1:1<=wj)(hw:wj<=32)(p:Nat)(xs:List Jj)(hxs:∀x∈xs,XN wj x)(w:World)(hE:Env E w)(hT:Er3 w)(hp:18<=p)(k:Nat)(hk:k<xs.length)(V:World)(hI:AddI wj p xs w k V):
  Calls prog 228 #[.agg #[.int .i64 (wj:Int),.map (some p)],.int .i64 (k:Int),.string (bsL (txtN xs[k]))] V λe w'=>(e=.returned .nilIface/\AddI wj p xs w (k+1) w')\/(Tch (λj=>j=p) w w'/\JaM (byOf wj xs)/\∃t u,e=.returned (.iface t u)):=by
 have hK:∀j,j=p->18<=j:=λj hj=>by rw[hj];exact hp
 refine(Jl3 E hw1 hw p _ _ (hxs _ (Qx hk)) V (hE.tch hI.tch hK) (hT.tch hI.tch hK) hp hI.mp hI.nd).mono ?_;rintro e w'⟨ht,⟨hn,rfl,hm⟩|⟨hin,t,u,rfl⟩⟩
 ·have e1:byOf wj (xs.take (k+1))=byOf wj (xs.take k)++[(dgW wj (txtN xs[k]),xs[k])]:=by
   unfold byOf;rw[QQ hk,List.map_append];rfl
  refine .inl ⟨rfl,hI.tch.trans ht (λ_ h=>.inl h),?_,by rw[e1];exact hm⟩;rw[e1,List.map_append,List.nodup_append];refine⟨hI.nd,by simp,?_⟩;rintro a ha b hb rfl;simp only[List.map_cons,List.map_nil,Qt]at hb;exact hn (hb ▸ ha)
 ·refine .inr ⟨hI.tch.trans ht (λ_ h=>.inl h),λhnd=>?_,t,u,rfl⟩;have e1:byOf wj xs=byOf wj (xs.take k)++byOf wj (xs.drop k):=by
   unfold byOf;rw[<-List.map_append,List.take_append_drop]
  rw[e1,List.map_append,List.nodup_append]at hnd;refine hnd.2.2 _ hin (dgW wj (txtN xs[k])) ?_ rfl;rw[List.drop_eq_getElem_cons hk];exact QM
theorem JkP(E:Nat->Addr)(hw1:1<=wj)(hw:wj<=32)(p:Nat)(xs:List Jj)(hxs:∀x∈xs,XN wj x)(hl:xs.length<=1000000000)(a:Option Addr)(c n:Nat)(hn:n=xs.length)(w:World)(hE:Env E w)(hT:Er3 w)(hp:18<=p)(hm:MpAt w p [])
 (hc:∀k (h:k<xs.length),∃g,a=some ⟨g,0,none⟩/\g ≠ p/\w.cell? ⟨g,k,none⟩=some (.string (bsL (txtN xs[k])))):
  Calls prog 227 #[.string ⟨#[110,111,100,101]⟩,.slice a n c,.func (.func 228) #[.agg #[.int .i64 (wj:Int),.map (some p)]] #[]] w λe w'=>Tch (λj=>j=p) w w'/\((e=.returned .nilIface/\((byOf wj xs).map (·.1)).Nodup/\MpAt w' p (byE (byOf wj xs)))\/(JaM (byOf wj xs)/\∃t u,e=.returned (.iface t u))):=by
 have HADD:Hid (∀k (hk:k<xs.length) V,AddI wj p xs w k V->Calls prog 228 #[.agg #[.int .i64 (wj:Int),.map (some p)],.int .i64 (k:Int),.string (bsL (txtN xs[k]))] V _):=λk hk V hI=>Jku E hw1 hw p xs hxs w hE hT hp k hk V hI;have HIT:Hid (∀V,Tch (λj=>j=p) w V->∀k:Nat,k<=1000000000->Calls prog 101 #[.int .i64 (k:Int)] V λe w'=>(∃s:BA,s.size<=30/\e=.returned (.string s))/\Tch NoB V w'):=λV hV k hk=>Jk4 (hE.tch hV (λj hj=>by rw[hj];exact hp)) k (by omega);have HC:Hid (∀k (h:k<xs.length),∃g,a=some ⟨g,0,none⟩/\g ≠ p/\w.cell? ⟨g,k,none⟩=some (.string (bsL (txtN xs[k])))):=hc;have HN:Hid (n=xs.length):=hn;have hnb:n<=1000000000:=by omega
 have HI0:Hid (AddI wj p xs w 0 w):=⟨Te _ _,by simp[byOf],by simpa [byOf,smE]using hm⟩
 clear hc hn hl hxs hE hT hp hm;go_enter func227,ntmps227;go_wp2;go_loopw [12] (λi wr=>∃k:Nat,k<=n/\i=.int .i64 (k:Int)/\Hid (AddI wj p xs w k wr)) (λi _=>n-(intOf i).toNat)
 case atStart=>exact⟨0,Nat.zero_le _,rfl,HI0⟩
 case round=>
  obtain⟨k,hk,rfl,HI⟩:=hrel
  by_cases hlt:k<n
  ·have hkl:k<xs.length:=(by rw[<-HN.o];exact hlt);obtain⟨g,rfl,hgp,hcg⟩:=HC.o k hkl;have c0:wr.cell? ⟨g,k,none⟩=some (.string (bsL (txtN xs[k]))):=(HI.o.tch.cell (Qr _ _ hcg) hgp).trans hcg;have HCA:Hid (∀V,AddI wj p xs w k V->_):=λV hV=>HADD.o k hkl V hV;generalize bsL (txtN xs[k])=tx at *;have hlti:(k:Int)<(n:Int):=(by omega);have hk0:(0:Int)<=(k:Int):=(by omega);clear hkl hcg hgp HC HADD;go_wp2_with fail;refine(HCA.o wr HI.o).mono ?_;clear HCA;rintro _ w1 (⟨rfl,hI1⟩|⟨ht1,hnn,t,v,rfl⟩)
   ·have HI1:Hid (AddI wj p xs w (k+1) w1):=hI1;clear hI1;go_wp2;go_roundw
    case rel=>exact⟨k+1,by omega,by go_num,HI1⟩
    case measure=>simp[intOf];omega
   ·have HT1:Hid (Tch (λj=>j=p) w w1):=ht1;have HNN:Hid (JaM (byOf wj xs)):=hnn;clear ht1 c0 hnn;go_wp2_with fail;refine(HIT.o w1 HT1.o k (by omega)).mono ?_;rintro _ w2⟨⟨s1,hs1,rfl⟩,ht2⟩;have HT2:Hid (Tch (λj=>j=p) w w2):=HT1.o.go ht2;have hws:((⟨#[110,111,100,101]⟩:BA)++(⟨#[32]⟩:BA)).size<=1001:=(by decide);generalize (⟨#[110,111,100,101]⟩:BA)++(⟨#[32]⟩:BA)=ws at *;have hnb:¬(ws.size+s1.size > 9223372036854775807):=(by omega);clear ht2 HT1 HIT;go_wp2_with fail;refine(Xl (ws++s1) t v _).mono ?_;rintro _ _⟨rfl,rfl⟩;go_wp2;go_ret;exact⟨HT2.o.go (Ta _ _ _),.inr ⟨HNN.o,_,_,rfl⟩⟩
  ·have HK:Hid (k=n):=(by omega:k=n)
   have hge:¬(k:Int)<(n:Int):=(by omega);go_wp2;go_ret;have e:xs.take k=xs:=QR (by rw[HK.o,HN.o];exact Ql _);have h:=HI.o;refine⟨h.tch,.inl ⟨rfl,?_,?_⟩⟩
   ·have:=h.nd;rwa [e]at this
   ·have:=h.mp;rwa [e]at this
theorem Jd3(E:Nat->Addr)(hw1:1<=wj)(hw:wj<=32)(xs:List Jj)(hxs:∀x∈xs,XN wj x)(hl:xs.length<=1000000000)(hr:ZJ (xs.map λx=>bsL (txtN x)))(w:World)(hE:Env E w)(hT:Er3 w):
  Calls prog 149 #[.int .i64 (wj:Int),.string ⟨(szsB (xs.map λx=>bsL (txtN x))).toArray⟩] w λe w'=>Tch NoB w w'/\∃p,w.heap.size<=p/\((e=.returned (.tuple #[.agg #[.int .i64 (wj:Int),.map (some p)],.nilIface])/\((byOf wj xs).map (·.1)).Nodup/\MpAt w' p (byE (byOf wj xs)))\/(JaM (byOf wj xs)/\∃t u,e=.returned (.tuple #[.agg #[.int .i64 (wj:Int),.map (some p)],.iface t u]))):=by
 have hz:∀t∈xs.map λx=>bsL (txtN x),t.size<=100:=λt ht=>by
  obtain⟨x,hx,rfl⟩:=QK.1 ht;have:=Zx hw (hxs x hx);show (txtN x).toArray.size<=100;simpa using this
 have hzl:=JeI _ hz;rw[QL]at hzl;have HES:=hE.size;obtain⟨W,hW⟩:∃W,W=w.alloc (.cells #[.int .i64 0,.map none] 264):=⟨_,rfl⟩
 have tA:Tch NoB w W:=by rw[hW];exact Ta _ _ _
 have HW:Hid (W=_):=hW;have HTA:Hid (Tch NoB w W):=tA;have HR0:Hid (W.heap[w.heap.size]? =some (.cells #[.int .i64 0,.map none] 264)):=by show W.heap[w.heap.size]? =_;rw[hW];exact Qf _ _
 have hsz:W.heap.size=w.heap.size+1:=by rw[hW];simp
 have HSZ:Hid (W.heap.size=w.heap.size+1):=hsz;have HDF:Hid (∀V,Jc V W.heap.size none (wj:Int) .nilIface (.rd [] (szsB (xs.map λx=>bsL (txtN x))))->Calls prog 156 #[.pointer (some ⟨W.heap.size,0,none⟩),.slice none 0 0] V λe w'=>∃v',e=.returned v'/\RowR W.heap.size wj V [] (xs.map λx=>bsL (txtN x)) [] v' w'):=λV hP=>JdS E W.heap.size wj _ [] V hP (λt ht=>by have:=hz t ht;omega) hr (by rw[QL];exact hl) (by rw[List.nil_append];omega);have HNR:Hid (∀V,Calls prog 85 #[.int .i64 (wj:Int),.string ⟨(szsB (xs.map λx=>bsL (txtN x))).toArray⟩] V λe w'=>e=.returned (.pointer (some ⟨V.heap.size,0,none⟩))/\Jc w' V.heap.size none wj .nilIface (.rd [] (szsB (xs.map λx=>bsL (txtN x))))/\Tch NoB V w'):=λV=>XT _ _ _;have HEA:Hid (∀(p:Nat)(a:Option Addr)(c n:Nat)(V:World),n=xs.length->Tch NoB w V->18<=p->MpAt V p []->(∀k (h:k<xs.length),∃g,a=some ⟨g,0,none⟩/\g ≠ p/\V.cell? ⟨g,k,none⟩=some (.string (bsL (txtN xs[k]))))->Calls prog 227 #[.string ⟨#[110,111,100,101]⟩,.slice a n c,.func (.func 228) #[.agg #[.int .i64 (wj:Int),.map (some p)]] #[]] V _):=λp a c n V hn hV hp hm hc=>JkP E hw1 hw p xs hxs hl a c n hn V (hE.tch hV noE) (hT.tch hV noE) hp hm hc;have HKW:Hid (18<=w.heap.size):=HES;generalize hS:szsB (xs.map λx=>bsL (txtN x))=S at *;generalize (⟨S.toArray⟩:BA)=sb at *;have HS:Hid (szsB (xs.map λx=>bsL (txtN x))=S):=hS;have hmf:∀(fn:Fn)(first cap:Array Value)(w:World),(Instr.makeFunc fn first cap).run prog w=.ok (.func fn first cap) w:=λ_ _ _ _=>rfl;clear hS hz hzl hE hT hr hl hxs tA hW hsz HES;go_enter func149,ntmps149;go_upto_region 1 with fail;rw[<-HW.o];go_wp2_with fail;refine(HNR.o W).mono ?_;rintro _ w1⟨rfl,hp1,ht1⟩;have HT1:Hid (Tch NoB W w1):=ht1;have HP1:Hid (Jc w1 W.heap.size none (wj:Int) .nilIface (.rd [] S)):=hp1;clear ht1 hp1 HNR;go_wp2_with fail;refine(HDF.o w1 HP1.o).mono ?_;rintro _ w2⟨v',rfl,hI⟩;obtain⟨a',c',hv'⟩:=hI.own.shape;rw[QL]at hv';subst hv';have HI:Hid (RowR W.heap.size wj w1 [] (xs.map λx=>bsL (txtN x)) [] (.slice a' xs.length c') w2):=hI;have HDN:Hid (Calls prog 88 #[.pointer (some ⟨W.heap.size,0,none⟩)] w2 λe w'=>e=.returned .nilIface/\Tch NoB w2 w'):=JbH W.heap.size _ _ w2 hI.port;have HT2:Hid (Tch NoB w w2):=(HTA.o.go HT1.o).trans hI.tch (λj hj=>.inr (by have:=HSZ.o;omega));have HR2:Hid (w2.heap[w.heap.size]? =some (.cells #[.int .i64 0,.map none] 264)):=((((HT1.o.mono noE).trans hI.tch (λ_ h=>.inl h)).block _ (Jb HR0.o) (by have:=HSZ.o;omega))).trans HR0.o;clear hI HDF HP1;go_wp2_with fail;refine HDN.o.mono ?_;rintro _ w3⟨rfl,ht3⟩;have HT3:Hid (Tch NoB w w3):=HT2.o.go ht3;have HR3:Hid (w3.heap[w.heap.size]? =some (.cells #[.int .i64 0,.map none] 264)):=(ht3.block _ (Jb HR2.o) (λh=>h)).trans HR2.o;have HOW:Hid (NOwn w1.heap.size w3 (.slice a' xs.length c') (xs.map λx=>bsL (txtN x))):=HI.o.own.tch ht3 (λ_ _ h=>h);obtain⟨hmk,hm0⟩:=JcO 262 w3;obtain⟨W4,hW4⟩:∃W4,W4=(w3.alloc (.map #[] 0)).alloc (.cells #[.int .i64 (wj:Int),.map (some w3.heap.size)] 264):=⟨_,rfl⟩
 have t4:Tch NoB w3 W4:=by rw[hW4];exact Tch.allocs _ _ _ _
 have hm4:MpAt W4 w3.heap.size []:=by rw[hW4];exact hm0.next (Ta NoB _ _) (λh=>h)
 have hr4:W4.heap[w3.heap.size+1]? =some (.cells #[.int .i64 (wj:Int),.map (some w3.heap.size)] 264):=by rw[hW4];exact heap_alloc2_new _ _ _
 have d0:W4.cell? ⟨w3.heap.size+1,0,none⟩=some (.int .i64 (wj:Int)):=Ja hr4;have d1:W4.cell? ⟨w3.heap.size+1,1,none⟩=some (.map (some w3.heap.size)):=Ja hr4;have HR4:Hid (W4.heap[w3.heap.size+1]? =_):=hr4;have HT4:Hid (Tch NoB w3 W4):=t4;have HW4:Hid (W4=_):=hW4;have HEC:Hid (Calls prog 227 #[.string ⟨#[110,111,100,101]⟩,.slice a' xs.length c',.func (.func 228) #[.agg #[.int .i64 (wj:Int),.map (some w3.heap.size)]] #[]] W4 _):=HEA.o w3.heap.size a' c' xs.length W4 rfl (HT3.o.go t4) (by have:=HT3.o.size;have:=HKW.o;omega) hm4 (λk h=>by
  have hl':k<(xs.map λx=>bsL (txtN x)).length:=by rw[QL];exact h
  obtain⟨g,cap,hv,hgb,hgl,⟨gc,gm,hgr⟩,hcells⟩:=HOW.o.at (λe=>by rw[e]at hl';simp at hl');simp only[Qy]at hv;obtain⟨rfl,_,_⟩:=hv;refine⟨g,rfl,by omega,?_⟩;have:=hcells k hl';rw[List.getElem_map]at this;exact(t4.cell (p:=⟨g,k,none⟩) hgl (λh=>h)).trans this.1)
 clear ht3 hm0 t4 hm4 hr4 hW4 HEA HDN HI HOW HT2 HR2;go_upto_region 7 with fail;rw[<-HW4.o];go_wp2_with fail;refine HEC.o.mono ?_;rintro e w5⟨ht5,hpost⟩;have HT5:Hid (Tch NoB w w5):=(HT3.o.go HT4.o).trans ht5 (λj hj=>.inr (by have:=HT3.o.size;omega));have hr5:=(ht5.block _ (Jb HR4.o) (by omega)).trans HR4.o;have hq5:w5.heap[w.heap.size]? =some (.cells #[.int .i64 0,.map none] 264):=(ht5.block _ (Qk (Jb HR3.o) HT4.o.size) (by have:=(Jb HR3.o);omega)).trans ((HT4.o.block _ (Jb HR3.o) (λh=>h)).trans HR3.o);have k0:w5.cell? ⟨w3.heap.size+1,0,none⟩=some (.int .i64 (wj:Int)):=Ja hr5;have k1:w5.cell? ⟨w3.heap.size+1,1,none⟩=some (.map (some w3.heap.size)):=Ja hr5;have j0:w5.cell? ⟨w.heap.size,0,none⟩=some (.int .i64 0):=Ja hq5;have j1:w5.cell? ⟨w.heap.size,1,none⟩=some (.map none):=Ja hq5;have f0:w5.frozen? ⟨w.heap.size,0,none⟩=false:=Qg _ _ _ _ _ hq5;have f1:w5.frozen? ⟨w.heap.size,1,none⟩=false:=Qg _ _ _ _ _ hq5;have HQ5:Hid (w5.heap[w.heap.size]? =_):=hq5;have HZ3:Hid (w.heap.size<=w3.heap.size/\w.heap.size<w3.heap.size):=⟨HT3.o.size,(Jb HR3.o)⟩
 have HSET:Hid (∀x y:Value,((w5.setCell ⟨w.heap.size,0,none⟩ x).setCell ⟨w.heap.size,1,none⟩ y).heap[w.heap.size]? =some (.cells #[x,y] 264)/\Tch (λj=>j=w.heap.size) w5 ((w5.setCell ⟨w.heap.size,0,none⟩ x).setCell ⟨w.heap.size,1,none⟩ y)):=λx y=>by
  rw[Qj w5 w.heap.size 0 _ _ (0,0) _ hq5,Qj _ w.heap.size 1 _ _ (0,0) _ (Qi _ _ _ _ _ _ hq5)];exact⟨Qi _ _ _ _ _ _ (Qi _ _ _ _ _ _ hq5),(Ts w5 w.heap.size _).trans (Ts _ w.heap.size _) (λ_ h=>.inl h)⟩
 clear ht5 hr5 hq5 HEC
 rcases hpost with⟨rfl,hnd,hmp⟩|⟨hnn,t,u,rfl⟩
 ·have HND:Hid (((byOf wj xs).map (·.1)).Nodup):=hnd;have HMP:Hid (MpAt w5 w3.heap.size (byE (byOf wj xs))):=hmp;clear hnd hmp;go_wp2;obtain⟨p1,ts⟩:=HSET.o (.int .i64 (wj:Int)) (.map (some w3.heap.size));refine QJ (v:=.tuple #[.agg #[.int .i64 (wj:Int),.map (some w3.heap.size)],.nilIface]) (Jn results149 _ _ w.heap.size _ _ (0,0) _ rfl p1 underlying264 rfl (by kernel_rfl)) rfl ?_;exact⟨HT5.o.trans ts (λj hj=>.inr (by omega)),w3.heap.size,HZ3.o.1,.inl ⟨rfl,HND.o,HMP.o.next ts (by have:=HZ3.o.2;omega)⟩⟩
 ·have HNN:Hid (JaM (byOf wj xs)):=hnn;clear hnn;go_wp2;obtain⟨p1,ts⟩:=HSET.o (.int .i64 (wj:Int)) (.map (some w3.heap.size));refine QJ (v:=.tuple #[.agg #[.int .i64 (wj:Int),.map (some w3.heap.size)],.iface t u]) (Jn results149 _ _ w.heap.size _ _ (0,0) _ rfl p1 underlying264 rfl (by kernel_rfl)) rfl ?_;exact⟨HT5.o.trans ts (λj hj=>.inr (by omega)),w3.heap.size,HZ3.o.1,.inr ⟨HNN.o,t,u,rfl⟩⟩
