import Derived.Test.YtighkdnooglfjaaGreatDoorLxLiS
namespace Go.Proofs.YtighkdnooglfjaaGreatDoor
open Tryz
set_option maxRecDepth 100000
set_option maxHeartbeats 2000000
open Go.RowKit

variable {x:Jk}{cb fl lb wj:Nat}{F:Nat->Prop}{v:Value}{w:World}
theorem Jik:∀(a b:List UInt8),¬b<a->a ≠ b->Lib.compareBytes a b<0
 | [],[],_,h=>absurd rfl h
 | [],_::_,_,_=>by simp[Lib.compareBytes]
 | _::_,[],h,_=>absurd (List.nil_lt_cons _ _) h
 | x::xs,y::ys,h,hne=>by
  unfold Lib.compareBytes
  by_cases h1:x<y
  ·simp[h1]
  ·by_cases h2:y<x
   ·exact absurd (List.cons_lt_cons_iff.2 (.inl h2)) h
   ·have e:x=y:=UInt8.le_antisymm (UInt8.not_lt.1 h2) (UInt8.not_lt.1 h1);subst e;simp only[h1,if_false];exact Jik xs ys (λh3=>h (List.cons_lt_cons_iff.2 (.inr ⟨rfl,h3⟩))) (λe=>hne (by rw[e]))
theorem JgR(ss:List (List UInt8))(hd:ss.Nodup):ZJ ((ss.mergeSort λx y=>decide (x<=y)).map bsL):=by
 have hp:=List.pairwise_mergeSort (le:=λ(x y:List UInt8)=>decide (x<=y)) (λa b c h1 h2=>by simp only[decide_eq_true_eq]at *;exact List.le_trans h1 h2) (λa b=>by simp only[Bool.or_eq_true,decide_eq_true_eq];exact List.le_total a b) ss;have hn:(ss.mergeSort λx y=>decide (x<=y)).Nodup:=(List.mergeSort_perm ss _).nodup_iff.2 hd;generalize (ss.mergeSort λx y=>decide (x<=y))=S at *;intro i hi;have hi':i+1<S.length:=by simpa using hi
 simp only[List.getElem_map,bsL];have h1:=List.pairwise_iff_getElem.1 hp i (i+1) (by omega) hi' (by omega);have h2:S[i] ≠ S[i+1]:=λe=>by
  have:=(List.getElem_inj hn).1 e;omega
 exact Jik _ _ (List.not_lt.2 (by simpa using h1)) h2
theorem XS{α:Type}:∀(a b:List α),a.Nodup->(∀x∈a,x∈b)->a.length<=b.length
 | [],b,_,_=>by simp
 | x::r,b,hd,h=>by
  obtain⟨p,q,rfl⟩:=List.append_of_mem (h x QM);have hr:=List.nodup_cons.1 hd;have h3:=XS r (p++q) hr.2 (λy hy=>by
   have h1:=h y (QP _ hy);have h2:y ≠ x:=λe=>hr.1 (e ▸ hy);simp only[QE,List.mem_cons,h2,false_or]at h1 ⊢;exact h1)
  simp only[Qe,Qp]at h3 ⊢;omega
def Yi(al:List Jk)(k:Nat):List BA:=(al.take k).map (λx=>bsL (txtN x))++List.replicate (al.length-k) ⟨#[]⟩
theorem Jhl(al:List Jk):Yi al 0=List.replicate al.length ⟨#[]⟩:=by simp[Yi]
theorem Ji8(al:List Jk):Yi al al.length=(al.map txtN).map bsL:=by simp[Yi]
theorem Jem(al:List Jk)(k:Nat)(hk:k<=al.length):(Yi al k).length=al.length:=by
 simp[Yi];omega
theorem Ji9(al:List Jk)(k:Nat)(hk:k<al.length):(Yi al k).set k (bsL (txtN al[k]))=Yi al (k+1):=by
 apply List.ext_getElem?;intro i;have hl:(Yi al k).length=al.length:=Jem al k (by omega);have e:∀j,j<=al.length->∀i,(Yi al j)[i]? =if i<j then (al[i]?).map (λx=>bsL (txtN x)) else if i<al.length then some ⟨#[]⟩ else none:=by
  intro j hj i;unfold Yi
  by_cases h1:i<j
  ·rw[QF (by simp;omega),if_pos h1,List.getElem?_map,List.getElem?_take_of_lt h1]
  ·rw[Qz (by simp;omega),if_neg h1,List.getElem?_replicate];simp only[QL,QB]
   by_cases h2:i<al.length
   ·rw[if_pos (by omega),if_pos h2]
   ·rw[if_neg (by omega),if_neg h2]
 rw[e (k+1) (by omega),List.getElem?_set]
 by_cases hki:k=i
 ·subst hki;rw[if_pos rfl,if_pos (by omega),if_pos (by omega),Qd hk];rfl
 ·rw[if_neg hki,e k (by omega)]
  by_cases h1:i<k
  ·rw[if_pos h1,if_pos (by omega)]
  ·simp only[h1,show ¬i<k+1 by omega,if_false]
theorem YF.shape{base:Nat}{l:List Jk}(h:YF base w v l):∃a c,v=.slice a l.length c:=by
 obtain⟨_,⟨h,h0⟩|⟨_,_,_,h,_⟩⟩:=h
 ·exact⟨none,0,by rw[h,h0]⟩
 ·exact⟨_,_,h⟩
theorem Jj7(E:Nat->Addr)(d:List UInt8->BA)(w:World)(hF:∀j,F j->j<w.heap.size)(wj:Nat)(q1 q2:Option Nat)(st1 st2:Option Tr)(hs1:StAt d F w q1 st1)(hw1:∀t,st1=some t->t.Wf)(hK1:∀x∈Jd d st1,YQ x)(hs2:StAt d F w q2 st2)(hw2:∀t,st2=some t->t.Wf)(hK2:∀x∈Jd d st2,YQ x)(hln:(Jd d st1).length+(Jd d st2).length<=1000000000)
 (hTX:∀x,x∈Jd d st1\/x∈Jd d st2->∀V,Tch NoB w V->Calls prog 154 #[.agg (Jo x),.int .i64 (wj:Int)] V λe w'=>Tch NoB V w'/\e=.returned (.tuple #[.string (bsL (txtN x)),.nilIface]))
 (hsz:∀x,x∈Jd d st1\/x∈Jd d st2->(txtN x).length<65536) (hinj:∀x y,(x∈Jd d st1\/x∈Jd d st2)->(y∈Jd d st1\/y∈Jd d st2)->txtN x=txtN y->x=y)
 (hby:∀L:List (List UInt8),L.Nodup->(∀t∈L,∃x,(x∈Jd d st1\/x∈Jd d st2)/\txtN x=t)->(szsB (L.map bsL)).length<=1000000000000):
  Calls prog 96 #[.agg #[.int .i64 (wj:Int),Jh q1],.agg #[.int .i64 (wj:Int),Jh q2]] w λe w'=>∃L:List (List UInt8),e=.returned (.tuple #[.string ⟨(szsB (L.map bsL)).toArray⟩,.nilIface])/\ZJ (L.map bsL)/\(∀t,t∈L↔∃x,txtN x=t/\((x∈Jd d st1/\x ∉ Jd d st2)\/(x ∉ Jd d st1/\x∈Jd d st2)))/\Tch NoB w w':=by
 obtain⟨rv1,hr1⟩:∃rv,Jh q1=.pointer rv:=⟨_,rfl⟩
 obtain⟨rv2,hr2⟩:∃rv,Jh q2=.pointer rv:=⟨_,rfl⟩
 have HAL:Hid (∀V,Tch NoB w V->Calls prog 153 #[.agg #[.int .i64 (wj:Int),.pointer rv1],.agg #[.int .i64 (wj:Int),.pointer rv2]] V λe w'=>∃al v,e=.returned v/\(al.Nodup/\∀x,x∈al↔(x∈Jd d st1/\x ∉ Jd d st2)\/(x ∉ Jd d st1/\x∈Jd d st2))/\YF V.heap.size w' v al/\Tch NoB V w'):=λV hT=>by
  have:=JiN d V (λj hj=>Qk (hF j hj) hT.size) wj wj q1 q2 st1 st2 (hs1.next hT) hw1 hK1 (hs2.next hT) hw2 hK2 hln;rw[hr1,hr2]at this;exact this
 rw[hr1,hr2];have HU:Hid (((Jd d st1).length+(Jd d st2).length<=1000000000)/\(∀x,x∈Jd d st1\/x∈Jd d st2->∀V,Tch NoB w V->Calls prog 154 #[.agg (Jo x),.int .i64 (wj:Int)] V λe w'=>Tch NoB V w'/\e=.returned (.tuple #[.string (bsL (txtN x)),.nilIface]))/\(∀x,x∈Jd d st1\/x∈Jd d st2->(txtN x).length<65536)/\(∀x y,(x∈Jd d st1\/x∈Jd d st2)->(y∈Jd d st1\/y∈Jd d st2)->txtN x=txtN y->x=y)/\(∀L:List (List UInt8),L.Nodup->(∀t∈L,∃x,(x∈Jd d st1\/x∈Jd d st2)/\txtN x=t)->(szsB (L.map bsL)).length<=1000000000000)):=⟨hln,hTX,hsz,hinj,hby⟩
 clear hF hs1 hw1 hK1 hs2 hw2 hK2 hln hTX hsz hinj hby hr1 hr2;go_enter func96,ntmps96;go_wp2_with fail;refine(HAL.o _ (Tch.allocs _ _ _ _)).mono ?_;rintro _ w1⟨al,v1,rfl,hal,hown,ht1⟩;obtain⟨a1,c1,hv1⟩:=hown.shape;obtain⟨n,hn⟩:∃n,n=al.length:=⟨_,rfl⟩
 rw[<-hn]at hv1;subst hv1;have hU:∀x∈al,x∈Jd d st1\/x∈Jd d st2:=λx hx=>by
  rcases(hal.2 x).1 hx with h|h
  ·exact .inl h.1
  ·exact .inr h.2
 have hnb:n<=1000000000:=by
  have h1:=HU.o.1;have h2:al.length<=(Jd d st1++Jd d st2).length:=by have h3:∀x∈al,x∈Jd d st1++Jd d st2:=λx hx=>QE.2 (hU x hx);exact XS _ _ hal.1 h3
  rw[Qe]at h2;omega
 have HN:Hid (n=al.length):=hn;have HA:Hid ((al.Nodup/\∀x,x∈al↔(x∈Jd d st1/\x ∉ Jd d st2)\/(x ∉ Jd d st1/\x∈Jd d st2))/\∀x∈al,x∈Jd d st1\/x∈Jd d st2):=⟨hal,hU⟩
 have tw1:Tch NoB w w1:=(Tch.allocs _ _ _ _).go ht1;have c0:w1.cell? ⟨w.heap.size,0,none⟩=some (.int .i64 (wj:Int)):=Ja ((ht1.block _ (by simp;omega) (λh=>h)).trans (heap_alloc2_old _ _ _));have hlt0:w.heap.size<w1.heap.size:=Qr _ _ c0;have hmk:=JmG n hnb w1;obtain⟨WT,hWT⟩:∃WT,WT=w1.alloc (.cells (strR (List.replicate n ⟨#[]⟩)) 9):=⟨_,rfl⟩
 have tA:Tch NoB w1 WT:=by rw[hWT];exact Ta _ _ _
 have HR0:Hid (WT.heap[w1.heap.size]? =some (.cells (strR (Yi al 0)) 9)):=by show WT.heap[w1.heap.size]? =_;rw[hWT,Jhl,<-hn];exact Qf _ _
 rw[<-hWT]at hmk;have HTW:Hid (Tch NoB w WT):=tw1.go tA;have HC0:Hid (∀V,Tch (λj=>j=w1.heap.size) WT V->V.cell? ⟨w.heap.size,0,none⟩=some (.int .i64 (wj:Int))):=λV hT=>(hT.cell (p:=⟨w.heap.size,0,none⟩) (Qk hlt0 tA.size) (by show ¬w.heap.size=w1.heap.size;omega)).trans ((tA.cell (p:=⟨w.heap.size,0,none⟩) hlt0 (λh=>h)).trans c0);have HND:Hid (∀k (hk:k<al.length),∃gi,a1=some ⟨gi,0,none⟩/\gi<w1.heap.size/\∀V,Tch (λj=>j=w1.heap.size) WT V->∀c,c<7->V.cell? ⟨gi,k*7+c,none⟩=(Jo al[k])[c]?):=λk hk=>by
  obtain⟨gi,cap,hv,_,hlt,hc⟩:=hown.at (λe=>by rw[e]at hk;simp at hk)
  cases hv
  refine⟨gi,rfl,hlt,λV hT c hc7=>?_⟩;rw[<-hc k hk c hc7];exact(hT.cell (p:=⟨gi,k*7+c,none⟩) (Qk hlt tA.size) (by show ¬gi=w1.heap.size;omega)).trans (tA.cell (p:=⟨gi,k*7+c,none⟩) hlt (λh=>h))
 clear hal hU hown ht1 hn tA hWT HAL;go_wp2;go_loopw [21] (λi wr=>∃k:Nat,k<=n/\i=.int .i64 (k:Int)/\Hid (wr.heap[w1.heap.size]? =some (.cells (strR (Yi al k)) 9))/\Hid (Tch (λj=>j=w1.heap.size) WT wr)) (λi _=>n-(intOf i).toNat)
 case atStart=>exact⟨0,Nat.zero_le _,rfl,HR0,Te _ _⟩
 case round=>
  obtain⟨k,hk,rfl,HR,HT⟩:=hrel
  by_cases hlt:k<n
  ·have hkl:k<al.length:=(by have:=HN.o;omega);obtain⟨gi,hgi,hgl,hcell⟩:=HND.o k hkl;subst hgi;obtain⟨x,hx⟩:∃x,x=al[k]:=⟨_,rfl⟩
   have HX:Hid (x∈al/\(Yi al k).set k (bsL (txtN x))=Yi al (k+1)):=⟨by rw[hx];exact Qx hkl,by rw[hx];exact Ji9 al k hkl⟩
   have hq:=hcell wr HT.o;rw[<-hx]at hq;obtain⟨t,ht⟩:∃t,t=bsL (txtN x):=⟨_,rfl⟩
   have HTX:Hid (∀V,Tch (λj=>j=w1.heap.size) WT V->Calls prog 154 #[.agg (Jo x),.int .i64 (wj:Int)] V λe w'=>Tch NoB V w'/\e=.returned (.tuple #[.string t,.nilIface])):=λV hT=>by
    rw[ht];exact HU.o.2.1 x (HA.o.2 x HX.o.1) V (HTW.o.trans hT (λj hj=>.inr (by have:=HTW.o.size;omega)))
   have HTE:Hid (t=bsL (txtN x)):=ht;have c0':=HC0.o wr HT.o;have hki:(k:Int)<(n:Int):=(by omega);have hfl:=Jem al k (by omega);have HSL:Hid (k<(strR (Yi al k)).size):=(by show k<_;simp[strR,hfl];omega);obtain⟨n1,n2,⟨n3,n4⟩,n5,n6,n7⟩:=x;have q0:wr.cell? ⟨gi,k*7,none⟩=some (.string n1):=hq 0 (by omega);have q1:wr.cell? ⟨gi,k*7+1,none⟩=some (.string n2):=hq 1 (by omega);have q2:wr.cell? ⟨gi,k*7+2,none⟩=some (.int .u64 (n3:Int)):=hq 2 (by omega);have q3:wr.cell? ⟨gi,k*7+3,none⟩=some (.int .u8 (n4:Int)):=hq 3 (by omega);have q4:wr.cell? ⟨gi,k*7+4,none⟩=some (.int .i64 n5):=hq 4 (by omega);have q5:wr.cell? ⟨gi,k*7+5,none⟩=some (.string n6):=hq 5 (by omega);have q6:wr.cell? ⟨gi,k*7+6,none⟩=some (.string n7):=hq 6 (by omega);simp only[Jo]at HTX;have tB:=Ta (λj=>j=w1.heap.size) wr (.cells #[.string n1,.string n2,.int .u64 (n3:Int),.int .u8 (n4:Int),.int .i64 n5,.string n6,.string n7] 281);have HTB:Hid (Tch (λj=>j=w1.heap.size) WT (wr.alloc (.cells #[.string n1,.string n2,.int .u64 (n3:Int),.int .u8 (n4:Int),.int .i64 n5,.string n6,.string n7] 281))):=HT.o.trans tB (λ_ h=>.inl h);have c0A:=HC0.o _ HTB.o;have HRB:Hid ((wr.alloc (.cells #[.string n1,.string n2,.int .u64 (n3:Int),.int .u8 (n4:Int),.int .i64 n5,.string n6,.string n7] 281)).heap[w1.heap.size]? =some (.cells (strR (Yi al k)) 9)):=((Ta NoB wr _).block _ (Jb HR.o) (λh=>h)).trans HR.o;clear hq hcell hx ht hkl hfl hmk tB;go_wp2_with fail;refine(HTX.o _ HTB.o).mono ?_;rintro _ w2⟨ht2,rfl⟩;have hrow:=(ht2.block _ (Jb HRB.o) (λh=>h)).trans HRB.o;have hfz:w2.frozen? ⟨w1.heap.size,k,none⟩=false:=Qg _ _ _ _ _ hrow;have hcs:(w2.cell? ⟨w1.heap.size,k,none⟩).isSome=true:=(by rw[Ja hrow,Array.getElem?_eq_getElem HSL.o];rfl);obtain⟨u,hcu⟩:=Option.isSome_iff_exists.1 hcs;have hset:w2.setCell ⟨w1.heap.size,k,none⟩ (.string t)=w2.setRow w1.heap.size (strR (Yi al (k+1))):=(by rw[Qj _ _ _ _ _ _ _ hrow,JlN,HTE.o,HX.o.2]);have HW3:Hid ((w2.setRow w1.heap.size (strR (Yi al (k+1)))).heap[w1.heap.size]? =some (.cells (strR (Yi al (k+1))) 9)/\Tch (λj=>j=w1.heap.size) WT (w2.setRow w1.heap.size (strR (Yi al (k+1))))):=⟨Qi _ _ _ _ _ _ hrow,(HTB.o.trans ht2 noE).trans (Ts _ _ _) (λ_ h=>.inl h)⟩
   clear ht2 hrow hcs HRB HTB HTX c0A;go_wp2;go_roundw
   case rel=>exact⟨k+1,hlt,by go_num,HW3.o.1,HW3.o.2⟩
   case measure=>simp[intOf];omega
  ·have hki:¬(k:Int)<(n:Int):=(by omega);have hkn:k=al.length:=(by have:=HN.o;omega);have HRF:Hid (wr.heap[w1.heap.size]? =some (.cells (strR ((al.map txtN).map bsL)) 9)):=by
    show wr.heap[w1.heap.size]? =_;rw[<-Ji8,<-hkn];exact HR.o
   obtain⟨ss,hss⟩:∃ss,ss=al.map txtN:=⟨_,rfl⟩
   have hsl:ss.length=n:=(by rw[hss,QL];exact HN.o.symm);obtain⟨S,hS⟩:∃S,S=ss.mergeSort λx y=>decide (x<=y):=⟨_,rfl⟩
   have hSl:S.length=n:=(by rw[hS,List.length_mergeSort,hsl]);have hnd:ss.Nodup:=(by rw[hss];exact List.Pairwise.map _ (λa c h=>h) (List.Pairwise.imp_of_mem (λ{a c} ha hc hne e=>hne (HU.o.2.2.2.1 a c (HA.o.2 a ha) (HA.o.2 c hc) e)) HA.o.1.1));have hmem:∀t,t∈S↔∃x∈al,txtN x=t:=λt=>by rw[hS,List.mem_mergeSort,hss,QK]
   have HF:Hid (ZJ (S.map bsL)/\S.Nodup/\∀t,t∈S↔∃x∈al,txtN x=t):=⟨by rw[hS];exact JgR ss hnd,by rw[hS];exact(List.mergeSort_perm ss _).nodup_iff.2 hnd,hmem⟩
   have HSO:Hid (Calls prog 155 #[.slice (some ⟨w1.heap.size,0,none⟩) n n] wr λe w'=>e=.returned (.tuple #[])/\Tch (λj=>j=w1.heap.size) wr w'/\∀i (h:i<S.length),w'.cell? ⟨w1.heap.size,i,none⟩=some (.string (bsL S[i]))):=(by have:=JjQ w1.heap.size n ss wr (by rw[hss];exact HRF.o) (by omega);rw[hsl]at this;subst hS;exact this);have c0':=HC0.o wr HT.o;clear hkn hmk hss hsl hS hnd hmem;go_wp2_with fail;refine HSO.o.mono ?_;rintro _ w2⟨rfl,ht2,hc2⟩;have HT2:Hid (Tch (λj=>j=w1.heap.size) WT w2):=HT.o.trans ht2 (λ_ h=>.inl h);have c02:=HC0.o w2 HT2.o;have HC2:Hid (∀i (h:i<S.length),w2.cell? ⟨w1.heap.size,i,none⟩=some (.string (bsL S[i]))):=hc2;have HL2:Hid (w1.heap.size<w2.heap.size):=Qk (Jb HR.o) ht2.size;clear ht2 hc2 HSO c0' HR HRF HT;go_wp2_with fail;refine(Xd (wj:Int) w2).mono ?_;rintro _ w3⟨rfl,hp3,ht3⟩;have HDW:Hid (Calls prog 156 #[.pointer (some ⟨w2.heap.size,0,none⟩),.slice (some ⟨w1.heap.size,0,none⟩) n n] w3 λe w'=>(∃v',e=.returned v')/\JW w3 w' w2.heap.size none (wj:Int) (.wr (szsB (S.map bsL)))):=by
    have hv:TxAt w2.heap.size w3 (.slice (some ⟨w1.heap.size,0,none⟩) n n) (S.map bsL):=(by refine .inr ⟨w1.heap.size,0,n,by rw[QL,hSl],HL2.o,Qk HL2.o ht3.size,λi h=>?_⟩;have h':i<S.length:=(by simpa using h);have c:=HC2.o i h';rw[Nat.zero_add,List.getElem_map];exact(ht3.cell (p:=⟨w1.heap.size,i,none⟩) HL2.o (λh=>h)).trans c);have hU:∀t∈S,∃x,(x∈Jd d st1\/x∈Jd d st2)/\txtN x=t:=λt ht=>by
     obtain⟨x,hx,e⟩:=(HF.o.2.2 t).1 ht;exact⟨x,HA.o.2 x hx,e⟩
    have:=JdV E w2.heap.size none (wj:Int) _ (S.map bsL) [] w3 hp3 hv (λt ht=>by
     obtain⟨y,hy,rfl⟩:=QK.1 ht;obtain⟨x,hx,rfl⟩:=hU y hy;have h1:=HU.o.2.2.1 x hx;have e:(bsL (txtN x)).size=(txtN x).length:=(by simp[bsL,ByteArray.size]);omega) HF.o.1 (by rw[QL];omega) (by rw[List.nil_append];exact HU.o.2.2.2.2 S HF.o.2.1 hU)
    rw[List.nil_append]at this;exact this
   have HT3:Hid (Tch NoB w w3):=(HTW.o.trans HT2.o (λj hj=>.inr (by have:=HTW.o.size;omega))).go ht3;have HZ3:Hid (w.heap.size<=w2.heap.size):=Qm HTW.o.size HT2.o.size;clear hp3 ht3 c02 HC2;go_wp2_with fail;refine HDW.o.mono ?_;rintro _ w4⟨⟨v',rfl⟩,g4,hp4,hm4,ht4⟩;have HDN:Hid (Calls prog 79 #[.pointer (some ⟨w2.heap.size,0,none⟩)] w4 λe w'=>Tch NoB w4 w'/\e=.returned (.tuple #[.string ⟨(szsB (S.map bsL)).toArray⟩,.nilIface])):=Zk E w2.heap.size g4 (wj:Int) (some (.wr (szsB (S.map bsL)))) (λp h=>by cases h;exact⟨_,rfl⟩) w4 hp4;have HT4:Hid (Tch NoB w w4):=HT3.o.trans ht4 (λj hj=>by
    rcases hj with rfl|hj
    ·exact .inr HZ3.o
    ·cases hj)
   clear hp4 hm4 ht4 HDW;go_wp2_with fail;refine HDN.o.mono ?_;rintro _ w5⟨ht5,rfl⟩;have HT5:Hid (Tch NoB w w5):=HT4.o.go ht5;clear ht5 HDN;go_wp2;go_ret2;refine⟨S,rfl,HF.o.1,λt=>?_,HT5.o⟩;rw[HF.o.2.2 t];constructor
   ·rintro⟨x,hx,e⟩;exact⟨x,e,(HA.o.1.2 x).1 hx⟩
   ·rintro⟨x,e,hx⟩;exact⟨x,(HA.o.1.2 x).2 hx,e⟩

theorem JkN{r:Nat}{bs:List BV}(h:Jz w cb wj fl r bs v)(a b:Nat)(ba bb:BV)(ha:bs[a]? =some ba)(hb:bs[b]? =some bb)(hfa:fl<=a)(hfb:fl<=b)(hwa:ba.2.1=wj)(hwb:bb.2.1=wj)(P:BA->Prop)
 (hD:∀V,Tch NoB w V->Calls prog 96 #[Jv wj ba.2.2,Jv wj bb.2.2] V λe w'=>∃s,e=.returned (.tuple #[.string s,.nilIface])/\P s/\Tch NoB V w'):
  Calls prog 55 #[.pointer (some ⟨cb,0,none⟩),.int .i64 (a:Int),.int .i64 (b:Int)] w λe w'=>∃s,e=.returned (.tuple #[.string s,.nilIface])/\P s/\Tch NoB w w':=by
 have HA:Hid (∀W,Tch NoB w W->Calls prog 92 _ W _):=λW hT=>Jbj (h.next hT) a ba ha hfa;have HB:Hid (∀W,Tch NoB w W->Calls prog 92 _ W _):=λW hT=>Jbj (h.next hT) b bb hb hfb;rw[hwa]at HA;rw[hwb]at HB;obtain⟨ra,hra⟩:∃rv,Jv wj ba.2.2=.agg #[.int .i64 (wj:Int),.pointer rv]:=⟨_,rfl⟩
 obtain⟨rb,hrb⟩:∃rv,Jv wj bb.2.2=.agg #[.int .i64 (wj:Int),.pointer rv]:=⟨_,rfl⟩
 have HD:Hid (∀V,Tch NoB w V->Calls prog 96 _ V _):=hD;rw[hra]at HA HD;rw[hrb]at HB HD;clear h ha hb hwa hwb hra hrb hD;go_enter func55,ntmps55;go_wp2_with fail;refine(HA.o w (Te _ _)).mono ?_;rintro _ w1⟨rfl,ht1⟩;have tA:=Ta NoB w1 (.cells #[.int .i64 (wj:Int),.pointer ra] 146);have HT1:Hid (Tch NoB w (w1.alloc (.cells #[.int .i64 (wj:Int),.pointer ra] 146))):=ht1.go tA;clear ht1 tA HA;go_wp2_with fail;refine(HB.o _ HT1.o).mono ?_;rintro _ w2⟨rfl,ht2⟩;have r1:w2.heap[w1.heap.size]? =some (.cells #[.int .i64 (wj:Int),.pointer ra] 146):=(ht2.block _ (by simp) (λh=>h)).trans (Qf _ _);have c0:w2.cell? ⟨w1.heap.size,0,none⟩=some (.int .i64 (wj:Int)):=Ja r1;have c1:w2.cell? ⟨w1.heap.size,1,none⟩=some (.pointer ra):=Ja r1;have hz:=(Jb r1)
 have HT2:Hid (Tch NoB w (w2.alloc (.cells #[.int .i64 (wj:Int),.pointer rb] 146))):=(HT1.o.go ht2).go (Ta _ _ _);clear ht2 r1 HB HT1;go_wp2_with fail;refine(HD.o _ HT2.o).mono ?_;rintro _ w3⟨s,rfl,hP,ht3⟩;have HP:Hid (P s/\Tch NoB w w3):=⟨hP,HT2.o.go ht3⟩
 clear hP ht3 HD c0 c1;go_wp2;go_ret2;exact⟨s,rfl,HP.o.1,HP.o.2⟩
theorem Ji4(hl:w.cell? ⟨lb,0,none⟩=some (.pointer (some ⟨cb,0,none⟩)))(a b:Int)(P:BA->Prop)(h:Calls prog 55 #[.pointer (some ⟨cb,0,none⟩),.int .i64 a,.int .i64 b] w λe w'=>∃s,e=.returned (.tuple #[.string s,.nilIface])/\P s/\Tch NoB w w'):
  Calls prog 27 #[.pointer (some ⟨lb,0,none⟩),.int .i64 a,.int .i64 b] w λe w'=>∃s,e=.returned (.tuple #[.string s,.int .i64 0])/\P s/\Tch NoB w w':=by
 have H:Hid (Calls prog 55 _ w _):=h;clear h;go_enter func27,ntmps27;go_wp2_with fail;refine H.out.mono ?_;rintro _ w1⟨s,rfl,hP,ht⟩;have HP:Hid (P s/\Tch NoB w w1):=⟨hP,ht⟩
 clear hP ht H;go_wp2_with fail;refine(ZN _).mono ?_;rintro _ _⟨rfl,rfl⟩;go_wp2;go_ret2;exact⟨s,rfl,HP.o.1,HP.o.2⟩

def XL(wj:Nat)(x:Jk):Prop:=x=(⟨#[69]⟩,⟨#[]⟩,(0,0),0,⟨#[]⟩,⟨#[]⟩)\/∃t,x=JK (dgW wj) t/\TrOk wj t
theorem Yq{st:Option Tr}(h:StOk wj st):∀x∈Jd (dgW wj) st,XL wj x:=by
 cases st with
 | none=>intro x hx;rw[Jd,Qt]at hx;exact .inl hx
 | some t=>
  intro x hx;obtain⟨s,h1,h2,_⟩:=(YT (dgW wj) t h).1 x hx;exact .inr ⟨s,h1,h2⟩
theorem ZM(hw:wj<=32)(t:Tr):(Tr.dig (dgW wj) t).size=wj:=by cases t<;>exact Jw wj hw _
theorem Jhh(wj:Nat):ZV (XH wj (⟨#[69]⟩,⟨#[]⟩,(0,0),0,⟨#[]⟩,⟨#[]⟩) (some (.wr []))).2=some [69]:=by
 rfl
theorem Jjw(E:Nat->Addr)(hw:wj<=32)(h:XL wj x)(w:World)(hE:Env E w):
  Calls Tryz.prog 154 #[.agg (Jo x),.int .i64 (wj:Int)] w λe w'=>Tch NoB w w'/\e=.returned (.tuple #[.string (bsL (txtN x)),.nilIface]):=by
 rcases h with rfl|⟨t,rfl,ht⟩
 ·have:=Zg E wj (by omega) (⟨#[69]⟩,⟨#[]⟩,(0,0),0,⟨#[]⟩,⟨#[]⟩) (show (0:Nat)<256 by decide) w hE;rw[Jhh]at this;exact this
 ·rw[Xg]
  cases t with
  | leaf k o=>
   have:=Zg E wj (by omega) (⟨#[76]⟩,⟨k.toArray⟩,o,0,⟨#[]⟩,⟨#[]⟩) ht.2.2.2 w hE;rw[Jet wj k o ht]at this;exact this
  | br b l r=>
   have:=Zg E wj (by omega) (⟨#[78]⟩,⟨#[]⟩,(0,0),(b:Int),Tr.dig (dgW wj) l,Tr.dig (dgW wj) r) (show (0:Nat)<256 by decide) w hE;rw[Jii wj b _ _ (by omega) ht.1 (ZM hw l) (ZM hw r)]at this;exact this
theorem Zx(hw:wj<=32)(h:XL wj x):(txtN x).length<=100:=by
 rcases h with rfl|⟨t,rfl,ht⟩
 ·decide
 ·rw[Xg]
  cases t with
  | leaf k o=>
   have:=ht.1;simp only[Tr.text,Qp,Qe,outB,Jf];omega
  | br b l r=>
   have h1:=ZM hw l;have h2:=ZM hw r;simp only[Tr.text,Qp,Qe,Jf,JR];omega
theorem JdQ(hw:wj<=32){y:Jk}(hx:XL wj x)(hy:XL wj y)(h:txtN x=txtN y):x=y:=by
 rcases hx with rfl|⟨s,rfl,hs⟩
 ·rcases hy with rfl|⟨t,rfl,ht⟩
  ·rfl
  ·rw[Xg]at h
   cases t<;>(unfold Tr.text at h;simp[txtN]at h)
 ·rcases hy with rfl|⟨t,rfl,ht⟩
  ·rw[Xg]at h
   cases s<;>(unfold Tr.text at h;simp[txtN]at h)
  ·rw[Xg,Xg]at h;exact JlR hw s t hs ht h
theorem JeK(L:List BA)(h:∀t∈L,t.size<=100):(szsB L).length<=102*L.length:=by
 induction L with
 | nil=>simp[szsB]
 | cons x r ih=>
  have h1:=ih (λt ht=>h t (QP _ ht));have h2:=h x QM;simp only[szsB,QG,Qe,JbQ,Qp]at h1 ⊢;omega
def JeN(wj:Nat)(st1 st2:Option Tr)(L:List (List UInt8)):Prop:=ZJ (L.map bsL)/\∀t,t∈L↔∃x,txtN x=t/\((x∈Jd (dgW wj) st1/\x ∉ Jd (dgW wj) st2)\/(x ∉ Jd (dgW wj) st1/\x∈Jd (dgW wj) st2))
theorem Jjm(E:Nat->Addr)(wj base:Nat){pn:Nat}{ch:Ch}(a b:Nat)(ca cb':BA×Option Tr)(hA:LAt wj base pn w lb F fl ch)(hF:Xe E base w)(ha:ch[a]? =some ca)(hb:ch[b]? =some cb')(hfa:fl<=a)(hfb:fl<=b)(hoa:StOk wj ca.2/\∀t,ca.2=some t->t.Wf)(hob:StOk wj cb'.2/\∀t,cb'.2=some t->t.Wf)(hln:(Jd (dgW wj) ca.2).length+(Jd (dgW wj) cb'.2).length<=1000000000):
  Calls Tryz.prog 27 #[.pointer (some ⟨lb,0,none⟩),.int .i64 (a:Int),.int .i64 (b:Int)] w λe w'=>∃s,e=.returned (.tuple #[.string s,.int .i64 0])/\(∃L,s=⟨(szsB (L.map bsL)).toArray⟩/\JeN wj ca.2 cb'.2 L)/\Tch NoB w w':=by
 obtain⟨⟨_,hw⟩,lg,cb,r,bs,lv,C⟩:=hA;have hl:w.cell? ⟨lb,0,none⟩=some (.pointer (some ⟨cb,0,none⟩)):=Ja C.led;have hal:=(Qo.1 ha).1;have hbl:=(Qo.1 hb).1;have hba:bs[a]? =some (bs[a]'(by rw[C.len];exact hal)):=Qd _;have hbb:bs[b]? =some (bs[b]'(by rw[C.len];exact hbl)):=Qd _;obtain⟨a1,a2,_⟩:=C.st a _ ca hba ha hfa;obtain⟨b1,b2,_⟩:=C.st b _ cb' hbb hb hfb;have hof:∀x,x∈Jd (dgW wj) ca.2\/x∈Jd (dgW wj) cb'.2->XL wj x:=λx hx=>by
  rcases hx with hx|hx
  ·exact Yq hoa.1 x hx
  ·exact Yq hob.1 x hx
 refine Ji4 hl (a:Int) (b:Int) _ (JkN C.row a b _ _ hba hbb hfa hfb a1 b1 _ (λV hT=>?_));refine(Jj7 E (dgW wj) (F:=F) V ?_ wj _ _ ca.2 cb'.2 (a2.next hT) hoa.2 (JeJ hw _ hoa.1) (b2.next hT) hob.2 (JeJ hw _ hob.1) hln (λx hx U hU=>Jjw E hw (hof x hx) U ((hF.tch hT (λ_ e=>e.elim)).env.tch hU (λ_ e=>e.elim))) (λx hx=>by have:=Zx hw (hof x hx);omega) (λx y hx hy h=>JdQ hw (hof x hx) (hof y hy) h) (λL hd hL=>?_)).mono ?_
 ·exact λj hj=>Qk (C.low j hj).2 hT.size
 ·have h1:=XS L ((Jd (dgW wj) ca.2++Jd (dgW wj) cb'.2).map txtN) hd (λt ht=>by
   obtain⟨x,hx,rfl⟩:=hL t ht;exact List.mem_map_of_mem (QE.2 hx))
  have h2:=JeK (L.map bsL) (λt ht=>by
   obtain⟨y,hy,rfl⟩:=QK.1 ht;obtain⟨x,hx,rfl⟩:=hL y hy;have h3:=Zx hw (hof x hx);have e:(bsL (txtN x)).size=(txtN x).length:=(by simp[bsL,ByteArray.size]);omega)
  simp only[QL,Qe]at h1 h2;omega
 ·rintro e w'⟨L,rfl,h1,h2,h3⟩;exact⟨_,rfl,⟨L,rfl,h1,h2⟩,h3⟩
