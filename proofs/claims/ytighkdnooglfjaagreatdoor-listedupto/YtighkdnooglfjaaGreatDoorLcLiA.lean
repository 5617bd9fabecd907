import Derived.Test.YtighkdnooglfjaaGreatDoorLcStB
namespace Go.Proofs.YtighkdnooglfjaaGreatDoor
open Tryz
set_option maxRecDepth 100000
set_option maxHeartbeats 1000000
open Go.RowKit

variable {x y:Jj}{A B l:List Jj}{seen:List Nat}{b base p:Nat}{v:Value}{w:World}
attribute [local go_sem] Oper.semAt_some

abbrev Yb:=List (Jj×Nat)
def mkE(M:Yb):List (Value×Value):=M.map λx=>(.agg (Jo x.1),.int .i64 (x.2:Int))
def orN(b:Nat)(M:Yb)(x:Jj):Yb:=haveI:=Jli x (M.map (·.1));if x∈M.map (·.1) then M.map λy=>if y.1=x then (y.1,y.2 ||| b) else y else M++[(x,b)]
theorem Jgu(M:Yb):(mkE M).map (·.1)=(M.map (·.1)).map λx=>.agg (Jo x):=by simp[mkE]
theorem Jdi(b:Nat)(M:Yb)(x:Jj):(orN b M x).map (·.1)=haveI:=Jli x (M.map (·.1));if x∈M.map (·.1) then M.map (·.1) else M.map (·.1)++[x]:=by
 unfold orN
 split
 ·rw[List.map_map]
  congr 1
  funext y
  simp only[Function.comp]
  split<;>rfl
 ·simp
structure Zn(M:Yb):Prop where
 ks:∀x∈M,YR x.1
 nd:(M.map (·.1)).Nodup
 lt:∀x∈M,x.2<4
theorem Zn.or{M:Yb}(h:Zn M)(hb:b<4)(hx:YR x):Zn (orN b M x):=by
 refine⟨λy hy=>?_,?_,λy hy=>?_⟩
 ·have h1:y.1∈(orN b M x).map (·.1):=List.mem_map_of_mem hy;rw[Jdi]at h1;have h2:∀z∈M.map (·.1),YR z:=λz hz=>by obtain⟨a,ha,rfl⟩:=QK.1 hz;exact h.ks a ha
  split at h1
  ·exact h2 _ h1
  ·rw[QE,Qt]at h1
   rcases h1 with h1|h1
   ·exact h2 _ h1
   ·rw[h1];exact hx
 ·rw[Jdi]
  split
  ·exact h.nd
  ·rename_i hn;rw[List.nodup_append];exact⟨h.nd,by simp,λa ha c hc=>by rw[Qt]at hc;rintro rfl;exact hn (hc ▸ ha)⟩
 ·unfold orN at hy
  split at hy
  ·obtain⟨z,hz,rfl⟩:=QK.1 hy
   split
   ·exact Nat.or_lt_two_pow (n:=2) (h.lt z hz) hb
   ·exact h.lt z hz
  ·rw[QE,Qt]at hy
   rcases hy with hy|rfl
   ·exact h.lt y hy
   ·exact hb
theorem Zn.nodup{M:Yb}(h:Zn M):((mkE M).map (·.1)).Nodup:=by
 rw[Jgu];exact List.Pairwise.map _ (λa c hne e=>hne (Jeu (by simpa using e))) h.nd
theorem Zn.keys{M:Yb}(h:Zn M):∀q∈mkE M,IsK 281 q.1:=λq hq=>by
 obtain⟨x,hx,rfl⟩:=QK.1 hq;exact .inl (Jfl x.1 (h.ks x hx))
theorem ndTy:MpTy 397 281 3 (.int .i64 0):=⟨underlying397,KLw.of JnN (by rw[underlying281];simp),λw=>by kernel_rfl⟩
theorem Jgs{M:Yb}(h:MpAt w p (mkE M))(hM:Zn M)(b:Nat)(x:Jj)(hx:YR x):
  ∃(m j:Nat)(w1:World),m<4/\(Instr.lookup 397 (.map (some p)) (.agg (Jo x)) false).run prog w=.ok (.int .i64 (m:Int)) w/\(Instr.lookup 397 (.map (some p)) (.agg (Jo x)) false).run prog w1=.ok (.int .i64 (m:Int)) w1/\
   (Instr.mapEntry 397 (.map (some p)) (.agg (Jo x))).run prog w=.ok (.tuple #[.int .i64 (m:Int),.int .i64 (j:Int)]) w1/\
   (Instr.entryStore 397 (.map (some p)) (.int .i64 (j:Int)) (.int .i64 ((m ||| b:Nat):Int))).run prog w1=.ok () (w.setMp p (mkE (orN b M x))):=by
 by_cases hm:x∈M.map (·.1)
 ·obtain⟨⟨y,m⟩,hy,rfl⟩:=QK.1 hm;obtain⟨j,hj⟩:=List.getElem?_of_mem hy;have hj':(mkE M)[j]? =some (.agg (Jo y),.int .i64 (m:Int)):=by simp[mkE,hj]
  have hlt:j<(mkE M).length:=(Qo.1 hj').1;refine⟨m,j,w,hM.lt _ hy,by rw[Jfj ndTy h hM.keys hM.nodup j hj'];rfl,by rw[Jfj ndTy h hM.keys hM.nodup j hj'];rfl,Jlj ndTy h hM.keys hM.nodup j hj',?_⟩;rw[Jgv h j hlt]
  congr 2
  unfold orN;rw[if_pos hm];apply List.ext_getElem?;intro i;rw[List.getElem?_modify];unfold mkE;rw[List.getElem?_map,List.getElem?_map,List.getElem?_map]
  by_cases hij:j=i
  ·subst hij;rw[hj];simp
  ·cases hz:M[i]? with
   | none=>simp
   | some z=>
    have hne:¬z.1=y:=λe=>by
     have a1:(M.map (·.1))[i]? =some y:=(by rw[List.getElem?_map,hz];exact congrArg some e);have a2:(M.map (·.1))[j]? =some y:=(by rw[List.getElem?_map,hj];rfl);have b1:=Qo.1 a1;have b2:=Qo.1 a2;exact hij ((List.getElem_inj hM.nd).1 (b2.2.trans b1.2.symm))
    simp[hij,hne]
 ·have hn:Value.agg (Jo x) ∉ (mkE M).map (·.1):=by
   rw[Jgu];intro h;obtain⟨y,hy,e⟩:=QK.1 h;have he:y=x:=Jeu (by simpa using e);exact hm (he ▸ hy)
  have h1:=Zu h (mkE M++[(.agg (Jo x),.int .i64 0)]);have hl:∀q∈mkE M++[(Value.agg (Jo x),Value.int .i64 0)],IsK 281 q.1:=λq hq=>by
   rw[QE,Qt]at hq
   rcases hq with hq|rfl
   ·exact hM.keys q hq
   ·exact .inl (Jfl x hx)
  have hd:((mkE M++[(Value.agg (Jo x),Value.int .i64 0)]).map (·.1)).Nodup:=by rw[List.map_append,List.nodup_append];exact⟨hM.nodup,by simp,λa ha c hc=>by simp at hc;rintro rfl;exact hn (hc ▸ ha)⟩
  have hj:(mkE M++[(Value.agg (Jo x),Value.int .i64 0)])[(mkE M).length]? =some (.agg (Jo x),.int .i64 0):=by simp
  refine⟨0,(mkE M).length,w.setMp p (mkE M++[(.agg (Jo x),.int .i64 0)]),by omega,by rw[Jip ndTy h (.inl (Jfl x hx)) hM.keys hn];rfl,by rw[Jfj ndTy h1 hl hd _ hj];rfl,Jfi ndTy h (.inl (Jfl x hx)) hM.keys hn,?_⟩;rw[Jgv h1 _ (by simp)];have e:mkE (orN b M x)=(mkE M++[(Value.agg (Jo x),Value.int .i64 0)]).modify (mkE M).length (λq=>(q.1,.int .i64 ((0 ||| b:Nat):Int))):=by
   have e1:orN b M x=M++[(x,b)]:=(by unfold orN;rw[if_neg hm]);rw[e1,Nat.zero_or];apply List.ext_getElem?;intro i;rw[List.getElem?_modify];unfold mkE
   by_cases hi:i<M.length
   ·have:¬M.length=i:=(by omega);simp[List.getElem?_append_left,hi,this]
   ·by_cases hi2:i=M.length
    ·subst hi2;simp
    ·have:¬M.length=i:=(by omega);simp[this,show M.length+1<=i by omega]
  rw[e];unfold World.setMp;simp only[Array.setIfInBounds_setIfInBounds]
def YG(base:Nat)(w:World)(v:Value)(l:List Jj):Prop:=w.ownsRow base 281 7 v l.length (l.flatMap λn=>(Jo n).toList)
theorem Jmh:(prog.info? 281).map (λi=>(i.zero,i.size,i.bytes))=some (some (.agg #[.string ⟨#[]⟩,.string ⟨#[]⟩,.int .u64 0,.int .u8 0,.int .i64 0,.string ⟨#[]⟩,.string ⟨#[]⟩]),7,88):=by kernel_rfl
theorem Jb9(x:Jj):(Jo x).toList.length=7:=rfl
theorem Jd6(h:YG base w v l)(k:Nat)(x:Jj)(hk:w.heap[k]? =some (.cells (Jo x) 281))(hl:l.length<=1000000000)(ty:TypeId)(hb:base<=w.heap.size):
  ∃v' w',(Builtin.append_ #[275,275] ty #[v,.slice (some ⟨k,0,none⟩) 1 1]).run prog w=.ok v' w'/\YG base w' v' (l++[x])/\World.grownBy w w' v.ownBlock:=by
 obtain⟨i,hi,hp⟩:=Option.map_eq_some_iff.1 Jmh;simp only[Qw]at hp;obtain⟨hz,hsz,hby⟩:=hp;obtain⟨v',w',hr,h2,h3,_⟩:=run_append_own (P:=prog) w base 275 ty 281 i _ 7 88 underlying275 hi hz hsz hby rfl (by omega) v l.length _ h ⟨k,0,none⟩ 1 1 (Jo x).toList rfl (λj u hu=>by
  rw[Addr.add_lit];show w.cell? ⟨k,0+j,none⟩=some u;rw[Nat.zero_add,Ja hk,<-Array.getElem?_toList];exact hu) (λu hu=>by
  obtain⟨n1,n2,⟨n3,n4⟩,n5,n6,n7⟩:=x;simp only[Jo,List.mem_cons,QD,or_false]at hu
  rcases hu with rfl|rfl|rfl|rfl|rfl|rfl|rfl<;>rfl) (by simp only[maxLen];omega) (by omega) hb
 refine⟨v',w',hr,?_,h3⟩;unfold YG;rw[Qe,List.flatMap_append];simpa using h2
theorem YG.own(h:YG base w v l):∀k,v.ownBlock=some k->base<=k/\k<w.heap.size:=by
 obtain⟨_,⟨rfl,h0⟩|⟨g,cap,cur,rfl,hb,hrow,_⟩⟩:=h
 ·intro k hk;cases hk
 ·intro k hk;cases hk;exact⟨hb,(Jb hrow)⟩
theorem YG.tch{w':World}{S:Nat->Prop}(h:YG base w v l)(k:Tch S w w')(hs:∀j,v.ownBlock=some j->¬S j):YG base w' v l:=by
 obtain⟨h1,⟨rfl,h0⟩|⟨g,cap,cur,rfl,hb,hrow,h2⟩⟩:=h
 ·exact⟨h1,.inl ⟨rfl,h0⟩⟩
 ·exact⟨h1,.inr ⟨g,cap,cur,rfl,hb,(k.block g (Jb hrow) (hs g rfl)).trans hrow,h2⟩⟩
def seenN(w:World)(r:Nat):Nat:=match w.heap[r]? with
 | some (.mapIter _ _ s _)=>s.size
 | _=>0
theorem MIt.seenN{r:Nat}{l:List (Value×Value)}(h:MIt w r p l seen):seenN w r=seen.length:=by
 unfold Go.Proofs.YtighkdnooglfjaaGreatDoor.seenN;rw[h.it];simp
theorem ZR(n:Nat):∀(l:List Nat),l.Nodup->(∀i∈l,i<n)->l.length<=n:=by
 induction n with
 | zero=>intro l _ h;cases l with
  | nil=>simp
  | cons a r=>exact absurd (h a QM) (Nat.not_lt_zero _)
 | succ n ih=>
  intro l hd h
  by_cases hm:n∈l
  ·have h1:=ih (l.erase n) (hd.erase n) (λi hi=>by
    have h2:=(List.Nodup.mem_erase_iff hd).1 hi;have h3:=h i h2.2;have h4:=h2.1;omega)
   rw[List.length_erase_of_mem hm]at h1;have:=List.length_pos_of_mem hm;omega
  ·have h1:=ih l hd (λi hi=>by
    have h3:=h i hi;have h4:i ≠ n:=λe=>hm (e ▸ hi);omega)
   omega
def Jaa(M:Yb)(seen:List Nat):List Jj:=seen.filterMap λi=>(M[i]?).bind λx=>if x.2 ≠ 3 then some x.1 else none
theorem JmK(b:Nat)(M:Yb)(x:Jj):(orN b M x).length<=M.length+1:=by
 unfold orN
 split<;>simp
theorem Jdj(b:Nat):∀(l:List Jj)(M:Yb),(l.foldl (orN b) M).length<=M.length+l.length
 | [],M=>by simp
 | x::r,M=>by
  have h1:=Jdj b r (orN b M x);have h2:=JmK b M x;simp only[List.foldl_cons,Qp];omega
structure Mk(A B:List Jj)(M:Yb):Prop where
 keys:∀y,y∈M.map (·.1)↔y∈A\/y∈B
 val:∀y m,(y,m)∈M->(m=1/\y∈A/\y ∉ B)\/(m=2/\y ∉ A/\y∈B)\/(m=3/\y∈A/\y∈B)
theorem Jis{M:Yb}{m:Nat}(h:(y,m)∈orN b M x):((y,m)∈M/\y ≠ x)\/(y=x/\∃m0,(x,m0)∈M/\m=m0 ||| b)\/(y=x/\x ∉ M.map (·.1)/\m=b):=by
 unfold orN at h
 split at h
 ·obtain⟨z,hz,e⟩:=QK.1 h
  split at e
  ·rename_i hzx
   cases e
   exact .inr (.inl ⟨hzx,z.2,by rw[<-hzx];exact hz,rfl⟩)
  ·rename_i hzx
   cases e
   exact .inl ⟨hz,hzx⟩
 ·rename_i hn;rw[QE,Qt]at h
  rcases h with h|h
  ·exact .inl ⟨h,λe=>hn (by rw[<-e];exact List.mem_map_of_mem (f:=(·.1)) h)⟩
  ·cases h;exact .inr (.inr ⟨rfl,hn,rfl⟩)
theorem Jir{M:Yb} :y∈(orN b M x).map (·.1)↔y∈M.map (·.1)\/y=x:=by
 rw[Jdi]
 split
 ·rename_i h;constructor
  ·exact .inl
  ·rintro(h2|rfl)
   ·exact h2
   ·exact h
 ·simp
theorem Mk.one{M:Yb}(h:Mk A [] M)(x:Jj):Mk (A++[x]) [] (orN 1 M x):=by
 refine⟨λy=>?_,λy m hm=>?_⟩
 ·rw[Jir,h.keys];simp
 ·refine .inl ?_
  rcases Jis hm with⟨h1,h2⟩|⟨rfl,m0,h1,rfl⟩|⟨rfl,h1,rfl⟩
  ·rcases h.val y m h1 with⟨e,h3,_⟩|⟨_,_,h3⟩|⟨_,_,h3⟩
   ·exact⟨e,by simp[h3],by simp⟩
   ·cases h3
   ·cases h3
  ·rcases h.val y m0 h1 with⟨rfl,h3,_⟩|⟨_,_,h3⟩|⟨_,_,h3⟩
   ·exact⟨rfl,by simp,by simp⟩
   ·cases h3
   ·cases h3
  ·exact⟨rfl,by simp,by simp⟩
theorem Mk.two{M:Yb}(h:Mk A B M)(x:Jj):Mk A (B++[x]) (orN 2 M x):=by
 refine⟨λy=>?_,λy m hm=>?_⟩
 ·rw[Jir,h.keys];simp[or_assoc]
 ·rcases Jis hm with⟨h1,h2⟩|⟨rfl,m0,h1,rfl⟩|⟨rfl,h1,rfl⟩
  ·have:=h.val y m h1;simpa [h2]using this
  ·rcases h.val y m0 h1 with⟨rfl,h3,h4⟩|⟨rfl,h3,h4⟩|⟨rfl,h3,h4⟩
   ·exact .inr (.inr ⟨rfl,h3,by simp⟩)
   ·exact .inr (.inl ⟨rfl,h3,by simp⟩)
   ·exact .inr (.inr ⟨rfl,h3,by simp⟩)
  ·have h2:y ∉ A:=λe=>h1 ((h.keys y).2 (.inl e));exact .inr (.inl ⟨rfl,h2,by simp⟩)
theorem Mk.ones:∀(l A:List Jj)(M:Yb),Mk A [] M->Mk (A++l) [] (l.foldl (orN 1) M)
 | [],A,M,h=>by simpa using h
 | x::r,A,M,h=>by have:=Mk.ones r (A++[x]) _ (h.one x);simpa using this
theorem Mk.twos:∀(l A B:List Jj)(M:Yb),Mk A B M->Mk A (B++l) (l.foldl (orN 2) M)
 | [],A,B,M,h=>by simpa using h
 | x::r,A,B,M,h=>by have:=Mk.twos r A (B++[x]) _ (h.two x);simpa using this
theorem Jhx(A B:List Jj):Mk A B (B.foldl (orN 2) (A.foldl (orN 1) [])):=by
 have h1:Mk [] [] []:=⟨λy=>by simp,λy m h=>by cases h⟩
 have h2:=Mk.ones A [] [] h1;have h3:=Mk.twos B _ [] _ h2;simpa using h3
theorem JiJ{M:Yb}(hM:Zn M)(hk:Mk A B M)(hd:seen.Nodup)(hall:∀i,i<M.length->i∈seen):(Jaa M seen).Nodup/\∀x,x∈Jaa M seen↔(x∈A/\x ∉ B)\/(x ∉ A/\x∈B):=by
 constructor
 ·unfold Jaa;refine List.Pairwise.filterMap _ ?_ hd;intro i i' hne x hx y hy e;rw[e]at hx;obtain⟨a,h1,h2⟩:=Option.bind_eq_some_iff.1 hx;obtain⟨c,h3,h4⟩:=Option.bind_eq_some_iff.1 hy
  split at h2<;>cases h2
  split at h4
  ·simp only[Qh]at h4;have a1:(M.map (·.1))[i]? =some a.1:=(by rw[List.getElem?_map,h1];rfl);have a2:(M.map (·.1))[i']? =some a.1:=(by rw[List.getElem?_map,h3];exact congrArg some h4);have b1:=Qo.1 a1;have b2:=Qo.1 a2;exact hne ((List.getElem_inj hM.nd).1 (b1.2.trans b2.2.symm))
  ·cases h4
 ·intro x;unfold Jaa;rw[List.mem_filterMap];constructor
  ·rintro⟨i,_,h⟩;obtain⟨a,h1,h2⟩:=Option.bind_eq_some_iff.1 h
   split at h2
   ·rename_i hne
    cases h2
    rcases hk.val a.1 a.2 (QS h1) with⟨_,h3,h4⟩|⟨_,h3,h4⟩|⟨h3,_⟩
    ·exact .inl ⟨h3,h4⟩
    ·exact .inr ⟨h3,h4⟩
    ·exact absurd h3 hne
   ·cases h2
  ·intro h;have hm:x∈M.map (·.1):=(hk.keys x).2 (by rcases h with h|h;exact .inl h.1;exact .inr h.2);obtain⟨⟨y,m⟩,hy,rfl⟩:=QK.1 hm;obtain⟨i,hi⟩:=List.getElem?_of_mem hy;refine⟨i,hall i (Qo.1 hi).1,?_⟩;have hne:m ≠ 3:=by
    rintro rfl
    rcases hk.val y 3 hy with⟨h3,_⟩|⟨h3,_⟩|⟨_,h3,h4⟩
    ·cases h3
    ·cases h3
    ·rcases h with h|h
     ·exact h.2 h4
     ·exact h.1 h3
   rw[hi];simp[hne]
structure AlI(w:World)(o1:Obj)(b:Nat)(M:Yb)(pre:List Jj)(V:World):Prop where
 map:MpAt V (w.heap.size+1+1) (mkE (pre.foldl (orN b) M))
 box:V.heap[w.heap.size+1+1+1]? =some (.cells #[.map (some (w.heap.size+1+1))] 397)
 tree:V.heap[w.heap.size+1]? =some o1
 below:Below w.heap.size w V
 ok:Zn (pre.foldl (orN b) M)
theorem JiK(d:List UInt8->BA){F:Nat->Prop}(w:World)(hF:∀j,F j->j<w.heap.size)(wd1 wd2:Nat)(q1 q2:Option Nat)(st1 st2:Option Tr)(hs1:StAt d F w q1 st1)(hw1:∀t,st1=some t->t.Wf)(hK1:∀x∈Jd d st1,YR x)(hs2:StAt d F w q2 st2)(hw2:∀t,st2=some t->t.Wf)(hK2:∀x∈Jd d st2,YR x)(hln:(Jd d st1).length+(Jd d st2).length<=1000000000):
  Calls prog 153 #[.agg #[.int .i64 (wd1:Int),Jh q1],.agg #[.int .i64 (wd2:Int),Jh q2]] w λe w'=>∃al v,e=.returned v/\(al.Nodup/\∀x,x∈al↔(x∈Jd d st1/\x ∉ Jd d st2)\/(x ∉ Jd d st1/\x∈Jd d st2))/\YG w.heap.size w' v al/\Tch NoB w w':=by
 have HLN:Hid _:=hln;clear hln;have hmk:∀W:World,(Instr.makeMap 397 none).run prog W=.ok (.map (some W.heap.size)) (W.alloc (.map #[] 0)):=λW=>(JcO _ W).1;obtain⟨rv1,hr1⟩:∃rv,Jh q1=.pointer rv:=⟨_,rfl⟩
 obtain⟨rv2,hr2⟩:∃rv,Jh q2=.pointer rv:=⟨_,rfl⟩
 rw[hr1,hr2];have HS1:Hid (StAt d F w q1 st1/\(∀t,st1=some t->t.Wf)/\(∀x∈Jd d st1,YR x)/\Jh q1=.pointer rv1):=⟨hs1,hw1,hK1,hr1⟩
 have HS2:Hid (StAt d F w q2 st2/\(∀t,st2=some t->t.Wf)/\(∀x∈Jd d st2,YR x)/\Jh q2=.pointer rv2):=⟨hs2,hw2,hK2,hr2⟩
 have HF:Hid _:=hF;clear hs1 hw1 hK1 hs2 hw2 hK2 hF hr1 hr2;refine(callsIn_wide (n:=5)).1 ?_;refine callsIn_of_wp_marks func153 rfl trivial ?_ rfl;simp only[ntmps153,List.size_toArray,Qp,Qv,Nat.reduceAdd,Nat.reduceSub,Array.replicate_succ,Array.replicate_zero,List.push_toArray,List.append_toArray,List.nil_append,List.cons_append];gi_wp2;refine⟨trivial,(callsIn_wide.2 (Jib _ _ _ _)).mono ?_⟩;rintro _ _⟨rfl,rfl⟩;gi_wp2;obtain⟨WD,hWD⟩:∃WD,WD=(((((w.alloc (.cells #[.int .i64 (wd1:Int),.pointer rv1] 146)).alloc (.cells #[.int .i64 (wd2:Int),.pointer rv2] 146)).alloc (.map #[] 0)).alloc (.cells #[.map (some (w.heap.size+1+1))] 397)).alloc (.cells #[.int .i64 (wd1:Int),.pointer rv1] 146)).alloc (.cells #[.slice (some ⟨w.heap.size+1+1+1+1,0,none⟩) 1 1] 189):=⟨_,rfl⟩
 rw[<-hWD];have hz:WD.heap.size=w.heap.size+6:=by rw[hWD];simp
 have hal:∀(V:World)(o:Obj)(j:Nat)(x:Obj),V.heap[j]? =some x->(V.alloc o).heap[j]? =some x:=λV o j x h=>(Below.heap_alloc V o j (Jb h)).trans h;have hnw:∀(V:World)(o:Obj)(j:Nat),V.heap.size=j->(V.alloc o).heap[j]? =some o:=λV o j h=>by subst h;exact Qf V o
 have hT0:Tch NoB w WD:=by rw[hWD];exact(((((Ta _ _ _).go (Ta _ _ _)).go (Ta _ _ _)).go (Ta _ _ _)).go (Ta _ _ _)).go (Ta _ _ _)
 have hB0:Below w.heap.size w WD:=hT0.below (Ql _) noE;have r1:WD.heap[w.heap.size+1]? =some (.cells #[.int .i64 (wd2:Int),.pointer rv2] 146):=by rw[hWD];exact hal _ _ _ _ (hal _ _ _ _ (hal _ _ _ _ (hal _ _ _ _ (hnw _ _ _ (by simp)))))
 have r2:WD.heap[w.heap.size+1+1]? =some (.map #[] 0):=by rw[hWD];exact hal _ _ _ _ (hal _ _ _ _ (hal _ _ _ _ (hnw _ _ _ (by simp))))
 have r3:WD.heap[w.heap.size+1+1+1]? =some (.cells #[.map (some (w.heap.size+1+1))] 397):=by rw[hWD];exact hal _ _ _ _ (hal _ _ _ _ (hnw _ _ _ (by simp)))
 have r4:WD.heap[w.heap.size+1+1+1+1]? =some (.cells #[.int .i64 (wd1:Int),.pointer rv1] 146):=by rw[hWD];exact hal _ _ _ _ (hnw _ _ _ (by simp))
 have r5:WD.heap[w.heap.size+1+1+1+1+1]? =some (.cells #[.slice (some ⟨w.heap.size+1+1+1+1,0,none⟩) 1 1] 189):=by rw[hWD];exact hnw _ _ _ (by simp)
 clear hal hnw hWD;refine JeA (α:=Jj) (by omega) (gf:=246) (lb:= #[.pointer (some ⟨w.heap.size+1+1+1+1+1,0,none⟩)]) rfl (enters_of func246 (by kernel_rfl) rfl) (encs:=λx=> #[.agg (Jo x)]) (λ_=>rfl)
  (w.heap.size+1+1) (by omega) (AlI w (.cells #[.int .i64 (wd2:Int),.pointer rv2] 146) 1 []) ?hI ⟨r2,r3,r1,hB0,⟨by simp,by simp,by simp⟩⟩
  (λx b=>{ tmps:= #[.agg #[.int .i64 (wd1:Int),.pointer rv1],.agg #[.int .i64 (wd2:Int),.pointer rv2],.pointer (some ⟨w.heap.size,0,none⟩),.pointer (some ⟨w.heap.size+1,0,none⟩),.slice none 0 0,.pointer (some ⟨w.heap.size+1+1+1,0,none⟩),.pointer (some ⟨b,0,none⟩),undef,undef,undef,undef,.map (some (w.heap.size+1+1)),.agg #[.int .i64 (wd1:Int),.pointer rv1],.slice (some ⟨w.heap.size+1+1+1+1,0,none⟩) 1 1,.func (.func 246) #[] #[.pointer (some ⟨w.heap.size+1+1+1+1+1,0,none⟩)],.agg (Jo x),undef,undef,undef,undef,undef,undef,undef,undef,undef,undef,undef,undef,undef,undef,undef,undef,undef,undef,undef,undef,undef,undef,undef,undef,undef,undef,undef,undef,undef,undef],defers:=[] })
  (λx=>.cells (Jo x) 281) YR (Jd d st1) ?hseq ?hassign ?hbody ?hdone
 case hI=>intro pre A B h k;exact⟨h.map.next k (by omega),(k.block _ (Jb h.box) (by omega)).trans h.box,(k.block _ (Jb h.tree) (by omega)).trans h.tree,h.below.trans (Xx k (λj hj=>by omega) h.below.size),h.ok⟩
 case hseq=>
  intro l J W hT hl1 hl2 hJ hY hJ0;have tW:=hT0.go hT;refine callsIn_wide.2 (JfL d (n₀:=w.heap.size) (m:=5-1-1) HF.o W tW.size J hJ YR ?_ (w.heap.size+1+1+1+1+1) (w.heap.size+1+1+1+1) 1 wd1 q1 st1 ?_ ?_ ?_ (HS1.o.1.next tW) HS1.o.2.1 hJ0 HS1.o.2.2.1)
  ·intro pre x V hx hJV;refine(hY pre x V hx hJV).mono λe V' k=>⟨k.1,k.2.1,_,k.2.2,λj hj=>by omega⟩
  ·exact Ja ((hT.block _ (Jb r5) (λe=>e)).trans r5)
  ·exact Ja ((hT.block _ (Jb r4) (λe=>e)).trans r4)
  ·rw[HS1.o.2.2.2];exact Ja ((hT.block _ (Jb r4) (λe=>e)).trans r4)
 case hassign=>intro l x W K hK;obtain⟨n1,n2,⟨n3,n4⟩,n5,n6,n7⟩:=x;simp only[Jo]at hK ⊢;gi_wp2;exact hK
 case hbody=>
  intro l pre x b W hx hI hb;have tD:Tch NoB W W.drew:=Td _ _ 1;obtain⟨m,j,w1,hm,k0,k1,k2,k3⟩:=Jgs (hI.map.next tD (λh=>h)) hI.ok 1 x hx;have c0:W.cell? ⟨w.heap.size+1+1+1,0,none⟩=some (.map (some (w.heap.size+1+1))):=Ja hI.box;have HX2:Hid (AlI w (.cells #[.int .i64 (wd2:Int),.pointer rv2] 146) 1 [] (pre++[x]) (W.drew.setMp (w.heap.size+1+1) (mkE (orN 1 (pre.foldl (orN 1) []) x)))):=by
   have tS:=tD.mono (S':=λk=>k=w.heap.size+1+1) noE |>.trans (Tch.setMp W.drew (w.heap.size+1+1) (mkE (orN 1 (pre.foldl (orN 1) []) x))) (λ_ h=>.inl h)
   have e:(pre++[x]).foldl (orN 1) []=orN 1 (pre.foldl (orN 1) []) x:=(by simp);refine⟨by rw[e];exact Zu (hI.map.next tD (λh=>h)) _,(tS.block _ (Jb hI.box) (by omega)).trans hI.box,(tS.block _ (Jb hI.tree) (by omega)).trans hI.tree,hI.below.trans (Xx tS (λj hj=>by omega) hI.below.size),by rw[e];exact hI.ok.or (by omega) hx⟩
  generalize mkE (orN 1 (pre.foldl (orN 1) []) x)=ns at *;clear hI hx;obtain⟨n1,n2,⟨n3,n4⟩,n5,n6,n7⟩:=x;have q0:W.cell? ⟨b,0,none⟩=some (.string n1):=Ja hb;have q1:W.cell? ⟨b,1,none⟩=some (.string n2):=Ja hb;have q2:W.cell? ⟨b,2,none⟩=some (.int .u64 (n3:Int)):=Ja hb;have q3:W.cell? ⟨b,3,none⟩=some (.int .u8 (n4:Int)):=Ja hb;have q4:W.cell? ⟨b,4,none⟩=some (.int .i64 n5):=Ja hb;have q5:W.cell? ⟨b,5,none⟩=some (.string n6):=Ja hb;have q6:W.cell? ⟨b,6,none⟩=some (.string n7):=Ja hb;simp only[Jo]at k0 k1 k2 ⊢;have hor:bits .or .i64 (m:Int) 1=((m ||| 1:Nat):Int):=by
   obtain rfl|rfl|rfl|rfl:m=0\/m=1\/m=2\/m=3:=by omega
   all_goals rfl
  generalize ((m ||| 1:Nat):Int)=mo at hor k3;gi_wp2;gi_region_with fail
  all_goals exact⟨rfl,(tD.mono noE).trans (Tch.setMp _ _ _) (λ_ h=>.inl h),HX2.o⟩
 case hdone=>
  intro D W hD hI hd;have e0:W.cell? ⟨w.heap.size+1,0,none⟩=some (.int .i64 (wd2:Int)):=Ja hI.tree;have e1:W.cell? ⟨w.heap.size+1,1,none⟩=some (.pointer rv2):=Ja hI.tree;have hzW:=(Jb hd)
  have hDz:w.heap.size+6<=D:=by omega
  have HI:Hid _:=hI;have HD:Hid _:=hd;clear hI hd hD hB0 hT0 r1 r2 r3 r4 r5 hz;gi_wp2;refine⟨trivial,(callsIn_wide.2 (Jib _ _ _ _)).mono ?_⟩;rintro _ _⟨rfl,rfl⟩;gi_wp2;obtain⟨WE,hWE⟩:∃WE,WE=(W.alloc (.cells #[.int .i64 (wd2:Int),.pointer rv2] 146)).alloc (.cells #[.slice (some ⟨W.heap.size,0,none⟩) 1 1] 189):=⟨_,rfl⟩
  rw[<-hWE];have hT1:Tch NoB W WE:=by rw[hWE];exact Tch.allocs _ _ _ _
  have hz:WE.heap.size=W.heap.size+2:=by rw[hWE];simp
  have r4:WE.heap[W.heap.size]? =some (.cells #[.int .i64 (wd2:Int),.pointer rv2] 146):=by rw[hWE];exact heap_alloc2_old _ _ _
  have r5:WE.heap[W.heap.size+1]? =some (.cells #[.slice (some ⟨W.heap.size,0,none⟩) 1 1] 189):=by rw[hWE];exact heap_alloc2_new _ _ _
  obtain⟨M1,hM1⟩:∃M1,M1=(Jd d st1).foldl (orN 1) []:=⟨_,rfl⟩
  have HM1:Hid _:=hM1;have hI1:AlI w (.cells #[.int .i64 (wd2:Int),.pointer rv2] 146) 2 M1 [] WE:=⟨by rw[List.foldl_nil,hM1];exact HI.o.map.next hT1 (λh=>h),(hT1.block _ (Jb HI.o.box) (λh=>h)).trans HI.o.box,(hT1.block _ (Jb HI.o.tree) (λh=>h)).trans HI.o.tree,HI.o.below.trans (hT1.below HI.o.below.size noE),by rw[List.foldl_nil,hM1];exact HI.o.ok⟩
  have hTw:Tch NoB w WE:=((Tch.of_below HI.o.below).mono (λ_ hj=>.inr hj)).go hT1;have HDE:Hid (WE.heap[D]? =some (.deferred (some []))/\w.heap.size+6<=D/\D<WE.heap.size):=⟨(hT1.block _ hzW (λh=>h)).trans HD.o,hDz,Qk hzW hT1.size⟩
  clear hWE HI e0 e1 hM1;refine JeA (α:=Jj) (by omega) (gf:=246) (lb:= #[.pointer (some ⟨W.heap.size+1,0,none⟩)]) rfl (enters_of func246 (by kernel_rfl) rfl) (encs:=λx=> #[.agg (Jo x)]) (λ_=>rfl)
   (w.heap.size+1+1) (by omega) (λpre V=>AlI w (.cells #[.int .i64 (wd2:Int),.pointer rv2] 146) 2 M1 pre V/\V.heap[D]? =some (.deferred (some []))) ?hI ⟨hI1,HDE.o.1⟩
   (λx b=>{ tmps:= #[.agg #[.int .i64 (wd1:Int),.pointer rv1],.agg #[.int .i64 (wd2:Int),.pointer rv2],.pointer (some ⟨w.heap.size,0,none⟩),.pointer (some ⟨w.heap.size+1,0,none⟩),.slice none 0 0,.pointer (some ⟨w.heap.size+1+1+1,0,none⟩),undef,.pointer (some ⟨b,0,none⟩),undef,undef,undef,.map (some (w.heap.size+1+1)),.agg #[.int .i64 (wd1:Int),.pointer rv1],.slice (some ⟨w.heap.size+1+1+1+1,0,none⟩) 1 1,.func (.func 246) #[] #[.pointer (some ⟨w.heap.size+1+1+1+1+1,0,none⟩)],undef,undef,undef,undef,undef,undef,undef,.agg #[.int .i64 (wd2:Int),.pointer rv2],.slice (some ⟨W.heap.size,0,none⟩) 1 1,.func (.func 246) #[] #[.pointer (some ⟨W.heap.size+1,0,none⟩)],.agg (Jo x),undef,undef,undef,undef,undef,undef,undef,undef,undef,undef,undef,undef,undef,undef,undef,undef,undef,undef,undef,undef],defers:=[] })
   (λx=>.cells (Jo x) 281) YR (Jd d st2) ?hseq ?hassign ?hbody ?hdone
  case hI=>intro pre A B ⟨h,h2⟩ k;exact⟨⟨h.map.next k (by omega),(k.block _ (Jb h.box) (by omega)).trans h.box,(k.block _ (Jb h.tree) (by omega)).trans h.tree,h.below.trans (Xx k (λj hj=>by omega) h.below.size),h.ok⟩,(k.block _ (Jb h2) (by have:=HDE.o;omega)).trans h2⟩
  case hseq=>
   intro l J V hT hl1 hl2 hJ hY hJ0;have tW:=hTw.go hT;refine callsIn_wide.2 (JfL d (n₀:=w.heap.size) (m:=5-1-1) HF.o V tW.size J hJ YR ?_ (W.heap.size+1) W.heap.size 1 wd2 q2 st2 ?_ ?_ ?_ (HS2.o.1.next tW) HS2.o.2.1 hJ0 HS2.o.2.2.1)
   ·intro pre x V' hx hJV;refine(hY pre x V' hx hJV).mono λe V' k=>⟨k.1,k.2.1,_,k.2.2,λj hj=>by omega⟩
   ·exact Ja ((hT.block _ (Jb r5) (λe=>e)).trans r5)
   ·exact Ja ((hT.block _ (Jb r4) (λe=>e)).trans r4)
   ·rw[HS2.o.2.2.2];exact Ja ((hT.block _ (Jb r4) (λe=>e)).trans r4)
  case hassign=>intro l x V K hK;obtain⟨n1,n2,⟨n3,n4⟩,n5,n6,n7⟩:=x;simp only[Jo]at hK ⊢;gi_wp2;exact hK
  case hbody=>
   intro l pre x b V hx ⟨hI,hD2⟩ hb;have tD:Tch NoB V V.drew:=Td _ _ 1;obtain⟨m,j,w1,hm,k0,k1,k2,k3⟩:=Jgs (hI.map.next tD (λh=>h)) hI.ok 2 x hx;have c0:V.cell? ⟨w.heap.size+1+1+1,0,none⟩=some (.map (some (w.heap.size+1+1))):=Ja hI.box;have HX2:Hid (AlI w (.cells #[.int .i64 (wd2:Int),.pointer rv2] 146) 2 M1 (pre++[x]) (V.drew.setMp (w.heap.size+1+1) (mkE (orN 2 (pre.foldl (orN 2) M1) x)))/\(V.drew.setMp (w.heap.size+1+1) (mkE (orN 2 (pre.foldl (orN 2) M1) x))).heap[D]? =some (.deferred (some []))):=by
    have tS:=tD.mono (S':=λk=>k=w.heap.size+1+1) noE |>.trans (Tch.setMp V.drew (w.heap.size+1+1) (mkE (orN 2 (pre.foldl (orN 2) M1) x))) (λ_ h=>.inl h)
    have e:(pre++[x]).foldl (orN 2) M1=orN 2 (pre.foldl (orN 2) M1) x:=(by simp);refine⟨⟨by rw[e];exact Zu (hI.map.next tD (λh=>h)) _,(tS.block _ (Jb hI.box) (by omega)).trans hI.box,(tS.block _ (Jb hI.tree) (by omega)).trans hI.tree,hI.below.trans (Xx tS (λj hj=>by omega) hI.below.size),by rw[e];exact hI.ok.or (by omega) hx⟩,(tS.block _ (Jb hD2) (by omega)).trans hD2⟩
   generalize mkE (orN 2 (pre.foldl (orN 2) M1) x)=ns at *;clear hI hx;obtain⟨n1,n2,⟨n3,n4⟩,n5,n6,n7⟩:=x;have q0:V.cell? ⟨b,0,none⟩=some (.string n1):=Ja hb;have q1:V.cell? ⟨b,1,none⟩=some (.string n2):=Ja hb;have q2:V.cell? ⟨b,2,none⟩=some (.int .u64 (n3:Int)):=Ja hb;have q3:V.cell? ⟨b,3,none⟩=some (.int .u8 (n4:Int)):=Ja hb;have q4:V.cell? ⟨b,4,none⟩=some (.int .i64 n5):=Ja hb;have q5:V.cell? ⟨b,5,none⟩=some (.string n6):=Ja hb;have q6:V.cell? ⟨b,6,none⟩=some (.string n7):=Ja hb;simp only[Jo]at k0 k1 k2 ⊢;have hor:bits .or .i64 (m:Int) 2=((m ||| 2:Nat):Int):=by
    obtain rfl|rfl|rfl|rfl:m=0\/m=1\/m=2\/m=3:=by omega
    all_goals rfl
   generalize ((m ||| 2:Nat):Int)=mo at hor k3;gi_wp2;gi_region_with fail
   all_goals exact⟨rfl,(tD.mono noE).trans (Tch.setMp _ _ _) (λ_ h=>.inl h),HX2.o⟩
  case hdone=>
   intro D2 V hD2 ⟨hI,hd1⟩ hd2;have c0:V.cell? ⟨w.heap.size+1+1+1,0,none⟩=some (.map (some (w.heap.size+1+1))):=Ja hI.box;obtain⟨M2,hM2⟩:∃M2,M2=(Jd d st2).foldl (orN 2) M1:=⟨_,rfl⟩
   have HM2:Hid _:=hM2;have hmp:MpAt V (w.heap.size+1+1) (mkE M2):=(by rw[hM2];exact hI.map);obtain⟨hrg,hit⟩:=JbA ndTy.u hmp;have hlV:w.heap.size+6<=V.heap.size:=(by have:=(Jb hd1);omega);have HIV:Hid (AlI w (.cells #[.int .i64 (wd2:Int),.pointer rv2] 146) 2 M1 (Jd d st2) V/\V.heap[D]? =some (.deferred (some []))/\V.heap[D2]? =some (.deferred (some []))/\Zn M2):=⟨hI,hd1,hd2,by rw[hM2];exact hI.ok⟩
   obtain⟨WR,hWR⟩:∃WR,WR=V.alloc (.mapIter (some (w.heap.size+1+1)) (mkE M2).length #[] (mkE M2).length):=⟨_,rfl⟩
   have HWR:Hid (Tch NoB V WR/\WR.heap.size=V.heap.size+1):=(by rw[hWR];exact⟨Ta _ _ _,by simp⟩);rw[<-hWR]at hrg hit;have HML:Hid (M2.length<=1000000000):=(by have h1:=Jdj 2 (Jd d st2) M1;have h2:=Jdj 1 (Jd d st1) [];have h3:=HLN.o;rw[<-hM2]at h1;rw[<-HM1.o]at h2;simp only[Qv]at h2;show M2.length<=1000000000;omega);have HIT:Hid (MIt WR V.heap.size (w.heap.size+1+1) (mkE M2) []):=hit;clear hWR hit hI hd1 hd2 hM2 hmp hI1 hTw r4 r5 hT1 hz;gi_wp2;refine wpIn_wide.2 ?_;clear c0 hrg;go_loopw [8] (λv wr=>∃(seen:List Nat)(al:List Jj),(∃a n c,v=.slice a n c)/\Hid (MIt wr V.heap.size (w.heap.size+1+1) (mkE M2) seen)/\Hid (YG (V.heap.size+1) wr v al)/\Hid (al=Jaa M2 seen)/\Hid (Tch (λj=>V.heap.size<=j) V wr)) (λ_ wr=>M2.length-seenN wr V.heap.size)
   case atStart=>exact⟨[],[],⟨_,_,_,rfl⟩,HIT,⟨rfl,.inl ⟨rfl,rfl⟩⟩,rfl,HWR.o.1.mono noE⟩
   case round=>
    obtain⟨seen,al,⟨va,vn,vc,rfl⟩,HIR,HOW,HAL,HTR⟩:=hrel;have hsl:seen.length<=M2.length:=by have:=ZR (mkE M2).length seen HIR.o.nd HIR.o.lt;simpa [mkE]using this
    rcases JcP HIR.o 0 with⟨hall,hrun⟩|⟨j,kv,vv,w',hj,hl,hrun,hit2,ht2,hen⟩
    ·have HALL:Hid (∀i,i<(mkE M2).length->i∈seen):=hall;clear hall;go_wp2;gi_wp2;have hD1:=(Jb HIV.o.2.1)
     have hD3:=(Jb HIV.o.2.2.1)
     have hDD:¬D=D2:=(by have:=HDE.o.2.2;omega);have p1:=Tch.putObj (λk=>k=D\/k=D2) wr D2 (.deferred none) (.inr rfl);refine⟨by simp,.inl ⟨_,_,rfl,run_takeDeferred ((HTR.o.block D2 hD3 (by omega)).trans HIV.o.2.2.1),?_⟩⟩;refine⟨by simp,.inl ⟨_,_,rfl,run_takeDeferred (((Tch.putObj (λk=>k=D2) wr D2 (.deferred none) rfl).block D (Qk hD1 HTR.o.size) hDD).trans ((HTR.o.block D hD1 (by omega)).trans HIV.o.2.1)),?_⟩⟩;have p2:=p1.trans (Tch.putObj (λk=>k=D\/k=D2) (wr.putObj D2 (.deferred none)) D (.deferred none) (.inl rfl)) (λ_ h=>.inl h);have hmk2:Mk (Jd d st1) (Jd d st2) M2:=(by rw[HM2.o,HM1.o];exact Jhx _ _);have hfin:=JiJ HIV.o.2.2.2 hmk2 HIR.o.nd (λi hi=>HALL.o i (by simpa [mkE]using hi));rw[<-HAL.o]at hfin;refine⟨_,results_tmp results153 _ _ _,al,_,rfl,hfin,?_,?_⟩
     ·obtain⟨h1,h2⟩:=HOW.o.tch p2 (λi h e=>by have:=(HOW.o.own i h).1;have:=HDE.o;omega);refine⟨h1,h2.imp_right ?_⟩;rintro⟨g,cap,cur,h3,h4,h5⟩;exact⟨g,cap,cur,h3,by omega,h5⟩
     ·exact((Tch.of_belowN HIV.o.1.below).trans HTR.o (λi h=>.inr (by omega))).trans p2 (λi h=>.inr (by have:=HDE.o;omega))
    ·have hl2:∃x m,M2[j]? =some (x,m)/\kv=.agg (Jo x)/\vv=.int .i64 (m:Int):=by
      unfold mkE at hl;rw[List.getElem?_map]at hl
      cases hq:M2[j]? with
      | none=>rw[hq]at hl;cases hl
      | some y=>rw[hq]at hl;simp at hl;exact⟨y.1,y.2,rfl,hl.1.symm,hl.2.symm⟩
     obtain⟨x,m,hM,rfl,rfl⟩:=hl2;obtain⟨n1,n2,⟨n3,n4⟩,n5,n6,n7⟩:=x;simp only[Jo]at hrun hen;have HI2:Hid (MIt w' V.heap.size (w.heap.size+1+1) (mkE M2) (seen++[j])):=hit2;have HT2:Hid (Tch (λi=>i=V.heap.size) wr w'):=ht2;have HMJ:Hid (M2[j]? =some ((n1,n2,(n3,n4),n5,n6,n7),m)):=hM;clear hit2 ht2 hM hl hj;have hzr:V.heap.size+1<=wr.heap.size:=(by have:=(Jb HIR.o.it);omega);have HT3:Hid (Tch (λj=>V.heap.size<=j) V w'):=HTR.o.trans HT2.o (λi h=>.inl (by omega));have HO2:Hid (YG (V.heap.size+1) w' (.slice va vn vc) al):=HOW.o.tch HT2.o (λi h e=>by have:=(HOW.o.own i h).1;omega);have HMS:Hid (M2.length-(seen.length+1)<M2.length-seen.length):=by have:=ZR (mkE M2).length (seen++[j]) HI2.o.nd HI2.o.lt;simp[mkE]at this;show _<_;omega
     by_cases hm3:m=3
     ·subst hm3;have HA3:Hid (al=Jaa M2 (seen++[j])):=by
       show al=_;rw[HAL.o];unfold Jaa;rw[List.filterMap_append];simp[HMJ.o]
      have tA:=Ta NoB w' (.cells #[.string n1,.string n2,.int .u64 (n3:Int),.int .u8 (n4:Int),.int .i64 n5,.string n6,.string n7] 281);have HIA:=HI2.o.next tA (λh=>h) (λh=>h);have HX:Hid (MIt (w'.alloc (.cells #[.string n1,.string n2,.int .u64 (n3:Int),.int .u8 (n4:Int),.int .i64 n5,.string n6,.string n7] 281)) V.heap.size (w.heap.size+1+1) (mkE M2) (seen++[j])/\YG (V.heap.size+1) (w'.alloc (.cells #[.string n1,.string n2,.int .u64 (n3:Int),.int .u8 (n4:Int),.int .i64 n5,.string n6,.string n7] 281)) (.slice va vn vc) al/\Tch (λj=>V.heap.size<=j) V (w'.alloc (.cells #[.string n1,.string n2,.int .u64 (n3:Int),.int .u8 (n4:Int),.int .i64 n5,.string n6,.string n7] 281))):=⟨HIA,HO2.o.tch tA (λ_ _ h=>h),HT3.o.trans tA noE⟩
      clear tA HIA;go_wp2;go_roundw
      case rel=>exact⟨seen++[j],al,⟨_,_,_,rfl⟩,HX.o.1,HX.o.2.1,HA3,HX.o.2.2⟩
      case measure=>rw[HX.o.1.seenN,HIR.o.seenN,Qe];exact HMS.o
     ·have hm4:¬(m:Int)=3:=(by omega);obtain⟨WB,hWB⟩:∃WB,WB=(w'.alloc (.cells #[.string n1,.string n2,.int .u64 (n3:Int),.int .u8 (n4:Int),.int .i64 n5,.string n6,.string n7] 281)).alloc (.cells #[.string n1,.string n2,.int .u64 (n3:Int),.int .u8 (n4:Int),.int .i64 n5,.string n6,.string n7] 281):=⟨_,rfl⟩
      have tB:Tch NoB w' WB:=(by rw[hWB];exact Tch.allocs _ _ _ _);have hk:WB.heap[w'.heap.size+1]? =some (.cells (Jo (n1,n2,(n3,n4),n5,n6,n7)) 281):=(by rw[hWB];exact heap_alloc2_new _ _ _);have hal:al.length<=M2.length:=(by rw[HAL.o];exact Qm (List.length_filterMap_le _ _) hsl);obtain⟨v',w3,hap,hown3,hg3⟩:=Jd6 (HO2.o.tch tB (λ_ _ h=>h)) (w'.heap.size+1) (n1,n2,(n3,n4),n5,n6,n7) hk (Qm hal HML.o) 275 (by have:=tB.size;have:=HT2.o.size;omega);rw[hWB]at hap;have tg:=Tg hg3;have hge:∀i,some i=(Value.slice va vn vc).ownBlock->V.heap.size+1<=i:=λi h=>(HO2.o.own i h.symm).1;have HX:Hid (MIt w3 V.heap.size (w.heap.size+1+1) (mkE M2) (seen++[j])/\YG (V.heap.size+1) w3 v' (al++[(n1,n2,(n3,n4),n5,n6,n7)])/\Tch (λj=>V.heap.size<=j) V w3/\al++[(n1,n2,(n3,n4),n5,n6,n7)]=Jaa M2 (seen++[j])):=(by refine⟨(HI2.o.next tB (λh=>h) (λh=>h)).next tg (λh=>by have:=hge _ h;omega) (λh=>by have:=hge _ h;omega),hown3,(HT3.o.trans tB noE).trans tg (λi h=>.inl (by have:=hge _ h;omega)),?_⟩;rw[HAL.o];unfold Jaa;rw[List.filterMap_append];simp[HMJ.o,hm3]);have hsv:∃a n c,v'=.slice a n c:=by
       obtain⟨_,⟨h,_⟩|⟨_,_,_,h,_⟩⟩:=hown3
       ·exact⟨_,_,_,h⟩
       ·exact⟨_,_,_,h⟩
      obtain⟨va',vn',vc',rfl⟩:=hsv;clear hWB tB hk hown3 hg3 tg hge hal;go_wp2_with (at_builtin;refine Xu rfl _ _ 275 rfl rfl rfl hap ?_);go_roundw
      case rel=>exact⟨seen++[j],_,⟨_,_,_,rfl⟩,HX.o.1,HX.o.2.1,HX.o.2.2.2,HX.o.2.2.1⟩
      case measure=>rw[HX.o.1.seenN,HIR.o.seenN,Qe];exact HMS.o
