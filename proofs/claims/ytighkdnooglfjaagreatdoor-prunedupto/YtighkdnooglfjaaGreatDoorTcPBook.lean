import Derived.Test.YtighkdnooglfjaaGreatDoorTcPTr
namespace Go.Proofs.YtighkdnooglfjaaGreatDoor


abbrev Er:=Fin 7
abbrev Er.form:Er:=0
abbrev Er.tip:Er:=1
abbrev Er.input:Er:=2
abbrev Er.exist:Er:=3
abbrev Er.sum:Er:=4
abbrev Er.root:Er:=5
abbrev Er.range:Er:=6
theorem Er.on {motive:Er->Prop} (form:motive .form) (tip:motive .tip) (input:motive .input) (exist:motive .exist) (sum:motive .sum) (root:motive .root) (range:motive .range):∀e,motive e
 | 0=>form
 | 1=>tip
 | 2=>input
 | 3=>exist
 | 4=>sum
 | 5=>root
 | 6=>range
def Jd5 (l1 l2:List (Nat×Nat)):Decidable (Xy l1 l2):=by unfold Xy;infer_instance

def YP (st:Option Tr) (k:Key) (o:Nat×Nat):Except Er (Option Tr):=
 match st with
 | none=>.ok (some (.leaf k o))
 | some t=>if (t.near k).1=k then .error .exist else .ok (some (t.graft k o (fd (t.near k).1 k)))
def JU (st:Option Tr) (k:Key):Except Er (Option Tr×(Nat×Nat)):=
 match st with
 | none=>.error .input
 | some t=>if (t.near k).1=k then .ok (t.cut k,(t.near k).2) else .error .input
def XU:List (BA×Int)->Option Tr->Except Er (Option Tr×List (Nat×Nat))
 | [],st=>.ok (st,[])
 | c :: r,st=>match JU st (Jd c) with
  | .error e=>.error e
  | .ok (st1,o)=>match XU r st1 with
   | .error e=>.error e
   | .ok (st2,os)=>.ok (st2,o :: os)
def JT (id:BA):Nat->List (Nat×Nat)->Option Tr->Except Er (Option Tr)
 | _,[],st=>.ok st
 | i,o :: r,st=>match YP st (Jd (id,(i:Int))) o with
  | .error e=>.error e
  | .ok st1=>JT id (i+1) r st1
def Xc (dg:List UInt8->BA) (st:Option Tr) (t:TxL):Except Er (Option Tr):=
 match XU t.1 st with
 | .error e=>.error e
 | .ok (st1,os)=>match JT (dg (84 :: txB t)) 0 t.2 st1 with
  | .error e=>.error e
  | .ok st2=>haveI:=Jd5 os t.2;if Xy os t.2 then .error .sum else .ok st2
def JW (dg:List UInt8->BA):Option Tr->List TxL->Except Er (Option Tr)
 | st,[]=>.ok st
 | st,t :: r=>match Xc dg st t with
  | .error e=>.error e
  | .ok st1=>JW dg st1 r

abbrev Held:=(BA×Int)×(Nat×Nat)
def Xe (l:List Held) (c:BA×Int):Option Nat:=l.findIdx? (λh=>decide (h.1=c))
def M64:Nat:=18446744073709551616
def Xg:List (BA×Int)->List Held×Nat×Bool->Option (List Held×Nat×Bool)
 | [],s=>some s
 | c :: r,(now,inn,over)=>match Xe now c with
  | none=>none
  | some k=>Xg r (now.eraseIdx k,(inn+(now.getD k ((⟨#[]⟩,0),(0,0))).2.1) % M64,over || decide ((inn+(now.getD k ((⟨#[]⟩,0),(0,0))).2.1) % M64<inn))
def JC (id:BA):Nat->List (Nat×Nat)->List Held×Nat×Bool->Option (List Held×Nat×Bool)
 | _,[],s=>some s
 | i,o :: r,(now,out,over)=>match Xe now (id,(i:Int)) with
  | some _=>none
  | none=>JC id (i+1) r (now++[((id,(i:Int)),o)],(out+o.1) % M64,over || decide ((out+o.1) % M64<out))
def Xk (dg:List UInt8->BA) (l:List Held) (t:TxL):Except Er (List Held):=
 match Xg t.1 (l,0,false) with
 | none=>.error .input
 | some (now,inn,over)=>match JC (dg (84 :: txB t)) 0 t.2 (now,0,over) with
  | none=>.error .exist
  | some (now2,out,over2)=>if over2=true\/inn<out then .error .sum else .ok now2

structure Book (wd:Nat) (st:Option Tr) (l:List Held):Prop where
 wf:∀t,st=some t->t.Wf
 ok:∀h∈l,Ji wd h.1/\Jq h.2
 nodup:(l.map (·.1)).Nodup
 mem:∀k o,(k,o)∈Xa st↔∃h∈l,Jd h.1=k/\h.2=o
theorem Jaw {wd:Nat} {c d:BA×Int} (h1:Ji wd c) (h2:Ji wd d) (h:Jd c=Jd d):c=d:=by
 obtain ⟨a1,a2,a3⟩:=h1
 obtain ⟨b1,b2,b3⟩:=h2
 unfold Jd at h
 obtain ⟨e1,e2⟩:=List.append_inj h (by simp only [QA];exact a1.trans b1.symm)
 have x1:=YK c.2 a2 (by omega)
 have x2:=YK d.2 b2 (by omega)
 have y:∀n,n<256->numL (beL n 1 1)=n:=λn hn=>by rw [Ja7 n 1 (by omega) 1 (Ql _)];simp
 have e3:JB c.2=JB d.2:=by rw [<-y (JB c.2) (by omega),<-y (JB d.2) (by omega),e2]
 have e4:c.2=d.2:=by rw [<-x1,<-x2,e3]
 have e5:c.1=d.1:=by
  have:c.1.data=d.1.data:=by rw [<-Array.toList_inj];exact e1
  cases hc:c.1;cases hd:d.1;rw [hc,hd] at this;simp only at this;rw [this]
 exact Prod.ext e5 e4
theorem Yi {wd:Nat} {c:BA×Int} (h:Ji wd c):(Jd c).length=wd+1:=by
 unfold Jd;rw [Qe,Je];have:=h.1;simp only [QA];show c.1.data.size+1=_;rw [<-this];rfl
theorem Zf {l:List Held} {c:BA×Int} {k:Nat} (h:Xe l c=some k):∃hk:k<l.length,l[k].1=c:=by
 unfold Xe at h
 rw [List.findIdx?_eq_some_iff_getElem] at h
 obtain ⟨hk,h1,_⟩:=h
 exact ⟨hk,by simpa using h1⟩
theorem Jcx {l:List Held} {c:BA×Int} (h:Xe l c=none):∀x∈l,x.1 ≠ c:=by
 unfold Xe at h
 rw [List.findIdx?_eq_none_iff] at h
 intro x hx;simpa using h x hx
theorem Jik {l:List Held} (hn:(l.map (·.1)).Nodup) {k:Nat} (hk:k<l.length):∀x,x∈l.eraseIdx k↔x∈l/\x.1 ≠ l[k].1:=by
 intro x
 have inj:∀(i j:Nat) (hi:i<l.length) (hj:j<l.length),l[i].1=l[j].1->i=j:=by
  intro i j hi hj e
  have:=(List.getElem_inj (i:=i) (j:=j) (h₀:=by simpa using hi) (h₁:=by simpa using hj) hn).1 (by simpa using e)
  exact this
 rw [List.mem_eraseIdx_iff_getElem]
 constructor
 ·rintro ⟨i,hi,hne,rfl⟩
  exact ⟨Qx hi,λe=>hne (inj i k hi hk e)⟩
 ·rintro ⟨hx,hne⟩
  obtain ⟨i,hi,rfl⟩:=List.getElem_of_mem hx
  exact ⟨i,hi,λe=>hne (by subst e;rfl),rfl⟩
theorem Book.find {wd:Nat} {st:Option Tr} {l:List Held} (B:Book wd st l) {c:BA×Int} (hc:Ji wd c) {t:Tr} (ht:st=some t):(t.near (Jd c)).1=Jd c↔∃k,Xe l c=some k:=by
 subst ht
 constructor
 ·intro h
  have hm:=t.near_mem (Jd c)
  have:((t.near (Jd c)).1,(t.near (Jd c)).2)∈Xa (some t):=hm
  rw [h] at this
  obtain ⟨x,hx,h1,h2⟩:=(B.mem _ _).1 this
  cases hf:Xe l c with
  | some k=>exact ⟨k,rfl⟩
  | none=>exact absurd (Jaw (B.ok x hx).1 hc h1) (Jcx hf x hx)
 ·rintro ⟨k,hk⟩
  obtain ⟨hl,e⟩:=Zf hk
  have:(Jd c,l[k].2)∈Xa (some t):=(B.mem _ _).2 ⟨l[k],Qx hl,by rw [e],rfl⟩
  rw [Tr.near_of_mem _ _ t (B.wf t rfl) this]
theorem Book.none {wd:Nat} {l:List Held} (B:Book wd Option.none l):l=[]:=by
 cases l with
 | nil=>rfl
 | cons x r=>exact absurd ((B.mem (Jd x.1) x.2).2 ⟨x,QM,rfl,rfl⟩) (by simp [Xa])
theorem Book.without {wd:Nat} {st:Option Tr} {l:List Held} (B:Book wd st l) {c:BA×Int} (hc:Ji wd c):
  match Xe l c with
  | .none=>JU st (Jd c)=.error .input
  | .some k=>∃st',JU st (Jd c)=.ok (st',(l.getD k ((⟨#[]⟩,0),(0,0))).2)/\Book wd st' (l.eraseIdx k):=by
 cases st with
 | none=>
  obtain rfl:=B.none
  rfl
 | some t=>
  have hf:=B.find hc rfl
  cases h:Xe l c with
  | none=>
   simp only [JU]
   rw [if_neg]
   rw [hf];rintro ⟨k,hk⟩;rw [h] at hk;cases hk
  | some k=>
   obtain ⟨hl,e⟩:=Zf h
   have hn:(t.near (Jd c)).1=Jd c:=hf.2 ⟨k,h⟩
   have hm:(Jd c,l[k].2)∈Xa (some t):=(B.mem _ _).2 ⟨l[k],Qx hl,by rw [e],rfl⟩
   have hnear:=Tr.near_of_mem _ _ t (B.wf t rfl) hm
   obtain ⟨g1,g2,g3⟩:=Tr.cut_ok (Jd c) t (B.wf t rfl) hn
   have hi:=Jik B.nodup hl
   refine ⟨t.cut (Jd c),?_,⟨g1,λx hx=>B.ok x ((hi x).1 hx).1,?_,λk' o=>?_⟩⟩
   ·simp only [JU]
    rw [if_pos hn,hnear]
    simp [List.getD_eq_getElem?_getD,List.getElem?_eq_getElem hl]
   ·exact B.nodup.sublist ((List.eraseIdx_sublist l k).map _)
   ·rw [g2]
    show (k',o)∈Xa (some t)/\_↔_
    rw [B.mem]
    constructor
    ·rintro ⟨⟨x,hx,h1,h2⟩,h3⟩
     exact ⟨x,(hi x).2 ⟨hx,λe'=>h3 (by simp only;rw [<-h1,e',e])⟩,h1,h2⟩
    ·rintro ⟨x,hx,h1,h2⟩
     obtain ⟨hx1,hx2⟩:=(hi x).1 hx
     exact ⟨⟨x,hx1,h1,h2⟩,λe'=>hx2 (by rw [e];simp only at e';exact Jaw (B.ok x hx1).1 hc (h1.trans e'))⟩
theorem Book.with {wd:Nat} {st:Option Tr} {l:List Held} (B:Book wd st l) {c:BA×Int} (hc:Ji wd c) {o:Nat×Nat} (ho:Jq o):
  match Xe l c with
  | .some _=>YP st (Jd c) o=.error .exist
  | .none=>∃st',YP st (Jd c) o=.ok st'/\Book wd st' (l++[(c,o)]):=by
 have hok:Xe l c=Option.none->∀x∈l++[(c,o)],Ji wd x.1/\Jq x.2:=by
  intro _ x hx
  rw [QE,Qt] at hx
  rcases hx with hx | rfl
  ·exact B.ok x hx
  ·exact ⟨hc,ho⟩
 have hnd:Xe l c=Option.none->((l++[(c,o)]).map (·.1)).Nodup:=by
  intro hf
  rw [List.map_append,List.nodup_append]
  refine ⟨B.nodup,by simp,?_⟩
  intro a ha b hb e
  simp only [List.map_cons,List.map_nil,Qt] at hb
  subst hb
  subst e
  obtain ⟨x,hx,hxe⟩:=QK.1 ha
  exact Jcx hf x hx hxe
 cases st with
 | none=>
  obtain rfl:=B.none
  refine ⟨_,rfl,⟨λt ht=>by simp only [Qh] at ht;rw [<-ht];exact trivial,hok rfl,hnd rfl,λk o'=>?_⟩⟩
  simp only [Xa,Tr.coins,Qt,List.nil_append,Qw]
  constructor
  ·rintro ⟨rfl,rfl⟩;exact ⟨_,rfl,rfl,rfl⟩
  ·rintro ⟨x,rfl,h1,h2⟩;exact ⟨h1.symm,h2.symm⟩
 | some t=>
  have hf:=B.find hc rfl
  cases h:Xe l c with
  | some k=>
   simp only [YP]
   rw [if_pos (hf.2 ⟨k,h⟩)]
  | none=>
   have hn:(t.near (Jd c)).1 ≠ Jd c:=by rw [ne_eq,hf];rintro ⟨k,hk⟩;rw [h] at hk;cases hk
   have hm:=t.near_mem (Jd c)
   obtain ⟨x,hx,h1,h2⟩:=(B.mem (t.near (Jd c)).1 (t.near (Jd c)).2).1 hm
   have hlen:(t.near (Jd c)).1.length=(Jd c).length:=by rw [<-h1,Yi (B.ok x hx).1,Yi hc]
   obtain ⟨q1,q2,q3⟩:=Jhh (t.near (Jd c)).1 (Jd c) hlen hn
   obtain ⟨g1,g2,g3⟩:=Tr.graft_ok (Jd c) o (fd (t.near (Jd c)).1 (Jd c)) t (B.wf t rfl) (λe=>q2 e.symm) (λi hi=>(q3 i hi).symm)
   refine ⟨some (t.graft (Jd c) o (fd (t.near (Jd c)).1 (Jd c))),?_,⟨λt' ht=>by simp only [Qh] at ht;rw [<-ht];exact g1,hok h,hnd h,λk o'=>?_⟩⟩
   ·simp only [YP];rw [if_neg hn]
   ·simp only [Xa,g2]
    have:=B.mem k o'
    simp only [Xa] at this
    rw [this]
    constructor
    ·rintro (e | ⟨y,hy,e1,e2⟩)
     ·cases e;exact ⟨(c,o),by simp,rfl,rfl⟩
     ·exact ⟨y,by simp [hy],e1,e2⟩
    ·rintro ⟨y,hy,e1,e2⟩
     rw [QE,Qt] at hy
     rcases hy with hy | rfl
     ·exact .inr ⟨y,hy,e1,e2⟩
     ·left;rw [<-e1,<-e2]
theorem Jaa (o:Nat×Nat) (os:List (Nat×Nat)):JG (o :: os) (o :: os).length=o.1+JG os os.length:=by simp [JG]
theorem JgG (wd:Nat):∀(cs:List (BA×Int)),(∀c∈cs,Ji wd c)->∀(st:Option Tr) (l:List Held) (inn:Nat) (over:Bool),Book wd st l->
  match Xg cs (l,inn % M64,over) with
  | none=>XU cs st=.error .input
  | some (l',inn',over')=>∃st' os,XU cs st=.ok (st',os)/\Book wd st' l'/\inn'=(inn+JG os os.length) % M64/\(over'=true↔over=true\/M64<=inn % M64+JG os os.length):=by
 intro cs
 induction cs with
 | nil=>intro _ st l inn over B;exact ⟨st,[],rfl,B,by simp [JG],by simp [JG];intro h;exact absurd h (by have:inn % M64<M64:=Nat.mod_lt _ (by decide);omega)⟩
 | cons c r ih=>
  intro hc st l inn over B
  have hw:=B.without (hc c QM)
  simp only [Xg,XU]
  cases hf:Xe l c with
  | none=>rw [hf] at hw;simp only at hw;simp only [hw]
  | some k=>
   rw [hf] at hw
   obtain ⟨st1,e1,B1⟩:=hw
   obtain ⟨hl,_⟩:=Zf hf
   have ha:(l.getD k ((⟨#[]⟩,0),(0,0))).2.1<M64:=by
    simp only [Qn,Qd hl,Option.getD_some]
    exact (B.ok _ (Qx hl)).2.1
   dsimp only
   generalize (l.getD k ((⟨#[]⟩,0),(0,0))).2=o at *
   simp only [e1]
   have:=ih (λc hc'=>hc c (QP _ hc')) st1 (l.eraseIdx k) (inn % M64+o.1) (over || decide ((inn % M64+o.1) % M64<inn % M64)) B1
   cases hs:Xg r (l.eraseIdx k,(inn % M64+o.1) % M64,over || decide ((inn % M64+o.1) % M64<inn % M64)) with
   | none=>rw [hs] at this;simp only at this;simp only [this]
   | some q=>
    obtain ⟨l',inn',over'⟩:=q
    rw [hs] at this
    obtain ⟨st',os,e2,B2,e3,e4⟩:=this
    refine ⟨st',o :: os,by simp only [e2],B2,?_,?_⟩
    ·rw [e3,Jaa,Nat.add_assoc,Nat.mod_add_mod]
    ·rw [e4,Jaa,Bool.or_eq_true,decide_eq_true_iff]
     generalize JG os os.length=S
     have hm:inn % M64<M64:=Nat.mod_lt _ (by decide)
     generalize inn % M64=I at *
     generalize (over=true)=P
     unfold M64 at *
     constructor
     ·rintro ((h | h) | h)
      ·exact .inl h
      ·right;omega
      ·right;omega
     ·rintro (h | h)
      ·exact .inl (.inl h)
      ·by_cases h2:18446744073709551616<=I+o.1
       ·left;right;omega
       ·right;omega
theorem ZW (wd:Nat) (id:BA) (hid:id.size=wd):∀(os:List (Nat×Nat)),(∀o∈os,Jq o)->∀(i:Nat),i+os.length<=3->∀(st:Option Tr) (l:List Held) (out:Nat) (over:Bool),Book wd st l->
  match JC id i os (l,out % M64,over) with
  | none=>JT id i os st=.error .exist
  | some (l',out',over')=>∃st',JT id i os st=.ok st'/\Book wd st' l'/\out'=(out+JG os os.length) % M64/\(over'=true↔over=true\/M64<=out % M64+JG os os.length):=by
 intro os
 induction os with
 | nil=>intro _ i _ st l out over B;exact ⟨st,rfl,B,by simp [JG],by simp [JG];intro h;exact absurd h (by have:out % M64<M64:=Nat.mod_lt _ (by decide);omega)⟩
 | cons o r ih=>
  intro ho i hi st l out over B
  rw [Qp] at hi
  have hco:Ji wd (id,(i:Int)):=⟨hid,by simp only;omega,by simp only;omega⟩
  have hw:=B.with hco (ho o QM)
  simp only [JC,JT]
  cases hf:Xe l (id,(i:Int)) with
  | some k=>rw [hf] at hw;simp only at hw;simp only [hw]
  | none=>
   rw [hf] at hw
   obtain ⟨st1,e1,B1⟩:=hw
   have ha:o.1<M64:=(ho o QM).1
   simp only [e1]
   have:=ih (λc hc'=>ho c (QP _ hc')) (i+1) (by omega) st1 (l++[((id,(i:Int)),o)]) (out % M64+o.1) (over || decide ((out % M64+o.1) % M64<out % M64)) B1
   cases hs:JC id (i+1) r (l++[((id,(i:Int)),o)],(out % M64+o.1) % M64,over || decide ((out % M64+o.1) % M64<out % M64)) with
   | none=>rw [hs] at this;simp only at this;simp only [this]
   | some q=>
    obtain ⟨l',out',over'⟩:=q
    rw [hs] at this
    obtain ⟨st',e2,B2,e3,e4⟩:=this
    refine ⟨st',e2,B2,?_,?_⟩
    ·rw [e3,Jaa,Nat.add_assoc,Nat.mod_add_mod]
    ·rw [e4,Jaa,Bool.or_eq_true,decide_eq_true_iff]
     generalize JG r r.length=S
     have hm:out % M64<M64:=Nat.mod_lt _ (by decide)
     generalize out % M64=I at *
     generalize (over=true)=P
     unfold M64 at *
     constructor
     ·rintro ((h | h) | h)
      ·exact .inl h
      ·right;omega
      ·right;omega
     ·rintro (h | h)
      ·exact .inl (.inl h)
      ·by_cases h2:18446744073709551616<=I+o.1
       ·left;right;omega
       ·right;omega
theorem Jd2 (wd:Nat) (dg:List UInt8->BA) (hdg:∀l,(dg l).size=wd) (t:TxL) (ht:TxOk wd t) (st:Option Tr) (l:List Held) (B:Book wd st l):
  match Xk dg l t with
  | .error e=>Xc dg st t=.error e
  | .ok l'=>∃st',Xc dg st t=.ok st'/\Book wd st' l':=by
 have h1:=JgG wd t.1 ht.coins st l 0 false B
 simp only [Xk,Xc]
 rw [show (0:Nat) % M64=0 from rfl] at h1
 cases hs:Xg t.1 (l,0,false) with
 | none=>rw [hs] at h1;simp only at h1;simp only [h1]
 | some q=>
  obtain ⟨l1,inn,ov⟩:=q
  rw [hs] at h1
  obtain ⟨st1,os,e1,B1,e2,e3⟩:=h1
  simp only [e1]
  have h2:=ZW wd (dg (84 :: txB t)) (hdg _) t.2 ht.outs 0 (by have:=ht.made;omega) st1 l1 0 ov B1
  rw [show (0:Nat) % M64=0 from rfl] at h2
  cases hr:JC (dg (84 :: txB t)) 0 t.2 (l1,0,ov) with
  | none=>rw [hr] at h2;simp only at h2;simp only [h2]
  | some q=>
   obtain ⟨l2,out,ov2⟩:=q
   rw [hr] at h2
   obtain ⟨st2,e4,B2,e5,e6⟩:=h2
   simp only [e4]
   have hb:(ov2=true\/inn<out)↔Xy os t.2:=by
    rw [e6,e3,e2,e5]
    unfold Xy
    simp only [Nat.zero_add]
    simp only [Bool.false_eq_true,false_or]
    generalize JG os os.length=A
    generalize JG t.2 t.2.length=C
    unfold M64
    omega
   by_cases hbs:Xy os t.2
   ·rw [if_pos (hb.2 hbs),if_pos hbs]
   ·rw [if_neg (λh=>hbs (hb.1 h)),if_neg hbs];exact ⟨st2,rfl,B2⟩


def Tr.dig (d:List UInt8->BA):Tr->BA
 | ⟨.inl (k,o)⟩=>d (76 :: (k++outB o))
 | ⟨.inr (b,l,r)⟩=>d (78 :: (beL b 2 2++((l.dig d).data.toList++(r.dig d).data.toList)))
def Xl (d:List UInt8->BA):Option Tr->BA
 | none=>d [69]
 | some t=>t.dig d
abbrev Ch:=List (BA×Option Tr)
def Ch.last (ch:Ch):BA×Option Tr:=ch.getLastD (⟨#[]⟩,none)
def Zp (d:List UInt8->BA) (ch:Ch) (body:List UInt8) (st:BA):HdL:=(ch.length,d (72 :: ch.last.1.data.toList),d (66 :: body),st)
def JfC (d:List UInt8->BA) (wd:Nat) (ch:Ch) (ts:List TxL):Except Er (List UInt8):=
 match (PS.wr []).body wd ts with
 | some (_,⟨.inr body⟩)=>match JW d ch.last.2 ts with
  | .error e=>.error e
  | .ok st=>match (PS.wr []).hdr wd (Zp d ch body (Xl d st)) with
   | some (_,⟨.inr h⟩)=>.ok (h++body)
   | _=>.error .form
 | _=>.error .form
def YJ (d:List UInt8->BA) (wd:Nat) (ch:Ch) (text:List UInt8):Except Er Ch:=
 match (PS.rd [] text).hdr wd (0,⟨#[]⟩,⟨#[]⟩,⟨#[]⟩) with
 | some (h,⟨.inl (pre,body)⟩)=>match (PS.rd pre body).body wd [] with
  | some (ts,⟨.inl (_,[])⟩)=>if h ≠ Zp d ch body h.2.2.2 then .error .tip else match JW d ch.last.2 ts with
   | .error e=>.error e
   | .ok st=>if h.2.2.2 ≠ Xl d st then .error .root else .ok (ch++[(⟨(text.take (text.length - body.length)).toArray⟩,st)])
  | _=>.error .form
 | _=>.error .form
theorem Yf (d:List UInt8->BA) (wd:Nat) (hd:∀l,(d l).size=wd) (st:Option Tr):(Xl d st).size=wd:=by
 cases st with
 | none=>exact hd _
 | some t=>cases t using Tr.ri <;> exact hd _
def Yn (d:List UInt8->BA) (ch:Ch) (ts:List TxL) (st:Option Tr):List UInt8:=hdrB (Zp d ch (Xj ts) (Xl d st))++Xj ts
theorem Jfn (d:List UInt8->BA) (wd:Nat) (hd:∀l,(d l).size=wd) (ch:Ch) (hc:ch.length<2 ^ 32) (body:List UInt8) (st:Option Tr):HdOk wd (Zp d ch body (Xl d st)):=
 ⟨hc,hd _,hd _,Yf d wd hd st⟩
theorem Jhs (d:List UInt8->BA) (wd:Nat) (hd:∀l,(d l).size=wd) (ch:Ch) (hc:ch.length<2 ^ 32) (ts:List TxL) (h:∀t∈ts,TxOk wd t) (h3:ts.length<=3):
  JfC d wd ch ts=match JW d ch.last.2 ts with | .error e=>.error e | .ok st=>.ok (Yn d ch ts st):=by
 unfold JfC
 rw [(JeA wd ts h h3).wr]
 dsimp only
 rw [List.nil_append]
 cases JW d ch.last.2 ts with
 | error e=>rfl
 | ok st=>
  dsimp only
  rw [(JeB wd _ (0,⟨#[]⟩,⟨#[]⟩,⟨#[]⟩) (Jfn d wd hd ch hc (Xj ts) st)).wr]
  rfl
theorem JeV (d:List UInt8->BA) (wd:Nat) (hd:∀l,(d l).size=wd) (ch:Ch) (hc:ch.length<2 ^ 32) (ts:List TxL) (h:∀t∈ts,TxOk wd t) (h3:ts.length<=3) (st:Option Tr) (ha:JW d ch.last.2 ts=.ok st):
  YJ d wd ch (Yn d ch ts st)=.ok (ch++[(⟨(hdrB (Zp d ch (Xj ts) (Xl d st))).toArray⟩,st)]):=by
 have hb:=JeA wd ts h h3
 have hh:=JeB wd _ (0,⟨#[]⟩,⟨#[]⟩,⟨#[]⟩) (Jfn d wd hd ch hc (Xj ts) st)
 unfold YJ Yn
 rw [hh.rd]
 dsimp only
 have:=hb.rd ([]++hdrB (Zp d ch (Xj ts) (Xl d st))) []
 rw [QC] at this
 rw [this]
 dsimp only
 rw [if_neg (by simp [Zp]),ha]
 dsimp only
 rw [if_neg (by simp [Zp])]
 simp
def XN (dg:List UInt8->BA):List Held->List TxL->Except Er (List Held)
 | l,[]=>.ok l
 | l,t :: r=>match Xk dg l t with
  | .error e=>.error e
  | .ok l1=>XN dg l1 r

def Tr.text (d:List UInt8->BA):Tr->List UInt8
 | ⟨.inl (k,o)⟩=>76 :: (k++outB o)
 | ⟨.inr (b,l,r)⟩=>78 :: (beL b 2 2++((l.dig d).data.toList++(r.dig d).data.toList))
theorem Tr.dig_text (d:List UInt8->BA) (t:Tr):t.dig d=d (t.text d):=by cases t using Tr.ri <;> rfl
def JmM (d:List UInt8->BA):Option Tr->List UInt8
 | none=>[69]
 | some t=>t.text d
theorem JgH (d:List UInt8->BA) (st:Option Tr):Xl d st=d (JmM d st):=by
 cases st with
 | none=>rfl
 | some t=>exact t.dig_text d
abbrev KO:=Key×(Nat×Nat)
def Fork (l:List KO) (b:Nat):Prop:=(∀x∈l,∀y∈l,∀i,i<b->bt x.1 i=bt y.1 i)/\∃x∈l,∃y∈l,bt x.1 b ≠ bt y.1 b
def side (l:List KO) (b v:Nat):List KO:=l.filter λx=>bt x.1 b=v
structure Root (d:List UInt8->BA) (l:List KO) (s:List UInt8):Prop where
 of ::
 c:∀C:List KO->List UInt8->Prop,C [] [69]->(∀k o,C [(k,o)] (76 :: (k++outB o)))->(∀l b x y,Fork l b->C (side l b 0) x->C (side l b 1) y->C l (78 :: (beL b 2 2++((d x).data.toList++(d y).data.toList))))->C l s
theorem Root.none {d:List UInt8->BA}:Root d [] [69]:=⟨λ_ h _ _=>h⟩
theorem Root.one {d:List UInt8->BA} (k:Key) (o:Nat×Nat):Root d [(k,o)] (76 :: (k++outB o)):=⟨λ_ _ h _=>h k o⟩
theorem Root.two {d:List UInt8->BA} (l:List KO) (b:Nat) (x y:List UInt8) (hf:Fork l b) (hx:Root d (side l b 0) x) (hy:Root d (side l b 1) y):Root d l (78 :: (beL b 2 2++((d x).data.toList++(d y).data.toList))):=⟨λC h1 h2 h3=>h3 l b x y hf (hx.c C h1 h2 h3) (hy.c C h1 h2 h3)⟩
theorem Root.ri {d:List UInt8->BA} {motive:∀l s,Root d l s->Prop} (none:motive _ _ .none) (one:∀k o,motive _ _ (.one k o)) (two:∀l b x y hf hx hy,motive _ _ hx->motive _ _ hy->motive _ _ (.two l b x y hf hx hy)):∀{l s} (h:Root d l s),motive l s h:=λ{_ _} h=>
 (h.c (λl s=>∃h:Root d l s,motive l s h) ⟨_,none⟩ (λk o=>⟨_,one k o⟩) λl b x y hf hx hy=>⟨_,two l b x y hf hx.1 hy.1 hx.2 hy.2⟩).2
theorem Root.inv {d:List UInt8->BA} {l:List KO} {s:List UInt8} (h:Root d l s):(l=[]/\s=[69])\/(∃k o,l=[(k,o)]/\s=76 :: (k++outB o))\/∃b x y,Fork l b/\Root d (side l b 0) x/\Root d (side l b 1) y/\s=(78 :: (beL b 2 2++((d x).data.toList++(d y).data.toList))):=by
 cases h using Root.ri with
 | none=>exact .inl ⟨rfl,rfl⟩
 | one k o=>exact .inr (.inl ⟨k,o,rfl,rfl⟩)
 | two _ b x y hf hx hy=>exact .inr (.inr ⟨b,x,y,hf,hx,hy,rfl⟩)
theorem Fork.unique {l:List KO} {b b':Nat} (h:Fork l b) (h':Fork l b'):b=b':=by
 obtain ⟨p1,x,hx,y,hy,p2⟩:=h
 obtain ⟨q1,u,hu,v,hv,q2⟩:=h'
 rcases Nat.lt_trichotomy b b' with h | h | h
 ·exact absurd (q1 x hx y hy b h) p2
 ·exact h
 ·exact absurd (p1 u hu v hv b' h) q2
theorem Fork.two {l:List KO} {b:Nat} (h:Fork l b):2<=l.length:=by
 obtain ⟨_,x,hx,y,hy,h⟩:=h
 match l,hx,hy with
 | [],hx,_=>cases hx
 | [a],hx,hy=>simp only [Qt] at hx hy;rw [hx,hy] at h;exact absurd rfl h
 | _ :: _ :: _,_,_=>simp
theorem Root.of_tree {d:List UInt8->BA} (t:Tr):∀(l:List KO) (s:List UInt8),t.Wf->(∀x,x∈l↔x∈t.coins)->(l.map (·.1)).Nodup->Root d l s->s=t.text d:=by
 induction t using Tr.ri with
 | leaf k o=>
  intro l s _ hm hn hr
  simp only [Tr.coins,Qt] at hm
  have hl:l=[(k,o)]:=by
   match l,hm,hn with
   | [],hm,_=>exact absurd ((hm (k,o)).2 rfl) (by simp)
   | [a],hm,_=>rw [(hm a).1 (by simp)]
   | a :: b :: r,hm,hn=>
    have e1:=(hm a).1 (by simp)
    have e2:=(hm b).1 (by simp)
    simp [e1,e2] at hn
  subst hl
  obtain ⟨h,_⟩ | ⟨_,_,h,rfl⟩ | ⟨b,x,y,hf,_⟩:=hr.inv
  ·cases h
  ·cases h;rfl
  ·exact absurd hf.two (by simp)
 | br b lt rt ihl ihr=>
  intro l s hw hm hn hr
  obtain ⟨w1,w2,h0,h1,hs⟩:=hw
  have hf:Fork l b:=by
   obtain ⟨x,hx⟩:=List.exists_mem_of_ne_nil _ lt.coins_ne
   obtain ⟨y,hy⟩:=List.exists_mem_of_ne_nil _ rt.coins_ne
   refine ⟨λx hx y hy i hi=>hs x ((hm x).1 hx) y ((hm y).1 hy) i hi,x,(hm x).2 (by simp [Tr.coins,hx]),y,(hm y).2 (by simp [Tr.coins,hy]),?_⟩
   rw [h0 x hx,h1 y hy];decide
  have hl2:=hf.two
  obtain ⟨rfl,_⟩ | ⟨_,_,rfl,_⟩ | ⟨b',x,y,hf',hx,hy,rfl⟩:=hr.inv
  ·simp at hl2
  ·simp at hl2
  ·obtain rfl:=hf.unique hf'
   have hx':=ihl (side l b 0) x w1 (λz=>by
    unfold side
    rw [QN,hm]
    simp only [Tr.coins,QE,decide_eq_true_iff]
    constructor
    ·rintro ⟨h | h,h2⟩
     ·exact h
     ·have:=h1 z h;omega
    ·intro h;exact ⟨.inl h,h0 z h⟩) (hn.sublist (List.Sublist.map _ List.filter_sublist)) hx
   have hy':=ihr (side l b 1) y w2 (λz=>by
    unfold side
    rw [QN,hm]
    simp only [Tr.coins,QE,decide_eq_true_iff]
    constructor
    ·rintro ⟨h | h,h2⟩
     ·have:=h0 z h;omega
     ·exact h
    ·intro h;exact ⟨.inr h,h1 z h⟩) (hn.sublist (List.Sublist.map _ List.filter_sublist)) hy
   rw [hx',hy',<-Tr.dig_text d lt,<-Tr.dig_text d rt];rfl
