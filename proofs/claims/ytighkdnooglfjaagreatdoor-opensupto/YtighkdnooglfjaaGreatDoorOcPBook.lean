import Derived.Test.YtighkdnooglfjaaGreatDoorOcPTr
namespace Go.Proofs.YtighkdnooglfjaaGreatDoor


abbrev Er:=Fin 7
abbrev Er.form:Er:=0
abbrev Er.tip:Er:=1
abbrev Er.input:Er:=2
abbrev Er.exist:Er:=3
abbrev Er.sum:Er:=4
abbrev Er.root:Er:=5
abbrev Er.range:Er:=6
theorem Er.on {motive:Er->Prop} (form:motive .form) (tip:motive .tip) (input:motive .input) (exist:motive .exist) (sum:motive .sum) (root:motive .root) (range:motive .range):∀e,motive e
 | 0=>form
 | 1=>tip
 | 2=>input
 | 3=>exist
 | 4=>sum
 | 5=>root
 | 6=>range
def Jeg (l1 l2:List (Nat×Nat)):Decidable (Xr l1 l2):=by unfold Xr;infer_instance

def YE (st:Option Tr) (k:Key) (o:Nat×Nat):Except Er (Option Tr):=
 match st with
 | none=>.ok (some (.leaf k o))
 | some t=>if (t.near k).1=k then .error .exist else .ok (some (t.graft k o (fd (t.near k).1 k)))
def JQ (st:Option Tr) (k:Key):Except Er (Option Tr×(Nat×Nat)):=
 match st with
 | none=>.error .input
 | some t=>if (t.near k).1=k then .ok (t.cut k,(t.near k).2) else .error .input
def XM:List (BA×Int)->Option Tr->Except Er (Option Tr×List (Nat×Nat))
 | [],st=>.ok (st,[])
 | c :: r,st=>match JQ st (Jd c) with
  | .error e=>.error e
  | .ok (st1,o)=>match XM r st1 with
   | .error e=>.error e
   | .ok (st2,os)=>.ok (st2,o :: os)
def JG (id:BA):Nat->List (Nat×Nat)->Option Tr->Except Er (Option Tr)
 | _,[],st=>.ok st
 | i,o :: r,st=>match YE st (Jd (id,(i:Int))) o with
  | .error e=>.error e
  | .ok st1=>JG id (i+1) r st1
def JY (dg:List UInt8->BA) (st:Option Tr) (t:TxL):Except Er (Option Tr):=
 match XM t.1 st with
 | .error e=>.error e
 | .ok (st1,os)=>match JG (dg (84 :: txB t)) 0 t.2 st1 with
  | .error e=>.error e
  | .ok st2=>haveI:=Jeg os t.2;if Xr os t.2 then .error .sum else .ok st2
def JR (dg:List UInt8->BA):Option Tr->List TxL->Except Er (Option Tr)
 | st,[]=>.ok st
 | st,t :: r=>match JY dg st t with
  | .error e=>.error e
  | .ok st1=>JR dg st1 r

abbrev Held:=(BA×Int)×(Nat×Nat)
def JZ (l:List Held) (c:BA×Int):Option Nat:=l.findIdx? (λh=>decide (h.1=c))
def M64:Nat:=18446744073709551616
def Xc:List (BA×Int)->List Held×Nat×Bool->Option (List Held×Nat×Bool)
 | [],s=>some s
 | c :: r,(now,inn,over)=>match JZ now c with
  | none=>none
  | some k=>Xc r (now.eraseIdx k,(inn+(now.getD k ((⟨#[]⟩,0),(0,0))).2.1) % M64,over || decide ((inn+(now.getD k ((⟨#[]⟩,0),(0,0))).2.1) % M64<inn))
def JE (id:BA):Nat->List (Nat×Nat)->List Held×Nat×Bool->Option (List Held×Nat×Bool)
 | _,[],s=>some s
 | i,o :: r,(now,out,over)=>match JZ now (id,(i:Int)) with
  | some _=>none
  | none=>JE id (i+1) r (now++[((id,(i:Int)),o)],(out+o.1) % M64,over || decide ((out+o.1) % M64<out))
def Xh (dg:List UInt8->BA) (l:List Held) (t:TxL):Except Er (List Held):=
 match Xc t.1 (l,0,false) with
 | none=>.error .input
 | some (now,inn,over)=>match JE (dg (84 :: txB t)) 0 t.2 (now,0,over) with
  | none=>.error .exist
  | some (now2,out,over2)=>if over2=true\/inn<out then .error .sum else .ok now2

structure Book (wd:Nat) (st:Option Tr) (l:List Held):Prop where
 wf:∀t,st=some t->t.Wf
 ok:∀h∈l,Jn wd h.1/\Jr h.2
 nodup:(l.map (·.1)).Nodup
 mem:∀k o,(k,o)∈Xb st↔∃h∈l,Jd h.1=k/\h.2=o
theorem JdE {wd:Nat} {c d:BA×Int} (h1:Jn wd c) (h2:Jn wd d) (h:Jd c=Jd d):c=d:=by
 obtain ⟨a1,a2,a3⟩:=h1
 obtain ⟨b1,b2,b3⟩:=h2
 unfold Jd at h
 obtain ⟨e1,e2⟩:=List.append_inj h (by simp only [QA];exact a1.trans b1.symm)
 have x1:=YA c.2 a2 (by omega)
 have x2:=YA d.2 b2 (by omega)
 have y:∀n,n<256->numL (beL n 1 1)=n:=λn hn=>by rw [Jas n 1 (by omega) 1 (Ql _)];simp
 have e3:JD c.2=JD d.2:=by rw [<-y (JD c.2) (by omega),<-y (JD d.2) (by omega),e2]
 have e4:c.2=d.2:=by rw [<-x1,<-x2,e3]
 have e5:c.1=d.1:=by
  have:c.1.data=d.1.data:=by rw [<-Array.toList_inj];exact e1
  cases hc:c.1;cases hd:d.1;rw [hc,hd] at this;simp only at this;rw [this]
 exact Prod.ext e5 e4
theorem XZ {wd:Nat} {c:BA×Int} (h:Jn wd c):(Jd c).length=wd+1:=by
 unfold Jd;rw [Qe,Je];have:=h.1;simp only [QA];show c.1.data.size+1=_;rw [<-this];rfl
theorem YZ {l:List Held} {c:BA×Int} {k:Nat} (h:JZ l c=some k):∃hk:k<l.length,l[k].1=c:=by
 unfold JZ at h
 rw [List.findIdx?_eq_some_iff_getElem] at h
 obtain ⟨hk,h1,_⟩:=h
 exact ⟨hk,by simpa using h1⟩
theorem Jcw {l:List Held} {c:BA×Int} (h:JZ l c=none):∀x∈l,x.1 ≠ c:=by
 unfold JZ at h
 rw [List.findIdx?_eq_none_iff] at h
 intro x hx;simpa using h x hx
theorem Jig {l:List Held} (hn:(l.map (·.1)).Nodup) {k:Nat} (hk:k<l.length):∀x,x∈l.eraseIdx k↔x∈l/\x.1 ≠ l[k].1:=by
 intro x
 have inj:∀(i j:Nat) (hi:i<l.length) (hj:j<l.length),l[i].1=l[j].1->i=j:=by
  intro i j hi hj e
  have:=(List.getElem_inj (i:=i) (j:=j) (h₀:=by simpa using hi) (h₁:=by simpa using hj) hn).1 (by simpa using e)
  exact this
 rw [List.mem_eraseIdx_iff_getElem]
 constructor
 ·rintro ⟨i,hi,hne,rfl⟩
  exact ⟨Qx hi,λe=>hne (inj i k hi hk e)⟩
 ·rintro ⟨hx,hne⟩
  obtain ⟨i,hi,rfl⟩:=List.getElem_of_mem hx
  exact ⟨i,hi,λe=>hne (by subst e;rfl),rfl⟩
theorem Book.find {wd:Nat} {st:Option Tr} {l:List Held} (B:Book wd st l) {c:BA×Int} (hc:Jn wd c) {t:Tr} (ht:st=some t):(t.near (Jd c)).1=Jd c↔∃k,JZ l c=some k:=by
 subst ht
 constructor
 ·intro h
  have hm:=t.near_mem (Jd c)
  have:((t.near (Jd c)).1,(t.near (Jd c)).2)∈Xb (some t):=hm
  rw [h] at this
  obtain ⟨x,hx,h1,h2⟩:=(B.mem _ _).1 this
  cases hf:JZ l c with
  | some k=>exact ⟨k,rfl⟩
  | none=>exact absurd (JdE (B.ok x hx).1 hc h1) (Jcw hf x hx)
 ·rintro ⟨k,hk⟩
  obtain ⟨hl,e⟩:=YZ hk
  have:(Jd c,l[k].2)∈Xb (some t):=(B.mem _ _).2 ⟨l[k],Qx hl,by rw [e],rfl⟩
  rw [Tr.near_of_mem _ _ t (B.wf t rfl) this]
theorem Book.none {wd:Nat} {l:List Held} (B:Book wd Option.none l):l=[]:=by
 cases l with
 | nil=>rfl
 | cons x r=>exact absurd ((B.mem (Jd x.1) x.2).2 ⟨x,QM,rfl,rfl⟩) (by simp [Xb])
theorem Book.without {wd:Nat} {st:Option Tr} {l:List Held} (B:Book wd st l) {c:BA×Int} (hc:Jn wd c):
  match JZ l c with
  | .none=>JQ st (Jd c)=.error .input
  | .some k=>∃st',JQ st (Jd c)=.ok (st',(l.getD k ((⟨#[]⟩,0),(0,0))).2)/\Book wd st' (l.eraseIdx k):=by
 cases st with
 | none=>
  obtain rfl:=B.none
  rfl
 | some t=>
  have hf:=B.find hc rfl
  cases h:JZ l c with
  | none=>
   simp only [JQ]
   rw [if_neg]
   rw [hf];rintro ⟨k,hk⟩;rw [h] at hk;cases hk
  | some k=>
   obtain ⟨hl,e⟩:=YZ h
   have hn:(t.near (Jd c)).1=Jd c:=hf.2 ⟨k,h⟩
   have hm:(Jd c,l[k].2)∈Xb (some t):=(B.mem _ _).2 ⟨l[k],Qx hl,by rw [e],rfl⟩
   have hnear:=Tr.near_of_mem _ _ t (B.wf t rfl) hm
   obtain ⟨g1,g2,g3⟩:=Tr.cut_ok (Jd c) t (B.wf t rfl) hn
   have hi:=Jig B.nodup hl
   refine ⟨t.cut (Jd c),?_,⟨g1,λx hx=>B.ok x ((hi x).1 hx).1,?_,λk' o=>?_⟩⟩
   ·simp only [JQ]
    rw [if_pos hn,hnear]
    simp [List.getD_eq_getElem?_getD,List.getElem?_eq_getElem hl]
   ·exact B.nodup.sublist ((List.eraseIdx_sublist l k).map _)
   ·rw [g2]
    show (k',o)∈Xb (some t)/\_↔_
    rw [B.mem]
    constructor
    ·rintro ⟨⟨x,hx,h1,h2⟩,h3⟩
     exact ⟨x,(hi x).2 ⟨hx,λe'=>h3 (by simp only;rw [<-h1,e',e])⟩,h1,h2⟩
    ·rintro ⟨x,hx,h1,h2⟩
     obtain ⟨hx1,hx2⟩:=(hi x).1 hx
     exact ⟨⟨x,hx1,h1,h2⟩,λe'=>hx2 (by rw [e];simp only at e';exact JdE (B.ok x hx1).1 hc (h1.trans e'))⟩
theorem Book.with {wd:Nat} {st:Option Tr} {l:List Held} (B:Book wd st l) {c:BA×Int} (hc:Jn wd c) {o:Nat×Nat} (ho:Jr o):
  match JZ l c with
  | .some _=>YE st (Jd c) o=.error .exist
  | .none=>∃st',YE st (Jd c) o=.ok st'/\Book wd st' (l++[(c,o)]):=by
 have hok:JZ l c=Option.none->∀x∈l++[(c,o)],Jn wd x.1/\Jr x.2:=by
  intro _ x hx
  rw [QE,Qt] at hx
  rcases hx with hx | rfl
  ·exact B.ok x hx
  ·exact ⟨hc,ho⟩
 have hnd:JZ l c=Option.none->((l++[(c,o)]).map (·.1)).Nodup:=by
  intro hf
  rw [List.map_append,List.nodup_append]
  refine ⟨B.nodup,by simp,?_⟩
  intro a ha b hb e
  simp only [List.map_cons,List.map_nil,Qt] at hb
  subst hb
  subst e
  obtain ⟨x,hx,hxe⟩:=QK.1 ha
  exact Jcw hf x hx hxe
 cases st with
 | none=>
  obtain rfl:=B.none
  refine ⟨_,rfl,⟨λt ht=>by simp only [Qh] at ht;rw [<-ht];exact trivial,hok rfl,hnd rfl,λk o'=>?_⟩⟩
  simp only [Xb,Tr.coins,Qt,List.nil_append,Qw]
  constructor
  ·rintro ⟨rfl,rfl⟩;exact ⟨_,rfl,rfl,rfl⟩
  ·rintro ⟨x,rfl,h1,h2⟩;exact ⟨h1.symm,h2.symm⟩
 | some t=>
  have hf:=B.find hc rfl
  cases h:JZ l c with
  | some k=>
   simp only [YE]
   rw [if_pos (hf.2 ⟨k,h⟩)]
  | none=>
   have hn:(t.near (Jd c)).1 ≠ Jd c:=by rw [ne_eq,hf];rintro ⟨k,hk⟩;rw [h] at hk;cases hk
   have hm:=t.near_mem (Jd c)
   obtain ⟨x,hx,h1,h2⟩:=(B.mem (t.near (Jd c)).1 (t.near (Jd c)).2).1 hm
   have hlen:(t.near (Jd c)).1.length=(Jd c).length:=by rw [<-h1,XZ (B.ok x hx).1,XZ hc]
   obtain ⟨q1,q2,q3⟩:=JjD (t.near (Jd c)).1 (Jd c) hlen hn
   obtain ⟨g1,g2,g3⟩:=Tr.graft_ok (Jd c) o (fd (t.near (Jd c)).1 (Jd c)) t (B.wf t rfl) (λe=>q2 e.symm) (λi hi=>(q3 i hi).symm)
   refine ⟨some (t.graft (Jd c) o (fd (t.near (Jd c)).1 (Jd c))),?_,⟨λt' ht=>by simp only [Qh] at ht;rw [<-ht];exact g1,hok h,hnd h,λk o'=>?_⟩⟩
   ·simp only [YE];rw [if_neg hn]
   ·simp only [Xb,g2]
    have:=B.mem k o'
    simp only [Xb] at this
    rw [this]
    constructor
    ·rintro (e | ⟨y,hy,e1,e2⟩)
     ·cases e;exact ⟨(c,o),by simp,rfl,rfl⟩
     ·exact ⟨y,by simp [hy],e1,e2⟩
    ·rintro ⟨y,hy,e1,e2⟩
     rw [QE,Qt] at hy
     rcases hy with hy | rfl
     ·exact .inr ⟨y,hy,e1,e2⟩
     ·left;rw [<-e1,<-e2]
theorem ZX (o:Nat×Nat) (os:List (Nat×Nat)):JI (o :: os) (o :: os).length=o.1+JI os os.length:=by simp [JI]
theorem JgJ (wd:Nat):∀(cs:List (BA×Int)),(∀c∈cs,Jn wd c)->∀(st:Option Tr) (l:List Held) (inn:Nat) (over:Bool),Book wd st l->
  match Xc cs (l,inn % M64,over) with
  | none=>XM cs st=.error .input
  | some (l',inn',over')=>∃st' os,XM cs st=.ok (st',os)/\Book wd st' l'/\inn'=(inn+JI os os.length) % M64/\(over'=true↔over=true\/M64<=inn % M64+JI os os.length):=by
 intro cs
 induction cs with
 | nil=>intro _ st l inn over B;exact ⟨st,[],rfl,B,by simp [JI],by simp [JI];intro h;exact absurd h (by have:inn % M64<M64:=Nat.mod_lt _ (by decide);omega)⟩
 | cons c r ih=>
  intro hc st l inn over B
  have hw:=B.without (hc c QM)
  simp only [Xc,XM]
  cases hf:JZ l c with
  | none=>rw [hf] at hw;simp only at hw;simp only [hw]
  | some k=>
   rw [hf] at hw
   obtain ⟨st1,e1,B1⟩:=hw
   obtain ⟨hl,_⟩:=YZ hf
   have ha:(l.getD k ((⟨#[]⟩,0),(0,0))).2.1<M64:=by
    simp only [Qn,Qd hl,Option.getD_some]
    exact (B.ok _ (Qx hl)).2.1
   dsimp only
   generalize (l.getD k ((⟨#[]⟩,0),(0,0))).2=o at *
   simp only [e1]
   have:=ih (λc hc'=>hc c (QO _ hc')) st1 (l.eraseIdx k) (inn % M64+o.1) (over || decide ((inn % M64+o.1) % M64<inn % M64)) B1
   cases hs:Xc r (l.eraseIdx k,(inn % M64+o.1) % M64,over || decide ((inn % M64+o.1) % M64<inn % M64)) with
   | none=>rw [hs] at this;simp only at this;simp only [this]
   | some q=>
    obtain ⟨l',inn',over'⟩:=q
    rw [hs] at this
    obtain ⟨st',os,e2,B2,e3,e4⟩:=this
    refine ⟨st',o :: os,by simp only [e2],B2,?_,?_⟩
    ·rw [e3,ZX,Nat.add_assoc,Nat.mod_add_mod]
    ·rw [e4,ZX,Bool.or_eq_true,decide_eq_true_iff]
     generalize JI os os.length=S
     have hm:inn % M64<M64:=Nat.mod_lt _ (by decide)
     generalize inn % M64=I at *
     generalize (over=true)=P
     unfold M64 at *
     constructor
     ·rintro ((h | h) | h)
      ·exact .inl h
      ·right;omega
      ·right;omega
     ·rintro (h | h)
      ·exact .inl (.inl h)
      ·by_cases h2:18446744073709551616<=I+o.1
       ·left;right;omega
       ·right;omega
theorem ZT (wd:Nat) (id:BA) (hid:id.size=wd):∀(os:List (Nat×Nat)),(∀o∈os,Jr o)->∀(i:Nat),i+os.length<=3->∀(st:Option Tr) (l:List Held) (out:Nat) (over:Bool),Book wd st l->
  match JE id i os (l,out % M64,over) with
  | none=>JG id i os st=.error .exist
  | some (l',out',over')=>∃st',JG id i os st=.ok st'/\Book wd st' l'/\out'=(out+JI os os.length) % M64/\(over'=true↔over=true\/M64<=out % M64+JI os os.length):=by
 intro os
 induction os with
 | nil=>intro _ i _ st l out over B;exact ⟨st,rfl,B,by simp [JI],by simp [JI];intro h;exact absurd h (by have:out % M64<M64:=Nat.mod_lt _ (by decide);omega)⟩
 | cons o r ih=>
  intro ho i hi st l out over B
  rw [Qp] at hi
  have hco:Jn wd (id,(i:Int)):=⟨hid,by simp only;omega,by simp only;omega⟩
  have hw:=B.with hco (ho o QM)
  simp only [JE,JG]
  cases hf:JZ l (id,(i:Int)) with
  | some k=>rw [hf] at hw;simp only at hw;simp only [hw]
  | none=>
   rw [hf] at hw
   obtain ⟨st1,e1,B1⟩:=hw
   have ha:o.1<M64:=(ho o QM).1
   simp only [e1]
   have:=ih (λc hc'=>ho c (QO _ hc')) (i+1) (by omega) st1 (l++[((id,(i:Int)),o)]) (out % M64+o.1) (over || decide ((out % M64+o.1) % M64<out % M64)) B1
   cases hs:JE id (i+1) r (l++[((id,(i:Int)),o)],(out % M64+o.1) % M64,over || decide ((out % M64+o.1) % M64<out % M64)) with
   | none=>rw [hs] at this;simp only at this;simp only [this]
   | some q=>
    obtain ⟨l',out',over'⟩:=q
    rw [hs] at this
    obtain ⟨st',e2,B2,e3,e4⟩:=this
    refine ⟨st',e2,B2,?_,?_⟩
    ·rw [e3,ZX,Nat.add_assoc,Nat.mod_add_mod]
    ·rw [e4,ZX,Bool.or_eq_true,decide_eq_true_iff]
     generalize JI r r.length=S
     have hm:out % M64<M64:=Nat.mod_lt _ (by decide)
     generalize out % M64=I at *
     generalize (over=true)=P
     unfold M64 at *
     constructor
     ·rintro ((h | h) | h)
      ·exact .inl h
      ·right;omega
      ·right;omega
     ·rintro (h | h)
      ·exact .inl (.inl h)
      ·by_cases h2:18446744073709551616<=I+o.1
       ·left;right;omega
       ·right;omega
theorem Jed (wd:Nat) (dg:List UInt8->BA) (hdg:∀l,(dg l).size=wd) (t:TxL) (ht:TxOk wd t) (st:Option Tr) (l:List Held) (B:Book wd st l):
  match Xh dg l t with
  | .error e=>JY dg st t=.error e
  | .ok l'=>∃st',JY dg st t=.ok st'/\Book wd st' l':=by
 have h1:=JgJ wd t.1 ht.coins st l 0 false B
 simp only [Xh,JY]
 rw [show (0:Nat) % M64=0 from rfl] at h1
 cases hs:Xc t.1 (l,0,false) with
 | none=>rw [hs] at h1;simp only at h1;simp only [h1]
 | some q=>
  obtain ⟨l1,inn,ov⟩:=q
  rw [hs] at h1
  obtain ⟨st1,os,e1,B1,e2,e3⟩:=h1
  simp only [e1]
  have h2:=ZT wd (dg (84 :: txB t)) (hdg _) t.2 ht.outs 0 (by have:=ht.made;omega) st1 l1 0 ov B1
  rw [show (0:Nat) % M64=0 from rfl] at h2
  cases hr:JE (dg (84 :: txB t)) 0 t.2 (l1,0,ov) with
  | none=>rw [hr] at h2;simp only at h2;simp only [h2]
  | some q=>
   obtain ⟨l2,out,ov2⟩:=q
   rw [hr] at h2
   obtain ⟨st2,e4,B2,e5,e6⟩:=h2
   simp only [e4]
   have hb:(ov2=true\/inn<out)↔Xr os t.2:=by
    rw [e6,e3,e2,e5]
    unfold Xr
    simp only [Nat.zero_add]
    simp only [Bool.false_eq_true,false_or]
    generalize JI os os.length=A
    generalize JI t.2 t.2.length=C
    unfold M64
    omega
   by_cases hbs:Xr os t.2
   ·rw [if_pos (hb.2 hbs),if_pos hbs]
   ·rw [if_neg (λh=>hbs (hb.1 h)),if_neg hbs];exact ⟨st2,rfl,B2⟩


def Tr.dig (d:List UInt8->BA):Tr->BA
 | ⟨.inl (k,o)⟩=>d (76 :: (k++outB o))
 | ⟨.inr (b,l,r)⟩=>d (78 :: (beL b 2 2++((l.dig d).data.toList++(r.dig d).data.toList)))
def Xi (d:List UInt8->BA):Option Tr->BA
 | none=>d [69]
 | some t=>t.dig d
abbrev Ch:=List (BA×Option Tr)
def Ch.last (ch:Ch):BA×Option Tr:=ch.getLastD (⟨#[]⟩,none)
def Zl (d:List UInt8->BA) (ch:Ch) (body:List UInt8) (st:BA):HdL:=(ch.length,d (72 :: ch.last.1.data.toList),d (66 :: body),st)
def JfL (d:List UInt8->BA) (wd:Nat) (ch:Ch) (ts:List TxL):Except Er (List UInt8):=
 match (PS.wr []).body wd ts with
 | some (_,⟨.inr body⟩)=>match JR d ch.last.2 ts with
  | .error e=>.error e
  | .ok st=>match (PS.wr []).hdr wd (Zl d ch body (Xi d st)) with
   | some (_,⟨.inr h⟩)=>.ok (h++body)
   | _=>.error .form
 | _=>.error .form
def Xo (d:List UInt8->BA) (wd:Nat) (ch:Ch) (text:List UInt8):Except Er Ch:=
 match (PS.rd [] text).hdr wd (0,⟨#[]⟩,⟨#[]⟩,⟨#[]⟩) with
 | some (h,⟨.inl (pre,body)⟩)=>match (PS.rd pre body).body wd [] with
  | some (ts,⟨.inl (_,[])⟩)=>if h ≠ Zl d ch body h.2.2.2 then .error .tip else match JR d ch.last.2 ts with
   | .error e=>.error e
   | .ok st=>if h.2.2.2 ≠ Xi d st then .error .root else .ok (ch++[(⟨(text.take (text.length - body.length)).toArray⟩,st)])
  | _=>.error .form
 | _=>.error .form
theorem XW (d:List UInt8->BA) (wd:Nat) (hd:∀l,(d l).size=wd) (st:Option Tr):(Xi d st).size=wd:=by
 cases st with
 | none=>exact hd _
 | some t=>cases t using Tr.ri <;> exact hd _
def Ye (d:List UInt8->BA) (ch:Ch) (ts:List TxL) (st:Option Tr):List UInt8:=hdrB (Zl d ch (Xf ts) (Xi d st))++Xf ts
theorem Jfv (d:List UInt8->BA) (wd:Nat) (hd:∀l,(d l).size=wd) (ch:Ch) (hc:ch.length<2 ^ 32) (body:List UInt8) (st:Option Tr):HdOk wd (Zl d ch body (Xi d st)):=
 ⟨hc,hd _,hd _,XW d wd hd st⟩
theorem Jhq (d:List UInt8->BA) (wd:Nat) (hd:∀l,(d l).size=wd) (ch:Ch) (hc:ch.length<2 ^ 32) (ts:List TxL) (h:∀t∈ts,TxOk wd t) (h3:ts.length<=3):
  JfL d wd ch ts=match JR d ch.last.2 ts with | .error e=>.error e | .ok st=>.ok (Ye d ch ts st):=by
 unfold JfL
 rw [(JeH wd ts h h3).wr]
 dsimp only
 rw [List.nil_append]
 cases JR d ch.last.2 ts with
 | error e=>rfl
 | ok st=>
  dsimp only
  rw [(JeI wd _ (0,⟨#[]⟩,⟨#[]⟩,⟨#[]⟩) (Jfv d wd hd ch hc (Xf ts) st)).wr]
  rfl
theorem Je4 (d:List UInt8->BA) (wd:Nat) (hd:∀l,(d l).size=wd) (ch:Ch) (hc:ch.length<2 ^ 32) (ts:List TxL) (h:∀t∈ts,TxOk wd t) (h3:ts.length<=3) (st:Option Tr) (ha:JR d ch.last.2 ts=.ok st):
  Xo d wd ch (Ye d ch ts st)=.ok (ch++[(⟨(hdrB (Zl d ch (Xf ts) (Xi d st))).toArray⟩,st)]):=by
 have hb:=JeH wd ts h h3
 have hh:=JeI wd _ (0,⟨#[]⟩,⟨#[]⟩,⟨#[]⟩) (Jfv d wd hd ch hc (Xf ts) st)
 unfold Xo Ye
 rw [hh.rd]
 dsimp only
 have:=hb.rd ([]++hdrB (Zl d ch (Xf ts) (Xi d st))) []
 rw [QC] at this
 rw [this]
 dsimp only
 rw [if_neg (by simp [Zl]),ha]
 dsimp only
 rw [if_neg (by simp [Zl])]
 simp
def XG (dg:List UInt8->BA):List Held->List TxL->Except Er (List Held)
 | l,[]=>.ok l
 | l,t :: r=>match Xh dg l t with
  | .error e=>.error e
  | .ok l1=>XG dg l1 r

def Tr.text (d:List UInt8->BA):Tr->List UInt8
 | ⟨.inl (k,o)⟩=>76 :: (k++outB o)
 | ⟨.inr (b,l,r)⟩=>78 :: (beL b 2 2++((l.dig d).data.toList++(r.dig d).data.toList))
theorem Tr.dig_text (d:List UInt8->BA) (t:Tr):t.dig d=d (t.text d):=by cases t using Tr.ri <;> rfl
def JmM (d:List UInt8->BA):Option Tr->List UInt8
 | none=>[69]
 | some t=>t.text d
theorem JgK (d:List UInt8->BA) (st:Option Tr):Xi d st=d (JmM d st):=by
 cases st with
 | none=>rfl
 | some t=>exact t.dig_text d
abbrev KO:=Key×(Nat×Nat)

abbrev Stp:=Nat×BA
abbrev Wy:=List Stp×Option KO
def Tr.way (d:List UInt8->BA) (k:Key):Tr->List Stp×KO
 | ⟨.inl (k',o)⟩=>([],(k',o))
 | ⟨.inr (b,l,r)⟩=>if bt k b=0 then (((b,r.dig d) :: (l.way d k).1),(l.way d k).2) else (((b,l.dig d) :: (r.way d k).1),(r.way d k).2)
def Yp (d:List UInt8->BA) (k:Key):Option Tr->Wy
 | none=>([],none)
 | some t=>((t.way d k).1,some (t.way d k).2)
def Yf:Option KO->List UInt8
 | none=>[69]
 | some (k,o)=>76 :: (k++outB o)
def XK (w:Wy):Key:=match w.2 with | none=>[] | some (k,_)=>k
def Yu (d:List UInt8->BA) (key:Key) (e:List UInt8):List Stp->List (List UInt8)
 | []=>[e]
 | (b,oth) :: r=>(78 :: (beL b 2 2++(if bt key b=0 then (d ((Yu d key e r).headD [])).data.toList++oth.data.toList else oth.data.toList++(d ((Yu d key e r).headD [])).data.toList))) :: Yu d key e r
def Wy.nodes (d:List UInt8->BA) (w:Wy):List (List UInt8):=Yu d (XK w) (Yf w.2) w.1
theorem Tr.way_near (d:List UInt8->BA) (k:Key) (t:Tr):(t.way d k).2=t.near k:=by
 induction t using Tr.ri with
 | leaf=>rfl
 | br b l r ihl ihr=>simp only [way,near];split <;> assumption
theorem Tr.way_bits (d:List UInt8->BA) (k:Key) (t:Tr) (hw:t.Wf):∀s∈(t.way d k).1,bt (t.near k).1 s.1=bt k s.1:=by
 induction t using Tr.ri with
 | leaf=>intro s hs;cases hs
 | br b l r ihl ihr=>
  obtain ⟨w1,w2,h0,h1,_⟩:=hw
  have k2:=YH k b
  intro s hs
  simp only [way] at hs
  simp only [near]
  split at hs <;> rename_i hz
  ·simp only [hz,if_true]
   simp only [List.mem_cons] at hs
   rcases hs with rfl | hs
   ·have:=h0 _ (near_mem k l);simp only;omega
   ·exact ihl w1 s hs
  ·simp only [hz,if_false]
   simp only [List.mem_cons] at hs
   rcases hs with rfl | hs
   ·have:=h1 _ (near_mem k r);simp only;omega
   ·exact ihr w2 s hs
theorem Yz (d:List UInt8->BA) (key:Key) (e:List UInt8) (l:List Stp):(Yu d key e l).length=l.length+1:=by
 induction l with
 | nil=>rfl
 | cons s r ih=>obtain ⟨b,o⟩:=s;simp [Yu,ih]
theorem Tr.way_root (d:List UInt8->BA) (k:Key) (t:Tr) (hw:t.Wf) (key:Key) (hk:∀s∈(t.way d k).1,bt key s.1=bt k s.1):(Yu d key (Yf (some (t.way d k).2)) (t.way d k).1).headD []=t.text d:=by
 induction t using Tr.ri with
 | leaf=>rfl
 | br b l r ihl ihr=>
  obtain ⟨w1,w2,h0,h1,_⟩:=hw
  have k2:=YH k b
  simp only [way] at hk ⊢
  split
  ·rename_i hz
   simp only [hz,if_true] at hk
   have hb:=hk (b,r.dig d) (by simp)
   simp only at hb
   have:=ihl w1 (λs hs=>hk s (by simp [hs]))
   simp only [Yu,List.headD_cons]
   rw [hb,this,if_pos hz,<-Tr.dig_text d l];rfl
  ·rename_i hz
   simp only [hz,if_false] at hk
   have hb:=hk (b,l.dig d) (by simp)
   simp only at hb
   have:=ihr w2 (λs hs=>hk s (by simp [hs]))
   simp only [Yu,List.headD_cons]
   rw [hb,this,if_neg hz,<-Tr.dig_text d r];rfl
def Wy.said (w:Wy) (k:Key):Option (Nat×Nat):=match w.2 with | none=>none | some (k',o)=>if k'=k then some o else none
theorem Jmj {a b:BA} (h:a.data.toList=b.data.toList):a=b:=by
 cases a;cases b;simp only at h;rw [Array.toList_inj] at h;rw [h]
theorem JgO (d:List UInt8->BA) (wd:Nat) (st:Option Tr) (l:List Held) (B:Book wd st l) (c:BA×Int) (hc:Jn wd c):(Yp d (Jd c) st).said (Jd c)=(JZ l c).map λk=>(l.getD k ((⟨#[]⟩,0),(0,0))).2:=by
 have hw:=B.without hc
 cases st with
 | none=>
  obtain rfl:=B.none
  rfl
 | some t=>
  simp only [Yp,Wy.said,Tr.way_near]
  cases h:JZ l c with
  | none=>
   rw [h] at hw
   simp only [JQ] at hw
   split at hw
   ·cases hw
   ·rw [if_neg (by assumption)];rfl
  | some k=>
   rw [h] at hw
   obtain ⟨st',e,_⟩:=hw
   simp only [JQ] at e
   split at e
   ·rename_i hk
    simp only [Except.ok.injEq,Qw] at e
    rw [if_pos hk,e.2];rfl
   ·cases e
