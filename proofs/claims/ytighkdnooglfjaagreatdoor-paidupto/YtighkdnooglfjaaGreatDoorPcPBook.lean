import Derived.Test.YtighkdnooglfjaaGreatDoorPcPTr
import Derived.Deep.RegionHeld3
namespace Go.Proofs.YtighkdnooglfjaaGreatDoor


abbrev Er:=Fin 7
abbrev Er.form:Er:=0
abbrev Er.tip:Er:=1
abbrev Er.input:Er:=2
abbrev Er.exist:Er:=3
abbrev Er.sum:Er:=4
abbrev Er.root:Er:=5
abbrev Er.range:Er:=6
theorem Er.on {motive:Er->Prop} (form:motive .form) (tip:motive .tip) (input:motive .input) (exist:motive .exist) (sum:motive .sum) (root:motive .root) (range:motive .range):∀e,motive e
 | 0=>form
 | 1=>tip
 | 2=>input
 | 3=>exist
 | 4=>sum
 | 5=>root
 | 6=>range
def Jcw (l1 l2:List (Nat×Nat)):Decidable (Xg l1 l2):=by unfold Xg;infer_instance

def XZ (st:Option Tr) (k:Key) (o:Nat×Nat):Except Er (Option Tr):=
 match st with
 | none=>.ok (some (.leaf k o))
 | some t=>if (t.near k).1=k then .error .exist else .ok (some (t.graft k o (fd (t.near k).1 k)))
def JL (st:Option Tr) (k:Key):Except Er (Option Tr×(Nat×Nat)):=
 match st with
 | none=>.error .input
 | some t=>if (t.near k).1=k then .ok (t.cut k,(t.near k).2) else .error .input
def Xy:List (BA×Int)->Option Tr->Except Er (Option Tr×List (Nat×Nat))
 | [],st=>.ok (st,[])
 | c :: r,st=>match JL st (Jd c) with
  | .error e=>.error e
  | .ok (st1,o)=>match Xy r st1 with
   | .error e=>.error e
   | .ok (st2,os)=>.ok (st2,o :: os)
def JG (id:BA):Nat->List (Nat×Nat)->Option Tr->Except Er (Option Tr)
 | _,[],st=>.ok st
 | i,o :: r,st=>match XZ st (Jd (id,(i:Int))) o with
  | .error e=>.error e
  | .ok st1=>JG id (i+1) r st1
def JM (dg:List UInt8->BA) (st:Option Tr) (t:TxL):Except Er (Option Tr):=
 match Xy t.1 st with
 | .error e=>.error e
 | .ok (st1,os)=>match JG (dg (84 :: txB t)) 0 t.2 st1 with
  | .error e=>.error e
  | .ok st2=>haveI:=Jcw os t.2;if Xg os t.2 then .error .sum else .ok st2
def JC (dg:List UInt8->BA):Option Tr->List TxL->Except Er (Option Tr)
 | st,[]=>.ok st
 | st,t :: r=>match JM dg st t with
  | .error e=>.error e
  | .ok st1=>JC dg st1 r

abbrev Held:=(BA×Int)×(Nat×Nat)
def JW (l:List Held) (c:BA×Int):Option Nat:=l.findIdx? (λh=>decide (h.1=c))
def M64:Nat:=18446744073709551616
def JQ:List (BA×Int)->List Held×Nat×Bool->Option (List Held×Nat×Bool)
 | [],s=>some s
 | c :: r,(now,inn,over)=>match JW now c with
  | none=>none
  | some k=>JQ r (now.eraseIdx k,(inn+(now.getD k ((⟨#[]⟩,0),(0,0))).2.1) % M64,over || decide ((inn+(now.getD k ((⟨#[]⟩,0),(0,0))).2.1) % M64<inn))
def Ju (id:BA):Nat->List (Nat×Nat)->List Held×Nat×Bool->Option (List Held×Nat×Bool)
 | _,[],s=>some s
 | i,o :: r,(now,out,over)=>match JW now (id,(i:Int)) with
  | some _=>none
  | none=>Ju id (i+1) r (now++[((id,(i:Int)),o)],(out+o.1) % M64,over || decide ((out+o.1) % M64<out))
def JU (dg:List UInt8->BA) (l:List Held) (t:TxL):Except Er (List Held):=
 match JQ t.1 (l,0,false) with
 | none=>.error .input
 | some (now,inn,over)=>match Ju (dg (84 :: txB t)) 0 t.2 (now,0,over) with
  | none=>.error .exist
  | some (now2,out,over2)=>if over2=true\/inn<out then .error .sum else .ok now2

structure Book (wd:Nat) (st:Option Tr) (l:List Held):Prop where
 wf:∀t,st=some t->t.Wf
 ok:∀h∈l,Jr wd h.1/\Jq h.2
 nodup:(l.map (·.1)).Nodup
 mem:∀k o,(k,o)∈JP st↔∃h∈l,Jd h.1=k/\h.2=o
theorem Jb1 {wd:Nat} {c d:BA×Int} (h1:Jr wd c) (h2:Jr wd d) (h:Jd c=Jd d):c=d:=by
 obtain ⟨a1,a2,a3⟩:=h1
 obtain ⟨b1,b2,b3⟩:=h2
 unfold Jd at h
 obtain ⟨e1,e2⟩:=List.append_inj h (by simp only [QA];exact a1.trans b1.symm)
 have x1:=XW c.2 a2 (by omega)
 have x2:=XW d.2 b2 (by omega)
 have y:∀n,n<256->numL (beL n 1 1)=n:=λn hn=>by rw [JeI n 1 (by omega) 1 (Ql _)];simp
 have e3:Jt c.2=Jt d.2:=by rw [<-y (Jt c.2) (by omega),<-y (Jt d.2) (by omega),e2]
 have e4:c.2=d.2:=by rw [<-x1,<-x2,e3]
 have e5:c.1=d.1:=by
  have:c.1.data=d.1.data:=by rw [<-Array.toList_inj];exact e1
  cases hc:c.1;cases hd:d.1;rw [hc,hd] at this;simp only at this;rw [this]
 exact Prod.ext e5 e4
theorem XH {wd:Nat} {c:BA×Int} (h:Jr wd c):(Jd c).length=wd+1:=by
 unfold Jd;rw [Qe,Jg];have:=h.1;simp only [QA];show c.1.data.size+1=_;rw [<-this];rfl
theorem YJ {l:List Held} {c:BA×Int} {k:Nat} (h:JW l c=some k):∃hk:k<l.length,l[k].1=c:=by
 unfold JW at h
 rw [List.findIdx?_eq_some_iff_getElem] at h
 obtain ⟨hk,h1,_⟩:=h
 exact ⟨hk,by simpa using h1⟩
theorem Jbg {l:List Held} {c:BA×Int} (h:JW l c=none):∀x∈l,x.1 ≠ c:=by
 unfold JW at h
 rw [List.findIdx?_eq_none_iff] at h
 intro x hx;simpa using h x hx
theorem Jfz {l:List Held} (hn:(l.map (·.1)).Nodup) {k:Nat} (hk:k<l.length):∀x,x∈l.eraseIdx k↔x∈l/\x.1 ≠ l[k].1:=by
 intro x
 have inj:∀(i j:Nat) (hi:i<l.length) (hj:j<l.length),l[i].1=l[j].1->i=j:=by
  intro i j hi hj e
  have:=(List.getElem_inj (i:=i) (j:=j) (h₀:=by simpa using hi) (h₁:=by simpa using hj) hn).1 (by simpa using e)
  exact this
 rw [List.mem_eraseIdx_iff_getElem]
 constructor
 ·rintro ⟨i,hi,hne,rfl⟩
  exact ⟨Qx hi,λe=>hne (inj i k hi hk e)⟩
 ·rintro ⟨hx,hne⟩
  obtain ⟨i,hi,rfl⟩:=List.getElem_of_mem hx
  exact ⟨i,hi,λe=>hne (by subst e;rfl),rfl⟩
theorem Book.find {wd:Nat} {st:Option Tr} {l:List Held} (B:Book wd st l) {c:BA×Int} (hc:Jr wd c) {t:Tr} (ht:st=some t):(t.near (Jd c)).1=Jd c↔∃k,JW l c=some k:=by
 subst ht
 constructor
 ·intro h
  have hm:=t.near_mem (Jd c)
  have:((t.near (Jd c)).1,(t.near (Jd c)).2)∈JP (some t):=hm
  rw [h] at this
  obtain ⟨x,hx,h1,h2⟩:=(B.mem _ _).1 this
  cases hf:JW l c with
  | some k=>exact ⟨k,rfl⟩
  | none=>exact absurd (Jb1 (B.ok x hx).1 hc h1) (Jbg hf x hx)
 ·rintro ⟨k,hk⟩
  obtain ⟨hl,e⟩:=YJ hk
  have:(Jd c,l[k].2)∈JP (some t):=(B.mem _ _).2 ⟨l[k],Qx hl,by rw [e],rfl⟩
  rw [Tr.near_of_mem _ _ t (B.wf t rfl) this]
theorem Book.none {wd:Nat} {l:List Held} (B:Book wd Option.none l):l=[]:=by
 cases l with
 | nil=>rfl
 | cons x r=>exact absurd ((B.mem (Jd x.1) x.2).2 ⟨x,QM,rfl,rfl⟩) (by simp [JP])
theorem Book.without {wd:Nat} {st:Option Tr} {l:List Held} (B:Book wd st l) {c:BA×Int} (hc:Jr wd c):
  match JW l c with
  | .none=>JL st (Jd c)=.error .input
  | .some k=>∃st',JL st (Jd c)=.ok (st',(l.getD k ((⟨#[]⟩,0),(0,0))).2)/\Book wd st' (l.eraseIdx k):=by
 cases st with
 | none=>
  obtain rfl:=B.none
  rfl
 | some t=>
  have hf:=B.find hc rfl
  cases h:JW l c with
  | none=>
   simp only [JL]
   rw [if_neg]
   rw [hf];rintro ⟨k,hk⟩;rw [h] at hk;cases hk
  | some k=>
   obtain ⟨hl,e⟩:=YJ h
   have hn:(t.near (Jd c)).1=Jd c:=hf.2 ⟨k,h⟩
   have hm:(Jd c,l[k].2)∈JP (some t):=(B.mem _ _).2 ⟨l[k],Qx hl,by rw [e],rfl⟩
   have hnear:=Tr.near_of_mem _ _ t (B.wf t rfl) hm
   obtain ⟨g1,g2,g3⟩:=Tr.cut_ok (Jd c) t (B.wf t rfl) hn
   have hi:=Jfz B.nodup hl
   refine ⟨t.cut (Jd c),?_,⟨g1,λx hx=>B.ok x ((hi x).1 hx).1,?_,λk' o=>?_⟩⟩
   ·simp only [JL]
    rw [if_pos hn,hnear]
    simp [List.getD_eq_getElem?_getD,List.getElem?_eq_getElem hl]
   ·exact B.nodup.sublist ((List.eraseIdx_sublist l k).map _)
   ·rw [g2]
    show (k',o)∈JP (some t)/\_↔_
    rw [B.mem]
    constructor
    ·rintro ⟨⟨x,hx,h1,h2⟩,h3⟩
     exact ⟨x,(hi x).2 ⟨hx,λe'=>h3 (by simp only;rw [<-h1,e',e])⟩,h1,h2⟩
    ·rintro ⟨x,hx,h1,h2⟩
     obtain ⟨hx1,hx2⟩:=(hi x).1 hx
     exact ⟨⟨x,hx1,h1,h2⟩,λe'=>hx2 (by rw [e];simp only at e';exact Jb1 (B.ok x hx1).1 hc (h1.trans e'))⟩
theorem Book.with {wd:Nat} {st:Option Tr} {l:List Held} (B:Book wd st l) {c:BA×Int} (hc:Jr wd c) {o:Nat×Nat} (ho:Jq o):
  match JW l c with
  | .some _=>XZ st (Jd c) o=.error .exist
  | .none=>∃st',XZ st (Jd c) o=.ok st'/\Book wd st' (l++[(c,o)]):=by
 have hok:JW l c=Option.none->∀x∈l++[(c,o)],Jr wd x.1/\Jq x.2:=by
  intro _ x hx
  rw [QE,Qt] at hx
  rcases hx with hx | rfl
  ·exact B.ok x hx
  ·exact ⟨hc,ho⟩
 have hnd:JW l c=Option.none->((l++[(c,o)]).map (·.1)).Nodup:=by
  intro hf
  rw [List.map_append,List.nodup_append]
  refine ⟨B.nodup,by simp,?_⟩
  intro a ha b hb e
  simp only [List.map_cons,List.map_nil,Qt] at hb
  subst hb
  subst e
  obtain ⟨x,hx,hxe⟩:=QK.1 ha
  exact Jbg hf x hx hxe
 cases st with
 | none=>
  obtain rfl:=B.none
  refine ⟨_,rfl,⟨λt ht=>by simp only [Qh] at ht;rw [<-ht];exact trivial,hok rfl,hnd rfl,λk o'=>?_⟩⟩
  simp only [JP,Tr.coins,Qt,List.nil_append,Qw]
  constructor
  ·rintro ⟨rfl,rfl⟩;exact ⟨_,rfl,rfl,rfl⟩
  ·rintro ⟨x,rfl,h1,h2⟩;exact ⟨h1.symm,h2.symm⟩
 | some t=>
  have hf:=B.find hc rfl
  cases h:JW l c with
  | some k=>
   simp only [XZ]
   rw [if_pos (hf.2 ⟨k,h⟩)]
  | none=>
   have hn:(t.near (Jd c)).1 ≠ Jd c:=by rw [ne_eq,hf];rintro ⟨k,hk⟩;rw [h] at hk;cases hk
   have hm:=t.near_mem (Jd c)
   obtain ⟨x,hx,h1,h2⟩:=(B.mem (t.near (Jd c)).1 (t.near (Jd c)).2).1 hm
   have hlen:(t.near (Jd c)).1.length=(Jd c).length:=by rw [<-h1,XH (B.ok x hx).1,XH hc]
   obtain ⟨q1,q2,q3⟩:=JgB (t.near (Jd c)).1 (Jd c) hlen hn
   obtain ⟨g1,g2,g3⟩:=Tr.graft_ok (Jd c) o (fd (t.near (Jd c)).1 (Jd c)) t (B.wf t rfl) (λe=>q2 e.symm) (λi hi=>(q3 i hi).symm)
   refine ⟨some (t.graft (Jd c) o (fd (t.near (Jd c)).1 (Jd c))),?_,⟨λt' ht=>by simp only [Qh] at ht;rw [<-ht];exact g1,hok h,hnd h,λk o'=>?_⟩⟩
   ·simp only [XZ];rw [if_neg hn]
   ·simp only [JP,g2]
    have:=B.mem k o'
    simp only [JP] at this
    rw [this]
    constructor
    ·rintro (e | ⟨y,hy,e1,e2⟩)
     ·cases e;exact ⟨(c,o),by simp,rfl,rfl⟩
     ·exact ⟨y,by simp [hy],e1,e2⟩
    ·rintro ⟨y,hy,e1,e2⟩
     rw [QE,Qt] at hy
     rcases hy with hy | rfl
     ·exact .inr ⟨y,hy,e1,e2⟩
     ·left;rw [<-e1,<-e2]
theorem YS (o:Nat×Nat) (os:List (Nat×Nat)):Jv (o :: os) (o :: os).length=o.1+Jv os os.length:=by simp [Jv]
theorem Jeo (wd:Nat):∀(cs:List (BA×Int)),(∀c∈cs,Jr wd c)->∀(st:Option Tr) (l:List Held) (inn:Nat) (over:Bool),Book wd st l->
  match JQ cs (l,inn % M64,over) with
  | none=>Xy cs st=.error .input
  | some (l',inn',over')=>∃st' os,Xy cs st=.ok (st',os)/\Book wd st' l'/\inn'=(inn+Jv os os.length) % M64/\(over'=true↔over=true\/M64<=inn % M64+Jv os os.length):=by
 intro cs
 induction cs with
 | nil=>intro _ st l inn over B;exact ⟨st,[],rfl,B,by simp [Jv],by simp [Jv];intro h;exact absurd h (by have:inn % M64<M64:=Nat.mod_lt _ (by decide);omega)⟩
 | cons c r ih=>
  intro hc st l inn over B
  have hw:=B.without (hc c QM)
  simp only [JQ,Xy]
  cases hf:JW l c with
  | none=>rw [hf] at hw;simp only at hw;simp only [hw]
  | some k=>
   rw [hf] at hw
   obtain ⟨st1,e1,B1⟩:=hw
   obtain ⟨hl,_⟩:=YJ hf
   have ha:(l.getD k ((⟨#[]⟩,0),(0,0))).2.1<M64:=by
    simp only [Qn,Qd hl,Option.getD_some]
    exact (B.ok _ (Qx hl)).2.1
   dsimp only
   generalize (l.getD k ((⟨#[]⟩,0),(0,0))).2=o at *
   simp only [e1]
   have:=ih (λc hc'=>hc c (QO _ hc')) st1 (l.eraseIdx k) (inn % M64+o.1) (over || decide ((inn % M64+o.1) % M64<inn % M64)) B1
   cases hs:JQ r (l.eraseIdx k,(inn % M64+o.1) % M64,over || decide ((inn % M64+o.1) % M64<inn % M64)) with
   | none=>rw [hs] at this;simp only at this;simp only [this]
   | some q=>
    obtain ⟨l',inn',over'⟩:=q
    rw [hs] at this
    obtain ⟨st',os,e2,B2,e3,e4⟩:=this
    refine ⟨st',o :: os,by simp only [e2],B2,?_,?_⟩
    ·rw [e3,YS,Nat.add_assoc,Nat.mod_add_mod]
    ·rw [e4,YS,Bool.or_eq_true,decide_eq_true_iff]
     generalize Jv os os.length=S
     have hm:inn % M64<M64:=Nat.mod_lt _ (by decide)
     generalize inn % M64=I at *
     generalize (over=true)=P
     unfold M64 at *
     constructor
     ·rintro ((h | h) | h)
      ·exact .inl h
      ·right;omega
      ·right;omega
     ·rintro (h | h)
      ·exact .inl (.inl h)
      ·by_cases h2:18446744073709551616<=I+o.1
       ·left;right;omega
       ·right;omega
theorem YQ (wd:Nat) (id:BA) (hid:id.size=wd):∀(os:List (Nat×Nat)),(∀o∈os,Jq o)->∀(i:Nat),i+os.length<=3->∀(st:Option Tr) (l:List Held) (out:Nat) (over:Bool),Book wd st l->
  match Ju id i os (l,out % M64,over) with
  | none=>JG id i os st=.error .exist
  | some (l',out',over')=>∃st',JG id i os st=.ok st'/\Book wd st' l'/\out'=(out+Jv os os.length) % M64/\(over'=true↔over=true\/M64<=out % M64+Jv os os.length):=by
 intro os
 induction os with
 | nil=>intro _ i _ st l out over B;exact ⟨st,rfl,B,by simp [Jv],by simp [Jv];intro h;exact absurd h (by have:out % M64<M64:=Nat.mod_lt _ (by decide);omega)⟩
 | cons o r ih=>
  intro ho i hi st l out over B
  rw [Qp] at hi
  have hco:Jr wd (id,(i:Int)):=⟨hid,by simp only;omega,by simp only;omega⟩
  have hw:=B.with hco (ho o QM)
  simp only [Ju,JG]
  cases hf:JW l (id,(i:Int)) with
  | some k=>rw [hf] at hw;simp only at hw;simp only [hw]
  | none=>
   rw [hf] at hw
   obtain ⟨st1,e1,B1⟩:=hw
   have ha:o.1<M64:=(ho o QM).1
   simp only [e1]
   have:=ih (λc hc'=>ho c (QO _ hc')) (i+1) (by omega) st1 (l++[((id,(i:Int)),o)]) (out % M64+o.1) (over || decide ((out % M64+o.1) % M64<out % M64)) B1
   cases hs:Ju id (i+1) r (l++[((id,(i:Int)),o)],(out % M64+o.1) % M64,over || decide ((out % M64+o.1) % M64<out % M64)) with
   | none=>rw [hs] at this;simp only at this;simp only [this]
   | some q=>
    obtain ⟨l',out',over'⟩:=q
    rw [hs] at this
    obtain ⟨st',e2,B2,e3,e4⟩:=this
    refine ⟨st',e2,B2,?_,?_⟩
    ·rw [e3,YS,Nat.add_assoc,Nat.mod_add_mod]
    ·rw [e4,YS,Bool.or_eq_true,decide_eq_true_iff]
     generalize Jv r r.length=S
     have hm:out % M64<M64:=Nat.mod_lt _ (by decide)
     generalize out % M64=I at *
     generalize (over=true)=P
     unfold M64 at *
     constructor
     ·rintro ((h | h) | h)
      ·exact .inl h
      ·right;omega
      ·right;omega
     ·rintro (h | h)
      ·exact .inl (.inl h)
      ·by_cases h2:18446744073709551616<=I+o.1
       ·left;right;omega
       ·right;omega
theorem Jct (wd:Nat) (dg:List UInt8->BA) (hdg:∀l,(dg l).size=wd) (t:TxL) (ht:TxOk wd t) (st:Option Tr) (l:List Held) (B:Book wd st l):
  match JU dg l t with
  | .error e=>JM dg st t=.error e
  | .ok l'=>∃st',JM dg st t=.ok st'/\Book wd st' l':=by
 have h1:=Jeo wd t.1 ht.coins st l 0 false B
 simp only [JU,JM]
 rw [show (0:Nat) % M64=0 from rfl] at h1
 cases hs:JQ t.1 (l,0,false) with
 | none=>rw [hs] at h1;simp only at h1;simp only [h1]
 | some q=>
  obtain ⟨l1,inn,ov⟩:=q
  rw [hs] at h1
  obtain ⟨st1,os,e1,B1,e2,e3⟩:=h1
  simp only [e1]
  have h2:=YQ wd (dg (84 :: txB t)) (hdg _) t.2 ht.outs 0 (by have:=ht.made;omega) st1 l1 0 ov B1
  rw [show (0:Nat) % M64=0 from rfl] at h2
  cases hr:Ju (dg (84 :: txB t)) 0 t.2 (l1,0,ov) with
  | none=>rw [hr] at h2;simp only at h2;simp only [h2]
  | some q=>
   obtain ⟨l2,out,ov2⟩:=q
   rw [hr] at h2
   obtain ⟨st2,e4,B2,e5,e6⟩:=h2
   simp only [e4]
   have hb:(ov2=true\/inn<out)↔Xg os t.2:=by
    rw [e6,e3,e2,e5]
    unfold Xg
    simp only [Nat.zero_add]
    simp only [Bool.false_eq_true,false_or]
    generalize Jv os os.length=A
    generalize Jv t.2 t.2.length=C
    unfold M64
    omega
   by_cases hbs:Xg os t.2
   ·rw [if_pos (hb.2 hbs),if_pos hbs]
   ·rw [if_neg (λh=>hbs (hb.1 h)),if_neg hbs];exact ⟨st2,rfl,B2⟩

def dgW (wd:Nat) (l:List UInt8):ByteArray:=⟨((digL l).take wd).toArray⟩
theorem Jm (wd:Nat) (hw:wd<=32) (l:List UInt8):(dgW wd l).size=wd:=by
 show ((digL l).take wd).toArray.size=wd
 simp [JaL];omega
open Go

section
variable {P:Program} {md:Region.Mode} {Q:Exit->Act->World->Prop}

def YP (md:Region.Mode) (o:Oper):List Nat:=(o.after.toList.filter (Region.binds md)).map (·.on)
def Jhx (md:Region.Mode) (l:List Oper):Nat->List Nat->List Nat
 | 0,D=>D
 | n+1,D=>Jhx md l n ((D++D.flatMap λj=>((l[j]?).map (YP md)).getD []).eraseDups)
def JgO (md:Region.Mode) (l:List Oper) (o:Oper) (n:Nat):Bool:=
 (List.range l.length).all (λj=>(Jhx md l n (YP md o)).contains j) && (YP md o).all (λj=>decide (j<l.length)) &&
 (List.range l.length).all (λi=>((l[i]?).map (λx=>(YP md x).all (λj=>decide (j<i)))).getD true) && l.all (λx=>x.guard.isNone) && o.guard.isNone
theorem XX {o:Oper} {j:Nat}:j∈YP md o↔∃e∈o.after,Region.binds md e=true/\e.on=j:=by
 simp only [YP,List.mem_map,List.mem_filter,Array.mem_toList_iff,and_assoc]
def JeE (md:Region.Mode) (l:List Oper) (listed:Array Bool):Prop:=∀i o,l[i]? =some o->listed.getD i false=true->∀j∈YP md o,listed.getD j false=true
theorem Jao {l:List Oper} {listed:Array Bool} (h:JeE md l listed):∀(n:Nat) (D:List Nat),(∀j∈D,listed.getD j false=true)->∀j∈Jhx md l n D,listed.getD j false=true
 | 0,_,hD=>hD
 | n+1,D,hD=>Jao h n _ (λj hj=>by
   rw [List.mem_eraseDups,List.mem_append,List.mem_flatMap] at hj
   rcases hj with hj | ⟨i,hi,hj⟩
   ·exact hD j hj
   ·cases ho:l[i]? with
    | none=>rw [ho] at hj;simp at hj
    | some o=>rw [ho] at hj;exact h i o ho (hD i hi) j (by simpa using hj))
def Jf7 (P:Program) (ops:Array Oper) (o:Oper) (Q:Exit->Act->World->Prop):Exit->Act->World->Prop
 | .normal,a,w=>wpList P ops Q [o] a w
 | e,a,w=>Q e a w
theorem Yk {listed:Array Bool} {i:Nat} (h:i<listed.size) (d:Bool):(listed.push false).getD i d=listed.getD i d:=by
 simp [Array.getD,h,Array.getElem_push_lt,Nat.lt_succ_of_lt h]
theorem Jez {l:List Oper} {o:Oper} {n:Nat} (hB:JgO md l o n=true):∀(fuel:Nat) (listed:Array Bool) (a:Act) (w:World),listed.size=l.length->JeE md l listed->
  wpAny P md l.toArray (Jf7 P (l++[o]).toArray o Q) fuel listed a w->wpAny P md (l++[o]).toArray Q (fuel+1) (listed.push false) a w:=by
 simp only [JgO,Bool.and_eq_true,List.all_eq_true,List.mem_range,List.contains_iff_mem,decide_eq_true_eq,Option.isNone_iff_eq_none] at hB
 obtain ⟨⟨⟨⟨h1,h2⟩,h3⟩,h4⟩,h5⟩:=hB
 have hlast:∀listed:Array Bool,listed.size=l.length->JeE md l listed->l.length∈Region.ready md (l++[o]).toArray (listed.push false)->∀j<l.length,listed.getD j false=true:=by
  intro listed hs hc hr j hj
  obtain ⟨_,o',ho',hall⟩:=mem_ready.1 hr
  have ho'':o'=o:=by simpa using ho'.symm
  subst ho''
  refine Jao hc n _ (λi hi=>?_) j (h1 j hj)
  obtain ⟨e,he,hb,rfl⟩:=XX.1 hi
  have:=hall e he hb
  rwa [Yk (by rw [hs];exact h2 _ hi)] at this
 have hsame:∀(listed:Array Bool),listed.size=l.length->∀i,i<l.length->(i∈Region.ready md (l++[o]).toArray (listed.push false)↔i∈Region.ready md l.toArray listed):=by
  intro listed hs i hi
  rw [mem_ready,mem_ready,Yk (by omega)]
  have e1:((l++[o]).toArray)[i]? =l.toArray[i]? :=by simp [List.getElem?_append_left hi]
  rw [e1]
  refine and_congr_right λ_=>exists_congr λx=>and_congr_right λhx=>forall_congr' λe=>forall_congr' λhe=>forall_congr' λhb=>?_
  have hx':l[i]? =some x:=by simpa using hx
  have hlt:e.on<i:=by
   have:=h3 i hi
   rw [hx'] at this
   simp only [Option.map_some,Option.getD_some,List.all_eq_true,decide_eq_true_eq] at this
   exact this _ (XX.2 ⟨e,he,hb,rfl⟩)
  rw [Yk (by omega)]
 have hempty:∀(listed:Array Bool),listed.size=l.length->Region.ready md l.toArray listed=[]->∀j<l.length,listed.getD j false=true:=by
  intro listed hs hr j
  induction j using Nat.strongRecOn with
  | _ j ih=>
   intro hj
   cases hd:listed.getD j false with
   | true=>rfl
   | false=>
    exfalso
    have:j∈Region.ready md l.toArray listed:=by
     refine mem_ready.2 ⟨?_,l[j],by simp [hj],λe he hb=>?_⟩
     ·have hj':j<listed.size:=by omega
      simp [Array.getD,hj'] at hd ⊢;exact hd
     ·have hx:=h3 j hj
      rw [List.getElem?_eq_getElem hj] at hx
      simp only [Option.map_some,Option.getD_some,List.all_eq_true,decide_eq_true_eq] at hx
      have:=hx _ (XX.2 ⟨e,he,hb,rfl⟩)
      exact ih _ this (by omega)
    rw [hr] at this;cases this
 have hwO:∀(listed:Array Bool) (i:Nat) (K:Act->World->Prop) (Q':Exit->Act->World->Prop) (a:Act) (w:World),i<l.length->wpOp P l.toArray Q' i K a w->wpOp P (l++[o]).toArray Q' i K a w:=by
  intro listed i K Q' a w hi h
  unfold wpOp at *
  have e1:((l++[o]).toArray)[i]? =l.toArray[i]? :=by simp [List.getElem?_append_left hi]
  rw [e1]
  have e2:l.toArray[i]? =some l[i]:=by simp [hi]
  rw [e2] at h ⊢
  have hg:(l[i]).guard=none:=h4 _ (List.getElem_mem hi)
  simpa only [Region.wanted,hg,if_true] using h
 have hQ:∀(i:Nat) (K:Act->World->Prop) (a:Act) (w:World),wpOp P (l++[o]).toArray (Jf7 P (l++[o]).toArray o Q) i K a w->wpOp P (l++[o]).toArray Q i K a w:=by
  intro i K a w h
  unfold wpOp at *
  split at h
  ·exact h
  ·rename_i x hx
   split at h
   ·rename_i hw
    rw [if_pos hw]
    rcases h with h | ⟨h,hl⟩
    ·refine .inl ?_
     unfold Oper.wp at *
     generalize (execOp a.eval x).run P w=r at *
     cases r with
     | ok nx w'=>
      cases nx <;> simp only [Oper.upon] at h ⊢ <;> first | exact h | exact Calls.mono h (λe w'' he=>by cases e <;> exact he)
     | halt y w'=>cases y <;> simp only [Oper.upon] at h ⊢ <;> exact h
    ·exact .inr ⟨h,hl⟩
   ·rename_i hw;rw [if_neg hw];exact h
 have hk:∀(listed:Array Bool),listed.size=l.length->∀i∈Region.ready md (l++[o]).toArray (listed.push false),i<l.length\/i=l.length:=by
  intro listed hs i hi
  obtain ⟨_,x,hx,_⟩:=mem_ready.1 hi
  have:=(Array.getElem?_eq_some_iff.1 hx).1
  simp at this
  omega
 have hend:∀(fuel:Nat) (listed:Array Bool) (a:Act) (w:World),listed.size=l.length->(∀j<l.length,listed.getD j false=true)->wpList P (l++[o]).toArray Q [o] a w->wpAny P md (l++[o]).toArray Q (fuel+1) (listed.push false) a w:=by
  intro fuel listed a w hs hall h
  have hkr:l.length∈Region.ready md (l++[o]).toArray (listed.push false):=by
   refine mem_ready.2 ⟨?_,o,by simp,λe he hb=>?_⟩
   ·simp [Array.getD,<-hs]
   ·have:=h2 _ (XX.2 ⟨e,he,hb,rfl⟩)
    rw [Yk (by omega)];exact hall _ this
  have honly:∀i∈Region.ready md (l++[o]).toArray (listed.push false),i=l.length:=by
   intro i hi
   rcases hk listed hs i hi with hlt | he
   ·have h0:=(mem_ready.1 hi).1
    rw [Yk (by omega)] at h0
    have:=hall i hlt
    have hj':i<listed.size:=by omega
    simp [Array.getD,hj'] at h0 this
    rw [h0] at this;cases this
   ·exact he
  refine ⟨λh0=>(by rw [h0] at hkr;cases hkr),λi hi=>?_⟩
  have:=honly i hi
  subst this
  have hend2:∀(f:Nat) (a:Act) (w:World),Q .normal a w->wpAny P md (l++[o]).toArray Q f ((listed.push false).setIfInBounds l.length true) a w:=by
   intro f a w hq
   have hnone:Region.ready md (l++[o]).toArray ((listed.push false).setIfInBounds l.length true)=[]:=by
    cases hr:Region.ready md (l++[o]).toArray ((listed.push false).setIfInBounds l.length true) with
    | nil=>rfl
    | cons i t=>
     exfalso
     have hi':i∈Region.ready md (l++[o]).toArray ((listed.push false).setIfInBounds l.length true):=by rw [hr];exact List.mem_cons_self
     obtain ⟨h0,x,hx,_⟩:=mem_ready.1 hi'
     have hlt:=(Array.getElem?_eq_some_iff.1 hx).1
     simp at hlt
     by_cases hil:i=l.length
     ·subst hil;simp [Array.getD,<-hs] at h0
     ·rw [getD_set_ne true (λe=>hil e.symm),Yk (by omega)] at h0
      have:=hall i (by omega)
      have hj':i<listed.size:=by omega
      simp [Array.getD,hj'] at h0 this
      rw [h0] at this;cases this
   cases f with
   | zero=>exact ⟨hnone,hq⟩
   | succ f=>exact ⟨λ_=>hq,by rw [hnone];intro i hi;cases hi⟩
  unfold wpOp
  have e2:((l++[o]).toArray)[l.length]? =some o:=by simp
  rw [e2]
  simp only [wpList] at h
  simp only [Region.wanted,h5,if_true] at h ⊢
  rcases h with h | h
  ·exact .inl (Oper.wp_mono (λa w hq=>hend2 fuel a w hq) h)
  ·exact .inr h
 intro fuel
 induction fuel with
 | zero=>
  intro listed a w hs hc h
  exact hend 0 listed a w hs (hempty listed hs h.1) h.2
 | succ fuel ih=>
  intro listed a w hs hc h
  by_cases hne:Region.ready md l.toArray listed=[]
  ·exact hend (fuel+1) listed a w hs (hempty listed hs hne) (h.1 hne)
  ·refine ⟨λh0=>?_,λi hi=>?_⟩
   ·exfalso
    cases hr:Region.ready md l.toArray listed with
    | nil=>exact hne hr
    | cons j t=>
     have hj:j∈Region.ready md l.toArray listed:=by rw [hr];exact List.mem_cons_self
     have hlt:j<l.length:=by
      obtain ⟨_,x,hx,_⟩:=mem_ready.1 hj
      simpa using (Array.getElem?_eq_some_iff.1 hx).1
     have:=(hsame listed hs j hlt).2 hj
     rw [h0] at this;cases this
   ·rcases hk listed hs i hi with hlt | he
    ·have hi':=(hsame listed hs i hlt).1 hi
     have hw:=h.2 i hi'
     have hset:(listed.push false).setIfInBounds i true=(listed.setIfInBounds i true).push false:=by
      apply Array.ext_getElem?
      intro j
      simp only [Array.getElem?_setIfInBounds,Array.getElem?_push,Array.size_setIfInBounds,Array.size_push]
      by_cases hji:i=j
      ·subst hji;simp [hs,hlt,Nat.lt_succ_of_lt hlt,Nat.ne_of_lt hlt]
      ·simp [hji]
     have hc':JeE md l (listed.setIfInBounds i true):=by
      intro m x hx hm j hj
      by_cases hmi:m=i
      ·subst hmi
       obtain ⟨_,x',hx',hall⟩:=mem_ready.1 hi'
       have:x'=x:=by
        have:l[m]? =some x':=by simpa using hx'
        rw [hx] at this;exact (Option.some.inj this).symm
       subst this
       obtain ⟨e,he,hb,rfl⟩:=XX.1 hj
       exact getD_set_true (hall e he hb)
      ·rw [getD_set_ne false (λe=>hmi e.symm)] at hm
       exact getD_set_true (hc m x hx hm j hj)
     refine hQ i _ a w (hwO listed i _ _ a w hlt (wpOp_mono (λa' w' h'=>?_) hw))
     rw [hset]
     exact ih _ a' w' (by simp [hs]) hc' h'
    ·subst he
     have:=hlast listed hs hc hi
     exfalso
     apply hne
     cases hr:Region.ready md l.toArray listed with
     | nil=>rfl
     | cons j t=>
      have hj:j∈Region.ready md l.toArray listed:=by rw [hr];exact List.mem_cons_self
      obtain ⟨h0,x,hx,_⟩:=mem_ready.1 hj
      have hlt:j<l.length:=by simpa using (Array.getElem?_eq_some_iff.1 hx).1
      have h':=this j hlt
      have hj':j<listed.size:=by omega
      simp [Array.getD,hj'] at h0 h'
      rw [h0] at h';cases h'
theorem Jbw (n:Nat):(Array.replicate n false).push false=Array.replicate (n+1) false:=by rw [Array.replicate_succ]

variable {S:World->Prop}
theorem XA {id:Nat} {a:Act} {w:World} {L:List Oper} (n:Nat) (hne:L ≠ []) (hm:P.follows .mixedOrders=true) (hB:JgO .any L.dropLast (L.getLast hne) n=true) (hS:S w.drew)
  (h:S w.drew->∀l o,L.dropLast=l->L.getLast hne=o->wpAnyH P .any l.toArray (Jf7 P L.toArray o Q) S l.length (Array.replicate l.length false) a w.drew):(Code.region id L.toArray true).wp P Q a w:=by
 refine wp_region_any hm ?_
 have e:L=L.dropLast++[L.getLast hne]:=(List.dropLast_concat_getLast hne).symm
 have h1:=wpAny_of_held _ _ _ _ (h hS _ _ rfl rfl)
 have h2:=Jez (Q:=Q) hB L.dropLast.length (Array.replicate L.dropLast.length false) a w.drew (by simp) (λi o _ hi=>by simp [Array.getD] at hi) (by rw [<-e];exact h1)
 rw [<-e,Jbw] at h2
 have hl:L.dropLast.length+1=L.toArray.size:=by
  have:=congrArg List.length e
  simpa using this.symm
 rw [hl] at h2
 exact h2
theorem Jjv {l:List Oper} {md:Region.Mode} {i:Nat} {oi:Oper} {v:Value} {fuel:Nat} {listed:Array Bool} {a:Act} {w:World} (hi:l[i]? =some oi)
  (hs:Region.noSelect l.toArray=true) (hf:Region.free md l.toArray listed i=true) (hr:(Region.ready md l.toArray listed).contains i=true)
  (hQ:∀c a w,Q (.panic c) (a.put oi.dst v) w->Q (.panic c) a w) (hg:oi.guard=none) (hy:∀w,S w->(execOp a.eval oi).run P w=.ok (.value v) w) (hS:S w)
  (h:wpAnyH P md l.toArray Q S fuel (listed.setIfInBounds i true) (a.put oi.dst v) w):wpAnyH P md l.toArray Q S (fuel+1) listed a w:=
 wpAnyH_take (by simpa using hi) hs hf hr hQ (.inl ⟨by simp [Region.wanted,hg],hy⟩) hS h
theorem tkL {l:List Oper} {md:Region.Mode} (i:Nat) {oi:Oper} {v:Value} {fuel:Nat} {listed:Array Bool} {a:Act} {w:World} (h:wpAnyH P md l.toArray Q S fuel (listed.setIfInBounds i true) (a.put oi.dst v) w) (hi:l[i]? =some oi:=by rfl) (hs:Region.noSelect l.toArray=true:=by kernel_rfl) (hf:Region.free md l.toArray listed i=true:=by kernel_rfl) (hr:(Region.ready md l.toArray listed).contains i=true:=by kernel_rfl)
  (hQ:∀c a w,Q (.panic c) (a.put oi.dst v) w->Q (.panic c) a w:=by exact λ_ _ _ h=>h) (hg:oi.guard=none:=by rfl) (hy:∀w,S w->(execOp a.eval oi).run P w=.ok (.value v) w:=by intro W hSW;(try dsimp only at hSW);go_simp;(try with_reducible rfl)) (hS:S w:=by first | assumption | trivial):wpAnyH P md l.toArray Q S (fuel+1) listed a w:=Jjv hi hs hf hr hQ hg hy hS h
theorem Zi {l:List Oper} {md:Region.Mode} {i:Nat} {oi:Oper} {fuel:Nat} {listed:Array Bool} {a:Act} {w:World} (hi:l[i]? =some oi) (hr:Region.ready md l.toArray listed=[i])
  (h:∀K:Act->World->Prop,Shut (∀a w,S w->(S w->wpAnyH P md l.toArray Q S fuel (listed.setIfInBounds i true) a w)->K a w)->if Region.wanted oi (yielded l.toArray a.tmps)=true then Oper.wp P oi a w K Q else K (a.put oi.dst undef) w):wpAnyH P md l.toArray Q S (fuel+1) listed a w:=
 wpAnyH_ready hr (by simp) (AllReadyH.cons (o:=oi) (by simpa using hi) h AllReadyH.nil)
end


def Tr.dig (d:List UInt8->BA):Tr->BA
 | ⟨.inl (k,o)⟩=>d (76 :: (k++outB o))
 | ⟨.inr (b,l,r)⟩=>d (78 :: (beL b 2 2++((l.dig d).data.toList++(r.dig d).data.toList)))
def JT (d:List UInt8->BA):Option Tr->BA
 | none=>d [69]
 | some t=>t.dig d
abbrev Ch:=List (BA×Option Tr)
def Ch.last (ch:Ch):BA×Option Tr:=ch.getLastD (⟨#[]⟩,none)
def XQ (d:List UInt8->BA) (ch:Ch) (body:List UInt8) (st:BA):HdL:=(ch.length,d (72 :: ch.last.1.data.toList),d (66 :: body),st)
def JdI (d:List UInt8->BA) (wd:Nat) (ch:Ch) (ts:List TxL):Except Er (List UInt8):=
 match (PS.wr []).body wd ts with
 | some (_,⟨.inr body⟩)=>match JC d ch.last.2 ts with
  | .error e=>.error e
  | .ok st=>match (PS.wr []).hdr wd (XQ d ch body (JT d st)) with
   | some (_,⟨.inr h⟩)=>.ok (h++body)
   | _=>.error .form
 | _=>.error .form
def JY (d:List UInt8->BA) (wd:Nat) (ch:Ch) (text:List UInt8):Except Er Ch:=
 match (PS.rd [] text).hdr wd (0,⟨#[]⟩,⟨#[]⟩,⟨#[]⟩) with
 | some (h,⟨.inl (pre,body)⟩)=>match (PS.rd pre body).body wd [] with
  | some (ts,⟨.inl (_,[])⟩)=>if h ≠ XQ d ch body h.2.2.2 then .error .tip else match JC d ch.last.2 ts with
   | .error e=>.error e
   | .ok st=>if h.2.2.2 ≠ JT d st then .error .root else .ok (ch++[(⟨(text.take (text.length - body.length)).toArray⟩,st)])
  | _=>.error .form
 | _=>.error .form
theorem Xs (d:List UInt8->BA) (wd:Nat) (hd:∀l,(d l).size=wd) (st:Option Tr):(JT d st).size=wd:=by
 cases st with
 | none=>exact hd _
 | some t=>cases t using Tr.ri <;> exact hd _
def JN (d:List UInt8->BA) (ch:Ch) (ts:List TxL) (st:Option Tr):List UInt8:=hdrB (XQ d ch (Jz ts) (JT d st))++Jz ts
theorem Zj (d:List UInt8->BA) (wd:Nat) (hd:∀l,(d l).size=wd) (ch:Ch) (hc:ch.length<2 ^ 32) (body:List UInt8) (st:Option Tr):HdOk wd (XQ d ch body (JT d st)):=
 ⟨hc,hd _,hd _,Xs d wd hd st⟩
theorem JcU (d:List UInt8->BA) (wd:Nat) (hd:∀l,(d l).size=wd) (ch:Ch) (hc:ch.length<2 ^ 32) (ts:List TxL) (h:∀t∈ts,TxOk wd t) (h3:ts.length<=3):
  JdI d wd ch ts=match JC d ch.last.2 ts with | .error e=>.error e | .ok st=>.ok (JN d ch ts st):=by
 unfold JdI
 rw [(Zv wd ts h h3).wr]
 dsimp only
 rw [List.nil_append]
 cases JC d ch.last.2 ts with
 | error e=>rfl
 | ok st=>
  dsimp only
  rw [(JaB wd _ (0,⟨#[]⟩,⟨#[]⟩,⟨#[]⟩) (Zj d wd hd ch hc (Jz ts) st)).wr]
  rfl
theorem Je0 (ts:List TxL):1<=(Jz ts).length:=by unfold Jz;rw [Qe,Jg];omega
theorem JaK (d:List UInt8->BA) (wd:Nat) (hd:∀l,(d l).size=wd) (ch:Ch) (hc:ch.length<2 ^ 32) (ts:List TxL) (h:∀t∈ts,TxOk wd t) (h3:ts.length<=3) (st:Option Tr) (ha:JC d ch.last.2 ts=.ok st):
  JY d wd ch (JN d ch ts st)=.ok (ch++[(⟨(hdrB (XQ d ch (Jz ts) (JT d st))).toArray⟩,st)]):=by
 have hb:=Zv wd ts h h3
 have hh:=JaB wd _ (0,⟨#[]⟩,⟨#[]⟩,⟨#[]⟩) (Zj d wd hd ch hc (Jz ts) st)
 unfold JY JN
 rw [hh.rd]
 dsimp only
 have:=hb.rd ([]++hdrB (XQ d ch (Jz ts) (JT d st))) []
 rw [QC] at this
 rw [this]
 dsimp only
 rw [if_neg (by simp [XQ]),ha]
 dsimp only
 rw [if_neg (by simp [XQ])]
 simp
theorem JeZ (d:List UInt8->BA) (wd:Nat) (hd:∀l,(d l).size=wd) (ch0 ch:Ch) (hc:ch0.length<2 ^ 32) (ts:List TxL) (h:∀t∈ts,TxOk wd t) (h3:ts.length<=3) (st:Option Tr):
  JY d wd ch ((JN d ch0 ts st).take ((JN d ch0 ts st).length - 1))=.error .form:=by
 have hb:=Zv wd ts h h3
 have hh:=JaB wd _ (0,⟨#[]⟩,⟨#[]⟩,⟨#[]⟩) (Zj d wd hd ch0 hc (Jz ts) st)
 have h1:=Je0 ts
 have e:(JN d ch0 ts st).take ((JN d ch0 ts st).length - 1)=hdrB (XQ d ch0 (Jz ts) (JT d st))++(Jz ts).take ((Jz ts).length - 1):=by
  unfold JN
  rw [List.take_append,Qe,QQ (by omega)]
  congr 2;omega
 unfold JY
 rw [e,hh.rd]
 dsimp only
 rw [hb.cut _ _ (by omega)]
theorem Jd0 (d:List UInt8->BA) (wd:Nat) (hd:∀l,(d l).size=wd) (ch0 ch:Ch) (hc:ch0.length<2 ^ 32) (ts:List TxL) (h:∀t∈ts,TxOk wd t) (h3:ts.length<=3) (st:Option Tr) (x:UInt8):
  JY d wd ch (JN d ch0 ts st++[x])=.error .form:=by
 have hb:=Zv wd ts h h3
 have hh:=JaB wd _ (0,⟨#[]⟩,⟨#[]⟩,⟨#[]⟩) (Zj d wd hd ch0 hc (Jz ts) st)
 unfold JY JN
 rw [Qs,hh.rd]
 dsimp only
 rw [hb.rd]
theorem Jdb (d:List UInt8->BA) (wd:Nat) (hd:∀l,(d l).size=wd) (ch0 ch:Ch) (hc:ch0.length<2 ^ 32) (ts:List TxL) (h:∀t∈ts,TxOk wd t) (h3:ts.length<=3) (st:Option Tr) (hne:ch.length ≠ ch0.length):
  JY d wd ch (JN d ch0 ts st)=.error .tip:=by
 have hb:=Zv wd ts h h3
 have hh:=JaB wd _ (0,⟨#[]⟩,⟨#[]⟩,⟨#[]⟩) (Zj d wd hd ch0 hc (Jz ts) st)
 unfold JY JN
 rw [hh.rd]
 dsimp only
 have:=hb.rd ([]++hdrB (XQ d ch0 (Jz ts) (JT d st))) []
 rw [QC] at this
 rw [this]
 dsimp only
 rw [if_pos]
 intro e
 exact hne (congrArg Prod.fst e).symm
def Xu (dg:List UInt8->BA):List Held->List TxL->Except Er (List Held)
 | l,[]=>.ok l
 | l,t :: r=>match JU dg l t with
  | .error e=>.error e
  | .ok l1=>Xu dg l1 r
