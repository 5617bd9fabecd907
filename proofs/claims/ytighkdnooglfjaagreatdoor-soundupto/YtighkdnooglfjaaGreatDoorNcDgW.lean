import Derived.Test.YtighkdnooglfjaaGreatDoorNcSt
import Derived.Deep.RegionHeld3
import Derived.RangeFuncCalls
import Derived.OrdersIn
namespace Go.Proofs.YtighkdnooglfjaaGreatDoor

def dgW (wd:Nat) (l:List UInt8):ByteArray:=⟨((digL l).take wd).toArray⟩
theorem Jp (wd:Nat) (hw:wd<=32) (l:List UInt8):(dgW wd l).size=wd:=by
 show ((digL l).take wd).toArray.size=wd
 simp [JbF];omega


abbrev Er:=Fin 7
abbrev Er.form:Er:=0
abbrev Er.tip:Er:=1
abbrev Er.input:Er:=2
abbrev Er.exist:Er:=3
abbrev Er.sum:Er:=4
abbrev Er.root:Er:=5
abbrev Er.range:Er:=6
theorem Er.on {motive:Er->Prop} (form:motive .form) (tip:motive .tip) (input:motive .input) (exist:motive .exist) (sum:motive .sum) (root:motive .root) (range:motive .range):∀e,motive e
 | 0=>form
 | 1=>tip
 | 2=>input
 | 3=>exist
 | 4=>sum
 | 5=>root
 | 6=>range
def JdM (l1 l2:List (Nat×Nat)):Decidable (Xq l1 l2):=by unfold Xq;infer_instance

def Yy (st:Option Tr) (k:Key) (o:Nat×Nat):Except Er (Option Tr):=
 match st with
 | none=>.ok (some (.leaf k o))
 | some t=>if (t.near k).1=k then .error .exist else .ok (some (t.graft k o (fd (t.near k).1 k)))
def JQ (st:Option Tr) (k:Key):Except Er (Option Tr×(Nat×Nat)):=
 match st with
 | none=>.error .input
 | some t=>if (t.near k).1=k then .ok (t.cut k,(t.near k).2) else .error .input
def XN:List (BA×Int)->Option Tr->Except Er (Option Tr×List (Nat×Nat))
 | [],st=>.ok (st,[])
 | c :: r,st=>match JQ st (Jd c) with
  | .error e=>.error e
  | .ok (st1,o)=>match XN r st1 with
   | .error e=>.error e
   | .ok (st2,os)=>.ok (st2,o :: os)
def JP (id:BA):Nat->List (Nat×Nat)->Option Tr->Except Er (Option Tr)
 | _,[],st=>.ok st
 | i,o :: r,st=>match Yy st (Jd (id,(i:Int))) o with
  | .error e=>.error e
  | .ok st1=>JP id (i+1) r st1
def JU (dg:List UInt8->BA) (st:Option Tr) (t:TxL):Except Er (Option Tr):=
 match XN t.1 st with
 | .error e=>.error e
 | .ok (st1,os)=>match JP (dg (84 :: txB t)) 0 t.2 st1 with
  | .error e=>.error e
  | .ok st2=>haveI:=JdM os t.2;if Xq os t.2 then .error .sum else .ok st2
def JR (dg:List UInt8->BA):Option Tr->List TxL->Except Er (Option Tr)
 | st,[]=>.ok st
 | st,t :: r=>match JU dg st t with
  | .error e=>.error e
  | .ok st1=>JR dg st1 r

abbrev Held:=(BA×Int)×(Nat×Nat)
def JW (l:List Held) (c:BA×Int):Option Nat:=l.findIdx? (λh=>decide (h.1=c))
def M64:Nat:=18446744073709551616
def JZ:List (BA×Int)->List Held×Nat×Bool->Option (List Held×Nat×Bool)
 | [],s=>some s
 | c :: r,(now,inn,over)=>match JW now c with
  | none=>none
  | some k=>JZ r (now.eraseIdx k,(inn+(now.getD k ((⟨#[]⟩,0),(0,0))).2.1) % M64,over || decide ((inn+(now.getD k ((⟨#[]⟩,0),(0,0))).2.1) % M64<inn))
def JE (id:BA):Nat->List (Nat×Nat)->List Held×Nat×Bool->Option (List Held×Nat×Bool)
 | _,[],s=>some s
 | i,o :: r,(now,out,over)=>match JW now (id,(i:Int)) with
  | some _=>none
  | none=>JE id (i+1) r (now++[((id,(i:Int)),o)],(out+o.1) % M64,over || decide ((out+o.1) % M64<out))
def Xf (dg:List UInt8->BA) (l:List Held) (t:TxL):Except Er (List Held):=
 match JZ t.1 (l,0,false) with
 | none=>.error .input
 | some (now,inn,over)=>match JE (dg (84 :: txB t)) 0 t.2 (now,0,over) with
  | none=>.error .exist
  | some (now2,out,over2)=>if over2=true\/inn<out then .error .sum else .ok now2

structure Book (wd:Nat) (st:Option Tr) (l:List Held):Prop where
 wf:∀t,st=some t->t.Wf
 ok:∀h∈l,Jk wd h.1/\Jr h.2
 nodup:(l.map (·.1)).Nodup
 mem:∀k o,(k,o)∈JY st↔∃h∈l,Jd h.1=k/\h.2=o
theorem Jdd {wd:Nat} {c d:BA×Int} (h1:Jk wd c) (h2:Jk wd d) (h:Jd c=Jd d):c=d:=by
 obtain ⟨a1,a2,a3⟩:=h1
 obtain ⟨b1,b2,b3⟩:=h2
 unfold Jd at h
 obtain ⟨e1,e2⟩:=List.append_inj h (by simp only [QA];exact a1.trans b1.symm)
 have x1:=Yv c.2 a2 (by omega)
 have x2:=Yv d.2 b2 (by omega)
 have y:∀n,n<256->numL (beL n 1 1)=n:=λn hn=>by rw [JaV n 1 (by omega) 1 (Ql _)];simp
 have e3:JC c.2=JC d.2:=by rw [<-y (JC c.2) (by omega),<-y (JC d.2) (by omega),e2]
 have e4:c.2=d.2:=by rw [<-x1,<-x2,e3]
 have e5:c.1=d.1:=by
  have:c.1.data=d.1.data:=by rw [<-Array.toList_inj];exact e1
  cases hc:c.1;cases hd:d.1;rw [hc,hd] at this;simp only at this;rw [this]
 exact Prod.ext e5 e4
theorem XY {wd:Nat} {c:BA×Int} (h:Jk wd c):(Jd c).length=wd+1:=by
 unfold Jd;rw [Qe,Jg];have:=h.1;simp only [QA];show c.1.data.size+1=_;rw [<-this];rfl
theorem YR {l:List Held} {c:BA×Int} {k:Nat} (h:JW l c=some k):∃hk:k<l.length,l[k].1=c:=by
 unfold JW at h
 rw [List.findIdx?_eq_some_iff_getElem] at h
 obtain ⟨hk,h1,_⟩:=h
 exact ⟨hk,by simpa using h1⟩
theorem Jce {l:List Held} {c:BA×Int} (h:JW l c=none):∀x∈l,x.1 ≠ c:=by
 unfold JW at h
 rw [List.findIdx?_eq_none_iff] at h
 intro x hx;simpa using h x hx
theorem JhR {l:List Held} (hn:(l.map (·.1)).Nodup) {k:Nat} (hk:k<l.length):∀x,x∈l.eraseIdx k↔x∈l/\x.1 ≠ l[k].1:=by
 intro x
 have inj:∀(i j:Nat) (hi:i<l.length) (hj:j<l.length),l[i].1=l[j].1->i=j:=by
  intro i j hi hj e
  have:=(List.getElem_inj (i:=i) (j:=j) (h₀:=by simpa using hi) (h₁:=by simpa using hj) hn).1 (by simpa using e)
  exact this
 rw [List.mem_eraseIdx_iff_getElem]
 constructor
 ·rintro ⟨i,hi,hne,rfl⟩
  exact ⟨Qx hi,λe=>hne (inj i k hi hk e)⟩
 ·rintro ⟨hx,hne⟩
  obtain ⟨i,hi,rfl⟩:=List.getElem_of_mem hx
  exact ⟨i,hi,λe=>hne (by subst e;rfl),rfl⟩
theorem Book.find {wd:Nat} {st:Option Tr} {l:List Held} (B:Book wd st l) {c:BA×Int} (hc:Jk wd c) {t:Tr} (ht:st=some t):(t.near (Jd c)).1=Jd c↔∃k,JW l c=some k:=by
 subst ht
 constructor
 ·intro h
  have hm:=t.near_mem (Jd c)
  have:((t.near (Jd c)).1,(t.near (Jd c)).2)∈JY (some t):=hm
  rw [h] at this
  obtain ⟨x,hx,h1,h2⟩:=(B.mem _ _).1 this
  cases hf:JW l c with
  | some k=>exact ⟨k,rfl⟩
  | none=>exact absurd (Jdd (B.ok x hx).1 hc h1) (Jce hf x hx)
 ·rintro ⟨k,hk⟩
  obtain ⟨hl,e⟩:=YR hk
  have:(Jd c,l[k].2)∈JY (some t):=(B.mem _ _).2 ⟨l[k],Qx hl,by rw [e],rfl⟩
  rw [Tr.near_of_mem _ _ t (B.wf t rfl) this]
theorem Book.none {wd:Nat} {l:List Held} (B:Book wd Option.none l):l=[]:=by
 cases l with
 | nil=>rfl
 | cons x r=>exact absurd ((B.mem (Jd x.1) x.2).2 ⟨x,QM,rfl,rfl⟩) (by simp [JY])
theorem Book.without {wd:Nat} {st:Option Tr} {l:List Held} (B:Book wd st l) {c:BA×Int} (hc:Jk wd c):
  match JW l c with
  | .none=>JQ st (Jd c)=.error .input
  | .some k=>∃st',JQ st (Jd c)=.ok (st',(l.getD k ((⟨#[]⟩,0),(0,0))).2)/\Book wd st' (l.eraseIdx k):=by
 cases st with
 | none=>
  obtain rfl:=B.none
  rfl
 | some t=>
  have hf:=B.find hc rfl
  cases h:JW l c with
  | none=>
   simp only [JQ]
   rw [if_neg]
   rw [hf];rintro ⟨k,hk⟩;rw [h] at hk;cases hk
  | some k=>
   obtain ⟨hl,e⟩:=YR h
   have hn:(t.near (Jd c)).1=Jd c:=hf.2 ⟨k,h⟩
   have hm:(Jd c,l[k].2)∈JY (some t):=(B.mem _ _).2 ⟨l[k],Qx hl,by rw [e],rfl⟩
   have hnear:=Tr.near_of_mem _ _ t (B.wf t rfl) hm
   obtain ⟨g1,g2,g3⟩:=Tr.cut_ok (Jd c) t (B.wf t rfl) hn
   have hi:=JhR B.nodup hl
   refine ⟨t.cut (Jd c),?_,⟨g1,λx hx=>B.ok x ((hi x).1 hx).1,?_,λk' o=>?_⟩⟩
   ·simp only [JQ]
    rw [if_pos hn,hnear]
    simp [List.getD_eq_getElem?_getD,List.getElem?_eq_getElem hl]
   ·exact B.nodup.sublist ((List.eraseIdx_sublist l k).map _)
   ·rw [g2]
    show (k',o)∈JY (some t)/\_↔_
    rw [B.mem]
    constructor
    ·rintro ⟨⟨x,hx,h1,h2⟩,h3⟩
     exact ⟨x,(hi x).2 ⟨hx,λe'=>h3 (by simp only;rw [<-h1,e',e])⟩,h1,h2⟩
    ·rintro ⟨x,hx,h1,h2⟩
     obtain ⟨hx1,hx2⟩:=(hi x).1 hx
     exact ⟨⟨x,hx1,h1,h2⟩,λe'=>hx2 (by rw [e];simp only at e';exact Jdd (B.ok x hx1).1 hc (h1.trans e'))⟩
theorem Book.with {wd:Nat} {st:Option Tr} {l:List Held} (B:Book wd st l) {c:BA×Int} (hc:Jk wd c) {o:Nat×Nat} (ho:Jr o):
  match JW l c with
  | .some _=>Yy st (Jd c) o=.error .exist
  | .none=>∃st',Yy st (Jd c) o=.ok st'/\Book wd st' (l++[(c,o)]):=by
 have hok:JW l c=Option.none->∀x∈l++[(c,o)],Jk wd x.1/\Jr x.2:=by
  intro _ x hx
  rw [QE,Qt] at hx
  rcases hx with hx | rfl
  ·exact B.ok x hx
  ·exact ⟨hc,ho⟩
 have hnd:JW l c=Option.none->((l++[(c,o)]).map (·.1)).Nodup:=by
  intro hf
  rw [List.map_append,List.nodup_append]
  refine ⟨B.nodup,by simp,?_⟩
  intro a ha b hb e
  simp only [List.map_cons,List.map_nil,Qt] at hb
  subst hb
  subst e
  obtain ⟨x,hx,hxe⟩:=QK.1 ha
  exact Jce hf x hx hxe
 cases st with
 | none=>
  obtain rfl:=B.none
  refine ⟨_,rfl,⟨λt ht=>by simp only [Qh] at ht;rw [<-ht];exact trivial,hok rfl,hnd rfl,λk o'=>?_⟩⟩
  simp only [JY,Tr.coins,Qt,List.nil_append,Qw]
  constructor
  ·rintro ⟨rfl,rfl⟩;exact ⟨_,rfl,rfl,rfl⟩
  ·rintro ⟨x,rfl,h1,h2⟩;exact ⟨h1.symm,h2.symm⟩
 | some t=>
  have hf:=B.find hc rfl
  cases h:JW l c with
  | some k=>
   simp only [Yy]
   rw [if_pos (hf.2 ⟨k,h⟩)]
  | none=>
   have hn:(t.near (Jd c)).1 ≠ Jd c:=by rw [ne_eq,hf];rintro ⟨k,hk⟩;rw [h] at hk;cases hk
   have hm:=t.near_mem (Jd c)
   obtain ⟨x,hx,h1,h2⟩:=(B.mem (t.near (Jd c)).1 (t.near (Jd c)).2).1 hm
   have hlen:(t.near (Jd c)).1.length=(Jd c).length:=by rw [<-h1,XY (B.ok x hx).1,XY hc]
   obtain ⟨q1,q2,q3⟩:=Jjd (t.near (Jd c)).1 (Jd c) hlen hn
   obtain ⟨g1,g2,g3⟩:=Tr.graft_ok (Jd c) o (fd (t.near (Jd c)).1 (Jd c)) t (B.wf t rfl) (λe=>q2 e.symm) (λi hi=>(q3 i hi).symm)
   refine ⟨some (t.graft (Jd c) o (fd (t.near (Jd c)).1 (Jd c))),?_,⟨λt' ht=>by simp only [Qh] at ht;rw [<-ht];exact g1,hok h,hnd h,λk o'=>?_⟩⟩
   ·simp only [Yy];rw [if_neg hn]
   ·simp only [JY,g2]
    have:=B.mem k o'
    simp only [JY] at this
    rw [this]
    constructor
    ·rintro (e | ⟨y,hy,e1,e2⟩)
     ·cases e;exact ⟨(c,o),by simp,rfl,rfl⟩
     ·exact ⟨y,by simp [hy],e1,e2⟩
    ·rintro ⟨y,hy,e1,e2⟩
     rw [QE,Qt] at hy
     rcases hy with hy | rfl
     ·exact .inr ⟨y,hy,e1,e2⟩
     ·left;rw [<-e1,<-e2]
theorem ZL (o:Nat×Nat) (os:List (Nat×Nat)):JG (o :: os) (o :: os).length=o.1+JG os os.length:=by simp [JG]
theorem Jgf (wd:Nat):∀(cs:List (BA×Int)),(∀c∈cs,Jk wd c)->∀(st:Option Tr) (l:List Held) (inn:Nat) (over:Bool),Book wd st l->
  match JZ cs (l,inn % M64,over) with
  | none=>XN cs st=.error .input
  | some (l',inn',over')=>∃st' os,XN cs st=.ok (st',os)/\Book wd st' l'/\inn'=(inn+JG os os.length) % M64/\(over'=true↔over=true\/M64<=inn % M64+JG os os.length):=by
 intro cs
 induction cs with
 | nil=>intro _ st l inn over B;exact ⟨st,[],rfl,B,by simp [JG],by simp [JG];intro h;exact absurd h (by have:inn % M64<M64:=Nat.mod_lt _ (by decide);omega)⟩
 | cons c r ih=>
  intro hc st l inn over B
  have hw:=B.without (hc c QM)
  simp only [JZ,XN]
  cases hf:JW l c with
  | none=>rw [hf] at hw;simp only at hw;simp only [hw]
  | some k=>
   rw [hf] at hw
   obtain ⟨st1,e1,B1⟩:=hw
   obtain ⟨hl,_⟩:=YR hf
   have ha:(l.getD k ((⟨#[]⟩,0),(0,0))).2.1<M64:=by
    simp only [Qn,Qd hl,Option.getD_some]
    exact (B.ok _ (Qx hl)).2.1
   dsimp only
   generalize (l.getD k ((⟨#[]⟩,0),(0,0))).2=o at *
   simp only [e1]
   have:=ih (λc hc'=>hc c (QO _ hc')) st1 (l.eraseIdx k) (inn % M64+o.1) (over || decide ((inn % M64+o.1) % M64<inn % M64)) B1
   cases hs:JZ r (l.eraseIdx k,(inn % M64+o.1) % M64,over || decide ((inn % M64+o.1) % M64<inn % M64)) with
   | none=>rw [hs] at this;simp only at this;simp only [this]
   | some q=>
    obtain ⟨l',inn',over'⟩:=q
    rw [hs] at this
    obtain ⟨st',os,e2,B2,e3,e4⟩:=this
    refine ⟨st',o :: os,by simp only [e2],B2,?_,?_⟩
    ·rw [e3,ZL,Nat.add_assoc,Nat.mod_add_mod]
    ·rw [e4,ZL,Bool.or_eq_true,decide_eq_true_iff]
     generalize JG os os.length=S
     have hm:inn % M64<M64:=Nat.mod_lt _ (by decide)
     generalize inn % M64=I at *
     generalize (over=true)=P
     unfold M64 at *
     constructor
     ·rintro ((h | h) | h)
      ·exact .inl h
      ·right;omega
      ·right;omega
     ·rintro (h | h)
      ·exact .inl (.inl h)
      ·by_cases h2:18446744073709551616<=I+o.1
       ·left;right;omega
       ·right;omega
theorem ZJ (wd:Nat) (id:BA) (hid:id.size=wd):∀(os:List (Nat×Nat)),(∀o∈os,Jr o)->∀(i:Nat),i+os.length<=3->∀(st:Option Tr) (l:List Held) (out:Nat) (over:Bool),Book wd st l->
  match JE id i os (l,out % M64,over) with
  | none=>JP id i os st=.error .exist
  | some (l',out',over')=>∃st',JP id i os st=.ok st'/\Book wd st' l'/\out'=(out+JG os os.length) % M64/\(over'=true↔over=true\/M64<=out % M64+JG os os.length):=by
 intro os
 induction os with
 | nil=>intro _ i _ st l out over B;exact ⟨st,rfl,B,by simp [JG],by simp [JG];intro h;exact absurd h (by have:out % M64<M64:=Nat.mod_lt _ (by decide);omega)⟩
 | cons o r ih=>
  intro ho i hi st l out over B
  rw [Qp] at hi
  have hco:Jk wd (id,(i:Int)):=⟨hid,by simp only;omega,by simp only;omega⟩
  have hw:=B.with hco (ho o QM)
  simp only [JE,JP]
  cases hf:JW l (id,(i:Int)) with
  | some k=>rw [hf] at hw;simp only at hw;simp only [hw]
  | none=>
   rw [hf] at hw
   obtain ⟨st1,e1,B1⟩:=hw
   have ha:o.1<M64:=(ho o QM).1
   simp only [e1]
   have:=ih (λc hc'=>ho c (QO _ hc')) (i+1) (by omega) st1 (l++[((id,(i:Int)),o)]) (out % M64+o.1) (over || decide ((out % M64+o.1) % M64<out % M64)) B1
   cases hs:JE id (i+1) r (l++[((id,(i:Int)),o)],(out % M64+o.1) % M64,over || decide ((out % M64+o.1) % M64<out % M64)) with
   | none=>rw [hs] at this;simp only at this;simp only [this]
   | some q=>
    obtain ⟨l',out',over'⟩:=q
    rw [hs] at this
    obtain ⟨st',e2,B2,e3,e4⟩:=this
    refine ⟨st',e2,B2,?_,?_⟩
    ·rw [e3,ZL,Nat.add_assoc,Nat.mod_add_mod]
    ·rw [e4,ZL,Bool.or_eq_true,decide_eq_true_iff]
     generalize JG r r.length=S
     have hm:out % M64<M64:=Nat.mod_lt _ (by decide)
     generalize out % M64=I at *
     generalize (over=true)=P
     unfold M64 at *
     constructor
     ·rintro ((h | h) | h)
      ·exact .inl h
      ·right;omega
      ·right;omega
     ·rintro (h | h)
      ·exact .inl (.inl h)
      ·by_cases h2:18446744073709551616<=I+o.1
       ·left;right;omega
       ·right;omega
theorem JdJ (wd:Nat) (dg:List UInt8->BA) (hdg:∀l,(dg l).size=wd) (t:TxL) (ht:TxOk wd t) (st:Option Tr) (l:List Held) (B:Book wd st l):
  match Xf dg l t with
  | .error e=>JU dg st t=.error e
  | .ok l'=>∃st',JU dg st t=.ok st'/\Book wd st' l':=by
 have h1:=Jgf wd t.1 ht.coins st l 0 false B
 simp only [Xf,JU]
 rw [show (0:Nat) % M64=0 from rfl] at h1
 cases hs:JZ t.1 (l,0,false) with
 | none=>rw [hs] at h1;simp only at h1;simp only [h1]
 | some q=>
  obtain ⟨l1,inn,ov⟩:=q
  rw [hs] at h1
  obtain ⟨st1,os,e1,B1,e2,e3⟩:=h1
  simp only [e1]
  have h2:=ZJ wd (dg (84 :: txB t)) (hdg _) t.2 ht.outs 0 (by have:=ht.made;omega) st1 l1 0 ov B1
  rw [show (0:Nat) % M64=0 from rfl] at h2
  cases hr:JE (dg (84 :: txB t)) 0 t.2 (l1,0,ov) with
  | none=>rw [hr] at h2;simp only at h2;simp only [h2]
  | some q=>
   obtain ⟨l2,out,ov2⟩:=q
   rw [hr] at h2
   obtain ⟨st2,e4,B2,e5,e6⟩:=h2
   simp only [e4]
   have hb:(ov2=true\/inn<out)↔Xq os t.2:=by
    rw [e6,e3,e2,e5]
    unfold Xq
    simp only [Nat.zero_add]
    simp only [Bool.false_eq_true,false_or]
    generalize JG os os.length=A
    generalize JG t.2 t.2.length=C
    unfold M64
    omega
   by_cases hbs:Xq os t.2
   ·rw [if_pos (hb.2 hbs),if_pos hbs]
   ·rw [if_neg (λh=>hbs (hb.1 h)),if_neg hbs];exact ⟨st2,rfl,B2⟩


def Tr.dig (d:List UInt8->BA):Tr->BA
 | ⟨.inl (k,o)⟩=>d (76 :: (k++outB o))
 | ⟨.inr (b,l,r)⟩=>d (78 :: (beL b 2 2++((l.dig d).data.toList++(r.dig d).data.toList)))
def Xg (d:List UInt8->BA):Option Tr->BA
 | none=>d [69]
 | some t=>t.dig d
abbrev Ch:=List (BA×Option Tr)
def Ch.last (ch:Ch):BA×Option Tr:=ch.getLastD (⟨#[]⟩,none)
def Zc (d:List UInt8->BA) (ch:Ch) (body:List UInt8) (st:BA):HdL:=(ch.length,d (72 :: ch.last.1.data.toList),d (66 :: body),st)
def Jfh (d:List UInt8->BA) (wd:Nat) (ch:Ch) (ts:List TxL):Except Er (List UInt8):=
 match (PS.wr []).body wd ts with
 | some (_,⟨.inr body⟩)=>match JR d ch.last.2 ts with
  | .error e=>.error e
  | .ok st=>match (PS.wr []).hdr wd (Zc d ch body (Xg d st)) with
   | some (_,⟨.inr h⟩)=>.ok (h++body)
   | _=>.error .form
 | _=>.error .form
def Yu (d:List UInt8->BA) (wd:Nat) (ch:Ch) (text:List UInt8):Except Er Ch:=
 match (PS.rd [] text).hdr wd (0,⟨#[]⟩,⟨#[]⟩,⟨#[]⟩) with
 | some (h,⟨.inl (pre,body)⟩)=>match (PS.rd pre body).body wd [] with
  | some (ts,⟨.inl (_,[])⟩)=>if h ≠ Zc d ch body h.2.2.2 then .error .tip else match JR d ch.last.2 ts with
   | .error e=>.error e
   | .ok st=>if h.2.2.2 ≠ Xg d st then .error .root else .ok (ch++[(⟨(text.take (text.length - body.length)).toArray⟩,st)])
  | _=>.error .form
 | _=>.error .form
theorem XW (d:List UInt8->BA) (wd:Nat) (hd:∀l,(d l).size=wd) (st:Option Tr):(Xg d st).size=wd:=by
 cases st with
 | none=>exact hd _
 | some t=>cases t using Tr.ri <;> exact hd _
def Yb (d:List UInt8->BA) (ch:Ch) (ts:List TxL) (st:Option Tr):List UInt8:=hdrB (Zc d ch (Xe ts) (Xg d st))++Xe ts
theorem Je3 (d:List UInt8->BA) (wd:Nat) (hd:∀l,(d l).size=wd) (ch:Ch) (hc:ch.length<2 ^ 32) (body:List UInt8) (st:Option Tr):HdOk wd (Zc d ch body (Xg d st)):=
 ⟨hc,hd _,hd _,XW d wd hd st⟩
theorem Jg0 (d:List UInt8->BA) (wd:Nat) (hd:∀l,(d l).size=wd) (ch:Ch) (hc:ch.length<2 ^ 32) (ts:List TxL) (h:∀t∈ts,TxOk wd t) (h3:ts.length<=3):
  Jfh d wd ch ts=match JR d ch.last.2 ts with | .error e=>.error e | .ok st=>.ok (Yb d ch ts st):=by
 unfold Jfh
 rw [(Jeb wd ts h h3).wr]
 dsimp only
 rw [List.nil_append]
 cases JR d ch.last.2 ts with
 | error e=>rfl
 | ok st=>
  dsimp only
  rw [(Jec wd _ (0,⟨#[]⟩,⟨#[]⟩,⟨#[]⟩) (Je3 d wd hd ch hc (Xe ts) st)).wr]
  rfl
theorem Jey (d:List UInt8->BA) (wd:Nat) (hd:∀l,(d l).size=wd) (ch:Ch) (hc:ch.length<2 ^ 32) (ts:List TxL) (h:∀t∈ts,TxOk wd t) (h3:ts.length<=3) (st:Option Tr) (ha:JR d ch.last.2 ts=.ok st):
  Yu d wd ch (Yb d ch ts st)=.ok (ch++[(⟨(hdrB (Zc d ch (Xe ts) (Xg d st))).toArray⟩,st)]):=by
 have hb:=Jeb wd ts h h3
 have hh:=Jec wd _ (0,⟨#[]⟩,⟨#[]⟩,⟨#[]⟩) (Je3 d wd hd ch hc (Xe ts) st)
 unfold Yu Yb
 rw [hh.rd]
 dsimp only
 have:=hb.rd ([]++hdrB (Zc d ch (Xe ts) (Xg d st))) []
 rw [QC] at this
 rw [this]
 dsimp only
 rw [if_neg (by simp [Zc]),ha]
 dsimp only
 rw [if_neg (by simp [Zc])]
 simp
def XH (dg:List UInt8->BA):List Held->List TxL->Except Er (List Held)
 | l,[]=>.ok l
 | l,t :: r=>match Xf dg l t with
  | .error e=>.error e
  | .ok l1=>XH dg l1 r
open Go.RowKit

def RdOk {α:Type} (f:PS->Option (α×PS)) (Ok:α->Prop) (m:Nat):Prop:=∀q r y p',f (.rd q r)=some (y,p')->∃b r',b.length<=m/\r=b++r'/\p'=.rd (q++b) r'/\Ok y
theorem YU (x k:Nat):RdOk (PS.num x k) (λn=>n<256 ^ k) k:=by
 intro q r y p' h
 simp only [PS.num] at h
 split at h
 ·rename_i hk
  cases h
  refine ⟨r.take k,r.drop k,by simp;omega,(List.take_append_drop k r).symm,rfl,?_⟩
  have:=Jas (r.take k)
  rwa [QB,Nat.min_eq_left hk] at this
 ·cases h
theorem Jba (s:List UInt8) (k:Nat):RdOk (PS.txt s k) (λt=>t.length=k) k:=by
 intro q r y p' h
 simp only [PS.txt] at h
 split at h
 ·rename_i hk
  cases h
  exact ⟨r.take k,r.drop k,by simp;omega,(List.take_append_drop k r).symm,rfl,by simp;omega⟩
 ·cases h
theorem RdOk.bind {α β:Type} {f:PS->Option (α×PS)} {g:α->PS->Option (β×PS)} {h:PS->Option (β×PS)} {A:α->Prop} {B:β->Prop} {m n:Nat} (hf:RdOk f A m) (hg:∀a,A a->RdOk (g a) B n) (hh:∀p y p',h p=some (y,p')->∃a p1,f p=some (a,p1)/\g a p1=some (y,p')):RdOk h B (m+n):=by
 intro q r y p' e
 obtain ⟨a,p1,e1,e2⟩:=hh _ _ _ e
 obtain ⟨b,r1,l1,rfl,rfl,ha⟩:=hf _ _ _ _ e1
 obtain ⟨b2,r2,l2,rfl,rfl,hb⟩:=hg a ha _ _ _ _ e2
 exact ⟨b++b2,r2,by rw [Qe];omega,by rw [Qs],by rw [Qs],hb⟩
theorem RdOk.mono {α:Type} {f:PS->Option (α×PS)} {A B:α->Prop} {m n:Nat} (h:RdOk f A m) (hab:∀a,A a->B a) (hmn:m<=n):RdOk f B n:=by
 intro q r y p' e
 obtain ⟨b,r1,l1,e1,e2,ha⟩:=h _ _ _ _ e
 exact ⟨b,r1,by omega,e1,e2,hab _ ha⟩
theorem RdOk.ret {α:Type} (y:α) {A:α->Prop} (h:A y):RdOk (λp=>some (y,p)) A 0:=by
 intro q r z p' e
 cases e
 exact ⟨[],r,Ql _,rfl,by rw [QC],h⟩
theorem JjN (a o:Nat):RdOk (PS.out a o) Jr 9:=by
 refine RdOk.bind (n:=1) (YU a 8) (g:=λn p=>(p.num o 1).bind λq=>some ((n,q.1),q.2)) (λn hn=>?_) ?_
 ·refine RdOk.bind (n:=0) (YU o 1) (g:=λk p=>some ((n,k),p)) (λk hk=>RdOk.ret (n,k) ⟨by simpa using hn,by simpa using hk⟩) ?_
  intro p y p' e
  cases h1:p.num o 1 with
  | none=>rw [h1] at e;cases e
  | some r=>rw [h1] at e;cases e;exact ⟨_,_,rfl,rfl⟩
 ·intro p y p' e
  unfold PS.out at e
  cases h1:p.num a 8 with
  | none=>rw [h1] at e;cases e
  | some r=>
   obtain ⟨n,p1⟩:=r
   rw [h1] at e
   dsimp only at e
   refine ⟨n,p1,rfl,?_⟩
   cases h2:p1.num o 1 with
   | none=>rw [h2] at e;cases e
   | some r2=>obtain ⟨k,p2⟩:=r2;rw [h2] at e;cases e;rfl
theorem Jh1 (wd:Nat) (c:BA×Int):RdOk (PS.coin wd c) (Jk wd) (wd+1):=by
 intro q r y p' e
 unfold PS.coin at e
 cases h1:(PS.rd q r).txt c.1.data.toList wd with
 | none=>rw [h1] at e;cases e
 | some r1=>
  obtain ⟨t,p1⟩:=r1
  rw [h1] at e
  dsimp only at e
  obtain ⟨b,r',l1,rfl,rfl,ht⟩:=Jba _ _ _ _ _ _ h1
  cases h2:(PS.rd (q++b) r').num (JC c.2) 1 with
  | none=>rw [h2] at e;cases e
  | some r2=>
   obtain ⟨m,p2⟩:=r2
   rw [h2] at e
   dsimp only at e
   obtain ⟨b2,r2',l2,rfl,rfl,hm⟩:=YU _ _ _ _ _ _ h2
   split at e
   ·rename_i h3
    cases e
    exact ⟨b++b2,r2',by rw [Qe];omega,by rw [Qs],by rw [Qs],by show t.toArray.size=_;simpa using ht,by show (0:Int)<=(m:Int);omega,by show (m:Int)<3;omega⟩
   ·cases e
theorem Jf9 (wd:Nat):∀(l:List (BA×Int)),RdOk (PS.coins wd l) (λys=>ys.length=l.length/\∀y∈ys,Jk wd y) (l.length * (wd+1)):=by
 intro l
 induction l with
 | nil=>rw [Qv,Nat.zero_mul];exact RdOk.ret [] ⟨rfl,λ_ h=>by cases h⟩
 | cons x r ih=>
  refine (RdOk.bind (B:=λys=>ys.length=r.length+1/\∀y∈ys,Jk wd y) (n:=r.length * (wd+1)) (Jh1 wd x) (g:=λy p=>(PS.coins wd r p).bind λq=>some (y :: q.1,q.2)) (λy hy=>?_) ?_).mono (λ_ h=>h) (by rw [Qp,Nat.succ_mul];omega)
  ·have:=RdOk.bind (n:=0) (h:=λp=>(PS.coins wd r p).bind λq=>some (y :: q.1,q.2)) ih (g:=λys p=>some (y :: ys,p)) (B:=λys=>ys.length=r.length+1/\∀y∈ys,Jk wd y) (λys hys=>RdOk.ret (y :: ys) ⟨by simp [hys.1],λz hz=>by rcases List.mem_cons.1 hz with rfl | hz;exact hy;exact hys.2 z hz⟩) (λp z p' e=>by
    cases h1:PS.coins wd r p with
    | none=>rw [h1] at e;cases e
    | some r=>rw [h1] at e;cases e;exact ⟨_,_,rfl,rfl⟩)
   rwa [Nat.add_zero] at this
  ·intro p z p' e
   unfold PS.coins at e
   cases h1:p.coin wd x with
   | none=>rw [h1] at e;cases e
   | some r1=>
    obtain ⟨y,p1⟩:=r1
    rw [h1] at e
    dsimp only at e
    refine ⟨y,p1,rfl,?_⟩
    cases h2:PS.coins wd r p1 with
    | none=>rw [h2] at e;cases e
    | some r2=>obtain ⟨ys,p2⟩:=r2;rw [h2] at e;cases e;rfl
theorem Jh2:∀(l:List (Nat×Nat)),RdOk (PS.outs l) (λys=>ys.length=l.length/\∀y∈ys,Jr y) (l.length * 9):=by
 intro l
 induction l with
 | nil=>rw [Qv,Nat.zero_mul];exact RdOk.ret [] ⟨rfl,λ_ h=>by cases h⟩
 | cons x r ih=>
  refine (RdOk.bind (B:=λys=>ys.length=r.length+1/\∀y∈ys,Jr y) (n:=r.length * 9) (JjN x.1 x.2) (g:=λy p=>(PS.outs r p).bind λq=>some (y :: q.1,q.2)) (λy hy=>?_) ?_).mono (λ_ h=>h) (by rw [Qp,Nat.succ_mul];omega)
  ·have:=RdOk.bind (n:=0) (h:=λp=>(PS.outs r p).bind λq=>some (y :: q.1,q.2)) ih (g:=λys p=>some (y :: ys,p)) (B:=λys=>ys.length=r.length+1/\∀y∈ys,Jr y) (λys hys=>RdOk.ret (y :: ys) ⟨by simp [hys.1],λz hz=>by rcases List.mem_cons.1 hz with rfl | hz;exact hy;exact hys.2 z hz⟩) (λp z p' e=>by
    cases h1:PS.outs r p with
    | none=>rw [h1] at e;cases e
    | some r=>rw [h1] at e;cases e;exact ⟨_,_,rfl,rfl⟩)
   rwa [Nat.add_zero] at this
  ·intro p z p' e
   unfold PS.outs at e
   cases h1:p.out x.1 x.2 with
   | none=>rw [h1] at e;cases e
   | some r1=>
    obtain ⟨y,p1⟩:=r1
    rw [h1] at e
    dsimp only at e
    refine ⟨y,p1,rfl,?_⟩
    cases h2:PS.outs r p1 with
    | none=>rw [h2] at e;cases e
    | some r2=>obtain ⟨ys,p2⟩:=r2;rw [h2] at e;cases e;rfl
theorem JcI (n:Nat):(YC [] n).length=n:=by simp [YC]
theorem JcJ (n:Nat):(YD [] n).length=n:=by simp [YD]
theorem Jga (wd least:Nat) (hw:wd<=32):RdOk (PS.listC wd least 3 []) (λys=>least<=ys.length/\ys.length<=3/\∀y∈ys,Jk wd y) 100:=by
 refine (RdOk.bind (n:=99) (YU 0 1) (g:=λcnt p=>if cnt<least\/3<cnt then none else PS.coins wd (YC [] cnt) p) (λcnt _=>?_) ?_).mono (λ_ h=>h) (by omega)
 ·by_cases h:cnt<least\/3<cnt
  ·intro q r y p' e;simp only [if_pos h] at e;cases e
  ·simp only [if_neg h]
   refine (Jf9 wd (YC [] cnt)).mono (λys hy=>?_) ?_
   ·rw [JcI] at hy;exact ⟨by omega,by omega,hy.2⟩
   ·rw [JcI];have:cnt * (wd+1)<=3 * 33:=Nat.mul_le_mul (by omega) (by omega);omega
 ·intro p y p' e
  unfold PS.listC at e
  cases h1:p.num ([]:List (BA×Int)).length 1 with
  | none=>rw [h1] at e;cases e
  | some r1=>obtain ⟨cnt,p1⟩:=r1;rw [h1] at e;exact ⟨cnt,p1,rfl,e⟩
theorem Jgb:RdOk (PS.listO 0 3 []) (λys=>ys.length<=3/\∀y∈ys,Jr y) 28:=by
 refine (RdOk.bind (n:=27) (YU 0 1) (g:=λcnt p=>if cnt<0\/3<cnt then none else PS.outs (YD [] cnt) p) (λcnt _=>?_) ?_).mono (λ_ h=>h) (by omega)
 ·by_cases h:cnt<0\/3<cnt
  ·intro q r y p' e;simp only [if_pos h] at e;cases e
  ·simp only [if_neg h]
   refine (Jh2 (YD [] cnt)).mono (λys hy=>?_) ?_
   ·rw [JcJ] at hy;exact ⟨by omega,hy.2⟩
   ·rw [JcJ];omega
 ·intro p y p' e
  unfold PS.listO at e
  cases h1:p.num ([]:List (Nat×Nat)).length 1 with
  | none=>rw [h1] at e;cases e
  | some r1=>obtain ⟨cnt,p1⟩:=r1;rw [h1] at e;exact ⟨cnt,p1,rfl,e⟩
theorem JkZ (wd:Nat) (hw:wd<=32):RdOk (PS.tx wd ([],[])) (TxOk wd) 128:=by
 refine RdOk.bind (n:=28) (Jga wd 1 hw) (g:=λys p=>(p.listO 0 3 []).bind λq=>some ((ys,q.1),q.2)) (λys hy=>?_) ?_
 ·refine RdOk.bind (n:=0) Jgb (g:=λzs p=>some ((ys,zs),p)) (λzs hz=>RdOk.ret (ys,zs) ⟨hy.2.2,hz.2,hy.1,hy.2.1,hz.1⟩) ?_
  intro p y p' e
  cases h1:p.listO 0 3 [] with
  | none=>rw [h1] at e;cases e
  | some r=>rw [h1] at e;cases e;exact ⟨_,_,rfl,rfl⟩
 ·intro p y p' e
  unfold PS.tx at e
  cases h1:p.listC wd 1 3 [] with
  | none=>rw [h1] at e;cases e
  | some r=>
   obtain ⟨ys,p1⟩:=r
   rw [h1] at e
   dsimp only at e
   refine ⟨ys,p1,rfl,?_⟩
   cases h2:p1.listO 0 3 [] with
   | none=>rw [h2] at e;cases e
   | some r2=>obtain ⟨k,p2⟩:=r2;rw [h2] at e;cases e;rfl
theorem JjO (wd:Nat) (hw:wd<=32):∀n,RdOk (PS.txs wd (List.replicate n ([],[]))) (λys=>ys.length=n/\∀y∈ys,TxOk wd y) (n * 128):=by
 intro n
 induction n with
 | zero=>rw [Nat.zero_mul];exact RdOk.ret [] ⟨rfl,λ_ h=>by cases h⟩
 | succ n ih=>
  rw [List.replicate_succ]
  refine (RdOk.bind (B:=λys=>ys.length=n+1/\∀y∈ys,TxOk wd y) (n:=n * 128) (JkZ wd hw) (g:=λy p=>(PS.txs wd (List.replicate n ([],[])) p).bind λq=>some (y :: q.1,q.2)) (λy hy=>?_) ?_).mono (λ_ h=>h) (by omega)
  ·have:=RdOk.bind (n:=0) (h:=λp=>(PS.txs wd (List.replicate n ([],[])) p).bind λq=>some (y :: q.1,q.2)) ih (g:=λys p=>some (y :: ys,p)) (B:=λys=>ys.length=n+1/\∀y∈ys,TxOk wd y) (λys hys=>RdOk.ret (y :: ys) ⟨by simp [hys.1],λz hz=>by rcases List.mem_cons.1 hz with rfl | hz;exact hy;exact hys.2 z hz⟩) (λp z p' e=>by
    cases h1:PS.txs wd (List.replicate n ([],[])) p with
    | none=>rw [h1] at e;cases e
    | some r=>rw [h1] at e;cases e;exact ⟨_,_,rfl,rfl⟩)
   rwa [Nat.add_zero] at this
  ·intro p z p' e
   unfold PS.txs at e
   cases h1:p.tx wd ([],[]) with
   | none=>rw [h1] at e;cases e
   | some r1=>
    obtain ⟨y,p1⟩:=r1
    rw [h1] at e
    dsimp only at e
    refine ⟨y,p1,rfl,?_⟩
    cases h2:PS.txs wd (List.replicate n ([],[])) p1 with
    | none=>rw [h2] at e;cases e
    | some r2=>obtain ⟨ys,p2⟩:=r2;rw [h2] at e;cases e;rfl
theorem Jau (wd:Nat) (hw:wd<=32):RdOk (PS.body wd []) (λts=>ts.length<=3/\∀t∈ts,TxOk wd t) 385:=by
 refine RdOk.bind (m:=1) (n:=384) (YU 0 1) (g:=λcnt p=>if 3<cnt then none else PS.txs wd (ZK [] cnt) p) (λcnt _=>?_) ?_
 ·by_cases h:3<cnt
  ·intro q r y p' e;simp only [if_pos h] at e;cases e
  ·simp only [if_neg h]
   exact (JjO wd hw cnt).mono (λys hy=>⟨by omega,hy.2⟩) (by omega)
 ·intro p y p' e
  unfold PS.body at e
  cases h1:p.num ([]:List TxL).length 1 with
  | none=>rw [h1] at e;cases e
  | some r1=>obtain ⟨cnt,p1⟩:=r1;rw [h1] at e;exact ⟨cnt,p1,rfl,e⟩
theorem Jcp (wd:Nat) (hw:wd<=32) (z:HdL):RdOk (PS.hdr wd z) (HdOk wd) 100:=by
 intro q r y p' e
 unfold PS.hdr at e
 cases h1:(PS.rd q r).num z.1 4 with
 | none=>rw [h1] at e;cases e
 | some r1=>
  obtain ⟨n,p1⟩:=r1
  rw [h1] at e
  dsimp only at e
  obtain ⟨b1,s1,l1,rfl,rfl,k1⟩:=YU _ _ _ _ _ _ h1
  cases h2:(PS.rd (q++b1) s1).txt z.2.1.data.toList wd with
  | none=>rw [h2] at e;cases e
  | some r2=>
   obtain ⟨t2,p2⟩:=r2
   rw [h2] at e
   dsimp only at e
   obtain ⟨b2,s2,l2,rfl,rfl,k2⟩:=Jba _ _ _ _ _ _ h2
   cases h3:(PS.rd (q++b1++b2) s2).txt z.2.2.1.data.toList wd with
   | none=>rw [h3] at e;cases e
   | some r3=>
    obtain ⟨t3,p3⟩:=r3
    rw [h3] at e
    dsimp only at e
    obtain ⟨b3,s3,l3,rfl,rfl,k3⟩:=Jba _ _ _ _ _ _ h3
    cases h4:(PS.rd (q++b1++b2++b3) s3).txt z.2.2.2.data.toList wd with
    | none=>rw [h4] at e;cases e
    | some r4=>
     obtain ⟨t4,p4⟩:=r4
     rw [h4] at e
     dsimp only at e
     obtain ⟨b4,s4,l4,rfl,rfl,k4⟩:=Jba _ _ _ _ _ _ h4
     cases e
     refine ⟨b1++b2++b3++b4,s4,by simp only [Qe];omega,by simp only [Qs],by simp only [Qs],?_⟩
     exact ⟨by simpa using k1,(List.size_toArray).trans k2,(List.size_toArray).trans k3,(List.size_toArray).trans k4⟩

def Tr.text (d:List UInt8->BA):Tr->List UInt8
 | ⟨.inl (k,o)⟩=>76 :: (k++outB o)
 | ⟨.inr (b,l,r)⟩=>78 :: (beL b 2 2++((l.dig d).data.toList++(r.dig d).data.toList))
theorem Tr.dig_text (d:List UInt8->BA) (t:Tr):t.dig d=d (t.text d):=by cases t using Tr.ri <;> rfl
def Jl3 (d:List UInt8->BA):Option Tr->List UInt8
 | none=>[69]
 | some t=>t.text d
theorem Jgg (d:List UInt8->BA) (st:Option Tr):Xg d st=d (Jl3 d st):=by
 cases st with
 | none=>rfl
 | some t=>exact t.dig_text d
abbrev KO:=Key×(Nat×Nat)

abbrev Stp:=Nat×BA
abbrev Wy:=List Stp×Option KO
def Tr.way (d:List UInt8->BA) (k:Key):Tr->List Stp×KO
 | ⟨.inl (k',o)⟩=>([],(k',o))
 | ⟨.inr (b,l,r)⟩=>if bt k b=0 then (((b,r.dig d) :: (l.way d k).1),(l.way d k).2) else (((b,l.dig d) :: (r.way d k).1),(r.way d k).2)
def Ye (d:List UInt8->BA) (k:Key):Option Tr->Wy
 | none=>([],none)
 | some t=>((t.way d k).1,some (t.way d k).2)
def JT:Option KO->List UInt8
 | none=>[69]
 | some (k,o)=>76 :: (k++outB o)
def JV (w:Wy):Key:=match w.2 with | none=>[] | some (k,_)=>k
def JD (d:List UInt8->BA) (key:Key) (e:List UInt8):List Stp->List (List UInt8)
 | []=>[e]
 | (b,oth) :: r=>(78 :: (beL b 2 2++(if bt key b=0 then (d ((JD d key e r).headD [])).data.toList++oth.data.toList else oth.data.toList++(d ((JD d key e r).headD [])).data.toList))) :: JD d key e r
def Wy.nodes (d:List UInt8->BA) (w:Wy):List (List UInt8):=JD d (JV w) (JT w.2) w.1
theorem Tr.way_near (d:List UInt8->BA) (k:Key) (t:Tr):(t.way d k).2=t.near k:=by
 induction t using Tr.ri with
 | leaf=>rfl
 | br b l r ihl ihr=>simp only [way,near];split <;> assumption
theorem Tr.way_bits (d:List UInt8->BA) (k:Key) (t:Tr) (hw:t.Wf):∀s∈(t.way d k).1,bt (t.near k).1 s.1=bt k s.1:=by
 induction t using Tr.ri with
 | leaf=>intro s hs;cases hs
 | br b l r ihl ihr=>
  obtain ⟨w1,w2,h0,h1,_⟩:=hw
  have k2:=YA k b
  intro s hs
  simp only [way] at hs
  simp only [near]
  split at hs <;> rename_i hz
  ·simp only [hz,if_true]
   simp only [List.mem_cons] at hs
   rcases hs with rfl | hs
   ·have:=h0 _ (near_mem k l);simp only;omega
   ·exact ihl w1 s hs
  ·simp only [hz,if_false]
   simp only [List.mem_cons] at hs
   rcases hs with rfl | hs
   ·have:=h1 _ (near_mem k r);simp only;omega
   ·exact ihr w2 s hs
theorem Xh (d:List UInt8->BA) (key:Key) (e:List UInt8) (l:List Stp):(JD d key e l).length=l.length+1:=by
 induction l with
 | nil=>rfl
 | cons s r ih=>obtain ⟨b,o⟩:=s;simp [JD,ih]
theorem Tr.way_root (d:List UInt8->BA) (k:Key) (t:Tr) (hw:t.Wf) (key:Key) (hk:∀s∈(t.way d k).1,bt key s.1=bt k s.1):(JD d key (JT (some (t.way d k).2)) (t.way d k).1).headD []=t.text d:=by
 induction t using Tr.ri with
 | leaf=>rfl
 | br b l r ihl ihr=>
  obtain ⟨w1,w2,h0,h1,_⟩:=hw
  have k2:=YA k b
  simp only [way] at hk ⊢
  split
  ·rename_i hz
   simp only [hz,if_true] at hk
   have hb:=hk (b,r.dig d) (by simp)
   simp only at hb
   have:=ihl w1 (λs hs=>hk s (by simp [hs]))
   simp only [JD,List.headD_cons]
   rw [hb,this,if_pos hz,<-Tr.dig_text d l];rfl
  ·rename_i hz
   simp only [hz,if_false] at hk
   have hb:=hk (b,l.dig d) (by simp)
   simp only at hb
   have:=ihr w2 (λs hs=>hk s (by simp [hs]))
   simp only [JD,List.headD_cons]
   rw [hb,this,if_neg hz,<-Tr.dig_text d r];rfl
def Wy.said (w:Wy) (k:Key):Option (Nat×Nat):=match w.2 with | none=>none | some (k',o)=>if k'=k then some o else none
structure Wy.Holds (d:List UInt8->BA) (k:Key) (state:BA) (w:Wy):Prop where
 bits:∀s∈w.1,bt k s.1=bt (JV w) s.1
 small:∀s∈w.1,s.1<65536
 wide:∀s∈w.1,∀l,s.2.size=(d l).size
 bare:w.2=none->w.1=[]
 key:w.2 ≠ none->(JV w).length=k.length
 root:d ((w.nodes d).headD [])=state
def Yj:List (List UInt8)->List (List UInt8)->Option (List UInt8×List UInt8)
 | x :: a,y :: b=>if x=y then Yj a b else some (x,y)
 | _,_=>none
theorem Ji3 {a b:Nat} (ha:a<65536) (hb:b<65536) (h:beL a 2 2=beL b 2 2):a=b:=by
 have y:∀n,n<65536->numL (beL n 2 2)=n:=λn hn=>by rw [JaV n 2 (by omega) 2 (Ql _)];simp
 rw [<-y a ha,<-y b hb,h]
theorem JfJ {a b:BA} (h:a.data.toList=b.data.toList):a=b:=by
 cases a;cases b;simp only at h;rw [Array.toList_inj] at h;rw [h]
theorem Jd6 (d:List UInt8->BA) (wd:Nat) (hd:∀l,(d l).size=wd) (k:Key) (k1 k2:Key) (e1 e2:List UInt8) (he1:e1.head? ≠ some 78) (he2:e2.head? ≠ some 78):∀(l1 l2:List Stp),
  (∀s∈l1,bt k s.1=bt k1 s.1/\s.1<65536/\s.2.size=wd)->(∀s∈l2,bt k s.1=bt k2 s.1/\s.1<65536/\s.2.size=wd)->d ((JD d k1 e1 l1).headD [])=d ((JD d k2 e2 l2).headD [])->
  (∃x y,Yj (JD d k1 e1 l1) (JD d k2 e2 l2)=some (x,y)/\x ≠ y/\d x=d y)\/(Yj (JD d k1 e1 l1) (JD d k2 e2 l2)=none/\l1.length=l2.length/\e1=e2):=by
 intro l1
 induction l1 with
 | nil=>
  intro l2 _ h2 hr
  cases l2 with
  | nil=>
   simp only [JD,List.headD_cons] at hr
   simp only [JD,Yj]
   by_cases he:e1=e2
   ·right;rw [if_pos he];exact ⟨by trivial,by trivial,he⟩
   ·left;rw [if_neg he];exact ⟨_,_,rfl,he,hr⟩
  | cons s r=>
   obtain ⟨b,o⟩:=s
   left
   simp only [JD,List.headD_cons] at hr
   simp only [JD,Yj]
   have hne:e1 ≠ 78 :: (beL b 2 2++(if bt k2 b=0 then (d ((JD d k2 e2 r).headD [])).data.toList++o.data.toList else o.data.toList++(d ((JD d k2 e2 r).headD [])).data.toList)):=by
    intro h;rw [h] at he1;exact he1 rfl
   rw [if_neg hne]
   exact ⟨_,_,rfl,hne,hr⟩
 | cons s l1 ih=>
  obtain ⟨b,o⟩:=s
  intro l2 h1 h2 hr
  cases l2 with
  | nil=>
   left
   simp only [JD,List.headD_cons] at hr
   simp only [JD,Yj]
   have hne:¬(78 :: (beL b 2 2++(if bt k1 b=0 then (d ((JD d k1 e1 l1).headD [])).data.toList++o.data.toList else o.data.toList++(d ((JD d k1 e1 l1).headD [])).data.toList)))=e2:=by
    intro h;rw [<-h] at he2;exact he2 rfl
   rw [if_neg hne]
   exact ⟨_,_,rfl,hne,hr⟩
  | cons s' l2=>
   obtain ⟨b',o'⟩:=s'
   obtain ⟨a1,a2,a3⟩:=h1 (b,o) (by simp)
   obtain ⟨c1,c2,c3⟩:=h2 (b',o') (by simp)
   simp only at a1 a2 a3 c1 c2 c3
   generalize hX:(78 :: (beL b 2 2++(if bt k1 b=0 then (d ((JD d k1 e1 l1).headD [])).data.toList++o.data.toList else o.data.toList++(d ((JD d k1 e1 l1).headD [])).data.toList)))=X
   generalize hY:(78 :: (beL b' 2 2++(if bt k2 b'=0 then (d ((JD d k2 e2 l2).headD [])).data.toList++o'.data.toList else o'.data.toList++(d ((JD d k2 e2 l2).headD [])).data.toList)))=Y
   have eX:JD d k1 e1 ((b,o) :: l1)=X :: JD d k1 e1 l1:=by rw [<-hX];rfl
   have eY:JD d k2 e2 ((b',o') :: l2)=Y :: JD d k2 e2 l2:=by rw [<-hY];rfl
   rw [eX,eY] at hr ⊢
   simp only [List.headD_cons] at hr
   simp only [Yj]
   by_cases hXY:X=Y
   ·rw [if_pos hXY]
    rw [<-hX,<-hY,QH] at hXY
    obtain ⟨_,hXY⟩:=hXY
    obtain ⟨hb,hs⟩:=List.append_inj hXY (by rw [Jg,Jg])
    obtain rfl:=Ji3 a2 c2 hb
    have sz:∀x:BA,x.data.toList.length=x.size:=λx=>by simp only [QA];rfl
    have hdd:d ((JD d k1 e1 l1).headD [])=d ((JD d k2 e2 l2).headD []):=by
     rw [<-a1,<-c1] at hs
     split at hs
     ·exact JfJ (List.append_inj hs (by rw [sz,sz,hd,hd])).1
     ·exact JfJ (List.append_inj hs (by rw [sz,sz,a3,c3])).2
    have:=ih l2 (λs hs=>h1 s (by simp [hs])) (λs hs=>h2 s (by simp [hs])) hdd
    rcases this with ⟨x,y,q1,q2,q3⟩ | ⟨q1,q2,q3⟩
    ·exact .inl ⟨x,y,q1,q2,q3⟩
    ·exact .inr ⟨q1,by simp [q2],q3⟩
   ·rw [if_neg hXY]
    exact .inl ⟨_,_,rfl,hXY,hr⟩
theorem JaZ (e:Option KO):(JT e).head? ≠ some 78:=by
 cases e with
 | none=>simp [JT]
 | some x=>obtain ⟨k,o⟩:=x;simp [JT]
theorem Wy.sound (d:List UInt8->BA) (wd:Nat) (hd:∀l,(d l).size=wd) (k:Key) (state:BA) (w1 w2:Wy) (h1:w1.Holds d k state) (h2:w2.Holds d k state) (ho1:∀x,w1.2=some x->Jr x.2) (ho2:∀x,w2.2=some x->Jr x.2) (hne:w1.said k ≠ w2.said k):
  ∃x y,Yj (w1.nodes d) (w2.nodes d)=some (x,y)/\x ≠ y/\d x=d y:=by
 have:=Jd6 d wd hd k (JV w1) (JV w2) (JT w1.2) (JT w2.2) (JaZ _) (JaZ _) w1.1 w2.1 (λs hs=>⟨h1.bits s hs,h1.small s hs,(h1.wide s hs []).trans (hd _)⟩) (λs hs=>⟨h2.bits s hs,h2.small s hs,(h2.wide s hs []).trans (hd _)⟩) (h1.root.trans h2.root.symm)
 rcases this with h | ⟨_,_,he⟩
 ·exact h
 ·exfalso
  apply hne
  unfold said
  obtain ⟨l1,e1⟩:=w1
  obtain ⟨l2,e2⟩:=w2
  simp only at he ho1 ho2 ⊢
  cases e1 with
  | none=>cases e2 with
   | none=>rfl
   | some y=>obtain ⟨k2,o2⟩:=y;simp [JT] at he
  | some x=>
   obtain ⟨k1,o1⟩:=x
   cases e2 with
   | none=>simp [JT] at he
   | some y=>
    obtain ⟨k2,o2⟩:=y
    have l1':=h1.key (by simp)
    have l2':=h2.key (by simp)
    simp only [JV] at l1' l2'
    simp only [JT,QH,true_and] at he
    obtain ⟨e1,e2⟩:=List.append_inj he (by rw [l1',l2'])
    subst e1
    have p1:=ho1 _ rfl
    have p2:=ho2 _ rfl
    have:o1=o2:=by
     have r1:=(Jed o1 0 0 p1).rd [] []
     have r2:=(Jed o2 0 0 p2).rd [] []
     rw [e2,r2] at r1
     simp only [Qh,Qw] at r1
     exact r1.1.symm
    subst this
    rfl
theorem Jgl (d:List UInt8->BA) (wd:Nat) (st:Option Tr) (l:List Held) (B:Book wd st l) (c:BA×Int) (hc:Jk wd c):(Ye d (Jd c) st).said (Jd c)=(JW l c).map λk=>(l.getD k ((⟨#[]⟩,0),(0,0))).2:=by
 have hw:=B.without hc
 cases st with
 | none=>
  obtain rfl:=B.none
  rfl
 | some t=>
  simp only [Ye,Wy.said,Tr.way_near]
  cases h:JW l c with
  | none=>
   rw [h] at hw
   simp only [JQ] at hw
   split at hw
   ·cases hw
   ·rw [if_neg (by assumption)];rfl
  | some k=>
   rw [h] at hw
   obtain ⟨st',e,_⟩:=hw
   simp only [JQ] at e
   split at e
   ·rename_i hk
    simp only [Except.ok.injEq,Qw] at e
    rw [if_pos hk,e.2];rfl
   ·cases e
open Go

section
variable {P:Program} {md:Region.Mode} {Q:Exit->Act->World->Prop}

def ZI (md:Region.Mode) (o:Oper):List Nat:=(o.after.toList.filter (Region.binds md)).map (·.on)
def Jkf (md:Region.Mode) (l:List Oper):Nat->List Nat->List Nat
 | 0,D=>D
 | n+1,D=>Jkf md l n ((D++D.flatMap λj=>((l[j]?).map (ZI md)).getD []).eraseDups)
def JgR (md:Region.Mode) (l:List Oper) (o:Oper) (n:Nat):Bool:=
 (List.range l.length).all (λj=>(Jkf md l n (ZI md o)).contains j) && (ZI md o).all (λj=>decide (j<l.length)) &&
 (List.range l.length).all (λi=>((l[i]?).map (λx=>(ZI md x).all (λj=>decide (j<i)))).getD true) && l.all (λx=>x.guard.isNone) && o.guard.isNone
theorem Yw {o:Oper} {j:Nat}:j∈ZI md o↔∃e∈o.after,Region.binds md e=true/\e.on=j:=by
 simp only [ZI,List.mem_map,List.mem_filter,Array.mem_toList_iff,and_assoc]
def JgH (md:Region.Mode) (l:List Oper) (listed:Array Bool):Prop:=∀i o,l[i]? =some o->listed.getD i false=true->∀j∈ZI md o,listed.getD j false=true
theorem Jbj {l:List Oper} {listed:Array Bool} (h:JgH md l listed):∀(n:Nat) (D:List Nat),(∀j∈D,listed.getD j false=true)->∀j∈Jkf md l n D,listed.getD j false=true
 | 0,_,hD=>hD
 | n+1,D,hD=>Jbj h n _ (λj hj=>by
   rw [List.mem_eraseDups,List.mem_append,List.mem_flatMap] at hj
   rcases hj with hj | ⟨i,hi,hj⟩
   ·exact hD j hj
   ·cases ho:l[i]? with
    | none=>rw [ho] at hj;simp at hj
    | some o=>rw [ho] at hj;exact h i o ho (hD i hi) j (by simpa using hj))
def JgF (P:Program) (ops:Array Oper) (o:Oper) (Q:Exit->Act->World->Prop):Exit->Act->World->Prop
 | .normal,a,w=>wpList P ops Q [o] a w
 | e,a,w=>Q e a w
theorem YM {listed:Array Bool} {i:Nat} (h:i<listed.size) (d:Bool):(listed.push false).getD i d=listed.getD i d:=by
 simp [Array.getD,h,Array.getElem_push_lt,Nat.lt_succ_of_lt h]
theorem JcS {l:List Oper} {o:Oper} {n:Nat} (hB:JgR md l o n=true):∀(fuel:Nat) (listed:Array Bool) (a:Act) (w:World),listed.size=l.length->JgH md l listed->
  wpAny P md l.toArray (JgF P (l++[o]).toArray o Q) fuel listed a w->wpAny P md (l++[o]).toArray Q (fuel+1) (listed.push false) a w:=by
 simp only [JgR,Bool.and_eq_true,List.all_eq_true,List.mem_range,List.contains_iff_mem,decide_eq_true_eq,Option.isNone_iff_eq_none] at hB
 obtain ⟨⟨⟨⟨h1,h2⟩,h3⟩,h4⟩,h5⟩:=hB
 have hlast:∀listed:Array Bool,listed.size=l.length->JgH md l listed->l.length∈Region.ready md (l++[o]).toArray (listed.push false)->∀j<l.length,listed.getD j false=true:=by
  intro listed hs hc hr j hj
  obtain ⟨_,o',ho',hall⟩:=mem_ready.1 hr
  have ho'':o'=o:=by simpa using ho'.symm
  subst ho''
  refine Jbj hc n _ (λi hi=>?_) j (h1 j hj)
  obtain ⟨e,he,hb,rfl⟩:=Yw.1 hi
  have:=hall e he hb
  rwa [YM (by rw [hs];exact h2 _ hi)] at this
 have hsame:∀(listed:Array Bool),listed.size=l.length->∀i,i<l.length->(i∈Region.ready md (l++[o]).toArray (listed.push false)↔i∈Region.ready md l.toArray listed):=by
  intro listed hs i hi
  rw [mem_ready,mem_ready,YM (by omega)]
  have e1:((l++[o]).toArray)[i]? =l.toArray[i]? :=by simp [List.getElem?_append_left hi]
  rw [e1]
  refine and_congr_right λ_=>exists_congr λx=>and_congr_right λhx=>forall_congr' λe=>forall_congr' λhe=>forall_congr' λhb=>?_
  have hx':l[i]? =some x:=by simpa using hx
  have hlt:e.on<i:=by
   have:=h3 i hi
   rw [hx'] at this
   simp only [Option.map_some,Option.getD_some,List.all_eq_true,decide_eq_true_eq] at this
   exact this _ (Yw.2 ⟨e,he,hb,rfl⟩)
  rw [YM (by omega)]
 have hempty:∀(listed:Array Bool),listed.size=l.length->Region.ready md l.toArray listed=[]->∀j<l.length,listed.getD j false=true:=by
  intro listed hs hr j
  induction j using Nat.strongRecOn with
  | _ j ih=>
   intro hj
   cases hd:listed.getD j false with
   | true=>rfl
   | false=>
    exfalso
    have:j∈Region.ready md l.toArray listed:=by
     refine mem_ready.2 ⟨?_,l[j],by simp [hj],λe he hb=>?_⟩
     ·have hj':j<listed.size:=by omega
      simp [Array.getD,hj'] at hd ⊢;exact hd
     ·have hx:=h3 j hj
      rw [List.getElem?_eq_getElem hj] at hx
      simp only [Option.map_some,Option.getD_some,List.all_eq_true,decide_eq_true_eq] at hx
      have:=hx _ (Yw.2 ⟨e,he,hb,rfl⟩)
      exact ih _ this (by omega)
    rw [hr] at this;cases this
 have hwO:∀(listed:Array Bool) (i:Nat) (K:Act->World->Prop) (Q':Exit->Act->World->Prop) (a:Act) (w:World),i<l.length->wpOp P l.toArray Q' i K a w->wpOp P (l++[o]).toArray Q' i K a w:=by
  intro listed i K Q' a w hi h
  unfold wpOp at *
  have e1:((l++[o]).toArray)[i]? =l.toArray[i]? :=by simp [List.getElem?_append_left hi]
  rw [e1]
  have e2:l.toArray[i]? =some l[i]:=by simp [hi]
  rw [e2] at h ⊢
  have hg:(l[i]).guard=none:=h4 _ (List.getElem_mem hi)
  simpa only [Region.wanted,hg,if_true] using h
 have hQ:∀(i:Nat) (K:Act->World->Prop) (a:Act) (w:World),wpOp P (l++[o]).toArray (JgF P (l++[o]).toArray o Q) i K a w->wpOp P (l++[o]).toArray Q i K a w:=by
  intro i K a w h
  unfold wpOp at *
  split at h
  ·exact h
  ·rename_i x hx
   split at h
   ·rename_i hw
    rw [if_pos hw]
    rcases h with h | ⟨h,hl⟩
    ·refine .inl ?_
     unfold Oper.wp at *
     generalize (execOp a.eval x).run P w=r at *
     cases r with
     | ok nx w'=>
      cases nx <;> simp only [Oper.upon] at h ⊢ <;> first | exact h | exact Calls.mono h (λe w'' he=>by cases e <;> exact he)
     | halt y w'=>cases y <;> simp only [Oper.upon] at h ⊢ <;> exact h
    ·exact .inr ⟨h,hl⟩
   ·rename_i hw;rw [if_neg hw];exact h
 have hk:∀(listed:Array Bool),listed.size=l.length->∀i∈Region.ready md (l++[o]).toArray (listed.push false),i<l.length\/i=l.length:=by
  intro listed hs i hi
  obtain ⟨_,x,hx,_⟩:=mem_ready.1 hi
  have:=(Array.getElem?_eq_some_iff.1 hx).1
  simp at this
  omega
 have hend:∀(fuel:Nat) (listed:Array Bool) (a:Act) (w:World),listed.size=l.length->(∀j<l.length,listed.getD j false=true)->wpList P (l++[o]).toArray Q [o] a w->wpAny P md (l++[o]).toArray Q (fuel+1) (listed.push false) a w:=by
  intro fuel listed a w hs hall h
  have hkr:l.length∈Region.ready md (l++[o]).toArray (listed.push false):=by
   refine mem_ready.2 ⟨?_,o,by simp,λe he hb=>?_⟩
   ·simp [Array.getD,<-hs]
   ·have:=h2 _ (Yw.2 ⟨e,he,hb,rfl⟩)
    rw [YM (by omega)];exact hall _ this
  have honly:∀i∈Region.ready md (l++[o]).toArray (listed.push false),i=l.length:=by
   intro i hi
   rcases hk listed hs i hi with hlt | he
   ·have h0:=(mem_ready.1 hi).1
    rw [YM (by omega)] at h0
    have:=hall i hlt
    have hj':i<listed.size:=by omega
    simp [Array.getD,hj'] at h0 this
    rw [h0] at this;cases this
   ·exact he
  refine ⟨λh0=>(by rw [h0] at hkr;cases hkr),λi hi=>?_⟩
  have:=honly i hi
  subst this
  have hend2:∀(f:Nat) (a:Act) (w:World),Q .normal a w->wpAny P md (l++[o]).toArray Q f ((listed.push false).setIfInBounds l.length true) a w:=by
   intro f a w hq
   have hnone:Region.ready md (l++[o]).toArray ((listed.push false).setIfInBounds l.length true)=[]:=by
    cases hr:Region.ready md (l++[o]).toArray ((listed.push false).setIfInBounds l.length true) with
    | nil=>rfl
    | cons i t=>
     exfalso
     have hi':i∈Region.ready md (l++[o]).toArray ((listed.push false).setIfInBounds l.length true):=by rw [hr];exact List.mem_cons_self
     obtain ⟨h0,x,hx,_⟩:=mem_ready.1 hi'
     have hlt:=(Array.getElem?_eq_some_iff.1 hx).1
     simp at hlt
     by_cases hil:i=l.length
     ·subst hil;simp [Array.getD,<-hs] at h0
     ·rw [getD_set_ne true (λe=>hil e.symm),YM (by omega)] at h0
      have:=hall i (by omega)
      have hj':i<listed.size:=by omega
      simp [Array.getD,hj'] at h0 this
      rw [h0] at this;cases this
   cases f with
   | zero=>exact ⟨hnone,hq⟩
   | succ f=>exact ⟨λ_=>hq,by rw [hnone];intro i hi;cases hi⟩
  unfold wpOp
  have e2:((l++[o]).toArray)[l.length]? =some o:=by simp
  rw [e2]
  simp only [wpList] at h
  simp only [Region.wanted,h5,if_true] at h ⊢
  rcases h with h | h
  ·exact .inl (Oper.wp_mono (λa w hq=>hend2 fuel a w hq) h)
  ·exact .inr h
 intro fuel
 induction fuel with
 | zero=>
  intro listed a w hs hc h
  exact hend 0 listed a w hs (hempty listed hs h.1) h.2
 | succ fuel ih=>
  intro listed a w hs hc h
  by_cases hne:Region.ready md l.toArray listed=[]
  ·exact hend (fuel+1) listed a w hs (hempty listed hs hne) (h.1 hne)
  ·refine ⟨λh0=>?_,λi hi=>?_⟩
   ·exfalso
    cases hr:Region.ready md l.toArray listed with
    | nil=>exact hne hr
    | cons j t=>
     have hj:j∈Region.ready md l.toArray listed:=by rw [hr];exact List.mem_cons_self
     have hlt:j<l.length:=by
      obtain ⟨_,x,hx,_⟩:=mem_ready.1 hj
      simpa using (Array.getElem?_eq_some_iff.1 hx).1
     have:=(hsame listed hs j hlt).2 hj
     rw [h0] at this;cases this
   ·rcases hk listed hs i hi with hlt | he
    ·have hi':=(hsame listed hs i hlt).1 hi
     have hw:=h.2 i hi'
     have hset:(listed.push false).setIfInBounds i true=(listed.setIfInBounds i true).push false:=by
      apply Array.ext_getElem?
      intro j
      simp only [Array.getElem?_setIfInBounds,Array.getElem?_push,Array.size_setIfInBounds,Array.size_push]
      by_cases hji:i=j
      ·subst hji;simp [hs,hlt,Nat.lt_succ_of_lt hlt,Nat.ne_of_lt hlt]
      ·simp [hji]
     have hc':JgH md l (listed.setIfInBounds i true):=by
      intro m x hx hm j hj
      by_cases hmi:m=i
      ·subst hmi
       obtain ⟨_,x',hx',hall⟩:=mem_ready.1 hi'
       have:x'=x:=by
        have:l[m]? =some x':=by simpa using hx'
        rw [hx] at this;exact (Option.some.inj this).symm
       subst this
       obtain ⟨e,he,hb,rfl⟩:=Yw.1 hj
       exact getD_set_true (hall e he hb)
      ·rw [getD_set_ne false (λe=>hmi e.symm)] at hm
       exact getD_set_true (hc m x hx hm j hj)
     refine hQ i _ a w (hwO listed i _ _ a w hlt (wpOp_mono (λa' w' h'=>?_) hw))
     rw [hset]
     exact ih _ a' w' (by simp [hs]) hc' h'
    ·subst he
     have:=hlast listed hs hc hi
     exfalso
     apply hne
     cases hr:Region.ready md l.toArray listed with
     | nil=>rfl
     | cons j t=>
      have hj:j∈Region.ready md l.toArray listed:=by rw [hr];exact List.mem_cons_self
      obtain ⟨h0,x,hx,_⟩:=mem_ready.1 hj
      have hlt:j<l.length:=by simpa using (Array.getElem?_eq_some_iff.1 hx).1
      have h':=this j hlt
      have hj':j<listed.size:=by omega
      simp [Array.getD,hj'] at h0 h'
      rw [h0] at h';cases h'
theorem Jaf (n:Nat):(Array.replicate n false).push false=Array.replicate (n+1) false:=by rw [Array.replicate_succ]

variable {S:World->Prop}
theorem YG {id:Nat} {a:Act} {w:World} {L:List Oper} (n:Nat) (hne:L ≠ []) (hm:P.follows .mixedOrders=true) (hB:JgR .any L.dropLast (L.getLast hne) n=true) (hS:S w.drew)
  (h:S w.drew->∀l o,L.dropLast=l->L.getLast hne=o->wpAnyH P .any l.toArray (JgF P L.toArray o Q) S l.length (Array.replicate l.length false) a w.drew):(Code.region id L.toArray true).wp P Q a w:=by
 refine wp_region_any hm ?_
 have e:L=L.dropLast++[L.getLast hne]:=(List.dropLast_concat_getLast hne).symm
 have h1:=wpAny_of_held _ _ _ _ (h hS _ _ rfl rfl)
 have h2:=JcS (Q:=Q) hB L.dropLast.length (Array.replicate L.dropLast.length false) a w.drew (by simp) (λi o _ hi=>by simp [Array.getD] at hi) (by rw [<-e];exact h1)
 rw [<-e,Jaf] at h2
 have hl:L.dropLast.length+1=L.toArray.size:=by
  have:=congrArg List.length e
  simpa using this.symm
 rw [hl] at h2
 exact h2
theorem JmE {l:List Oper} {md:Region.Mode} {i:Nat} {oi:Oper} {v:Value} {fuel:Nat} {listed:Array Bool} {a:Act} {w:World} (hi:l[i]? =some oi)
  (hs:Region.noSelect l.toArray=true) (hf:Region.free md l.toArray listed i=true) (hr:(Region.ready md l.toArray listed).contains i=true)
  (hQ:∀c a w,Q (.panic c) (a.put oi.dst v) w->Q (.panic c) a w) (hg:oi.guard=none) (hy:∀w,S w->(execOp a.eval oi).run P w=.ok (.value v) w) (hS:S w)
  (h:wpAnyH P md l.toArray Q S fuel (listed.setIfInBounds i true) (a.put oi.dst v) w):wpAnyH P md l.toArray Q S (fuel+1) listed a w:=
 wpAnyH_take (by simpa using hi) hs hf hr hQ (.inl ⟨by simp [Region.wanted,hg],hy⟩) hS h
theorem tkL {l:List Oper} {md:Region.Mode} (i:Nat) {oi:Oper} {v:Value} {fuel:Nat} {listed:Array Bool} {a:Act} {w:World} (h:wpAnyH P md l.toArray Q S fuel (listed.setIfInBounds i true) (a.put oi.dst v) w) (hi:l[i]? =some oi:=by rfl) (hs:Region.noSelect l.toArray=true:=by kernel_rfl) (hf:Region.free md l.toArray listed i=true:=by kernel_rfl) (hr:(Region.ready md l.toArray listed).contains i=true:=by kernel_rfl)
  (hQ:∀c a w,Q (.panic c) (a.put oi.dst v) w->Q (.panic c) a w:=by exact λ_ _ _ h=>h) (hg:oi.guard=none:=by rfl) (hy:∀w,S w->(execOp a.eval oi).run P w=.ok (.value v) w:=by intro W hSW;(try dsimp only at hSW);go_simp;(try with_reducible rfl)) (hS:S w:=by first | assumption | trivial):wpAnyH P md l.toArray Q S (fuel+1) listed a w:=JmE hi hs hf hr hQ hg hy hS h
theorem ZO {l:List Oper} {md:Region.Mode} {i:Nat} {oi:Oper} {fuel:Nat} {listed:Array Bool} {a:Act} {w:World} (hi:l[i]? =some oi) (hr:Region.ready md l.toArray listed=[i])
  (h:∀K:Act->World->Prop,Shut (∀a w,S w->(S w->wpAnyH P md l.toArray Q S fuel (listed.setIfInBounds i true) a w)->K a w)->if Region.wanted oi (yielded l.toArray a.tmps)=true then Oper.wp P oi a w K Q else K (a.put oi.dst undef) w):wpAnyH P md l.toArray Q S (fuel+1) listed a w:=
 wpAnyH_ready hr (by simp) (AllReadyH.cons (o:=oi) (by simpa using hi) h AllReadyH.nil)
end

section
variable {P:Program} {md:Region.Mode} {Q:Exit->Act->World->Prop} {l n:Nat}
theorem JgW {o:Oper} {a:Act} {w:World} {K K':Act->World->Prop} (hnd:∀c,o.op ≠ .defer c) (hK:∀a w,K a w->K' a w) (h:Oper.wp P o a w K Q):Oper.wpIn (Fence.wide.inRound l) n P o a w K' Q:=by
 unfold Oper.wpIn
 refine ⟨λ_ _=>trivial,?_⟩
 rw [Fence.inRound_round,Oper.semAt_some l _ _ hnd]
 unfold Oper.wp at h
 generalize (execOp a.eval o).run P w=r at *
 cases r with
 | ok x w'=>
  cases x with
  | enter f args=>
   refine ⟨λh=>by simp [Fence.wide] at h,callsIn_wide.2 (Calls.mono h ?_)⟩
   intro e w2 h2
   cases e with
   | returned v=>exact hK _ _ h2
   | panicked c=>exact h2
   | outgrown=>exact h2
  | row r args=>
   refine ⟨λh=>by simp [Fence.wide] at h,λc cs _=>?_⟩
   obtain ⟨v,w2,h2,h3⟩:=h c cs
   exact ⟨v,w2,hK _ _ h2,stepsIn_wide.2 h3⟩
  | value v=>exact hK _ _ h
  | skip=>exact hK _ _ h
  | defer d=>exact hK _ _ h
  | round _ _ _ _ _=>exact h.elim
  | _=>exact h.elim
 | halt hl w'=>
  cases hl with
  | panic v=>exact h
  | _=>exact h.elim
theorem JlB {ops:Array Oper} (hnd:∀(i:Nat) o,ops[i]? =some o->∀c,o.op ≠ .defer c) (hQ:¬LetsOut Q):∀(fuel:Nat) (listed:Array Bool) (a:Act) (w:World),wpAny P md ops Q fuel listed a w->wpAnyIn (Fence.wide.inRound l) n P md ops Q fuel listed a w:=by
 intro fuel
 induction fuel with
 | zero=>intro listed a w h;exact h
 | succ fuel ih=>
  intro listed a w h
  refine ⟨h.1,λi hi=>?_⟩
  have h2:=h.2 i hi
  unfold wpOp at h2
  unfold wpOpIn
  cases ho:ops[i]? with
  | none=>rw [ho] at h2;exact ih _ _ _ h2
  | some o=>
   rw [ho] at h2
   dsimp only at h2 ⊢
   split
   ·rename_i hw
    rw [if_pos hw] at h2
    rcases h2 with h2 | h2
    ·exact JgW (hnd i o ho) (ih _) h2
    ·exact absurd h2.2 hQ
   ·rename_i hw
    rw [if_neg hw] at h2
    exact ⟨λ_ _=>trivial,ih _ _ _ h2⟩
variable {S:World->Prop}
theorem Yl {id:Nat} {a:Act} {w:World} {L:List Oper} (m:Nat) (hne:L ≠ []) (hm:P.follows .mixedOrders=true) (hB:JgR .any L.dropLast (L.getLast hne) m=true) (hnd:∀o∈L,∀c,o.op ≠ .defer c) (hQ:¬LetsOut Q) (hS:S w.drew)
  (h:S w.drew->∀l o,L.dropLast=l->L.getLast hne=o->wpAnyH P .any l.toArray (JgF P L.toArray o Q) S l.length (Array.replicate l.length false) a w.drew):(Code.region id L.toArray true).wpIn (Fence.wide.inRound l) n P Q a w:=by
 refine wpIn_region_any hm (JlB (λi o ho=>hnd o (List.mem_of_getElem? (by simpa using ho))) hQ _ _ _ _ ?_)
 have e:L=L.dropLast++[L.getLast hne]:=(List.dropLast_concat_getLast hne).symm
 have h1:=wpAny_of_held _ _ _ _ (h hS _ _ rfl rfl)
 have h2:=JcS (Q:=Q) hB L.dropLast.length (Array.replicate L.dropLast.length false) a w.drew (by simp) (λi o _ hi=>by simp [Array.getD] at hi) (by rw [<-e];exact h1)
 rw [<-e,Jaf] at h2
 have hl:L.dropLast.length+1=L.toArray.size:=by
  have:=congrArg List.length e
  simpa using this.symm
 rw [hl] at h2
 exact h2
end
open Tryz
set_option maxRecDepth 100000
set_option maxHeartbeats 1000000

theorem Tch.box (w:World) (o:Obj):Tch NoB w (w.alloc o).drew:=(Ta _ w o).trans (Td _ (w.alloc o) 1) (λ_ h=>.inl h)
theorem Tch.box2 (w:World) (o o':Obj):Tch NoB w ((w.alloc o).alloc o').drew:=((Ta _ w o).trans (Ta _ (w.alloc o) o') (λ_ h=>.inl h)).trans (Td _ ((w.alloc o).alloc o') 1) (λ_ h=>.inl h)
theorem Bs.tchOwn {base:Nat} {w w':World} {v:Value} {xs:List Value} (h:Bs base w v xs) (hg:w.grownBy w' v.ownBlock) {W:World} (hW:W.heap.size<=base) (k:Tch NoB W w):Tch NoB W w':=
 k.trans (Tg hg) (λj hj=>by
  have:=(h.own j hj.symm).1
  exact .inr (by omega))
theorem Jdm (n k:Nat) (w:World) (hk:k<=8):
  Calls prog 49 #[.int .u64 (n:Int),.int .i64 (k:Int)] w λe w'=>e=.returned (.string ⟨(beL n k k).toArray⟩)/\Tch NoB w w':=by
 obtain ⟨i0,hi,hz0,hz1,hz2⟩:=info_parts Jb0
 have hki:(k:Int)<=8:=by omega
 go_enter func49,ntmps49
 go_wp2
 go_loopw [5,6] (λv i wr=>∃j:Nat,j<=k/\i=.int .i64 ((k:Int) - 1 - (j:Int))/\Hid (Bs w.heap.size wr v (bc (beL n k j)))/\Hid (Tch NoB w wr)) (λ_ i _=>(intOf i+1).toNat)
 case atStart=>exact ⟨0,by omega,congrArg (Value.int .i64) (by omega),Bs.nil _ _,Te _ _⟩
 case round=>
  obtain ⟨j,hj,rfl,hbs,htc⟩:=hrel
  by_cases hjk:j<k
  ·obtain ⟨m,hm',hmk⟩:∃m:Nat,(k:Int) - 1 - (j:Int)=(m:Int)/\k - 1 - j=m:=⟨k - 1 - j,by omega,rfl⟩
   have HM:Hid ((k:Int) - 1 - (j:Int)=(m:Int)/\k - 1 - j=m):=⟨hm',hmk⟩
   have hm7:m<=7:=by omega
   have HJ:Hid (j<k):=hjk
   rw [hm']
   clear hm' hmk hjk
   have hw8:IntKind.i64.wrap (8 * (m:Int))=8 * (m:Int):=JI _ (by omega) (by omega)
   have hsh:Op.shift .shr .u64 (n:Int) .i64 (8 * (m:Int))=pure (.int .u64 ((n:Int) / 2 ^ (8 * m))):=by
    rw [shift_shr_u64 _ _ _ (by omega) (by omega)]
    congr 3
   have Hbl:Hid ((bc (beL n k j)).length=j):=(by rw [XX,Jg]:(bc (beL n k j)).length=j)
   obtain ⟨a0,m0,c0,hv0⟩:=hbs.out.shape3
   subst hv0
   go_wp2_with (at_builtin;refine Xs rfl _ _ 52 52 5 rfl i0 _ underlying52 hi hz0 hz1 hz2 rfl rfl (hbs.out.alloc _) _ 1 [_] rfl (Src.ofSlice _ underlying52 _ 1 1 _ rfl (cell_one_new _ _ _) (by simp [Value.oneCell'])) (by rw [Hbl.out];omega) (by have:=htc.out.size;simp;omega) ?_;intro v1 w1 hbs1 hg1 hmv1;have HB1:Hid _:=hbs1;have Hg1:Hid _:=hg1;clear hmv1 hbs1 hg1)
   have e2:[Value.int .u8 (IntKind.u8.wrap ((n:Int) / 2 ^ (8 * (m:Int)).toNat))]=bc [UInt8.ofNat (n / 2 ^ (8 * m))]:=by
    rw [IntKind.wrap_u8',show (8 * (m:Int)).toNat=8 * m by omega]
    simp [bc]
   have e3:bc (beL n k (j+1))=bc (beL n k j)++bc [UInt8.ofNat (n / 2 ^ (8 * m))]:=by
    rw [<-HM.o.2,<-Zm];rfl
   have hjk:=HJ.o
   go_roundw
   case rel=>
    refine ⟨j+1,by omega,?_,?_,?_⟩
    ·exact congrArg (Value.int .i64) (by have:=HM.o.1;omega)
    ·rw [e3,<-e2];exact HB1
    ·exact Bs.tchOwn (hbs.out.alloc _) Hg1.out (Ql _) (htc.out.trans (Ta NoB _ _) noE)
   case measure=>simp only [intOf];omega
  ·obtain rfl:j=k:=by omega
   have hneg:¬(0:Int)<=(j:Int) - 1 - (j:Int):=by omega
   have hcv:=XI (P:=prog) (l:=beL n j j) hbs.out 52 9 5 underlying52 underlying5 underlying9
   obtain ⟨a0,m0,c0,hv0⟩:=hbs.out.shape3
   subst hv0
   go_wp2
   go_ret
   exact ⟨rfl,htc.out⟩
theorem Jb1 {a b:BA} (h:a.data.toList=b.data.toList):a=b:=by
 cases a;cases b;simp only at h;rw [Array.toList_inj] at h;rw [h]
theorem ZX (b:Nat) (w:World) (k:Nat) (hb:b<256) (hc:w.cell? ⟨k,0,none⟩=some (.int .u8 (b:Int))):(convert 52 9 (.slice (some ⟨k,0,none⟩) 1 1)).run prog w=.ok (.string ⟨#[UInt8.ofNat b]⟩) w:=by
 have:=run_convert_bytes_back (P:=prog) w 52 9 5 ⟨k,0,none⟩ 1 [UInt8.ofNat b] underlying52 underlying5 underlying9 (λj hj=>by
  obtain rfl:j=0:=by simpa using hj
  rw [Addr.add_lit,Nat.zero_add,hc]
  simp [Nat.mod_eq_of_lt hb])
 exact this
theorem JfZ (b:Nat) (w:World) (hb:b<256):(convert 52 9 (.slice (some ⟨w.heap.size,0,none⟩) 1 1)).run prog (w.alloc (.cells #[.int .u8 (b:Int)] 5))=.ok (.string ⟨#[UInt8.ofNat b]⟩) (w.alloc (.cells #[.int .u8 (b:Int)] 5)):=by
 have:=run_convert_bytes_back (P:=prog) (w.alloc (.cells #[.int .u8 (b:Int)] 5)) 52 9 5 ⟨w.heap.size,0,none⟩ 1 [UInt8.ofNat b] underlying52 underlying5 underlying9 (λj hj=>by
  obtain rfl:j=0:=by simpa using hj
  rw [Addr.add_lit,Nat.zero_add,Ja (Qf _ _)]
  simp [Nat.mod_eq_of_lt hb])
 exact this
theorem Jdn (a o:Nat) (w:World) (ho:o<256):
  Calls prog 38 #[.agg #[.int .u64 (a:Int),.int .u8 (o:Int)]] w λe w'=>e=.returned (.string ⟨(outB (a,o)).toArray⟩)/\Tch NoB w w':=by
 have HO:Hid (o<256):=ho
 have hin:=λW=>Jdm a 8 W (by omega)
 have hby:=λW=>JfZ o W ho
 have hadd:∀W,(Op.stringOp .add (⟨(beL a 8 8).toArray⟩:BA) ⟨#[UInt8.ofNat o]⟩).run prog W=.ok (.string ⟨(outB (a,o)).toArray⟩) W:=λW=>by
  have:=run_string_add_sum (P:=prog) W (⟨(beL a 8 8).toArray⟩:BA) ⟨#[UInt8.ofNat o]⟩ (by show (beL a 8 8).toArray.size+1<=_;simp [Jg])
  rw [this]
  exact congrArg (λx=>Result.ok (Value.string x) W) (Jb1 (by simp [outB,beL]))
 have hb2:=ZX o ((w.alloc (.cells #[.int .u64 (a:Int),.int .u8 (o:Int)] 80)).alloc (.cells #[.int .u8 (o:Int)] 5)).drew (w.heap.size+1) ho (Ja (heap_alloc2_new _ _ _))
 have HIN:Hid _:=hin
 clear hin ho
 go_enter func38,ntmps38
 go_wp2
 go_region_with (go_at_call 49;refine (HIN.o _).mono ?_;rintro _ w1 ⟨rfl,ht1⟩;have r1:w1.heap[w.heap.size]? =some (.cells #[.int .u64 (a:Int),.int .u8 (o:Int)] 80):=(ht1.block _ (by first | (simp;done) | (simp;omega)) (λh=>h)).trans (by first | exact Qf _ _ | exact heap_alloc2_old _ _ _);have c1:w1.cell? ⟨w.heap.size,1,none⟩=some (.int .u8 (o:Int)):=Ja r1;(try (have q1:w1.heap[w.heap.size+1]? =some (.cells #[.int .u8 (o:Int)] 5):=(ht1.block _ (by simp) (λh=>h)).trans (heap_alloc2_new _ _ _);have q2:=ZX o w1 (w.heap.size+1) HO.o (Ja q1)));have HT1:Hid _:=ht1;clear ht1 r1)
 all_goals
  go_wp2
  go_ret
  refine ⟨rfl,?_⟩
  first
   | exact (Tch.box w _).trans HT1.o noE
   | exact (Tch.box2 w _ _).trans HT1.o noE
   | exact ((Tch.box w _).trans HT1.o noE).trans (Ta NoB w1 _) noE
theorem JhF (c:BA×Int) (w:World) (h0:0<=c.2) (h3:c.2<256) (hz:c.1.size<=1000000):
  Calls prog 54 #[.agg #[.string c.1,.int .i64 c.2]] w λe w'=>e=.returned (.string ⟨(Jd c).toArray⟩)/\Tch NoB w w':=by
 obtain ⟨s,n⟩:=c
 simp only at h0 h3 hz
 obtain ⟨m,rfl⟩:=Int.eq_ofNat_of_zero_le h0
 have hm:m<256:=by omega
 have hwr:IntKind.u8.wrap (m:Int)=(m:Int):=by simp [IntKind.wrap,IntKind.bits,IntKind.signed];omega
 have hby:=ZX m ((w.alloc (.cells #[.string s,.int .i64 (m:Int)] 49)).alloc (.cells #[.int .u8 (m:Int)] 5)) (w.heap.size+1) hm (Ja (heap_alloc2_new _ _ _))
 have hadd:∀W,(Op.stringOp .add s ⟨#[UInt8.ofNat m]⟩).run prog W=.ok (.string ⟨(Jd (s,(m:Int))).toArray⟩) W:=λW=>by
  have:=run_string_add_sum (P:=prog) W s ⟨#[UInt8.ofNat m]⟩ (by show s.size+1<=_;omega)
  rw [this]
  have hx:JC (m:Int)=m:=by have:=Yv (m:Int) h0 (by omega);omega
  exact congrArg (λx=>Result.ok (Value.string x) W) (Jb1 (by simp [Jd,hx,beL]))
 clear h0 h3 hz
 go_enter func54,ntmps54
 go_wp2
 go_ret
 exact ⟨rfl,(Ta NoB w _).trans (Ta NoB _ _) (λ_ h=>.inl h)⟩
