import Derived.Test.YtighkdnooglfjaaGreatDoorScPRt
import Derived.Deep.RegionHeld3
import Derived.RangeFuncCalls
import Derived.OrdersIn
namespace Go.Proofs.YtighkdnooglfjaaGreatDoor


abbrev Er:=Fin 7
abbrev Er.form:Er:=0
abbrev Er.tip:Er:=1
abbrev Er.input:Er:=2
abbrev Er.exist:Er:=3
abbrev Er.sum:Er:=4
abbrev Er.root:Er:=5
abbrev Er.range:Er:=6
theorem Er.on {motive:Er->Prop} (form:motive .form) (tip:motive .tip) (input:motive .input) (exist:motive .exist) (sum:motive .sum) (root:motive .root) (range:motive .range):∀e,motive e
 | 0=>form
 | 1=>tip
 | 2=>input
 | 3=>exist
 | 4=>sum
 | 5=>root
 | 6=>range
def Jdl (l1 l2:List (Nat×Nat)):Decidable (Xk l1 l2):=by unfold Xk;infer_instance

def Yt (st:Option Tr) (k:Key) (o:Nat×Nat):Except Er (Option Tr):=
 match st with
 | none=>.ok (some (.leaf k o))
 | some t=>if (t.near k).1=k then .error .exist else .ok (some (t.graft k o (fd (t.near k).1 k)))
def JN (st:Option Tr) (k:Key):Except Er (Option Tr×(Nat×Nat)):=
 match st with
 | none=>.error .input
 | some t=>if (t.near k).1=k then .ok (t.cut k,(t.near k).2) else .error .input
def XE:List (BA×Int)->Option Tr->Except Er (Option Tr×List (Nat×Nat))
 | [],st=>.ok (st,[])
 | c :: r,st=>match JN st (Jd c) with
  | .error e=>.error e
  | .ok (st1,o)=>match XE r st1 with
   | .error e=>.error e
   | .ok (st2,os)=>.ok (st2,o :: os)
def JM (id:BA):Nat->List (Nat×Nat)->Option Tr->Except Er (Option Tr)
 | _,[],st=>.ok st
 | i,o :: r,st=>match Yt st (Jd (id,(i:Int))) o with
  | .error e=>.error e
  | .ok st1=>JM id (i+1) r st1
def JR (dg:List UInt8->BA) (st:Option Tr) (t:TxL):Except Er (Option Tr):=
 match XE t.1 st with
 | .error e=>.error e
 | .ok (st1,os)=>match JM (dg (84 :: txB t)) 0 t.2 st1 with
  | .error e=>.error e
  | .ok st2=>haveI:=Jdl os t.2;if Xk os t.2 then .error .sum else .ok st2
def JO (dg:List UInt8->BA):Option Tr->List TxL->Except Er (Option Tr)
 | st,[]=>.ok st
 | st,t :: r=>match JR dg st t with
  | .error e=>.error e
  | .ok st1=>JO dg st1 r

abbrev Held:=(BA×Int)×(Nat×Nat)
def JT (l:List Held) (c:BA×Int):Option Nat:=l.findIdx? (λh=>decide (h.1=c))
def M64:Nat:=18446744073709551616
def JW:List (BA×Int)->List Held×Nat×Bool->Option (List Held×Nat×Bool)
 | [],s=>some s
 | c :: r,(now,inn,over)=>match JT now c with
  | none=>none
  | some k=>JW r (now.eraseIdx k,(inn+(now.getD k ((⟨#[]⟩,0),(0,0))).2.1) % M64,over || decide ((inn+(now.getD k ((⟨#[]⟩,0),(0,0))).2.1) % M64<inn))
def Jz (id:BA):Nat->List (Nat×Nat)->List Held×Nat×Bool->Option (List Held×Nat×Bool)
 | _,[],s=>some s
 | i,o :: r,(now,out,over)=>match JT now (id,(i:Int)) with
  | some _=>none
  | none=>Jz id (i+1) r (now++[((id,(i:Int)),o)],(out+o.1) % M64,over || decide ((out+o.1) % M64<out))
def Xb (dg:List UInt8->BA) (l:List Held) (t:TxL):Except Er (List Held):=
 match JW t.1 (l,0,false) with
 | none=>.error .input
 | some (now,inn,over)=>match Jz (dg (84 :: txB t)) 0 t.2 (now,0,over) with
  | none=>.error .exist
  | some (now2,out,over2)=>if over2=true\/inn<out then .error .sum else .ok now2

structure Book (wd:Nat) (st:Option Tr) (l:List Held):Prop where
 wf:∀t,st=some t->t.Wf
 ok:∀h∈l,Jk wd h.1/\Jq h.2
 nodup:(l.map (·.1)).Nodup
 mem:∀k o,(k,o)∈JV st↔∃h∈l,Jd h.1=k/\h.2=o
theorem JcL {wd:Nat} {c d:BA×Int} (h1:Jk wd c) (h2:Jk wd d) (h:Jd c=Jd d):c=d:=by
 obtain ⟨a1,a2,a3⟩:=h1
 obtain ⟨b1,b2,b3⟩:=h2
 unfold Jd at h
 obtain ⟨e1,e2⟩:=List.append_inj h (by simp only [QA];exact a1.trans b1.symm)
 have x1:=Yp c.2 a2 (by omega)
 have x2:=Yp d.2 b2 (by omega)
 have y:∀n,n<256->numL (beL n 1 1)=n:=λn hn=>by rw [Jdm n 1 (by omega) 1 (Ql _)];simp
 have e3:Jy c.2=Jy d.2:=by rw [<-y (Jy c.2) (by omega),<-y (Jy d.2) (by omega),e2]
 have e4:c.2=d.2:=by rw [<-x1,<-x2,e3]
 have e5:c.1=d.1:=by
  have:c.1.data=d.1.data:=by rw [<-Array.toList_inj];exact e1
  cases hc:c.1;cases hd:d.1;rw [hc,hd] at this;simp only at this;rw [this]
 exact Prod.ext e5 e4
theorem XQ {wd:Nat} {c:BA×Int} (h:Jk wd c):(Jd c).length=wd+1:=by
 unfold Jd;rw [Qe,Jg];have:=h.1;simp only [QA];show c.1.data.size+1=_;rw [<-this];rfl
theorem YK {l:List Held} {c:BA×Int} {k:Nat} (h:JT l c=some k):∃hk:k<l.length,l[k].1=c:=by
 unfold JT at h
 rw [List.findIdx?_eq_some_iff_getElem] at h
 obtain ⟨hk,h1,_⟩:=h
 exact ⟨hk,by simpa using h1⟩
theorem JbO {l:List Held} {c:BA×Int} (h:JT l c=none):∀x∈l,x.1 ≠ c:=by
 unfold JT at h
 rw [List.findIdx?_eq_none_iff] at h
 intro x hx;simpa using h x hx
theorem Jha {l:List Held} (hn:(l.map (·.1)).Nodup) {k:Nat} (hk:k<l.length):∀x,x∈l.eraseIdx k↔x∈l/\x.1 ≠ l[k].1:=by
 intro x
 have inj:∀(i j:Nat) (hi:i<l.length) (hj:j<l.length),l[i].1=l[j].1->i=j:=by
  intro i j hi hj e
  have:=(List.getElem_inj (i:=i) (j:=j) (h₀:=by simpa using hi) (h₁:=by simpa using hj) hn).1 (by simpa using e)
  exact this
 rw [List.mem_eraseIdx_iff_getElem]
 constructor
 ·rintro ⟨i,hi,hne,rfl⟩
  exact ⟨Qx hi,λe=>hne (inj i k hi hk e)⟩
 ·rintro ⟨hx,hne⟩
  obtain ⟨i,hi,rfl⟩:=List.getElem_of_mem hx
  exact ⟨i,hi,λe=>hne (by subst e;rfl),rfl⟩
theorem Book.find {wd:Nat} {st:Option Tr} {l:List Held} (B:Book wd st l) {c:BA×Int} (hc:Jk wd c) {t:Tr} (ht:st=some t):(t.near (Jd c)).1=Jd c↔∃k,JT l c=some k:=by
 subst ht
 constructor
 ·intro h
  have hm:=t.near_mem (Jd c)
  have:((t.near (Jd c)).1,(t.near (Jd c)).2)∈JV (some t):=hm
  rw [h] at this
  obtain ⟨x,hx,h1,h2⟩:=(B.mem _ _).1 this
  cases hf:JT l c with
  | some k=>exact ⟨k,rfl⟩
  | none=>exact absurd (JcL (B.ok x hx).1 hc h1) (JbO hf x hx)
 ·rintro ⟨k,hk⟩
  obtain ⟨hl,e⟩:=YK hk
  have:(Jd c,l[k].2)∈JV (some t):=(B.mem _ _).2 ⟨l[k],Qx hl,by rw [e],rfl⟩
  rw [Tr.near_of_mem _ _ t (B.wf t rfl) this]
theorem Book.none {wd:Nat} {l:List Held} (B:Book wd Option.none l):l=[]:=by
 cases l with
 | nil=>rfl
 | cons x r=>exact absurd ((B.mem (Jd x.1) x.2).2 ⟨x,QM,rfl,rfl⟩) (by simp [JV])
theorem Book.without {wd:Nat} {st:Option Tr} {l:List Held} (B:Book wd st l) {c:BA×Int} (hc:Jk wd c):
  match JT l c with
  | .none=>JN st (Jd c)=.error .input
  | .some k=>∃st',JN st (Jd c)=.ok (st',(l.getD k ((⟨#[]⟩,0),(0,0))).2)/\Book wd st' (l.eraseIdx k):=by
 cases st with
 | none=>
  obtain rfl:=B.none
  rfl
 | some t=>
  have hf:=B.find hc rfl
  cases h:JT l c with
  | none=>
   simp only [JN]
   rw [if_neg]
   rw [hf];rintro ⟨k,hk⟩;rw [h] at hk;cases hk
  | some k=>
   obtain ⟨hl,e⟩:=YK h
   have hn:(t.near (Jd c)).1=Jd c:=hf.2 ⟨k,h⟩
   have hm:(Jd c,l[k].2)∈JV (some t):=(B.mem _ _).2 ⟨l[k],Qx hl,by rw [e],rfl⟩
   have hnear:=Tr.near_of_mem _ _ t (B.wf t rfl) hm
   obtain ⟨g1,g2,g3⟩:=Tr.cut_ok (Jd c) t (B.wf t rfl) hn
   have hi:=Jha B.nodup hl
   refine ⟨t.cut (Jd c),?_,⟨g1,λx hx=>B.ok x ((hi x).1 hx).1,?_,λk' o=>?_⟩⟩
   ·simp only [JN]
    rw [if_pos hn,hnear]
    simp [List.getD_eq_getElem?_getD,List.getElem?_eq_getElem hl]
   ·exact B.nodup.sublist ((List.eraseIdx_sublist l k).map _)
   ·rw [g2]
    show (k',o)∈JV (some t)/\_↔_
    rw [B.mem]
    constructor
    ·rintro ⟨⟨x,hx,h1,h2⟩,h3⟩
     exact ⟨x,(hi x).2 ⟨hx,λe'=>h3 (by simp only;rw [<-h1,e',e])⟩,h1,h2⟩
    ·rintro ⟨x,hx,h1,h2⟩
     obtain ⟨hx1,hx2⟩:=(hi x).1 hx
     exact ⟨⟨x,hx1,h1,h2⟩,λe'=>hx2 (by rw [e];simp only at e';exact JcL (B.ok x hx1).1 hc (h1.trans e'))⟩
theorem Book.with {wd:Nat} {st:Option Tr} {l:List Held} (B:Book wd st l) {c:BA×Int} (hc:Jk wd c) {o:Nat×Nat} (ho:Jq o):
  match JT l c with
  | .some _=>Yt st (Jd c) o=.error .exist
  | .none=>∃st',Yt st (Jd c) o=.ok st'/\Book wd st' (l++[(c,o)]):=by
 have hok:JT l c=Option.none->∀x∈l++[(c,o)],Jk wd x.1/\Jq x.2:=by
  intro _ x hx
  rw [QE,Qt] at hx
  rcases hx with hx | rfl
  ·exact B.ok x hx
  ·exact ⟨hc,ho⟩
 have hnd:JT l c=Option.none->((l++[(c,o)]).map (·.1)).Nodup:=by
  intro hf
  rw [List.map_append,List.nodup_append]
  refine ⟨B.nodup,by simp,?_⟩
  intro a ha b hb e
  simp only [List.map_cons,List.map_nil,Qt] at hb
  subst hb
  subst e
  obtain ⟨x,hx,hxe⟩:=QK.1 ha
  exact JbO hf x hx hxe
 cases st with
 | none=>
  obtain rfl:=B.none
  refine ⟨_,rfl,⟨λt ht=>by simp only [Qh] at ht;rw [<-ht];exact trivial,hok rfl,hnd rfl,λk o'=>?_⟩⟩
  simp only [JV,Tr.coins,Qt,List.nil_append,Qw]
  constructor
  ·rintro ⟨rfl,rfl⟩;exact ⟨_,rfl,rfl,rfl⟩
  ·rintro ⟨x,rfl,h1,h2⟩;exact ⟨h1.symm,h2.symm⟩
 | some t=>
  have hf:=B.find hc rfl
  cases h:JT l c with
  | some k=>
   simp only [Yt]
   rw [if_pos (hf.2 ⟨k,h⟩)]
  | none=>
   have hn:(t.near (Jd c)).1 ≠ Jd c:=by rw [ne_eq,hf];rintro ⟨k,hk⟩;rw [h] at hk;cases hk
   have hm:=t.near_mem (Jd c)
   obtain ⟨x,hx,h1,h2⟩:=(B.mem (t.near (Jd c)).1 (t.near (Jd c)).2).1 hm
   have hlen:(t.near (Jd c)).1.length=(Jd c).length:=by rw [<-h1,XQ (B.ok x hx).1,XQ hc]
   obtain ⟨q1,q2,q3⟩:=Jip (t.near (Jd c)).1 (Jd c) hlen hn
   obtain ⟨g1,g2,g3⟩:=Tr.graft_ok (Jd c) o (fd (t.near (Jd c)).1 (Jd c)) t (B.wf t rfl) (λe=>q2 e.symm) (λi hi=>(q3 i hi).symm)
   refine ⟨some (t.graft (Jd c) o (fd (t.near (Jd c)).1 (Jd c))),?_,⟨λt' ht=>by simp only [Qh] at ht;rw [<-ht];exact g1,hok h,hnd h,λk o'=>?_⟩⟩
   ·simp only [Yt];rw [if_neg hn]
   ·simp only [JV,g2]
    have:=B.mem k o'
    simp only [JV] at this
    rw [this]
    constructor
    ·rintro (e | ⟨y,hy,e1,e2⟩)
     ·cases e;exact ⟨(c,o),by simp,rfl,rfl⟩
     ·exact ⟨y,by simp [hy],e1,e2⟩
    ·rintro ⟨y,hy,e1,e2⟩
     rw [QE,Qt] at hy
     rcases hy with hy | rfl
     ·exact .inr ⟨y,hy,e1,e2⟩
     ·left;rw [<-e1,<-e2]
theorem Zx (o:Nat×Nat) (os:List (Nat×Nat)):JC (o :: os) (o :: os).length=o.1+JC os os.length:=by simp [JC]
theorem JfF (wd:Nat):∀(cs:List (BA×Int)),(∀c∈cs,Jk wd c)->∀(st:Option Tr) (l:List Held) (inn:Nat) (over:Bool),Book wd st l->
  match JW cs (l,inn % M64,over) with
  | none=>XE cs st=.error .input
  | some (l',inn',over')=>∃st' os,XE cs st=.ok (st',os)/\Book wd st' l'/\inn'=(inn+JC os os.length) % M64/\(over'=true↔over=true\/M64<=inn % M64+JC os os.length):=by
 intro cs
 induction cs with
 | nil=>intro _ st l inn over B;exact ⟨st,[],rfl,B,by simp [JC],by simp [JC];intro h;exact absurd h (by have:inn % M64<M64:=Nat.mod_lt _ (by decide);omega)⟩
 | cons c r ih=>
  intro hc st l inn over B
  have hw:=B.without (hc c QM)
  simp only [JW,XE]
  cases hf:JT l c with
  | none=>rw [hf] at hw;simp only at hw;simp only [hw]
  | some k=>
   rw [hf] at hw
   obtain ⟨st1,e1,B1⟩:=hw
   obtain ⟨hl,_⟩:=YK hf
   have ha:(l.getD k ((⟨#[]⟩,0),(0,0))).2.1<M64:=by
    simp only [Qn,Qd hl,Option.getD_some]
    exact (B.ok _ (Qx hl)).2.1
   dsimp only
   generalize (l.getD k ((⟨#[]⟩,0),(0,0))).2=o at *
   simp only [e1]
   have:=ih (λc hc'=>hc c (QO _ hc')) st1 (l.eraseIdx k) (inn % M64+o.1) (over || decide ((inn % M64+o.1) % M64<inn % M64)) B1
   cases hs:JW r (l.eraseIdx k,(inn % M64+o.1) % M64,over || decide ((inn % M64+o.1) % M64<inn % M64)) with
   | none=>rw [hs] at this;simp only at this;simp only [this]
   | some q=>
    obtain ⟨l',inn',over'⟩:=q
    rw [hs] at this
    obtain ⟨st',os,e2,B2,e3,e4⟩:=this
    refine ⟨st',o :: os,by simp only [e2],B2,?_,?_⟩
    ·rw [e3,Zx,Nat.add_assoc,Nat.mod_add_mod]
    ·rw [e4,Zx,Bool.or_eq_true,decide_eq_true_iff]
     generalize JC os os.length=S
     have hm:inn % M64<M64:=Nat.mod_lt _ (by decide)
     generalize inn % M64=I at *
     generalize (over=true)=P
     unfold M64 at *
     constructor
     ·rintro ((h | h) | h)
      ·exact .inl h
      ·right;omega
      ·right;omega
     ·rintro (h | h)
      ·exact .inl (.inl h)
      ·by_cases h2:18446744073709551616<=I+o.1
       ·left;right;omega
       ·right;omega
theorem Zu (wd:Nat) (id:BA) (hid:id.size=wd):∀(os:List (Nat×Nat)),(∀o∈os,Jq o)->∀(i:Nat),i+os.length<=3->∀(st:Option Tr) (l:List Held) (out:Nat) (over:Bool),Book wd st l->
  match Jz id i os (l,out % M64,over) with
  | none=>JM id i os st=.error .exist
  | some (l',out',over')=>∃st',JM id i os st=.ok st'/\Book wd st' l'/\out'=(out+JC os os.length) % M64/\(over'=true↔over=true\/M64<=out % M64+JC os os.length):=by
 intro os
 induction os with
 | nil=>intro _ i _ st l out over B;exact ⟨st,rfl,B,by simp [JC],by simp [JC];intro h;exact absurd h (by have:out % M64<M64:=Nat.mod_lt _ (by decide);omega)⟩
 | cons o r ih=>
  intro ho i hi st l out over B
  rw [Qp] at hi
  have hco:Jk wd (id,(i:Int)):=⟨hid,by simp only;omega,by simp only;omega⟩
  have hw:=B.with hco (ho o QM)
  simp only [Jz,JM]
  cases hf:JT l (id,(i:Int)) with
  | some k=>rw [hf] at hw;simp only at hw;simp only [hw]
  | none=>
   rw [hf] at hw
   obtain ⟨st1,e1,B1⟩:=hw
   have ha:o.1<M64:=(ho o QM).1
   simp only [e1]
   have:=ih (λc hc'=>ho c (QO _ hc')) (i+1) (by omega) st1 (l++[((id,(i:Int)),o)]) (out % M64+o.1) (over || decide ((out % M64+o.1) % M64<out % M64)) B1
   cases hs:Jz id (i+1) r (l++[((id,(i:Int)),o)],(out % M64+o.1) % M64,over || decide ((out % M64+o.1) % M64<out % M64)) with
   | none=>rw [hs] at this;simp only at this;simp only [this]
   | some q=>
    obtain ⟨l',out',over'⟩:=q
    rw [hs] at this
    obtain ⟨st',e2,B2,e3,e4⟩:=this
    refine ⟨st',e2,B2,?_,?_⟩
    ·rw [e3,Zx,Nat.add_assoc,Nat.mod_add_mod]
    ·rw [e4,Zx,Bool.or_eq_true,decide_eq_true_iff]
     generalize JC r r.length=S
     have hm:out % M64<M64:=Nat.mod_lt _ (by decide)
     generalize out % M64=I at *
     generalize (over=true)=P
     unfold M64 at *
     constructor
     ·rintro ((h | h) | h)
      ·exact .inl h
      ·right;omega
      ·right;omega
     ·rintro (h | h)
      ·exact .inl (.inl h)
      ·by_cases h2:18446744073709551616<=I+o.1
       ·left;right;omega
       ·right;omega
theorem Jdi (wd:Nat) (dg:List UInt8->BA) (hdg:∀l,(dg l).size=wd) (t:TxL) (ht:TxOk wd t) (st:Option Tr) (l:List Held) (B:Book wd st l):
  match Xb dg l t with
  | .error e=>JR dg st t=.error e
  | .ok l'=>∃st',JR dg st t=.ok st'/\Book wd st' l':=by
 have h1:=JfF wd t.1 ht.coins st l 0 false B
 simp only [Xb,JR]
 rw [show (0:Nat) % M64=0 from rfl] at h1
 cases hs:JW t.1 (l,0,false) with
 | none=>rw [hs] at h1;simp only at h1;simp only [h1]
 | some q=>
  obtain ⟨l1,inn,ov⟩:=q
  rw [hs] at h1
  obtain ⟨st1,os,e1,B1,e2,e3⟩:=h1
  simp only [e1]
  have h2:=Zu wd (dg (84 :: txB t)) (hdg _) t.2 ht.outs 0 (by have:=ht.made;omega) st1 l1 0 ov B1
  rw [show (0:Nat) % M64=0 from rfl] at h2
  cases hr:Jz (dg (84 :: txB t)) 0 t.2 (l1,0,ov) with
  | none=>rw [hr] at h2;simp only at h2;simp only [h2]
  | some q=>
   obtain ⟨l2,out,ov2⟩:=q
   rw [hr] at h2
   obtain ⟨st2,e4,B2,e5,e6⟩:=h2
   simp only [e4]
   have hb:(ov2=true\/inn<out)↔Xk os t.2:=by
    rw [e6,e3,e2,e5]
    unfold Xk
    simp only [Nat.zero_add]
    simp only [Bool.false_eq_true,false_or]
    generalize JC os os.length=A
    generalize JC t.2 t.2.length=C
    unfold M64
    omega
   by_cases hbs:Xk os t.2
   ·rw [if_pos (hb.2 hbs),if_pos hbs]
   ·rw [if_neg (λh=>hbs (hb.1 h)),if_neg hbs];exact ⟨st2,rfl,B2⟩

def dgW (wd:Nat) (l:List UInt8):ByteArray:=⟨((digL l).take wd).toArray⟩
theorem Jp (wd:Nat) (hw:wd<=32) (l:List UInt8):(dgW wd l).size=wd:=by
 show ((digL l).take wd).toArray.size=wd
 simp [Jbi];omega
open Go

section
variable {P:Program} {md:Region.Mode} {Q:Exit->Act->World->Prop}

def Zt (md:Region.Mode) (o:Oper):List Nat:=(o.after.toList.filter (Region.binds md)).map (·.on)
def Jjq (md:Region.Mode) (l:List Oper):Nat->List Nat->List Nat
 | 0,D=>D
 | n+1,D=>Jjq md l n ((D++D.flatMap λj=>((l[j]?).map (Zt md)).getD []).eraseDups)
def Jgf (md:Region.Mode) (l:List Oper) (o:Oper) (n:Nat):Bool:=
 (List.range l.length).all (λj=>(Jjq md l n (Zt md o)).contains j) && (Zt md o).all (λj=>decide (j<l.length)) &&
 (List.range l.length).all (λi=>((l[i]?).map (λx=>(Zt md x).all (λj=>decide (j<i)))).getD true) && l.all (λx=>x.guard.isNone) && o.guard.isNone
theorem Yq {o:Oper} {j:Nat}:j∈Zt md o↔∃e∈o.after,Region.binds md e=true/\e.on=j:=by
 simp only [Zt,List.mem_map,List.mem_filter,Array.mem_toList_iff,and_assoc]
def Jf5 (md:Region.Mode) (l:List Oper) (listed:Array Bool):Prop:=∀i o,l[i]? =some o->listed.getD i false=true->∀j∈Zt md o,listed.getD j false=true
theorem JaV {l:List Oper} {listed:Array Bool} (h:Jf5 md l listed):∀(n:Nat) (D:List Nat),(∀j∈D,listed.getD j false=true)->∀j∈Jjq md l n D,listed.getD j false=true
 | 0,_,hD=>hD
 | n+1,D,hD=>JaV h n _ (λj hj=>by
   rw [List.mem_eraseDups,List.mem_append,List.mem_flatMap] at hj
   rcases hj with hj | ⟨i,hi,hj⟩
   ·exact hD j hj
   ·cases ho:l[i]? with
    | none=>rw [ho] at hj;simp at hj
    | some o=>rw [ho] at hj;exact h i o ho (hD i hi) j (by simpa using hj))
def Jf3 (P:Program) (ops:Array Oper) (o:Oper) (Q:Exit->Act->World->Prop):Exit->Act->World->Prop
 | .normal,a,w=>wpList P ops Q [o] a w
 | e,a,w=>Q e a w
theorem YG {listed:Array Bool} {i:Nat} (h:i<listed.size) (d:Bool):(listed.push false).getD i d=listed.getD i d:=by
 simp [Array.getD,h,Array.getElem_push_lt,Nat.lt_succ_of_lt h]
theorem Jcq {l:List Oper} {o:Oper} {n:Nat} (hB:Jgf md l o n=true):∀(fuel:Nat) (listed:Array Bool) (a:Act) (w:World),listed.size=l.length->Jf5 md l listed->
  wpAny P md l.toArray (Jf3 P (l++[o]).toArray o Q) fuel listed a w->wpAny P md (l++[o]).toArray Q (fuel+1) (listed.push false) a w:=by
 simp only [Jgf,Bool.and_eq_true,List.all_eq_true,List.mem_range,List.contains_iff_mem,decide_eq_true_eq,Option.isNone_iff_eq_none] at hB
 obtain ⟨⟨⟨⟨h1,h2⟩,h3⟩,h4⟩,h5⟩:=hB
 have hlast:∀listed:Array Bool,listed.size=l.length->Jf5 md l listed->l.length∈Region.ready md (l++[o]).toArray (listed.push false)->∀j<l.length,listed.getD j false=true:=by
  intro listed hs hc hr j hj
  obtain ⟨_,o',ho',hall⟩:=mem_ready.1 hr
  have ho'':o'=o:=by simpa using ho'.symm
  subst ho''
  refine JaV hc n _ (λi hi=>?_) j (h1 j hj)
  obtain ⟨e,he,hb,rfl⟩:=Yq.1 hi
  have:=hall e he hb
  rwa [YG (by rw [hs];exact h2 _ hi)] at this
 have hsame:∀(listed:Array Bool),listed.size=l.length->∀i,i<l.length->(i∈Region.ready md (l++[o]).toArray (listed.push false)↔i∈Region.ready md l.toArray listed):=by
  intro listed hs i hi
  rw [mem_ready,mem_ready,YG (by omega)]
  have e1:((l++[o]).toArray)[i]? =l.toArray[i]? :=by simp [List.getElem?_append_left hi]
  rw [e1]
  refine and_congr_right λ_=>exists_congr λx=>and_congr_right λhx=>forall_congr' λe=>forall_congr' λhe=>forall_congr' λhb=>?_
  have hx':l[i]? =some x:=by simpa using hx
  have hlt:e.on<i:=by
   have:=h3 i hi
   rw [hx'] at this
   simp only [Option.map_some,Option.getD_some,List.all_eq_true,decide_eq_true_eq] at this
   exact this _ (Yq.2 ⟨e,he,hb,rfl⟩)
  rw [YG (by omega)]
 have hempty:∀(listed:Array Bool),listed.size=l.length->Region.ready md l.toArray listed=[]->∀j<l.length,listed.getD j false=true:=by
  intro listed hs hr j
  induction j using Nat.strongRecOn with
  | _ j ih=>
   intro hj
   cases hd:listed.getD j false with
   | true=>rfl
   | false=>
    exfalso
    have:j∈Region.ready md l.toArray listed:=by
     refine mem_ready.2 ⟨?_,l[j],by simp [hj],λe he hb=>?_⟩
     ·have hj':j<listed.size:=by omega
      simp [Array.getD,hj'] at hd ⊢;exact hd
     ·have hx:=h3 j hj
      rw [List.getElem?_eq_getElem hj] at hx
      simp only [Option.map_some,Option.getD_some,List.all_eq_true,decide_eq_true_eq] at hx
      have:=hx _ (Yq.2 ⟨e,he,hb,rfl⟩)
      exact ih _ this (by omega)
    rw [hr] at this;cases this
 have hwO:∀(listed:Array Bool) (i:Nat) (K:Act->World->Prop) (Q':Exit->Act->World->Prop) (a:Act) (w:World),i<l.length->wpOp P l.toArray Q' i K a w->wpOp P (l++[o]).toArray Q' i K a w:=by
  intro listed i K Q' a w hi h
  unfold wpOp at *
  have e1:((l++[o]).toArray)[i]? =l.toArray[i]? :=by simp [List.getElem?_append_left hi]
  rw [e1]
  have e2:l.toArray[i]? =some l[i]:=by simp [hi]
  rw [e2] at h ⊢
  have hg:(l[i]).guard=none:=h4 _ (List.getElem_mem hi)
  simpa only [Region.wanted,hg,if_true] using h
 have hQ:∀(i:Nat) (K:Act->World->Prop) (a:Act) (w:World),wpOp P (l++[o]).toArray (Jf3 P (l++[o]).toArray o Q) i K a w->wpOp P (l++[o]).toArray Q i K a w:=by
  intro i K a w h
  unfold wpOp at *
  split at h
  ·exact h
  ·rename_i x hx
   split at h
   ·rename_i hw
    rw [if_pos hw]
    rcases h with h | ⟨h,hl⟩
    ·refine .inl ?_
     unfold Oper.wp at *
     generalize (execOp a.eval x).run P w=r at *
     cases r with
     | ok nx w'=>
      cases nx <;> simp only [Oper.upon] at h ⊢ <;> first | exact h | exact Calls.mono h (λe w'' he=>by cases e <;> exact he)
     | halt y w'=>cases y <;> simp only [Oper.upon] at h ⊢ <;> exact h
    ·exact .inr ⟨h,hl⟩
   ·rename_i hw;rw [if_neg hw];exact h
 have hk:∀(listed:Array Bool),listed.size=l.length->∀i∈Region.ready md (l++[o]).toArray (listed.push false),i<l.length\/i=l.length:=by
  intro listed hs i hi
  obtain ⟨_,x,hx,_⟩:=mem_ready.1 hi
  have:=(Array.getElem?_eq_some_iff.1 hx).1
  simp at this
  omega
 have hend:∀(fuel:Nat) (listed:Array Bool) (a:Act) (w:World),listed.size=l.length->(∀j<l.length,listed.getD j false=true)->wpList P (l++[o]).toArray Q [o] a w->wpAny P md (l++[o]).toArray Q (fuel+1) (listed.push false) a w:=by
  intro fuel listed a w hs hall h
  have hkr:l.length∈Region.ready md (l++[o]).toArray (listed.push false):=by
   refine mem_ready.2 ⟨?_,o,by simp,λe he hb=>?_⟩
   ·simp [Array.getD,<-hs]
   ·have:=h2 _ (Yq.2 ⟨e,he,hb,rfl⟩)
    rw [YG (by omega)];exact hall _ this
  have honly:∀i∈Region.ready md (l++[o]).toArray (listed.push false),i=l.length:=by
   intro i hi
   rcases hk listed hs i hi with hlt | he
   ·have h0:=(mem_ready.1 hi).1
    rw [YG (by omega)] at h0
    have:=hall i hlt
    have hj':i<listed.size:=by omega
    simp [Array.getD,hj'] at h0 this
    rw [h0] at this;cases this
   ·exact he
  refine ⟨λh0=>(by rw [h0] at hkr;cases hkr),λi hi=>?_⟩
  have:=honly i hi
  subst this
  have hend2:∀(f:Nat) (a:Act) (w:World),Q .normal a w->wpAny P md (l++[o]).toArray Q f ((listed.push false).setIfInBounds l.length true) a w:=by
   intro f a w hq
   have hnone:Region.ready md (l++[o]).toArray ((listed.push false).setIfInBounds l.length true)=[]:=by
    cases hr:Region.ready md (l++[o]).toArray ((listed.push false).setIfInBounds l.length true) with
    | nil=>rfl
    | cons i t=>
     exfalso
     have hi':i∈Region.ready md (l++[o]).toArray ((listed.push false).setIfInBounds l.length true):=by rw [hr];exact List.mem_cons_self
     obtain ⟨h0,x,hx,_⟩:=mem_ready.1 hi'
     have hlt:=(Array.getElem?_eq_some_iff.1 hx).1
     simp at hlt
     by_cases hil:i=l.length
     ·subst hil;simp [Array.getD,<-hs] at h0
     ·rw [getD_set_ne true (λe=>hil e.symm),YG (by omega)] at h0
      have:=hall i (by omega)
      have hj':i<listed.size:=by omega
      simp [Array.getD,hj'] at h0 this
      rw [h0] at this;cases this
   cases f with
   | zero=>exact ⟨hnone,hq⟩
   | succ f=>exact ⟨λ_=>hq,by rw [hnone];intro i hi;cases hi⟩
  unfold wpOp
  have e2:((l++[o]).toArray)[l.length]? =some o:=by simp
  rw [e2]
  simp only [wpList] at h
  simp only [Region.wanted,h5,if_true] at h ⊢
  rcases h with h | h
  ·exact .inl (Oper.wp_mono (λa w hq=>hend2 fuel a w hq) h)
  ·exact .inr h
 intro fuel
 induction fuel with
 | zero=>
  intro listed a w hs hc h
  exact hend 0 listed a w hs (hempty listed hs h.1) h.2
 | succ fuel ih=>
  intro listed a w hs hc h
  by_cases hne:Region.ready md l.toArray listed=[]
  ·exact hend (fuel+1) listed a w hs (hempty listed hs hne) (h.1 hne)
  ·refine ⟨λh0=>?_,λi hi=>?_⟩
   ·exfalso
    cases hr:Region.ready md l.toArray listed with
    | nil=>exact hne hr
    | cons j t=>
     have hj:j∈Region.ready md l.toArray listed:=by rw [hr];exact List.mem_cons_self
     have hlt:j<l.length:=by
      obtain ⟨_,x,hx,_⟩:=mem_ready.1 hj
      simpa using (Array.getElem?_eq_some_iff.1 hx).1
     have:=(hsame listed hs j hlt).2 hj
     rw [h0] at this;cases this
   ·rcases hk listed hs i hi with hlt | he
    ·have hi':=(hsame listed hs i hlt).1 hi
     have hw:=h.2 i hi'
     have hset:(listed.push false).setIfInBounds i true=(listed.setIfInBounds i true).push false:=by
      apply Array.ext_getElem?
      intro j
      simp only [Array.getElem?_setIfInBounds,Array.getElem?_push,Array.size_setIfInBounds,Array.size_push]
      by_cases hji:i=j
      ·subst hji;simp [hs,hlt,Nat.lt_succ_of_lt hlt,Nat.ne_of_lt hlt]
      ·simp [hji]
     have hc':Jf5 md l (listed.setIfInBounds i true):=by
      intro m x hx hm j hj
      by_cases hmi:m=i
      ·subst hmi
       obtain ⟨_,x',hx',hall⟩:=mem_ready.1 hi'
       have:x'=x:=by
        have:l[m]? =some x':=by simpa using hx'
        rw [hx] at this;exact (Option.some.inj this).symm
       subst this
       obtain ⟨e,he,hb,rfl⟩:=Yq.1 hj
       exact getD_set_true (hall e he hb)
      ·rw [getD_set_ne false (λe=>hmi e.symm)] at hm
       exact getD_set_true (hc m x hx hm j hj)
     refine hQ i _ a w (hwO listed i _ _ a w hlt (wpOp_mono (λa' w' h'=>?_) hw))
     rw [hset]
     exact ih _ a' w' (by simp [hs]) hc' h'
    ·subst he
     have:=hlast listed hs hc hi
     exfalso
     apply hne
     cases hr:Region.ready md l.toArray listed with
     | nil=>rfl
     | cons j t=>
      have hj:j∈Region.ready md l.toArray listed:=by rw [hr];exact List.mem_cons_self
      obtain ⟨h0,x,hx,_⟩:=mem_ready.1 hj
      have hlt:j<l.length:=by simpa using (Array.getElem?_eq_some_iff.1 hx).1
      have h':=this j hlt
      have hj':j<listed.size:=by omega
      simp [Array.getD,hj'] at h0 h'
      rw [h0] at h';cases h'
theorem ZO (n:Nat):(Array.replicate n false).push false=Array.replicate (n+1) false:=by rw [Array.replicate_succ]

variable {S:World->Prop}
theorem YC {id:Nat} {a:Act} {w:World} {L:List Oper} (n:Nat) (hne:L ≠ []) (hm:P.follows .mixedOrders=true) (hB:Jgf .any L.dropLast (L.getLast hne) n=true) (hS:S w.drew)
  (h:S w.drew->∀l o,L.dropLast=l->L.getLast hne=o->wpAnyH P .any l.toArray (Jf3 P L.toArray o Q) S l.length (Array.replicate l.length false) a w.drew):(Code.region id L.toArray true).wp P Q a w:=by
 refine wp_region_any hm ?_
 have e:L=L.dropLast++[L.getLast hne]:=(List.dropLast_concat_getLast hne).symm
 have h1:=wpAny_of_held _ _ _ _ (h hS _ _ rfl rfl)
 have h2:=Jcq (Q:=Q) hB L.dropLast.length (Array.replicate L.dropLast.length false) a w.drew (by simp) (λi o _ hi=>by simp [Array.getD] at hi) (by rw [<-e];exact h1)
 rw [<-e,ZO] at h2
 have hl:L.dropLast.length+1=L.toArray.size:=by
  have:=congrArg List.length e
  simpa using this.symm
 rw [hl] at h2
 exact h2
theorem JlO {l:List Oper} {md:Region.Mode} {i:Nat} {oi:Oper} {v:Value} {fuel:Nat} {listed:Array Bool} {a:Act} {w:World} (hi:l[i]? =some oi)
  (hs:Region.noSelect l.toArray=true) (hf:Region.free md l.toArray listed i=true) (hr:(Region.ready md l.toArray listed).contains i=true)
  (hQ:∀c a w,Q (.panic c) (a.put oi.dst v) w->Q (.panic c) a w) (hg:oi.guard=none) (hy:∀w,S w->(execOp a.eval oi).run P w=.ok (.value v) w) (hS:S w)
  (h:wpAnyH P md l.toArray Q S fuel (listed.setIfInBounds i true) (a.put oi.dst v) w):wpAnyH P md l.toArray Q S (fuel+1) listed a w:=
 wpAnyH_take (by simpa using hi) hs hf hr hQ (.inl ⟨by simp [Region.wanted,hg],hy⟩) hS h
theorem tkL {l:List Oper} {md:Region.Mode} (i:Nat) {oi:Oper} {v:Value} {fuel:Nat} {listed:Array Bool} {a:Act} {w:World} (h:wpAnyH P md l.toArray Q S fuel (listed.setIfInBounds i true) (a.put oi.dst v) w) (hi:l[i]? =some oi:=by rfl) (hs:Region.noSelect l.toArray=true:=by kernel_rfl) (hf:Region.free md l.toArray listed i=true:=by kernel_rfl) (hr:(Region.ready md l.toArray listed).contains i=true:=by kernel_rfl)
  (hQ:∀c a w,Q (.panic c) (a.put oi.dst v) w->Q (.panic c) a w:=by exact λ_ _ _ h=>h) (hg:oi.guard=none:=by rfl) (hy:∀w,S w->(execOp a.eval oi).run P w=.ok (.value v) w:=by intro W hSW;(try dsimp only at hSW);go_simp;(try with_reducible rfl)) (hS:S w:=by first | assumption | trivial):wpAnyH P md l.toArray Q S (fuel+1) listed a w:=JlO hi hs hf hr hQ hg hy hS h
theorem ZA {l:List Oper} {md:Region.Mode} {i:Nat} {oi:Oper} {fuel:Nat} {listed:Array Bool} {a:Act} {w:World} (hi:l[i]? =some oi) (hr:Region.ready md l.toArray listed=[i])
  (h:∀K:Act->World->Prop,Shut (∀a w,S w->(S w->wpAnyH P md l.toArray Q S fuel (listed.setIfInBounds i true) a w)->K a w)->if Region.wanted oi (yielded l.toArray a.tmps)=true then Oper.wp P oi a w K Q else K (a.put oi.dst undef) w):wpAnyH P md l.toArray Q S (fuel+1) listed a w:=
 wpAnyH_ready hr (by simp) (AllReadyH.cons (o:=oi) (by simpa using hi) h AllReadyH.nil)
end


def Tr.dig (d:List UInt8->BA):Tr->BA
 | ⟨.inl (k,o)⟩=>d (76 :: (k++outB o))
 | ⟨.inr (b,l,r)⟩=>d (78 :: (beL b 2 2++((l.dig d).data.toList++(r.dig d).data.toList)))
def Xc (d:List UInt8->BA):Option Tr->BA
 | none=>d [69]
 | some t=>t.dig d
abbrev Ch:=List (BA×Option Tr)
def Ch.last (ch:Ch):BA×Option Tr:=ch.getLastD (⟨#[]⟩,none)
def YS (d:List UInt8->BA) (ch:Ch) (body:List UInt8) (st:BA):HdL:=(ch.length,d (72 :: ch.last.1.data.toList),d (66 :: body),st)
def JeJ (d:List UInt8->BA) (wd:Nat) (ch:Ch) (ts:List TxL):Except Er (List UInt8):=
 match (PS.wr []).body wd ts with
 | some (_,⟨.inr body⟩)=>match JO d ch.last.2 ts with
  | .error e=>.error e
  | .ok st=>match (PS.wr []).hdr wd (YS d ch body (Xc d st)) with
   | some (_,⟨.inr h⟩)=>.ok (h++body)
   | _=>.error .form
 | _=>.error .form
def Yo (d:List UInt8->BA) (wd:Nat) (ch:Ch) (text:List UInt8):Except Er Ch:=
 match (PS.rd [] text).hdr wd (0,⟨#[]⟩,⟨#[]⟩,⟨#[]⟩) with
 | some (h,⟨.inl (pre,body)⟩)=>match (PS.rd pre body).body wd [] with
  | some (ts,⟨.inl (_,[])⟩)=>if h ≠ YS d ch body h.2.2.2 then .error .tip else match JO d ch.last.2 ts with
   | .error e=>.error e
   | .ok st=>if h.2.2.2 ≠ Xc d st then .error .root else .ok (ch++[(⟨(text.take (text.length - body.length)).toArray⟩,st)])
  | _=>.error .form
 | _=>.error .form
theorem XN (d:List UInt8->BA) (wd:Nat) (hd:∀l,(d l).size=wd) (st:Option Tr):(Xc d st).size=wd:=by
 cases st with
 | none=>exact hd _
 | some t=>cases t using Tr.ri <;> exact hd _
def XU (d:List UInt8->BA) (ch:Ch) (ts:List TxL) (st:Option Tr):List UInt8:=hdrB (YS d ch (JZ ts) (Xc d st))++JZ ts
theorem Jey (d:List UInt8->BA) (wd:Nat) (hd:∀l,(d l).size=wd) (ch:Ch) (hc:ch.length<2 ^ 32) (body:List UInt8) (st:Option Tr):HdOk wd (YS d ch body (Xc d st)):=
 ⟨hc,hd _,hd _,XN d wd hd st⟩
theorem Jgl (d:List UInt8->BA) (wd:Nat) (hd:∀l,(d l).size=wd) (ch:Ch) (hc:ch.length<2 ^ 32) (ts:List TxL) (h:∀t∈ts,TxOk wd t) (h3:ts.length<=3):
  JeJ d wd ch ts=match JO d ch.last.2 ts with | .error e=>.error e | .ok st=>.ok (XU d ch ts st):=by
 unfold JeJ
 rw [(JdL wd ts h h3).wr]
 dsimp only
 rw [List.nil_append]
 cases JO d ch.last.2 ts with
 | error e=>rfl
 | ok st=>
  dsimp only
  rw [(JdM wd _ (0,⟨#[]⟩,⟨#[]⟩,⟨#[]⟩) (Jey d wd hd ch hc (JZ ts) st)).wr]
  rfl
theorem Jd7 (d:List UInt8->BA) (wd:Nat) (hd:∀l,(d l).size=wd) (ch:Ch) (hc:ch.length<2 ^ 32) (ts:List TxL) (h:∀t∈ts,TxOk wd t) (h3:ts.length<=3) (st:Option Tr) (ha:JO d ch.last.2 ts=.ok st):
  Yo d wd ch (XU d ch ts st)=.ok (ch++[(⟨(hdrB (YS d ch (JZ ts) (Xc d st))).toArray⟩,st)]):=by
 have hb:=JdL wd ts h h3
 have hh:=JdM wd _ (0,⟨#[]⟩,⟨#[]⟩,⟨#[]⟩) (Jey d wd hd ch hc (JZ ts) st)
 unfold Yo XU
 rw [hh.rd]
 dsimp only
 have:=hb.rd ([]++hdrB (YS d ch (JZ ts) (Xc d st))) []
 rw [QC] at this
 rw [this]
 dsimp only
 rw [if_neg (by simp [YS]),ha]
 dsimp only
 rw [if_neg (by simp [YS])]
 simp
def Xw (dg:List UInt8->BA):List Held->List TxL->Except Er (List Held)
 | l,[]=>.ok l
 | l,t :: r=>match Xb dg l t with
  | .error e=>.error e
  | .ok l1=>Xw dg l1 r

def Tr.text (d:List UInt8->BA):Tr->List UInt8
 | ⟨.inl (k,o)⟩=>76 :: (k++outB o)
 | ⟨.inr (b,l,r)⟩=>78 :: (beL b 2 2++((l.dig d).data.toList++(r.dig d).data.toList))
theorem Tr.dig_text (d:List UInt8->BA) (t:Tr):t.dig d=d (t.text d):=by cases t using Tr.ri <;> rfl
def Jld (d:List UInt8->BA):Option Tr->List UInt8
 | none=>[69]
 | some t=>t.text d
theorem JfG (d:List UInt8->BA) (st:Option Tr):Xc d st=d (Jld d st):=by
 cases st with
 | none=>rfl
 | some t=>exact t.dig_text d
abbrev KO:=Key×(Nat×Nat)

abbrev Stp:=Nat×BA
abbrev Wy:=List Stp×Option KO
def Tr.way (d:List UInt8->BA) (k:Key):Tr->List Stp×KO
 | ⟨.inl (k',o)⟩=>([],(k',o))
 | ⟨.inr (b,l,r)⟩=>if bt k b=0 then (((b,r.dig d) :: (l.way d k).1),(l.way d k).2) else (((b,l.dig d) :: (r.way d k).1),(r.way d k).2)
def Yc (d:List UInt8->BA) (k:Key):Option Tr->Wy
 | none=>([],none)
 | some t=>((t.way d k).1,some (t.way d k).2)
def XV:Option KO->List UInt8
 | none=>[69]
 | some (k,o)=>76 :: (k++outB o)
def XB (w:Wy):Key:=match w.2 with | none=>[] | some (k,_)=>k
def Yi (d:List UInt8->BA) (key:Key) (e:List UInt8):List Stp->List (List UInt8)
 | []=>[e]
 | (b,oth) :: r=>(78 :: (beL b 2 2++(if bt key b=0 then (d ((Yi d key e r).headD [])).data.toList++oth.data.toList else oth.data.toList++(d ((Yi d key e r).headD [])).data.toList))) :: Yi d key e r
def Wy.nodes (d:List UInt8->BA) (w:Wy):List (List UInt8):=Yi d (XB w) (XV w.2) w.1
theorem Tr.way_near (d:List UInt8->BA) (k:Key) (t:Tr):(t.way d k).2=t.near k:=by
 induction t using Tr.ri with
 | leaf=>rfl
 | br b l r ihl ihr=>simp only [way,near];split <;> assumption
theorem Tr.way_bits (d:List UInt8->BA) (k:Key) (t:Tr) (hw:t.Wf):∀s∈(t.way d k).1,bt (t.near k).1 s.1=bt k s.1:=by
 induction t using Tr.ri with
 | leaf=>intro s hs;cases hs
 | br b l r ihl ihr=>
  obtain ⟨w1,w2,h0,h1,_⟩:=hw
  have k2:=Yw k b
  intro s hs
  simp only [way] at hs
  simp only [near]
  split at hs <;> rename_i hz
  ·simp only [hz,if_true]
   simp only [List.mem_cons] at hs
   rcases hs with rfl | hs
   ·have:=h0 _ (near_mem k l);simp only;omega
   ·exact ihl w1 s hs
  ·simp only [hz,if_false]
   simp only [List.mem_cons] at hs
   rcases hs with rfl | hs
   ·have:=h1 _ (near_mem k r);simp only;omega
   ·exact ihr w2 s hs
theorem Yn (d:List UInt8->BA) (key:Key) (e:List UInt8) (l:List Stp):(Yi d key e l).length=l.length+1:=by
 induction l with
 | nil=>rfl
 | cons s r ih=>obtain ⟨b,o⟩:=s;simp [Yi,ih]
theorem Tr.way_root (d:List UInt8->BA) (k:Key) (t:Tr) (hw:t.Wf) (key:Key) (hk:∀s∈(t.way d k).1,bt key s.1=bt k s.1):(Yi d key (XV (some (t.way d k).2)) (t.way d k).1).headD []=t.text d:=by
 induction t using Tr.ri with
 | leaf=>rfl
 | br b l r ihl ihr=>
  obtain ⟨w1,w2,h0,h1,_⟩:=hw
  have k2:=Yw k b
  simp only [way] at hk ⊢
  split
  ·rename_i hz
   simp only [hz,if_true] at hk
   have hb:=hk (b,r.dig d) (by simp)
   simp only at hb
   have:=ihl w1 (λs hs=>hk s (by simp [hs]))
   simp only [Yi,List.headD_cons]
   rw [hb,this,if_pos hz,<-Tr.dig_text d l];rfl
  ·rename_i hz
   simp only [hz,if_false] at hk
   have hb:=hk (b,l.dig d) (by simp)
   simp only at hb
   have:=ihr w2 (λs hs=>hk s (by simp [hs]))
   simp only [Yi,List.headD_cons]
   rw [hb,this,if_neg hz,<-Tr.dig_text d r];rfl
def Wy.said (w:Wy) (k:Key):Option (Nat×Nat):=match w.2 with | none=>none | some (k',o)=>if k'=k then some o else none
theorem JkL {a b:BA} (h:a.data.toList=b.data.toList):a=b:=by
 cases a;cases b;simp only at h;rw [Array.toList_inj] at h;rw [h]
theorem JfK (d:List UInt8->BA) (wd:Nat) (st:Option Tr) (l:List Held) (B:Book wd st l) (c:BA×Int) (hc:Jk wd c):(Yc d (Jd c) st).said (Jd c)=(JT l c).map λk=>(l.getD k ((⟨#[]⟩,0),(0,0))).2:=by
 have hw:=B.without hc
 cases st with
 | none=>
  obtain rfl:=B.none
  rfl
 | some t=>
  simp only [Yc,Wy.said,Tr.way_near]
  cases h:JT l c with
  | none=>
   rw [h] at hw
   simp only [JN] at hw
   split at hw
   ·cases hw
   ·rw [if_neg (by assumption)];rfl
  | some k=>
   rw [h] at hw
   obtain ⟨st',e,_⟩:=hw
   simp only [JN] at e
   split at e
   ·rename_i hk
    simp only [Except.ok.injEq,Qw] at e
    rw [if_pos hk,e.2];rfl
   ·cases e

section
variable {P:Program} {md:Region.Mode} {Q:Exit->Act->World->Prop} {l n:Nat}
theorem Jgj {o:Oper} {a:Act} {w:World} {K K':Act->World->Prop} (hnd:∀c,o.op ≠ .defer c) (hK:∀a w,K a w->K' a w) (h:Oper.wp P o a w K Q):Oper.wpIn (Fence.wide.inRound l) n P o a w K' Q:=by
 unfold Oper.wpIn
 refine ⟨λ_ _=>trivial,?_⟩
 rw [Fence.inRound_round,Oper.semAt_some l _ _ hnd]
 unfold Oper.wp at h
 generalize (execOp a.eval o).run P w=r at *
 cases r with
 | ok x w'=>
  cases x with
  | enter f args=>
   refine ⟨λh=>by simp [Fence.wide] at h,callsIn_wide.2 (Calls.mono h ?_)⟩
   intro e w2 h2
   cases e with
   | returned v=>exact hK _ _ h2
   | panicked c=>exact h2
   | outgrown=>exact h2
  | row r args=>
   refine ⟨λh=>by simp [Fence.wide] at h,λc cs _=>?_⟩
   obtain ⟨v,w2,h2,h3⟩:=h c cs
   exact ⟨v,w2,hK _ _ h2,stepsIn_wide.2 h3⟩
  | value v=>exact hK _ _ h
  | skip=>exact hK _ _ h
  | defer d=>exact hK _ _ h
  | round _ _ _ _ _=>exact h.elim
  | _=>exact h.elim
 | halt hl w'=>
  cases hl with
  | panic v=>exact h
  | _=>exact h.elim
theorem JkJ {ops:Array Oper} (hnd:∀(i:Nat) o,ops[i]? =some o->∀c,o.op ≠ .defer c) (hQ:¬LetsOut Q):∀(fuel:Nat) (listed:Array Bool) (a:Act) (w:World),wpAny P md ops Q fuel listed a w->wpAnyIn (Fence.wide.inRound l) n P md ops Q fuel listed a w:=by
 intro fuel
 induction fuel with
 | zero=>intro listed a w h;exact h
 | succ fuel ih=>
  intro listed a w h
  refine ⟨h.1,λi hi=>?_⟩
  have h2:=h.2 i hi
  unfold wpOp at h2
  unfold wpOpIn
  cases ho:ops[i]? with
  | none=>rw [ho] at h2;exact ih _ _ _ h2
  | some o=>
   rw [ho] at h2
   dsimp only at h2 ⊢
   split
   ·rename_i hw
    rw [if_pos hw] at h2
    rcases h2 with h2 | h2
    ·exact Jgj (hnd i o ho) (ih _) h2
    ·exact absurd h2.2 hQ
   ·rename_i hw
    rw [if_neg hw] at h2
    exact ⟨λ_ _=>trivial,ih _ _ _ h2⟩
variable {S:World->Prop}
theorem Ye {id:Nat} {a:Act} {w:World} {L:List Oper} (m:Nat) (hne:L ≠ []) (hm:P.follows .mixedOrders=true) (hB:Jgf .any L.dropLast (L.getLast hne) m=true) (hnd:∀o∈L,∀c,o.op ≠ .defer c) (hQ:¬LetsOut Q) (hS:S w.drew)
  (h:S w.drew->∀l o,L.dropLast=l->L.getLast hne=o->wpAnyH P .any l.toArray (Jf3 P L.toArray o Q) S l.length (Array.replicate l.length false) a w.drew):(Code.region id L.toArray true).wpIn (Fence.wide.inRound l) n P Q a w:=by
 refine wpIn_region_any hm (JkJ (λi o ho=>hnd o (List.mem_of_getElem? (by simpa using ho))) hQ _ _ _ _ ?_)
 have e:L=L.dropLast++[L.getLast hne]:=(List.dropLast_concat_getLast hne).symm
 have h1:=wpAny_of_held _ _ _ _ (h hS _ _ rfl rfl)
 have h2:=Jcq (Q:=Q) hB L.dropLast.length (Array.replicate L.dropLast.length false) a w.drew (by simp) (λi o _ hi=>by simp [Array.getD] at hi) (by rw [<-e];exact h1)
 rw [<-e,ZO] at h2
 have hl:L.dropLast.length+1=L.toArray.size:=by
  have:=congrArg List.length e
  simpa using this.symm
 rw [hl] at h2
 exact h2
end
