import Derived.Test.YtighkdnooglfjaaGreatDoorBxPRt
namespace Go.Proofs.YtighkdnooglfjaaGreatDoor


inductive Er where | form | tip | input | exist | sum | root | range
 deriving DecidableEq
instance (l1 l2:List (Nat×Nat)):Decidable (Xb l1 l2):=by unfold Xb;infer_instance

def YB (st:Option Tr) (k:Key) (o:Nat×Nat):Except Er (Option Tr):=
 match st with
 | none=>.ok (some (.leaf k o))
 | some t=>if (t.near k).1=k then .error .exist else .ok (some (t.graft k o (fd (t.near k).1 k)))
def JM (st:Option Tr) (k:Key):Except Er (Option Tr×(Nat×Nat)):=
 match st with
 | none=>.error .input
 | some t=>if (t.near k).1=k then .ok (t.cut k,(t.near k).2) else .error .input
def JU:List (BA×Int)->Option Tr->Except Er (Option Tr×List (Nat×Nat))
 | [],st=>.ok (st,[])
 | c :: r,st=>match JM st (Jd c) with
  | .error e=>.error e
  | .ok (st1,o)=>match JU r st1 with
   | .error e=>.error e
   | .ok (st2,os)=>.ok (st2,o :: os)
def Jv (id:BA):Nat->List (Nat×Nat)->Option Tr->Except Er (Option Tr)
 | _,[],st=>.ok st
 | i,o :: r,st=>match YB st (Jd (id,(i:Int))) o with
  | .error e=>.error e
  | .ok st1=>Jv id (i+1) r st1
def JD (dg:List UInt8->BA) (st:Option Tr) (t:TxL):Except Er (Option Tr):=
 match JU t.1 st with
 | .error e=>.error e
 | .ok (st1,os)=>match Jv (dg (84 :: txB t)) 0 t.2 st1 with
  | .error e=>.error e
  | .ok st2=>if Xb os t.2 then .error .sum else .ok st2
def JA (dg:List UInt8->BA):Option Tr->List TxL->Except Er (Option Tr)
 | st,[]=>.ok st
 | st,t :: r=>match JD dg st t with
  | .error e=>.error e
  | .ok st1=>JA dg st1 r

abbrev Held:=(BA×Int)×(Nat×Nat)
def Xr (l:List Held) (c:BA×Int):Option Nat:=l.findIdx? (λh=>decide (h.1=c))
def M64:Nat:=18446744073709551616
def JjR:List (BA×Int)->List Held×Nat×Bool->Option (List Held×Nat×Bool)
 | [],s=>some s
 | c :: r,(now,inn,over)=>match Xr now c with
  | none=>none
  | some k=>JjR r (now.eraseIdx k,(inn+(now.getD k ((⟨#[]⟩,0),(0,0))).2.1) % M64,over || decide ((inn+(now.getD k ((⟨#[]⟩,0),(0,0))).2.1) % M64<inn))
def YU (id:BA):Nat->List (Nat×Nat)->List Held×Nat×Bool->Option (List Held×Nat×Bool)
 | _,[],s=>some s
 | i,o :: r,(now,out,over)=>match Xr now (id,(i:Int)) with
  | some _=>none
  | none=>YU id (i+1) r (now++[((id,(i:Int)),o)],(out+o.1) % M64,over || decide ((out+o.1) % M64<out))
def Jms (dg:List UInt8->BA) (l:List Held) (t:TxL):Except Er (List Held):=
 match JjR t.1 (l,0,false) with
 | none=>.error .input
 | some (now,inn,over)=>match YU (dg (84 :: txB t)) 0 t.2 (now,0,over) with
  | none=>.error .exist
  | some (now2,out,over2)=>if over2=true\/inn<out then .error .sum else .ok now2

structure Book (wj:Nat) (st:Option Tr) (l:List Held):Prop where
 wf:∀t,st=some t->t.Wf
 ok:∀h∈l,Jo wj h.1/\JC h.2
 nodup:(l.map (·.1)).Nodup
 mem:∀k o,(k,o)∈JS st↔∃h∈l,Jd h.1=k/\h.2=o
theorem Zh {wj:Nat} {c d:BA×Int} (h1:Jo wj c) (h2:Jo wj d) (h:Jd c=Jd d):c=d:=by
 obtain ⟨a1,a2,a3⟩:=h1
 obtain ⟨b1,b2,b3⟩:=h2
 unfold Jd at h
 obtain ⟨e1,e2⟩:=List.append_inj h (by simp only [QA];exact a1.trans b1.symm)
 have x1:=Yy c.2 a2 (by omega)
 have x2:=Yy d.2 b2 (by omega)
 have y:∀n,n<256->numL (beL n 1 1)=n:=λn hn=>by rw [Jb9 n 1 (by omega) 1 (Ql _)];simp
 have e3:Jw c.2=Jw d.2:=by rw [<-y (Jw c.2) (by omega),<-y (Jw d.2) (by omega),e2]
 have e4:c.2=d.2:=by rw [<-x1,<-x2,e3]
 have e5:c.1=d.1:=by
  have:c.1.data=d.1.data:=by rw [<-Array.toList_inj];exact e1
  cases hc:c.1;cases hd:d.1;rw [hc,hd] at this;simp only at this;rw [this]
 exact Prod.ext e5 e4
theorem JY {wj:Nat} {c:BA×Int} (h:Jo wj c):(Jd c).length=wj+1:=by
 unfold Jd;rw [Qe,Je];have:=h.1;simp only [QA];show c.1.data.size+1=_;rw [<-this];rfl
theorem JaA {l:List Held} {c:BA×Int} {k:Nat} (h:Xr l c=some k):∃hk:k<l.length,l[k].1=c:=by
 unfold Xr at h
 rw [List.findIdx?_eq_some_iff_getElem] at h
 obtain ⟨hk,h1,_⟩:=h
 exact ⟨hk,by simpa using h1⟩
theorem Jco {l:List Held} {c:BA×Int} (h:Xr l c=none):∀x∈l,x.1 ≠ c:=by
 unfold Xr at h
 rw [List.findIdx?_eq_none_iff] at h
 intro x hx;simpa using h x hx
theorem JhM {l:List Held} (hn:(l.map (·.1)).Nodup) {k:Nat} (hk:k<l.length):∀x,x∈l.eraseIdx k↔x∈l/\x.1 ≠ l[k].1:=by
 intro x
 have inj:∀(i j:Nat) (hi:i<l.length) (hj:j<l.length),l[i].1=l[j].1->i=j:=by
  intro i j hi hj e
  have:=(List.getElem_inj (i:=i) (j:=j) (h₀:=by simpa using hi) (h₁:=by simpa using hj) hn).1 (by simpa using e)
  exact this
 rw [List.mem_eraseIdx_iff_getElem]
 constructor
 ·rintro ⟨i,hi,hne,rfl⟩
  exact ⟨Qx hi,λe=>hne (inj i k hi hk e)⟩
 ·rintro ⟨hx,hne⟩
  obtain ⟨i,hi,rfl⟩:=List.getElem_of_mem hx
  exact ⟨i,hi,λe=>hne (by subst e;rfl),rfl⟩
theorem Book.find {wj:Nat} {st:Option Tr} {l:List Held} (B:Book wj st l) {c:BA×Int} (hc:Jo wj c) {t:Tr} (ht:st=some t):(t.near (Jd c)).1=Jd c↔∃k,Xr l c=some k:=by
 subst ht
 constructor
 ·intro h
  have hm:=t.near_mem (Jd c)
  have:((t.near (Jd c)).1,(t.near (Jd c)).2)∈JS (some t):=hm
  rw [h] at this
  obtain ⟨x,hx,h1,h2⟩:=(B.mem _ _).1 this
  cases hf:Xr l c with
  | some k=>exact ⟨k,rfl⟩
  | none=>exact absurd (Zh (B.ok x hx).1 hc h1) (Jco hf x hx)
 ·rintro ⟨k,hk⟩
  obtain ⟨hl,e⟩:=JaA hk
  have:(Jd c,l[k].2)∈JS (some t):=(B.mem _ _).2 ⟨l[k],Qx hl,by rw [e],rfl⟩
  rw [Tr.near_of_mem _ _ t (B.wf t rfl) this]
theorem Book.none {wj:Nat} {l:List Held} (B:Book wj Option.none l):l=[]:=by
 cases l with
 | nil=>rfl
 | cons x r=>exact absurd ((B.mem (Jd x.1) x.2).2 ⟨x,QN,rfl,rfl⟩) (by simp [JS])
theorem Book.without {wj:Nat} {st:Option Tr} {l:List Held} (B:Book wj st l) {c:BA×Int} (hc:Jo wj c):
  match Xr l c with
  | .none=>JM st (Jd c)=.error .input
  | .some k=>∃st',JM st (Jd c)=.ok (st',(l.getD k ((⟨#[]⟩,0),(0,0))).2)/\Book wj st' (l.eraseIdx k):=by
 cases st with
 | none=>
  obtain rfl:=B.none
  rfl
 | some t=>
  have hf:=B.find hc rfl
  cases h:Xr l c with
  | none=>
   simp only [JM]
   rw [if_neg]
   rw [hf];rintro ⟨k,hk⟩;rw [h] at hk;cases hk
  | some k=>
   obtain ⟨hl,e⟩:=JaA h
   have hn:(t.near (Jd c)).1=Jd c:=hf.2 ⟨k,h⟩
   have hm:(Jd c,l[k].2)∈JS (some t):=(B.mem _ _).2 ⟨l[k],Qx hl,by rw [e],rfl⟩
   have hnear:=Tr.near_of_mem _ _ t (B.wf t rfl) hm
   obtain ⟨g1,g2,g3⟩:=Tr.cut_ok (Jd c) t (B.wf t rfl) hn
   have hi:=JhM B.nodup hl
   refine ⟨t.cut (Jd c),?_,⟨g1,λx hx=>B.ok x ((hi x).1 hx).1,?_,λk' o=>?_⟩⟩
   ·simp only [JM]
    rw [if_pos hn,hnear]
    simp [List.getD_eq_getElem?_getD,List.getElem?_eq_getElem hl]
   ·exact B.nodup.sublist ((List.eraseIdx_sublist l k).map _)
   ·rw [g2]
    show (k',o)∈JS (some t)/\_↔_
    rw [B.mem]
    constructor
    ·rintro ⟨⟨x,hx,h1,h2⟩,h3⟩
     exact ⟨x,(hi x).2 ⟨hx,λe'=>h3 (by simp only;rw [<-h1,e',e])⟩,h1,h2⟩
    ·rintro ⟨x,hx,h1,h2⟩
     obtain ⟨hx1,hx2⟩:=(hi x).1 hx
     exact ⟨⟨x,hx1,h1,h2⟩,λe'=>hx2 (by rw [e];simp only at e';exact Zh (B.ok x hx1).1 hc (h1.trans e'))⟩
theorem Book.with {wj:Nat} {st:Option Tr} {l:List Held} (B:Book wj st l) {c:BA×Int} (hc:Jo wj c) {o:Nat×Nat} (ho:JC o):
  match Xr l c with
  | .some _=>YB st (Jd c) o=.error .exist
  | .none=>∃st',YB st (Jd c) o=.ok st'/\Book wj st' (l++[(c,o)]):=by
 have hok:Xr l c=Option.none->∀x∈l++[(c,o)],Jo wj x.1/\JC x.2:=by
  intro _ x hx
  rw [QE,Qt] at hx
  rcases hx with hx | rfl
  ·exact B.ok x hx
  ·exact ⟨hc,ho⟩
 have hnd:Xr l c=Option.none->((l++[(c,o)]).map (·.1)).Nodup:=by
  intro hf
  rw [List.map_append,List.nodup_append]
  refine ⟨B.nodup,by simp,?_⟩
  intro a ha b hb e
  simp only [List.map_cons,List.map_nil,Qt] at hb
  subst hb
  subst e
  obtain ⟨x,hx,hxe⟩:=QL.1 ha
  exact Jco hf x hx hxe
 cases st with
 | none=>
  obtain rfl:=B.none
  refine ⟨_,rfl,⟨λt ht=>by simp only [Qh] at ht;rw [<-ht];exact trivial,hok rfl,hnd rfl,λk o'=>?_⟩⟩
  simp only [JS,Tr.coins,Qt,List.nil_append,Qw]
  constructor
  ·rintro ⟨rfl,rfl⟩;exact ⟨_,rfl,rfl,rfl⟩
  ·rintro ⟨x,rfl,h1,h2⟩;exact ⟨h1.symm,h2.symm⟩
 | some t=>
  have hf:=B.find hc rfl
  cases h:Xr l c with
  | some k=>
   simp only [YB]
   rw [if_pos (hf.2 ⟨k,h⟩)]
  | none=>
   have hn:(t.near (Jd c)).1 ≠ Jd c:=by rw [ne_eq,hf];rintro ⟨k,hk⟩;rw [h] at hk;cases hk
   have hm:=t.near_mem (Jd c)
   obtain ⟨x,hx,h1,h2⟩:=(B.mem (t.near (Jd c)).1 (t.near (Jd c)).2).1 hm
   have hlen:(t.near (Jd c)).1.length=(Jd c).length:=by rw [<-h1,JY (B.ok x hx).1,JY hc]
   obtain ⟨q1,q2,q3⟩:=JgM (t.near (Jd c)).1 (Jd c) hlen hn
   obtain ⟨g1,g2,g3⟩:=Tr.graft_ok (Jd c) o (fd (t.near (Jd c)).1 (Jd c)) t (B.wf t rfl) (λe=>q2 e.symm) (λi hi=>(q3 i hi).symm)
   refine ⟨some (t.graft (Jd c) o (fd (t.near (Jd c)).1 (Jd c))),?_,⟨λt' ht=>by simp only [Qh] at ht;rw [<-ht];exact g1,hok h,hnd h,λk o'=>?_⟩⟩
   ·simp only [YB];rw [if_neg hn]
   ·simp only [JS,g2]
    have:=B.mem k o'
    simp only [JS] at this
    rw [this]
    constructor
    ·rintro (e | ⟨y,hy,e1,e2⟩)
     ·cases e;exact ⟨(c,o),by simp,rfl,rfl⟩
     ·exact ⟨y,by simp [hy],e1,e2⟩
    ·rintro ⟨y,hy,e1,e2⟩
     rw [QE,Qt] at hy
     rcases hy with hy | rfl
     ·exact .inr ⟨y,hy,e1,e2⟩
     ·left;rw [<-e1,<-e2]
theorem Jc3 (o:Nat×Nat) (os:List (Nat×Nat)):Jn (o :: os) (o :: os).length=o.1+Jn os os.length:=by simp [Jn]
theorem Ja6 (wj:Nat) (id:BA) (hid:id.size=wj):∀(os:List (Nat×Nat)),(∀o∈os,JC o)->∀(i:Nat),i+os.length<=3->∀(st:Option Tr) (l:List Held) (out:Nat) (over:Bool),Book wj st l->
  match YU id i os (l,out % M64,over) with
  | none=>Jv id i os st=.error .exist
  | some (l',out',over')=>∃st',Jv id i os st=.ok st'/\Book wj st' l'/\out'=(out+Jn os os.length) % M64/\(over'=true↔over=true\/M64<=out % M64+Jn os os.length):=by
 intro os
 induction os with
 | nil=>intro _ i _ st l out over B;exact ⟨st,rfl,B,by simp [Jn],by simp [Jn];intro h;exact absurd h (by have:out % M64<M64:=Nat.mod_lt _ (by decide);omega)⟩
 | cons o r ih=>
  intro ho i hi st l out over B
  rw [Qp] at hi
  have hco:Jo wj (id,(i:Int)):=⟨hid,by simp only;omega,by simp only;omega⟩
  have hw:=B.with hco (ho o QN)
  simp only [YU,Jv]
  cases hf:Xr l (id,(i:Int)) with
  | some k=>rw [hf] at hw;simp only at hw;simp only [hw]
  | none=>
   rw [hf] at hw
   obtain ⟨st1,e1,B1⟩:=hw
   have ha:o.1<M64:=(ho o QN).1
   simp only [e1]
   have:=ih (λc hc'=>ho c (QQ _ hc')) (i+1) (by omega) st1 (l++[((id,(i:Int)),o)]) (out % M64+o.1) (over || decide ((out % M64+o.1) % M64<out % M64)) B1
   cases hs:YU id (i+1) r (l++[((id,(i:Int)),o)],(out % M64+o.1) % M64,over || decide ((out % M64+o.1) % M64<out % M64)) with
   | none=>rw [hs] at this;simp only at this;simp only [this]
   | some q=>
    obtain ⟨l',out',over'⟩:=q
    rw [hs] at this
    obtain ⟨st',e2,B2,e3,e4⟩:=this
    refine ⟨st',e2,B2,?_,?_⟩
    ·rw [e3,Jc3,Nat.add_assoc,Nat.mod_add_mod]
    ·rw [e4,Jc3,Bool.or_eq_true,decide_eq_true_iff]
     generalize Jn r r.length=S
     have hm:out % M64<M64:=Nat.mod_lt _ (by decide)
     generalize out % M64=I at *
     generalize (over=true)=P
     unfold M64 at *
     constructor
     ·rintro ((h | h) | h)
      ·exact .inl h
      ·right;omega
      ·right;omega
     ·rintro (h | h)
      ·exact .inl (.inl h)
      ·by_cases h2:18446744073709551616<=I+o.1
       ·left;right;omega
       ·right;omega


def Tr.dig (d:List UInt8->BA):Tr->BA
 | .leaf k o=>d (76 :: (k++outB o))
 | .br b l r=>d (78 :: (beL b 2 2++((l.dig d).data.toList++(r.dig d).data.toList)))
def JV (d:List UInt8->BA):Option Tr->BA
 | none=>d [69]
 | some t=>t.dig d
abbrev Ch:=List (BA×Option Tr)
def Ch.last (ch:Ch):BA×Option Tr:=ch.getLastD (⟨#[]⟩,none)
def Jar (d:List UInt8->BA) (ch:Ch) (body:List UInt8) (st:BA):HdL:=(ch.length,d (72 :: ch.last.1.data.toList),d (66 :: body),st)
def JjL (d:List UInt8->BA) (wj:Nat) (ch:Ch) (ts:List TxL):Except Er (List UInt8):=
 match (PS.wr []).body wj ts with
 | some (_,.wr body)=>match JA d ch.last.2 ts with
  | .error e=>.error e
  | .ok st=>match (PS.wr []).hdr wj (Jar d ch body (JV d st)) with
   | some (_,.wr h)=>.ok (h++body)
   | _=>.error .form
 | _=>.error .form
def Jbd (d:List UInt8->BA) (wj:Nat) (ch:Ch) (text:List UInt8):Except Er Ch:=
 match (PS.rd [] text).hdr wj (0,⟨#[]⟩,⟨#[]⟩,⟨#[]⟩) with
 | some (h,.rd pre body)=>match (PS.rd pre body).body wj [] with
  | some (ts,.rd _ [])=>if h ≠ Jar d ch body h.2.2.2 then .error .tip else match JA d ch.last.2 ts with
   | .error e=>.error e
   | .ok st=>if h.2.2.2 ≠ JV d st then .error .root else .ok (ch++[(⟨(text.take (text.length - body.length)).toArray⟩,st)])
  | _=>.error .form
 | _=>.error .form
theorem Xk (d:List UInt8->BA) (wj:Nat) (hd:∀l,(d l).size=wj) (st:Option Tr):(JV d st).size=wj:=by
 cases st with
 | none=>exact hd _
 | some t=>cases t <;> exact hd _
def Zr (d:List UInt8->BA) (ch:Ch) (ts:List TxL) (st:Option Tr):List UInt8:=hdrB (Jar d ch (JB ts) (JV d st))++JB ts
theorem Jjf (d:List UInt8->BA) (wj:Nat) (hd:∀l,(d l).size=wj) (ch:Ch) (hc:ch.length<2 ^ 32) (body:List UInt8) (st:Option Tr):HdOk wj (Jar d ch body (JV d st)):=
 ⟨hc,hd _,hd _,Xk d wj hd st⟩
theorem Jg3 (d:List UInt8->BA) (wj:Nat) (hd:∀l,(d l).size=wj) (ch:Ch) (hc:ch.length<2 ^ 32) (ts:List TxL) (h:∀t∈ts,TxOk wj t) (h3:ts.length<=3):
  JjL d wj ch ts=match JA d ch.last.2 ts with | .error e=>.error e | .ok st=>.ok (Zr d ch ts st):=by
 unfold JjL
 rw [(Jg1 wj ts h h3).wr]
 dsimp only
 rw [List.nil_append]
 cases JA d ch.last.2 ts with
 | error e=>rfl
 | ok st=>
  dsimp only
  rw [(JjI wj _ (0,⟨#[]⟩,⟨#[]⟩,⟨#[]⟩) (Jjf d wj hd ch hc (JB ts) st)).wr]
  rfl
open Go.RowKit

def RdOk {α:Type} (f:PS->Option (α×PS)) (Ok:α->Prop) (m:Nat):Prop:=∀q r y p',f (.rd q r)=some (y,p')->∃b r',b.length<=m/\r=b++r'/\p'=.rd (q++b) r'/\Ok y
theorem YT (x k:Nat):RdOk (PS.num x k) (λn=>n<256 ^ k) k:=by
 intro q r y p' h
 simp only [PS.num] at h
 split at h
 ·rename_i hk
  cases h
  refine ⟨r.take k,r.drop k,by simp;omega,(List.take_append_drop k r).symm,rfl,?_⟩
  have:=Ja0 (r.take k)
  rwa [QB,Nat.min_eq_left hk] at this
 ·cases h
theorem Ja5 (s:List UInt8) (k:Nat):RdOk (PS.txt s k) (λt=>t.length=k) k:=by
 intro q r y p' h
 simp only [PS.txt] at h
 split at h
 ·rename_i hk
  cases h
  exact ⟨r.take k,r.drop k,by simp;omega,(List.take_append_drop k r).symm,rfl,by simp;omega⟩
 ·cases h
theorem RdOk.bind {α β:Type} {f:PS->Option (α×PS)} {g:α->PS->Option (β×PS)} {h:PS->Option (β×PS)} {A:α->Prop} {B:β->Prop} {m n:Nat} (hf:RdOk f A m) (hg:∀a,A a->RdOk (g a) B n) (hh:∀p y p',h p=some (y,p')->∃a p1,f p=some (a,p1)/\g a p1=some (y,p')):RdOk h B (m+n):=by
 intro q r y p' e
 obtain ⟨a,p1,e1,e2⟩:=hh _ _ _ e
 obtain ⟨b,r1,l1,rfl,rfl,ha⟩:=hf _ _ _ _ e1
 obtain ⟨b2,r2,l2,rfl,rfl,hb⟩:=hg a ha _ _ _ _ e2
 exact ⟨b++b2,r2,by rw [Qe];omega,by rw [Qs],by rw [Qs],hb⟩
theorem RdOk.mono {α:Type} {f:PS->Option (α×PS)} {A B:α->Prop} {m n:Nat} (h:RdOk f A m) (hab:∀a,A a->B a) (hmn:m<=n):RdOk f B n:=by
 intro q r y p' e
 obtain ⟨b,r1,l1,e1,e2,ha⟩:=h _ _ _ _ e
 exact ⟨b,r1,by omega,e1,e2,hab _ ha⟩
theorem RdOk.ret {α:Type} (y:α) {A:α->Prop} (h:A y):RdOk (λp=>some (y,p)) A 0:=by
 intro q r z p' e
 cases e
 exact ⟨[],r,Ql _,rfl,by rw [QC],h⟩
theorem JjB (a o:Nat):RdOk (PS.out a o) JC 9:=by
 refine RdOk.bind (n:=1) (YT a 8) (g:=λn p=>(p.num o 1).bind λq=>some ((n,q.1),q.2)) (λn hn=>?_) ?_
 ·refine RdOk.bind (n:=0) (YT o 1) (g:=λk p=>some ((n,k),p)) (λk hk=>RdOk.ret (n,k) ⟨by simpa using hn,by simpa using hk⟩) ?_
  intro p y p' e
  cases h1:p.num o 1 with
  | none=>rw [h1] at e;cases e
  | some r=>rw [h1] at e;cases e;exact ⟨_,_,rfl,rfl⟩
 ·intro p y p' e
  unfold PS.out at e
  cases h1:p.num a 8 with
  | none=>rw [h1] at e;cases e
  | some r=>
   obtain ⟨n,p1⟩:=r
   rw [h1] at e
   dsimp only at e
   refine ⟨n,p1,rfl,?_⟩
   cases h2:p1.num o 1 with
   | none=>rw [h2] at e;cases e
   | some r2=>obtain ⟨k,p2⟩:=r2;rw [h2] at e;cases e;rfl
theorem JhU (wj:Nat) (c:BA×Int):RdOk (PS.coin wj c) (Jo wj) (wj+1):=by
 intro q r y p' e
 unfold PS.coin at e
 cases h1:(PS.rd q r).txt c.1.data.toList wj with
 | none=>rw [h1] at e;cases e
 | some r1=>
  obtain ⟨t,p1⟩:=r1
  rw [h1] at e
  dsimp only at e
  obtain ⟨b,r',l1,rfl,rfl,ht⟩:=Ja5 _ _ _ _ _ _ h1
  cases h2:(PS.rd (q++b) r').num (Jw c.2) 1 with
  | none=>rw [h2] at e;cases e
  | some r2=>
   obtain ⟨m,p2⟩:=r2
   rw [h2] at e
   dsimp only at e
   obtain ⟨b2,r2',l2,rfl,rfl,hm⟩:=YT _ _ _ _ _ _ h2
   split at e
   ·rename_i h3
    cases e
    exact ⟨b++b2,r2',by rw [Qe];omega,by rw [Qs],by rw [Qs],by show t.toArray.size=_;simpa using ht,by show (0:Int)<=(m:Int);omega,by show (m:Int)<3;omega⟩
   ·cases e
theorem Jgf (wj:Nat):∀(l:List (BA×Int)),RdOk (PS.coins wj l) (λys=>ys.length=l.length/\∀y∈ys,Jo wj y) (l.length * (wj+1)):=by
 intro l
 induction l with
 | nil=>rw [Qv,Nat.zero_mul];exact RdOk.ret [] ⟨rfl,λ_ h=>by cases h⟩
 | cons x r ih=>
  refine (RdOk.bind (B:=λys=>ys.length=r.length+1/\∀y∈ys,Jo wj y) (n:=r.length * (wj+1)) (JhU wj x) (g:=λy p=>(PS.coins wj r p).bind λq=>some (y :: q.1,q.2)) (λy hy=>?_) ?_).mono (λ_ h=>h) (by rw [Qp,Nat.succ_mul];omega)
  ·have:=RdOk.bind (n:=0) (h:=λp=>(PS.coins wj r p).bind λq=>some (y :: q.1,q.2)) ih (g:=λys p=>some (y :: ys,p)) (B:=λys=>ys.length=r.length+1/\∀y∈ys,Jo wj y) (λys hys=>RdOk.ret (y :: ys) ⟨by simp [hys.1],λz hz=>by rcases List.mem_cons.1 hz with rfl | hz;exact hy;exact hys.2 z hz⟩) (λp z p' e=>by
    cases h1:PS.coins wj r p with
    | none=>rw [h1] at e;cases e
    | some r=>rw [h1] at e;cases e;exact ⟨_,_,rfl,rfl⟩)
   rwa [Nat.add_zero] at this
  ·intro p z p' e
   unfold PS.coins at e
   cases h1:p.coin wj x with
   | none=>rw [h1] at e;cases e
   | some r1=>
    obtain ⟨y,p1⟩:=r1
    rw [h1] at e
    dsimp only at e
    refine ⟨y,p1,rfl,?_⟩
    cases h2:PS.coins wj r p1 with
    | none=>rw [h2] at e;cases e
    | some r2=>obtain ⟨ys,p2⟩:=r2;rw [h2] at e;cases e;rfl
theorem JhV:∀(l:List (Nat×Nat)),RdOk (PS.outs l) (λys=>ys.length=l.length/\∀y∈ys,JC y) (l.length * 9):=by
 intro l
 induction l with
 | nil=>rw [Qv,Nat.zero_mul];exact RdOk.ret [] ⟨rfl,λ_ h=>by cases h⟩
 | cons x r ih=>
  refine (RdOk.bind (B:=λys=>ys.length=r.length+1/\∀y∈ys,JC y) (n:=r.length * 9) (JjB x.1 x.2) (g:=λy p=>(PS.outs r p).bind λq=>some (y :: q.1,q.2)) (λy hy=>?_) ?_).mono (λ_ h=>h) (by rw [Qp,Nat.succ_mul];omega)
  ·have:=RdOk.bind (n:=0) (h:=λp=>(PS.outs r p).bind λq=>some (y :: q.1,q.2)) ih (g:=λys p=>some (y :: ys,p)) (B:=λys=>ys.length=r.length+1/\∀y∈ys,JC y) (λys hys=>RdOk.ret (y :: ys) ⟨by simp [hys.1],λz hz=>by rcases List.mem_cons.1 hz with rfl | hz;exact hy;exact hys.2 z hz⟩) (λp z p' e=>by
    cases h1:PS.outs r p with
    | none=>rw [h1] at e;cases e
    | some r=>rw [h1] at e;cases e;exact ⟨_,_,rfl,rfl⟩)
   rwa [Nat.add_zero] at this
  ·intro p z p' e
   unfold PS.outs at e
   cases h1:p.out x.1 x.2 with
   | none=>rw [h1] at e;cases e
   | some r1=>
    obtain ⟨y,p1⟩:=r1
    rw [h1] at e
    dsimp only at e
    refine ⟨y,p1,rfl,?_⟩
    cases h2:PS.outs r p1 with
    | none=>rw [h2] at e;cases e
    | some r2=>obtain ⟨ys,p2⟩:=r2;rw [h2] at e;cases e;rfl
theorem JcY (n:Nat):(XX [] n).length=n:=by simp [XX]
theorem JcZ (n:Nat):(Yq [] n).length=n:=by simp [Yq]
theorem Jgg (wj least:Nat) (hw:wj<=32):RdOk (PS.listC wj least 3 []) (λys=>least<=ys.length/\ys.length<=3/\∀y∈ys,Jo wj y) 100:=by
 refine (RdOk.bind (n:=99) (YT 0 1) (g:=λcnt p=>if cnt<least\/3<cnt then none else PS.coins wj (XX [] cnt) p) (λcnt _=>?_) ?_).mono (λ_ h=>h) (by omega)
 ·by_cases h:cnt<least\/3<cnt
  ·intro q r y p' e;simp only [if_pos h] at e;cases e
  ·simp only [if_neg h]
   refine (Jgf wj (XX [] cnt)).mono (λys hy=>?_) ?_
   ·rw [JcY] at hy;exact ⟨by omega,by omega,hy.2⟩
   ·rw [JcY];have:cnt * (wj+1)<=3 * 33:=Nat.mul_le_mul (by omega) (by omega);omega
 ·intro p y p' e
  unfold PS.listC at e
  cases h1:p.num ([]:List (BA×Int)).length 1 with
  | none=>rw [h1] at e;cases e
  | some r1=>obtain ⟨cnt,p1⟩:=r1;rw [h1] at e;exact ⟨cnt,p1,rfl,e⟩
theorem Jgh:RdOk (PS.listO 0 3 []) (λys=>ys.length<=3/\∀y∈ys,JC y) 28:=by
 refine (RdOk.bind (n:=27) (YT 0 1) (g:=λcnt p=>if cnt<0\/3<cnt then none else PS.outs (Yq [] cnt) p) (λcnt _=>?_) ?_).mono (λ_ h=>h) (by omega)
 ·by_cases h:cnt<0\/3<cnt
  ·intro q r y p' e;simp only [if_pos h] at e;cases e
  ·simp only [if_neg h]
   refine (JhV (Yq [] cnt)).mono (λys hy=>?_) ?_
   ·rw [JcZ] at hy;exact ⟨by omega,hy.2⟩
   ·rw [JcZ];omega
 ·intro p y p' e
  unfold PS.listO at e
  cases h1:p.num ([]:List (Nat×Nat)).length 1 with
  | none=>rw [h1] at e;cases e
  | some r1=>obtain ⟨cnt,p1⟩:=r1;rw [h1] at e;exact ⟨cnt,p1,rfl,e⟩
theorem Jk1 (wj:Nat) (hw:wj<=32):RdOk (PS.tx wj ([],[])) (TxOk wj) 128:=by
 refine RdOk.bind (n:=28) (Jgg wj 1 hw) (g:=λys p=>(p.listO 0 3 []).bind λq=>some ((ys,q.1),q.2)) (λys hy=>?_) ?_
 ·refine RdOk.bind (n:=0) Jgh (g:=λzs p=>some ((ys,zs),p)) (λzs hz=>RdOk.ret (ys,zs) ⟨hy.2.2,hz.2,hy.1,hy.2.1,hz.1⟩) ?_
  intro p y p' e
  cases h1:p.listO 0 3 [] with
  | none=>rw [h1] at e;cases e
  | some r=>rw [h1] at e;cases e;exact ⟨_,_,rfl,rfl⟩
 ·intro p y p' e
  unfold PS.tx at e
  cases h1:p.listC wj 1 3 [] with
  | none=>rw [h1] at e;cases e
  | some r=>
   obtain ⟨ys,p1⟩:=r
   rw [h1] at e
   dsimp only at e
   refine ⟨ys,p1,rfl,?_⟩
   cases h2:p1.listO 0 3 [] with
   | none=>rw [h2] at e;cases e
   | some r2=>obtain ⟨k,p2⟩:=r2;rw [h2] at e;cases e;rfl
theorem JjC (wj:Nat) (hw:wj<=32):∀n,RdOk (PS.txs wj (List.replicate n ([],[]))) (λys=>ys.length=n/\∀y∈ys,TxOk wj y) (n * 128):=by
 intro n
 induction n with
 | zero=>rw [Nat.zero_mul];exact RdOk.ret [] ⟨rfl,λ_ h=>by cases h⟩
 | succ n ih=>
  rw [List.replicate_succ]
  refine (RdOk.bind (B:=λys=>ys.length=n+1/\∀y∈ys,TxOk wj y) (n:=n * 128) (Jk1 wj hw) (g:=λy p=>(PS.txs wj (List.replicate n ([],[])) p).bind λq=>some (y :: q.1,q.2)) (λy hy=>?_) ?_).mono (λ_ h=>h) (by omega)
  ·have:=RdOk.bind (n:=0) (h:=λp=>(PS.txs wj (List.replicate n ([],[])) p).bind λq=>some (y :: q.1,q.2)) ih (g:=λys p=>some (y :: ys,p)) (B:=λys=>ys.length=n+1/\∀y∈ys,TxOk wj y) (λys hys=>RdOk.ret (y :: ys) ⟨by simp [hys.1],λz hz=>by rcases List.mem_cons.1 hz with rfl | hz;exact hy;exact hys.2 z hz⟩) (λp z p' e=>by
    cases h1:PS.txs wj (List.replicate n ([],[])) p with
    | none=>rw [h1] at e;cases e
    | some r=>rw [h1] at e;cases e;exact ⟨_,_,rfl,rfl⟩)
   rwa [Nat.add_zero] at this
  ·intro p z p' e
   unfold PS.txs at e
   cases h1:p.tx wj ([],[]) with
   | none=>rw [h1] at e;cases e
   | some r1=>
    obtain ⟨y,p1⟩:=r1
    rw [h1] at e
    dsimp only at e
    refine ⟨y,p1,rfl,?_⟩
    cases h2:PS.txs wj (List.replicate n ([],[])) p1 with
    | none=>rw [h2] at e;cases e
    | some r2=>obtain ⟨ys,p2⟩:=r2;rw [h2] at e;cases e;rfl
theorem Zl (wj:Nat) (hw:wj<=32):RdOk (PS.body wj []) (λts=>ts.length<=3/\∀t∈ts,TxOk wj t) 385:=by
 refine RdOk.bind (m:=1) (n:=384) (YT 0 1) (g:=λcnt p=>if 3<cnt then none else PS.txs wj (YD [] cnt) p) (λcnt _=>?_) ?_
 ·by_cases h:3<cnt
  ·intro q r y p' e;simp only [if_pos h] at e;cases e
  ·simp only [if_neg h]
   exact (JjC wj hw cnt).mono (λys hy=>⟨by omega,hy.2⟩) (by omega)
 ·intro p y p' e
  unfold PS.body at e
  cases h1:p.num ([]:List TxL).length 1 with
  | none=>rw [h1] at e;cases e
  | some r1=>obtain ⟨cnt,p1⟩:=r1;rw [h1] at e;exact ⟨cnt,p1,rfl,e⟩
theorem Jfr (wj:Nat) (hw:wj<=32) (z:HdL):RdOk (PS.hdr wj z) (HdOk wj) 100:=by
 intro q r y p' e
 unfold PS.hdr at e
 cases h1:(PS.rd q r).num z.1 4 with
 | none=>rw [h1] at e;cases e
 | some r1=>
  obtain ⟨n,p1⟩:=r1
  rw [h1] at e
  dsimp only at e
  obtain ⟨b1,s1,l1,rfl,rfl,k1⟩:=YT _ _ _ _ _ _ h1
  cases h2:(PS.rd (q++b1) s1).txt z.2.1.data.toList wj with
  | none=>rw [h2] at e;cases e
  | some r2=>
   obtain ⟨t2,p2⟩:=r2
   rw [h2] at e
   dsimp only at e
   obtain ⟨b2,s2,l2,rfl,rfl,k2⟩:=Ja5 _ _ _ _ _ _ h2
   cases h3:(PS.rd (q++b1++b2) s2).txt z.2.2.1.data.toList wj with
   | none=>rw [h3] at e;cases e
   | some r3=>
    obtain ⟨t3,p3⟩:=r3
    rw [h3] at e
    dsimp only at e
    obtain ⟨b3,s3,l3,rfl,rfl,k3⟩:=Ja5 _ _ _ _ _ _ h3
    cases h4:(PS.rd (q++b1++b2++b3) s3).txt z.2.2.2.data.toList wj with
    | none=>rw [h4] at e;cases e
    | some r4=>
     obtain ⟨t4,p4⟩:=r4
     rw [h4] at e
     dsimp only at e
     obtain ⟨b4,s4,l4,rfl,rfl,k4⟩:=Ja5 _ _ _ _ _ _ h4
     cases e
     refine ⟨b1++b2++b3++b4,s4,by simp only [Qe];omega,by simp only [Qs],by simp only [Qs],?_⟩
     exact ⟨by simpa using k1,(List.size_toArray).trans k2,(List.size_toArray).trans k3,(List.size_toArray).trans k4⟩
