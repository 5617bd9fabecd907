import Derived.Test.YtighkdnooglfjaaGreatDoorBxKText
import Derived.Deep.DeepCutAuto
namespace Go.Proofs.YtighkdnooglfjaaGreatDoor
open Tryz
open Go.RowKit

def Jcm (h:BA×Int):List Value:=[.string h.1,.int .i64 h.2]
def XZ (l:List (BA×Int)):List Value:=l.flatMap Jcm
theorem JaQ (l:List (BA×Int)):(XZ l).length=l.length * 2:=by
 induction l with
 | nil=>rfl
 | cons x r ih=>simp only [XZ,QG,Qe] at ih ⊢;rw [ih];simp [Jcm];omega
theorem Jhk (l:List (BA×Int)):∀u∈XZ l,u.oneCell'=true:=by
 intro u hu
 simp only [XZ,List.mem_flatMap,Jcm] at hu
 obtain ⟨x,_,hu⟩:=hu
 simp only [List.mem_cons,QD,or_false] at hu
 rcases hu with rfl | rfl <;> rfl
theorem Jeb (l l':List (BA×Int)):XZ (l++l')=XZ l++XZ l':=by simp [XZ]
theorem Jds (l:List (BA×Int)):∀(i:Nat) (h:i<l.length),(XZ l)[i * 2]? =some (.string l[i].1)/\(XZ l)[i * 2+1]? =some (.int .i64 l[i].2):=by
 induction l with
 | nil=>intro i h;simp at h
 | cons x r ih=>
  intro i h
  cases i with
  | zero=>simp [XZ,Jcm]
  | succ i=>
   have e:∀j,(XZ (x :: r))[(i+1) * 2+j]? =(XZ r)[i * 2+j]? :=by
    intro j
    show (Jcm x++XZ r)[(i+1) * 2+j]? =_
    rw [Qz (by simp [Jcm];omega)]
    congr 1;simp [Jcm];omega
   refine ⟨?_,?_⟩
   ·have:=e 0;rw [Nat.add_zero,Nat.add_zero] at this;rw [this];simpa using (ih i (by simpa using h)).1
   ·rw [e 1];simpa using (ih i (by simpa using h)).2
theorem Jz.cells {w:World} {g o:Nat} {l:List (BA×Int)} (h:∀i (h:i<l.length),w.cell? ⟨g,o+i * 2,none⟩=some (.string l[i].1)/\w.cell? ⟨g,o+i * 2+1,none⟩=some (.int .i64 l[i].2)):
  ∀j u,(XZ l)[j]? =some u->w.cell? (Addr.add ⟨g,o,none⟩ j)=some u:=by
 intro j u hu
 have hj:j<l.length * 2:=by have:=(Qo.1 hu).1;rw [JaQ] at this;exact this
 obtain ⟨e0,e1⟩:=Jds l (j / 2) (by omega)
 obtain ⟨f0,f1⟩:=h (j / 2) (by omega)
 rw [Addr.add_lit]
 obtain hm | hm:j % 2=0\/j % 2=1:=by omega
 ·rw [show j / 2 * 2=j by omega] at e0;rw [show o+j / 2 * 2=o+j by omega] at f0;rw [f0,<-e0,hu]
 ·rw [show j / 2 * 2+1=j by omega] at e1;rw [show o+j / 2 * 2+1=o+j by omega] at f1;rw [f1,<-e1,hu]
def COwn (base:Nat) (w:World) (v:Value) (l:List (BA×Int)):Prop:=w.ownsRow base 49 2 v l.length (XZ l)
theorem COwn.nil (base:Nat) (w:World):COwn base w (.slice none 0 0) []:=⟨rfl,.inl ⟨rfl,rfl⟩⟩
theorem COwn.at {base:Nat} {w:World} {v:Value} {l:List (BA×Int)} (h:COwn base w v l):Jz w.heap.size w v l:=by
 obtain ⟨_,⟨rfl,h0⟩ | ⟨g,cap,cur,rfl,_,hrow,_,_,hsz,htake⟩⟩:=h
 ·exact .inl ⟨rfl,QP h0⟩
 ·have hlt:=(Jb hrow)
  refine .inr ⟨g,0,cap,rfl,hlt,hlt,λi hi=>?_⟩
  obtain ⟨e0,e1⟩:=Jds l i hi
  have hc:∀j u,(XZ l)[j]? =some u->w.cell? ⟨g,0+j,none⟩=some u:=by
   intro j u hu
   rw [<-htake] at hu
   have hj:=(Qo.1 hu).1
   rw [List.getElem?_take_of_lt (by rw [QB] at hj;omega)] at hu
   rw [Ja hrow,Nat.zero_add,<-Array.getElem?_toList]
   exact hu
  exact ⟨hc _ _ e0,hc _ _ e1⟩
theorem COwn.own {base:Nat} {w:World} {v:Value} {l:List (BA×Int)} (h:COwn base w v l):∀k,v.ownBlock=some k->base<=k/\k<w.heap.size:=by
 obtain ⟨_,⟨rfl,h0⟩ | ⟨g,cap,cur,rfl,hb,hrow,_⟩⟩:=h
 ·intro k hk;cases hk
 ·intro k hk;cases hk;exact ⟨hb,(Jb hrow)⟩
theorem COwn.tch {base:Nat} {w w':World} {v:Value} {l:List (BA×Int)} {S:Nat->Prop} (h:COwn base w v l) (k:Tch S w w') (hs:∀j,v.ownBlock=some j->¬S j):COwn base w' v l:=by
 obtain ⟨h1,⟨rfl,h0⟩ | ⟨g,cap,cur,rfl,hb,hrow,h2⟩⟩:=h
 ·exact ⟨h1,.inl ⟨rfl,h0⟩⟩
 ·exact ⟨h1,.inr ⟨g,cap,cur,rfl,hb,(k.block g (Jb hrow) (hs g rfl)).trans hrow,h2⟩⟩
theorem COwn.shape {base:Nat} {w:World} {v:Value} {l:List (BA×Int)} (h:COwn base w v l):∃a c,v=.slice a l.length c:=h.at.shape
theorem COwn.shape3 {base:Nat} {w:World} {v:Value} {l:List (BA×Int)} (h:COwn base w v l):∃a m c,v=.slice a m c:=by
 obtain ⟨a,c,h⟩:=h.shape
 exact ⟨a,_,c,h⟩
theorem Jhz:(prog.info? 49).map (λi=>(i.zero,i.size,i.bytes))=some (some (.agg #[.string ⟨#[]⟩,.int .i64 0]),2,24):=by kernel_rfl
theorem Jb2 {base:Nat} {w:World} {v:Value} {l:List (BA×Int)} (h:COwn base w v l) (x:Value) (B:Nat) (l2:List (BA×Int)) (hx:Jz B w x l2) (ty:TypeId) (hb:l.length+l2.length<=1000000000) (hbase:base<=w.heap.size):
  ∃v' w',(Builtin.append_ #[96,96] ty #[v,x]).run prog w=.ok v' w'/\COwn base w' v' (l++l2)/\w.grownBy w' v.ownBlock:=by
 obtain ⟨i,hi,hp⟩:=Option.map_eq_some_iff.1 Jhz
 simp only [Qw] at hp
 obtain ⟨hz,hsz,hby⟩:=hp
 rcases hx with ⟨rfl,rfl⟩ | ⟨g,o,c,rfl,_,hg,hcell⟩
 ·exact ⟨v,w,run_append_owned_none (P:=prog) (w:=w) base 96 ty 49 i 2 underlying96 hi v l.length (XZ l) h,by rw [QC];exact h,World.grownBy.refl _ _⟩
 ·obtain ⟨v',w',hr,h2,h3,h4⟩:=run_append_own (P:=prog) w base 96 ty 49 i _ 2 24 underlying96 hi hz hsz hby rfl (by omega) v l.length (XZ l) h ⟨g,o,none⟩ l2.length c (XZ l2) (JaQ l2) (Jz.cells hcell) (Jhk l2) (by simp only [maxLen];omega) (by omega) hbase
  exact ⟨v',w',hr,by unfold COwn;rw [Qe,Jeb];exact h2,h3⟩
theorem Jje (W:World) (c:BA×Int):Jz (W.heap.size+1) (W.alloc (.cells #[.string c.1,.int .i64 c.2] 49)) (.slice (some ⟨W.heap.size,0,none⟩) 1 1) [c]:=by
 refine .inr ⟨W.heap.size,0,1,rfl,by omega,by simp,λi hi=>?_⟩
 obtain rfl:i=0:=by simpa using hi
 have hrow:=Qf W (.cells #[.string c.1,.int .i64 c.2] 49)
 exact ⟨Ja hrow,Ja hrow⟩

def outC (h:Nat×Nat):List Value:=[.int .u64 ((h.1:Nat):Int),.int .u8 ((h.2:Nat):Int)]
def outV (l:List (Nat×Nat)):List Value:=l.flatMap outC
theorem JbR (l:List (Nat×Nat)):(outV l).length=l.length * 2:=by
 induction l with
 | nil=>rfl
 | cons x r ih=>simp only [outV,QG,Qe] at ih ⊢;rw [ih];simp [outC];omega
theorem Jjj (l:List (Nat×Nat)):∀u∈outV l,u.oneCell'=true:=by
 intro u hu
 simp only [outV,List.mem_flatMap,outC] at hu
 obtain ⟨x,_,hu⟩:=hu
 simp only [List.mem_cons,QD,or_false] at hu
 rcases hu with rfl | rfl <;> rfl
theorem Jfi (l l':List (Nat×Nat)):outV (l++l')=outV l++outV l':=by simp [outV]
theorem Jfj (l:List (Nat×Nat)):∀(i:Nat) (h:i<l.length),(outV l)[i * 2]? =some (.int .u64 ((l[i].1:Nat):Int))/\(outV l)[i * 2+1]? =some (.int .u8 ((l[i].2:Nat):Int)):=by
 induction l with
 | nil=>intro i h;simp at h
 | cons x r ih=>
  intro i h
  cases i with
  | zero=>simp [outV,outC]
  | succ i=>
   have e:∀j,(outV (x :: r))[(i+1) * 2+j]? =(outV r)[i * 2+j]? :=by
    intro j
    show (outC x++outV r)[(i+1) * 2+j]? =_
    rw [Qz (by simp [outC];omega)]
    congr 1;simp [outC];omega
   refine ⟨?_,?_⟩
   ·have:=e 0;rw [Nat.add_zero,Nat.add_zero] at this;rw [this];simpa using (ih i (by simpa using h)).1
   ·rw [e 1];simpa using (ih i (by simpa using h)).2
theorem Jr.cells {w:World} {g o:Nat} {l:List (Nat×Nat)} (h:∀i (h:i<l.length),w.cell? ⟨g,o+i * 2,none⟩=some (.int .u64 ((l[i].1:Nat):Int))/\w.cell? ⟨g,o+i * 2+1,none⟩=some (.int .u8 ((l[i].2:Nat):Int))):
  ∀j u,(outV l)[j]? =some u->w.cell? (Addr.add ⟨g,o,none⟩ j)=some u:=by
 intro j u hu
 have hj:j<l.length * 2:=by have:=(Qo.1 hu).1;rw [JbR] at this;exact this
 obtain ⟨e0,e1⟩:=Jfj l (j / 2) (by omega)
 obtain ⟨f0,f1⟩:=h (j / 2) (by omega)
 rw [Addr.add_lit]
 obtain hm | hm:j % 2=0\/j % 2=1:=by omega
 ·rw [show j / 2 * 2=j by omega] at e0;rw [show o+j / 2 * 2=o+j by omega] at f0;rw [f0,<-e0,hu]
 ·rw [show j / 2 * 2+1=j by omega] at e1;rw [show o+j / 2 * 2+1=o+j by omega] at f1;rw [f1,<-e1,hu]
def OOwn (base:Nat) (w:World) (v:Value) (l:List (Nat×Nat)):Prop:=w.ownsRow base 80 2 v l.length (outV l)
theorem OOwn.nil (base:Nat) (w:World):OOwn base w (.slice none 0 0) []:=⟨rfl,.inl ⟨rfl,rfl⟩⟩
theorem OOwn.at {base:Nat} {w:World} {v:Value} {l:List (Nat×Nat)} (h:OOwn base w v l):Jr w.heap.size w v l:=by
 obtain ⟨_,⟨rfl,h0⟩ | ⟨g,cap,cur,rfl,_,hrow,_,_,hsz,htake⟩⟩:=h
 ·exact .inl ⟨rfl,QP h0⟩
 ·have hlt:=(Jb hrow)
  refine .inr ⟨g,0,cap,rfl,hlt,hlt,λi hi=>?_⟩
  obtain ⟨e0,e1⟩:=Jfj l i hi
  have hc:∀j u,(outV l)[j]? =some u->w.cell? ⟨g,0+j,none⟩=some u:=by
   intro j u hu
   rw [<-htake] at hu
   have hj:=(Qo.1 hu).1
   rw [List.getElem?_take_of_lt (by rw [QB] at hj;omega)] at hu
   rw [Ja hrow,Nat.zero_add,<-Array.getElem?_toList]
   exact hu
  exact ⟨hc _ _ e0,hc _ _ e1⟩
theorem OOwn.own {base:Nat} {w:World} {v:Value} {l:List (Nat×Nat)} (h:OOwn base w v l):∀k,v.ownBlock=some k->base<=k/\k<w.heap.size:=by
 obtain ⟨_,⟨rfl,h0⟩ | ⟨g,cap,cur,rfl,hb,hrow,_⟩⟩:=h
 ·intro k hk;cases hk
 ·intro k hk;cases hk;exact ⟨hb,(Jb hrow)⟩
theorem OOwn.tch {base:Nat} {w w':World} {v:Value} {l:List (Nat×Nat)} {S:Nat->Prop} (h:OOwn base w v l) (k:Tch S w w') (hs:∀j,v.ownBlock=some j->¬S j):OOwn base w' v l:=by
 obtain ⟨h1,⟨rfl,h0⟩ | ⟨g,cap,cur,rfl,hb,hrow,h2⟩⟩:=h
 ·exact ⟨h1,.inl ⟨rfl,h0⟩⟩
 ·exact ⟨h1,.inr ⟨g,cap,cur,rfl,hb,(k.block g (Jb hrow) (hs g rfl)).trans hrow,h2⟩⟩
theorem OOwn.shape {base:Nat} {w:World} {v:Value} {l:List (Nat×Nat)} (h:OOwn base w v l):∃a c,v=.slice a l.length c:=h.at.shape
theorem OOwn.shape3 {base:Nat} {w:World} {v:Value} {l:List (Nat×Nat)} (h:OOwn base w v l):∃a m c,v=.slice a m c:=by
 obtain ⟨a,c,h⟩:=h.shape
 exact ⟨a,_,c,h⟩
theorem JiW:(prog.info? 80).map (λi=>(i.zero,i.size,i.bytes))=some (some (.agg #[.int .u64 0,.int .u8 0]),2,16):=by kernel_rfl
theorem ZX {base:Nat} {w:World} {v:Value} {l:List (Nat×Nat)} (h:OOwn base w v l) (x:Value) (B:Nat) (l2:List (Nat×Nat)) (hx:Jr B w x l2) (ty:TypeId) (hb:l.length+l2.length<=1000000000) (hbase:base<=w.heap.size):
  ∃v' w',(Builtin.append_ #[22,22] ty #[v,x]).run prog w=.ok v' w'/\OOwn base w' v' (l++l2)/\w.grownBy w' v.ownBlock:=by
 obtain ⟨i,hi,hp⟩:=Option.map_eq_some_iff.1 JiW
 simp only [Qw] at hp
 obtain ⟨hz,hsz,hby⟩:=hp
 rcases hx with ⟨rfl,rfl⟩ | ⟨g,o,c,rfl,_,hg,hcell⟩
 ·exact ⟨v,w,run_append_owned_none (P:=prog) (w:=w) base 22 ty 80 i 2 underlying22 hi v l.length (outV l) h,by rw [QC];exact h,World.grownBy.refl _ _⟩
 ·obtain ⟨v',w',hr,h2,h3,h4⟩:=run_append_own (P:=prog) w base 22 ty 80 i _ 2 16 underlying22 hi hz hsz hby rfl (by omega) v l.length (outV l) h ⟨g,o,none⟩ l2.length c (outV l2) (JbR l2) (Jr.cells hcell) (Jjj l2) (by simp only [maxLen];omega) (by omega) hbase
  exact ⟨v',w',hr,by unfold OOwn;rw [Qe,Jfi];exact h2,h3⟩
theorem Jbl {base:Nat} {w:World} {ops:Array Oper} {rest:List Oper} {o:Oper} {a:Act} {Q:Exit->Act->World->Prop} (hgd:o.guard=none) (s x:Operand)
  (ho:o.op=.call { callee:=.builtin .append,args:= #[s,x],argTypes:= #[22,22] })
  {v:Value} {l:List (Nat×Nat)} (hv:a.eval s=v) (h:OOwn base w v l) (xv:Value) (B:Nat) (l2:List (Nat×Nat)) (hx:a.eval x=xv) (hs:Jr B w xv l2) (hb:l.length+l2.length<=1000000000) (hbase:base<=w.heap.size)
  (hK:∀v' w',OOwn base w' v' (l++l2)->w.grownBy w' v.ownBlock->wpList prog ops Q rest (a.put o.dst v') w'):wpList prog ops Q (o :: rest) a w:=by
 refine wpList_plain hgd λK hK'=>?_
 obtain ⟨v',w',hrun,r,r2⟩:=ZX h xv B l2 hs o.type hb hbase
 unfold Oper.wp
 simp [execOp,ho,resolve,invoke,builtin,hv,hx,hrun,Result.andThen]
 exact hK' _ _ (hK v' w' r r2)
theorem Jb3 {base:Nat} {ops:Array Oper} {o:Oper} {a:Act} {w:World} {K:Act->World->Prop} {Q:Exit->Act->World->Prop} {E:Prop}
  (hgd:o.guard=none) (s x:Operand) (ho:o.op=.call { callee:=.builtin .append,args:= #[s,x],argTypes:= #[22,22] })
  {v:Value} {l:List (Nat×Nat)} (hv:a.eval s=v) (h:OOwn base w v l) (xv:Value) (B:Nat) (l2:List (Nat×Nat)) (hx:a.eval x=xv) (hs:Jr B w xv l2) (hb:l.length+l2.length<=1000000000) (hbase:base<=w.heap.size)
  (hK:∀v' w',OOwn base w' v' (l++l2)->w.grownBy w' v.ownBlock->K (a.put o.dst v') w'):
  if Region.wanted o (yielded ops a.tmps)=true then Oper.wp prog o a w K Q else E:=by
 have hw:Region.wanted o (yielded ops a.tmps)=true:=by simp [Region.wanted,hgd]
 rw [if_pos hw]
 obtain ⟨v',w',hrun,r,r2⟩:=ZX h xv B l2 hs o.type hb hbase
 unfold Oper.wp
 simp [execOp,ho,resolve,invoke,builtin,hv,hx,hrun,Result.andThen]
 exact hK v' w' r r2
theorem JgT (W:World) (c:Nat×Nat):Jr (W.heap.size+1) (W.alloc (.cells #[.int .u64 ((c.1:Nat):Int),.int .u8 ((c.2:Nat):Int)] 80)) (.slice (some ⟨W.heap.size,0,none⟩) 1 1) [c]:=by
 refine .inr ⟨W.heap.size,0,1,rfl,by omega,by simp,λi hi=>?_⟩
 obtain rfl:i=0:=by simpa using hi
 have hrow:=Qf W (.cells #[.int .u64 ((c.1:Nat):Int),.int .u8 ((c.2:Nat):Int)] 80)
 exact ⟨Ja hrow,Ja hrow⟩

def txC (h:Sl×Sl):List Value:=[.slice h.1.1 h.1.2.1 h.1.2.2,.slice h.2.1 h.2.2.1 h.2.2.2]
def txV (l:List (Sl×Sl)):List Value:=l.flatMap txC
theorem Jc6 (l:List (Sl×Sl)):(txV l).length=l.length * 2:=by
 induction l with
 | nil=>rfl
 | cons x r ih=>simp only [txV,QG,Qe] at ih ⊢;rw [ih];simp [txC];omega
theorem Jlf (l:List (Sl×Sl)):∀u∈txV l,u.oneCell'=true:=by
 intro u hu
 simp only [txV,List.mem_flatMap,txC] at hu
 obtain ⟨x,_,hu⟩:=hu
 simp only [List.mem_cons,QD,or_false] at hu
 rcases hu with rfl | rfl <;> rfl
theorem Jgz (l l':List (Sl×Sl)):txV (l++l')=txV l++txV l':=by simp [txV]
theorem Jg6 (l:List (Sl×Sl)):∀(i:Nat) (h:i<l.length),(txV l)[i * 2]? =some (.slice l[i].1.1 l[i].1.2.1 l[i].1.2.2)/\(txV l)[i * 2+1]? =some (.slice l[i].2.1 l[i].2.2.1 l[i].2.2.2):=by
 induction l with
 | nil=>intro i h;simp at h
 | cons x r ih=>
  intro i h
  cases i with
  | zero=>simp [txV,txC]
  | succ i=>
   have e:∀j,(txV (x :: r))[(i+1) * 2+j]? =(txV r)[i * 2+j]? :=by
    intro j
    show (txC x++txV r)[(i+1) * 2+j]? =_
    rw [Qz (by simp [txC];omega)]
    congr 1;simp [txC];omega
   refine ⟨?_,?_⟩
   ·have:=e 0;rw [Nat.add_zero,Nat.add_zero] at this;rw [this];simpa using (ih i (by simpa using h)).1
   ·rw [e 1];simpa using (ih i (by simpa using h)).2
theorem JR.cells {w:World} {g o:Nat} {l:List (Sl×Sl)} (h:∀i (h:i<l.length),w.cell? ⟨g,o+i * 2,none⟩=some (.slice l[i].1.1 l[i].1.2.1 l[i].1.2.2)/\w.cell? ⟨g,o+i * 2+1,none⟩=some (.slice l[i].2.1 l[i].2.2.1 l[i].2.2.2)):
  ∀j u,(txV l)[j]? =some u->w.cell? (Addr.add ⟨g,o,none⟩ j)=some u:=by
 intro j u hu
 have hj:j<l.length * 2:=by have:=(Qo.1 hu).1;rw [Jc6] at this;exact this
 obtain ⟨e0,e1⟩:=Jg6 l (j / 2) (by omega)
 obtain ⟨f0,f1⟩:=h (j / 2) (by omega)
 rw [Addr.add_lit]
 obtain hm | hm:j % 2=0\/j % 2=1:=by omega
 ·rw [show j / 2 * 2=j by omega] at e0;rw [show o+j / 2 * 2=o+j by omega] at f0;rw [f0,<-e0,hu]
 ·rw [show j / 2 * 2+1=j by omega] at e1;rw [show o+j / 2 * 2+1=o+j by omega] at f1;rw [f1,<-e1,hu]
def TOwn (base:Nat) (w:World) (v:Value) (l:List (Sl×Sl)):Prop:=w.ownsRow base 98 2 v l.length (txV l)
theorem TOwn.nil (base:Nat) (w:World):TOwn base w (.slice none 0 0) []:=⟨rfl,.inl ⟨rfl,rfl⟩⟩
theorem TOwn.at {base:Nat} {w:World} {v:Value} {l:List (Sl×Sl)} (h:TOwn base w v l):JR w.heap.size w v l:=by
 obtain ⟨_,⟨rfl,h0⟩ | ⟨g,cap,cur,rfl,_,hrow,_,_,hsz,htake⟩⟩:=h
 ·exact .inl ⟨rfl,QP h0⟩
 ·have hlt:=(Jb hrow)
  refine .inr ⟨g,0,cap,rfl,hlt,hlt,λi hi=>?_⟩
  obtain ⟨e0,e1⟩:=Jg6 l i hi
  have hc:∀j u,(txV l)[j]? =some u->w.cell? ⟨g,0+j,none⟩=some u:=by
   intro j u hu
   rw [<-htake] at hu
   have hj:=(Qo.1 hu).1
   rw [List.getElem?_take_of_lt (by rw [QB] at hj;omega)] at hu
   rw [Ja hrow,Nat.zero_add,<-Array.getElem?_toList]
   exact hu
  exact ⟨hc _ _ e0,hc _ _ e1⟩
theorem TOwn.own {base:Nat} {w:World} {v:Value} {l:List (Sl×Sl)} (h:TOwn base w v l):∀k,v.ownBlock=some k->base<=k/\k<w.heap.size:=by
 obtain ⟨_,⟨rfl,h0⟩ | ⟨g,cap,cur,rfl,hb,hrow,_⟩⟩:=h
 ·intro k hk;cases hk
 ·intro k hk;cases hk;exact ⟨hb,(Jb hrow)⟩
theorem TOwn.tch {base:Nat} {w w':World} {v:Value} {l:List (Sl×Sl)} {S:Nat->Prop} (h:TOwn base w v l) (k:Tch S w w') (hs:∀j,v.ownBlock=some j->¬S j):TOwn base w' v l:=by
 obtain ⟨h1,⟨rfl,h0⟩ | ⟨g,cap,cur,rfl,hb,hrow,h2⟩⟩:=h
 ·exact ⟨h1,.inl ⟨rfl,h0⟩⟩
 ·exact ⟨h1,.inr ⟨g,cap,cur,rfl,hb,(k.block g (Jb hrow) (hs g rfl)).trans hrow,h2⟩⟩
theorem TOwn.shape {base:Nat} {w:World} {v:Value} {l:List (Sl×Sl)} (h:TOwn base w v l):∃a c,v=.slice a l.length c:=h.at.shape
theorem TOwn.shape3 {base:Nat} {w:World} {v:Value} {l:List (Sl×Sl)} (h:TOwn base w v l):∃a m c,v=.slice a m c:=by
 obtain ⟨a,c,h⟩:=h.shape
 exact ⟨a,_,c,h⟩
theorem Jky:(prog.info? 98).map (λi=>(i.zero,i.size,i.bytes))=some (some (.agg #[.slice none 0 0,.slice none 0 0]),2,48):=by kernel_rfl
theorem Jdl {base:Nat} {w:World} {v:Value} {l:List (Sl×Sl)} (h:TOwn base w v l) (x:Value) (B:Nat) (l2:List (Sl×Sl)) (hx:JR B w x l2) (ty:TypeId) (hb:l.length+l2.length<=1000000000) (hbase:base<=w.heap.size):
  ∃v' w',(Builtin.append_ #[73,73] ty #[v,x]).run prog w=.ok v' w'/\TOwn base w' v' (l++l2)/\w.grownBy w' v.ownBlock:=by
 obtain ⟨i,hi,hp⟩:=Option.map_eq_some_iff.1 Jky
 simp only [Qw] at hp
 obtain ⟨hz,hsz,hby⟩:=hp
 rcases hx with ⟨rfl,rfl⟩ | ⟨g,o,c,rfl,_,hg,hcell⟩
 ·exact ⟨v,w,run_append_owned_none (P:=prog) (w:=w) base 73 ty 98 i 2 underlying73 hi v l.length (txV l) h,by rw [QC];exact h,World.grownBy.refl _ _⟩
 ·obtain ⟨v',w',hr,h2,h3,h4⟩:=run_append_own (P:=prog) w base 73 ty 98 i _ 2 48 underlying73 hi hz hsz hby rfl (by omega) v l.length (txV l) h ⟨g,o,none⟩ l2.length c (txV l2) (Jc6 l2) (JR.cells hcell) (Jlf l2) (by simp only [maxLen];omega) (by omega) hbase
  exact ⟨v',w',hr,by unfold TOwn;rw [Qe,Jgz];exact h2,h3⟩
theorem JbF {base:Nat} {w:World} {ops:Array Oper} {rest:List Oper} {o:Oper} {a:Act} {Q:Exit->Act->World->Prop} (hgd:o.guard=none) (s x:Operand)
  (ho:o.op=.call { callee:=.builtin .append,args:= #[s,x],argTypes:= #[73,73] })
  {v:Value} {l:List (Sl×Sl)} (hv:a.eval s=v) (h:TOwn base w v l) (xv:Value) (B:Nat) (l2:List (Sl×Sl)) (hx:a.eval x=xv) (hs:JR B w xv l2) (hb:l.length+l2.length<=1000000000) (hbase:base<=w.heap.size)
  (hK:∀v' w',TOwn base w' v' (l++l2)->w.grownBy w' v.ownBlock->wpList prog ops Q rest (a.put o.dst v') w'):wpList prog ops Q (o :: rest) a w:=by
 refine wpList_plain hgd λK hK'=>?_
 obtain ⟨v',w',hrun,r,r2⟩:=Jdl h xv B l2 hs o.type hb hbase
 unfold Oper.wp
 simp [execOp,ho,resolve,invoke,builtin,hv,hx,hrun,Result.andThen]
 exact hK' _ _ (hK v' w' r r2)
theorem Jl0 (W:World) (c:Sl×Sl):JR (W.heap.size+1) (W.alloc (.cells #[.slice c.1.1 c.1.2.1 c.1.2.2,.slice c.2.1 c.2.2.1 c.2.2.2] 98)) (.slice (some ⟨W.heap.size,0,none⟩) 1 1) [c]:=by
 refine .inr ⟨W.heap.size,0,1,rfl,by omega,by simp,λi hi=>?_⟩
 obtain rfl:i=0:=by simpa using hi
 have hrow:=Qf W (.cells #[.slice c.1.1 c.1.2.1 c.1.2.2,.slice c.2.1 c.2.2.1 c.2.2.2] 98)
 exact ⟨Ja hrow,Ja hrow⟩

def Xj:Er->Int
 | .form=>1
 | .tip=>2
 | .input=>3
 | .exist=>4
 | .sum=>5
 | .root=>6
 | .range=>7
