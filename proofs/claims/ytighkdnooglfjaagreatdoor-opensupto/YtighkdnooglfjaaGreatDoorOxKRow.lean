import Derived.Test.YtighkdnooglfjaaGreatDoorOxKSmall
namespace Go.Proofs.YtighkdnooglfjaaGreatDoor
open Tryz
open Go.RowKit

def Jcw (h:BA×Int):List Value:=[.string h.1,.int .i64 h.2]
def XH (l:List (BA×Int)):List Value:=l.flatMap Jcw
theorem YP (l:List (BA×Int)):(XH l).length=l.length * 2:=by
 induction l with
 | nil=>rfl
 | cons x r ih=>simp only [XH,QG,Qe] at ih ⊢;rw [ih];simp [Jcw];omega
theorem JhK (l:List (BA×Int)):∀u∈XH l,u.oneCell'=true:=by
 intro u hu
 simp only [XH,List.mem_flatMap,Jcw] at hu
 obtain ⟨x,_,hu⟩:=hu
 simp only [List.mem_cons,QD,or_false] at hu
 rcases hu with rfl | rfl <;> rfl
theorem Ja5 (l l':List (BA×Int)):XH (l++l')=XH l++XH l':=by simp [XH]
theorem JdI (l:List (BA×Int)):∀(i:Nat) (h:i<l.length),(XH l)[i * 2]? =some (.string l[i].1)/\(XH l)[i * 2+1]? =some (.int .i64 l[i].2):=by
 induction l with
 | nil=>intro i h;simp at h
 | cons x r ih=>
  intro i h
  cases i with
  | zero=>simp [XH,Jcw]
  | succ i=>
   have e:∀j,(XH (x :: r))[(i+1) * 2+j]? =(XH r)[i * 2+j]? :=by
    intro j
    show (Jcw x++XH r)[(i+1) * 2+j]? =_
    rw [Qz (by simp [Jcw];omega)]
    congr 1;simp [Jcw];omega
   refine ⟨?_,?_⟩
   ·have:=e 0;rw [Nat.add_zero,Nat.add_zero] at this;rw [this];simpa using (ih i (by simpa using h)).1
   ·rw [e 1];simpa using (ih i (by simpa using h)).2
theorem JC.cells {w:World} {g o:Nat} {l:List (BA×Int)} (h:∀i (h:i<l.length),w.cell? ⟨g,o+i * 2,none⟩=some (.string l[i].1)/\w.cell? ⟨g,o+i * 2+1,none⟩=some (.int .i64 l[i].2)):
  ∀j u,(XH l)[j]? =some u->w.cell? (Addr.add ⟨g,o,none⟩ j)=some u:=by
 intro j u hu
 have hj:j<l.length * 2:=by have:=(Qo.1 hu).1;rw [YP] at this;exact this
 obtain ⟨e0,e1⟩:=JdI l (j / 2) (by omega)
 obtain ⟨f0,f1⟩:=h (j / 2) (by omega)
 rw [Addr.add_lit]
 obtain hm | hm:j % 2=0\/j % 2=1:=by omega
 ·rw [show j / 2 * 2=j by omega] at e0;rw [show o+j / 2 * 2=o+j by omega] at f0;rw [f0,<-e0,hu]
 ·rw [show j / 2 * 2+1=j by omega] at e1;rw [show o+j / 2 * 2+1=o+j by omega] at f1;rw [f1,<-e1,hu]
def COwn (base:Nat) (w:World) (v:Value) (l:List (BA×Int)):Prop:=w.ownsRow base 49 2 v l.length (XH l)
theorem COwn.nil (base:Nat) (w:World):COwn base w (.slice none 0 0) []:=⟨rfl,.inl ⟨rfl,rfl⟩⟩
theorem COwn.at {base:Nat} {w:World} {v:Value} {l:List (BA×Int)} (h:COwn base w v l):JC w.heap.size w v l:=by
 obtain ⟨_,⟨rfl,h0⟩ | ⟨g,cap,cur,rfl,_,hrow,_,_,hsz,htake⟩⟩:=h
 ·exact .inl ⟨rfl,List.eq_nil_of_length_eq_zero h0⟩
 ·have hlt:=(Jb hrow)
  refine .inr ⟨g,0,cap,rfl,hlt,hlt,λi hi=>?_⟩
  obtain ⟨e0,e1⟩:=JdI l i hi
  have hc:∀j u,(XH l)[j]? =some u->w.cell? ⟨g,0+j,none⟩=some u:=by
   intro j u hu
   rw [<-htake] at hu
   have hj:=(Qo.1 hu).1
   rw [List.getElem?_take_of_lt (by rw [QB] at hj;omega)] at hu
   rw [Ja hrow,Nat.zero_add,<-Array.getElem?_toList]
   exact hu
  exact ⟨hc _ _ e0,hc _ _ e1⟩
theorem COwn.own {base:Nat} {w:World} {v:Value} {l:List (BA×Int)} (h:COwn base w v l):∀k,v.ownBlock=some k->base<=k/\k<w.heap.size:=by
 obtain ⟨_,⟨rfl,h0⟩ | ⟨g,cap,cur,rfl,hb,hrow,_⟩⟩:=h
 ·intro k hk;cases hk
 ·intro k hk;cases hk;exact ⟨hb,(Jb hrow)⟩
theorem COwn.tch {base:Nat} {w w':World} {v:Value} {l:List (BA×Int)} {S:Nat->Prop} (h:COwn base w v l) (k:Tch S w w') (hs:∀j,v.ownBlock=some j->¬S j):COwn base w' v l:=by
 obtain ⟨h1,⟨rfl,h0⟩ | ⟨g,cap,cur,rfl,hb,hrow,h2⟩⟩:=h
 ·exact ⟨h1,.inl ⟨rfl,h0⟩⟩
 ·exact ⟨h1,.inr ⟨g,cap,cur,rfl,hb,(k.block g (Jb hrow) (hs g rfl)).trans hrow,h2⟩⟩
theorem COwn.shape {base:Nat} {w:World} {v:Value} {l:List (BA×Int)} (h:COwn base w v l):∃a c,v=.slice a l.length c:=h.at.shape
theorem COwn.shape3 {base:Nat} {w:World} {v:Value} {l:List (BA×Int)} (h:COwn base w v l):∃a m c,v=.slice a m c:=by
 obtain ⟨a,c,h⟩:=h.shape
 exact ⟨a,_,c,h⟩
theorem COwn.take {base:Nat} {w:World} {a:Option Addr} {n c:Nat} {l:List (BA×Int)} (h:COwn base w (.slice a n c) l) (k:Nat) (hk:k<=n):COwn base w (.slice a k c) (l.take k):=by
 obtain ⟨h1,⟨hv,h0⟩ | ⟨g,cap,cur,hv,hb,hrow,hcap,hm,hsz,htake⟩⟩:=h
 ·cases hv
  obtain rfl:k=0:=by omega
  exact ⟨by simp [XH],.inl ⟨rfl,by simp⟩⟩
 ·cases hv
  have hl:(l.take k).length=k:=by rw [QB];omega
  refine ⟨YP _,.inr ⟨g,c,cur,by rw [hl],hb,hrow,by rw [hl];omega,hm,hsz,?_⟩⟩
  rw [hl]
  have e:XH (l.take k)=(XH l).take (k * 2):=by
   conv=>rhs;rw [<-List.take_append_drop k l,Ja5]
   rw [List.take_left' (by rw [YP,hl])]
  rw [e,<-htake,List.take_take,Nat.min_eq_left (Nat.mul_le_mul_right _ hk)]
theorem Jic:(prog.info? 49).map (λi=>(i.zero,i.size,i.bytes))=some (some (.agg #[.string ⟨#[]⟩,.int .i64 0]),2,24):=by kernel_rfl
theorem Jac {base:Nat} {w:World} {v:Value} {l:List (BA×Int)} (h:COwn base w v l) (x:Value) (B:Nat) (l2:List (BA×Int)) (hx:JC B w x l2) (ty:TypeId) (hb:l.length+l2.length<=1000000000) (hbase:base<=w.heap.size):
  ∃v' w',(Builtin.append_ #[96,96] ty #[v,x]).run prog w=.ok v' w'/\COwn base w' v' (l++l2)/\w.grownBy w' v.ownBlock:=by
 obtain ⟨i,hi,hp⟩:=Option.map_eq_some_iff.1 Jic
 simp only [Qw] at hp
 obtain ⟨hz,hsz,hby⟩:=hp
 rcases hx with ⟨rfl,rfl⟩ | ⟨g,o,c,rfl,_,hg,hcell⟩
 ·exact ⟨v,w,run_append_owned_none (P:=prog) (w:=w) base 96 ty 49 i 2 underlying96 hi v l.length (XH l) h,by rw [QC];exact h,World.grownBy.refl _ _⟩
 ·obtain ⟨v',w',hr,h2,h3,h4⟩:=run_append_own (P:=prog) w base 96 ty 49 i _ 2 24 underlying96 hi hz hsz hby rfl (by omega) v l.length (XH l) h ⟨g,o,none⟩ l2.length c (XH l2) (YP l2) (JC.cells hcell) (JhK l2) (by simp only [maxLen];omega) (by omega) hbase
  exact ⟨v',w',hr,by unfold COwn;rw [Qe,Ja5];exact h2,h3⟩
theorem JaX {base:Nat} {w:World} {ops:Array Oper} {rest:List Oper} {o:Oper} {a:Act} {Q:Exit->Act->World->Prop} (hgd:o.guard=none) (s x:Operand)
  (ho:o.op=.call { callee:=.builtin .append,args:= #[s,x],argTypes:= #[96,96] })
  {v:Value} {l:List (BA×Int)} (hv:a.eval s=v) (h:COwn base w v l) (xv:Value) (B:Nat) (l2:List (BA×Int)) (hx:a.eval x=xv) (hs:JC B w xv l2) (hb:l.length+l2.length<=1000000000) (hbase:base<=w.heap.size)
  (hK:∀v' w',COwn base w' v' (l++l2)->w.grownBy w' v.ownBlock->wpList prog ops Q rest (a.put o.dst v') w'):wpList prog ops Q (o :: rest) a w:=by
 refine wpList_plain hgd λK hK'=>?_
 obtain ⟨v',w',hrun,r,r2⟩:=Jac h xv B l2 hs o.type hb hbase
 unfold Oper.wp
 simp [execOp,ho,resolve,invoke,builtin,hv,hx,hrun,Result.andThen]
 exact hK' _ _ (hK v' w' r r2)
theorem ZH {base:Nat} {ops:Array Oper} {o:Oper} {a:Act} {w:World} {K:Act->World->Prop} {Q:Exit->Act->World->Prop} {E:Prop}
  (hgd:o.guard=none) (s x:Operand) (ho:o.op=.call { callee:=.builtin .append,args:= #[s,x],argTypes:= #[96,96] })
  {v:Value} {l:List (BA×Int)} (hv:a.eval s=v) (h:COwn base w v l) (xv:Value) (B:Nat) (l2:List (BA×Int)) (hx:a.eval x=xv) (hs:JC B w xv l2) (hb:l.length+l2.length<=1000000000) (hbase:base<=w.heap.size)
  (hK:∀v' w',COwn base w' v' (l++l2)->w.grownBy w' v.ownBlock->K (a.put o.dst v') w'):
  if Region.wanted o (yielded ops a.tmps)=true then Oper.wp prog o a w K Q else E:=by
 have hw:Region.wanted o (yielded ops a.tmps)=true:=by simp [Region.wanted,hgd]
 rw [if_pos hw]
 obtain ⟨v',w',hrun,r,r2⟩:=Jac h xv B l2 hs o.type hb hbase
 unfold Oper.wp
 simp [execOp,ho,resolve,invoke,builtin,hv,hx,hrun,Result.andThen]
 exact hK v' w' r r2
theorem JcI (W:World) (c:BA×Int):JC (W.heap.size+1) (W.alloc (.cells #[.string c.1,.int .i64 c.2] 49)) (.slice (some ⟨W.heap.size,0,none⟩) 1 1) [c]:=by
 refine .inr ⟨W.heap.size,0,1,rfl,by omega,by simp,λi hi=>?_⟩
 obtain rfl:i=0:=by simpa using hi
 have hrow:=Qf W (.cells #[.string c.1,.int .i64 c.2] 49)
 exact ⟨Ja hrow,Ja hrow⟩

def outC (h:Nat×Nat):List Value:=[.int .u64 ((h.1:Nat):Int),.int .u8 ((h.2:Nat):Int)]
def outV (l:List (Nat×Nat)):List Value:=l.flatMap outC
theorem Jb1 (l:List (Nat×Nat)):(outV l).length=l.length * 2:=by
 induction l with
 | nil=>rfl
 | cons x r ih=>simp only [outV,QG,Qe] at ih ⊢;rw [ih];simp [outC];omega
theorem Jki (l:List (Nat×Nat)):∀u∈outV l,u.oneCell'=true:=by
 intro u hu
 simp only [outV,List.mem_flatMap,outC] at hu
 obtain ⟨x,_,hu⟩:=hu
 simp only [List.mem_cons,QD,or_false] at hu
 rcases hu with rfl | rfl <;> rfl
theorem JfD (l l':List (Nat×Nat)):outV (l++l')=outV l++outV l':=by simp [outV]
theorem JfE (l:List (Nat×Nat)):∀(i:Nat) (h:i<l.length),(outV l)[i * 2]? =some (.int .u64 ((l[i].1:Nat):Int))/\(outV l)[i * 2+1]? =some (.int .u8 ((l[i].2:Nat):Int)):=by
 induction l with
 | nil=>intro i h;simp at h
 | cons x r ih=>
  intro i h
  cases i with
  | zero=>simp [outV,outC]
  | succ i=>
   have e:∀j,(outV (x :: r))[(i+1) * 2+j]? =(outV r)[i * 2+j]? :=by
    intro j
    show (outC x++outV r)[(i+1) * 2+j]? =_
    rw [Qz (by simp [outC];omega)]
    congr 1;simp [outC];omega
   refine ⟨?_,?_⟩
   ·have:=e 0;rw [Nat.add_zero,Nat.add_zero] at this;rw [this];simpa using (ih i (by simpa using h)).1
   ·rw [e 1];simpa using (ih i (by simpa using h)).2
theorem Jo.cells {w:World} {g o:Nat} {l:List (Nat×Nat)} (h:∀i (h:i<l.length),w.cell? ⟨g,o+i * 2,none⟩=some (.int .u64 ((l[i].1:Nat):Int))/\w.cell? ⟨g,o+i * 2+1,none⟩=some (.int .u8 ((l[i].2:Nat):Int))):
  ∀j u,(outV l)[j]? =some u->w.cell? (Addr.add ⟨g,o,none⟩ j)=some u:=by
 intro j u hu
 have hj:j<l.length * 2:=by have:=(Qo.1 hu).1;rw [Jb1] at this;exact this
 obtain ⟨e0,e1⟩:=JfE l (j / 2) (by omega)
 obtain ⟨f0,f1⟩:=h (j / 2) (by omega)
 rw [Addr.add_lit]
 obtain hm | hm:j % 2=0\/j % 2=1:=by omega
 ·rw [show j / 2 * 2=j by omega] at e0;rw [show o+j / 2 * 2=o+j by omega] at f0;rw [f0,<-e0,hu]
 ·rw [show j / 2 * 2+1=j by omega] at e1;rw [show o+j / 2 * 2+1=o+j by omega] at f1;rw [f1,<-e1,hu]
def OOwn (base:Nat) (w:World) (v:Value) (l:List (Nat×Nat)):Prop:=w.ownsRow base 80 2 v l.length (outV l)
theorem OOwn.nil (base:Nat) (w:World):OOwn base w (.slice none 0 0) []:=⟨rfl,.inl ⟨rfl,rfl⟩⟩
theorem OOwn.at {base:Nat} {w:World} {v:Value} {l:List (Nat×Nat)} (h:OOwn base w v l):Jo w.heap.size w v l:=by
 obtain ⟨_,⟨rfl,h0⟩ | ⟨g,cap,cur,rfl,_,hrow,_,_,hsz,htake⟩⟩:=h
 ·exact .inl ⟨rfl,List.eq_nil_of_length_eq_zero h0⟩
 ·have hlt:=(Jb hrow)
  refine .inr ⟨g,0,cap,rfl,hlt,hlt,λi hi=>?_⟩
  obtain ⟨e0,e1⟩:=JfE l i hi
  have hc:∀j u,(outV l)[j]? =some u->w.cell? ⟨g,0+j,none⟩=some u:=by
   intro j u hu
   rw [<-htake] at hu
   have hj:=(Qo.1 hu).1
   rw [List.getElem?_take_of_lt (by rw [QB] at hj;omega)] at hu
   rw [Ja hrow,Nat.zero_add,<-Array.getElem?_toList]
   exact hu
  exact ⟨hc _ _ e0,hc _ _ e1⟩
theorem OOwn.own {base:Nat} {w:World} {v:Value} {l:List (Nat×Nat)} (h:OOwn base w v l):∀k,v.ownBlock=some k->base<=k/\k<w.heap.size:=by
 obtain ⟨_,⟨rfl,h0⟩ | ⟨g,cap,cur,rfl,hb,hrow,_⟩⟩:=h
 ·intro k hk;cases hk
 ·intro k hk;cases hk;exact ⟨hb,(Jb hrow)⟩
theorem OOwn.tch {base:Nat} {w w':World} {v:Value} {l:List (Nat×Nat)} {S:Nat->Prop} (h:OOwn base w v l) (k:Tch S w w') (hs:∀j,v.ownBlock=some j->¬S j):OOwn base w' v l:=by
 obtain ⟨h1,⟨rfl,h0⟩ | ⟨g,cap,cur,rfl,hb,hrow,h2⟩⟩:=h
 ·exact ⟨h1,.inl ⟨rfl,h0⟩⟩
 ·exact ⟨h1,.inr ⟨g,cap,cur,rfl,hb,(k.block g (Jb hrow) (hs g rfl)).trans hrow,h2⟩⟩
theorem OOwn.shape {base:Nat} {w:World} {v:Value} {l:List (Nat×Nat)} (h:OOwn base w v l):∃a c,v=.slice a l.length c:=h.at.shape
theorem OOwn.shape3 {base:Nat} {w:World} {v:Value} {l:List (Nat×Nat)} (h:OOwn base w v l):∃a m c,v=.slice a m c:=by
 obtain ⟨a,c,h⟩:=h.shape
 exact ⟨a,_,c,h⟩
theorem JjY:(prog.info? 80).map (λi=>(i.zero,i.size,i.bytes))=some (some (.agg #[.int .u64 0,.int .u8 0]),2,16):=by kernel_rfl
theorem JcV {base:Nat} {w:World} {v:Value} {l:List (Nat×Nat)} (h:OOwn base w v l) (x:Value) (B:Nat) (l2:List (Nat×Nat)) (hx:Jo B w x l2) (ty:TypeId) (hb:l.length+l2.length<=1000000000) (hbase:base<=w.heap.size):
  ∃v' w',(Builtin.append_ #[22,22] ty #[v,x]).run prog w=.ok v' w'/\OOwn base w' v' (l++l2)/\w.grownBy w' v.ownBlock:=by
 obtain ⟨i,hi,hp⟩:=Option.map_eq_some_iff.1 JjY
 simp only [Qw] at hp
 obtain ⟨hz,hsz,hby⟩:=hp
 rcases hx with ⟨rfl,rfl⟩ | ⟨g,o,c,rfl,_,hg,hcell⟩
 ·exact ⟨v,w,run_append_owned_none (P:=prog) (w:=w) base 22 ty 80 i 2 underlying22 hi v l.length (outV l) h,by rw [QC];exact h,World.grownBy.refl _ _⟩
 ·obtain ⟨v',w',hr,h2,h3,h4⟩:=run_append_own (P:=prog) w base 22 ty 80 i _ 2 16 underlying22 hi hz hsz hby rfl (by omega) v l.length (outV l) h ⟨g,o,none⟩ l2.length c (outV l2) (Jb1 l2) (Jo.cells hcell) (Jki l2) (by simp only [maxLen];omega) (by omega) hbase
  exact ⟨v',w',hr,by unfold OOwn;rw [Qe,JfD];exact h2,h3⟩
theorem Yo {base:Nat} {w:World} {ops:Array Oper} {rest:List Oper} {o:Oper} {a:Act} {Q:Exit->Act->World->Prop} (hgd:o.guard=none) (s x:Operand)
  (ho:o.op=.call { callee:=.builtin .append,args:= #[s,x],argTypes:= #[22,22] })
  {v:Value} {l:List (Nat×Nat)} (hv:a.eval s=v) (h:OOwn base w v l) (xv:Value) (B:Nat) (l2:List (Nat×Nat)) (hx:a.eval x=xv) (hs:Jo B w xv l2) (hb:l.length+l2.length<=1000000000) (hbase:base<=w.heap.size)
  (hK:∀v' w',OOwn base w' v' (l++l2)->w.grownBy w' v.ownBlock->wpList prog ops Q rest (a.put o.dst v') w'):wpList prog ops Q (o :: rest) a w:=by
 refine wpList_plain hgd λK hK'=>?_
 obtain ⟨v',w',hrun,r,r2⟩:=JcV h xv B l2 hs o.type hb hbase
 unfold Oper.wp
 simp [execOp,ho,resolve,invoke,builtin,hv,hx,hrun,Result.andThen]
 exact hK' _ _ (hK v' w' r r2)
theorem Jey (W:World) (c:Nat×Nat):Jo (W.heap.size+1) (W.alloc (.cells #[.int .u64 ((c.1:Nat):Int),.int .u8 ((c.2:Nat):Int)] 80)) (.slice (some ⟨W.heap.size,0,none⟩) 1 1) [c]:=by
 refine .inr ⟨W.heap.size,0,1,rfl,by omega,by simp,λi hi=>?_⟩
 obtain rfl:i=0:=by simpa using hi
 have hrow:=Qf W (.cells #[.int .u64 ((c.1:Nat):Int),.int .u8 ((c.2:Nat):Int)] 80)
 exact ⟨Ja hrow,Ja hrow⟩

def txC (h:Sl×Sl):List Value:=[.slice h.1.1 h.1.2.1 h.1.2.2,.slice h.2.1 h.2.2.1 h.2.2.2]
def txV (l:List (Sl×Sl)):List Value:=l.flatMap txC
theorem Jdf (l:List (Sl×Sl)):(txV l).length=l.length * 2:=by
 induction l with
 | nil=>rfl
 | cons x r ih=>simp only [txV,QG,Qe] at ih ⊢;rw [ih];simp [txC];omega
theorem Jl0 (l:List (Sl×Sl)):∀u∈txV l,u.oneCell'=true:=by
 intro u hu
 simp only [txV,List.mem_flatMap,txC] at hu
 obtain ⟨x,_,hu⟩:=hu
 simp only [List.mem_cons,QD,or_false] at hu
 rcases hu with rfl | rfl <;> rfl
theorem Jg2 (l l':List (Sl×Sl)):txV (l++l')=txV l++txV l':=by simp [txV]
theorem Jhx (l:List (Sl×Sl)):∀(i:Nat) (h:i<l.length),(txV l)[i * 2]? =some (.slice l[i].1.1 l[i].1.2.1 l[i].1.2.2)/\(txV l)[i * 2+1]? =some (.slice l[i].2.1 l[i].2.2.1 l[i].2.2.2):=by
 induction l with
 | nil=>intro i h;simp at h
 | cons x r ih=>
  intro i h
  cases i with
  | zero=>simp [txV,txC]
  | succ i=>
   have e:∀j,(txV (x :: r))[(i+1) * 2+j]? =(txV r)[i * 2+j]? :=by
    intro j
    show (txC x++txV r)[(i+1) * 2+j]? =_
    rw [Qz (by simp [txC];omega)]
    congr 1;simp [txC];omega
   refine ⟨?_,?_⟩
   ·have:=e 0;rw [Nat.add_zero,Nat.add_zero] at this;rw [this];simpa using (ih i (by simpa using h)).1
   ·rw [e 1];simpa using (ih i (by simpa using h)).2
theorem Xf.cells {w:World} {g o:Nat} {l:List (Sl×Sl)} (h:∀i (h:i<l.length),w.cell? ⟨g,o+i * 2,none⟩=some (.slice l[i].1.1 l[i].1.2.1 l[i].1.2.2)/\w.cell? ⟨g,o+i * 2+1,none⟩=some (.slice l[i].2.1 l[i].2.2.1 l[i].2.2.2)):
  ∀j u,(txV l)[j]? =some u->w.cell? (Addr.add ⟨g,o,none⟩ j)=some u:=by
 intro j u hu
 have hj:j<l.length * 2:=by have:=(Qo.1 hu).1;rw [Jdf] at this;exact this
 obtain ⟨e0,e1⟩:=Jhx l (j / 2) (by omega)
 obtain ⟨f0,f1⟩:=h (j / 2) (by omega)
 rw [Addr.add_lit]
 obtain hm | hm:j % 2=0\/j % 2=1:=by omega
 ·rw [show j / 2 * 2=j by omega] at e0;rw [show o+j / 2 * 2=o+j by omega] at f0;rw [f0,<-e0,hu]
 ·rw [show j / 2 * 2+1=j by omega] at e1;rw [show o+j / 2 * 2+1=o+j by omega] at f1;rw [f1,<-e1,hu]
def TOwn (base:Nat) (w:World) (v:Value) (l:List (Sl×Sl)):Prop:=w.ownsRow base 98 2 v l.length (txV l)
theorem TOwn.at {base:Nat} {w:World} {v:Value} {l:List (Sl×Sl)} (h:TOwn base w v l):Xf w.heap.size w v l:=by
 obtain ⟨_,⟨rfl,h0⟩ | ⟨g,cap,cur,rfl,_,hrow,_,_,hsz,htake⟩⟩:=h
 ·exact .inl ⟨rfl,List.eq_nil_of_length_eq_zero h0⟩
 ·have hlt:=(Jb hrow)
  refine .inr ⟨g,0,cap,rfl,hlt,hlt,λi hi=>?_⟩
  obtain ⟨e0,e1⟩:=Jhx l i hi
  have hc:∀j u,(txV l)[j]? =some u->w.cell? ⟨g,0+j,none⟩=some u:=by
   intro j u hu
   rw [<-htake] at hu
   have hj:=(Qo.1 hu).1
   rw [List.getElem?_take_of_lt (by rw [QB] at hj;omega)] at hu
   rw [Ja hrow,Nat.zero_add,<-Array.getElem?_toList]
   exact hu
  exact ⟨hc _ _ e0,hc _ _ e1⟩
theorem TOwn.own {base:Nat} {w:World} {v:Value} {l:List (Sl×Sl)} (h:TOwn base w v l):∀k,v.ownBlock=some k->base<=k/\k<w.heap.size:=by
 obtain ⟨_,⟨rfl,h0⟩ | ⟨g,cap,cur,rfl,hb,hrow,_⟩⟩:=h
 ·intro k hk;cases hk
 ·intro k hk;cases hk;exact ⟨hb,(Jb hrow)⟩
theorem TOwn.tch {base:Nat} {w w':World} {v:Value} {l:List (Sl×Sl)} {S:Nat->Prop} (h:TOwn base w v l) (k:Tch S w w') (hs:∀j,v.ownBlock=some j->¬S j):TOwn base w' v l:=by
 obtain ⟨h1,⟨rfl,h0⟩ | ⟨g,cap,cur,rfl,hb,hrow,h2⟩⟩:=h
 ·exact ⟨h1,.inl ⟨rfl,h0⟩⟩
 ·exact ⟨h1,.inr ⟨g,cap,cur,rfl,hb,(k.block g (Jb hrow) (hs g rfl)).trans hrow,h2⟩⟩
theorem TOwn.shape {base:Nat} {w:World} {v:Value} {l:List (Sl×Sl)} (h:TOwn base w v l):∃a c,v=.slice a l.length c:=h.at.shape
theorem TOwn.shape3 {base:Nat} {w:World} {v:Value} {l:List (Sl×Sl)} (h:TOwn base w v l):∃a m c,v=.slice a m c:=by
 obtain ⟨a,c,h⟩:=h.shape
 exact ⟨a,_,c,h⟩
theorem Jlc:(prog.info? 98).map (λi=>(i.zero,i.size,i.bytes))=some (some (.agg #[.slice none 0 0,.slice none 0 0]),2,48):=by kernel_rfl
theorem Jdy {base:Nat} {w:World} {v:Value} {l:List (Sl×Sl)} (h:TOwn base w v l) (x:Value) (B:Nat) (l2:List (Sl×Sl)) (hx:Xf B w x l2) (ty:TypeId) (hb:l.length+l2.length<=1000000000) (hbase:base<=w.heap.size):
  ∃v' w',(Builtin.append_ #[73,73] ty #[v,x]).run prog w=.ok v' w'/\TOwn base w' v' (l++l2)/\w.grownBy w' v.ownBlock:=by
 obtain ⟨i,hi,hp⟩:=Option.map_eq_some_iff.1 Jlc
 simp only [Qw] at hp
 obtain ⟨hz,hsz,hby⟩:=hp
 rcases hx with ⟨rfl,rfl⟩ | ⟨g,o,c,rfl,_,hg,hcell⟩
 ·exact ⟨v,w,run_append_owned_none (P:=prog) (w:=w) base 73 ty 98 i 2 underlying73 hi v l.length (txV l) h,by rw [QC];exact h,World.grownBy.refl _ _⟩
 ·obtain ⟨v',w',hr,h2,h3,h4⟩:=run_append_own (P:=prog) w base 73 ty 98 i _ 2 48 underlying73 hi hz hsz hby rfl (by omega) v l.length (txV l) h ⟨g,o,none⟩ l2.length c (txV l2) (Jdf l2) (Xf.cells hcell) (Jl0 l2) (by simp only [maxLen];omega) (by omega) hbase
  exact ⟨v',w',hr,by unfold TOwn;rw [Qe,Jg2];exact h2,h3⟩
theorem JbQ {base:Nat} {w:World} {ops:Array Oper} {rest:List Oper} {o:Oper} {a:Act} {Q:Exit->Act->World->Prop} (hgd:o.guard=none) (s x:Operand)
  (ho:o.op=.call { callee:=.builtin .append,args:= #[s,x],argTypes:= #[73,73] })
  {v:Value} {l:List (Sl×Sl)} (hv:a.eval s=v) (h:TOwn base w v l) (xv:Value) (B:Nat) (l2:List (Sl×Sl)) (hx:a.eval x=xv) (hs:Xf B w xv l2) (hb:l.length+l2.length<=1000000000) (hbase:base<=w.heap.size)
  (hK:∀v' w',TOwn base w' v' (l++l2)->w.grownBy w' v.ownBlock->wpList prog ops Q rest (a.put o.dst v') w'):wpList prog ops Q (o :: rest) a w:=by
 refine wpList_plain hgd λK hK'=>?_
 obtain ⟨v',w',hrun,r,r2⟩:=Jdy h xv B l2 hs o.type hb hbase
 unfold Oper.wp
 simp [execOp,ho,resolve,invoke,builtin,hv,hx,hrun,Result.andThen]
 exact hK' _ _ (hK v' w' r r2)
theorem JmI (W:World) (c:Sl×Sl):Xf (W.heap.size+1) (W.alloc (.cells #[.slice c.1.1 c.1.2.1 c.1.2.2,.slice c.2.1 c.2.2.1 c.2.2.2] 98)) (.slice (some ⟨W.heap.size,0,none⟩) 1 1) [c]:=by
 refine .inr ⟨W.heap.size,0,1,rfl,by omega,by simp,λi hi=>?_⟩
 obtain rfl:i=0:=by simpa using hi
 have hrow:=Qf W (.cells #[.slice c.1.1 c.1.2.1 c.1.2.2,.slice c.2.1 c.2.2.1 c.2.2.2] 98)
 exact ⟨Ja hrow,Ja hrow⟩
