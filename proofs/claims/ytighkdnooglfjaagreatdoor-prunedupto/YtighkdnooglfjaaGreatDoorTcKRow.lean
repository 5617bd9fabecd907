import Derived.Test.YtighkdnooglfjaaGreatDoorTcKApp
namespace Go.Proofs.YtighkdnooglfjaaGreatDoor
open Tryz
open Go.RowKit

def Jcu (h:BA×Int):List Value:=[.string h.1,.int .i64 h.2]
def XM (l:List (BA×Int)):List Value:=l.flatMap Jcu
theorem YZ (l:List (BA×Int)):(XM l).length=l.length * 2:=by
 induction l with
 | nil=>rfl
 | cons x r ih=>simp only [XM,QG,Qe] at ih ⊢;rw [ih];simp [Jcu];omega
theorem JhJ (l:List (BA×Int)):∀u∈XM l,u.oneCell'=true:=by
 intro u hu
 simp only [XM,List.mem_flatMap,Jcu] at hu
 obtain ⟨x,_,hu⟩:=hu
 simp only [List.mem_cons,QD,or_false] at hu
 rcases hu with rfl | rfl <;> rfl
theorem Ja9 (l l':List (BA×Int)):XM (l++l')=XM l++XM l':=by simp [XM]
theorem Jdy (l:List (BA×Int)):∀(i:Nat) (h:i<l.length),(XM l)[i * 2]? =some (.string l[i].1)/\(XM l)[i * 2+1]? =some (.int .i64 l[i].2):=by
 induction l with
 | nil=>intro i h;simp at h
 | cons x r ih=>
  intro i h
  cases i with
  | zero=>simp [XM,Jcu]
  | succ i=>
   have e:∀j,(XM (x :: r))[(i+1) * 2+j]? =(XM r)[i * 2+j]? :=by
    intro j
    show (Jcu x++XM r)[(i+1) * 2+j]? =_
    rw [Qz (by simp [Jcu];omega)]
    congr 1;simp [Jcu];omega
   refine ⟨?_,?_⟩
   ·have:=e 0;rw [Nat.add_zero,Nat.add_zero] at this;rw [this];simpa using (ih i (by simpa using h)).1
   ·rw [e 1];simpa using (ih i (by simpa using h)).2
theorem Jz.cells {w:World} {g o:Nat} {l:List (BA×Int)} (h:∀i (h:i<l.length),w.cell? ⟨g,o+i * 2,none⟩=some (.string l[i].1)/\w.cell? ⟨g,o+i * 2+1,none⟩=some (.int .i64 l[i].2)):
  ∀j u,(XM l)[j]? =some u->w.cell? (Addr.add ⟨g,o,none⟩ j)=some u:=by
 intro j u hu
 have hj:j<l.length * 2:=by have:=(Qo.1 hu).1;rw [YZ] at this;exact this
 obtain ⟨e0,e1⟩:=Jdy l (j / 2) (by omega)
 obtain ⟨f0,f1⟩:=h (j / 2) (by omega)
 rw [Addr.add_lit]
 obtain hm | hm:j % 2=0\/j % 2=1:=by omega
 ·rw [show j / 2 * 2=j by omega] at e0;rw [show o+j / 2 * 2=o+j by omega] at f0;rw [f0,<-e0,hu]
 ·rw [show j / 2 * 2+1=j by omega] at e1;rw [show o+j / 2 * 2+1=o+j by omega] at f1;rw [f1,<-e1,hu]
def COwn (base:Nat) (w:World) (v:Value) (l:List (BA×Int)):Prop:=w.ownsRow base 49 2 v l.length (XM l)
theorem COwn.nil (base:Nat) (w:World):COwn base w (.slice none 0 0) []:=⟨rfl,.inl ⟨rfl,rfl⟩⟩
theorem COwn.at {base:Nat} {w:World} {v:Value} {l:List (BA×Int)} (h:COwn base w v l):Jz w.heap.size w v l:=by
 obtain ⟨_,⟨rfl,h0⟩ | ⟨g,cap,cur,rfl,_,hrow,_,_,hsz,htake⟩⟩:=h
 ·exact .inl ⟨rfl,QO h0⟩
 ·have hlt:=(Jb hrow)
  refine .inr ⟨g,0,cap,rfl,hlt,hlt,λi hi=>?_⟩
  obtain ⟨e0,e1⟩:=Jdy l i hi
  have hc:∀j u,(XM l)[j]? =some u->w.cell? ⟨g,0+j,none⟩=some u:=by
   intro j u hu
   rw [<-htake] at hu
   have hj:=(Qo.1 hu).1
   rw [List.getElem?_take_of_lt (by rw [QB] at hj;omega)] at hu
   rw [Ja hrow,Nat.zero_add,<-Array.getElem?_toList]
   exact hu
  exact ⟨hc _ _ e0,hc _ _ e1⟩
theorem COwn.own {base:Nat} {w:World} {v:Value} {l:List (BA×Int)} (h:COwn base w v l):∀k,v.ownBlock=some k->base<=k/\k<w.heap.size:=by
 obtain ⟨_,⟨rfl,h0⟩ | ⟨g,cap,cur,rfl,hb,hrow,_⟩⟩:=h
 ·intro k hk;cases hk
 ·intro k hk;cases hk;exact ⟨hb,(Jb hrow)⟩
theorem COwn.tch {base:Nat} {w w':World} {v:Value} {l:List (BA×Int)} {S:Nat->Prop} (h:COwn base w v l) (k:Tch S w w') (hs:∀j,v.ownBlock=some j->¬S j):COwn base w' v l:=by
 obtain ⟨h1,⟨rfl,h0⟩ | ⟨g,cap,cur,rfl,hb,hrow,h2⟩⟩:=h
 ·exact ⟨h1,.inl ⟨rfl,h0⟩⟩
 ·exact ⟨h1,.inr ⟨g,cap,cur,rfl,hb,(k.block g (Jb hrow) (hs g rfl)).trans hrow,h2⟩⟩
theorem COwn.shape {base:Nat} {w:World} {v:Value} {l:List (BA×Int)} (h:COwn base w v l):∃a c,v=.slice a l.length c:=h.at.shape
theorem COwn.shape3 {base:Nat} {w:World} {v:Value} {l:List (BA×Int)} (h:COwn base w v l):∃a m c,v=.slice a m c:=by
 obtain ⟨a,c,h⟩:=h.shape
 exact ⟨a,_,c,h⟩
theorem COwn.take {base:Nat} {w:World} {a:Option Addr} {n c:Nat} {l:List (BA×Int)} (h:COwn base w (.slice a n c) l) (k:Nat) (hk:k<=n):COwn base w (.slice a k c) (l.take k):=by
 obtain ⟨h1,⟨hv,h0⟩ | ⟨g,cap,cur,hv,hb,hrow,hcap,hm,hsz,htake⟩⟩:=h
 ·cases hv
  obtain rfl:k=0:=by omega
  exact ⟨by simp [XM],.inl ⟨rfl,by simp⟩⟩
 ·cases hv
  have hl:(l.take k).length=k:=by rw [QB];omega
  refine ⟨YZ _,.inr ⟨g,c,cur,by rw [hl],hb,hrow,by rw [hl];omega,hm,hsz,?_⟩⟩
  rw [hl]
  have e:XM (l.take k)=(XM l).take (k * 2):=by
   conv=>rhs;rw [<-List.take_append_drop k l,Ja9]
   rw [List.take_left' (by rw [YZ,hl])]
  rw [e,<-htake,List.take_take,Nat.min_eq_left (Nat.mul_le_mul_right _ hk)]
theorem Jh4:(prog.info? 49).map (λi=>(i.zero,i.size,i.bytes))=some (some (.agg #[.string ⟨#[]⟩,.int .i64 0]),2,24):=by kernel_rfl
theorem Jad {base:Nat} {w:World} {v:Value} {l:List (BA×Int)} (h:COwn base w v l) (x:Value) (B:Nat) (l2:List (BA×Int)) (hx:Jz B w x l2) (ty:TypeId) (hb:l.length+l2.length<=1000000000) (hbase:base<=w.heap.size):
  ∃v' w',(Builtin.append_ #[96,96] ty #[v,x]).run prog w=.ok v' w'/\COwn base w' v' (l++l2)/\w.grownBy w' v.ownBlock:=by
 obtain ⟨i,hi,hp⟩:=Option.map_eq_some_iff.1 Jh4
 simp only [Qw] at hp
 obtain ⟨hz,hsz,hby⟩:=hp
 rcases hx with ⟨rfl,rfl⟩ | ⟨g,o,c,rfl,_,hg,hcell⟩
 ·exact ⟨v,w,run_append_owned_none (P:=prog) (w:=w) base 96 ty 49 i 2 underlying96 hi v l.length (XM l) h,by rw [QC];exact h,World.grownBy.refl _ _⟩
 ·obtain ⟨v',w',hr,h2,h3,h4⟩:=run_append_own (P:=prog) w base 96 ty 49 i _ 2 24 underlying96 hi hz hsz hby rfl (by omega) v l.length (XM l) h ⟨g,o,none⟩ l2.length c (XM l2) (YZ l2) (Jz.cells hcell) (JhJ l2) (by simp only [maxLen];omega) (by omega) hbase
  exact ⟨v',w',hr,by unfold COwn;rw [Qe,Ja9];exact h2,h3⟩
theorem Ja1 {base:Nat} {w:World} {ops:Array Oper} {rest:List Oper} {o:Oper} {a:Act} {Q:Exit->Act->World->Prop} (hgd:o.guard=none) (s x:Operand)
  (ho:o.op=.call { callee:=.builtin .append,args:= #[s,x],argTypes:= #[96,96] })
  {v:Value} {l:List (BA×Int)} (hv:a.eval s=v) (h:COwn base w v l) (xv:Value) (B:Nat) (l2:List (BA×Int)) (hx:a.eval x=xv) (hs:Jz B w xv l2) (hb:l.length+l2.length<=1000000000) (hbase:base<=w.heap.size)
  (hK:∀v' w',COwn base w' v' (l++l2)->w.grownBy w' v.ownBlock->wpList prog ops Q rest (a.put o.dst v') w'):wpList prog ops Q (o :: rest) a w:=by
 refine wpList_plain hgd λK hK'=>?_
 obtain ⟨v',w',hrun,r,r2⟩:=Jad h xv B l2 hs o.type hb hbase
 unfold Oper.wp
 simp [execOp,ho,resolve,invoke,builtin,hv,hx,hrun,Result.andThen]
 exact hK' _ _ (hK v' w' r r2)
theorem ZJ {base:Nat} {ops:Array Oper} {o:Oper} {a:Act} {w:World} {K:Act->World->Prop} {Q:Exit->Act->World->Prop} {E:Prop}
  (hgd:o.guard=none) (s x:Operand) (ho:o.op=.call { callee:=.builtin .append,args:= #[s,x],argTypes:= #[96,96] })
  {v:Value} {l:List (BA×Int)} (hv:a.eval s=v) (h:COwn base w v l) (xv:Value) (B:Nat) (l2:List (BA×Int)) (hx:a.eval x=xv) (hs:Jz B w xv l2) (hb:l.length+l2.length<=1000000000) (hbase:base<=w.heap.size)
  (hK:∀v' w',COwn base w' v' (l++l2)->w.grownBy w' v.ownBlock->K (a.put o.dst v') w'):
  if Region.wanted o (yielded ops a.tmps)=true then Oper.wp prog o a w K Q else E:=by
 have hw:Region.wanted o (yielded ops a.tmps)=true:=by simp [Region.wanted,hgd]
 rw [if_pos hw]
 obtain ⟨v',w',hrun,r,r2⟩:=Jad h xv B l2 hs o.type hb hbase
 unfold Oper.wp
 simp [execOp,ho,resolve,invoke,builtin,hv,hx,hrun,Result.andThen]
 exact hK v' w' r r2
theorem JcE (W:World) (c:BA×Int):Jz (W.heap.size+1) (W.alloc (.cells #[.string c.1,.int .i64 c.2] 49)) (.slice (some ⟨W.heap.size,0,none⟩) 1 1) [c]:=by
 refine .inr ⟨W.heap.size,0,1,rfl,by omega,by simp,λi hi=>?_⟩
 obtain rfl:i=0:=by simpa using hi
 have hrow:=Qf W (.cells #[.string c.1,.int .i64 c.2] 49)
 exact ⟨Ja hrow,Ja hrow⟩

def outC (h:Nat×Nat):List Value:=[.int .u64 ((h.1:Nat):Int),.int .u8 ((h.2:Nat):Int)]
def outV (l:List (Nat×Nat)):List Value:=l.flatMap outC
theorem Jb0 (l:List (Nat×Nat)):(outV l).length=l.length * 2:=by
 induction l with
 | nil=>rfl
 | cons x r ih=>simp only [outV,QG,Qe] at ih ⊢;rw [ih];simp [outC];omega
theorem Jka (l:List (Nat×Nat)):∀u∈outV l,u.oneCell'=true:=by
 intro u hu
 simp only [outV,List.mem_flatMap,outC] at hu
 obtain ⟨x,_,hu⟩:=hu
 simp only [List.mem_cons,QD,or_false] at hu
 rcases hu with rfl | rfl <;> rfl
theorem Jfr (l l':List (Nat×Nat)):outV (l++l')=outV l++outV l':=by simp [outV]
theorem Jfs (l:List (Nat×Nat)):∀(i:Nat) (h:i<l.length),(outV l)[i * 2]? =some (.int .u64 ((l[i].1:Nat):Int))/\(outV l)[i * 2+1]? =some (.int .u8 ((l[i].2:Nat):Int)):=by
 induction l with
 | nil=>intro i h;simp at h
 | cons x r ih=>
  intro i h
  cases i with
  | zero=>simp [outV,outC]
  | succ i=>
   have e:∀j,(outV (x :: r))[(i+1) * 2+j]? =(outV r)[i * 2+j]? :=by
    intro j
    show (outC x++outV r)[(i+1) * 2+j]? =_
    rw [Qz (by simp [outC];omega)]
    congr 1;simp [outC];omega
   refine ⟨?_,?_⟩
   ·have:=e 0;rw [Nat.add_zero,Nat.add_zero] at this;rw [this];simpa using (ih i (by simpa using h)).1
   ·rw [e 1];simpa using (ih i (by simpa using h)).2
theorem Jo.cells {w:World} {g o:Nat} {l:List (Nat×Nat)} (h:∀i (h:i<l.length),w.cell? ⟨g,o+i * 2,none⟩=some (.int .u64 ((l[i].1:Nat):Int))/\w.cell? ⟨g,o+i * 2+1,none⟩=some (.int .u8 ((l[i].2:Nat):Int))):
  ∀j u,(outV l)[j]? =some u->w.cell? (Addr.add ⟨g,o,none⟩ j)=some u:=by
 intro j u hu
 have hj:j<l.length * 2:=by have:=(Qo.1 hu).1;rw [Jb0] at this;exact this
 obtain ⟨e0,e1⟩:=Jfs l (j / 2) (by omega)
 obtain ⟨f0,f1⟩:=h (j / 2) (by omega)
 rw [Addr.add_lit]
 obtain hm | hm:j % 2=0\/j % 2=1:=by omega
 ·rw [show j / 2 * 2=j by omega] at e0;rw [show o+j / 2 * 2=o+j by omega] at f0;rw [f0,<-e0,hu]
 ·rw [show j / 2 * 2+1=j by omega] at e1;rw [show o+j / 2 * 2+1=o+j by omega] at f1;rw [f1,<-e1,hu]
def OOwn (base:Nat) (w:World) (v:Value) (l:List (Nat×Nat)):Prop:=w.ownsRow base 80 2 v l.length (outV l)
theorem OOwn.nil (base:Nat) (w:World):OOwn base w (.slice none 0 0) []:=⟨rfl,.inl ⟨rfl,rfl⟩⟩
theorem OOwn.at {base:Nat} {w:World} {v:Value} {l:List (Nat×Nat)} (h:OOwn base w v l):Jo w.heap.size w v l:=by
 obtain ⟨_,⟨rfl,h0⟩ | ⟨g,cap,cur,rfl,_,hrow,_,_,hsz,htake⟩⟩:=h
 ·exact .inl ⟨rfl,QO h0⟩
 ·have hlt:=(Jb hrow)
  refine .inr ⟨g,0,cap,rfl,hlt,hlt,λi hi=>?_⟩
  obtain ⟨e0,e1⟩:=Jfs l i hi
  have hc:∀j u,(outV l)[j]? =some u->w.cell? ⟨g,0+j,none⟩=some u:=by
   intro j u hu
   rw [<-htake] at hu
   have hj:=(Qo.1 hu).1
   rw [List.getElem?_take_of_lt (by rw [QB] at hj;omega)] at hu
   rw [Ja hrow,Nat.zero_add,<-Array.getElem?_toList]
   exact hu
  exact ⟨hc _ _ e0,hc _ _ e1⟩
theorem OOwn.own {base:Nat} {w:World} {v:Value} {l:List (Nat×Nat)} (h:OOwn base w v l):∀k,v.ownBlock=some k->base<=k/\k<w.heap.size:=by
 obtain ⟨_,⟨rfl,h0⟩ | ⟨g,cap,cur,rfl,hb,hrow,_⟩⟩:=h
 ·intro k hk;cases hk
 ·intro k hk;cases hk;exact ⟨hb,(Jb hrow)⟩
theorem OOwn.tch {base:Nat} {w w':World} {v:Value} {l:List (Nat×Nat)} {S:Nat->Prop} (h:OOwn base w v l) (k:Tch S w w') (hs:∀j,v.ownBlock=some j->¬S j):OOwn base w' v l:=by
 obtain ⟨h1,⟨rfl,h0⟩ | ⟨g,cap,cur,rfl,hb,hrow,h2⟩⟩:=h
 ·exact ⟨h1,.inl ⟨rfl,h0⟩⟩
 ·exact ⟨h1,.inr ⟨g,cap,cur,rfl,hb,(k.block g (Jb hrow) (hs g rfl)).trans hrow,h2⟩⟩
theorem OOwn.shape {base:Nat} {w:World} {v:Value} {l:List (Nat×Nat)} (h:OOwn base w v l):∃a c,v=.slice a l.length c:=h.at.shape
theorem OOwn.shape3 {base:Nat} {w:World} {v:Value} {l:List (Nat×Nat)} (h:OOwn base w v l):∃a m c,v=.slice a m c:=by
 obtain ⟨a,c,h⟩:=h.shape
 exact ⟨a,_,c,h⟩
theorem JjN:(prog.info? 80).map (λi=>(i.zero,i.size,i.bytes))=some (some (.agg #[.int .u64 0,.int .u8 0]),2,16):=by kernel_rfl
theorem JcT {base:Nat} {w:World} {v:Value} {l:List (Nat×Nat)} (h:OOwn base w v l) (x:Value) (B:Nat) (l2:List (Nat×Nat)) (hx:Jo B w x l2) (ty:TypeId) (hb:l.length+l2.length<=1000000000) (hbase:base<=w.heap.size):
  ∃v' w',(Builtin.append_ #[22,22] ty #[v,x]).run prog w=.ok v' w'/\OOwn base w' v' (l++l2)/\w.grownBy w' v.ownBlock:=by
 obtain ⟨i,hi,hp⟩:=Option.map_eq_some_iff.1 JjN
 simp only [Qw] at hp
 obtain ⟨hz,hsz,hby⟩:=hp
 rcases hx with ⟨rfl,rfl⟩ | ⟨g,o,c,rfl,_,hg,hcell⟩
 ·exact ⟨v,w,run_append_owned_none (P:=prog) (w:=w) base 22 ty 80 i 2 underlying22 hi v l.length (outV l) h,by rw [QC];exact h,World.grownBy.refl _ _⟩
 ·obtain ⟨v',w',hr,h2,h3,h4⟩:=run_append_own (P:=prog) w base 22 ty 80 i _ 2 16 underlying22 hi hz hsz hby rfl (by omega) v l.length (outV l) h ⟨g,o,none⟩ l2.length c (outV l2) (Jb0 l2) (Jo.cells hcell) (Jka l2) (by simp only [maxLen];omega) (by omega) hbase
  exact ⟨v',w',hr,by unfold OOwn;rw [Qe,Jfr];exact h2,h3⟩
theorem Yu {base:Nat} {w:World} {ops:Array Oper} {rest:List Oper} {o:Oper} {a:Act} {Q:Exit->Act->World->Prop} (hgd:o.guard=none) (s x:Operand)
  (ho:o.op=.call { callee:=.builtin .append,args:= #[s,x],argTypes:= #[22,22] })
  {v:Value} {l:List (Nat×Nat)} (hv:a.eval s=v) (h:OOwn base w v l) (xv:Value) (B:Nat) (l2:List (Nat×Nat)) (hx:a.eval x=xv) (hs:Jo B w xv l2) (hb:l.length+l2.length<=1000000000) (hbase:base<=w.heap.size)
  (hK:∀v' w',OOwn base w' v' (l++l2)->w.grownBy w' v.ownBlock->wpList prog ops Q rest (a.put o.dst v') w'):wpList prog ops Q (o :: rest) a w:=by
 refine wpList_plain hgd λK hK'=>?_
 obtain ⟨v',w',hrun,r,r2⟩:=JcT h xv B l2 hs o.type hb hbase
 unfold Oper.wp
 simp [execOp,ho,resolve,invoke,builtin,hv,hx,hrun,Result.andThen]
 exact hK' _ _ (hK v' w' r r2)
theorem Jeo (W:World) (c:Nat×Nat):Jo (W.heap.size+1) (W.alloc (.cells #[.int .u64 ((c.1:Nat):Int),.int .u8 ((c.2:Nat):Int)] 80)) (.slice (some ⟨W.heap.size,0,none⟩) 1 1) [c]:=by
 refine .inr ⟨W.heap.size,0,1,rfl,by omega,by simp,λi hi=>?_⟩
 obtain rfl:i=0:=by simpa using hi
 have hrow:=Qf W (.cells #[.int .u64 ((c.1:Nat):Int),.int .u8 ((c.2:Nat):Int)] 80)
 exact ⟨Ja hrow,Ja hrow⟩

def txC (h:Sl×Sl):List Value:=[.slice h.1.1 h.1.2.1 h.1.2.2,.slice h.2.1 h.2.2.1 h.2.2.2]
def txV (l:List (Sl×Sl)):List Value:=l.flatMap txC
theorem Jc9 (l:List (Sl×Sl)):(txV l).length=l.length * 2:=by
 induction l with
 | nil=>rfl
 | cons x r ih=>simp only [txV,QG,Qe] at ih ⊢;rw [ih];simp [txC];omega
theorem JlQ (l:List (Sl×Sl)):∀u∈txV l,u.oneCell'=true:=by
 intro u hu
 simp only [txV,List.mem_flatMap,txC] at hu
 obtain ⟨x,_,hu⟩:=hu
 simp only [List.mem_cons,QD,or_false] at hu
 rcases hu with rfl | rfl <;> rfl
theorem Jg0 (l l':List (Sl×Sl)):txV (l++l')=txV l++txV l':=by simp [txV]
theorem Jhv (l:List (Sl×Sl)):∀(i:Nat) (h:i<l.length),(txV l)[i * 2]? =some (.slice l[i].1.1 l[i].1.2.1 l[i].1.2.2)/\(txV l)[i * 2+1]? =some (.slice l[i].2.1 l[i].2.2.1 l[i].2.2.2):=by
 induction l with
 | nil=>intro i h;simp at h
 | cons x r ih=>
  intro i h
  cases i with
  | zero=>simp [txV,txC]
  | succ i=>
   have e:∀j,(txV (x :: r))[(i+1) * 2+j]? =(txV r)[i * 2+j]? :=by
    intro j
    show (txC x++txV r)[(i+1) * 2+j]? =_
    rw [Qz (by simp [txC];omega)]
    congr 1;simp [txC];omega
   refine ⟨?_,?_⟩
   ·have:=e 0;rw [Nat.add_zero,Nat.add_zero] at this;rw [this];simpa using (ih i (by simpa using h)).1
   ·rw [e 1];simpa using (ih i (by simpa using h)).2
theorem Xi.cells {w:World} {g o:Nat} {l:List (Sl×Sl)} (h:∀i (h:i<l.length),w.cell? ⟨g,o+i * 2,none⟩=some (.slice l[i].1.1 l[i].1.2.1 l[i].1.2.2)/\w.cell? ⟨g,o+i * 2+1,none⟩=some (.slice l[i].2.1 l[i].2.2.1 l[i].2.2.2)):
  ∀j u,(txV l)[j]? =some u->w.cell? (Addr.add ⟨g,o,none⟩ j)=some u:=by
 intro j u hu
 have hj:j<l.length * 2:=by have:=(Qo.1 hu).1;rw [Jc9] at this;exact this
 obtain ⟨e0,e1⟩:=Jhv l (j / 2) (by omega)
 obtain ⟨f0,f1⟩:=h (j / 2) (by omega)
 rw [Addr.add_lit]
 obtain hm | hm:j % 2=0\/j % 2=1:=by omega
 ·rw [show j / 2 * 2=j by omega] at e0;rw [show o+j / 2 * 2=o+j by omega] at f0;rw [f0,<-e0,hu]
 ·rw [show j / 2 * 2+1=j by omega] at e1;rw [show o+j / 2 * 2+1=o+j by omega] at f1;rw [f1,<-e1,hu]
def TOwn (base:Nat) (w:World) (v:Value) (l:List (Sl×Sl)):Prop:=w.ownsRow base 98 2 v l.length (txV l)
theorem TOwn.at {base:Nat} {w:World} {v:Value} {l:List (Sl×Sl)} (h:TOwn base w v l):Xi w.heap.size w v l:=by
 obtain ⟨_,⟨rfl,h0⟩ | ⟨g,cap,cur,rfl,_,hrow,_,_,hsz,htake⟩⟩:=h
 ·exact .inl ⟨rfl,QO h0⟩
 ·have hlt:=(Jb hrow)
  refine .inr ⟨g,0,cap,rfl,hlt,hlt,λi hi=>?_⟩
  obtain ⟨e0,e1⟩:=Jhv l i hi
  have hc:∀j u,(txV l)[j]? =some u->w.cell? ⟨g,0+j,none⟩=some u:=by
   intro j u hu
   rw [<-htake] at hu
   have hj:=(Qo.1 hu).1
   rw [List.getElem?_take_of_lt (by rw [QB] at hj;omega)] at hu
   rw [Ja hrow,Nat.zero_add,<-Array.getElem?_toList]
   exact hu
  exact ⟨hc _ _ e0,hc _ _ e1⟩
theorem TOwn.own {base:Nat} {w:World} {v:Value} {l:List (Sl×Sl)} (h:TOwn base w v l):∀k,v.ownBlock=some k->base<=k/\k<w.heap.size:=by
 obtain ⟨_,⟨rfl,h0⟩ | ⟨g,cap,cur,rfl,hb,hrow,_⟩⟩:=h
 ·intro k hk;cases hk
 ·intro k hk;cases hk;exact ⟨hb,(Jb hrow)⟩
theorem TOwn.tch {base:Nat} {w w':World} {v:Value} {l:List (Sl×Sl)} {S:Nat->Prop} (h:TOwn base w v l) (k:Tch S w w') (hs:∀j,v.ownBlock=some j->¬S j):TOwn base w' v l:=by
 obtain ⟨h1,⟨rfl,h0⟩ | ⟨g,cap,cur,rfl,hb,hrow,h2⟩⟩:=h
 ·exact ⟨h1,.inl ⟨rfl,h0⟩⟩
 ·exact ⟨h1,.inr ⟨g,cap,cur,rfl,hb,(k.block g (Jb hrow) (hs g rfl)).trans hrow,h2⟩⟩
theorem TOwn.shape {base:Nat} {w:World} {v:Value} {l:List (Sl×Sl)} (h:TOwn base w v l):∃a c,v=.slice a l.length c:=h.at.shape
theorem TOwn.shape3 {base:Nat} {w:World} {v:Value} {l:List (Sl×Sl)} (h:TOwn base w v l):∃a m c,v=.slice a m c:=by
 obtain ⟨a,c,h⟩:=h.shape
 exact ⟨a,_,c,h⟩
theorem Jk7:(prog.info? 98).map (λi=>(i.zero,i.size,i.bytes))=some (some (.agg #[.slice none 0 0,.slice none 0 0]),2,48):=by kernel_rfl
theorem Jds {base:Nat} {w:World} {v:Value} {l:List (Sl×Sl)} (h:TOwn base w v l) (x:Value) (B:Nat) (l2:List (Sl×Sl)) (hx:Xi B w x l2) (ty:TypeId) (hb:l.length+l2.length<=1000000000) (hbase:base<=w.heap.size):
  ∃v' w',(Builtin.append_ #[73,73] ty #[v,x]).run prog w=.ok v' w'/\TOwn base w' v' (l++l2)/\w.grownBy w' v.ownBlock:=by
 obtain ⟨i,hi,hp⟩:=Option.map_eq_some_iff.1 Jk7
 simp only [Qw] at hp
 obtain ⟨hz,hsz,hby⟩:=hp
 rcases hx with ⟨rfl,rfl⟩ | ⟨g,o,c,rfl,_,hg,hcell⟩
 ·exact ⟨v,w,run_append_owned_none (P:=prog) (w:=w) base 73 ty 98 i 2 underlying73 hi v l.length (txV l) h,by rw [QC];exact h,World.grownBy.refl _ _⟩
 ·obtain ⟨v',w',hr,h2,h3,h4⟩:=run_append_own (P:=prog) w base 73 ty 98 i _ 2 48 underlying73 hi hz hsz hby rfl (by omega) v l.length (txV l) h ⟨g,o,none⟩ l2.length c (txV l2) (Jc9 l2) (Xi.cells hcell) (JlQ l2) (by simp only [maxLen];omega) (by omega) hbase
  exact ⟨v',w',hr,by unfold TOwn;rw [Qe,Jg0];exact h2,h3⟩
theorem JbM {base:Nat} {w:World} {ops:Array Oper} {rest:List Oper} {o:Oper} {a:Act} {Q:Exit->Act->World->Prop} (hgd:o.guard=none) (s x:Operand)
  (ho:o.op=.call { callee:=.builtin .append,args:= #[s,x],argTypes:= #[73,73] })
  {v:Value} {l:List (Sl×Sl)} (hv:a.eval s=v) (h:TOwn base w v l) (xv:Value) (B:Nat) (l2:List (Sl×Sl)) (hx:a.eval x=xv) (hs:Xi B w xv l2) (hb:l.length+l2.length<=1000000000) (hbase:base<=w.heap.size)
  (hK:∀v' w',TOwn base w' v' (l++l2)->w.grownBy w' v.ownBlock->wpList prog ops Q rest (a.put o.dst v') w'):wpList prog ops Q (o :: rest) a w:=by
 refine wpList_plain hgd λK hK'=>?_
 obtain ⟨v',w',hrun,r,r2⟩:=Jds h xv B l2 hs o.type hb hbase
 unfold Oper.wp
 simp [execOp,ho,resolve,invoke,builtin,hv,hx,hrun,Result.andThen]
 exact hK' _ _ (hK v' w' r r2)
theorem JmD (W:World) (c:Sl×Sl):Xi (W.heap.size+1) (W.alloc (.cells #[.slice c.1.1 c.1.2.1 c.1.2.2,.slice c.2.1 c.2.2.1 c.2.2.2] 98)) (.slice (some ⟨W.heap.size,0,none⟩) 1 1) [c]:=by
 refine .inr ⟨W.heap.size,0,1,rfl,by omega,by simp,λi hi=>?_⟩
 obtain rfl:i=0:=by simpa using hi
 have hrow:=Qf W (.cells #[.slice c.1.1 c.1.2.1 c.1.2.2,.slice c.2.1 c.2.2.1 c.2.2.2] 98)
 exact ⟨Ja hrow,Ja hrow⟩

def Jjd (w:World) (v:Value) (ts:List TxL):Prop:=
 ∃l:List (Sl×Sl),Xi w.heap.size w v l/\l.length=ts.length/\∀(j:Nat) x t,l[j]? =some x->ts[j]? =some t->Jz w.heap.size w (.slice x.1.1 x.1.2.1 x.1.2.2) t.1/\Jo w.heap.size w (.slice x.2.1 x.2.2.1 x.2.2.2) t.2
structure JV (E:Nat->Addr) (base:Nat) (w:World):Prop where
 env:Env E w
 sent:Sent E w
 vars:18<=base
 rows:∀g∈Ss,(E g).block<base
theorem JV.tch {E:Nat->Addr} {base:Nat} {S:Nat->Prop} {w w':World} (h:JV E base w) (k:Tch S w w') (hs:∀j,S j->base<=j):JV E base w':=
 ⟨h.env.tch k (λj hj=>Qm h.vars (hs j hj)),h.sent.tch k (λg hg hj=>by have:=hs _ hj;have:=h.rows g hg;omega),h.vars,h.rows⟩
def Jcy (ch:Ch) (h:Int):BA:=if 0<=h then (ch.getD h.toNat (⟨#[]⟩,none)).1 else ⟨#[]⟩
structure Led (E:Nat->Addr) (wd base:Nat) where
 At:World->Nat->(Nat->Prop)->Nat->Ch->Prop
 keep:∀{w w':World} {lb:Nat} {F S:Nat->Prop} {fl:Nat} {ch:Ch},At w lb F fl ch->Tch S w w'->(∀j,S j->¬F j)->At w' lb F fl ch
 own:∀{w:World} {lb:Nat} {F:Nat->Prop} {fl:Nat} {ch:Ch},At w lb F fl ch->∀j,F j->base<=j/\j<w.heap.size
 kinds:∀{w:World} {lb:Nat} {F:Nat->Prop} {fl:Nat} {ch:Ch},At w lb F fl ch->∀j,F j->∀cur T m,w.heap[j]? =some (.cells cur T m)->T ≠ 35/\T ≠ 43/\T ≠ 87
 tip:∀{w:World} {lb:Nat} {F:Nat->Prop} {fl:Nat} {ch:Ch},At w lb F fl ch->JV E base w->
  Calls prog 15 #[.pointer (some ⟨lb,0,none⟩)] w λe w'=>e=.returned (.int .i64 ((ch.length:Int) - 1))/\Tch NoB w w'
 header:∀{w:World} {lb:Nat} {F:Nat->Prop} {fl:Nat} {ch:Ch} (h:Int),At w lb F fl ch->JV E base w-> -9223372036854775808<=h->h<9223372036854775808->
  Calls prog 16 #[.pointer (some ⟨lb,0,none⟩),.int .i64 h] w λe w'=>e=.returned (.tuple #[.string (Jcy ch h),.int .i64 (if 0<=h/\h<(ch.length:Int) then 0 else 7)])/\Tch NoB w w'
 seals:∀{w:World} {lb:Nat} {F:Nat->Prop} {fl:Nat} {ch:Ch} (v:Value) (ts:List TxL),At w lb F fl ch->JV E base w->Jjd w v ts->(∀t∈ts,TxOk wd t)->ts.length<=3->ch.length<2 ^ 27->
  Calls prog 18 #[.pointer (some ⟨lb,0,none⟩),v] w λe w'=>Tch NoB w w'/\match JfC (dgW wd) wd ch ts with
   | .ok b=>e=.returned (.tuple #[.string ⟨b.toArray⟩,.int .i64 0])
   | .error er=>e=.returned (.tuple #[.string ⟨#[]⟩,.int .i64 (Xu er)])
 submits:∀{w:World} {lb:Nat} {F:Nat->Prop} {fl:Nat} {ch:Ch} (s:BA),At w lb F fl ch->JV E base w->s.size<=1000000->ch.length<2 ^ 27->
  Calls prog 19 #[.pointer (some ⟨lb,0,none⟩),.string s] w λe w'=>Tch F w w'/\∃F':Nat->Prop,(∀j,F' j->F j\/w.heap.size<=j)/\match YJ (dgW wd) wd ch s.data.toList with
   | .ok ch'=>e=.returned (.int .i64 0)/\At w' lb F' fl ch'
   | .error er=>e=.returned (.int .i64 (Xu er))/\At w' lb F' fl ch
def slV (l:List Sl):List Value:=l.map λx=>.slice x.1 x.2.1 x.2.2
theorem JgF (l l':List Sl):slV (l++l')=slV l++slV l':=by simp [slV]
def SOwn (base:Nat) (w:World) (v:Value) (l:List Sl):Prop:=w.ownsRow base 43 1 v l.length (slV l)
theorem SOwn.own {base:Nat} {w:World} {v:Value} {l:List Sl} (h:SOwn base w v l):∀k,v.ownBlock=some k->base<=k/\k<w.heap.size:=by
 obtain ⟨_,⟨rfl,h0⟩ | ⟨g,cap,cur,rfl,hb,hrow,_⟩⟩:=h
 ·intro k hk;cases hk
 ·intro k hk;cases hk;exact ⟨hb,(Jb hrow)⟩
theorem SOwn.tch {base:Nat} {w w':World} {v:Value} {l:List Sl} {S:Nat->Prop} (h:SOwn base w v l) (k:Tch S w w') (hs:∀j,v.ownBlock=some j->¬S j):SOwn base w' v l:=by
 obtain ⟨h1,⟨rfl,h0⟩ | ⟨g,cap,cur,rfl,hb,hrow,h2⟩⟩:=h
 ·exact ⟨h1,.inl ⟨rfl,h0⟩⟩
 ·exact ⟨h1,.inr ⟨g,cap,cur,rfl,hb,(k.block g (Jb hrow) (hs g rfl)).trans hrow,h2⟩⟩
theorem SOwn.at {base:Nat} {w:World} {v:Value} {l:List Sl} (h:SOwn base w v l) (hl:l ≠ []):∃g cap,v=.slice (some ⟨g,0,none⟩) l.length cap/\∀i (hi:i<l.length),w.cell? ⟨g,i,none⟩=some (.slice l[i].1 l[i].2.1 l[i].2.2):=by
 obtain ⟨_,⟨rfl,h0⟩ | ⟨g,cap,cur,rfl,hb,hrow,_,_,hsz,htake⟩⟩:=h
 ·exact absurd (QO h0) hl
 ·refine ⟨g,cap,rfl,λi hi=>?_⟩
  rw [Ja hrow,<-Array.getElem?_toList]
  have e:(slV l)[i]? =some (.slice l[i].1 l[i].2.1 l[i].2.2):=by simp [slV,hi]
  rw [<-htake,List.getElem?_take_of_lt (by omega)] at e
  exact e
theorem Jk6:(prog.info? 43).map (λi=>(i.zero,i.size,i.bytes))=some (some (.slice none 0 0),1,24):=by kernel_rfl
theorem Jdr {base:Nat} {w:World} {v:Value} {l:List Sl} (h:SOwn base w v l) (k:Nat) (x:Sl) (hx:w.cell? ⟨k,0,none⟩=some (.slice x.1 x.2.1 x.2.2)) (ty:TypeId) (hb:l.length<=10000000000) (hbase:base<=w.heap.size):
  ∃v' w',(Builtin.append_ #[33,33] ty #[v,.slice (some ⟨k,0,none⟩) 1 1]).run prog w=.ok v' w'/\SOwn base w' v' (l++[x])/\w.grownBy w' v.ownBlock:=by
 obtain ⟨i,hi,hp⟩:=Option.map_eq_some_iff.1 Jk6
 simp only [Qw] at hp
 obtain ⟨hz,hsz,hby⟩:=hp
 obtain ⟨v',w',hr,h2,h3,h4⟩:=run_append_own (P:=prog) w base 33 ty 43 i _ 1 24 underlying33 hi hz hsz hby rfl (by omega) v l.length (slV l) h ⟨k,0,none⟩ 1 1 (slV [x]) rfl (λj u hu=>by
  cases j with
  | zero=>simp only [slV,List.map_cons,List.map_nil,List.getElem?_cons_zero,Qh] at hu;rw [<-hu,Addr.add_lit];exact hx
  | succ j=>simp [slV] at hu) (λu hu=>by simp only [slV,List.map_cons,List.map_nil,Qt] at hu;rw [hu];rfl) (by simp only [maxLen];omega) (by omega) hbase
 exact ⟨v',w',hr,by unfold SOwn;rw [Qe,JgF];exact h2,h3⟩
theorem JbL {base:Nat} {w:World} {ops:Array Oper} {rest:List Oper} {o:Oper} {a:Act} {Q:Exit->Act->World->Prop} (hgd:o.guard=none) (s x:Operand)
  (ho:o.op=.call { callee:=.builtin .append,args:= #[s,x],argTypes:= #[33,33] })
  {v:Value} {l:List Sl} (hv:a.eval s=v) (h:SOwn base w v l) (k:Nat) (y:Sl) (hx:a.eval x=.slice (some ⟨k,0,none⟩) 1 1) (hc:w.cell? ⟨k,0,none⟩=some (.slice y.1 y.2.1 y.2.2)) (hb:l.length<=10000000000) (hbase:base<=w.heap.size)
  (hK:∀v' w',SOwn base w' v' (l++[y])->w.grownBy w' v.ownBlock->wpList prog ops Q rest (a.put o.dst v') w'):wpList prog ops Q (o :: rest) a w:=by
 refine wpList_plain hgd λK hK'=>?_
 obtain ⟨v',w',hrun,r,r2⟩:=Jdr h k y hc o.type hb hbase
 unfold Oper.wp
 simp [execOp,ho,resolve,invoke,builtin,hv,hx,hrun,Result.andThen]
 exact hK' _ _ (hK v' w' r r2)
structure JP {E:Nat->Addr} {wd base:Nat} (L:Led E wd base) (w:World) (xb lb:Nat) (F:Nat->Prop) (fl:Nat) (ch:Ch) (vst:Value) (sl:List Sl) (states:List (List Held)):Prop where
 row:w.heap[xb]? =some (.cells #[.pointer (some ⟨lb,0,none⟩),.int .i64 (wd:Int),vst,.int .i64 (fl:Int)] 35)
 led:L.At w lb F fl ch
 st:SOwn base w vst sl
 low:base<=xb
 held:∀(i:Nat) x l,sl[i]? =some x->states[i]? =some l->XX w (.slice x.1 x.2.1 x.2.2) l
 len:sl.length=states.length/\ch.length=states.length/\1<=states.length
 floor:fl<states.length
 book:∀(i:Nat) c l,0<=i->ch[i]? =some c->states[i]? =some l->Book wd c.2 l
theorem JP.next {E:Nat->Addr} {wd base:Nat} {L:Led E wd base} {w w':World} {xb lb:Nat} {F:Nat->Prop} {fl:Nat} {ch:Ch} {vst:Value} {sl:List Sl} {states:List (List Held)} (h:JP L w xb lb F fl ch vst sl states) (k:Tch NoB w w'):JP L w' xb lb F fl ch vst sl states:=
 ⟨(k.block _ (Jb h.row) (λe=>e)).trans h.row,L.keep h.led k (λ_ e=>e.elim),h.st.tch k (λ_ _ e=>e),h.low,λi x l h1 h2=>(h.held i x l h1 h2).tch k (λ_ _ e=>e),h.len,h.floor,h.book⟩
