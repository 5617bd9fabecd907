import Derived.Test.YtighkdnooglfjaaGreatDoorOcIs
import Derived.Laws.AppendOwnNone
import Derived.Test.YtighkdnooglfjaaGreatDoorOcIds2
namespace Go.Proofs.YtighkdnooglfjaaGreatDoor
open Go.Proofs.Tryz
open Go.RowKit

def Jcz (h:Held):List Value:=[.string h.1.1,.int .i64 h.1.2,.int .u64 ((h.2.1:Nat):Int),.int .u8 ((h.2.2:Nat):Int)]
def XI (l:List Held):List Value:=l.flatMap Jcz
theorem Ja3 (l:List Held):(XI l).length=l.length * 4:=by
 induction l with
 | nil=>rfl
 | cons x r ih=>simp only [XI,QG,Qe] at ih ⊢;rw [ih];simp [Jcz];omega
theorem Jh2 (l:List Held):∀u∈XI l,u.oneCell'=true:=by
 intro u hu
 simp only [XI,List.mem_flatMap,Jcz] at hu
 obtain ⟨x,_,hu⟩:=hu
 simp only [List.mem_cons,QD,or_false] at hu
 rcases hu with rfl | rfl | rfl | rfl <;> rfl
theorem Jem (l l':List Held):XI (l++l')=XI l++XI l':=by simp [XI]
theorem JdM (l:List Held):∀(i:Nat) (h:i<l.length),(XI l)[i * 4]? =some (.string l[i].1.1)/\(XI l)[i * 4+1]? =some (.int .i64 l[i].1.2)/\(XI l)[i * 4+2]? =some (.int .u64 ((l[i].2.1:Nat):Int))/\(XI l)[i * 4+3]? =some (.int .u8 ((l[i].2.2:Nat):Int)):=by
 induction l with
 | nil=>intro i h;simp at h
 | cons x r ih=>
  intro i h
  cases i with
  | zero=>simp [XI,Jcz]
  | succ i=>
   have:=ih i (by simpa using h)
   have e:∀j,(XI (x :: r))[(i+1) * 4+j]? =(XI r)[i * 4+j]? :=by
    intro j
    show (Jcz x++XI r)[(i+1) * 4+j]? =_
    rw [Qz (by simp [Jcz];omega)]
    congr 1;simp [Jcz];omega
   refine ⟨?_,?_,?_,?_⟩
   ·have:=e 0;rw [Nat.add_zero,Nat.add_zero] at this;rw [this];simpa using (ih i (by simpa using h)).1
   ·rw [e 1];simpa using (ih i (by simpa using h)).2.1
   ·rw [e 2];simpa using (ih i (by simpa using h)).2.2.1
   ·rw [e 3];simpa using (ih i (by simpa using h)).2.2.2
theorem Xa.cells {w:World} {g o:Nat} {l:List Held} (h:∀i (h:i<l.length),w.cell? ⟨g,o+i * 4,none⟩=some (.string l[i].1.1)/\w.cell? ⟨g,o+i * 4+1,none⟩=some (.int .i64 l[i].1.2)/\w.cell? ⟨g,o+i * 4+2,none⟩=some (.int .u64 ((l[i].2.1:Nat):Int))/\w.cell? ⟨g,o+i * 4+3,none⟩=some (.int .u8 ((l[i].2.2:Nat):Int))):
  ∀j u,(XI l)[j]? =some u->w.cell? (Addr.add ⟨g,o,none⟩ j)=some u:=by
 intro j u hu
 have hj:j<l.length * 4:=by have:=(Qo.1 hu).1;rw [Ja3] at this;exact this
 obtain ⟨e0,e1,e2,e3⟩:=JdM l (j / 4) (by omega)
 obtain ⟨f0,f1,f2,f3⟩:=h (j / 4) (by omega)
 rw [Addr.add_lit]
 obtain hm | hm | hm | hm:j % 4=0\/j % 4=1\/j % 4=2\/j % 4=3:=by omega
 ·rw [show j / 4 * 4=j by omega] at e0;rw [show o+j / 4 * 4=o+j by omega] at f0;rw [f0,<-e0,hu]
 ·rw [show j / 4 * 4+1=j by omega] at e1;rw [show o+j / 4 * 4+1=o+j by omega] at f1;rw [f1,<-e1,hu]
 ·rw [show j / 4 * 4+2=j by omega] at e2;rw [show o+j / 4 * 4+2=o+j by omega] at f2;rw [f2,<-e2,hu]
 ·rw [show j / 4 * 4+3=j by omega] at e3;rw [show o+j / 4 * 4+3=o+j by omega] at f3;rw [f3,<-e3,hu]
def HOwn (base:Nat) (w:World) (v:Value) (l:List Held):Prop:=w.ownsRow base 87 4 v l.length (XI l)
theorem HOwn.nil (base:Nat) (w:World):HOwn base w (.slice none 0 0) []:=⟨rfl,.inl ⟨rfl,rfl⟩⟩
theorem HOwn.at {base:Nat} {w:World} {v:Value} {l:List Held} (h:HOwn base w v l):Xa w v l:=by
 obtain ⟨_,⟨rfl,h0⟩ | ⟨g,cap,cur,rfl,_,hrow,_,_,hsz,htake⟩⟩:=h
 ·exact .inl ⟨rfl,QN h0⟩
 ·refine .inr ⟨g,0,cap,rfl,(Jb hrow),λi hi=>?_⟩
  obtain ⟨e0,e1,e2,e3⟩:=JdM l i hi
  have hc:∀j u,(XI l)[j]? =some u->w.cell? ⟨g,0+j,none⟩=some u:=by
   intro j u hu
   rw [<-htake] at hu
   have hj:=(Qo.1 hu).1
   rw [List.getElem?_take_of_lt (by rw [QB] at hj;omega)] at hu
   rw [Ja hrow,Nat.zero_add,<-Array.getElem?_toList]
   exact hu
  exact ⟨hc _ _ e0,hc _ _ e1,hc _ _ e2,hc _ _ e3⟩
theorem HOwn.own {base:Nat} {w:World} {v:Value} {l:List Held} (h:HOwn base w v l):∀k,v.ownBlock=some k->base<=k/\k<w.heap.size:=by
 obtain ⟨_,⟨rfl,h0⟩ | ⟨g,cap,cur,rfl,hb,hrow,_⟩⟩:=h
 ·intro k hk;cases hk
 ·intro k hk;cases hk;exact ⟨hb,(Jb hrow)⟩
theorem HOwn.tch {base:Nat} {w w':World} {v:Value} {l:List Held} {S:Nat->Prop} (h:HOwn base w v l) (k:Tch S w w') (hs:∀j,v.ownBlock=some j->¬S j):HOwn base w' v l:=by
 obtain ⟨h1,⟨rfl,h0⟩ | ⟨g,cap,cur,rfl,hb,hrow,h2⟩⟩:=h
 ·exact ⟨h1,.inl ⟨rfl,h0⟩⟩
 ·exact ⟨h1,.inr ⟨g,cap,cur,rfl,hb,(k.block g (Jb hrow) (hs g rfl)).trans hrow,h2⟩⟩
theorem HOwn.grow {base:Nat} {w w' W:World} {v:Value} {l:List Held} (h:HOwn base w v l) (hg:w.grownBy w' v.ownBlock) (hW:W.heap.size<=base) (k:Tch NoB W w):Tch NoB W w':=
 k.trans (Tg hg) (λj hj=>by
  have:=(h.own j hj.symm).1
  exact .inr (by omega))
theorem Jh4:(prog.info? 87).map (λi=>(i.zero,i.size,i.bytes))=some (some (.agg #[.string ⟨#[]⟩,.int .i64 0,.int .u64 0,.int .u8 0]),4,40):=by kernel_rfl
theorem Jac {base:Nat} {w:World} {v:Value} {l:List Held} (h:HOwn base w v l) (x:Value) (l2:List Held) (hx:Xa w x l2) (ty:TypeId) (hb:l.length+l2.length<=1000000000) (hbase:base<=w.heap.size):
  ∃v' w',(Builtin.append_ #[43,43] ty #[v,x]).run prog w=.ok v' w'/\HOwn base w' v' (l++l2)/\w.grownBy w' v.ownBlock:=by
 obtain ⟨i,hi,hp⟩:=Option.map_eq_some_iff.1 Jh4
 simp only [Qw] at hp
 obtain ⟨hz,hsz,hby⟩:=hp
 rcases hx with ⟨rfl,rfl⟩ | ⟨g,o,c,rfl,hg,hcell⟩
 ·exact ⟨v,w,run_append_owned_none (P:=prog) (w:=w) base 43 ty 87 i 4 underlying43 hi v l.length (XI l) h,by rw [QC];exact h,World.grownBy.refl _ _⟩
 ·obtain ⟨v',w',hr,h2,h3,h4⟩:=run_append_own (P:=prog) w base 43 ty 87 i _ 4 40 underlying43 hi hz hsz hby rfl (by omega) v l.length (XI l) h ⟨g,o,none⟩ l2.length c (XI l2) (Ja3 l2) (Xa.cells hcell) (Jh2 l2) (by simp only [maxLen];omega) (by omega) hbase
  exact ⟨v',w',hr,by unfold HOwn;rw [Qe,Jem];exact h2,h3⟩
theorem Xm {base:Nat} {w:World} {ops:Array Oper} {rest:List Oper} {o:Oper} {a:Act} {Q:Exit->Act->World->Prop} (hgd:o.guard=none) (s x:Operand)
  (ho:o.op=.call { callee:=.builtin .append,args:= #[s,x],argTypes:= #[43,43] })
  {v:Value} {l:List Held} (hv:a.eval s=v) (h:HOwn base w v l) (xv:Value) (l2:List Held) (hx:a.eval x=xv) (hs:Xa w xv l2) (hb:l.length+l2.length<=1000000000) (hbase:base<=w.heap.size)
  (hK:∀v' w',HOwn base w' v' (l++l2)->w.grownBy w' v.ownBlock->wpList prog ops Q rest (a.put o.dst v') w'):wpList prog ops Q (o :: rest) a w:=by
 refine wpList_plain hgd λK hK'=>?_
 obtain ⟨v',w',hrun,r,r2⟩:=Jac h xv l2 hs o.type hb hbase
 unfold Oper.wp
 simp [execOp,ho,resolve,invoke,builtin,hv,hx,hrun,Result.andThen]
 exact hK' _ _ (hK v' w' r r2)
theorem JbJ {base:Nat} {ops:Array Oper} {o:Oper} {a:Act} {w:World} {K:Act->World->Prop} {Q:Exit->Act->World->Prop} {E:Prop}
  (hgd:o.guard=none) (s x:Operand) (ho:o.op=.call { callee:=.builtin .append,args:= #[s,x],argTypes:= #[43,43] })
  {v:Value} {l:List Held} (hv:a.eval s=v) (h:HOwn base w v l) (xv:Value) (l2:List Held) (hx:a.eval x=xv) (hs:Xa w xv l2) (hb:l.length+l2.length<=1000000000) (hbase:base<=w.heap.size)
  (hK:∀v' w',HOwn base w' v' (l++l2)->w.grownBy w' v.ownBlock->K (a.put o.dst v') w'):
  if Region.wanted o (yielded ops a.tmps)=true then Oper.wp prog o a w K Q else E:=by
 have hw:Region.wanted o (yielded ops a.tmps)=true:=by simp [Region.wanted,hgd]
 rw [if_pos hw]
 obtain ⟨v',w',hrun,r,r2⟩:=Jac h xv l2 hs o.type hb hbase
 unfold Oper.wp
 simp [execOp,ho,resolve,invoke,builtin,hv,hx,hrun,Result.andThen]
 exact hK v' w' r r2
def XQ (w:World) (v:Value) (l:List Held):Prop:=Xa w v l/\∀j,v.ownBlock=some j->∃cur m,w.heap[j]? =some (.cells cur 87 m)
theorem HOwn.t {base:Nat} {w:World} {v:Value} {l:List Held} (h:HOwn base w v l):XQ w v l:=by
 refine ⟨h.at,?_⟩
 obtain ⟨_,⟨rfl,h0⟩ | ⟨g,cap,cur,rfl,hb,hrow,_⟩⟩:=h
 ·intro k hk;cases hk
 ·intro k hk;cases hk;exact ⟨cur,_,hrow⟩
theorem XQ.tch {w w':World} {v:Value} {l:List Held} {S:Nat->Prop} (h:XQ w v l) (k:Tch S w w') (hs:∀j,v.ownBlock=some j->¬S j):XQ w' v l:=by
 obtain ⟨h1,h2⟩:=h
 refine ⟨?_,λj hj=>?_⟩
 ·rcases h1 with h | ⟨gi,oi,c,rfl,hl,h3⟩
  ·exact .inl h
  ·refine .inr ⟨gi,oi,c,rfl,Qk hl k.size,λi hi=>?_⟩
   have hc:∀o,w'.cell? ⟨gi,o,none⟩=w.cell? ⟨gi,o,none⟩:=λo=>k.cell (p:=⟨gi,o,none⟩) hl (hs gi rfl)
   rw [hc,hc,hc,hc];exact h3 i hi
 ·obtain ⟨cur,m,hr⟩:=h2 j hj
  exact ⟨cur,m,(k.block j (Jb hr) (hs j hj)).trans hr⟩
theorem HOwn.shape {base:Nat} {w:World} {v:Value} {l:List Held} (h:HOwn base w v l):∃a c,v=.slice a l.length c:=h.at.shape

def Jct (h:BA×Int):List Value:=[.string h.1,.int .i64 h.2]
def XF (l:List (BA×Int)):List Value:=l.flatMap Jct
theorem YQ (l:List (BA×Int)):(XF l).length=l.length * 2:=by
 induction l with
 | nil=>rfl
 | cons x r ih=>simp only [XF,QG,Qe] at ih ⊢;rw [ih];simp [Jct];omega
theorem JhH (l:List (BA×Int)):∀u∈XF l,u.oneCell'=true:=by
 intro u hu
 simp only [XF,List.mem_flatMap,Jct] at hu
 obtain ⟨x,_,hu⟩:=hu
 simp only [List.mem_cons,QD,or_false] at hu
 rcases hu with rfl | rfl <;> rfl
theorem Ja1 (l l':List (BA×Int)):XF (l++l')=XF l++XF l':=by simp [XF]
theorem JdF (l:List (BA×Int)):∀(i:Nat) (h:i<l.length),(XF l)[i * 2]? =some (.string l[i].1)/\(XF l)[i * 2+1]? =some (.int .i64 l[i].2):=by
 induction l with
 | nil=>intro i h;simp at h
 | cons x r ih=>
  intro i h
  cases i with
  | zero=>simp [XF,Jct]
  | succ i=>
   have e:∀j,(XF (x :: r))[(i+1) * 2+j]? =(XF r)[i * 2+j]? :=by
    intro j
    show (Jct x++XF r)[(i+1) * 2+j]? =_
    rw [Qz (by simp [Jct];omega)]
    congr 1;simp [Jct];omega
   refine ⟨?_,?_⟩
   ·have:=e 0;rw [Nat.add_zero,Nat.add_zero] at this;rw [this];simpa using (ih i (by simpa using h)).1
   ·rw [e 1];simpa using (ih i (by simpa using h)).2
theorem JB.cells {w:World} {g o:Nat} {l:List (BA×Int)} (h:∀i (h:i<l.length),w.cell? ⟨g,o+i * 2,none⟩=some (.string l[i].1)/\w.cell? ⟨g,o+i * 2+1,none⟩=some (.int .i64 l[i].2)):
  ∀j u,(XF l)[j]? =some u->w.cell? (Addr.add ⟨g,o,none⟩ j)=some u:=by
 intro j u hu
 have hj:j<l.length * 2:=by have:=(Qo.1 hu).1;rw [YQ] at this;exact this
 obtain ⟨e0,e1⟩:=JdF l (j / 2) (by omega)
 obtain ⟨f0,f1⟩:=h (j / 2) (by omega)
 rw [Addr.add_lit]
 obtain hm | hm:j % 2=0\/j % 2=1:=by omega
 ·rw [show j / 2 * 2=j by omega] at e0;rw [show o+j / 2 * 2=o+j by omega] at f0;rw [f0,<-e0,hu]
 ·rw [show j / 2 * 2+1=j by omega] at e1;rw [show o+j / 2 * 2+1=o+j by omega] at f1;rw [f1,<-e1,hu]
def COwn (base:Nat) (w:World) (v:Value) (l:List (BA×Int)):Prop:=w.ownsRow base 49 2 v l.length (XF l)
theorem COwn.nil (base:Nat) (w:World):COwn base w (.slice none 0 0) []:=⟨rfl,.inl ⟨rfl,rfl⟩⟩
theorem COwn.at {base:Nat} {w:World} {v:Value} {l:List (BA×Int)} (h:COwn base w v l):JB w.heap.size w v l:=by
 obtain ⟨_,⟨rfl,h0⟩ | ⟨g,cap,cur,rfl,_,hrow,_,_,hsz,htake⟩⟩:=h
 ·exact .inl ⟨rfl,QN h0⟩
 ·have hlt:=(Jb hrow)
  refine .inr ⟨g,0,cap,rfl,hlt,hlt,λi hi=>?_⟩
  obtain ⟨e0,e1⟩:=JdF l i hi
  have hc:∀j u,(XF l)[j]? =some u->w.cell? ⟨g,0+j,none⟩=some u:=by
   intro j u hu
   rw [<-htake] at hu
   have hj:=(Qo.1 hu).1
   rw [List.getElem?_take_of_lt (by rw [QB] at hj;omega)] at hu
   rw [Ja hrow,Nat.zero_add,<-Array.getElem?_toList]
   exact hu
  exact ⟨hc _ _ e0,hc _ _ e1⟩
theorem COwn.own {base:Nat} {w:World} {v:Value} {l:List (BA×Int)} (h:COwn base w v l):∀k,v.ownBlock=some k->base<=k/\k<w.heap.size:=by
 obtain ⟨_,⟨rfl,h0⟩ | ⟨g,cap,cur,rfl,hb,hrow,_⟩⟩:=h
 ·intro k hk;cases hk
 ·intro k hk;cases hk;exact ⟨hb,(Jb hrow)⟩
theorem COwn.tch {base:Nat} {w w':World} {v:Value} {l:List (BA×Int)} {S:Nat->Prop} (h:COwn base w v l) (k:Tch S w w') (hs:∀j,v.ownBlock=some j->¬S j):COwn base w' v l:=by
 obtain ⟨h1,⟨rfl,h0⟩ | ⟨g,cap,cur,rfl,hb,hrow,h2⟩⟩:=h
 ·exact ⟨h1,.inl ⟨rfl,h0⟩⟩
 ·exact ⟨h1,.inr ⟨g,cap,cur,rfl,hb,(k.block g (Jb hrow) (hs g rfl)).trans hrow,h2⟩⟩
theorem COwn.shape {base:Nat} {w:World} {v:Value} {l:List (BA×Int)} (h:COwn base w v l):∃a c,v=.slice a l.length c:=h.at.shape
theorem COwn.shape3 {base:Nat} {w:World} {v:Value} {l:List (BA×Int)} (h:COwn base w v l):∃a m c,v=.slice a m c:=by
 obtain ⟨a,c,h⟩:=h.shape
 exact ⟨a,_,c,h⟩
theorem COwn.take {base:Nat} {w:World} {a:Option Addr} {n c:Nat} {l:List (BA×Int)} (h:COwn base w (.slice a n c) l) (k:Nat) (hk:k<=n):COwn base w (.slice a k c) (l.take k):=by
 obtain ⟨h1,⟨hv,h0⟩ | ⟨g,cap,cur,hv,hb,hrow,hcap,hm,hsz,htake⟩⟩:=h
 ·cases hv
  obtain rfl:k=0:=by omega
  exact ⟨by simp [XF],.inl ⟨rfl,by simp⟩⟩
 ·cases hv
  have hl:(l.take k).length=k:=by rw [QB];omega
  refine ⟨YQ _,.inr ⟨g,c,cur,by rw [hl],hb,hrow,by rw [hl];omega,hm,hsz,?_⟩⟩
  rw [hl]
  have e:XF (l.take k)=(XF l).take (k * 2):=by
   conv=>rhs;rw [<-List.take_append_drop k l,Ja1]
   rw [List.take_left' (by rw [YQ,hl])]
  rw [e,<-htake,List.take_take,Nat.min_eq_left (Nat.mul_le_mul_right _ hk)]
theorem Jh3:(prog.info? 49).map (λi=>(i.zero,i.size,i.bytes))=some (some (.agg #[.string ⟨#[]⟩,.int .i64 0]),2,24):=by kernel_rfl
theorem Jab {base:Nat} {w:World} {v:Value} {l:List (BA×Int)} (h:COwn base w v l) (x:Value) (B:Nat) (l2:List (BA×Int)) (hx:JB B w x l2) (ty:TypeId) (hb:l.length+l2.length<=1000000000) (hbase:base<=w.heap.size):
  ∃v' w',(Builtin.append_ #[96,96] ty #[v,x]).run prog w=.ok v' w'/\COwn base w' v' (l++l2)/\w.grownBy w' v.ownBlock:=by
 obtain ⟨i,hi,hp⟩:=Option.map_eq_some_iff.1 Jh3
 simp only [Qw] at hp
 obtain ⟨hz,hsz,hby⟩:=hp
 rcases hx with ⟨rfl,rfl⟩ | ⟨g,o,c,rfl,_,hg,hcell⟩
 ·exact ⟨v,w,run_append_owned_none (P:=prog) (w:=w) base 96 ty 49 i 2 underlying96 hi v l.length (XF l) h,by rw [QC];exact h,World.grownBy.refl _ _⟩
 ·obtain ⟨v',w',hr,h2,h3,h4⟩:=run_append_own (P:=prog) w base 96 ty 49 i _ 2 24 underlying96 hi hz hsz hby rfl (by omega) v l.length (XF l) h ⟨g,o,none⟩ l2.length c (XF l2) (YQ l2) (JB.cells hcell) (JhH l2) (by simp only [maxLen];omega) (by omega) hbase
  exact ⟨v',w',hr,by unfold COwn;rw [Qe,Ja1];exact h2,h3⟩
theorem JaU {base:Nat} {w:World} {ops:Array Oper} {rest:List Oper} {o:Oper} {a:Act} {Q:Exit->Act->World->Prop} (hgd:o.guard=none) (s x:Operand)
  (ho:o.op=.call { callee:=.builtin .append,args:= #[s,x],argTypes:= #[96,96] })
  {v:Value} {l:List (BA×Int)} (hv:a.eval s=v) (h:COwn base w v l) (xv:Value) (B:Nat) (l2:List (BA×Int)) (hx:a.eval x=xv) (hs:JB B w xv l2) (hb:l.length+l2.length<=1000000000) (hbase:base<=w.heap.size)
  (hK:∀v' w',COwn base w' v' (l++l2)->w.grownBy w' v.ownBlock->wpList prog ops Q rest (a.put o.dst v') w'):wpList prog ops Q (o :: rest) a w:=by
 refine wpList_plain hgd λK hK'=>?_
 obtain ⟨v',w',hrun,r,r2⟩:=Jab h xv B l2 hs o.type hb hbase
 unfold Oper.wp
 simp [execOp,ho,resolve,invoke,builtin,hv,hx,hrun,Result.andThen]
 exact hK' _ _ (hK v' w' r r2)
theorem ZI {base:Nat} {ops:Array Oper} {o:Oper} {a:Act} {w:World} {K:Act->World->Prop} {Q:Exit->Act->World->Prop} {E:Prop}
  (hgd:o.guard=none) (s x:Operand) (ho:o.op=.call { callee:=.builtin .append,args:= #[s,x],argTypes:= #[96,96] })
  {v:Value} {l:List (BA×Int)} (hv:a.eval s=v) (h:COwn base w v l) (xv:Value) (B:Nat) (l2:List (BA×Int)) (hx:a.eval x=xv) (hs:JB B w xv l2) (hb:l.length+l2.length<=1000000000) (hbase:base<=w.heap.size)
  (hK:∀v' w',COwn base w' v' (l++l2)->w.grownBy w' v.ownBlock->K (a.put o.dst v') w'):
  if Region.wanted o (yielded ops a.tmps)=true then Oper.wp prog o a w K Q else E:=by
 have hw:Region.wanted o (yielded ops a.tmps)=true:=by simp [Region.wanted,hgd]
 rw [if_pos hw]
 obtain ⟨v',w',hrun,r,r2⟩:=Jab h xv B l2 hs o.type hb hbase
 unfold Oper.wp
 simp [execOp,ho,resolve,invoke,builtin,hv,hx,hrun,Result.andThen]
 exact hK v' w' r r2
theorem JcF (W:World) (c:BA×Int):JB (W.heap.size+1) (W.alloc (.cells #[.string c.1,.int .i64 c.2] 49)) (.slice (some ⟨W.heap.size,0,none⟩) 1 1) [c]:=by
 refine .inr ⟨W.heap.size,0,1,rfl,by omega,by simp,λi hi=>?_⟩
 obtain rfl:i=0:=by simpa using hi
 have hrow:=Qf W (.cells #[.string c.1,.int .i64 c.2] 49)
 exact ⟨Ja hrow,Ja hrow⟩

def outC (h:Nat×Nat):List Value:=[.int .u64 ((h.1:Nat):Int),.int .u8 ((h.2:Nat):Int)]
def outV (l:List (Nat×Nat)):List Value:=l.flatMap outC
theorem JbY (l:List (Nat×Nat)):(outV l).length=l.length * 2:=by
 induction l with
 | nil=>rfl
 | cons x r ih=>simp only [outV,QG,Qe] at ih ⊢;rw [ih];simp [outC];omega
theorem Jkb (l:List (Nat×Nat)):∀u∈outV l,u.oneCell'=true:=by
 intro u hu
 simp only [outV,List.mem_flatMap,outC] at hu
 obtain ⟨x,_,hu⟩:=hu
 simp only [List.mem_cons,QD,or_false] at hu
 rcases hu with rfl | rfl <;> rfl
theorem JfB (l l':List (Nat×Nat)):outV (l++l')=outV l++outV l':=by simp [outV]
theorem JfC (l:List (Nat×Nat)):∀(i:Nat) (h:i<l.length),(outV l)[i * 2]? =some (.int .u64 ((l[i].1:Nat):Int))/\(outV l)[i * 2+1]? =some (.int .u8 ((l[i].2:Nat):Int)):=by
 induction l with
 | nil=>intro i h;simp at h
 | cons x r ih=>
  intro i h
  cases i with
  | zero=>simp [outV,outC]
  | succ i=>
   have e:∀j,(outV (x :: r))[(i+1) * 2+j]? =(outV r)[i * 2+j]? :=by
    intro j
    show (outC x++outV r)[(i+1) * 2+j]? =_
    rw [Qz (by simp [outC];omega)]
    congr 1;simp [outC];omega
   refine ⟨?_,?_⟩
   ·have:=e 0;rw [Nat.add_zero,Nat.add_zero] at this;rw [this];simpa using (ih i (by simpa using h)).1
   ·rw [e 1];simpa using (ih i (by simpa using h)).2
theorem Jo.cells {w:World} {g o:Nat} {l:List (Nat×Nat)} (h:∀i (h:i<l.length),w.cell? ⟨g,o+i * 2,none⟩=some (.int .u64 ((l[i].1:Nat):Int))/\w.cell? ⟨g,o+i * 2+1,none⟩=some (.int .u8 ((l[i].2:Nat):Int))):
  ∀j u,(outV l)[j]? =some u->w.cell? (Addr.add ⟨g,o,none⟩ j)=some u:=by
 intro j u hu
 have hj:j<l.length * 2:=by have:=(Qo.1 hu).1;rw [JbY] at this;exact this
 obtain ⟨e0,e1⟩:=JfC l (j / 2) (by omega)
 obtain ⟨f0,f1⟩:=h (j / 2) (by omega)
 rw [Addr.add_lit]
 obtain hm | hm:j % 2=0\/j % 2=1:=by omega
 ·rw [show j / 2 * 2=j by omega] at e0;rw [show o+j / 2 * 2=o+j by omega] at f0;rw [f0,<-e0,hu]
 ·rw [show j / 2 * 2+1=j by omega] at e1;rw [show o+j / 2 * 2+1=o+j by omega] at f1;rw [f1,<-e1,hu]
def OOwn (base:Nat) (w:World) (v:Value) (l:List (Nat×Nat)):Prop:=w.ownsRow base 80 2 v l.length (outV l)
theorem OOwn.nil (base:Nat) (w:World):OOwn base w (.slice none 0 0) []:=⟨rfl,.inl ⟨rfl,rfl⟩⟩
theorem OOwn.at {base:Nat} {w:World} {v:Value} {l:List (Nat×Nat)} (h:OOwn base w v l):Jo w.heap.size w v l:=by
 obtain ⟨_,⟨rfl,h0⟩ | ⟨g,cap,cur,rfl,_,hrow,_,_,hsz,htake⟩⟩:=h
 ·exact .inl ⟨rfl,QN h0⟩
 ·have hlt:=(Jb hrow)
  refine .inr ⟨g,0,cap,rfl,hlt,hlt,λi hi=>?_⟩
  obtain ⟨e0,e1⟩:=JfC l i hi
  have hc:∀j u,(outV l)[j]? =some u->w.cell? ⟨g,0+j,none⟩=some u:=by
   intro j u hu
   rw [<-htake] at hu
   have hj:=(Qo.1 hu).1
   rw [List.getElem?_take_of_lt (by rw [QB] at hj;omega)] at hu
   rw [Ja hrow,Nat.zero_add,<-Array.getElem?_toList]
   exact hu
  exact ⟨hc _ _ e0,hc _ _ e1⟩
theorem OOwn.own {base:Nat} {w:World} {v:Value} {l:List (Nat×Nat)} (h:OOwn base w v l):∀k,v.ownBlock=some k->base<=k/\k<w.heap.size:=by
 obtain ⟨_,⟨rfl,h0⟩ | ⟨g,cap,cur,rfl,hb,hrow,_⟩⟩:=h
 ·intro k hk;cases hk
 ·intro k hk;cases hk;exact ⟨hb,(Jb hrow)⟩
theorem OOwn.tch {base:Nat} {w w':World} {v:Value} {l:List (Nat×Nat)} {S:Nat->Prop} (h:OOwn base w v l) (k:Tch S w w') (hs:∀j,v.ownBlock=some j->¬S j):OOwn base w' v l:=by
 obtain ⟨h1,⟨rfl,h0⟩ | ⟨g,cap,cur,rfl,hb,hrow,h2⟩⟩:=h
 ·exact ⟨h1,.inl ⟨rfl,h0⟩⟩
 ·exact ⟨h1,.inr ⟨g,cap,cur,rfl,hb,(k.block g (Jb hrow) (hs g rfl)).trans hrow,h2⟩⟩
theorem OOwn.shape {base:Nat} {w:World} {v:Value} {l:List (Nat×Nat)} (h:OOwn base w v l):∃a c,v=.slice a l.length c:=h.at.shape
theorem OOwn.shape3 {base:Nat} {w:World} {v:Value} {l:List (Nat×Nat)} (h:OOwn base w v l):∃a m c,v=.slice a m c:=by
 obtain ⟨a,c,h⟩:=h.shape
 exact ⟨a,_,c,h⟩
theorem JjR:(prog.info? 80).map (λi=>(i.zero,i.size,i.bytes))=some (some (.agg #[.int .u64 0,.int .u8 0]),2,16):=by kernel_rfl
theorem JcS {base:Nat} {w:World} {v:Value} {l:List (Nat×Nat)} (h:OOwn base w v l) (x:Value) (B:Nat) (l2:List (Nat×Nat)) (hx:Jo B w x l2) (ty:TypeId) (hb:l.length+l2.length<=1000000000) (hbase:base<=w.heap.size):
  ∃v' w',(Builtin.append_ #[22,22] ty #[v,x]).run prog w=.ok v' w'/\OOwn base w' v' (l++l2)/\w.grownBy w' v.ownBlock:=by
 obtain ⟨i,hi,hp⟩:=Option.map_eq_some_iff.1 JjR
 simp only [Qw] at hp
 obtain ⟨hz,hsz,hby⟩:=hp
 rcases hx with ⟨rfl,rfl⟩ | ⟨g,o,c,rfl,_,hg,hcell⟩
 ·exact ⟨v,w,run_append_owned_none (P:=prog) (w:=w) base 22 ty 80 i 2 underlying22 hi v l.length (outV l) h,by rw [QC];exact h,World.grownBy.refl _ _⟩
 ·obtain ⟨v',w',hr,h2,h3,h4⟩:=run_append_own (P:=prog) w base 22 ty 80 i _ 2 16 underlying22 hi hz hsz hby rfl (by omega) v l.length (outV l) h ⟨g,o,none⟩ l2.length c (outV l2) (JbY l2) (Jo.cells hcell) (Jkb l2) (by simp only [maxLen];omega) (by omega) hbase
  exact ⟨v',w',hr,by unfold OOwn;rw [Qe,JfB];exact h2,h3⟩
theorem Yl {base:Nat} {w:World} {ops:Array Oper} {rest:List Oper} {o:Oper} {a:Act} {Q:Exit->Act->World->Prop} (hgd:o.guard=none) (s x:Operand)
  (ho:o.op=.call { callee:=.builtin .append,args:= #[s,x],argTypes:= #[22,22] })
  {v:Value} {l:List (Nat×Nat)} (hv:a.eval s=v) (h:OOwn base w v l) (xv:Value) (B:Nat) (l2:List (Nat×Nat)) (hx:a.eval x=xv) (hs:Jo B w xv l2) (hb:l.length+l2.length<=1000000000) (hbase:base<=w.heap.size)
  (hK:∀v' w',OOwn base w' v' (l++l2)->w.grownBy w' v.ownBlock->wpList prog ops Q rest (a.put o.dst v') w'):wpList prog ops Q (o :: rest) a w:=by
 refine wpList_plain hgd λK hK'=>?_
 obtain ⟨v',w',hrun,r,r2⟩:=JcS h xv B l2 hs o.type hb hbase
 unfold Oper.wp
 simp [execOp,ho,resolve,invoke,builtin,hv,hx,hrun,Result.andThen]
 exact hK' _ _ (hK v' w' r r2)
theorem Jew (W:World) (c:Nat×Nat):Jo (W.heap.size+1) (W.alloc (.cells #[.int .u64 ((c.1:Nat):Int),.int .u8 ((c.2:Nat):Int)] 80)) (.slice (some ⟨W.heap.size,0,none⟩) 1 1) [c]:=by
 refine .inr ⟨W.heap.size,0,1,rfl,by omega,by simp,λi hi=>?_⟩
 obtain rfl:i=0:=by simpa using hi
 have hrow:=Qf W (.cells #[.int .u64 ((c.1:Nat):Int),.int .u8 ((c.2:Nat):Int)] 80)
 exact ⟨Ja hrow,Ja hrow⟩

def txC (h:Sl×Sl):List Value:=[.slice h.1.1 h.1.2.1 h.1.2.2,.slice h.2.1 h.2.2.1 h.2.2.2]
def txV (l:List (Sl×Sl)):List Value:=l.flatMap txC
theorem Jdc (l:List (Sl×Sl)):(txV l).length=l.length * 2:=by
 induction l with
 | nil=>rfl
 | cons x r ih=>simp only [txV,QG,Qe] at ih ⊢;rw [ih];simp [txC];omega
theorem JlT (l:List (Sl×Sl)):∀u∈txV l,u.oneCell'=true:=by
 intro u hu
 simp only [txV,List.mem_flatMap,txC] at hu
 obtain ⟨x,_,hu⟩:=hu
 simp only [List.mem_cons,QD,or_false] at hu
 rcases hu with rfl | rfl <;> rfl
theorem JgZ (l l':List (Sl×Sl)):txV (l++l')=txV l++txV l':=by simp [txV]
theorem Jhu (l:List (Sl×Sl)):∀(i:Nat) (h:i<l.length),(txV l)[i * 2]? =some (.slice l[i].1.1 l[i].1.2.1 l[i].1.2.2)/\(txV l)[i * 2+1]? =some (.slice l[i].2.1 l[i].2.2.1 l[i].2.2.2):=by
 induction l with
 | nil=>intro i h;simp at h
 | cons x r ih=>
  intro i h
  cases i with
  | zero=>simp [txV,txC]
  | succ i=>
   have e:∀j,(txV (x :: r))[(i+1) * 2+j]? =(txV r)[i * 2+j]? :=by
    intro j
    show (txC x++txV r)[(i+1) * 2+j]? =_
    rw [Qz (by simp [txC];omega)]
    congr 1;simp [txC];omega
   refine ⟨?_,?_⟩
   ·have:=e 0;rw [Nat.add_zero,Nat.add_zero] at this;rw [this];simpa using (ih i (by simpa using h)).1
   ·rw [e 1];simpa using (ih i (by simpa using h)).2
theorem Xe.cells {w:World} {g o:Nat} {l:List (Sl×Sl)} (h:∀i (h:i<l.length),w.cell? ⟨g,o+i * 2,none⟩=some (.slice l[i].1.1 l[i].1.2.1 l[i].1.2.2)/\w.cell? ⟨g,o+i * 2+1,none⟩=some (.slice l[i].2.1 l[i].2.2.1 l[i].2.2.2)):
  ∀j u,(txV l)[j]? =some u->w.cell? (Addr.add ⟨g,o,none⟩ j)=some u:=by
 intro j u hu
 have hj:j<l.length * 2:=by have:=(Qo.1 hu).1;rw [Jdc] at this;exact this
 obtain ⟨e0,e1⟩:=Jhu l (j / 2) (by omega)
 obtain ⟨f0,f1⟩:=h (j / 2) (by omega)
 rw [Addr.add_lit]
 obtain hm | hm:j % 2=0\/j % 2=1:=by omega
 ·rw [show j / 2 * 2=j by omega] at e0;rw [show o+j / 2 * 2=o+j by omega] at f0;rw [f0,<-e0,hu]
 ·rw [show j / 2 * 2+1=j by omega] at e1;rw [show o+j / 2 * 2+1=o+j by omega] at f1;rw [f1,<-e1,hu]
def TOwn (base:Nat) (w:World) (v:Value) (l:List (Sl×Sl)):Prop:=w.ownsRow base 98 2 v l.length (txV l)
theorem TOwn.at {base:Nat} {w:World} {v:Value} {l:List (Sl×Sl)} (h:TOwn base w v l):Xe w.heap.size w v l:=by
 obtain ⟨_,⟨rfl,h0⟩ | ⟨g,cap,cur,rfl,_,hrow,_,_,hsz,htake⟩⟩:=h
 ·exact .inl ⟨rfl,QN h0⟩
 ·have hlt:=(Jb hrow)
  refine .inr ⟨g,0,cap,rfl,hlt,hlt,λi hi=>?_⟩
  obtain ⟨e0,e1⟩:=Jhu l i hi
  have hc:∀j u,(txV l)[j]? =some u->w.cell? ⟨g,0+j,none⟩=some u:=by
   intro j u hu
   rw [<-htake] at hu
   have hj:=(Qo.1 hu).1
   rw [List.getElem?_take_of_lt (by rw [QB] at hj;omega)] at hu
   rw [Ja hrow,Nat.zero_add,<-Array.getElem?_toList]
   exact hu
  exact ⟨hc _ _ e0,hc _ _ e1⟩
theorem TOwn.own {base:Nat} {w:World} {v:Value} {l:List (Sl×Sl)} (h:TOwn base w v l):∀k,v.ownBlock=some k->base<=k/\k<w.heap.size:=by
 obtain ⟨_,⟨rfl,h0⟩ | ⟨g,cap,cur,rfl,hb,hrow,_⟩⟩:=h
 ·intro k hk;cases hk
 ·intro k hk;cases hk;exact ⟨hb,(Jb hrow)⟩
theorem TOwn.tch {base:Nat} {w w':World} {v:Value} {l:List (Sl×Sl)} {S:Nat->Prop} (h:TOwn base w v l) (k:Tch S w w') (hs:∀j,v.ownBlock=some j->¬S j):TOwn base w' v l:=by
 obtain ⟨h1,⟨rfl,h0⟩ | ⟨g,cap,cur,rfl,hb,hrow,h2⟩⟩:=h
 ·exact ⟨h1,.inl ⟨rfl,h0⟩⟩
 ·exact ⟨h1,.inr ⟨g,cap,cur,rfl,hb,(k.block g (Jb hrow) (hs g rfl)).trans hrow,h2⟩⟩
theorem TOwn.shape {base:Nat} {w:World} {v:Value} {l:List (Sl×Sl)} (h:TOwn base w v l):∃a c,v=.slice a l.length c:=h.at.shape
theorem TOwn.shape3 {base:Nat} {w:World} {v:Value} {l:List (Sl×Sl)} (h:TOwn base w v l):∃a m c,v=.slice a m c:=by
 obtain ⟨a,c,h⟩:=h.shape
 exact ⟨a,_,c,h⟩
theorem Jk5:(prog.info? 98).map (λi=>(i.zero,i.size,i.bytes))=some (some (.agg #[.slice none 0 0,.slice none 0 0]),2,48):=by kernel_rfl
theorem Jdv {base:Nat} {w:World} {v:Value} {l:List (Sl×Sl)} (h:TOwn base w v l) (x:Value) (B:Nat) (l2:List (Sl×Sl)) (hx:Xe B w x l2) (ty:TypeId) (hb:l.length+l2.length<=1000000000) (hbase:base<=w.heap.size):
  ∃v' w',(Builtin.append_ #[73,73] ty #[v,x]).run prog w=.ok v' w'/\TOwn base w' v' (l++l2)/\w.grownBy w' v.ownBlock:=by
 obtain ⟨i,hi,hp⟩:=Option.map_eq_some_iff.1 Jk5
 simp only [Qw] at hp
 obtain ⟨hz,hsz,hby⟩:=hp
 rcases hx with ⟨rfl,rfl⟩ | ⟨g,o,c,rfl,_,hg,hcell⟩
 ·exact ⟨v,w,run_append_owned_none (P:=prog) (w:=w) base 73 ty 98 i 2 underlying73 hi v l.length (txV l) h,by rw [QC];exact h,World.grownBy.refl _ _⟩
 ·obtain ⟨v',w',hr,h2,h3,h4⟩:=run_append_own (P:=prog) w base 73 ty 98 i _ 2 48 underlying73 hi hz hsz hby rfl (by omega) v l.length (txV l) h ⟨g,o,none⟩ l2.length c (txV l2) (Jdc l2) (Xe.cells hcell) (JlT l2) (by simp only [maxLen];omega) (by omega) hbase
  exact ⟨v',w',hr,by unfold TOwn;rw [Qe,JgZ];exact h2,h3⟩
theorem JbM {base:Nat} {w:World} {ops:Array Oper} {rest:List Oper} {o:Oper} {a:Act} {Q:Exit->Act->World->Prop} (hgd:o.guard=none) (s x:Operand)
  (ho:o.op=.call { callee:=.builtin .append,args:= #[s,x],argTypes:= #[73,73] })
  {v:Value} {l:List (Sl×Sl)} (hv:a.eval s=v) (h:TOwn base w v l) (xv:Value) (B:Nat) (l2:List (Sl×Sl)) (hx:a.eval x=xv) (hs:Xe B w xv l2) (hb:l.length+l2.length<=1000000000) (hbase:base<=w.heap.size)
  (hK:∀v' w',TOwn base w' v' (l++l2)->w.grownBy w' v.ownBlock->wpList prog ops Q rest (a.put o.dst v') w'):wpList prog ops Q (o :: rest) a w:=by
 refine wpList_plain hgd λK hK'=>?_
 obtain ⟨v',w',hrun,r,r2⟩:=Jdv h xv B l2 hs o.type hb hbase
 unfold Oper.wp
 simp [execOp,ho,resolve,invoke,builtin,hv,hx,hrun,Result.andThen]
 exact hK' _ _ (hK v' w' r r2)
theorem JmD (W:World) (c:Sl×Sl):Xe (W.heap.size+1) (W.alloc (.cells #[.slice c.1.1 c.1.2.1 c.1.2.2,.slice c.2.1 c.2.2.1 c.2.2.2] 98)) (.slice (some ⟨W.heap.size,0,none⟩) 1 1) [c]:=by
 refine .inr ⟨W.heap.size,0,1,rfl,by omega,by simp,λi hi=>?_⟩
 obtain rfl:i=0:=by simpa using hi
 have hrow:=Qf W (.cells #[.slice c.1.1 c.1.2.1 c.1.2.2,.slice c.2.1 c.2.2.1 c.2.2.2] 98)
 exact ⟨Ja hrow,Ja hrow⟩
set_option maxRecDepth 100000
set_option maxHeartbeats 1000000

theorem Jdz (x y:Nat) (w:World):(callFunc 340 #[.int .u64 (x:Int),.int .u64 (y:Int),.int .u64 0]).run prog w =
  .ok (.value (.tuple #[.int .u64 (((x+y) % 18446744073709551616:Nat):Int),.int .u64 (((x+y) / 18446744073709551616:Nat):Int)])) w:=by
 rw [run_callFunc_extern func340 (by kernel_rfl) (by kernel_rfl) (by kernel_rfl) (e:=add64Entry) (by kernel_rfl),run_add64 x y 0 (by omega) (by omega) (by omega) (by omega)]
 simp only [Result.andThen]
 congr 5 <;> omega
theorem JgT (l:List (Nat×Nat)) (k:Nat) (h:k<l.length):JI l (k+1)=JI l k+l[k].1:=by
 unfold JI;rw [QP h];simp only [List.map_append,List.sum_append,List.map_cons,List.map_nil,List.sum_cons,List.sum_nil];omega
theorem JkI (l:List (Nat×Nat)) (k:Nat):JI l k<=JI l l.length:=by
 unfold JI
 rw [List.take_length]
 conv=>rhs;rw [<-List.take_append_drop k l]
 simp only [List.map_append,List.sum_append]
 omega
theorem JeW (x y:Nat) (h:x+y<18446744073709551616) (w:World):(callFunc 340 #[.int .u64 (x:Int),.int .u64 (y:Int),.int .u64 0]).run prog w =
  .ok (.value (.tuple #[.int .u64 ((x+y:Nat):Int),.int .u64 0])) w:=by
 rw [Jdz,Nat.mod_eq_of_lt h,Nat.div_eq_of_lt h];rfl
theorem JhA (x y:Nat) (hx:x<18446744073709551616) (hy:y<18446744073709551616) (h:18446744073709551616<=x+y):∃z:Int,∀w:World,(callFunc 340 #[.int .u64 (x:Int),.int .u64 (y:Int),.int .u64 0]).run prog w =
  .ok (.value (.tuple #[.int .u64 z,.int .u64 1])) w:=by
 refine ⟨(((x+y) % 18446744073709551616:Nat):Int),λw=>?_⟩
 rw [Jdz,show (x+y) / 18446744073709551616=1 by omega]
 rfl
theorem JiR (E:Nat->Addr) (gi oi c:Nat) (l:List (Nat×Nat)) (hc:l.length<1000000) (hsm:∀x∈l,x.1<18446744073709551616) (w:World) (hE:Env E w) (hgi:gi<w.heap.size) (h1:∀i (h:i<l.length),w.cell? ⟨gi,oi+i * 2,none⟩=some (.int .u64 ((l[i].1:Nat):Int))/\w.cell? ⟨gi,oi+i * 2+1,none⟩=some (.int .u8 ((l[i].2:Nat):Int))):
  Calls prog 285 #[.slice (some ⟨gi,oi,none⟩) l.length c] w λe w'=>Tch NoB w w'/\((JI l l.length<18446744073709551616/\e=.returned (.tuple #[.int .u64 ((JI l l.length:Nat):Int),.nilIface]))\/(18446744073709551616<=JI l l.length/\e=.returned (.tuple #[.int .u64 0,eV E 3]))):=by
 have HSM:Hid _:=hsm
 have HE:Hid _:=hE
 have H1:Hid _:=h1
 have HQ:Hid (JI l l.length<18446744073709551616\/18446744073709551616<=JI l l.length):=Nat.lt_or_ge _ _
 go_enter func285,ntmps285
 go_wp2
 go_loopw [4,10] (λs i wr=>∃k:Nat,k<=l.length/\s=.int .u64 ((JI l k:Nat):Int)/\i=.int .i64 k/\Hid (JI l k<18446744073709551616)/\Hid (Tch NoB w wr)) (λ_ i _=>l.length - (intOf i).toNat)
 case atStart=>exact ⟨0,by omega,rfl,rfl,(by decide:(0:Nat)<18446744073709551616),Te _ w⟩
 case round=>
  obtain ⟨k,hk,rfl,rfl,hS,hT⟩:=hrel
  by_cases hlt:k<l.length
  ·obtain ⟨f0,f1⟩:=H1 k hlt
   have c0:=(hT.cell (p:=⟨gi,oi+k * 2,none⟩) hgi (λh=>h)).trans f0
   have c1:=(hT.cell (p:=⟨gi,oi+k * 2+1,none⟩) hgi (λh=>h)).trans f1
   have hlti:(k:Int)<(l.length:Int):=by omega
   have hy:Hid _:=HSM _ (Qx hlt)
   have HN:Hid (JI l (k+1)=JI l k+l[k].1):=JgT l k hlt
   have HFK:Hid (JI l k+l[k].1<18446744073709551616\/18446744073709551616<=JI l k+l[k].1):=Nat.lt_or_ge _ _
   generalize l[k].1=y at *
   generalize (l[k].2)=z at *
   rcases HFK.o with hs | hs
   ·have ha:=JeW (JI l k) y hs
    have HSL:Hid _:=hs
    generalize JI l k=S at *
    go_wp2
    go_roundw
    case rel=>exact ⟨k+1,by omega,by rw [HN.o,Int.natCast_add],by go_num,by rw [HN.o];exact HSL,hT.trans (Ta NoB _ _) noE⟩
    case measure=>simp [intOf];omega
   ·obtain ⟨zz,ha⟩:=JhA (JI l k) y hS.out hy.out hs
    have HSL:Hid (18446744073709551616<=JI l (k+1)):=(by rw [HN.o];exact hs:18446744073709551616<=JI l (k+1))
    have hsum:=(HE.tch (hT.trans (Ta NoB _ (.cells #[.int .u64 (y:Int),.int .u8 (z:Int)] 80)) noE) noE).sum
    generalize JI l k=S at *
    have TL:Hid _:=hT.trans (Ta NoB wr (.cells #[.int .u64 (y:Int),.int .u8 (z:Int)] 80)) noE
    go_wp2
    go_region
    all_goals go_wp2
    all_goals go_ret2
    all_goals exact ⟨TL.trans (Td NoB _ 1) noE,.inr ⟨Qm HSL (JkI l (k+1)),rfl⟩⟩
  ·have HK:Hid (k=l.length):=(by omega:k=l.length)
   have hge:¬(k:Int)<(l.length:Int):=by omega
   generalize hSS:JI l k=S at *
   have HSS:Hid _:=hSS
   go_wp2
   go_ret2
   have e:JI l l.length=S:=by rw [<-HK.o];exact HSS.o
   exact ⟨hT,.inl ⟨by rw [e];exact hS,by rw [e];rfl⟩⟩
theorem JiQ (w:World):
  Calls prog 285 #[.slice none 0 0] w λe w'=>e=.returned (.tuple #[.int .u64 0,.nilIface])/\w=w':=by
 go_enter func285,ntmps285
 go_wp2
 go_loopw [4,10] (λs i wr=>s=.int .u64 0/\i=.int .i64 0/\wr=w) (λ_ _ _=>0)
 case atStart=>exact ⟨rfl,rfl,rfl⟩
 case round=>
  obtain ⟨rfl,rfl,rfl⟩:=hrel
  go_wp2
  go_ret2
  exact ⟨rfl,rfl⟩
theorem Jd9 (E:Nat->Addr) (B:Nat) (v:Value) (l:List (Nat×Nat)) (hc:l.length<1000000) (hsm:∀x∈l,x.1<18446744073709551616) (w:World) (hE:Env E w) (h:Jo B w v l):
  Calls prog 285 #[v] w λe w'=>Tch NoB w w'/\((JI l l.length<18446744073709551616/\e=.returned (.tuple #[.int .u64 ((JI l l.length:Nat):Int),.nilIface]))\/(18446744073709551616<=JI l l.length/\e=.returned (.tuple #[.int .u64 0,eV E 3]))):=by
 rcases h with ⟨rfl,rfl⟩ | ⟨gi,oi,c,rfl,_,h2,h3⟩
 ·refine (JiQ w).mono ?_
  rintro _ _ ⟨rfl,rfl⟩
  exact ⟨Te _ _,.inl ⟨by decide,rfl⟩⟩
 ·exact JiR E gi oi c l hc hsm w hE h2 h3

theorem Jdh (E:Nat->Addr) (B:Nat) (v1 v2:Value) (l1 l2:List (Nat×Nat)) (hc1:l1.length<1000000) (hc2:l2.length<1000000) (hs1:∀x∈l1,x.1<18446744073709551616) (hs2:∀x∈l2,x.1<18446744073709551616) (w:World) (hE:Env E w) (h1:Jo B w v1 l1) (h2:Jo B w v2 l2):
  Calls Tryz.prog 208 #[v1,v2] w λe w'=>Tch NoB w w'/\((¬Xr l1 l2/\e=.returned .nilIface)\/(Xr l1 l2/\∃v,e=.returned v/\Jl E 3 w' v)):=by
 obtain ⟨ia1,ic1,hv1⟩:=h1.shape
 obtain ⟨ia2,ic2,hv2⟩:=h2.shape
 have HT1:Hid (Calls _ _ _ _ _):=Jd9 E B v1 l1 hc1 hs1 w hE h1
 have HT2:Hid (∀W,Tch NoB w W->_):=λW hW=>Jd9 E B v2 l2 hc2 hs2 W (hE.tch hW noE) (h2.tch hW noE)
 have HE:Hid _:=hE
 subst hv1 hv2
 go_enter Tryz.func208,Tryz.ntmps208
 go_wp2_with fail
 refine HT1.o.mono ?_
 rintro _ w1 ⟨ht1,⟨ha,rfl⟩ | ⟨ha,rfl⟩⟩
 ·have K1:Hid _:=ht1
  have HA:Hid _:=ha
  generalize hS1:JI l1 l1.length=S1 at *
  have HS1:Hid _:=hS1
  go_wp2_with fail
  refine (HT2 w1 K1).mono ?_
  rintro _ w2 ⟨ht2,⟨hb,rfl⟩ | ⟨hb,rfl⟩⟩
  ·have K2:Hid _:=K1.trans ht2 noE
   have HB:Hid _:=hb
   generalize hS2:JI l2 l2.length=S2 at *
   have HS2:Hid _:=hS2
   have hsum:=(HE.tch K2 noE).sum
   by_cases hlt:S1<S2
   ·have hlti:(S1:Int)<(S2:Int):=by omega
    go_wp2_with fail
    refine (Xy _ _ _ _).mono ?_
    rintro _ _ ⟨rfl,rfl⟩
    go_wp2
    go_ret
    exact ⟨K2.trans (Ta NoB _ _) noE,.inr ⟨.inr (.inr (by rw [HS1.o,HS2.o];exact hlt)),_,rfl,.wrap _ _ _ (Qf _ _) .base⟩⟩
   ·have hlti:¬(S1:Int)<(S2:Int):=by omega
    go_wp2
    go_ret
    have q1:=HA.o
    have q2:=HB.o
    exact ⟨K2,.inl ⟨by unfold Xr;rw [HS1.o,HS2.o];omega,rfl⟩⟩
  ·have K2:Hid _:=K1.trans ht2 noE
   have HB:Hid _:=hb
   go_wp2_with fail
   refine (Xy _ _ _ _).mono ?_
   rintro _ _ ⟨rfl,rfl⟩
   go_wp2
   go_ret
   exact ⟨K2.trans (Ta NoB _ _) noE,.inr ⟨.inr (.inl HB),_,rfl,.wrap _ _ _ (Qf _ _) .base⟩⟩
 ·have K1:Hid _:=ht1
  have HA:Hid _:=ha
  go_wp2_with fail
  refine (Xy _ _ _ _).mono ?_
  rintro _ _ ⟨rfl,rfl⟩
  go_wp2
  go_ret
  exact ⟨K1.trans (Ta NoB _ _) noE,.inr ⟨.inl HA,_,rfl,.wrap _ _ _ (Qf _ _) .base⟩⟩
