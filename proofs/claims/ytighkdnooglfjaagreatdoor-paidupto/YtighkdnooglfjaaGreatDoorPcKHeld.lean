import Derived.Test.YtighkdnooglfjaaGreatDoorPcIs
import Derived.Laws.AppendOwnNone
import Derived.Test.YtighkdnooglfjaaGreatDoorPcIds2
namespace Go.Proofs.YtighkdnooglfjaaGreatDoor
open Tryz
open Go.RowKit

def Jbh (h:Held):List Value:=[.string h.1.1,.int .i64 h.1.2,.int .u64 ((h.2.1:Nat):Int),.int .u8 ((h.2.2:Nat):Int)]
def Xw (l:List Held):List Value:=l.flatMap Jbh
theorem ZY (l:List Held):(Xw l).length=l.length * 4:=by
 induction l with
 | nil=>rfl
 | cons x r ih=>simp only [Xw,QG,Qe] at ih ⊢;rw [ih];simp [Jbh];omega
theorem Jfj (l:List Held):∀u∈Xw l,u.oneCell'=true:=by
 intro u hu
 simp only [Xw,List.mem_flatMap,Jbh] at hu
 obtain ⟨x,_,hu⟩:=hu
 simp only [List.mem_cons,QD,or_false] at hu
 rcases hu with rfl | rfl | rfl | rfl <;> rfl
theorem JcB (l l':List Held):Xw (l++l')=Xw l++Xw l':=by simp [Xw]
theorem Jb8 (l:List Held):∀(i:Nat) (h:i<l.length),(Xw l)[i * 4]? =some (.string l[i].1.1)/\(Xw l)[i * 4+1]? =some (.int .i64 l[i].1.2)/\(Xw l)[i * 4+2]? =some (.int .u64 ((l[i].2.1:Nat):Int))/\(Xw l)[i * 4+3]? =some (.int .u8 ((l[i].2.2:Nat):Int)):=by
 induction l with
 | nil=>intro i h;simp at h
 | cons x r ih=>
  intro i h
  cases i with
  | zero=>simp [Xw,Jbh]
  | succ i=>
   have:=ih i (by simpa using h)
   have e:∀j,(Xw (x :: r))[(i+1) * 4+j]? =(Xw r)[i * 4+j]? :=by
    intro j
    show (Jbh x++Xw r)[(i+1) * 4+j]? =_
    rw [Qz (by simp [Jbh];omega)]
    congr 1;simp [Jbh];omega
   refine ⟨?_,?_,?_,?_⟩
   ·have:=e 0;rw [Nat.add_zero,Nat.add_zero] at this;rw [this];simpa using (ih i (by simpa using h)).1
   ·rw [e 1];simpa using (ih i (by simpa using h)).2.1
   ·rw [e 2];simpa using (ih i (by simpa using h)).2.2.1
   ·rw [e 3];simpa using (ih i (by simpa using h)).2.2.2
theorem JZ.cells {w:World} {g o:Nat} {l:List Held} (h:∀i (h:i<l.length),w.cell? ⟨g,o+i * 4,none⟩=some (.string l[i].1.1)/\w.cell? ⟨g,o+i * 4+1,none⟩=some (.int .i64 l[i].1.2)/\w.cell? ⟨g,o+i * 4+2,none⟩=some (.int .u64 ((l[i].2.1:Nat):Int))/\w.cell? ⟨g,o+i * 4+3,none⟩=some (.int .u8 ((l[i].2.2:Nat):Int))):
  ∀j u,(Xw l)[j]? =some u->w.cell? (Addr.add ⟨g,o,none⟩ j)=some u:=by
 intro j u hu
 have hj:j<l.length * 4:=by have:=(Qo.1 hu).1;rw [ZY] at this;exact this
 obtain ⟨e0,e1,e2,e3⟩:=Jb8 l (j / 4) (by omega)
 obtain ⟨f0,f1,f2,f3⟩:=h (j / 4) (by omega)
 rw [Addr.add_lit]
 obtain hm | hm | hm | hm:j % 4=0\/j % 4=1\/j % 4=2\/j % 4=3:=by omega
 ·rw [show j / 4 * 4=j by omega] at e0;rw [show o+j / 4 * 4=o+j by omega] at f0;rw [f0,<-e0,hu]
 ·rw [show j / 4 * 4+1=j by omega] at e1;rw [show o+j / 4 * 4+1=o+j by omega] at f1;rw [f1,<-e1,hu]
 ·rw [show j / 4 * 4+2=j by omega] at e2;rw [show o+j / 4 * 4+2=o+j by omega] at f2;rw [f2,<-e2,hu]
 ·rw [show j / 4 * 4+3=j by omega] at e3;rw [show o+j / 4 * 4+3=o+j by omega] at f3;rw [f3,<-e3,hu]
def HOwn (base:Nat) (w:World) (v:Value) (l:List Held):Prop:=w.ownsRow base 87 4 v l.length (Xw l)
theorem HOwn.nil (base:Nat) (w:World):HOwn base w (.slice none 0 0) []:=⟨rfl,.inl ⟨rfl,rfl⟩⟩
theorem HOwn.at {base:Nat} {w:World} {v:Value} {l:List Held} (h:HOwn base w v l):JZ w v l:=by
 obtain ⟨_,⟨rfl,h0⟩ | ⟨g,cap,cur,rfl,_,hrow,_,_,hsz,htake⟩⟩:=h
 ·exact .inl ⟨rfl,QN h0⟩
 ·refine .inr ⟨g,0,cap,rfl,(Jb hrow),λi hi=>?_⟩
  obtain ⟨e0,e1,e2,e3⟩:=Jb8 l i hi
  have hc:∀j u,(Xw l)[j]? =some u->w.cell? ⟨g,0+j,none⟩=some u:=by
   intro j u hu
   rw [<-htake] at hu
   have hj:=(Qo.1 hu).1
   rw [List.getElem?_take_of_lt (by rw [QB] at hj;omega)] at hu
   rw [Ja hrow,Nat.zero_add,<-Array.getElem?_toList]
   exact hu
  exact ⟨hc _ _ e0,hc _ _ e1,hc _ _ e2,hc _ _ e3⟩
theorem HOwn.own {base:Nat} {w:World} {v:Value} {l:List Held} (h:HOwn base w v l):∀k,v.ownBlock=some k->base<=k/\k<w.heap.size:=by
 obtain ⟨_,⟨rfl,h0⟩ | ⟨g,cap,cur,rfl,hb,hrow,_⟩⟩:=h
 ·intro k hk;cases hk
 ·intro k hk;cases hk;exact ⟨hb,(Jb hrow)⟩
theorem HOwn.tch {base:Nat} {w w':World} {v:Value} {l:List Held} {S:Nat->Prop} (h:HOwn base w v l) (k:Tch S w w') (hs:∀j,v.ownBlock=some j->¬S j):HOwn base w' v l:=by
 obtain ⟨h1,⟨rfl,h0⟩ | ⟨g,cap,cur,rfl,hb,hrow,h2⟩⟩:=h
 ·exact ⟨h1,.inl ⟨rfl,h0⟩⟩
 ·exact ⟨h1,.inr ⟨g,cap,cur,rfl,hb,(k.block g (Jb hrow) (hs g rfl)).trans hrow,h2⟩⟩
theorem HOwn.grow {base:Nat} {w w' W:World} {v:Value} {l:List Held} (h:HOwn base w v l) (hg:w.grownBy w' v.ownBlock) (hW:W.heap.size<=base) (k:Tch NoB W w):Tch NoB W w':=
 k.trans (Tg hg) (λj hj=>by
  have:=(h.own j hj.symm).1
  exact .inr (by omega))
theorem Jfl:(prog.info? 87).map (λi=>(i.zero,i.size,i.bytes))=some (some (.agg #[.string ⟨#[]⟩,.int .i64 0,.int .u64 0,.int .u8 0]),4,40):=by kernel_rfl
theorem YY {base:Nat} {w:World} {v:Value} {l:List Held} (h:HOwn base w v l) (x:Value) (l2:List Held) (hx:JZ w x l2) (ty:TypeId) (hb:l.length+l2.length<=1000000000) (hbase:base<=w.heap.size):
  ∃v' w',(Builtin.append_ #[43,43] ty #[v,x]).run prog w=.ok v' w'/\HOwn base w' v' (l++l2)/\w.grownBy w' v.ownBlock:=by
 obtain ⟨i,hi,hp⟩:=Option.map_eq_some_iff.1 Jfl
 simp only [Qw] at hp
 obtain ⟨hz,hsz,hby⟩:=hp
 rcases hx with ⟨rfl,rfl⟩ | ⟨g,o,c,rfl,hg,hcell⟩
 ·exact ⟨v,w,run_append_owned_none (P:=prog) (w:=w) base 43 ty 87 i 4 underlying43 hi v l.length (Xw l) h,by rw [QC];exact h,World.grownBy.refl _ _⟩
 ·obtain ⟨v',w',hr,h2,h3,h4⟩:=run_append_own (P:=prog) w base 43 ty 87 i _ 4 40 underlying43 hi hz hsz hby rfl (by omega) v l.length (Xw l) h ⟨g,o,none⟩ l2.length c (Xw l2) (ZY l2) (JZ.cells hcell) (Jfj l2) (by simp only [maxLen];omega) (by omega) hbase
  exact ⟨v',w',hr,by unfold HOwn;rw [Qe,JcB];exact h2,h3⟩
theorem JX {base:Nat} {w:World} {ops:Array Oper} {rest:List Oper} {o:Oper} {a:Act} {Q:Exit->Act->World->Prop} (hgd:o.guard=none) (s x:Operand)
  (ho:o.op=.call { callee:=.builtin .append,args:= #[s,x],argTypes:= #[43,43] })
  {v:Value} {l:List Held} (hv:a.eval s=v) (h:HOwn base w v l) (xv:Value) (l2:List Held) (hx:a.eval x=xv) (hs:JZ w xv l2) (hb:l.length+l2.length<=1000000000) (hbase:base<=w.heap.size)
  (hK:∀v' w',HOwn base w' v' (l++l2)->w.grownBy w' v.ownBlock->wpList prog ops Q rest (a.put o.dst v') w'):wpList prog ops Q (o :: rest) a w:=by
 refine wpList_plain hgd λK hK'=>?_
 obtain ⟨v',w',hrun,r,r2⟩:=YY h xv l2 hs o.type hb hbase
 unfold Oper.wp
 simp [execOp,ho,resolve,invoke,builtin,hv,hx,hrun,Result.andThen]
 exact hK' _ _ (hK v' w' r r2)
theorem JaD {base:Nat} {ops:Array Oper} {o:Oper} {a:Act} {w:World} {K:Act->World->Prop} {Q:Exit->Act->World->Prop} {E:Prop}
  (hgd:o.guard=none) (s x:Operand) (ho:o.op=.call { callee:=.builtin .append,args:= #[s,x],argTypes:= #[43,43] })
  {v:Value} {l:List Held} (hv:a.eval s=v) (h:HOwn base w v l) (xv:Value) (l2:List Held) (hx:a.eval x=xv) (hs:JZ w xv l2) (hb:l.length+l2.length<=1000000000) (hbase:base<=w.heap.size)
  (hK:∀v' w',HOwn base w' v' (l++l2)->w.grownBy w' v.ownBlock->K (a.put o.dst v') w'):
  if Region.wanted o (yielded ops a.tmps)=true then Oper.wp prog o a w K Q else E:=by
 have hw:Region.wanted o (yielded ops a.tmps)=true:=by simp [Region.wanted,hgd]
 rw [if_pos hw]
 obtain ⟨v',w',hrun,r,r2⟩:=YY h xv l2 hs o.type hb hbase
 unfold Oper.wp
 simp [execOp,ho,resolve,invoke,builtin,hv,hx,hrun,Result.andThen]
 exact hK v' w' r r2
def Xq (w:World) (v:Value) (l:List Held):Prop:=JZ w v l/\∀j,v.ownBlock=some j->∃cur m,w.heap[j]? =some (.cells cur 87 m)
theorem HOwn.t {base:Nat} {w:World} {v:Value} {l:List Held} (h:HOwn base w v l):Xq w v l:=by
 refine ⟨h.at,?_⟩
 obtain ⟨_,⟨rfl,h0⟩ | ⟨g,cap,cur,rfl,hb,hrow,_⟩⟩:=h
 ·intro k hk;cases hk
 ·intro k hk;cases hk;exact ⟨cur,_,hrow⟩
theorem Xq.tch {w w':World} {v:Value} {l:List Held} {S:Nat->Prop} (h:Xq w v l) (k:Tch S w w') (hs:∀j,v.ownBlock=some j->¬S j):Xq w' v l:=by
 obtain ⟨h1,h2⟩:=h
 refine ⟨?_,λj hj=>?_⟩
 ·rcases h1 with h | ⟨gi,oi,c,rfl,hl,h3⟩
  ·exact .inl h
  ·refine .inr ⟨gi,oi,c,rfl,Qk hl k.size,λi hi=>?_⟩
   have hc:∀o,w'.cell? ⟨gi,o,none⟩=w.cell? ⟨gi,o,none⟩:=λo=>k.cell (p:=⟨gi,o,none⟩) hl (hs gi rfl)
   rw [hc,hc,hc,hc];exact h3 i hi
 ·obtain ⟨cur,m,hr⟩:=h2 j hj
  exact ⟨cur,m,(k.block j (Jb hr) (hs j hj)).trans hr⟩
theorem HOwn.shape {base:Nat} {w:World} {v:Value} {l:List Held} (h:HOwn base w v l):∃a c,v=.slice a l.length c:=h.at.shape
set_option maxRecDepth 100000
set_option maxHeartbeats 1000000

theorem JbZ (x y:Nat) (w:World):(callFunc 340 #[.int .u64 (x:Int),.int .u64 (y:Int),.int .u64 0]).run prog w =
  .ok (.value (.tuple #[.int .u64 (((x+y) % 18446744073709551616:Nat):Int),.int .u64 (((x+y) / 18446744073709551616:Nat):Int)])) w:=by
 rw [run_callFunc_extern func340 (by kernel_rfl) (by kernel_rfl) (by kernel_rfl) (e:=add64Entry) (by kernel_rfl),run_add64 x y 0 (by omega) (by omega) (by omega) (by omega)]
 simp only [Result.andThen]
 congr 5 <;> omega
theorem Jet (l:List (Nat×Nat)) (k:Nat) (h:k<l.length):Jv l (k+1)=Jv l k+l[k].1:=by
 unfold Jv;rw [QP h];simp only [List.map_append,List.sum_append,List.map_cons,List.map_nil,List.sum_cons,List.sum_nil];omega
theorem Jhr (l:List (Nat×Nat)) (k:Nat):Jv l k<=Jv l l.length:=by
 unfold Jv
 rw [List.take_length]
 conv=>rhs;rw [<-List.take_append_drop k l]
 simp only [List.map_append,List.sum_append]
 omega
theorem Jc4 (x y:Nat) (h:x+y<18446744073709551616) (w:World):(callFunc 340 #[.int .u64 (x:Int),.int .u64 (y:Int),.int .u64 0]).run prog w =
  .ok (.value (.tuple #[.int .u64 ((x+y:Nat):Int),.int .u64 0])) w:=by
 rw [JbZ,Nat.mod_eq_of_lt h,Nat.div_eq_of_lt h];rfl
theorem JeV (x y:Nat) (hx:x<18446744073709551616) (hy:y<18446744073709551616) (h:18446744073709551616<=x+y):∃z:Int,∀w:World,(callFunc 340 #[.int .u64 (x:Int),.int .u64 (y:Int),.int .u64 0]).run prog w =
  .ok (.value (.tuple #[.int .u64 z,.int .u64 1])) w:=by
 refine ⟨(((x+y) % 18446744073709551616:Nat):Int),λw=>?_⟩
 rw [JbZ,show (x+y) / 18446744073709551616=1 by omega]
 rfl
theorem Jf0 (E:Nat->Addr) (gi oi c:Nat) (l:List (Nat×Nat)) (hc:l.length<1000000) (hsm:∀x∈l,x.1<18446744073709551616) (w:World) (hE:Env E w) (hgi:gi<w.heap.size) (h1:∀i (h:i<l.length),w.cell? ⟨gi,oi+i * 2,none⟩=some (.int .u64 ((l[i].1:Nat):Int))/\w.cell? ⟨gi,oi+i * 2+1,none⟩=some (.int .u8 ((l[i].2:Nat):Int))):
  Calls prog 285 #[.slice (some ⟨gi,oi,none⟩) l.length c] w λe w'=>Tch NoB w w'/\((Jv l l.length<18446744073709551616/\e=.returned (.tuple #[.int .u64 ((Jv l l.length:Nat):Int),.nilIface]))\/(18446744073709551616<=Jv l l.length/\e=.returned (.tuple #[.int .u64 0,eV E 3]))):=by
 have HSM:Hid _:=hsm
 have HE:Hid _:=hE
 have H1:Hid _:=h1
 have HQ:Hid (Jv l l.length<18446744073709551616\/18446744073709551616<=Jv l l.length):=Nat.lt_or_ge _ _
 go_enter func285,ntmps285
 go_wp2
 go_loopw [4,10] (λs i wr=>∃k:Nat,k<=l.length/\s=.int .u64 ((Jv l k:Nat):Int)/\i=.int .i64 k/\Hid (Jv l k<18446744073709551616)/\Hid (Tch NoB w wr)) (λ_ i _=>l.length - (intOf i).toNat)
 case atStart=>exact ⟨0,by omega,rfl,rfl,(by decide:(0:Nat)<18446744073709551616),Te _ w⟩
 case round=>
  obtain ⟨k,hk,rfl,rfl,hS,hT⟩:=hrel
  by_cases hlt:k<l.length
  ·obtain ⟨f0,f1⟩:=H1 k hlt
   have c0:=(hT.cell (p:=⟨gi,oi+k * 2,none⟩) hgi (λh=>h)).trans f0
   have c1:=(hT.cell (p:=⟨gi,oi+k * 2+1,none⟩) hgi (λh=>h)).trans f1
   have hlti:(k:Int)<(l.length:Int):=by omega
   have hy:Hid _:=HSM _ (Qx hlt)
   have HN:Hid (Jv l (k+1)=Jv l k+l[k].1):=Jet l k hlt
   have HFK:Hid (Jv l k+l[k].1<18446744073709551616\/18446744073709551616<=Jv l k+l[k].1):=Nat.lt_or_ge _ _
   generalize l[k].1=y at *
   generalize (l[k].2)=z at *
   rcases HFK.o with hs | hs
   ·have ha:=Jc4 (Jv l k) y hs
    have HSL:Hid _:=hs
    generalize Jv l k=S at *
    go_wp2
    go_roundw
    case rel=>exact ⟨k+1,by omega,by rw [HN.o,Int.natCast_add],by go_num,by rw [HN.o];exact HSL,hT.trans (Ta NoB _ _) noE⟩
    case measure=>simp [intOf];omega
   ·obtain ⟨zz,ha⟩:=JeV (Jv l k) y hS.out hy.out hs
    have HSL:Hid (18446744073709551616<=Jv l (k+1)):=(by rw [HN.o];exact hs:18446744073709551616<=Jv l (k+1))
    have hsum:=(HE.tch (hT.trans (Ta NoB _ (.cells #[.int .u64 (y:Int),.int .u8 (z:Int)] 80)) noE) noE).sum
    generalize Jv l k=S at *
    have TL:Hid _:=hT.trans (Ta NoB wr (.cells #[.int .u64 (y:Int),.int .u8 (z:Int)] 80)) noE
    go_wp2
    go_region
    all_goals go_wp2
    all_goals go_ret2
    all_goals exact ⟨TL.trans (Td NoB _ 1) noE,.inr ⟨Qm HSL (Jhr l (k+1)),rfl⟩⟩
  ·have HK:Hid (k=l.length):=(by omega:k=l.length)
   have hge:¬(k:Int)<(l.length:Int):=by omega
   generalize hSS:Jv l k=S at *
   have HSS:Hid _:=hSS
   go_wp2
   go_ret2
   have e:Jv l l.length=S:=by rw [<-HK.o];exact HSS.o
   exact ⟨hT,.inl ⟨by rw [e];exact hS,by rw [e];rfl⟩⟩
theorem JfZ (w:World):
  Calls prog 285 #[.slice none 0 0] w λe w'=>e=.returned (.tuple #[.int .u64 0,.nilIface])/\w=w':=by
 go_enter func285,ntmps285
 go_wp2
 go_loopw [4,10] (λs i wr=>s=.int .u64 0/\i=.int .i64 0/\wr=w) (λ_ _ _=>0)
 case atStart=>exact ⟨rfl,rfl,rfl⟩
 case round=>
  obtain ⟨rfl,rfl,rfl⟩:=hrel
  go_wp2
  go_ret2
  exact ⟨rfl,rfl⟩
theorem Jco (E:Nat->Addr) (B:Nat) (v:Value) (l:List (Nat×Nat)) (hc:l.length<1000000) (hsm:∀x∈l,x.1<18446744073709551616) (w:World) (hE:Env E w) (h:Jl B w v l):
  Calls prog 285 #[v] w λe w'=>Tch NoB w w'/\((Jv l l.length<18446744073709551616/\e=.returned (.tuple #[.int .u64 ((Jv l l.length:Nat):Int),.nilIface]))\/(18446744073709551616<=Jv l l.length/\e=.returned (.tuple #[.int .u64 0,eV E 3]))):=by
 rcases h with ⟨rfl,rfl⟩ | ⟨gi,oi,c,rfl,_,h2,h3⟩
 ·refine (JfZ w).mono ?_
  rintro _ _ ⟨rfl,rfl⟩
  exact ⟨Te _ _,.inl ⟨by decide,rfl⟩⟩
 ·exact Jf0 E gi oi c l hc hsm w hE h2 h3

theorem JbN (E:Nat->Addr) (B:Nat) (v1 v2:Value) (l1 l2:List (Nat×Nat)) (hc1:l1.length<1000000) (hc2:l2.length<1000000) (hs1:∀x∈l1,x.1<18446744073709551616) (hs2:∀x∈l2,x.1<18446744073709551616) (w:World) (hE:Env E w) (h1:Jl B w v1 l1) (h2:Jl B w v2 l2):
  Calls Tryz.prog 208 #[v1,v2] w λe w'=>Tch NoB w w'/\((¬Xg l1 l2/\e=.returned .nilIface)\/(Xg l1 l2/\∃v,e=.returned v/\Jj E 3 w' v)):=by
 obtain ⟨ia1,ic1,hv1⟩:=h1.shape
 obtain ⟨ia2,ic2,hv2⟩:=h2.shape
 have HT1:Hid (Calls _ _ _ _ _):=Jco E B v1 l1 hc1 hs1 w hE h1
 have HT2:Hid (∀W,Tch NoB w W->_):=λW hW=>Jco E B v2 l2 hc2 hs2 W (hE.tch hW noE) (h2.tch hW noE)
 have HE:Hid _:=hE
 subst hv1 hv2
 go_enter Tryz.func208,Tryz.ntmps208
 go_wp2_with fail
 refine HT1.o.mono ?_
 rintro _ w1 ⟨ht1,⟨ha,rfl⟩ | ⟨ha,rfl⟩⟩
 ·have K1:Hid _:=ht1
  have HA:Hid _:=ha
  generalize hS1:Jv l1 l1.length=S1 at *
  have HS1:Hid _:=hS1
  go_wp2_with fail
  refine (HT2 w1 K1).mono ?_
  rintro _ w2 ⟨ht2,⟨hb,rfl⟩ | ⟨hb,rfl⟩⟩
  ·have K2:Hid _:=K1.trans ht2 noE
   have HB:Hid _:=hb
   generalize hS2:Jv l2 l2.length=S2 at *
   have HS2:Hid _:=hS2
   have hsum:=(HE.tch K2 noE).sum
   by_cases hlt:S1<S2
   ·have hlti:(S1:Int)<(S2:Int):=by omega
    go_wp2_with fail
    refine (XE _ _ _ _).mono ?_
    rintro _ _ ⟨rfl,rfl⟩
    go_wp2
    go_ret
    exact ⟨K2.trans (Ta NoB _ _) noE,.inr ⟨.inr (.inr (by rw [HS1.o,HS2.o];exact hlt)),_,rfl,.wrap _ _ _ (Qf _ _) .base⟩⟩
   ·have hlti:¬(S1:Int)<(S2:Int):=by omega
    go_wp2
    go_ret
    have q1:=HA.o
    have q2:=HB.o
    exact ⟨K2,.inl ⟨by unfold Xg;rw [HS1.o,HS2.o];omega,rfl⟩⟩
  ·have K2:Hid _:=K1.trans ht2 noE
   have HB:Hid _:=hb
   go_wp2_with fail
   refine (XE _ _ _ _).mono ?_
   rintro _ _ ⟨rfl,rfl⟩
   go_wp2
   go_ret
   exact ⟨K2.trans (Ta NoB _ _) noE,.inr ⟨.inr (.inl HB),_,rfl,.wrap _ _ _ (Qf _ _) .base⟩⟩
 ·have K1:Hid _:=ht1
  have HA:Hid _:=ha
  go_wp2_with fail
  refine (XE _ _ _ _).mono ?_
  rintro _ _ ⟨rfl,rfl⟩
  go_wp2
  go_ret
  exact ⟨K1.trans (Ta NoB _ _) noE,.inr ⟨.inl HA,_,rfl,.wrap _ _ _ (Qf _ _) .base⟩⟩
