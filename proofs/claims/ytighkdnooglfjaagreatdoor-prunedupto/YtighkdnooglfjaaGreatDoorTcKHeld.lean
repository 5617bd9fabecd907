import Derived.Test.YtighkdnooglfjaaGreatDoorTcIs
import Derived.Laws.AppendOwnNone
import Derived.Test.YtighkdnooglfjaaGreatDoorTcIds2
import Derived.Shelf.SlicesE.Reverse
namespace Go.Proofs.YtighkdnooglfjaaGreatDoor
open Tryz
open Go.RowKit

def Jcz (h:Held):List Value:=[.string h.1.1,.int .i64 h.1.2,.int .u64 ((h.2.1:Nat):Int),.int .u8 ((h.2.2:Nat):Int)]
def XQ (l:List Held):List Value:=l.flatMap Jcz
theorem Jbb (l:List Held):(XQ l).length=l.length * 4:=by
 induction l with
 | nil=>rfl
 | cons x r ih=>simp only [XQ,QG,Qe] at ih ⊢;rw [ih];simp [Jcz];omega
theorem Jh3 (l:List Held):∀u∈XQ l,u.oneCell'=true:=by
 intro u hu
 simp only [XQ,List.mem_flatMap,Jcz] at hu
 obtain ⟨x,_,hu⟩:=hu
 simp only [List.mem_cons,QD,or_false] at hu
 rcases hu with rfl | rfl | rfl | rfl <;> rfl
theorem Jed (l l':List Held):XQ (l++l')=XQ l++XQ l':=by simp [XQ]
theorem JdE (l:List Held):∀(i:Nat) (h:i<l.length),(XQ l)[i * 4]? =some (.string l[i].1.1)/\(XQ l)[i * 4+1]? =some (.int .i64 l[i].1.2)/\(XQ l)[i * 4+2]? =some (.int .u64 ((l[i].2.1:Nat):Int))/\(XQ l)[i * 4+3]? =some (.int .u8 ((l[i].2.2:Nat):Int)):=by
 induction l with
 | nil=>intro i h;simp at h
 | cons x r ih=>
  intro i h
  cases i with
  | zero=>simp [XQ,Jcz]
  | succ i=>
   have:=ih i (by simpa using h)
   have e:∀j,(XQ (x :: r))[(i+1) * 4+j]? =(XQ r)[i * 4+j]? :=by
    intro j
    show (Jcz x++XQ r)[(i+1) * 4+j]? =_
    rw [Qz (by simp [Jcz];omega)]
    congr 1;simp [Jcz];omega
   refine ⟨?_,?_,?_,?_⟩
   ·have:=e 0;rw [Nat.add_zero,Nat.add_zero] at this;rw [this];simpa using (ih i (by simpa using h)).1
   ·rw [e 1];simpa using (ih i (by simpa using h)).2.1
   ·rw [e 2];simpa using (ih i (by simpa using h)).2.2.1
   ·rw [e 3];simpa using (ih i (by simpa using h)).2.2.2
theorem JH.cells {w:World} {g o:Nat} {l:List Held} (h:∀i (h:i<l.length),w.cell? ⟨g,o+i * 4,none⟩=some (.string l[i].1.1)/\w.cell? ⟨g,o+i * 4+1,none⟩=some (.int .i64 l[i].1.2)/\w.cell? ⟨g,o+i * 4+2,none⟩=some (.int .u64 ((l[i].2.1:Nat):Int))/\w.cell? ⟨g,o+i * 4+3,none⟩=some (.int .u8 ((l[i].2.2:Nat):Int))):
  ∀j u,(XQ l)[j]? =some u->w.cell? (Addr.add ⟨g,o,none⟩ j)=some u:=by
 intro j u hu
 have hj:j<l.length * 4:=by have:=(Qo.1 hu).1;rw [Jbb] at this;exact this
 obtain ⟨e0,e1,e2,e3⟩:=JdE l (j / 4) (by omega)
 obtain ⟨f0,f1,f2,f3⟩:=h (j / 4) (by omega)
 rw [Addr.add_lit]
 obtain hm | hm | hm | hm:j % 4=0\/j % 4=1\/j % 4=2\/j % 4=3:=by omega
 ·rw [show j / 4 * 4=j by omega] at e0;rw [show o+j / 4 * 4=o+j by omega] at f0;rw [f0,<-e0,hu]
 ·rw [show j / 4 * 4+1=j by omega] at e1;rw [show o+j / 4 * 4+1=o+j by omega] at f1;rw [f1,<-e1,hu]
 ·rw [show j / 4 * 4+2=j by omega] at e2;rw [show o+j / 4 * 4+2=o+j by omega] at f2;rw [f2,<-e2,hu]
 ·rw [show j / 4 * 4+3=j by omega] at e3;rw [show o+j / 4 * 4+3=o+j by omega] at f3;rw [f3,<-e3,hu]
def HOwn (base:Nat) (w:World) (v:Value) (l:List Held):Prop:=w.ownsRow base 87 4 v l.length (XQ l)
theorem HOwn.nil (base:Nat) (w:World):HOwn base w (.slice none 0 0) []:=⟨rfl,.inl ⟨rfl,rfl⟩⟩
theorem HOwn.at {base:Nat} {w:World} {v:Value} {l:List Held} (h:HOwn base w v l):JH w v l:=by
 obtain ⟨_,⟨rfl,h0⟩ | ⟨g,cap,cur,rfl,_,hrow,_,_,hsz,htake⟩⟩:=h
 ·exact .inl ⟨rfl,QO h0⟩
 ·refine .inr ⟨g,0,cap,rfl,(Jb hrow),λi hi=>?_⟩
  obtain ⟨e0,e1,e2,e3⟩:=JdE l i hi
  have hc:∀j u,(XQ l)[j]? =some u->w.cell? ⟨g,0+j,none⟩=some u:=by
   intro j u hu
   rw [<-htake] at hu
   have hj:=(Qo.1 hu).1
   rw [List.getElem?_take_of_lt (by rw [QB] at hj;omega)] at hu
   rw [Ja hrow,Nat.zero_add,<-Array.getElem?_toList]
   exact hu
  exact ⟨hc _ _ e0,hc _ _ e1,hc _ _ e2,hc _ _ e3⟩
theorem HOwn.own {base:Nat} {w:World} {v:Value} {l:List Held} (h:HOwn base w v l):∀k,v.ownBlock=some k->base<=k/\k<w.heap.size:=by
 obtain ⟨_,⟨rfl,h0⟩ | ⟨g,cap,cur,rfl,hb,hrow,_⟩⟩:=h
 ·intro k hk;cases hk
 ·intro k hk;cases hk;exact ⟨hb,(Jb hrow)⟩
theorem HOwn.tch {base:Nat} {w w':World} {v:Value} {l:List Held} {S:Nat->Prop} (h:HOwn base w v l) (k:Tch S w w') (hs:∀j,v.ownBlock=some j->¬S j):HOwn base w' v l:=by
 obtain ⟨h1,⟨rfl,h0⟩ | ⟨g,cap,cur,rfl,hb,hrow,h2⟩⟩:=h
 ·exact ⟨h1,.inl ⟨rfl,h0⟩⟩
 ·exact ⟨h1,.inr ⟨g,cap,cur,rfl,hb,(k.block g (Jb hrow) (hs g rfl)).trans hrow,h2⟩⟩
theorem HOwn.grow {base:Nat} {w w' W:World} {v:Value} {l:List Held} (h:HOwn base w v l) (hg:w.grownBy w' v.ownBlock) (hW:W.heap.size<=base) (k:Tch NoB W w):Tch NoB W w':=
 k.trans (Tg hg) (λj hj=>by
  have:=(h.own j hj.symm).1
  exact .inr (by omega))
theorem Jh5:(prog.info? 87).map (λi=>(i.zero,i.size,i.bytes))=some (some (.agg #[.string ⟨#[]⟩,.int .i64 0,.int .u64 0,.int .u8 0]),4,40):=by kernel_rfl
theorem Yd {base:Nat} {w:World} {v:Value} {l:List Held} (h:HOwn base w v l) (x:Value) (l2:List Held) (hx:JH w x l2) (ty:TypeId) (hb:l.length+l2.length<=1000000000) (hbase:base<=w.heap.size):
  ∃v' w',(Builtin.append_ #[43,43] ty #[v,x]).run prog w=.ok v' w'/\HOwn base w' v' (l++l2)/\w.grownBy w' v.ownBlock:=by
 obtain ⟨i,hi,hp⟩:=Option.map_eq_some_iff.1 Jh5
 simp only [Qw] at hp
 obtain ⟨hz,hsz,hby⟩:=hp
 rcases hx with ⟨rfl,rfl⟩ | ⟨g,o,c,rfl,hg,hcell⟩
 ·exact ⟨v,w,run_append_owned_none (P:=prog) (w:=w) base 43 ty 87 i 4 underlying43 hi v l.length (XQ l) h,by rw [QC];exact h,World.grownBy.refl _ _⟩
 ·obtain ⟨v',w',hr,h2,h3,h4⟩:=run_append_own (P:=prog) w base 43 ty 87 i _ 4 40 underlying43 hi hz hsz hby rfl (by omega) v l.length (XQ l) h ⟨g,o,none⟩ l2.length c (XQ l2) (Jbb l2) (JH.cells hcell) (Jh3 l2) (by simp only [maxLen];omega) (by omega) hbase
  exact ⟨v',w',hr,by unfold HOwn;rw [Qe,Jed];exact h2,h3⟩
theorem Xp {base:Nat} {w:World} {ops:Array Oper} {rest:List Oper} {o:Oper} {a:Act} {Q:Exit->Act->World->Prop} (hgd:o.guard=none) (s x:Operand)
  (ho:o.op=.call { callee:=.builtin .append,args:= #[s,x],argTypes:= #[43,43] })
  {v:Value} {l:List Held} (hv:a.eval s=v) (h:HOwn base w v l) (xv:Value) (l2:List Held) (hx:a.eval x=xv) (hs:JH w xv l2) (hb:l.length+l2.length<=1000000000) (hbase:base<=w.heap.size)
  (hK:∀v' w',HOwn base w' v' (l++l2)->w.grownBy w' v.ownBlock->wpList prog ops Q rest (a.put o.dst v') w'):wpList prog ops Q (o :: rest) a w:=by
 refine wpList_plain hgd λK hK'=>?_
 obtain ⟨v',w',hrun,r,r2⟩:=Yd h xv l2 hs o.type hb hbase
 unfold Oper.wp
 simp [execOp,ho,resolve,invoke,builtin,hv,hx,hrun,Result.andThen]
 exact hK' _ _ (hK v' w' r r2)
theorem JbJ {base:Nat} {ops:Array Oper} {o:Oper} {a:Act} {w:World} {K:Act->World->Prop} {Q:Exit->Act->World->Prop} {E:Prop}
  (hgd:o.guard=none) (s x:Operand) (ho:o.op=.call { callee:=.builtin .append,args:= #[s,x],argTypes:= #[43,43] })
  {v:Value} {l:List Held} (hv:a.eval s=v) (h:HOwn base w v l) (xv:Value) (l2:List Held) (hx:a.eval x=xv) (hs:JH w xv l2) (hb:l.length+l2.length<=1000000000) (hbase:base<=w.heap.size)
  (hK:∀v' w',HOwn base w' v' (l++l2)->w.grownBy w' v.ownBlock->K (a.put o.dst v') w'):
  if Region.wanted o (yielded ops a.tmps)=true then Oper.wp prog o a w K Q else E:=by
 have hw:Region.wanted o (yielded ops a.tmps)=true:=by simp [Region.wanted,hgd]
 rw [if_pos hw]
 obtain ⟨v',w',hrun,r,r2⟩:=Yd h xv l2 hs o.type hb hbase
 unfold Oper.wp
 simp [execOp,ho,resolve,invoke,builtin,hv,hx,hrun,Result.andThen]
 exact hK v' w' r r2
def XX (w:World) (v:Value) (l:List Held):Prop:=JH w v l/\∀j,v.ownBlock=some j->∃cur m,w.heap[j]? =some (.cells cur 87 m)
theorem HOwn.t {base:Nat} {w:World} {v:Value} {l:List Held} (h:HOwn base w v l):XX w v l:=by
 refine ⟨h.at,?_⟩
 obtain ⟨_,⟨rfl,h0⟩ | ⟨g,cap,cur,rfl,hb,hrow,_⟩⟩:=h
 ·intro k hk;cases hk
 ·intro k hk;cases hk;exact ⟨cur,_,hrow⟩
theorem XX.tch {w w':World} {v:Value} {l:List Held} {S:Nat->Prop} (h:XX w v l) (k:Tch S w w') (hs:∀j,v.ownBlock=some j->¬S j):XX w' v l:=by
 obtain ⟨h1,h2⟩:=h
 refine ⟨?_,λj hj=>?_⟩
 ·rcases h1 with h | ⟨gi,oi,c,rfl,hl,h3⟩
  ·exact .inl h
  ·refine .inr ⟨gi,oi,c,rfl,Qk hl k.size,λi hi=>?_⟩
   have hc:∀o,w'.cell? ⟨gi,o,none⟩=w.cell? ⟨gi,o,none⟩:=λo=>k.cell (p:=⟨gi,o,none⟩) hl (hs gi rfl)
   rw [hc,hc,hc,hc];exact h3 i hi
 ·obtain ⟨cur,m,hr⟩:=h2 j hj
  exact ⟨cur,m,(k.block j (Jb hr) (hs j hj)).trans hr⟩
theorem HOwn.shape {base:Nat} {w:World} {v:Value} {l:List Held} (h:HOwn base w v l):∃a c,v=.slice a l.length c:=h.at.shape
set_option maxRecDepth 100000
set_option maxHeartbeats 2000000

theorem Jdv (x y:Nat) (w:World):(callFunc 340 #[.int .u64 (x:Int),.int .u64 (y:Int),.int .u64 0]).run prog w =
  .ok (.value (.tuple #[.int .u64 (((x+y) % 18446744073709551616:Nat):Int),.int .u64 (((x+y) / 18446744073709551616:Nat):Int)])) w:=by
 rw [run_callFunc_extern func340 (by kernel_rfl) (by kernel_rfl) (by kernel_rfl) (e:=add64Entry) (by kernel_rfl),run_add64 x y 0 (by omega) (by omega) (by omega) (by omega)]
 simp only [Result.andThen]
 congr 5 <;> omega
theorem JgS (l:List (Nat×Nat)) (k:Nat) (h:k<l.length):JG l (k+1)=JG l k+l[k].1:=by
 unfold JG;rw [QQ h];simp only [List.map_append,List.sum_append,List.map_cons,List.map_nil,List.sum_cons,List.sum_nil];omega
theorem JkF (l:List (Nat×Nat)) (k:Nat):JG l k<=JG l l.length:=by
 unfold JG
 rw [List.take_length]
 conv=>rhs;rw [<-List.take_append_drop k l]
 simp only [List.map_append,List.sum_append]
 omega
theorem JeO (x y:Nat) (h:x+y<18446744073709551616) (w:World):(callFunc 340 #[.int .u64 (x:Int),.int .u64 (y:Int),.int .u64 0]).run prog w =
  .ok (.value (.tuple #[.int .u64 ((x+y:Nat):Int),.int .u64 0])) w:=by
 rw [Jdv,Nat.mod_eq_of_lt h,Nat.div_eq_of_lt h];rfl
theorem JhB (x y:Nat) (hx:x<18446744073709551616) (hy:y<18446744073709551616) (h:18446744073709551616<=x+y):∃z:Int,∀w:World,(callFunc 340 #[.int .u64 (x:Int),.int .u64 (y:Int),.int .u64 0]).run prog w =
  .ok (.value (.tuple #[.int .u64 z,.int .u64 1])) w:=by
 refine ⟨(((x+y) % 18446744073709551616:Nat):Int),λw=>?_⟩
 rw [Jdv,show (x+y) / 18446744073709551616=1 by omega]
 rfl
theorem JiU (E:Nat->Addr) (gi oi c:Nat) (l:List (Nat×Nat)) (hc:l.length<1000000) (hsm:∀x∈l,x.1<18446744073709551616) (w:World) (hE:Env E w) (hgi:gi<w.heap.size) (h1:∀i (h:i<l.length),w.cell? ⟨gi,oi+i * 2,none⟩=some (.int .u64 ((l[i].1:Nat):Int))/\w.cell? ⟨gi,oi+i * 2+1,none⟩=some (.int .u8 ((l[i].2:Nat):Int))):
  Calls prog 285 #[.slice (some ⟨gi,oi,none⟩) l.length c] w λe w'=>Tch NoB w w'/\((JG l l.length<18446744073709551616/\e=.returned (.tuple #[.int .u64 ((JG l l.length:Nat):Int),.nilIface]))\/(18446744073709551616<=JG l l.length/\e=.returned (.tuple #[.int .u64 0,eV E 3]))):=by
 have HSM:Hid _:=hsm
 have HE:Hid _:=hE
 have H1:Hid _:=h1
 have HQ:Hid (JG l l.length<18446744073709551616\/18446744073709551616<=JG l l.length):=Nat.lt_or_ge _ _
 go_enter func285,ntmps285
 go_wp2
 go_loopw [4,10] (λs i wr=>∃k:Nat,k<=l.length/\s=.int .u64 ((JG l k:Nat):Int)/\i=.int .i64 k/\Hid (JG l k<18446744073709551616)/\Hid (Tch NoB w wr)) (λ_ i _=>l.length - (intOf i).toNat)
 case atStart=>exact ⟨0,by omega,rfl,rfl,(by decide:(0:Nat)<18446744073709551616),Te _ w⟩
 case round=>
  obtain ⟨k,hk,rfl,rfl,hS,hT⟩:=hrel
  by_cases hlt:k<l.length
  ·obtain ⟨f0,f1⟩:=H1 k hlt
   have c0:=(hT.cell (p:=⟨gi,oi+k * 2,none⟩) hgi (λh=>h)).trans f0
   have c1:=(hT.cell (p:=⟨gi,oi+k * 2+1,none⟩) hgi (λh=>h)).trans f1
   have hlti:(k:Int)<(l.length:Int):=by omega
   have hy:Hid _:=HSM _ (Qx hlt)
   have HN:Hid (JG l (k+1)=JG l k+l[k].1):=JgS l k hlt
   have HFK:Hid (JG l k+l[k].1<18446744073709551616\/18446744073709551616<=JG l k+l[k].1):=Nat.lt_or_ge _ _
   generalize l[k].1=y at *
   generalize (l[k].2)=z at *
   rcases HFK.o with hs | hs
   ·have ha:=JeO (JG l k) y hs
    have HSL:Hid _:=hs
    generalize JG l k=S at *
    go_wp2
    go_roundw
    case rel=>exact ⟨k+1,by omega,by rw [HN.o,Int.natCast_add],by go_num,by rw [HN.o];exact HSL,hT.trans (Ta NoB _ _) noE⟩
    case measure=>simp [intOf];omega
   ·obtain ⟨zz,ha⟩:=JhB (JG l k) y hS.out hy.out hs
    have HSL:Hid (18446744073709551616<=JG l (k+1)):=(by rw [HN.o];exact hs:18446744073709551616<=JG l (k+1))
    have hsum:=(HE.tch (hT.trans (Ta NoB _ (.cells #[.int .u64 (y:Int),.int .u8 (z:Int)] 80)) noE) noE).sum
    generalize JG l k=S at *
    have TL:Hid _:=hT.trans (Ta NoB wr (.cells #[.int .u64 (y:Int),.int .u8 (z:Int)] 80)) noE
    go_wp2
    go_region
    all_goals go_wp2
    all_goals go_ret2
    all_goals exact ⟨TL.trans (Td NoB _ 1) noE,.inr ⟨Qm HSL (JkF l (k+1)),rfl⟩⟩
  ·have HK:Hid (k=l.length):=(by omega:k=l.length)
   have hge:¬(k:Int)<(l.length:Int):=by omega
   generalize hSS:JG l k=S at *
   have HSS:Hid _:=hSS
   go_wp2
   go_ret2
   have e:JG l l.length=S:=by rw [<-HK.o];exact HSS.o
   exact ⟨hT,.inl ⟨by rw [e];exact hS,by rw [e];rfl⟩⟩
theorem JiT (w:World):
  Calls prog 285 #[.slice none 0 0] w λe w'=>e=.returned (.tuple #[.int .u64 0,.nilIface])/\w=w':=by
 go_enter func285,ntmps285
 go_wp2
 go_loopw [4,10] (λs i wr=>s=.int .u64 0/\i=.int .i64 0/\wr=w) (λ_ _ _=>0)
 case atStart=>exact ⟨rfl,rfl,rfl⟩
 case round=>
  obtain ⟨rfl,rfl,rfl⟩:=hrel
  go_wp2
  go_ret2
  exact ⟨rfl,rfl⟩
theorem JdX (E:Nat->Addr) (B:Nat) (v:Value) (l:List (Nat×Nat)) (hc:l.length<1000000) (hsm:∀x∈l,x.1<18446744073709551616) (w:World) (hE:Env E w) (h:Jo B w v l):
  Calls prog 285 #[v] w λe w'=>Tch NoB w w'/\((JG l l.length<18446744073709551616/\e=.returned (.tuple #[.int .u64 ((JG l l.length:Nat):Int),.nilIface]))\/(18446744073709551616<=JG l l.length/\e=.returned (.tuple #[.int .u64 0,eV E 3]))):=by
 rcases h with ⟨rfl,rfl⟩ | ⟨gi,oi,c,rfl,_,h2,h3⟩
 ·refine (JiT w).mono ?_
  rintro _ _ ⟨rfl,rfl⟩
  exact ⟨Te _ _,.inl ⟨by decide,rfl⟩⟩
 ·exact JiU E gi oi c l hc hsm w hE h2 h3

theorem Jde (E:Nat->Addr) (B:Nat) (v1 v2:Value) (l1 l2:List (Nat×Nat)) (hc1:l1.length<1000000) (hc2:l2.length<1000000) (hs1:∀x∈l1,x.1<18446744073709551616) (hs2:∀x∈l2,x.1<18446744073709551616) (w:World) (hE:Env E w) (h1:Jo B w v1 l1) (h2:Jo B w v2 l2):
  Calls Tryz.prog 208 #[v1,v2] w λe w'=>Tch NoB w w'/\((¬Xy l1 l2/\e=.returned .nilIface)\/(Xy l1 l2/\∃v,e=.returned v/\Jl E 3 w' v)):=by
 obtain ⟨ia1,ic1,hv1⟩:=h1.shape
 obtain ⟨ia2,ic2,hv2⟩:=h2.shape
 have HT1:Hid (Calls _ _ _ _ _):=JdX E B v1 l1 hc1 hs1 w hE h1
 have HT2:Hid (∀W,Tch NoB w W->_):=λW hW=>JdX E B v2 l2 hc2 hs2 W (hE.tch hW noE) (h2.tch hW noE)
 have HE:Hid _:=hE
 subst hv1 hv2
 go_enter Tryz.func208,Tryz.ntmps208
 go_wp2_with fail
 refine HT1.o.mono ?_
 rintro _ w1 ⟨ht1,⟨ha,rfl⟩ | ⟨ha,rfl⟩⟩
 ·have K1:Hid _:=ht1
  have HA:Hid _:=ha
  generalize hS1:JG l1 l1.length=S1 at *
  have HS1:Hid _:=hS1
  go_wp2_with fail
  refine (HT2 w1 K1).mono ?_
  rintro _ w2 ⟨ht2,⟨hb,rfl⟩ | ⟨hb,rfl⟩⟩
  ·have K2:Hid _:=K1.trans ht2 noE
   have HB:Hid _:=hb
   generalize hS2:JG l2 l2.length=S2 at *
   have HS2:Hid _:=hS2
   have hsum:=(HE.tch K2 noE).sum
   by_cases hlt:S1<S2
   ·have hlti:(S1:Int)<(S2:Int):=by omega
    go_wp2_with fail
    refine (XL _ _ _ _).mono ?_
    rintro _ _ ⟨rfl,rfl⟩
    go_wp2
    go_ret
    exact ⟨K2.trans (Ta NoB _ _) noE,.inr ⟨.inr (.inr (by rw [HS1.o,HS2.o];exact hlt)),_,rfl,.wrap _ _ _ (Qf _ _) .base⟩⟩
   ·have hlti:¬(S1:Int)<(S2:Int):=by omega
    go_wp2
    go_ret
    have q1:=HA.o
    have q2:=HB.o
    exact ⟨K2,.inl ⟨by unfold Xy;rw [HS1.o,HS2.o];omega,rfl⟩⟩
  ·have K2:Hid _:=K1.trans ht2 noE
   have HB:Hid _:=hb
   go_wp2_with fail
   refine (XL _ _ _ _).mono ?_
   rintro _ _ ⟨rfl,rfl⟩
   go_wp2
   go_ret
   exact ⟨K2.trans (Ta NoB _ _) noE,.inr ⟨.inr (.inl HB),_,rfl,.wrap _ _ _ (Qf _ _) .base⟩⟩
 ·have K1:Hid _:=ht1
  have HA:Hid _:=ha
  go_wp2_with fail
  refine (XL _ _ _ _).mono ?_
  rintro _ _ ⟨rfl,rfl⟩
  go_wp2
  go_ret
  exact ⟨K1.trans (Ta NoB _ _) noE,.inr ⟨.inl HA,_,rfl,.wrap _ _ _ (Qf _ _) .base⟩⟩

abbrev Stp:=Nat×BA
abbrev Wy:=List Stp×Option KO
def Tr.way (d:List UInt8->BA) (k:Key):Tr->List Stp×KO
 | ⟨.inl (k',o)⟩=>([],(k',o))
 | ⟨.inr (b,l,r)⟩=>if bt k b=0 then (((b,r.dig d) :: (l.way d k).1),(l.way d k).2) else (((b,l.dig d) :: (r.way d k).1),(r.way d k).2)
def Yx (d:List UInt8->BA) (k:Key):Option Tr->Wy
 | none=>([],none)
 | some t=>((t.way d k).1,some (t.way d k).2)
def Yo:Option KO->List UInt8
 | none=>[69]
 | some (k,o)=>76 :: (k++outB o)
def XS (w:Wy):Key:=match w.2 with | none=>[] | some (k,_)=>k
def YC (d:List UInt8->BA) (key:Key) (e:List UInt8):List Stp->List (List UInt8)
 | []=>[e]
 | (b,oth) :: r=>(78 :: (beL b 2 2++(if bt key b=0 then (d ((YC d key e r).headD [])).data.toList++oth.data.toList else oth.data.toList++(d ((YC d key e r).headD [])).data.toList))) :: YC d key e r
def Wy.nodes (d:List UInt8->BA) (w:Wy):List (List UInt8):=YC d (XS w) (Yo w.2) w.1
theorem Tr.way_near (d:List UInt8->BA) (k:Key) (t:Tr):(t.way d k).2=t.near k:=by
 induction t using Tr.ri with
 | leaf=>rfl
 | br b l r ihl ihr=>simp only [way,near];split <;> assumption
theorem Tr.way_bits (d:List UInt8->BA) (k:Key) (t:Tr) (hw:t.Wf):∀s∈(t.way d k).1,bt (t.near k).1 s.1=bt k s.1:=by
 induction t using Tr.ri with
 | leaf=>intro s hs;cases hs
 | br b l r ihl ihr=>
  obtain ⟨w1,w2,h0,h1,_⟩:=hw
  have k2:=Xz k b
  intro s hs
  simp only [way] at hs
  simp only [near]
  split at hs <;> rename_i hz
  ·simp only [hz,if_true]
   simp only [List.mem_cons] at hs
   rcases hs with rfl | hs
   ·have:=h0 _ (near_mem k l);simp only;omega
   ·exact ihl w1 s hs
  ·simp only [hz,if_false]
   simp only [List.mem_cons] at hs
   rcases hs with rfl | hs
   ·have:=h1 _ (near_mem k r);simp only;omega
   ·exact ihr w2 s hs
theorem YH (d:List UInt8->BA) (key:Key) (e:List UInt8) (l:List Stp):(YC d key e l).length=l.length+1:=by
 induction l with
 | nil=>rfl
 | cons s r ih=>obtain ⟨b,o⟩:=s;simp [YC,ih]
theorem Tr.way_root (d:List UInt8->BA) (k:Key) (t:Tr) (hw:t.Wf) (key:Key) (hk:∀s∈(t.way d k).1,bt key s.1=bt k s.1):(YC d key (Yo (some (t.way d k).2)) (t.way d k).1).headD []=t.text d:=by
 induction t using Tr.ri with
 | leaf=>rfl
 | br b l r ihl ihr=>
  obtain ⟨w1,w2,h0,h1,_⟩:=hw
  have k2:=Xz k b
  simp only [way] at hk ⊢
  split
  ·rename_i hz
   simp only [hz,if_true] at hk
   have hb:=hk (b,r.dig d) (by simp)
   simp only at hb
   have:=ihl w1 (λs hs=>hk s (by simp [hs]))
   simp only [YC,List.headD_cons]
   rw [hb,this,if_pos hz,<-Tr.dig_text d l];rfl
  ·rename_i hz
   simp only [hz,if_false] at hk
   have hb:=hk (b,l.dig d) (by simp)
   simp only at hb
   have:=ihr w2 (λs hs=>hk s (by simp [hs]))
   simp only [YC,List.headD_cons]
   rw [hb,this,if_neg hz,<-Tr.dig_text d r];rfl
def Wy.said (w:Wy) (k:Key):Option (Nat×Nat):=match w.2 with | none=>none | some (k',o)=>if k'=k then some o else none
theorem Jmg {a b:BA} (h:a.data.toList=b.data.toList):a=b:=by
 cases a;cases b;simp only at h;rw [Array.toList_inj] at h;rw [h]
theorem JgL (d:List UInt8->BA) (wd:Nat) (st:Option Tr) (l:List Held) (B:Book wd st l) (c:BA×Int) (hc:Ji wd c):(Yx d (Jd c) st).said (Jd c)=(Xe l c).map λk=>(l.getD k ((⟨#[]⟩,0),(0,0))).2:=by
 have hw:=B.without hc
 cases st with
 | none=>
  obtain rfl:=B.none
  rfl
 | some t=>
  simp only [Yx,Wy.said,Tr.way_near]
  cases h:Xe l c with
  | none=>
   rw [h] at hw
   simp only [JU] at hw
   split at hw
   ·cases hw
   ·rw [if_neg (by assumption)];rfl
  | some k=>
   rw [h] at hw
   obtain ⟨st',e,_⟩:=hw
   simp only [JU] at e
   split at e
   ·rename_i hk
    simp only [Except.ok.injEq,Qw] at e
    rw [if_pos hk,e.2];rfl
   ·cases e

def PS.step (wd:Nat) (s:Stp) (p:PS):Option (Stp×PS):=
 match p.num s.1 2 with
 | none=>none
 | some (m,p1)=>if 8 * (wd+1)<=m then none else match p1.txt s.2.data.toList wd with
  | none=>none
  | some (t,p2)=>some ((m,⟨t.toArray⟩),p2)
def Zj (wd:Nat) (k:Int) (x:BA) (st:Option PS):(Nat×List UInt8)×Option PS:=(((Ys wd k st).1,(Jj x.data.toList wd (Ys wd k st).2).1),(Jj x.data.toList wd (Ys wd k st).2).2)
theorem JlJ (E:Nat->Addr) (b:Nat) (hb12:18<=b) (g:Option Nat) (wd:Nat) (hw:wd<=1000) (k:Int) (x:BA) (st:Option PS) (w:World) (hE:Env E w) (hp:Jg E w b g wd st) (hd:JN st<=80000000):
  Calls prog 218 #[.pointer (some ⟨b,0,none⟩),.agg #[.int .i64 k,.string x]] w λe w'=>e=.returned (.agg #[.int .i64 ((Zj wd k x st).1.1:Int),.string ⟨(Zj wd k x st).1.2.toArray⟩])/\StTo E w w' b g wd (Zj wd k x st).2:=by
 have hlt:=hp.lt
 have HR0:=Run.start hb12 hE hp (Tch.allocs NoB w (.cells #[.int .i64 k,.string x] 366) (.cells #[.int .i64 0,.string ⟨#[]⟩] 366))
 have hl0:=JdU wd k st
 have RUN:Hid _:=HR0
 go_enter func218,ntmps218
 go_wp2_with fail
 refine (Jjs E b hb12 g wd hw k st _ RUN.env RUN.port (by omega)).mono ?_
 rintro _ w1 ⟨rfl,h⟩
 obtain ⟨g1,(RUN1:Hid _)⟩:=RUN.step h
 have bx1:=(RUN1.box (k:=w.heap.size) (Ql _) (heap_alloc2_old _ _ _)).1
 obtain ⟨-,c1⟩:=rows bx1
 clear bx1 h
 go_wp2_with fail
 refine (YA E b g1 wd x _ _ RUN1.env RUN1.port (by omega)).mono ?_
 rintro _ w3 ⟨rfl,h⟩
 obtain ⟨g3,(RUN3:Hid _)⟩:=RUN1.step h
 have rR:=(RUN3.box (k:=w.heap.size+1) (by omega) (heap_alloc2_new _ _ _)).1
 obtain ⟨e0,e1⟩:=rows rR
 have fR:∀j,w3.frozen? ⟨w.heap.size+1,j,none⟩=false:=λj=>Qg _ _ _ _ _ rR
 have RR:Hid _:=rR
 clear rR h
 go_wp2
 rw [set2 _ _ _ _ _ _ _ RR.out]
 exact QJ (v:=.agg #[.int .i64 ((Zj wd k x st).1.1:Int),.string ⟨(Zj wd k x st).1.2.toArray⟩]) (Qq results218 _ _ (w.heap.size+1) _ _ (0,0) _ rfl (Qi _ _ _ _ _ _ RR) underlying366 rfl (by kernel_rfl)) rfl ⟨rfl,RUN3.done (k:=w.heap.size+1) (by omega) (heap_alloc2_new _ _ _) (by decide)⟩
theorem Jdz (n:Nat) (h:n<65536):JB (n:Int)=n:=by unfold JB;omega
theorem JfK (wd:Nat) (s:Stp) (hs:s.1<65536) (p:PS) (h:p.step wd s=none):(Zj wd (s.1:Int) s.2 (some p)).2=none:=by
 unfold Zj Ys
 rw [Jdz _ hs]
 unfold PS.step at h
 cases h1:p.num s.1 2 with
 | none=>rw [ZY h1];dsimp only;split <;> rfl
 | some r=>
  obtain ⟨m,p1⟩:=r
  rw [h1] at h
  dsimp only at h
  rw [JX h1]
  dsimp only
  split at h
  ·rename_i hm;rw [if_pos hm];rfl
  ·rename_i hm
   rw [if_neg hm]
   cases h2:p1.txt s.2.data.toList wd with
   | none=>rw [Yg h2]
   | some r2=>rw [h2] at h;cases h
theorem JfL (wd:Nat) (s y:Stp) (hs:s.1<65536) (p p2:PS) (h:p.step wd s=some (y,p2)):(Zj wd (s.1:Int) s.2 (some p)).2=some p2/\y=((Zj wd (s.1:Int) s.2 (some p)).1.1,⟨(Zj wd (s.1:Int) s.2 (some p)).1.2.toArray⟩):=by
 unfold Zj Ys
 rw [Jdz _ hs]
 unfold PS.step at h
 cases h1:p.num s.1 2 with
 | none=>rw [h1] at h;cases h
 | some r=>
  obtain ⟨m,p1⟩:=r
  rw [h1] at h
  dsimp only at h
  rw [JX h1]
  dsimp only
  split at h
  ·cases h
  ·rename_i hm
   rw [if_neg hm]
   cases h2:p1.txt s.2.data.toList wd with
   | none=>rw [h2] at h;cases h
   | some r2=>
    obtain ⟨t,p3⟩:=r2
    rw [h2] at h
    simp only [Qh,Qw] at h
    obtain ⟨rfl,rfl⟩:=h
    rw [JK h2]
    exact ⟨rfl,rfl⟩
def encS (s:Stp):VV:=(.int .i64 (s.1:Int),.string s.2)
def Jbj (wd:Nat):XK Stp where
 f:=λs p=>p.step wd s
 grow:=wd+2
 zero:=(0,⟨#[]⟩)
 zeroV:=zS
 Init:=λ_ _ _ x s=>x=encS s/\s.1<65536
 Done:=λ_ _ _ x s=>x=encS s
theorem Ja0 {wd:Nat} {s y:Stp} {p p2:PS} (h:p.step wd s=some (y,p2)):p.like p2/\p2.len<=p.len+(wd+2):=by
 unfold PS.step at h
 cases h1:p.num s.1 2 with
 | none=>rw [h1] at h;cases h
 | some r=>
  obtain ⟨m,p1⟩:=r
  rw [h1] at h
  dsimp only at h
  split at h
  ·cases h
  ·cases h2:p1.txt s.2.data.toList wd with
   | none=>rw [h2] at h;cases h
   | some r2=>
    obtain ⟨t,p3⟩:=r2
    rw [h2] at h
    simp only [Qh,Qw] at h
    obtain ⟨_,rfl⟩:=h
    have l1:=Zr _ _ _ _ _ h1
    have l2:=JeG _ _ _ _ _ h2
    exact ⟨(XZ h1).trans (JfU h2),by omega⟩
theorem lawS (E:Nat->Addr) (b:Nat) (hb12:18<=b) (wd lim:Nat) (hw:wd<=1000) (hl:lim<=80000000):YE E b wd lim lkS.fP (Jbj wd) ShS where
 init_tch:=λh _ _ _=>h
 init_zero:=λ_ _=>⟨rfl,by show 0<65536;omega⟩
 init_shape:=λh=>⟨_,_,h.1⟩
 done_tch:=λh _ _ _=>h
 done_mono:=λh _=>h
 like:=λh=>(Ja0 h).1
 len:=λ_ h=>(Ja0 h).2
 call:=λ{w g p x a} hE hp hI hd=>by
  obtain ⟨rfl,ha⟩:=hI
  show Calls _ _ #[_,.agg #[.int .i64 (a.1:Int),.string a.2]] _ _
  refine (JlJ E b hb12 g wd hw (a.1:Int) a.2 (some p) w hE hp (by simp only [JN];omega)).mono ?_
  rintro e w' ⟨rfl,g',k1,k2,k3⟩
  refine ⟨(.int .i64 _,.string _),⟨_,_,rfl⟩,rfl,?_⟩
  show ToP E w b g wd (Jbj wd) (p.step wd a) _ w'
  cases h:p.step wd a with
  | none=>
   rw [JfK wd a ha p h] at k1
   obtain ⟨p',t,u,h1,h2⟩:=k1
   exact ⟨g',_,p',h1,k2,k3,h2⟩
  | some r=>
   obtain ⟨y,p2⟩:=r
   obtain ⟨e1,e2⟩:=JfL wd a y ha p p2 h
   rw [e1] at k1
   exact ⟨g',_,p2,k1,k2,k3,rfl,rfl,by rw [e2];rfl⟩

theorem JdF (a:Int) (w:World):Calls prog 344 #[.int .i64 a] w λe w'=>e=.returned (.bool false)/\w'=w:=by
 go_enter func344,ntmps344
 go_wp2
 go_ret
 exact ⟨by simp,rfl⟩
def sgn (a b:Int):Int:=if a<b then -1 else if b<a then 1 else 0
theorem JmJ (a b:Int):(0<=sgn a b)↔¬a<b:=by unfold sgn;split <;> (try split) <;> omega
theorem Je3 (a b:Int) (w:World):Calls prog 293 #[.int .i64 a,.int .i64 b] w λe w'=>e=.returned (.int .i64 (sgn a b))/\w'=w:=by
 go_enter func293,ntmps293
 go_wp2_with fail
 refine (JdF _ _).mono ?_
 rintro _ _ ⟨rfl,rfl⟩
 go_wp2_with fail
 refine (JdF _ _).mono ?_
 rintro _ _ ⟨rfl,rfl⟩
 by_cases h1:a<b
 ·have HS:Hid (sgn a b= -1):=(by unfold sgn;rw [if_pos h1]:sgn a b= -1)
  go_wp2
  go_ret
  exact ⟨by rw [HS.o];rfl,rfl⟩
 ·by_cases h2:b<a
  ·have HS:Hid (sgn a b=1):=(by unfold sgn;rw [if_neg h1,if_pos h2]:sgn a b=1)
   go_wp2
   go_ret
   exact ⟨by rw [HS.o];rfl,rfl⟩
  ·have HS:Hid (sgn a b=0):=(by unfold sgn;rw [if_neg h1,if_neg h2]:sgn a b=0)
   go_wp2
   go_ret
   exact ⟨by rw [HS.o];rfl,rfl⟩
theorem Jf3 (a b:Int) (x y:BA) (w:World):Calls prog 220 #[.agg #[.int .i64 a,.string x],.agg #[.int .i64 b,.string y]] w λe w'=>e=.returned (.int .i64 (sgn a b))/\Tch NoB w w':=by
 go_enter func220,ntmps220
 go_wp2_with fail
 refine (Je3 _ _ _).mono ?_
 rintro _ _ ⟨rfl,rfl⟩
 go_wp2
 go_ret
 exact ⟨rfl,Tch.allocs _ w _ _⟩

theorem Jel (a:Addr) (w:World):(method 641 170 (.pointer (some a)) "trove/wire.more").run prog w=.ok (140,.pointer (some a)) w:=by kernel_rfl
theorem Jem (a:Addr) (w:World):(method 641 153 (.pointer (some a)) "trove/wire.more").run prog w=.ok (377,.pointer (some a)) w:=by kernel_rfl
theorem Ji3 (a:Value) (m:Bool) (w:World):Calls prog 377 #[a,.bool m] w λe w'=>e=.returned (.bool m)/\w'=w:=by
 go_enter func377,ntmps377
 go_wp2
 go_ret
 exact ⟨rfl,rfl⟩
def Zy (m:Bool):Option PS->Bool
 | none=>false
 | some (⟨.inl (_,rest)⟩)=> !rest.isEmpty
 | some (⟨.inr _⟩)=>m
theorem Jlw (E:Nat->Addr) (b:Nat) (g:Option Nat) (wd:Int) (m:Bool) (st:Option PS) (w:World) (hp:Jg E w b g wd st):
  Calls prog 221 #[.pointer (some ⟨b,0,none⟩),.bool m] w λe w'=>e=.returned (.bool (Zy m st))/\Tch NoB w w':=by
 cases st with
 | none=>
  obtain ⟨p,t,u,h1,_⟩:=hp
  have ce:=h1.errCell
  go_enter func221,ntmps221
  go_wp2
  go_ret
  exact ⟨rfl,Te _ _⟩
 | some p=>
  have hp:=hp
  have ce:=hp.errCell
  cases p using PS.on with
  | rd pre rest=>
   obtain ⟨c0, -⟩:=rows hp.2
   have hm:=Jel ⟨b,0,none⟩
   have HP:Hid (Jc _ _ _ _ _ _):=hp
   go_enter func221,ntmps221
   go_wp2_with fail
   refine (JbI b g wd .nilIface _ pre rest w HP.o).mono ?_
   rintro _ w1 ⟨rfl,(HT:Hid _)⟩
   go_wp2
   go_ret
   exact ⟨rfl,HT⟩
  | wr d=>
   have c0:w.cell? ⟨b,0,none⟩=some (.iface 153 (.pointer (some ⟨b,0,none⟩))):=by obtain ⟨v,_,_,hr⟩:=hp;exact Ja hr
   have hm:=Jem ⟨b,0,none⟩
   go_enter func221,ntmps221
   go_wp2_with fail
   refine (Ji3 _ m w).mono ?_
   rintro _ _ ⟨rfl,rfl⟩
   go_wp2
   go_ret
   exact ⟨rfl,Te _ _⟩
def YQ (ys:List Stp) (k:Nat):Prop:=∀i,1<=i->i<k->∀x y,ys[i - 1]? =some x->ys[i]? =some y->x.1<y.1
def JlD (ys:List Stp) (k:Nat):Decidable (YQ ys k):=
 decidable_of_iff (∀i,i<k->1<=i->∀x∈ys[i - 1]?,∀y∈ys[i]?,x.1<y.1) ⟨λh i h1 h2 x y hx hy=>h i h2 h1 x hx y hy,λh i h2 h1 x hx y hy=>h i h1 h2 x y hx hy⟩
def Xo (ys:List Stp) (st:Option PS):Option PS:=haveI:=JlD ys ys.length;if YQ ys ys.length then st else none
theorem Jfz (E:Nat->Addr) (b:Nat) (g:Option Nat) (wd:Int) (what:Value) (a:Option Addr) (n c:Nat) (w:World) (hp:Jg E w b g wd none):
  Calls prog 219 #[.pointer (some ⟨b,0,none⟩),what,.slice a n c,.func (.func 220) #[] #[]] w λe w'=>e=.returned (.tuple #[])/\w'=w:=by
 obtain ⟨p,t,u,h1,_⟩:=hp
 have ce:=h1.errCell
 clear h1
 go_enter func219,ntmps219
 go_wp2
 go_loopw [8] (λi wr=>i=.int .i64 1/\wr=w) (λ_ _=>0)
 case atStart=>exact ⟨rfl,rfl⟩
 case round=>
  obtain ⟨rfl,rfl⟩:=hrel
  by_cases hlt:1<n
  ·have hlti:(1:Int)<(n:Int):=by omega
   go_wp2
   exact bodyPost_end (v:=.tuple #[]) (results_none results219 _ _ _) rfl ⟨rfl,rfl⟩
  ·have hlti:¬(1:Int)<(n:Int):=by omega
   go_wp2
   exact bodyPost_end (v:=.tuple #[]) (results_none results219 _ _ _) rfl ⟨rfl,rfl⟩
theorem JfA (E:Nat->Addr) (b:Nat) (g:Option Nat) (wd:Int) (what:BA) (hwh:what.size<=1000) (gp:Nat) (ys:List Stp) (hn:ys.length<=300) (p:PS) (w:World) (hE:Env E w) (hp:Jg E w b g wd (some p)) (hr:w.heap[gp]? =some (.cells (vvA (ys.map encS)) 366)) (hgb:gp ≠ b) (hgg:some gp ≠ g):
  Calls prog 219 #[.pointer (some ⟨b,0,none⟩),.string what,.slice (some ⟨gp,0,none⟩) ys.length ys.length,.func (.func 220) #[] #[]] w λe w'=>e=.returned (.tuple #[])/\StTo E w w' b g wd (Xo ys (some p)):=by
 have HG:Hid (gp ≠ b/\some gp ≠ g):=⟨hgb,hgg⟩
 have HE:Hid (Env E w):=hE
 have HP:Hid (Jg E w b g wd (some p)):=hp
 have HR:Hid (w.heap[gp]? =some (.cells (vvA (ys.map encS)) 366)):=hr
 have HN:Hid (ys.length<=300):=hn
 clear hE hp hr hgb hgg hn
 go_enter func219,ntmps219
 go_wp2
 go_loopw [8] (λi wr=>∃k:Nat,1<=k/\i=.int .i64 k/\((Hid (Tch NoB w wr)/\Hid (YQ ys k))\/(Hid (StTo E w wr b g wd none)/\Hid (¬YQ ys ys.length)))) (λi _=>ys.length+1 - (intOf i).toNat)
 case atStart=>exact ⟨1,by omega,rfl,.inl ⟨Te _ w,λi h1 h2=>by omega⟩⟩
 case round=>
  obtain ⟨k,hk1,rfl,⟨hT,hRi⟩ | ⟨hS,hNR⟩⟩:=hrel
  ·by_cases hlt:k<ys.length
   ·have hrow:=(hT.out.block gp (Jb HR.o) (λh=>h)).trans HR.o
    have hpk:=HP.o.next hT.out
    have ce:=Jc.errCell hpk
    have hlen:ys.length<=300:=HN.o
    have hgk:=λi (hi:i<ys.length)=>Yt (ys.map encS) i (by simpa using hi)
    have cell:∀i (hi:i<ys.length),wr.cell? ⟨gp,i * 2,none⟩=some (.int .i64 (ys[i].1:Int))/\wr.cell? ⟨gp,i * 2+1,none⟩=some (.string ys[i].2):=λi hi=>by
     obtain ⟨e1,e2⟩:=hgk i hi
     rw [List.getElem_map] at e1 e2
     exact ⟨(Ja hrow).trans e1,(Ja hrow).trans e2⟩
    obtain ⟨j,hjk⟩:∃j,k=j+1:=⟨k - 1,by omega⟩
    obtain ⟨a0,a1⟩:=cell j (by omega)
    obtain ⟨b0,b1⟩:=cell k hlt
    have HLT:Hid (k<ys.length):=hlt
    have HA:Hid (ys[j]? =some ys[j]):=Qd (by omega)
    have HB:Hid (ys[k]? =some ys[k]):=Qd hlt
    have hlti:(k:Int)<(ys.length:Int):=by omega
    have hsub:IntKind.i64.wrap ((k:Int) - 1)=(j:Int):=by rw [JM _ (by omega) (by omega)];omega
    have hj0:j<ys.length:=by omega
    have hji:(j:Int)<(ys.length:Int):=by omega
    have HJK:Hid (k=j+1):=hjk
    clear cell hgk hrow
    generalize hX:ys[j]=X at *
    generalize hY:ys[k]=Y at *
    obtain ⟨x0,x1⟩:=X
    obtain ⟨y0,y1⟩:=Y
    dsimp only at a0 a1 b0 b1
    clear hX hY hpk hlt hjk
    go_upto_region 3 with fail
    go_cut [33] (λvb wx=>vb=.bool (decide (0<=sgn (x0:Int) (y0:Int)))/\Hid (Tch NoB wr wx))
    case first=>
     clear hRi hT HA HB HE HP HR HN
     go_region_with (go_at_call 220;refine (Jf3 _ _ _ _ _).mono ?_;rintro _ w1 ⟨rfl,ht⟩;have HT1:Hid (Tch _ _ _):=ht;clear ht)
     all_goals
      go_wp2
      go_meet
      exact ⟨rfl,(Td NoB wr 1).trans HT1.o (λ_ h=>.inl h)⟩
    case rest=>
    obtain ⟨rfl,hTx⟩:=hcut
    obtain ⟨wA,hwA⟩:∃wA,wA=wc:=⟨_,rfl⟩
    have HTX:Hid (Tch NoB w wA):=hT.out.trans (hwA ▸ hTx.out) (λ_ h=>.inl h)
    subst hwA
    have hpA:=HP.o.next HTX.o
    have hSG:(0<=sgn (x0:Int) (y0:Int))↔¬x0<y0:=by rw [JmJ];omega
    by_cases hlt:x0<y0
    ·have hdec:decide (0<=sgn (x0:Int) (y0:Int))=false:=by simp [hSG,hlt]
     rw [hdec]
     have HRI:Hid (YQ ys (k+1)):=λi h1 h2 x y hx hy=>by
      by_cases hi:i<k
      ·exact hRi.out i h1 hi x y hx hy
      ·obtain rfl:i=k:=by omega
       rw [show i - 1=j by have:=HJK.o;omega,HA.o] at hx
       rw [HB.o] at hy
       cases hx;cases hy;exact hlt
     clear hRi hSG hdec hlt hpA
     go_wp2
     go_roundw
     case rel=>exact ⟨k+1,by omega,by go_num,.inl ⟨HTX.o,HRI.o⟩⟩
     case measure=>have:=HLT.o;simp [intOf];omega
    ·have hdec:decide (0<=sgn (x0:Int) (y0:Int))=true:=by simp [hSG,hlt]
     rw [hdec]
     have HNR:Hid (¬YQ ys ys.length):=λh=>hlt (h k hk1 HLT.o _ _ (by rw [show k - 1=j by have:=HJK.o;omega];exact HA.o) HB.o)
     have HEA:Hid (Env E wA):=HE.o.tch HTX.o noE
     have HPA:Hid (Jg E wA b g wd (some p)):=hpA
     clear hRi hSG hdec hlt hpA
     have hws:(what++(⟨#[32]⟩:BA)).size<=1001:=by rw [ByteArray.size_append];show what.size+1<=1001;omega
     have hnb0:¬(what.size+(⟨#[32]⟩:BA).size > 9223372036854775807):=by show ¬(what.size+1 > 9223372036854775807);omega
     go_wp2_with fail
     refine (JcA HEA.o k (by omega)).mono ?_
     rintro _ w2 ⟨⟨s1,hs1,rfl⟩,hb2⟩
     have HT2:Hid (Tch NoB wA w2):=(Tch.of_below hb2).mono (λ_ h=>.inr h)
     clear hb2
     generalize what++(⟨#[32]⟩:BA)=ws at *
     have hnb:¬(ws.size+s1.size > 9223372036854775807):=by omega
     go_wp2_with fail
     refine (ZH E b g wd (ws++s1) _ w2 (HEA.o.tch HT2.o noE) (HPA.o.next HT2.o)).mono ?_
     rintro _ w3 ⟨rfl,hs3⟩
     have HS3:Hid (StTo E w w3 b g wd none):=StTo.fresh (HTX.o.trans HT2.o (λ_ h=>.inl h)) hs3
     clear hs3
     go_wp2
     go_roundw
     case rel=>exact ⟨k+1,by omega,by go_num,.inr ⟨HS3.o,HNR.o⟩⟩
     case measure=>have:=HLT.o;simp [intOf];omega
   ·have HRI:Hid (YQ ys ys.length):=λi h1 h2=>hRi.out i h1 (by omega)
    have hlti:¬((k:Nat):Int)<(ys.length:Int):=by omega
    go_wp2
    refine bodyPost_end (v:=.tuple #[]) (results_none results219 _ _ _) rfl ⟨rfl,?_⟩
    unfold Xo
    rw [if_pos HRI.o]
    exact ⟨g,HP.o.next hT.out,.inl rfl,hT.out.mono noE⟩
  ·have hev:=hS.out.choose_spec.1.err
   obtain ⟨_,t,u,ce⟩ | ⟨⟨_,h⟩,_⟩:=hev
   ·by_cases hlt:k<ys.length
    ·have hlti:((k:Nat):Int)<(ys.length:Int):=by omega
     go_wp2
     refine bodyPost_end (v:=.tuple #[]) (results_none results219 _ _ _) rfl ⟨rfl,?_⟩
     unfold Xo
     rw [if_neg hNR.out]
     exact hS.out
    ·have hlti:¬((k:Nat):Int)<(ys.length:Int):=by omega
     go_wp2
     refine bodyPost_end (v:=.tuple #[]) (results_none results219 _ _ _) rfl ⟨rfl,?_⟩
     unfold Xo
     rw [if_neg hNR.out]
     exact hS.out
   ·cases h
end Go.Proofs.YtighkdnooglfjaaGreatDoor
namespace Go.Proofs
open Tryz
open Go.Shelf
def Jdi:Go.Shelf.Ren:=⟨fun | 35=>290 | n=>n,fun | 22=>58 | 23=>9 | 3=>3 | 4=>4 | 0=>0 | n=>n,fun | n=>n⟩
theorem Jia:SlLaysE.n35 prog Jdi:={
 mixed:=by kernel_rfl
 f35:=Exists.intro "slices.Reverse[[]string,string]" ⟨by decide,func290.trans (congrArg some (by kernel_rfl))⟩
 t0:=underlying0
 a0:=isAgg0
 z0:=sizeOf0
 v0:=zeroValue0
 t3:=underlying3
 a3:=isAgg3
 z3:=sizeOf3
 v3:=zeroValue3
 t4:=underlying4
 a4:=isAgg4
 z4:=sizeOf4
 v4:=zeroValue4
 t22:=underlying58
 a22:=isAgg58
 z22:=sizeOf58
 v22:=zeroValue58
 a23:=isAgg9
 z23:=sizeOf9 }
theorem YtighkdnooglfjaaGreatDoor.tch_putRow (w:World) (n blk off:Nat) (d:Array ByteArray):YtighkdnooglfjaaGreatDoor.Tch (λj=>j=blk) w (Go.Sort.putRow Value.string (Go.Sort.ahead w n) blk off d):=by
 refine ⟨rfl,rfl,rfl,by simp [Go.Sort.ahead],λk _ hk=>?_⟩
 simp only [Go.Sort.putRow,Go.Sort.mapBlock,Go.Sort.ahead]
 rw [Array.getElem?_modify,if_neg (λe=>hk e.symm)]
theorem YtighkdnooglfjaaGreatDoor.reverse_any (blk cap:Nat) (zs:List ByteArray) (w:World) (hc:∀j (h:j<zs.length),w.cell? ⟨blk,j,none⟩=some (.string zs[j])/\w.frozen? ⟨blk,j,none⟩=false) (hz:zs.length<=1000000):
  Calls prog 290 #[.slice (some ⟨blk,0,none⟩) zs.length cap] w λe w'=>e=.returned (.tuple #[])/\YtighkdnooglfjaaGreatDoor.Tch (λj=>j=blk) w w'/\∀j (h:j<zs.reverse.length),w'.cell? ⟨blk,j,none⟩=some (.string zs.reverse[j]):=by
 have hH:Go.Sort.Holds Value.string w blk 0 zs.toArray:=λj hj=>by
  have hj':j<zs.length:=by simpa using hj
  obtain ⟨h1,h2⟩:=hc j hj'
  rw [Nat.zero_add]
  refine ⟨?_,h2⟩
  rw [h1]
  simp [hj']
 refine (AnyE.slices_Reverse Jia Value.string (λ_=>rfl) blk 0 cap zs w hH (by omega)).mono ?_
 rintro e w' ⟨rfl,n,rfl⟩
 refine ⟨rfl,YtighkdnooglfjaaGreatDoor.tch_putRow _ _ _ _ _,λj h=>?_⟩
 have h0:Go.Sort.Holds Value.string (Go.Sort.ahead w n) blk 0 zs.toArray:=hH
 have:=Go.Sort.cell?_putRow Value.string (Go.Sort.ahead w n) blk 0 zs.toArray zs.reverse.toArray h0 (by simp) j (by simpa using h)
 rw [Nat.zero_add] at this
 rw [this]
 have hj':j<zs.length:=by simpa using h
 simp [hj']
end Go.Proofs
namespace Go.Proofs.YtighkdnooglfjaaGreatDoor

def Tr.posts (d:List UInt8->BA):Tr->List (List UInt8)
 | ⟨.inl (k,o)⟩=>[(Tr.leaf k o).text d]
 | ⟨.inr (b,l,r)⟩=>l.posts d++r.posts d++[(Tr.br b l r).text d]
def JaH (d:List UInt8->BA):Option Tr->List (List UInt8)
 | none=>[[69]]
 | some t=>t.posts d
structure JQ (d:List UInt8->BA) (l:List KO) (s:List UInt8) (a:List (List UInt8)):Prop where
 of ::
 c:∀C:List KO->List UInt8->List (List UInt8)->Prop,C [] [69] [[69]]->(∀k o,C [(k,o)] (76 :: (k++outB o)) [76 :: (k++outB o)])->(∀l b x y p q,Fork l b->C (side l b 0) x p->C (side l b 1) y q->C l (78 :: (beL b 2 2++((d x).data.toList++(d y).data.toList))) (p++q++[78 :: (beL b 2 2++((d x).data.toList++(d y).data.toList))]))->C l s a
theorem JQ.none {d:List UInt8->BA}:JQ d [] [69] [[69]]:=⟨λ_ h _ _=>h⟩
theorem JQ.one {d:List UInt8->BA} (k:Key) (o:Nat×Nat):JQ d [(k,o)] (76 :: (k++outB o)) [76 :: (k++outB o)]:=⟨λ_ _ h _=>h k o⟩
theorem JQ.two {d:List UInt8->BA} (l:List KO) (b:Nat) (x y:List UInt8) (p q:List (List UInt8)) (hf:Fork l b) (hx:JQ d (side l b 0) x p) (hy:JQ d (side l b 1) y q):JQ d l (78 :: (beL b 2 2++((d x).data.toList++(d y).data.toList))) (p++q++[78 :: (beL b 2 2++((d x).data.toList++(d y).data.toList))]):=⟨λC h1 h2 h3=>h3 l b x y p q hf (hx.c C h1 h2 h3) (hy.c C h1 h2 h3)⟩
theorem JQ.ri {d:List UInt8->BA} {motive:∀l s a,JQ d l s a->Prop} (none:motive _ _ _ .none) (one:∀k o,motive _ _ _ (.one k o)) (two:∀l b x y p q hf hx hy,motive _ _ _ hx->motive _ _ _ hy->motive _ _ _ (.two l b x y p q hf hx hy)):∀{l s a} (h:JQ d l s a),motive l s a h:=λ{_ _ _} h=>
 (h.c (λl s a=>∃h:JQ d l s a,motive l s a h) ⟨_,none⟩ (λk o=>⟨_,one k o⟩) λl b x y p q hf hx hy=>⟨_,two l b x y p q hf hx.1 hy.1 hx.2 hy.2⟩).2
theorem JQ.inv {d:List UInt8->BA} {l:List KO} {s:List UInt8} {a:List (List UInt8)} (h:JQ d l s a):(l=[]/\s=[69]/\a=[[69]])\/(∃k o,l=[(k,o)]/\s=76 :: (k++outB o)/\a=[76 :: (k++outB o)])\/∃b x y p q,Fork l b/\JQ d (side l b 0) x p/\JQ d (side l b 1) y q/\s=(78 :: (beL b 2 2++((d x).data.toList++(d y).data.toList)))/\a=(p++q++[78 :: (beL b 2 2++((d x).data.toList++(d y).data.toList))]):=by
 cases h using JQ.ri with
 | none=>exact .inl ⟨rfl,rfl,rfl⟩
 | one k o=>exact .inr (.inl ⟨k,o,rfl,rfl,rfl⟩)
 | two _ b x y p q hf hx hy=>exact .inr (.inr ⟨b,x,y,p,q,hf,hx,hy,rfl,rfl⟩)
theorem JQ.root {d:List UInt8->BA} {l:List KO} {s:List UInt8} {a:List (List UInt8)} (h:JQ d l s a):Root d l s:=by
 induction h using JQ.ri with
 | none=>exact .none
 | one k o=>exact .one k o
 | two l b x y p q hf _ _ h1 h2=>exact .two l b x y hf h1 h2
theorem JQ.of_tree {d:List UInt8->BA} (t:Tr):∀(l:List KO) (s:List UInt8) (a:List (List UInt8)),t.Wf->(∀x,x∈l↔x∈t.coins)->(l.map (·.1)).Nodup->JQ d l s a->a=t.posts d:=by
 induction t using Tr.ri with
 | leaf k o=>
  intro l s a _ hm hn hr
  simp only [Tr.coins,Qt] at hm
  have hl:l=[(k,o)]:=by
   match l,hm,hn with
   | [],hm,_=>exact absurd ((hm (k,o)).2 rfl) (by simp)
   | [a],hm,_=>rw [(hm a).1 (by simp)]
   | a :: b :: r,hm,hn=>
    have e1:=(hm a).1 (by simp)
    have e2:=(hm b).1 (by simp)
    simp [e1,e2] at hn
  subst hl
  obtain ⟨h,_⟩ | ⟨_,_,h,_,rfl⟩ | ⟨b,x,y,p,q,hf,_⟩:=hr.inv
  ·cases h
  ·cases h;rfl
  ·exact absurd hf.two (by simp)
 | br b lt rt ihl ihr=>
  intro l s a hw hm hn hr
  have hroot:=Root.of_tree (.br b lt rt) l s hw hm hn hr.root
  obtain ⟨w1,w2,h0,h1,hs⟩:=hw
  have hf:Fork l b:=by
   obtain ⟨x,hx⟩:=List.exists_mem_of_ne_nil _ lt.coins_ne
   obtain ⟨y,hy⟩:=List.exists_mem_of_ne_nil _ rt.coins_ne
   refine ⟨λx hx y hy i hi=>hs x ((hm x).1 hx) y ((hm y).1 hy) i hi,x,(hm x).2 (by simp [Tr.coins,hx]),y,(hm y).2 (by simp [Tr.coins,hy]),?_⟩
   rw [h0 x hx,h1 y hy];decide
  have hl2:=hf.two
  obtain ⟨rfl,_⟩ | ⟨_,_,rfl,_⟩ | ⟨b',x,y,p,q,hf',hx,hy,rfl,rfl⟩:=hr.inv
  ·simp at hl2
  ·simp at hl2
  ·obtain rfl:=hf.unique hf'
   have hx':=ihl (side l b 0) x p w1 (λz=>by
    unfold side
    rw [QN,hm]
    simp only [Tr.coins,QE,decide_eq_true_iff]
    constructor
    ·rintro ⟨h | h,h2⟩
     ·exact h
     ·have:=h1 z h;omega
    ·intro h;exact ⟨.inl h,h0 z h⟩) (hn.sublist (List.Sublist.map _ List.filter_sublist)) hx
   have hy':=ihr (side l b 1) y q w2 (λz=>by
    unfold side
    rw [QN,hm]
    simp only [Tr.coins,QE,decide_eq_true_iff]
    constructor
    ·rintro ⟨h | h,h2⟩
     ·have:=h0 z h;omega
     ·exact h
    ·intro h;exact ⟨.inr h,h1 z h⟩) (hn.sublist (List.Sublist.map _ List.filter_sublist)) hy
   rw [hroot,hx',hy'];rfl
theorem JQ.of_state {d:List UInt8->BA} {st:Option Tr} {l:List KO} {s:List UInt8} {a:List (List UInt8)} (hw:∀t,st=some t->t.Wf) (hm:∀x,x∈l↔x∈Xa st) (hn:(l.map (·.1)).Nodup) (hr:JQ d l s a):a=JaH d st:=by
 cases st with
 | none=>
  cases l with
  | nil=>
   obtain ⟨_,_,rfl⟩ | ⟨_,_,h,_⟩ | ⟨b,x,y,p,q,hf,_⟩:=hr.inv
   ·rfl
   ·cases h
   ·exact absurd hf.two (by simp)
  | cons a r=>exact absurd ((hm a).1 (by simp)) (by simp [Xa])
 | some t=>exact JQ.of_tree t l s a (hw t rfl) hm hn hr
theorem JfD (l:List KO) (b:Nat):(side l b 0).length+(side l b 1).length=l.length:=by
 unfold side
 induction l with
 | nil=>rfl
 | cons x r ih=>
  have h2:bt x.1 b=0\/bt x.1 b=1:=by have:=Xz x.1 b;omega
  rcases h2 with h | h
  ·simp [h] at ih ⊢;omega
  ·simp [h] at ih ⊢;omega
theorem JQ.len {d:List UInt8->BA} {l:List KO} {s:List UInt8} {a:List (List UInt8)} (h:JQ d l s a):l ≠ []->a.length+1=2 * l.length:=by
 induction h using JQ.ri with
 | none=>intro h;exact absurd rfl h
 | one k o=>intro _;rfl
 | two l b x y p q hf _ _ h1 h2=>
  intro _
  have hs:=JfD l b
  obtain ⟨_,u,hu,v,hv,hne⟩:=hf
  have k0:side l b 0 ≠ []:=λe=>by
   have a1:u ∉ side l b 0:=by rw [e];simp
   have a2:v ∉ side l b 0:=by rw [e];simp
   unfold side at a1 a2
   rw [QN] at a1 a2
   have b1:=Xz u.1 b
   have b2:=Xz v.1 b
   simp only [hu,hv,true_and,decide_eq_true_eq] at a1 a2
   omega
  have k1:side l b 1 ≠ []:=λe=>by
   have a1:u ∉ side l b 1:=by rw [e];simp
   have a2:v ∉ side l b 1:=by rw [e];simp
   unfold side at a1 a2
   rw [QN] at a1 a2
   have b1:=Xz u.1 b
   have b2:=Xz v.1 b
   simp only [hu,hv,true_and,decide_eq_true_eq] at a1 a2
   omega
  have e1:=h1 k0
  have e2:=h2 k1
  simp only [Qe,Qp,Qv]
  omega
def Xf:List (List UInt8)->List (List UInt8)->List (List UInt8)
 | acc,[]=>acc
 | acc,x :: r=>Xf (if x∈acc then acc else acc++[x]) r
theorem Jax:∀(l acc:List (List UInt8)),acc.Nodup->(Xf acc l).Nodup/\∀x,x∈Xf acc l↔x∈acc\/x∈l
 | [],acc,h=>⟨h,λx=>by simp [Xf]⟩
 | y :: r,acc,h=>by
  rw [Xf]
  by_cases hy:y∈acc
  ·rw [if_pos hy]
   obtain ⟨h1,h2⟩:=Jax r acc h
   refine ⟨h1,λx=>?_⟩
   rw [h2,List.mem_cons]
   constructor
   ·rintro (h | h)
    ·exact .inl h
    ·exact .inr (.inr h)
   ·rintro (h | rfl | h)
    ·exact .inl h
    ·exact .inl hy
    ·exact .inr h
  ·rw [if_neg hy]
   obtain ⟨h1,h2⟩:=Jax r (acc++[y]) (List.nodup_append.2 ⟨h,by simp,λa ha b hb e=>hy (by rw [Qt] at hb;rw [<-hb,<-e];exact ha)⟩)
   refine ⟨h1,λx=>?_⟩
   rw [h2,QE,Qt,List.mem_cons]
   constructor
   ·rintro ((h | h) | h)
    ·exact .inl h
    ·exact .inr (.inl h)
    ·exact .inr (.inr h)
   ·rintro (h | h | h)
    ·exact .inl (.inl h)
    ·exact .inl (.inr h)
    ·exact .inr h
theorem Jil {α:Type}:∀(a b:List α),a.Nodup->b.Nodup->(∀x,x∈a↔x∈b)->a.length=b.length:=λ_ _ ha hb h=>((List.perm_ext_iff_of_nodup ha hb).2 h).length_eq
