import Derived.Test.YtighkdnooglfjaaGreatDoorLcIds2
import Derived.Test.YtighkdnooglfjaaGreatDoorLcIs
import Derived.Laws.AppendOwnNone
namespace Go.Proofs.YtighkdnooglfjaaGreatDoor
open Tryz
set_option maxRecDepth 100000
set_option maxHeartbeats 4000000
open Go.RowKit

variable {a:Act}{K:Act->World->Prop}{ops:Array Oper}{id:BA}{c:BA×Int}{o2:Bool}{Q:Exit->Act->World->Prop}{r:List (BA×Int)}{l l1 l2 now:List Held}{rest:List Oper}{X:List UInt8}{base cap g i u wj:Nat}{S:Nat->Prop}{o:Oper}{E:Prop}{v:Value}{w w':World}
theorem Jee(x y:Nat)(w:World):(callFunc 340 #[.int .u64 (x:Int),.int .u64 (y:Int),.int .u64 0]).run prog w =
  .ok (.value (.tuple #[.int .u64 (((x+y) % 18446744073709551616:Nat):Int),.int .u64 (((x+y)/18446744073709551616:Nat):Int)])) w:=by
 rw[run_callFunc_extern func340 (by kernel_rfl) (by kernel_rfl) (by kernel_rfl) (e:=add64Entry) (by kernel_rfl),run_add64 x y 0 (by omega) (by omega) (by omega) (by omega)];simp only[Result.andThen]
 congr 5<;>omega
theorem JhU(l:List (Nat×Nat))(k:Nat)(h:k<l.length):JP l (k+1)=JP l k+l[k].1:=by
 unfold JP;rw[QQ h];simp only[List.map_append,List.sum_append,List.map_cons,List.map_nil,List.sum_cons,List.sum_nil];omega
theorem JlR(l:List (Nat×Nat))(k:Nat):JP l k<=JP l l.length:=by
 unfold JP;rw[List.take_length]
 conv=>rhs;rw[<-List.take_append_drop k l]
 simp only[List.map_append,List.sum_append];omega
theorem JfJ(x y:Nat)(h:x+y<18446744073709551616)(w:World):(callFunc 340 #[.int .u64 (x:Int),.int .u64 (y:Int),.int .u64 0]).run prog w =
  .ok (.value (.tuple #[.int .u64 ((x+y:Nat):Int),.int .u64 0])) w:=by
 rw[Jee,Nat.mod_eq_of_lt h,Nat.div_eq_of_lt h];rfl
theorem JiI(x y:Nat)(hx:x<18446744073709551616)(hy:y<18446744073709551616)(h:18446744073709551616<=x+y):∃z:Int,∀w:World,(callFunc 340 #[.int .u64 (x:Int),.int .u64 (y:Int),.int .u64 0]).run prog w =
  .ok (.value (.tuple #[.int .u64 z,.int .u64 1])) w:=by
 refine⟨(((x+y) % 18446744073709551616:Nat):Int),λw=>?_⟩;rw[Jee,show (x+y)/18446744073709551616=1 by omega];rfl
theorem Jj2(E:Nat->Addr)(gi oi c:Nat)(l:List (Nat×Nat))(hc:l.length<1000000)(hsm:∀x∈l,x.1<18446744073709551616)(w:World)(hE:Env E w)(hgi:gi<w.heap.size)(h1:∀i (h:i<l.length),w.cell? ⟨gi,oi+i*2,none⟩=some (.int .u64 ((l[i].1:Nat):Int))/\w.cell? ⟨gi,oi+i*2+1,none⟩=some (.int .u8 ((l[i].2:Nat):Int))):
  Calls prog 285 #[.slice (some ⟨gi,oi,none⟩) l.length c] w λe w'=>Tch NoB w w'/\((JP l l.length<18446744073709551616/\e=.returned (.tuple #[.int .u64 ((JP l l.length:Nat):Int),.nilIface]))\/(18446744073709551616<=JP l l.length/\e=.returned (.tuple #[.int .u64 0,eV E 3]))):=by
 have HSM:Hid _:=hsm;have HE:Hid _:=hE;have H1:Hid _:=h1;have HQ:Hid (JP l l.length<18446744073709551616\/18446744073709551616<=JP l l.length):=Nat.lt_or_ge _ _;go_enter func285,ntmps285;go_wp2;go_loopw [4,10] (λs i wr=>∃k:Nat,k<=l.length/\s=.int .u64 ((JP l k:Nat):Int)/\i=.int .i64 k/\Hid (JP l k<18446744073709551616)/\Hid (Tch NoB w wr)) (λ_ i _=>l.length-(intOf i).toNat)
 case atStart=>exact⟨0,by omega,rfl,rfl,(by decide:(0:Nat)<18446744073709551616),Te _ w⟩
 case round=>
  obtain⟨k,hk,rfl,rfl,hS,hT⟩:=hrel
  by_cases hlt:k<l.length
  ·obtain⟨f0,f1⟩:=H1 k hlt;have c0:=(hT.cell (p:=⟨gi,oi+k*2,none⟩) hgi (λh=>h)).trans f0;have c1:=(hT.cell (p:=⟨gi,oi+k*2+1,none⟩) hgi (λh=>h)).trans f1;have hlti:(k:Int)<(l.length:Int):=(by omega);have hy:Hid _:=HSM _ (Qx hlt);have HN:Hid (JP l (k+1)=JP l k+l[k].1):=JhU l k hlt;have HFK:Hid (JP l k+l[k].1<18446744073709551616\/18446744073709551616<=JP l k+l[k].1):=Nat.lt_or_ge _ _;generalize l[k].1=y at *;generalize (l[k].2)=z at *
   rcases HFK.o with hs|hs
   ·have ha:=JfJ (JP l k) y hs;have HSL:Hid _:=hs;generalize JP l k=S at *;go_wp2;go_roundw
    case rel=>exact⟨k+1,by omega,by rw[HN.o,Int.natCast_add],by go_num,by rw[HN.o];exact HSL,hT.trans (Ta NoB _ _) noE⟩
    case measure=>simp[intOf];omega
   ·obtain⟨zz,ha⟩:=JiI (JP l k) y hS.out hy.out hs;have HSL:Hid (18446744073709551616<=JP l (k+1)):=(by rw[HN.o];exact hs:18446744073709551616<=JP l (k+1))
    have hsum:=(HE.tch (hT.trans (Ta NoB _ (.cells #[.int .u64 (y:Int),.int .u8 (z:Int)] 80)) noE) noE).sum;generalize JP l k=S at *;have TL:Hid _:=hT.trans (Ta NoB wr (.cells #[.int .u64 (y:Int),.int .u8 (z:Int)] 80)) noE;go_wp2;go_region
    all_goals go_wp2
    all_goals go_ret2
    all_goals exact⟨TL.trans (Td NoB _ 1) noE,.inr ⟨Qm HSL (JlR l (k+1)),rfl⟩⟩
  ·have HK:Hid (k=l.length):=(by omega:k=l.length)
   have hge:¬(k:Int)<(l.length:Int):=(by omega);generalize hSS:JP l k=S at *;have HSS:Hid _:=hSS;go_wp2;go_ret2;have e:JP l l.length=S:=(by rw[<-HK.o];exact HSS.o);exact⟨hT,.inl ⟨by rw[e];exact hS,by rw[e];rfl⟩⟩
theorem Jj1(w:World):
  Calls prog 285 #[.slice none 0 0] w λe w'=>e=.returned (.tuple #[.int .u64 0,.nilIface])/\w=w':=by
 go_enter func285,ntmps285;go_wp2;go_loopw [4,10] (λs i wr=>s=.int .u64 0/\i=.int .i64 0/\wr=w) (λ_ _ _=>0)
 case atStart=>exact⟨rfl,rfl,rfl⟩
 case round=>obtain⟨rfl,rfl,rfl⟩:=hrel;go_wp2;go_ret2;exact⟨rfl,rfl⟩
theorem JeK(E:Nat->Addr)(B:Nat)(v:Value)(l:List (Nat×Nat))(hc:l.length<1000000)(hsm:∀x∈l,x.1<18446744073709551616)(w:World)(hE:Env E w)(h:Jq B w v l):
  Calls prog 285 #[v] w λe w'=>Tch NoB w w'/\((JP l l.length<18446744073709551616/\e=.returned (.tuple #[.int .u64 ((JP l l.length:Nat):Int),.nilIface]))\/(18446744073709551616<=JP l l.length/\e=.returned (.tuple #[.int .u64 0,eV E 3]))):=by
 rcases h with⟨rfl,rfl⟩|⟨gi,oi,c,rfl,_,h2,h3⟩
 ·refine(Jj1 w).mono ?_;rintro _ _⟨rfl,rfl⟩;exact⟨Te _ _,.inl ⟨by decide,rfl⟩⟩
 ·exact Jj2 E gi oi c l hc hsm w hE h2 h3

theorem JdR(E:Nat->Addr)(B:Nat)(v1 v2:Value)(l1 l2:List (Nat×Nat))(hc1:l1.length<1000000)(hc2:l2.length<1000000)(hs1:∀x∈l1,x.1<18446744073709551616)(hs2:∀x∈l2,x.1<18446744073709551616)(w:World)(hE:Env E w)(h1:Jq B w v1 l1)(h2:Jq B w v2 l2):
  Calls Tryz.prog 208 #[v1,v2] w λe w'=>Tch NoB w w'/\((¬XF l1 l2/\e=.returned .nilIface)\/(XF l1 l2/\∃v,e=.returned v/\Jp E 3 w' v)):=by
 obtain⟨ia1,ic1,hv1⟩:=h1.shape;obtain⟨ia2,ic2,hv2⟩:=h2.shape;have HT1:Hid (Calls _ _ _ _ _):=JeK E B v1 l1 hc1 hs1 w hE h1;have HT2:Hid (∀W,Tch NoB w W->_):=λW hW=>JeK E B v2 l2 hc2 hs2 W (hE.tch hW noE) (h2.tch hW noE);have HE:Hid _:=hE;subst hv1 hv2;go_enter Tryz.func208,Tryz.ntmps208;go_wp2_with fail;refine HT1.o.mono ?_;rintro _ w1⟨ht1,⟨ha,rfl⟩|⟨ha,rfl⟩⟩
 ·have K1:Hid _:=ht1;have HA:Hid _:=ha;generalize hS1:JP l1 l1.length=S1 at *;have HS1:Hid _:=hS1;go_wp2_with fail;refine(HT2 w1 K1).mono ?_;rintro _ w2⟨ht2,⟨hb,rfl⟩|⟨hb,rfl⟩⟩
  ·have K2:Hid _:=K1.trans ht2 noE;have HB:Hid _:=hb;generalize hS2:JP l2 l2.length=S2 at *;have HS2:Hid _:=hS2;have hsum:=(HE.tch K2 noE).sum
   by_cases hlt:S1<S2
   ·have hlti:(S1:Int)<(S2:Int):=(by omega);go_wp2_with fail;refine(Xl _ _ _ _).mono ?_;rintro _ _⟨rfl,rfl⟩;go_wp2;go_ret;exact⟨K2.trans (Ta NoB _ _) noE,.inr ⟨.inr (.inr (by rw[HS1.o,HS2.o];exact hlt)),_,rfl,.wrap _ _ _ (Qf _ _) .base⟩⟩
   ·have hlti:¬(S1:Int)<(S2:Int):=(by omega);go_wp2;go_ret;have q1:=HA.o;have q2:=HB.o;exact⟨K2,.inl ⟨by unfold XF;rw[HS1.o,HS2.o];omega,rfl⟩⟩
  ·have K2:Hid _:=K1.trans ht2 noE;have HB:Hid _:=hb;go_wp2_with fail;refine(Xl _ _ _ _).mono ?_;rintro _ _⟨rfl,rfl⟩;go_wp2;go_ret;exact⟨K2.trans (Ta NoB _ _) noE,.inr ⟨.inr (.inl HB),_,rfl,.wrap _ _ _ (Qf _ _) .base⟩⟩
 ·have K1:Hid _:=ht1;have HA:Hid _:=ha;go_wp2_with fail;refine(Xl _ _ _ _).mono ?_;rintro _ _⟨rfl,rfl⟩;go_wp2;go_ret;exact⟨K1.trans (Ta NoB _ _) noE,.inr ⟨.inl HA,_,rfl,.wrap _ _ _ (Qf _ _) .base⟩⟩

def Jc6(h:Held):List Value:=[.string h.1.1,.int .i64 h.1.2,.int .u64 ((h.2.1:Nat):Int),.int .u8 ((h.2.2:Nat):Int)]
def Yd(l:List Held):List Value:=l.flatMap Jc6
theorem Jbv(l:List Held):(Yd l).length=l.length*4:=by
 induction l with
 | nil=>rfl
 | cons x r ih=>simp only[Yd,QG,Qe]at ih ⊢;rw[ih];simp[Jc6];omega
theorem Jjc(l:List Held):∀u∈Yd l,u.oneCell'=true:=by
 intro u hu;simp only[Yd,List.mem_flatMap,Jc6]at hu;obtain⟨x,_,hu⟩:=hu;simp only[List.mem_cons,QD,or_false]at hu
 rcases hu with rfl|rfl|rfl|rfl<;>rfl
theorem Je2(l l':List Held):Yd (l++l')=Yd l++Yd l':=by simp[Yd]
theorem Jen(l:List Held):∀(i:Nat)(h:i<l.length),(Yd l)[i*4]? =some (.string l[i].1.1)/\(Yd l)[i*4+1]? =some (.int .i64 l[i].1.2)/\(Yd l)[i*4+2]? =some (.int .u64 ((l[i].2.1:Nat):Int))/\(Yd l)[i*4+3]? =some (.int .u8 ((l[i].2.2:Nat):Int)):=by
 induction l with
 | nil=>intro i h;simp at h
 | cons x r ih=>
  intro i h
  cases i with
  | zero=>simp[Yd,Jc6]
  | succ i=>
   have:=ih i (by simpa using h);have e:∀j,(Yd (x::r))[(i+1)*4+j]? =(Yd r)[i*4+j]? :=by
    intro j;show (Jc6 x++Yd r)[(i+1)*4+j]? =_;rw[Qz (by simp[Jc6];omega)]
    congr 1;simp[Jc6];omega
   refine⟨?_,?_,?_,?_⟩
   ·have:=e 0;rw[Nat.add_zero,Nat.add_zero]at this;rw[this];simpa using (ih i (by simpa using h)).1
   ·rw[e 1];simpa using (ih i (by simpa using h)).2.1
   ·rw[e 2];simpa using (ih i (by simpa using h)).2.2.1
   ·rw[e 3];simpa using (ih i (by simpa using h)).2.2.2
theorem JR.cells{o:Nat}(h:∀i (h:i<l.length),w.cell? ⟨g,o+i*4,none⟩=some (.string l[i].1.1)/\w.cell? ⟨g,o+i*4+1,none⟩=some (.int .i64 l[i].1.2)/\w.cell? ⟨g,o+i*4+2,none⟩=some (.int .u64 ((l[i].2.1:Nat):Int))/\w.cell? ⟨g,o+i*4+3,none⟩=some (.int .u8 ((l[i].2.2:Nat):Int))):
  ∀j u,(Yd l)[j]? =some u->w.cell? (Addr.add ⟨g,o,none⟩ j)=some u:=by
 intro j u hu;have hj:j<l.length*4:=by have:=(Qo.1 hu).1;rw[Jbv]at this;exact this
 obtain⟨e0,e1,e2,e3⟩:=Jen l (j/4) (by omega);obtain⟨f0,f1,f2,f3⟩:=h (j/4) (by omega);rw[Addr.add_lit];obtain hm|hm|hm|hm:j % 4=0\/j % 4=1\/j % 4=2\/j % 4=3:=by omega
 ·rw[show j/4*4=j by omega]at e0;rw[show o+j/4*4=o+j by omega]at f0;rw[f0,<-e0,hu]
 ·rw[show j/4*4+1=j by omega]at e1;rw[show o+j/4*4+1=o+j by omega]at f1;rw[f1,<-e1,hu]
 ·rw[show j/4*4+2=j by omega]at e2;rw[show o+j/4*4+2=o+j by omega]at f2;rw[f2,<-e2,hu]
 ·rw[show j/4*4+3=j by omega]at e3;rw[show o+j/4*4+3=o+j by omega]at f3;rw[f3,<-e3,hu]
def HOwn(base:Nat)(w:World)(v:Value)(l:List Held):Prop:=w.ownsRow base 87 4 v l.length (Yd l)
theorem HOwn.nil(base:Nat)(w:World):HOwn base w (.slice none 0 0) []:=⟨rfl,.inl ⟨rfl,rfl⟩⟩
theorem HOwn.at(h:HOwn base w v l):JR w v l:=by
 obtain⟨_,⟨rfl,h0⟩|⟨g,cap,cur,rfl,_,hrow,_,_,hsz,htake⟩⟩:=h
 ·exact .inl ⟨rfl,QO h0⟩
 ·refine .inr ⟨g,0,cap,rfl,(Jb hrow),λi hi=>?_⟩;obtain⟨e0,e1,e2,e3⟩:=Jen l i hi;have hc:∀j u,(Yd l)[j]? =some u->w.cell? ⟨g,0+j,none⟩=some u:=by
   intro j u hu;rw[<-htake]at hu;have hj:=(Qo.1 hu).1;rw[List.getElem?_take_of_lt (by rw[QB]at hj;omega)]at hu;rw[Ja hrow,Nat.zero_add,<-Array.getElem?_toList];exact hu
  exact⟨hc _ _ e0,hc _ _ e1,hc _ _ e2,hc _ _ e3⟩
theorem HOwn.own(h:HOwn base w v l):∀k,v.ownBlock=some k->base<=k/\k<w.heap.size:=by
 obtain⟨_,⟨rfl,h0⟩|⟨g,cap,cur,rfl,hb,hrow,_⟩⟩:=h
 ·intro k hk;cases hk
 ·intro k hk;cases hk;exact⟨hb,(Jb hrow)⟩
theorem HOwn.tch(h:HOwn base w v l)(k:Tch S w w')(hs:∀j,v.ownBlock=some j->¬S j):HOwn base w' v l:=by
 obtain⟨h1,⟨rfl,h0⟩|⟨g,cap,cur,rfl,hb,hrow,h2⟩⟩:=h
 ·exact⟨h1,.inl ⟨rfl,h0⟩⟩
 ·exact⟨h1,.inr ⟨g,cap,cur,rfl,hb,(k.block g (Jb hrow) (hs g rfl)).trans hrow,h2⟩⟩
theorem HOwn.grow{W:World}(h:HOwn base w v l)(hg:w.grownBy w' v.ownBlock)(hW:W.heap.size<=base)(k:Tch NoB W w):Tch NoB W w':=
 k.trans (Tg hg) (λj hj=>by
  have:=(h.own j hj.symm).1;exact .inr (by omega))
theorem Jje:(prog.info? 87).map (λi=>(i.zero,i.size,i.bytes))=some (some (.agg #[.string ⟨#[]⟩,.int .i64 0,.int .u64 0,.int .u8 0]),4,40):=by kernel_rfl
theorem Yn(h:HOwn base w v l)(x:Value)(l2:List Held)(hx:JR w x l2)(ty:TypeId)(hb:l.length+l2.length<=1000000000)(hbase:base<=w.heap.size):
  ∃v' w',(Builtin.append_ #[43,43] ty #[v,x]).run prog w=.ok v' w'/\HOwn base w' v' (l++l2)/\w.grownBy w' v.ownBlock:=by
 obtain⟨i,hi,hp⟩:=Option.map_eq_some_iff.1 Jje;simp only[Qw]at hp;obtain⟨hz,hsz,hby⟩:=hp
 rcases hx with⟨rfl,rfl⟩|⟨g,o,c,rfl,hg,hcell⟩
 ·exact⟨v,w,run_append_owned_none (P:=prog) (w:=w) base 43 ty 87 i 4 underlying43 hi v l.length (Yd l) h,by rw[QC];exact h,World.grownBy.refl _ _⟩
 ·obtain⟨v',w',hr,h2,h3,h4⟩:=run_append_own (P:=prog) w base 43 ty 87 i _ 4 40 underlying43 hi hz hsz hby rfl (by omega) v l.length (Yd l) h ⟨g,o,none⟩ l2.length c (Yd l2) (Jbv l2) (JR.cells hcell) (Jjc l2) (by simp only[maxLen];omega) (by omega) hbase;exact⟨v',w',hr,by unfold HOwn;rw[Qe,Je2];exact h2,h3⟩
theorem XA(hgd:o.guard=none)(s x:Operand)
 (ho:o.op=.call { callee:=.builtin .append,args:= #[s,x],argTypes:= #[43,43] })
 (hv:a.eval s=v) (h:HOwn base w v l) (xv:Value) (l2:List Held) (hx:a.eval x=xv) (hs:JR w xv l2) (hb:l.length+l2.length<=1000000000) (hbase:base<=w.heap.size)
 (hK:∀v' w',HOwn base w' v' (l++l2)->w.grownBy w' v.ownBlock->wpList prog ops Q rest (a.put o.dst v') w'):wpList prog ops Q (o::rest) a w:=by
 refine wpList_plain hgd λK hK'=>?_;obtain⟨v',w',hrun,r,r2⟩:=Yn h xv l2 hs o.type hb hbase;unfold Oper.wp;simp[execOp,ho,resolve,invoke,builtin,hv,hx,hrun,Result.andThen];exact hK' _ _ (hK v' w' r r2)
theorem Jcg 
 (hgd:o.guard=none) (s x:Operand) (ho:o.op=.call { callee:=.builtin .append,args:= #[s,x],argTypes:= #[43,43] })
 (hv:a.eval s=v) (h:HOwn base w v l) (xv:Value) (l2:List Held) (hx:a.eval x=xv) (hs:JR w xv l2) (hb:l.length+l2.length<=1000000000) (hbase:base<=w.heap.size)
 (hK:∀v' w',HOwn base w' v' (l++l2)->w.grownBy w' v.ownBlock->K (a.put o.dst v') w'):
  if Region.wanted o (yielded ops a.tmps)=true then Oper.wp prog o a w K Q else E:=by
 have hw:Region.wanted o (yielded ops a.tmps)=true:=by simp[Region.wanted,hgd]
 rw[if_pos hw];obtain⟨v',w',hrun,r,r2⟩:=Yn h xv l2 hs o.type hb hbase;unfold Oper.wp;simp[execOp,ho,resolve,invoke,builtin,hv,hx,hrun,Result.andThen];exact hK v' w' r r2
def Yi(w:World)(v:Value)(l:List Held):Prop:=JR w v l/\∀j,v.ownBlock=some j->∃cur m,w.heap[j]? =some (.cells cur 87 m)
theorem HOwn.t(h:HOwn base w v l):Yi w v l:=by
 refine⟨h.at,?_⟩;obtain⟨_,⟨rfl,h0⟩|⟨g,cap,cur,rfl,hb,hrow,_⟩⟩:=h
 ·intro k hk;cases hk
 ·intro k hk;cases hk;exact⟨cur,_,hrow⟩
theorem Yi.tch(h:Yi w v l)(k:Tch S w w')(hs:∀j,v.ownBlock=some j->¬S j):Yi w' v l:=by
 obtain⟨h1,h2⟩:=h;refine⟨?_,λj hj=>?_⟩
 ·rcases h1 with h|⟨gi,oi,c,rfl,hl,h3⟩
  ·exact .inl h
  ·refine .inr ⟨gi,oi,c,rfl,Qk hl k.size,λi hi=>?_⟩;have hc:∀o,w'.cell? ⟨gi,o,none⟩=w.cell? ⟨gi,o,none⟩:=λo=>k.cell (p:=⟨gi,o,none⟩) hl (hs gi rfl);rw[hc,hc,hc,hc];exact h3 i hi
 ·obtain⟨cur,m,hr⟩:=h2 j hj;exact⟨cur,m,(k.block j (Jb hr) (hs j hj)).trans hr⟩
theorem HOwn.shape(h:HOwn base w v l):∃a c,v=.slice a l.length c:=h.at.shape

def Jc0(h:BA×Int):List Value:=[.string h.1,.int .i64 h.2]
def XW(l:List (BA×Int)):List Value:=l.flatMap Jc0
theorem Zf(l:List (BA×Int)):(XW l).length=l.length*2:=by
 induction l with
 | nil=>rfl
 | cons x r ih=>simp only[XW,QG,Qe]at ih ⊢;rw[ih];simp[Jc0];omega
theorem JiT(l:List (BA×Int)):∀u∈XW l,u.oneCell'=true:=by
 intro u hu;simp only[XW,List.mem_flatMap,Jc0]at hu;obtain⟨x,_,hu⟩:=hu;simp only[List.mem_cons,QD,or_false]at hu
 rcases hu with rfl|rfl<;>rfl
theorem Jbs(l l':List (BA×Int)):XW (l++l')=XW l++XW l':=by simp[XW]
theorem Jeh(l:List (BA×Int)):∀(i:Nat)(h:i<l.length),(XW l)[i*2]? =some (.string l[i].1)/\(XW l)[i*2+1]? =some (.int .i64 l[i].2):=by
 induction l with
 | nil=>intro i h;simp at h
 | cons x r ih=>
  intro i h
  cases i with
  | zero=>simp[XW,Jc0]
  | succ i=>
   have e:∀j,(XW (x::r))[(i+1)*2+j]? =(XW r)[i*2+j]? :=by
    intro j;show (Jc0 x++XW r)[(i+1)*2+j]? =_;rw[Qz (by simp[Jc0];omega)]
    congr 1;simp[Jc0];omega
   refine⟨?_,?_⟩
   ·have:=e 0;rw[Nat.add_zero,Nat.add_zero]at this;rw[this];simpa using (ih i (by simpa using h)).1
   ·rw[e 1];simpa using (ih i (by simpa using h)).2
theorem JD.cells{o:Nat}{l:List (BA×Int)}(h:∀i (h:i<l.length),w.cell? ⟨g,o+i*2,none⟩=some (.string l[i].1)/\w.cell? ⟨g,o+i*2+1,none⟩=some (.int .i64 l[i].2)):
  ∀j u,(XW l)[j]? =some u->w.cell? (Addr.add ⟨g,o,none⟩ j)=some u:=by
 intro j u hu;have hj:j<l.length*2:=by have:=(Qo.1 hu).1;rw[Zf]at this;exact this
 obtain⟨e0,e1⟩:=Jeh l (j/2) (by omega);obtain⟨f0,f1⟩:=h (j/2) (by omega);rw[Addr.add_lit];obtain hm|hm:j % 2=0\/j % 2=1:=by omega
 ·rw[show j/2*2=j by omega]at e0;rw[show o+j/2*2=o+j by omega]at f0;rw[f0,<-e0,hu]
 ·rw[show j/2*2+1=j by omega]at e1;rw[show o+j/2*2+1=o+j by omega]at f1;rw[f1,<-e1,hu]
def COwn(base:Nat)(w:World)(v:Value)(l:List (BA×Int)):Prop:=w.ownsRow base 49 2 v l.length (XW l)
theorem COwn.nil(base:Nat)(w:World):COwn base w (.slice none 0 0) []:=⟨rfl,.inl ⟨rfl,rfl⟩⟩
theorem COwn.at{l:List (BA×Int)}(h:COwn base w v l):JD w.heap.size w v l:=by
 obtain⟨_,⟨rfl,h0⟩|⟨g,cap,cur,rfl,_,hrow,_,_,hsz,htake⟩⟩:=h
 ·exact .inl ⟨rfl,QO h0⟩
 ·have hlt:=(Jb hrow)
  refine .inr ⟨g,0,cap,rfl,hlt,hlt,λi hi=>?_⟩;obtain⟨e0,e1⟩:=Jeh l i hi;have hc:∀j u,(XW l)[j]? =some u->w.cell? ⟨g,0+j,none⟩=some u:=by intro j u hu;rw[<-htake]at hu;have hj:=(Qo.1 hu).1;rw[List.getElem?_take_of_lt (by rw[QB]at hj;omega)]at hu;rw[Ja hrow,Nat.zero_add,<-Array.getElem?_toList];exact hu
  exact⟨hc _ _ e0,hc _ _ e1⟩
theorem COwn.own{l:List (BA×Int)}(h:COwn base w v l):∀k,v.ownBlock=some k->base<=k/\k<w.heap.size:=by
 obtain⟨_,⟨rfl,h0⟩|⟨g,cap,cur,rfl,hb,hrow,_⟩⟩:=h
 ·intro k hk;cases hk
 ·intro k hk;cases hk;exact⟨hb,(Jb hrow)⟩
theorem COwn.tch{l:List (BA×Int)}(h:COwn base w v l)(k:Tch S w w')(hs:∀j,v.ownBlock=some j->¬S j):COwn base w' v l:=by
 obtain⟨h1,⟨rfl,h0⟩|⟨g,cap,cur,rfl,hb,hrow,h2⟩⟩:=h
 ·exact⟨h1,.inl ⟨rfl,h0⟩⟩
 ·exact⟨h1,.inr ⟨g,cap,cur,rfl,hb,(k.block g (Jb hrow) (hs g rfl)).trans hrow,h2⟩⟩
theorem COwn.shape{l:List (BA×Int)}(h:COwn base w v l):∃a c,v=.slice a l.length c:=h.at.shape
theorem COwn.shape3{l:List (BA×Int)}(h:COwn base w v l):∃a m c,v=.slice a m c:=by
 obtain⟨a,c,h⟩:=h.shape;exact⟨a,_,c,h⟩
theorem COwn.take{a:Option Addr}{n c:Nat}{l:List (BA×Int)}(h:COwn base w (.slice a n c) l)(k:Nat)(hk:k<=n):COwn base w (.slice a k c) (l.take k):=by
 obtain⟨h1,⟨hv,h0⟩|⟨g,cap,cur,hv,hb,hrow,hcap,hm,hsz,htake⟩⟩:=h
 ·cases hv
  obtain rfl:k=0:=by omega
  exact⟨by simp[XW],.inl ⟨rfl,by simp⟩⟩
 ·cases hv
  have hl:(l.take k).length=k:=by rw[QB];omega
  refine⟨Zf _,.inr ⟨g,c,cur,by rw[hl],hb,hrow,by rw[hl];omega,hm,hsz,?_⟩⟩;rw[hl];have e:XW (l.take k)=(XW l).take (k*2):=by
   conv=>rhs;rw[<-List.take_append_drop k l,Jbs]
   rw[List.take_left' (by rw[Zf,hl])]
  rw[e,<-htake,List.take_take,Nat.min_eq_left (Nat.mul_le_mul_right _ hk)]
theorem Jjd:(prog.info? 49).map (λi=>(i.zero,i.size,i.bytes))=some (some (.agg #[.string ⟨#[]⟩,.int .i64 0]),2,24):=by kernel_rfl
theorem Jaq{l:List (BA×Int)}(h:COwn base w v l)(x:Value)(B:Nat)(l2:List (BA×Int))(hx:JD B w x l2)(ty:TypeId)(hb:l.length+l2.length<=1000000000)(hbase:base<=w.heap.size):
  ∃v' w',(Builtin.append_ #[96,96] ty #[v,x]).run prog w=.ok v' w'/\COwn base w' v' (l++l2)/\w.grownBy w' v.ownBlock:=by
 obtain⟨i,hi,hp⟩:=Option.map_eq_some_iff.1 Jjd;simp only[Qw]at hp;obtain⟨hz,hsz,hby⟩:=hp
 rcases hx with⟨rfl,rfl⟩|⟨g,o,c,rfl,_,hg,hcell⟩
 ·exact⟨v,w,run_append_owned_none (P:=prog) (w:=w) base 96 ty 49 i 2 underlying96 hi v l.length (XW l) h,by rw[QC];exact h,World.grownBy.refl _ _⟩
 ·obtain⟨v',w',hr,h2,h3,h4⟩:=run_append_own (P:=prog) w base 96 ty 49 i _ 2 24 underlying96 hi hz hsz hby rfl (by omega) v l.length (XW l) h ⟨g,o,none⟩ l2.length c (XW l2) (Zf l2) (JD.cells hcell) (JiT l2) (by simp only[maxLen];omega) (by omega) hbase;exact⟨v',w',hr,by unfold COwn;rw[Qe,Jbs];exact h2,h3⟩
theorem Jbm(hgd:o.guard=none)(s x:Operand)
 (ho:o.op=.call { callee:=.builtin .append,args:= #[s,x],argTypes:= #[96,96] })
 {l:List (BA×Int)} (hv:a.eval s=v) (h:COwn base w v l) (xv:Value) (B:Nat) (l2:List (BA×Int)) (hx:a.eval x=xv) (hs:JD B w xv l2) (hb:l.length+l2.length<=1000000000) (hbase:base<=w.heap.size)
 (hK:∀v' w',COwn base w' v' (l++l2)->w.grownBy w' v.ownBlock->wpList prog ops Q rest (a.put o.dst v') w'):wpList prog ops Q (o::rest) a w:=by
 refine wpList_plain hgd λK hK'=>?_;obtain⟨v',w',hrun,r,r2⟩:=Jaq h xv B l2 hs o.type hb hbase;unfold Oper.wp;simp[execOp,ho,resolve,invoke,builtin,hv,hx,hrun,Result.andThen];exact hK' _ _ (hK v' w' r r2)
theorem ZX 
 (hgd:o.guard=none) (s x:Operand) (ho:o.op=.call { callee:=.builtin .append,args:= #[s,x],argTypes:= #[96,96] })
 {l:List (BA×Int)} (hv:a.eval s=v) (h:COwn base w v l) (xv:Value) (B:Nat) (l2:List (BA×Int)) (hx:a.eval x=xv) (hs:JD B w xv l2) (hb:l.length+l2.length<=1000000000) (hbase:base<=w.heap.size)
 (hK:∀v' w',COwn base w' v' (l++l2)->w.grownBy w' v.ownBlock->K (a.put o.dst v') w'):
  if Region.wanted o (yielded ops a.tmps)=true then Oper.wp prog o a w K Q else E:=by
 have hw:Region.wanted o (yielded ops a.tmps)=true:=by simp[Region.wanted,hgd]
 rw[if_pos hw];obtain⟨v',w',hrun,r,r2⟩:=Jaq h xv B l2 hs o.type hb hbase;unfold Oper.wp;simp[execOp,ho,resolve,invoke,builtin,hv,hx,hrun,Result.andThen];exact hK v' w' r r2
theorem Jdf(W:World)(c:BA×Int):JD (W.heap.size+1) (W.alloc (.cells #[.string c.1,.int .i64 c.2] 49)) (.slice (some ⟨W.heap.size,0,none⟩) 1 1) [c]:=by
 refine .inr ⟨W.heap.size,0,1,rfl,by omega,by simp,λi hi=>?_⟩;obtain rfl:i=0:=by simpa using hi
 have hrow:=Qf W (.cells #[.string c.1,.int .i64 c.2] 49);exact⟨Ja hrow,Ja hrow⟩

def outC(h:Nat×Nat):List Value:=[.int .u64 ((h.1:Nat):Int),.int .u8 ((h.2:Nat):Int)]
def outV(l:List (Nat×Nat)):List Value:=l.flatMap outC
theorem Jcs(l:List (Nat×Nat)):(outV l).length=l.length*2:=by
 induction l with
 | nil=>rfl
 | cons x r ih=>simp only[outV,QG,Qe]at ih ⊢;rw[ih];simp[outC];omega
theorem Jlm(l:List (Nat×Nat)):∀u∈outV l,u.oneCell'=true:=by
 intro u hu;simp only[outV,List.mem_flatMap,outC]at hu;obtain⟨x,_,hu⟩:=hu;simp only[List.mem_cons,QD,or_false]at hu
 rcases hu with rfl|rfl<;>rfl
theorem JgB(l l':List (Nat×Nat)):outV (l++l')=outV l++outV l':=by simp[outV]
theorem JgC(l:List (Nat×Nat)):∀(i:Nat)(h:i<l.length),(outV l)[i*2]? =some (.int .u64 ((l[i].1:Nat):Int))/\(outV l)[i*2+1]? =some (.int .u8 ((l[i].2:Nat):Int)):=by
 induction l with
 | nil=>intro i h;simp at h
 | cons x r ih=>
  intro i h
  cases i with
  | zero=>simp[outV,outC]
  | succ i=>
   have e:∀j,(outV (x::r))[(i+1)*2+j]? =(outV r)[i*2+j]? :=by
    intro j;show (outC x++outV r)[(i+1)*2+j]? =_;rw[Qz (by simp[outC];omega)]
    congr 1;simp[outC];omega
   refine⟨?_,?_⟩
   ·have:=e 0;rw[Nat.add_zero,Nat.add_zero]at this;rw[this];simpa using (ih i (by simpa using h)).1
   ·rw[e 1];simpa using (ih i (by simpa using h)).2
theorem Jq.cells{o:Nat}{l:List (Nat×Nat)}(h:∀i (h:i<l.length),w.cell? ⟨g,o+i*2,none⟩=some (.int .u64 ((l[i].1:Nat):Int))/\w.cell? ⟨g,o+i*2+1,none⟩=some (.int .u8 ((l[i].2:Nat):Int))):
  ∀j u,(outV l)[j]? =some u->w.cell? (Addr.add ⟨g,o,none⟩ j)=some u:=by
 intro j u hu;have hj:j<l.length*2:=by have:=(Qo.1 hu).1;rw[Jcs]at this;exact this
 obtain⟨e0,e1⟩:=JgC l (j/2) (by omega);obtain⟨f0,f1⟩:=h (j/2) (by omega);rw[Addr.add_lit];obtain hm|hm:j % 2=0\/j % 2=1:=by omega
 ·rw[show j/2*2=j by omega]at e0;rw[show o+j/2*2=o+j by omega]at f0;rw[f0,<-e0,hu]
 ·rw[show j/2*2+1=j by omega]at e1;rw[show o+j/2*2+1=o+j by omega]at f1;rw[f1,<-e1,hu]
def OOwn(base:Nat)(w:World)(v:Value)(l:List (Nat×Nat)):Prop:=w.ownsRow base 80 2 v l.length (outV l)
theorem OOwn.nil(base:Nat)(w:World):OOwn base w (.slice none 0 0) []:=⟨rfl,.inl ⟨rfl,rfl⟩⟩
theorem OOwn.at{l:List (Nat×Nat)}(h:OOwn base w v l):Jq w.heap.size w v l:=by
 obtain⟨_,⟨rfl,h0⟩|⟨g,cap,cur,rfl,_,hrow,_,_,hsz,htake⟩⟩:=h
 ·exact .inl ⟨rfl,QO h0⟩
 ·have hlt:=(Jb hrow)
  refine .inr ⟨g,0,cap,rfl,hlt,hlt,λi hi=>?_⟩;obtain⟨e0,e1⟩:=JgC l i hi;have hc:∀j u,(outV l)[j]? =some u->w.cell? ⟨g,0+j,none⟩=some u:=by intro j u hu;rw[<-htake]at hu;have hj:=(Qo.1 hu).1;rw[List.getElem?_take_of_lt (by rw[QB]at hj;omega)]at hu;rw[Ja hrow,Nat.zero_add,<-Array.getElem?_toList];exact hu
  exact⟨hc _ _ e0,hc _ _ e1⟩
theorem OOwn.own{l:List (Nat×Nat)}(h:OOwn base w v l):∀k,v.ownBlock=some k->base<=k/\k<w.heap.size:=by
 obtain⟨_,⟨rfl,h0⟩|⟨g,cap,cur,rfl,hb,hrow,_⟩⟩:=h
 ·intro k hk;cases hk
 ·intro k hk;cases hk;exact⟨hb,(Jb hrow)⟩
theorem OOwn.tch{l:List (Nat×Nat)}(h:OOwn base w v l)(k:Tch S w w')(hs:∀j,v.ownBlock=some j->¬S j):OOwn base w' v l:=by
 obtain⟨h1,⟨rfl,h0⟩|⟨g,cap,cur,rfl,hb,hrow,h2⟩⟩:=h
 ·exact⟨h1,.inl ⟨rfl,h0⟩⟩
 ·exact⟨h1,.inr ⟨g,cap,cur,rfl,hb,(k.block g (Jb hrow) (hs g rfl)).trans hrow,h2⟩⟩
theorem OOwn.shape{l:List (Nat×Nat)}(h:OOwn base w v l):∃a c,v=.slice a l.length c:=h.at.shape
theorem OOwn.shape3{l:List (Nat×Nat)}(h:OOwn base w v l):∃a m c,v=.slice a m c:=by
 obtain⟨a,c,h⟩:=h.shape;exact⟨a,_,c,h⟩
theorem Jk1:(prog.info? 80).map (λi=>(i.zero,i.size,i.bytes))=some (some (.agg #[.int .u64 0,.int .u8 0]),2,16):=by kernel_rfl
theorem Jdz{l:List (Nat×Nat)}(h:OOwn base w v l)(x:Value)(B:Nat)(l2:List (Nat×Nat))(hx:Jq B w x l2)(ty:TypeId)(hb:l.length+l2.length<=1000000000)(hbase:base<=w.heap.size):
  ∃v' w',(Builtin.append_ #[22,22] ty #[v,x]).run prog w=.ok v' w'/\OOwn base w' v' (l++l2)/\w.grownBy w' v.ownBlock:=by
 obtain⟨i,hi,hp⟩:=Option.map_eq_some_iff.1 Jk1;simp only[Qw]at hp;obtain⟨hz,hsz,hby⟩:=hp
 rcases hx with⟨rfl,rfl⟩|⟨g,o,c,rfl,_,hg,hcell⟩
 ·exact⟨v,w,run_append_owned_none (P:=prog) (w:=w) base 22 ty 80 i 2 underlying22 hi v l.length (outV l) h,by rw[QC];exact h,World.grownBy.refl _ _⟩
 ·obtain⟨v',w',hr,h2,h3,h4⟩:=run_append_own (P:=prog) w base 22 ty 80 i _ 2 16 underlying22 hi hz hsz hby rfl (by omega) v l.length (outV l) h ⟨g,o,none⟩ l2.length c (outV l2) (Jcs l2) (Jq.cells hcell) (Jlm l2) (by simp only[maxLen];omega) (by omega) hbase;exact⟨v',w',hr,by unfold OOwn;rw[Qe,JgB];exact h2,h3⟩
theorem YD(hgd:o.guard=none)(s x:Operand)
 (ho:o.op=.call { callee:=.builtin .append,args:= #[s,x],argTypes:= #[22,22] })
 {l:List (Nat×Nat)} (hv:a.eval s=v) (h:OOwn base w v l) (xv:Value) (B:Nat) (l2:List (Nat×Nat)) (hx:a.eval x=xv) (hs:Jq B w xv l2) (hb:l.length+l2.length<=1000000000) (hbase:base<=w.heap.size)
 (hK:∀v' w',OOwn base w' v' (l++l2)->w.grownBy w' v.ownBlock->wpList prog ops Q rest (a.put o.dst v') w'):wpList prog ops Q (o::rest) a w:=by
 refine wpList_plain hgd λK hK'=>?_;obtain⟨v',w',hrun,r,r2⟩:=Jdz h xv B l2 hs o.type hb hbase;unfold Oper.wp;simp[execOp,ho,resolve,invoke,builtin,hv,hx,hrun,Result.andThen];exact hK' _ _ (hK v' w' r r2)
theorem Jfk(W:World)(c:Nat×Nat):Jq (W.heap.size+1) (W.alloc (.cells #[.int .u64 ((c.1:Nat):Int),.int .u8 ((c.2:Nat):Int)] 80)) (.slice (some ⟨W.heap.size,0,none⟩) 1 1) [c]:=by
 refine .inr ⟨W.heap.size,0,1,rfl,by omega,by simp,λi hi=>?_⟩;obtain rfl:i=0:=by simpa using hi
 have hrow:=Qf W (.cells #[.int .u64 ((c.1:Nat):Int),.int .u8 ((c.2:Nat):Int)] 80);exact⟨Ja hrow,Ja hrow⟩

def XP:Er->Int
 | 0=>1
 | 1=>2
 | 2=>3
 | 3=>4
 | 4=>5
 | 5=>6
 | 6=>7
def Zy(wj:Nat)(l:List Held)(t:TxL)(v:Value)(w:World)(e:Ending)(w':World):Prop:=
 Tch NoB w w'/\match Xw (dgW wj) l t with
  | .error er=>e=.returned (.tuple #[v,.int .i64 (XP er)])
  | .ok l'=>∃v',e=.returned (.tuple #[v',.int .i64 0])/\Yi w' v' l'/\∀j,v'.ownBlock=some j->w.heap.size<=j
theorem Zy.input{t:TxL}(ht:Tch NoB w w')(h:Xo t.1 (l,0,false)=none):Zy wj l t v w (.returned (.tuple #[v,.int .i64 3])) w':=by
 refine⟨ht,?_⟩;unfold Xw;rw[h];rfl
theorem Zy.exist{t:TxL}{o:Bool}(ht:Tch NoB w w')(h:Xo t.1 (l,0,false)=some (l1,i,o))(hX:txB t=X)(hid:dgW wj (84::X)=id)(hr:JM id 0 t.2 (l1,0,o)=none):Zy wj l t v w (.returned (.tuple #[v,.int .i64 4])) w':=by
 refine⟨ht,?_⟩;unfold Xw;rw[h];dsimp only;rw[hX,hid,hr];rfl
theorem Zy.done{t:TxL}{v':Value}{o:Bool}(ht:Tch NoB w w')(h:Xo t.1 (l,0,false)=some (l1,i,o))(hX:txB t=X)(hid:dgW wj (84::X)=id)(hr:JM id 0 t.2 (l1,0,o)=some (l2,u,o2))(ho:Yi w' v' l2)(hb:∀j,v'.ownBlock=some j->w.heap.size<=j)(hn:¬(o2=true\/i<u)):Zy wj l t v w (.returned (.tuple #[v',.int .i64 0])) w':=by
 refine⟨ht,?_⟩;unfold Xw;rw[h];dsimp only;rw[hX,hid,hr];dsimp only;rw[if_neg hn];exact⟨v',rfl,ho,hb⟩
theorem Zy.sum{t:TxL}{o:Bool}(ht:Tch NoB w w')(h:Xo t.1 (l,0,false)=some (l1,i,o))(hX:txB t=X)(hid:dgW wj (84::X)=id)(hr:JM id 0 t.2 (l1,0,o)=some (l2,u,o2))(hn:o2=true\/i<u):Zy wj l t v w (.returned (.tuple #[v,.int .i64 5])) w':=by
 refine⟨ht,?_⟩;unfold Xw;rw[h];dsimp only;rw[hX,hid,hr];dsimp only;rw[if_pos hn];rfl
theorem Tch.drewAlloc(w:World)(o:Obj):Tch NoB w (w.drew.alloc o):=(Td NoB w 1).trans (Ta NoB _ o) (λ_ h=>.inl h)
theorem Jgg(W:World)(c:BA×Int)(o:Nat×Nat):JR (W.alloc (.cells #[.string c.1,.int .i64 c.2,.int .u64 ((o.1:Nat):Int),.int .u8 ((o.2:Nat):Int)] 87)) (.slice (some ⟨W.heap.size,0,none⟩) 1 1) [(c,o)]:=by
 refine .inr ⟨W.heap.size,0,1,rfl,by simp,λi hi=>?_⟩;obtain rfl:i=0:=by simpa using hi
 have hrow:=Qf W (.cells #[.string c.1,.int .i64 c.2,.int .u64 ((o.1:Nat):Int),.int .u8 ((o.2:Nat):Int)] 87);exact⟨Ja hrow,Ja hrow,Ja hrow,Ja hrow⟩
theorem JgR{o:Bool}(h:JO now c=none):Xo (c::r) (now,i,o)=none:=by simp only[Xo,h]
theorem JgS{k:Nat}{o:Bool}(h:JO now c=some k)(hk:k<now.length):Xo (c::r) (now,i,o)=Xo r (now.eraseIdx k,(i+now[k].2.1) % M64,o || decide ((i+now[k].2.1) % M64<i)):=by
 simp only[Xo,h,Qn,Qd hk,Option.getD_some]
theorem HOwn.take(h:HOwn base w (.slice (some ⟨g,0,none⟩) l.length cap) l)(j:Nat)(hj:j<=l.length)(c:Nat):JR w (.slice (some ⟨g,0,none⟩) j c) (l.take j):=by
 rcases h.at with⟨e,_⟩|⟨g',o,c',e,hg,hcell⟩
 ·cases e
 ·cases e
  have hl:(l.take j).length=j:=by rw[QB];omega
  refine .inr ⟨g,0,c,by rw[hl],hg,λi hi=>?_⟩;have:=hcell i (by omega);simpa using this
theorem HOwn.drop(h:HOwn base w (.slice (some ⟨g,0,none⟩) l.length cap) l)(j:Nat)(hj:j<=l.length)(c:Nat):JR w (.slice (some ⟨g,j*4,none⟩) (l.length-j) c) (l.drop j):=by
 rcases h.at with⟨e,_⟩|⟨g',o,c',e,hg,hcell⟩
 ·cases e
 ·cases e
  refine .inr ⟨g,j*4,c,by rw[List.length_drop],hg,λi hi=>?_⟩;rw[List.length_drop]at hi;have:=hcell (j+i) (by omega);rw[show 0+(j+i)*4=j*4+i*4 by omega]at this;simpa using this
theorem HOwn.dropEnd(h:HOwn base w (.slice (some ⟨g,0,none⟩) l.length cap) l)(j:Nat)(hj:l.length=j)(c:Nat):JR w (.slice (some ⟨g,0,none⟩) (l.length-j) c) (l.drop j):=by
 have e:l.drop j=[]:=List.drop_eq_nil_of_le (by omega);rw[e]
 rcases h.at with⟨e,_⟩|⟨g',o,c',e,hg,hcell⟩
 ·cases e
 ·cases e
  exact .inr ⟨g,0,c,by rw[hj,Nat.sub_self];rfl,hg,λi hi=>by simp at hi⟩
theorem Jjg(E:Nat->Addr)(wj:Nat)(hw1:1<=wj)(hw:wj<=32)(xb:Nat)(v:Value)(l:List Held)(B:Nat)(v1 v2:Value)(t:TxL)(w:World)(hE:Env E w)(hx:w.cell? ⟨xb,1,none⟩=some (.int .i64 (wj:Int)))(h:JR w v l)(hk:TxOk wj t)(h1:JD B w v1 t.1)(h2:Jq B w v2 t.2)(hl:l.length<=900000000)(ho:∀x∈l,Jy x.2):
  Calls prog 44 #[.pointer (some ⟨xb,0,none⟩),v,.agg #[v1,v2]] w (Zy wj l t v w):=by
 obtain⟨a0,c0,rfl⟩:=h.shape;obtain⟨a1,c1,rfl⟩:=h1.shape;obtain⟨a2,c2,rfl⟩:=h2.shape;have l1:=hk.ins;have l2:=hk.made;have HK:Hid (TxOk wj t):=hk;have H:Hid (JR _ _ _):=h;have H1:Hid (JD _ _ _ _):=h1;have H2:Hid (Jq _ _ _ _):=h2;have HE:Hid (Env E w):=hE;have HO:Hid (∀x∈l,Jy x.2):=ho;have HX:Hid (w.cell? ⟨xb,1,none⟩=some (.int .i64 (wj:Int))):=hx;clear hk h1 h2 h hE ho hx;have TB:Hid (Tch NoB w (w.alloc (.cells #[.slice a1 t.1.length c1,.slice a2 t.2.length c2] 98))):=Ta NoB w _;go_enter func44,ntmps44;go_wp2_with (at_builtin;refine XA rfl _ _ rfl rfl (HOwn.nil (w.heap.size+1) _) _ l rfl (H.out.tch TB.out) (by simp;omega) (by simp) ?_;intro vn w1 hown hg;have HOW:Hid (HOwn _ w1 vn l):=hown;have HG:Hid (World.grownBy _ w1 _):=hg;clear hown hg);have T1:Hid (Tch NoB w w1):=HOwn.grow (HOwn.nil (w.heap.size+1) _) HG.o (by omega) TB.out;have R1:Hid (w1.heap[w.heap.size]? =some (.cells #[.slice a1 t.1.length c1,.slice a2 t.2.length c2] 98)):=(HG.o.block _ (by simp) (λe=>by cases e)).trans (Qf _ _);go_loopw [8,9,10,11] (λvn vi vo i wr=>∃(k:Nat)(lk:List Held)(ik:Nat)(ok:Bool),k<=t.1.length/\i=.int .i64 k/\vi=.int .u64 (ik:Int)/\vo=.bool ok/\Hid (HOwn (w.heap.size+1) wr vn lk)/\Hid (Xo (t.1.drop k) (lk,ik,ok)=Xo t.1 (l,0,false))/\Hid (ik<18446744073709551616)/\lk.length<=l.length/\Hid (∀x∈lk,Jy x.2)/\Hid (Tch NoB w wr)/\Hid (wr.heap[w.heap.size]? =some (.cells #[.slice a1 t.1.length c1,.slice a2 t.2.length c2] 98))) (λ_ _ _ i _=>t.1.length-(intOf i).toNat)
 case atStart=>exact⟨0,l,0,false,by omega,rfl,rfl,rfl,HOW.o,rfl,(by decide:(0:Nat)<18446744073709551616),Ql _,HO.o,T1.out,R1.o⟩
 case round=>
  clear HOW HG T1 R1 TB;obtain⟨k,lk,ik,ok,hk,rfl,rfl,rfl,HOW,HS,HI,hlk,HOK,HT,HR⟩:=hrel;have d0:wr.cell? ⟨w.heap.size,0,none⟩=some (.slice a1 t.1.length c1):=Ja HR.o
  by_cases hlt:k<t.1.length
  ·rcases H1.o with⟨e,e2⟩|⟨gi,oi,cc,e,_,hgi,hcell⟩
   ·rw[e2]at hlt;simp at hlt
   simp only[Qy,true_and]at e;obtain⟨rfl,rfl⟩:=e;obtain⟨f0,f1⟩:=hcell k hlt;have q0:=(HT.o.cell (p:=⟨gi,oi+k*2,none⟩) hgi (λh=>h)).trans f0;have q1:=(HT.o.cell (p:=⟨gi,oi+k*2+1,none⟩) hgi (λh=>h)).trans f1;have hlti:(k:Int)<(t.1.length:Int):=(by omega);have HD:Hid (t.1.drop k=t.1[k]::t.1.drop (k+1)):=List.drop_eq_getElem_cons hlt;have HF:=Je6 u8 lk t.1[k] wr HOW.o.at (by omega);clear hcell f0 f1
   cases hf:JO lk t.1[k] with
   | none=>
    have HFF:Hid (Calls prog 48 #[u8,.agg #[.string t.1[k].1,.int .i64 t.1[k].2]] wr λe w'=>e=.returned (.int .i64 (-1))/\Tch NoB wr w'):=HF.mono (by rintro _ _⟨rfl,h⟩;exact⟨by unfold JC;rw[hf],h⟩);have HN:Hid (Xo t.1 (l,0,false)=none):=(by rw[<-HS.o,HD.o];exact JgR hf:Xo t.1 (l,0,false)=none)
    clear HF hf HD HS;obtain⟨va,vc,rfl⟩:=HOW.o.shape;generalize t.1[k]=c at *;go_wp2_with (go_at_call 48;refine HFF.o.mono ?_;rintro _ w1⟨rfl,ht1⟩;have HT1:Hid (Tch _ wr w1):=ht1;clear ht1);go_ret2;exact Zy.input (HT.o.trans HT1.o noE) HN.o
   | some j=>
    obtain⟨hj,_⟩:=Xy hf;have HFF:Hid (Calls prog 48 #[u8,.agg #[.string t.1[k].1,.int .i64 t.1[k].2]] wr λe w'=>e=.returned (.int .i64 (j:Int))/\Tch NoB wr w'):=HF.mono (by rintro _ _⟨rfl,h⟩;exact⟨by unfold JC;rw[hf],h⟩);have HN:Hid (Xo (t.1.drop (k+1)) (lk.eraseIdx j,(ik+lk[j].2.1) % M64,ok || decide ((ik+lk[j].2.1) % M64<ik))=Xo t.1 (l,0,false)):=(by rw[<-HS.o,HD.o];exact(JgS hf hj).symm:_=_)
    clear HF hf HD HS;obtain⟨g,cap,hvn,hcap⟩:∃g cap,u8=.slice (some ⟨g,0,none⟩) lk.length cap/\lk.length<=cap:=by
     obtain⟨_,⟨_,h0⟩|⟨g,cap,cur,rfl,_,_,hc,_⟩⟩:=HOW.o
     ·omega
     ·exact⟨g,cap,rfl,hc⟩
    subst hvn;have HA:Hid (∀w1,Tch NoB wr w1->w1.cell? ⟨g,j*4+2,none⟩=some (.int .u64 ((lk[j].2.1:Nat):Int))):=by
     intro w1 ht;have hh:=(HOW.o.tch ht (λ_ _ h=>h)).at
     rcases hh with⟨e,_⟩|⟨g',o,c',e,hg,hc⟩
     ·cases e
     ·cases e
      have:=(hc j hj).2.2.1
      rwa [Nat.zero_add]at this
    have HAM:Hid (lk[j].2.1<18446744073709551616):=(HOK.o _ (Qx hj)).1;generalize lk[j].2.1=am at *;generalize t.1[k]=c at *;have hj0:¬(j:Int)<0:=(by omega);have hji:(j:Int)<(lk.length:Int):=(by omega);have hjc:(j:Int)<=(cap:Int):=(by omega);have HEC:Hid (cap=j+1->lk.length=j+1):=(by intro e;omega:cap=j+1->lk.length=j+1)
    obtain⟨sm,hsm⟩:∃sm:Nat,(ik+am) % M64=sm:=⟨_,rfl⟩
    have hwr:IntKind.u64.wrap ((ik:Int)+(am:Int))=(sm:Int):=(by rw[<-hsm];simp[IntKind.wrap,IntKind.bits,IntKind.signed,M64]);rw[hsm]at HN;have HSM:Hid (sm<18446744073709551616):=(by rw[<-hsm];exact Nat.mod_lt _ (by decide):sm<18446744073709551616)
    clear hsm HAM;obtain⟨ov2,hov2⟩:∃ov2:Bool,(ok || decide (sm<ik))=ov2:=⟨_,rfl⟩
    rw[hov2]at HN;have HOV:Hid ((ok || decide (sm<ik))=ov2):=hov2;clear hov2;go_upto_region 11 with(go_at_call 48;refine HFF.o.mono ?_;rintro _ w1⟨rfl,ht1⟩;have hcell:=HA.o w1 ht1;have HT1:Hid (Tch _ wr w1):=ht1;have HOW1:Hid (HOwn (w.heap.size+1) w1 _ lk):=HOW.o.tch ht1 (λ_ _ h=>h);clear ht1);go_cut [10] (λvo wx=>vo=.bool ov2/\wx=w1)
    case first=>
     cases ok
     all_goals go_wp2
     all_goals go_meet
     ·refine⟨congrArg Value.bool ?_,rfl⟩;rw[<-HOV.o];simp
     ·refine⟨congrArg Value.bool ?_,rfl⟩;rw[<-HOV.o];rfl
    case rest=>
    obtain⟨rfl,rfl⟩:=hcut;obtain⟨wA,hwA⟩:∃wA,wA=wc:=⟨wc,rfl⟩
    subst hwA;have HTA:Hid (Tch NoB w wA):=HT.o.trans HT1.o noE;have HRA:Hid (wA.heap[w.heap.size]? =some (.cells #[.slice (some ⟨gi,oi,none⟩) t.1.length c1,.slice a2 t.2.length c2] 98)):=(HT1.o.block _ (Jb HR.o) (λh=>h)).trans HR.o;clear HT HT1 HR HOW HFF HA q0 q1 d0 HOV;go_upto_region 14 with fail;go_cut [13] (λv3 w3=>Hid (HOwn (w.heap.size+1) w3 v3 (lk.take j))/\Hid (World.grownBy wA w3 none))
    case first=>go_wp2_with (at_builtin;refine XA rfl (.tmp 59) (.tmp 62) rfl rfl (HOwn.nil (w.heap.size+1) _) _ (lk.take j) rfl (HOW1.o.take j (by omega) _) (by simp;omega) (by have:=(Jb HRA.o);omega) ?_;intro v3 w3 hown3 hg3;have HOW3:Hid (HOwn _ w3 v3 _):=hown3;have HG3:Hid (World.grownBy wA w3 _):=hg3;clear hown3 hg3);go_meet;exact⟨HOW3,HG3⟩
    case rest=>
    obtain⟨HOW3,HG3⟩:=hcut;obtain⟨wB,hwB⟩:∃wB,wB=wc:=⟨wc,rfl⟩
    subst hwB;have HOWB:Hid (HOwn (w.heap.size+1) wB _ lk):=HOW1.o.tch (Tg HG3.o) (λ_ _ h=>by cases h);have HTB:Hid (Tch NoB w wB):=HTA.o.trans (Tg HG3.o) (λ_ h=>by cases h);have HRB:Hid (wB.heap[w.heap.size]? =some (.cells #[.slice (some ⟨gi,oi,none⟩) t.1.length c1,.slice a2 t.2.length c2] 98)):=(HG3.o.block _ (Jb HRA.o) (λh=>by cases h)).trans HRA.o;clear HTA HRA HOW1 hcell HG3;obtain⟨b3,n3,hv3⟩:=HOW3.o.shape;have HNE:Hid (∀wC v4,HOwn (w.heap.size+1) wC v4 (lk.take j++lk.drop (j+1))->World.grownBy wB wC (Value.slice b3 (lk.take j).length n3).ownBlock->(Hid (HOwn (w.heap.size+1) wC v4 (lk.eraseIdx j))/\Tch NoB w wC/\wC.heap[w.heap.size]? =some (.cells #[.slice (some ⟨gi,oi,none⟩) t.1.length c1,.slice a2 t.2.length c2] 98))):=by intro wC v4 ho hg;rw[hv3]at HOW3;refine⟨by rw[List.eraseIdx_eq_take_drop_succ];exact ho,HOW3.o.grow hg (by omega) HTB.o,(hg.block _ (Jb HRB.o) (λe=>?_)).trans HRB.o⟩;have:=(HOW3.o.own _ e.symm).1;omega
    have HLN:Hid ((lk.eraseIdx j).length<=lk.length/\∀x∈lk.eraseIdx j,Jy x.2):=⟨List.length_eraseIdx_le _ _,λx hx=>HOK.o x (List.mem_of_mem_eraseIdx hx)⟩
    rcases Nat.decEq cap (j+1) with hcj|hcj
    ·go_wp2_with (at_builtin;refine XA rfl (.tmp 64) (.tmp 68) rfl rfl HOW3.o _ (lk.drop (j+1)) rfl (HOWB.o.drop (j+1) (by omega) _) (by simp;omega) (by have:=(Jb HRB.o);omega) ?_;intro v4 w4 hown4 hg4;rw[hv3]at hg4;obtain⟨HOW4,ht4,hr4⟩:=HNE.o w4 v4 hown4 hg4;have HT4:Hid (Tch _ w w4):=ht4;have HR4:Hid (_=_):=hr4;clear hown4 hg4 ht4 hr4);go_roundw
     case rel=>exact⟨k+1,lk.eraseIdx j,sm,ov2,by omega,by go_num,rfl,rfl,HOW4,HN.o,HSM.o,by have:=HLN.o.1;omega,HLN.o.2,HT4.o,HR4.o⟩
     case measure=>simp[intOf];omega
    ·go_wp2_with (at_builtin;refine XA rfl (.tmp 64) (.tmp 68) rfl rfl HOW3.o _ (lk.drop (j+1)) rfl (HOWB.o.dropEnd (j+1) (HEC.o hcj) _) (by simp;omega) (by have:=(Jb HRB.o);omega) ?_;intro v4 w4 hown4 hg4;rw[hv3]at hg4;obtain⟨HOW4,ht4,hr4⟩:=HNE.o w4 v4 hown4 hg4;have HT4:Hid (Tch _ w w4):=ht4;have HR4:Hid (_=_):=hr4;clear hown4 hg4 ht4 hr4);go_roundw
     case rel=>exact⟨k+1,lk.eraseIdx j,sm,ov2,by omega,by go_num,rfl,rfl,HOW4,HN.o,HSM.o,by have:=HLN.o.1;omega,HLN.o.2,HT4.o,HR4.o⟩
     case measure=>simp[intOf];omega
  ·have HK1:Hid (k=t.1.length):=(by omega:k=t.1.length)
   have hge:¬(k:Int)<(t.1.length:Int):=(by omega);have HSP:Hid (Xo t.1 (l,0,false)=some (lk,ik,ok)):=(by rw[<-HS.o,HK1.o,List.drop_length];rfl:Xo t.1 (l,0,false)=some (lk,ik,ok))
   have hxb:=Qr _ _ HX.o;have hxw:=(HT.o.cell (p:=⟨xb,1,none⟩) hxb (λh=>h)).trans HX.o;have d1:wr.cell? ⟨w.heap.size,1,none⟩=some (.slice a2 t.2.length c2):=Ja HR.o;have HTT:Hid (∀W,Tch NoB wr W->Calls prog 76 #[.agg #[.slice a1 t.1.length c1,.slice a2 t.2.length c2]] W λe w'=>e=.returned (.string ⟨(txB t).toArray⟩)/\Tch NoB W w'):=λW hW=>Jk5 wj hw B _ _ t HK.o W ((H1.o.tch HT.o noE).tch hW noE) ((H2.o.tch HT.o noE).tch hW noE);have HTL:Hid ((txB t).length<=200):=(by have:=JdM wj t HK.o hw t.2.length;rw[JdL]at this;exact this:(txB t).length<=200)
   generalize hX:txB t=X at *;have HXX:Hid (txB t=X):=hX;clear hX HS;obtain⟨S,hSz,hSd,hadd⟩:∃S:BA,S.size<=300/\S.data.toList=84::X/\∀W,(Op.stringOp .add (⟨#[84]⟩:BA) ⟨X.toArray⟩).run prog W=.ok (.string S) W:=
    ⟨_,by rw[ByteArray.size_append];show 1+X.toArray.size<=300;have:=HTL.o;simp;omega,by simp,λW=>run_string_add_sum (P:=prog) W _ _ (by show 1+X.toArray.size<=_;have:=HTL.o;simp;omega)⟩
   have HDG:Hid (∀W,Tch NoB wr W->Calls prog 39 #[.int .i64 (wj:Int),.string S] W λe w'=>e=.returned (.string (dgW wj (84::X)))/\Tch NoB W w'):=λW hW=>by
    have hEW:=(HE.o.tch HT.o noE).tch hW noE;refine(ZP wj S W hw1 hw (by omega) (Qk (by decide) hEW.size) hEW.table).mono ?_;rintro _ w'⟨rfl,ht⟩;exact⟨by rw[hSd];rfl,ht⟩
   clear hSz hSd;go_upto_region 17 with fail;go_cut [14] (λid wx=>id=.string (dgW wj (84::X))/\Hid (Tch NoB wr wx))
   case first=>
    go_region_with (first|(go_at_call 76;refine(HTT.o _ (Td _ _ 1)).mono ?_;rintro _ w1⟨rfl,ht1⟩;have hx1:=(((Td NoB wr 1).trans ht1 (λ_ h=>.inl h)).cell (p:=⟨xb,1,none⟩) (Qk hxb HT.o.size) (λh=>h)).trans hxw;have HT1:Hid (Tch NoB wr w1):=(Td NoB wr 1).trans ht1 (λ_ h=>.inl h);clear ht1)|(go_at_call 39;refine(HDG.o _ HT1.o).mono ?_;rintro _ w2⟨rfl,ht2⟩;have HT2:Hid (Tch NoB wr w2):=HT1.o.trans ht2 noE;clear ht2))
    all_goals (go_wp2;go_meet;exact⟨rfl,HT2⟩)
   case rest=>
   obtain⟨rfl,HTC⟩:=hcut;obtain⟨wA,hwA⟩:∃wA,wA=wc:=⟨wc,rfl⟩
   subst hwA;have HTA:Hid (Tch NoB w wA):=HT.o.trans HTC.o noE;have HRA:Hid (wA.heap[w.heap.size]? =some (.cells #[.slice a1 t.1.length c1,.slice a2 t.2.length c2] 98)):=(HTC.o.block _ (Jb HR.o) (λh=>h)).trans HR.o;have HOWA:Hid (HOwn (w.heap.size+1) wA u8 lk):=HOW.o.tch HTC.o (λ_ _ h=>h);obtain⟨id,hid⟩:∃id,dgW wj (84::X)=id:=⟨_,rfl⟩
   have HIDS:Hid (id.size=wj):=(by rw[<-hid];exact Jz wj hw _:id.size=wj)
   have HIDX:Hid (dgW wj (84::X)=id):=hid;rw[hid];clear hid HTT HDG hadd HTL HT HTC HR HOW d0 d1 hge hxw;go_wp2;go_loopw [8,10,15,16] (λvn vo vi i wr=>∃(k:Nat)(lj:List Held)(ij:Nat)(oj:Bool),k<=t.2.length/\i=.int .i64 k/\vi=.int .u64 (ij:Int)/\vo=.bool oj/\Hid (HOwn (w.heap.size+1) wr vn lj)/\Hid (JM id k (t.2.drop k) (lj,ij,oj)=JM id 0 t.2 (lk,0,ok))/\Hid (ij<18446744073709551616)/\lj.length<=lk.length+k/\Hid (Tch NoB w wr)/\Hid (wr.heap[w.heap.size]? =some (.cells #[.slice a1 t.1.length c1,.slice a2 t.2.length c2] 98))) (λ_ _ _ i _=>t.2.length-(intOf i).toNat)
   case atStart=>exact⟨0,lk,0,ok,by omega,rfl,rfl,rfl,HOWA.o,rfl,(by decide:(0:Nat)<18446744073709551616),by omega,HTA.o,HRA.o⟩
   case round=>
    clear HOWA HTA HRA;obtain⟨k,lj,ij,oj,hk,rfl,rfl,rfl,HOW,HRC,HIJ,hlj,HT,HR⟩:=hrel;have d1:wr.cell? ⟨w.heap.size,1,none⟩=some (.slice a2 t.2.length c2):=Ja HR.o
    by_cases hlt:k<t.2.length
    ·rcases H2.o with⟨e,e2⟩|⟨gi,oi,cc,e,_,hgi,hcell⟩
     ·rw[e2]at hlt;simp at hlt
     simp only[Qy,true_and]at e;obtain⟨rfl,rfl⟩:=e;obtain⟨f0,f1⟩:=hcell k hlt;have HD:Hid (t.2.drop k=t.2[k]::t.2.drop (k+1)):=List.drop_eq_getElem_cons hlt;have HOK2:Hid (t.2[k].1<18446744073709551616):=(HK.o.outs _ (Qx hlt)).1;have hlti:(k:Int)<(t.2.length:Int):=(by omega);clear hcell;generalize t.2[k]=o at *;obtain⟨oa,oo⟩:=o;simp only at f0 f1;have TC:Hid (Tch NoB wr (wr.alloc (.cells #[.string id,.int .i64 (k:Int)] 49))):=Ta _ _ _;have HF:=Je6 u8 lj (id,(k:Int)) (wr.alloc (.cells #[.string id,.int .i64 (k:Int)] 49)) (HOW.o.tch TC.out (λ_ _ h=>h)).at (by omega)
     cases hf:JO lj (id,(k:Int)) with
     | some j=>
      have HFF:Hid (Calls prog 48 #[u8,.agg #[.string id,.int .i64 (k:Int)]] (wr.alloc (.cells #[.string id,.int .i64 (k:Int)] 49)) λe w'=>e=.returned (.int .i64 (j:Int))/\Tch NoB (wr.alloc (.cells #[.string id,.int .i64 (k:Int)] 49)) w'):=HF.mono (by rintro _ _⟨rfl,h⟩;exact⟨by unfold JC;rw[hf],h⟩);have HN:Hid (JM id 0 t.2 (lk,0,ok)=none):=(by rw[<-HRC.o,HD.o];simp only[JM,hf]:JM id 0 t.2 (lk,0,ok)=none)
      clear HF hf HD HRC;have hj0:(0:Int)<=(j:Int):=(by omega);obtain⟨va,vc,rfl⟩:=HOW.o.shape;go_wp2_with (go_at_call 48;refine HFF.o.mono ?_;rintro _ w1⟨rfl,ht1⟩;have HT1:Hid (Tch _ wr w1):=TC.out.trans ht1 noE;clear ht1);go_ret2;exact Zy.exist (HT.o.trans HT1.o noE) HSP.o HXX.o HIDX.o HN.o
     | none=>
      have HFF:Hid (Calls prog 48 #[u8,.agg #[.string id,.int .i64 (k:Int)]] (wr.alloc (.cells #[.string id,.int .i64 (k:Int)] 49)) λe w'=>e=.returned (.int .i64 (-1))/\Tch NoB (wr.alloc (.cells #[.string id,.int .i64 (k:Int)] 49)) w'):=HF.mono (by rintro _ _⟨rfl,h⟩;exact⟨by unfold JC;rw[hf],h⟩);have HN:Hid (JM id (k+1) (t.2.drop (k+1)) (lj++[((id,(k:Int)),(oa,oo))],(ij+oa) % M64,oj || decide ((ij+oa) % M64<ij))=JM id 0 t.2 (lk,0,ok)):=(by rw[<-HRC.o,HD.o];simp only[JM,hf]:_=_)
      clear HF hf HD HRC;obtain⟨sm,hsm⟩:∃sm:Nat,(ij+oa) % M64=sm:=⟨_,rfl⟩
      have hwr:IntKind.u64.wrap ((ij:Int)+(oa:Int))=(sm:Int):=(by rw[<-hsm];simp[IntKind.wrap,IntKind.bits,IntKind.signed,M64]);rw[hsm]at HN;have HSM:Hid (sm<18446744073709551616):=(by rw[<-hsm];exact Nat.mod_lt _ (by decide):sm<18446744073709551616)
      clear hsm;obtain⟨ov2,hov2⟩:∃ov2:Bool,(oj || decide (sm<ij))=ov2:=⟨_,rfl⟩
      rw[hov2]at HN;have HOV:Hid ((oj || decide (sm<ij))=ov2):=hov2;clear hov2;obtain⟨va,vc,rfl⟩:=HOW.o.shape;go_upto_region 25 with(go_at_call 48;refine HFF.o.mono ?_;rintro _ w1⟨rfl,ht1⟩;have HT1:Hid (Tch _ wr w1):=TC.out.trans ht1 noE;have hcr:w1.heap[wr.heap.size]? =some (.cells #[.string id,.int .i64 (k:Int)] 49):=(ht1.block _ (by simp) (λh=>h)).trans (Qf _ _);clear ht1);have HT1W:Hid (Tch NoB w w1):=HT.o.trans HT1.o noE;have HR1:Hid (w1.heap[w.heap.size]? =some (.cells #[.slice a1 t.1.length c1,.slice (some ⟨gi,oi,none⟩) t.2.length c2] 98)):=(HT1.o.block _ (Jb HR.o) (λh=>h)).trans HR.o;have HOW1:Hid (HOwn (w.heap.size+1) w1 _ lj):=HOW.o.tch HT1.o (λ_ _ h=>h);have e0:w1.cell? ⟨wr.heap.size,0,none⟩=some (.string id):=Ja hcr;have e1:w1.cell? ⟨wr.heap.size,1,none⟩=some (.int .i64 (k:Int)):=Ja hcr;have e2:w1.cell? ⟨w.heap.size,1,none⟩=some (.slice (some ⟨gi,oi,none⟩) t.2.length c2):=Ja HR1.o;have e3:=(HT1W.o.cell (p:=⟨gi,oi+k*2,none⟩) hgi (λh=>h)).trans f0;have e4:=(HT1W.o.cell (p:=⟨gi,oi+k*2+1,none⟩) hgi (λh=>h)).trans f1;have HF0:Hid (w.cell? ⟨gi,oi+k*2,none⟩=_):=f0;clear HT HR HOW HFF TC hcr f0 f1 d1 HT1;go_cut [8] (λv3 w3=>Hid (HOwn (w.heap.size+1) w3 v3 (lj++[((id,(k:Int)),(oa,oo))]))/\Hid (Tch NoB w w3)/\Hid (w3.heap[w.heap.size]? =some (.cells #[.slice a1 t.1.length c1,.slice (some ⟨gi,oi,none⟩) t.2.length c2] 98)))
      case first=>
       go_region_law (refine Jcg rfl _ _ rfl rfl (HOW1.o.tch (Tch.drewAlloc w1 _) (λ_ _ h=>h)) _ [((id,(k:Int)),(oa,oo))] rfl (Jgg w1.drew (id,(k:Int)) (oa,oo)) (by simp;omega) (by have:=(Jb HR1.o);simp;omega) ?_;intro v3 w3 hown3 hg3;have HOW3:Hid (HOwn _ w3 v3 _):=hown3;have HG3:Hid (World.grownBy _ w3 _):=hg3;clear hown3 hg3)
       all_goals
        go_wp2;go_meet;refine⟨HOW3,(HOW1.o.tch (Tch.drewAlloc w1 _) (λ_ _ h=>h)).grow HG3.o (by omega) (HT1W.o.trans (Tch.drewAlloc w1 _) noE),?_⟩;have hlt1:=(Jb HR1.o)
        exact(HG3.o.block _ (by simp;omega) (λe=>by have:=(HOW1.o.own _ e.symm).1;omega)).trans (((Tch.drewAlloc w1 _).block _ hlt1 (λh=>h)).trans HR1.o)
      case rest=>
      obtain⟨HOW3,HTB,HRB⟩:=hcut;obtain⟨wB,hwB⟩:∃wB,wB=wc:=⟨wc,rfl⟩
      subst hwB;have e5:wB.cell? ⟨w.heap.size,1,none⟩=some (.slice (some ⟨gi,oi,none⟩) t.2.length c2):=Ja HRB.o;have e6:=(HTB.o.cell (p:=⟨gi,oi+k*2,none⟩) hgi (λh=>h)).trans HF0.o;clear e0 e1 e2 e3 e4 HF0 HT1W HR1 HOW1;go_upto_region 26 with fail;go_cut [10] (λvo wx=>vo=.bool ov2/\wx=wB)
      case first=>
       cases oj
       all_goals go_wp2
       all_goals go_meet
       ·refine⟨congrArg Value.bool ?_,rfl⟩;rw[<-HOV.o];simp
       ·refine⟨congrArg Value.bool ?_,rfl⟩;rw[<-HOV.o];rfl
      case rest=>
      obtain⟨rfl,rfl⟩:=hcut;have HLL:Hid ((lj++[((id,(k:Int)),(oa,oo))]).length<=lk.length+(k+1)):=(by simp;omega:(lj++[((id,(k:Int)),(oa,oo))]).length<=lk.length+(k+1))
      go_wp2;go_roundw
      case rel=>exact⟨k+1,lj++[((id,(k:Int)),(oa,oo))],sm,ov2,by omega,by go_num,rfl,rfl,HOW3,HN.o,HSM.o,HLL.o,HTB.o,HRB.o⟩
      case measure=>simp[intOf];omega
    ·have HK2:Hid (k=t.2.length):=(by omega:k=t.2.length)
     have hge:¬(k:Int)<(t.2.length:Int):=(by omega);have HRF:Hid (JM id 0 t.2 (lk,0,ok)=some (lj,ij,oj)):=(by rw[<-HRC.o,HK2.o,List.drop_length];rfl:JM id 0 t.2 (lk,0,ok)=some (lj,ij,oj))
     obtain⟨va,vc,rfl⟩:=HOW.o.shape
     cases oj with
     | true=>
      go_wp2;go_ret2;exact Zy.sum HT.o HSP.o HXX.o HIDX.o HRF.o (.inl rfl)
     | false=>
      by_cases hgt:ik<ij
      ·have hgti:(ik:Int)<(ij:Int):=(by omega);go_wp2;go_ret2;exact Zy.sum HT.o HSP.o HXX.o HIDX.o HRF.o (.inr hgt)
      ·have hgti:¬(ik:Int)<(ij:Int):=(by omega);go_wp2;go_ret2;exact Zy.done HT.o HSP.o HXX.o HIDX.o HRF.o HOW.o.t (λj hj=>by have:=(HOW.o.own j hj).1;omega) (by rintro(h|h);cases h;exact hgt h)
