import Derived.Test.YtighkdnooglfjaaGreatDoorOxKText
import Derived.Laws.AppendOwnNone
namespace Go.Proofs.YtighkdnooglfjaaGreatDoor
open Tryz
set_option maxRecDepth 100000
set_option maxHeartbeats 1000000
open Go.RowKit

theorem ZN (c:Int) (n:Nat) (w:World) (h1: -9223372036854775808<=c) (h2:c<9223372036854775808) (hn:0<n) (hn2:n<9223372036854775808):
  Calls prog 22 #[.int .i64 c,.int .i64 (n:Int)] w λe w'=>(∃r:Nat,r<n/\e=.returned (.int .i64 (r:Int)))/\w'=w:=by
 obtain ⟨d,hd,hd1,hd2,hdc⟩:∃d:Int,(0<=d)/\d<9223372036854775808/\(c<0->wrap64 (-(wrap64 (c+1)))=d)/\(¬c<0->c=d):=by
  by_cases h:c<0
  ·refine ⟨-(c+1),by omega,by omega,λ_=>?_,λh'=>absurd h h'⟩
   have e1:wrap64 (c+1)=c+1:=by simp only [wrap64];omega
   rw [e1]
   simp only [wrap64];omega
  ·exact ⟨c,by omega,by omega,λh'=>absurd h' h,λ_=>rfl⟩
 obtain ⟨m,rfl⟩:=Int.eq_ofNat_of_zero_le hd
 have hne:¬(n:Int)=0:=by omega
 by_cases hc:c<0
 ·have HD2:Hid (wrap64 (-(wrap64 (c+1)))=(m:Int)):=hd2 hc
  clear h1 h2 hd hd1 hd2 hdc
  go_enter func22,ntmps22
  go_wp2
  go_ret
  exact ⟨⟨m % n,Nat.mod_lt _ hn,by show Ending.returned (Value.int .i64 ((wrap64 (-wrap64 (c+1))).tmod n))=_;rw [HD2.o];rfl⟩,rfl⟩
 ·obtain rfl:=hdc hc
  clear h1 h2 hd hd1 hd2 hdc
  go_enter func22,ntmps22
  go_wp2
  go_ret
  exact ⟨⟨m % n,Nat.mod_lt _ hn,rfl⟩,rfl⟩
theorem Ja9 (n:Nat) (s:BA) (w:World) (h1:1<=n) (h32:n<=32) (hs:s.size<1152921504606846976) (h7:13<w.heap.size) (hT:∀i,i<64->w.cell? ⟨13,i,none⟩=some (.int .u32 (Ks.getD i 0))):
  Calls prog 39 #[.int .i64 (n:Int),.string s] w λe w'=>e=.returned (.string ⟨((digL s.data.toList).take n).toArray⟩)/\Tch NoB w w':=by
 have HD:Hid (Calls _ _ _ _ _):=JhQ n s w h1 h32 hs h7 hT
 clear hT
 go_enter func39,ntmps39
 go_wp2_with (go_at_call 73;refine HD.o.mono ?_;rintro _ w1 ⟨rfl,hb⟩;have HB:Hid _:=hb;clear hb)
 go_ret
 exact ⟨rfl,(Tch.of_below HB.o).mono (λj hj=>.inr hj)⟩
theorem Jih (c:Int) (w:World) (h1: -9223372036854775808<=c) (h2:c<9223372036854775808):
  Calls prog 36 #[.int .i64 c] w λe w'=>(∃n:Nat,1<=n/\n<=32/\e=.returned (.int .i64 (n:Int)))/\Tch NoB w w':=by
 have HP:Hid (∀W,Calls prog 22 #[.int .i64 c,.int .i64 ((10:Nat):Int)] W _):=λW=>ZN c 10 W h1 h2 (by omega) (by omega)
 have HC:Hid (∀r,r<10->∃n:Nat,1<=n/\n<=32/\(w.alloc (.cells #[.int .i64 1,.int .i64 1,.int .i64 2,.int .i64 3,.int .i64 4,.int .i64 8,.int .i64 16,.int .i64 31,.int .i64 32,.int .i64 32] 3)).cell? ⟨w.heap.size,r,none⟩=some (.int .i64 (n:Int))):=by
  intro r hr
  have hrow:=Qf w (.cells #[.int .i64 1,.int .i64 1,.int .i64 2,.int .i64 3,.int .i64 4,.int .i64 8,.int .i64 16,.int .i64 31,.int .i64 32,.int .i64 32] 3)
  obtain rfl | rfl | rfl | rfl | rfl | rfl | rfl | rfl | rfl | rfl:r=0\/r=1\/r=2\/r=3\/r=4\/r=5\/r=6\/r=7\/r=8\/r=9:=by omega
  all_goals first | exact ⟨1,by omega,by omega,Ja hrow⟩ | exact ⟨2,by omega,by omega,Ja hrow⟩ | exact ⟨3,by omega,by omega,Ja hrow⟩ | exact ⟨4,by omega,by omega,Ja hrow⟩ | exact ⟨8,by omega,by omega,Ja hrow⟩ | exact ⟨16,by omega,by omega,Ja hrow⟩ | exact ⟨31,by omega,by omega,Ja hrow⟩ | exact ⟨32,by omega,by omega,Ja hrow⟩
 clear h1 h2
 go_enter func36,ntmps36
 go_wp2_with (go_at_call 22;refine (HP.o _).mono ?_;rintro _ w1 ⟨⟨r,hr,rfl⟩,rfl⟩;obtain ⟨n,n1,n2,hcell⟩:=HC.o r hr)
 go_ret
 exact ⟨⟨n,n1,n2,rfl⟩,Tch.alloc _ _ _⟩
def Xh (w:World) (v:Value) (l:List Held):Prop:=
 (v=.slice none 0 0/\l=[])\/∃g o c,v=.slice (some ⟨g,o,none⟩) l.length c/\g<w.heap.size/\∀i (h:i<l.length),w.cell? ⟨g,o+i * 4,none⟩=some (.string l[i].1.1)/\w.cell? ⟨g,o+i * 4+1,none⟩=some (.int .i64 l[i].1.2)/\w.cell? ⟨g,o+i * 4+2,none⟩=some (.int .u64 ((l[i].2.1:Nat):Int))/\w.cell? ⟨g,o+i * 4+3,none⟩=some (.int .u8 ((l[i].2.2:Nat):Int))
theorem Xh.tch {w w':World} {v:Value} {l:List Held} (h:Xh w v l) (k:Tch NoB w w'):Xh w' v l:=by
 rcases h with h | ⟨gi,oi,c,hv,h2,h3⟩
 ·exact .inl h
 ·refine .inr ⟨gi,oi,c,hv,Qk h2 k.size,λi hi=>?_⟩
  have hc:∀o,w'.cell? ⟨gi,o,none⟩=w.cell? ⟨gi,o,none⟩:=λo=>k.cell (p:=⟨gi,o,none⟩) h2 (λe=>e)
  rw [hc,hc,hc,hc];exact h3 i hi
theorem Xh.shape {w:World} {v:Value} {l:List Held} (h:Xh w v l):∃a c,v=.slice a l.length c:=by
 rcases h with ⟨rfl,rfl⟩ | ⟨gi,oi,c,rfl,_⟩
 ·exact ⟨none,0,rfl⟩
 ·exact ⟨_,_,rfl⟩
theorem JhG {a b:BA} (h:a.toList=b.toList):a=b:=by
 rw [ByteArray.toList_eq,ByteArray.toList_eq] at h
 exact Jcm h
theorem Jfm {l:List Held} {c:BA×Int} {k:Nat} (hk:k<l.length) (he:l[k].1=c) (hn:∀j (hj:j<l.length),j<k->l[j].1 ≠ c):Xa l c=some k:=by
 unfold Xa
 rw [List.findIdx?_eq_some_iff_getElem]
 exact ⟨hk,by simpa using he,λj hj=>by simpa using hn j (by omega) hj⟩
theorem JjL {l:List Held} {c:BA×Int} (hn:∀j (hj:j<l.length),l[j].1 ≠ c):Xa l c=none:=by
 unfold Xa
 rw [List.findIdx?_eq_none_iff]
 intro x hx
 obtain ⟨j,hj,rfl⟩:=List.getElem_of_mem hx
 simpa using hn j hj
def Yv (l:List Held) (c:BA×Int):Int:=match Xa l c with | some k=>(k:Int) | none=> -1
theorem Jgt (v:Value) (l:List Held) (c:BA×Int) (w:World) (h:Xh w v l) (hl:l.length<1000000000):
  Calls prog 48 #[v,.agg #[.string c.1,.int .i64 c.2]] w λe w'=>e=.returned (.int .i64 (Yv l c))/\Tch NoB w w':=by
 obtain ⟨a,cc,rfl⟩:=h.shape
 obtain ⟨s,n⟩:=c
 have H:Hid _:=h
 clear h
 have TA:Hid (∀o,Tch NoB w (w.alloc o)):=λo=>Tch.alloc _ w o
 simp only
 go_enter func48,ntmps48
 go_wp2
 go_loopw [5] (λi wr=>∃k n':Nat,k<=l.length/\i=.int .i64 k/\wr=(w.alloc (.cells #[.string s,.int .i64 n] 49)).drewN n'/\Hid (∀j (hj:j<l.length),j<k->l[j].1 ≠ (s,n))) (λi _=>l.length - (intOf i).toNat)
 case atStart=>exact ⟨0,0,by omega,rfl,rfl,λj _ h=>absurd h (by omega)⟩
 case round=>
  obtain ⟨k,n',hk,rfl,rfl,HN⟩:=hrel
  by_cases hlt:k<l.length
  ·rcases H.out with ⟨e,e2⟩ | ⟨gi,oi,c2,e,hgi,hcell⟩
   ·rw [e2] at hlt;simp at hlt
   simp only [Qy,true_and] at e
   obtain ⟨rfl,rfl⟩:=e
   obtain ⟨f0,f1,_,_⟩:=hcell k hlt
   have q0:((w.alloc (.cells #[.string s,.int .i64 n] 49)).drewN n').cell? ⟨gi,oi+k * 4,none⟩=_:=((TA.out _).cell (p:=⟨gi,oi+k * 4,none⟩) hgi (λh=>h)).trans f0
   have q1:((w.alloc (.cells #[.string s,.int .i64 n] 49)).drewN n').cell? ⟨gi,oi+k * 4+1,none⟩=_:=((TA.out _).cell (p:=⟨gi,oi+k * 4+1,none⟩) hgi (λh=>h)).trans f1
   have hlti:(k:Int)<(l.length:Int):=by omega
   clear hcell q0 q1
   by_cases he:l[k].1=(s,n)
   ·have e1:l[k].1.1=s:=by rw [he]
    have e2:l[k].1.2=n:=by rw [he]
    rw [e1] at f0
    rw [e2] at f1
    have HF:Hid (Xa l (s,n)=some k):=Jfm hlt he HN.o
    clear he e1 e2
    go_wp2
    go_region
    all_goals go_wp2
    all_goals go_ret
    all_goals exact ⟨by unfold Yv;rw [HF.o];rfl,(TA.out _).trans (Tch.drewN NoB _ _) noE⟩
   ·have HE:Hid _:=he
    have hrl:∃n2:Nat,True:=⟨0,trivial⟩
    generalize hx:l[k].1=x at *
    obtain ⟨xs,xn⟩:=x
    simp only at f0 f1
    have HX:Hid _:=hx
    clear hx
    by_cases hs:xs.toList=s.toList
    ·have hs':xs=s:=JhG hs
     subst hs'
     have hn:¬xn=n:=λe=>he (by rw [e])
     clear he hs
     go_wp2
     go_region
     all_goals go_wp2
     all_goals go_roundw
     case rel=>exact ⟨k+1,n'+1,by omega,by go_num,rfl,λj hj hjk=>by
      by_cases e:j=k
      ·subst e;exact λh=>HE.o (HX.o.symm.trans h)
      ·exact HN.o j hj (by omega)⟩
     case measure=>simp [intOf];omega
    ·clear he
     go_wp2
     go_region
     all_goals go_wp2
     all_goals go_roundw
     case rel=>exact ⟨k+1,n'+1,by omega,by go_num,rfl,λj hj hjk=>by
      by_cases e:j=k
      ·subst e;exact λh=>HE.o (HX.o.symm.trans h)
      ·exact HN.o j hj (by omega)⟩
     case measure=>simp [intOf];omega
  ·have HK:Hid (Xa l (s,n)=none):=JjL (λj hj=>HN.o j hj (by omega))
   have hge:¬(k:Int)<(l.length:Int):=by omega
   go_wp2
   go_ret
   exact ⟨by unfold Yv;rw [HK.o];rfl,(TA.out _).trans (Tch.drewN NoB _ _) noE⟩

def JcC (h:Held):List Value:=[.string h.1.1,.int .i64 h.1.2,.int .u64 ((h.2.1:Nat):Int),.int .u8 ((h.2.2:Nat):Int)]
def XL (l:List Held):List Value:=l.flatMap JcC
theorem Ja7 (l:List Held):(XL l).length=l.length * 4:=by
 induction l with
 | nil=>rfl
 | cons x r ih=>simp only [XL,QG,Qe] at ih ⊢;rw [ih];simp [JcC];omega
theorem Jib (l:List Held):∀u∈XL l,u.oneCell'=true:=by
 intro u hu
 simp only [XL,List.mem_flatMap,JcC] at hu
 obtain ⟨x,_,hu⟩:=hu
 simp only [List.mem_cons,QD,or_false] at hu
 rcases hu with rfl | rfl | rfl | rfl <;> rfl
theorem Jeo (l l':List Held):XL (l++l')=XL l++XL l':=by simp [XL]
theorem JdP (l:List Held):∀(i:Nat) (h:i<l.length),(XL l)[i * 4]? =some (.string l[i].1.1)/\(XL l)[i * 4+1]? =some (.int .i64 l[i].1.2)/\(XL l)[i * 4+2]? =some (.int .u64 ((l[i].2.1:Nat):Int))/\(XL l)[i * 4+3]? =some (.int .u8 ((l[i].2.2:Nat):Int)):=by
 induction l with
 | nil=>intro i h;simp at h
 | cons x r ih=>
  intro i h
  cases i with
  | zero=>simp [XL,JcC]
  | succ i=>
   have:=ih i (by simpa using h)
   have e:∀j,(XL (x :: r))[(i+1) * 4+j]? =(XL r)[i * 4+j]? :=by
    intro j
    show (JcC x++XL r)[(i+1) * 4+j]? =_
    rw [Qz (by simp [JcC];omega)]
    congr 1;simp [JcC];omega
   refine ⟨?_,?_,?_,?_⟩
   ·have:=e 0;rw [Nat.add_zero,Nat.add_zero] at this;rw [this];simpa using (ih i (by simpa using h)).1
   ·rw [e 1];simpa using (ih i (by simpa using h)).2.1
   ·rw [e 2];simpa using (ih i (by simpa using h)).2.2.1
   ·rw [e 3];simpa using (ih i (by simpa using h)).2.2.2
theorem Xh.cells {w:World} {g o:Nat} {l:List Held} (h:∀i (h:i<l.length),w.cell? ⟨g,o+i * 4,none⟩=some (.string l[i].1.1)/\w.cell? ⟨g,o+i * 4+1,none⟩=some (.int .i64 l[i].1.2)/\w.cell? ⟨g,o+i * 4+2,none⟩=some (.int .u64 ((l[i].2.1:Nat):Int))/\w.cell? ⟨g,o+i * 4+3,none⟩=some (.int .u8 ((l[i].2.2:Nat):Int))):
  ∀j u,(XL l)[j]? =some u->w.cell? (Addr.add ⟨g,o,none⟩ j)=some u:=by
 intro j u hu
 have hj:j<l.length * 4:=by have:=(Qo.1 hu).1;rw [Ja7] at this;exact this
 obtain ⟨e0,e1,e2,e3⟩:=JdP l (j / 4) (by omega)
 obtain ⟨f0,f1,f2,f3⟩:=h (j / 4) (by omega)
 rw [Addr.add_lit]
 obtain hm | hm | hm | hm:j % 4=0\/j % 4=1\/j % 4=2\/j % 4=3:=by omega
 ·rw [show j / 4 * 4=j by omega] at e0;rw [show o+j / 4 * 4=o+j by omega] at f0;rw [f0,<-e0,hu]
 ·rw [show j / 4 * 4+1=j by omega] at e1;rw [show o+j / 4 * 4+1=o+j by omega] at f1;rw [f1,<-e1,hu]
 ·rw [show j / 4 * 4+2=j by omega] at e2;rw [show o+j / 4 * 4+2=o+j by omega] at f2;rw [f2,<-e2,hu]
 ·rw [show j / 4 * 4+3=j by omega] at e3;rw [show o+j / 4 * 4+3=o+j by omega] at f3;rw [f3,<-e3,hu]
def HOwn (base:Nat) (w:World) (v:Value) (l:List Held):Prop:=w.ownsRow base 87 4 v l.length (XL l)
theorem HOwn.nil (base:Nat) (w:World):HOwn base w (.slice none 0 0) []:=⟨rfl,.inl ⟨rfl,rfl⟩⟩
theorem HOwn.at {base:Nat} {w:World} {v:Value} {l:List Held} (h:HOwn base w v l):Xh w v l:=by
 obtain ⟨_,⟨rfl,h0⟩ | ⟨g,cap,cur,rfl,_,hrow,_,_,hsz,htake⟩⟩:=h
 ·exact .inl ⟨rfl,List.eq_nil_of_length_eq_zero h0⟩
 ·refine .inr ⟨g,0,cap,rfl,(Jb hrow),λi hi=>?_⟩
  obtain ⟨e0,e1,e2,e3⟩:=JdP l i hi
  have hc:∀j u,(XL l)[j]? =some u->w.cell? ⟨g,0+j,none⟩=some u:=by
   intro j u hu
   rw [<-htake] at hu
   have hj:=(Qo.1 hu).1
   rw [List.getElem?_take_of_lt (by rw [QB] at hj;omega)] at hu
   rw [Ja hrow,Nat.zero_add,<-Array.getElem?_toList]
   exact hu
  exact ⟨hc _ _ e0,hc _ _ e1,hc _ _ e2,hc _ _ e3⟩
theorem HOwn.own {base:Nat} {w:World} {v:Value} {l:List Held} (h:HOwn base w v l):∀k,v.ownBlock=some k->base<=k/\k<w.heap.size:=by
 obtain ⟨_,⟨rfl,h0⟩ | ⟨g,cap,cur,rfl,hb,hrow,_⟩⟩:=h
 ·intro k hk;cases hk
 ·intro k hk;cases hk;exact ⟨hb,(Jb hrow)⟩
theorem HOwn.tch {base:Nat} {w w':World} {v:Value} {l:List Held} {S:Nat->Prop} (h:HOwn base w v l) (k:Tch S w w') (hs:∀j,v.ownBlock=some j->¬S j):HOwn base w' v l:=by
 obtain ⟨h1,⟨rfl,h0⟩ | ⟨g,cap,cur,rfl,hb,hrow,h2⟩⟩:=h
 ·exact ⟨h1,.inl ⟨rfl,h0⟩⟩
 ·exact ⟨h1,.inr ⟨g,cap,cur,rfl,hb,(k.block g (Jb hrow) (hs g rfl)).trans hrow,h2⟩⟩
theorem HOwn.grow {base:Nat} {w w' W:World} {v:Value} {l:List Held} (h:HOwn base w v l) (hg:w.grownBy w' v.ownBlock) (hW:W.heap.size<=base) (k:Tch NoB W w):Tch NoB W w':=
 k.trans (Tch.grown hg) (λj hj=>by
  have:=(h.own j hj.symm).1
  exact .inr (by omega))
theorem Jid:(prog.info? 87).map (λi=>(i.zero,i.size,i.bytes))=some (some (.agg #[.string ⟨#[]⟩,.int .i64 0,.int .u64 0,.int .u8 0]),4,40):=by kernel_rfl
theorem Jad {base:Nat} {w:World} {v:Value} {l:List Held} (h:HOwn base w v l) (x:Value) (l2:List Held) (hx:Xh w x l2) (ty:TypeId) (hb:l.length+l2.length<=1000000000) (hbase:base<=w.heap.size):
  ∃v' w',(Builtin.append_ #[43,43] ty #[v,x]).run prog w=.ok v' w'/\HOwn base w' v' (l++l2)/\w.grownBy w' v.ownBlock:=by
 obtain ⟨i,hi,hp⟩:=Option.map_eq_some_iff.1 Jid
 simp only [Qw] at hp
 obtain ⟨hz,hsz,hby⟩:=hp
 rcases hx with ⟨rfl,rfl⟩ | ⟨g,o,c,rfl,hg,hcell⟩
 ·exact ⟨v,w,run_append_owned_none (P:=prog) (w:=w) base 43 ty 87 i 4 underlying43 hi v l.length (XL l) h,by rw [QC];exact h,World.grownBy.refl _ _⟩
 ·obtain ⟨v',w',hr,h2,h3,h4⟩:=run_append_own (P:=prog) w base 43 ty 87 i _ 4 40 underlying43 hi hz hsz hby rfl (by omega) v l.length (XL l) h ⟨g,o,none⟩ l2.length c (XL l2) (Ja7 l2) (Xh.cells hcell) (Jib l2) (by simp only [maxLen];omega) (by omega) hbase
  exact ⟨v',w',hr,by unfold HOwn;rw [Qe,Jeo];exact h2,h3⟩
theorem Xo {base:Nat} {w:World} {ops:Array Oper} {rest:List Oper} {o:Oper} {a:Act} {Q:Exit->Act->World->Prop} (hgd:o.guard=none) (s x:Operand)
  (ho:o.op=.call { callee:=.builtin .append,args:= #[s,x],argTypes:= #[43,43] })
  {v:Value} {l:List Held} (hv:a.eval s=v) (h:HOwn base w v l) (xv:Value) (l2:List Held) (hx:a.eval x=xv) (hs:Xh w xv l2) (hb:l.length+l2.length<=1000000000) (hbase:base<=w.heap.size)
  (hK:∀v' w',HOwn base w' v' (l++l2)->w.grownBy w' v.ownBlock->wpList prog ops Q rest (a.put o.dst v') w'):wpList prog ops Q (o :: rest) a w:=by
 refine wpList_plain hgd λK hK'=>?_
 obtain ⟨v',w',hrun,r,r2⟩:=Jad h xv l2 hs o.type hb hbase
 unfold Oper.wp
 simp [execOp,ho,resolve,invoke,builtin,hv,hx,hrun,Result.andThen]
 exact hK' _ _ (hK v' w' r r2)
theorem JbN {base:Nat} {ops:Array Oper} {o:Oper} {a:Act} {w:World} {K:Act->World->Prop} {Q:Exit->Act->World->Prop} {E:Prop}
  (hgd:o.guard=none) (s x:Operand) (ho:o.op=.call { callee:=.builtin .append,args:= #[s,x],argTypes:= #[43,43] })
  {v:Value} {l:List Held} (hv:a.eval s=v) (h:HOwn base w v l) (xv:Value) (l2:List Held) (hx:a.eval x=xv) (hs:Xh w xv l2) (hb:l.length+l2.length<=1000000000) (hbase:base<=w.heap.size)
  (hK:∀v' w',HOwn base w' v' (l++l2)->w.grownBy w' v.ownBlock->K (a.put o.dst v') w'):
  if Region.wanted o (yielded ops a.tmps)=true then Oper.wp prog o a w K Q else E:=by
 have hw:Region.wanted o (yielded ops a.tmps)=true:=by simp [Region.wanted,hgd]
 rw [if_pos hw]
 obtain ⟨v',w',hrun,r,r2⟩:=Jad h xv l2 hs o.type hb hbase
 unfold Oper.wp
 simp [execOp,ho,resolve,invoke,builtin,hv,hx,hrun,Result.andThen]
 exact hK v' w' r r2
def XY (w:World) (v:Value) (l:List Held):Prop:=Xh w v l/\∀j,v.ownBlock=some j->∃cur m,w.heap[j]? =some (.cells cur 87 m)
theorem HOwn.t {base:Nat} {w:World} {v:Value} {l:List Held} (h:HOwn base w v l):XY w v l:=by
 refine ⟨h.at,?_⟩
 obtain ⟨_,⟨rfl,h0⟩ | ⟨g,cap,cur,rfl,hb,hrow,_⟩⟩:=h
 ·intro k hk;cases hk
 ·intro k hk;cases hk;exact ⟨cur,_,hrow⟩
theorem XY.tch {w w':World} {v:Value} {l:List Held} {S:Nat->Prop} (h:XY w v l) (k:Tch S w w') (hs:∀j,v.ownBlock=some j->¬S j):XY w' v l:=by
 obtain ⟨h1,h2⟩:=h
 refine ⟨?_,λj hj=>?_⟩
 ·rcases h1 with h | ⟨gi,oi,c,rfl,hl,h3⟩
  ·exact .inl h
  ·refine .inr ⟨gi,oi,c,rfl,Qk hl k.size,λi hi=>?_⟩
   have hc:∀o,w'.cell? ⟨gi,o,none⟩=w.cell? ⟨gi,o,none⟩:=λo=>k.cell (p:=⟨gi,o,none⟩) hl (hs gi rfl)
   rw [hc,hc,hc,hc];exact h3 i hi
 ·obtain ⟨cur,m,hr⟩:=h2 j hj
  exact ⟨cur,m,(k.block j (Jb hr) (hs j hj)).trans hr⟩
theorem HOwn.shape {base:Nat} {w:World} {v:Value} {l:List Held} (h:HOwn base w v l):∃a c,v=.slice a l.length c:=h.at.shape
