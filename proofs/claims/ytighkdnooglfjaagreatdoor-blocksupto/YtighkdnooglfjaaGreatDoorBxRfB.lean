import Derived.Test.YtighkdnooglfjaaGreatDoorBxRfA
import Derived.Test.YtighkdnooglfjaaGreatDoorBxRText
import Derived.Test.YtighkdnooglfjaaGreatDoorBxChA
import Derived.Test.YtighkdnooglfjaaGreatDoorBxKLast
namespace Go.Proofs.YtighkdnooglfjaaGreatDoor
set_option maxRecDepth 100000
set_option maxHeartbeats 1000000
open Go.RowKit

theorem XR (x:Int) (hx:U32 x) (n:Nat) (h:n∈[2,6,7,11,13,17,18,19,22,25]) (w:World):
  Calls Tryz.prog 252 #[.int .i64 x,.int .i64 (n:Int)] w λe w'=>e=.returned (.int .i64 (rr n x))/\Tch NoB w w':=by
 have h0:=hx.1
 have h1:=hx.2
 have hn:1<=n/\n<=31:=by
  simp only [List.mem_cons,QD,or_false] at h
  omega
 obtain ⟨e1,e2,e3,e4⟩:=Jie hx n hn.1 hn.2
 simp only [List.mem_cons,QD,or_false] at h
 rcases h with rfl | rfl | rfl | rfl | rfl | rfl | rfl | rfl | rfl | rfl
 all_goals
  simp only [Nat.reduceSub,Int.reducePow] at e1 e2 e3 e4
  go_enter Tryz.func252,Tryz.ntmps252
  go_wp2_with fail
  go_quiet (fail)
  go_wp2
  go_ret
  refine ⟨?_,Td _ _ _⟩
  rw [<-e1]
  rfl

def padS (l:List UInt8):List UInt8:=l++[128]++List.replicate (zs l.length) 0++beL (l.length * 8) 8 8
theorem Jko (n:Nat):be8 n 8=beL n 8 8:=by
 simp [be8,beL,List.range_succ]
theorem JaB:∀(n:Nat) (s:S8) (l r:List UInt8),64 * n<=l.length->JL n s (l++r)=JL n s l
 | 0,_,_,_,_=>rfl
 | n+1,s,l,r,h=>by
  unfold JL
  rw [JaB n s l r (by omega),List.drop_append_of_le_length (by omega),List.take_append_of_le_length (by rw [List.length_drop];omega)]
theorem Jdy (m:Nat) (s:S8) (l r:List UInt8) (h:l.length=64 * m):∀n,JL (m+n) s (l++r)=JL n (JL m s l) r
 | 0=>JaB m s l r (by omega)
 | n+1=>by
  show comp (JL (m+n) s (l++r)) (((l++r).drop (64 * (m+n))).take 64)=comp (JL n (JL m s l) r) ((r.drop (64 * n)).take 64)
  rw [Jdy m s l r h n,show 64 * (m+n)=l.length+64 * n by omega,List.drop_append]
  have e:l.drop (l.length+64 * n)=[]:=List.drop_eq_nil_of_le (by omega)
  rw [e,List.nil_append,Nat.add_sub_cancel_left]
theorem Jfm (l:List UInt8):(padS l).length % 64=0/\(padS l).length<=l.length+73:=by
 unfold padS
 simp only [Qe,List.length_singleton,List.length_replicate,Je,zs]
 omega
theorem Jfu (l:List UInt8):shaS l=JL ((padS l).length / 64) H0 (padS l):=by
 obtain ⟨q,hq⟩:∃q,q=l.length / 64:=⟨_,rfl⟩
 have hl:(l.take (64 * q)).length=64 * q:=by rw [QB];omega
 have hz:zs (l.drop (64 * q)).length=zs l.length:=by
  rw [List.length_drop];unfold zs;omega
 have e:padS l=l.take (64 * q)++padL (l.drop (64 * q)) l.length:=by
  unfold padS padL
  rw [Jko,hz]
  simp only [<-Qs,List.take_append_drop]
 have e2:JL q H0 l=JL q H0 (l.take (64 * q)):=by
  have:=JaB q H0 (l.take (64 * q)) (l.drop (64 * q)) (by omega)
  rwa [List.take_append_drop] at this
 unfold shaS
 rw [<-hq,e,e2,<-Jdy q H0 _ _ hl]
 congr 1
 rw [Qe,hl]
 omega
theorem JiG (s:S8) (b:List UInt8):∀x∈(comp s b).list,U32 x:=by
 intro x hx
 unfold comp addS S8.list at hx
 simp only [List.mem_cons,QD,or_false] at hx
 rcases hx with rfl | rfl | rfl | rfl | rfl | rfl | rfl | rfl <;> exact Jcc _
theorem Jbu:∀(n:Nat) (s:S8) (l:List UInt8),(∀x∈s.list,U32 x)->∀x∈(JL n s l).list,U32 x
 | 0,_,_,h=>h
 | _+1,_,_,_=>JiG _ _
theorem JfI:∀x∈H0.list,U32 x:=by
 intro x hx
 unfold H0 S8.list at hx
 simp only [List.mem_cons,QD,or_false] at hx
 rcases hx with rfl | rfl | rfl | rfl | rfl | rfl | rfl | rfl <;> (unfold U32;omega)
def outL (s:S8) (k:Nat):List UInt8:=(s.list.take k).flatMap λx=>beL x.toNat 4 4
theorem JhO (s:S8) (k:Nat) (hk:k<8):outL s (k+1)=outL s k++beL (s.list.getD k 0).toNat 4 4:=by
 have hl:k<s.list.length:=hk
 unfold outL
 rw [QR hl,List.flatMap_append]
 simp [List.getD_eq_getElem?_getD,hl]
theorem Jcp {α β:Type} {f g:α->List β}:∀(l:List α),(∀x∈l,f x=g x)->l.flatMap f=l.flatMap g
 | [],_=>rfl
 | x :: r,h=>by rw [QG,QG,h x QN,Jcp r (λy hy=>h y (QQ _ hy))]
theorem JiL (l:List UInt8):digL l=outL (shaS l) 8:=by
 have hu:∀x∈(shaS l).list,U32 x:=by rw [Jfu];exact Jbu _ _ _ JfI
 unfold digL
 generalize shaS l=s at *
 have hb:∀x∈s.list,((List.range 4).map λj=>UInt8.ofNat (Zs x j).toNat)=beL x.toNat 4 4:=λx hx=>by
  obtain ⟨a,rfl,ha⟩:=(hu x hx).nat
  simp only [Zs,List.range_succ,List.range_zero,List.map_cons,List.map_nil,List.nil_append,List.cons_append,beL,Int.toNat_natCast]
  have hx:∀n:Nat,UInt8.ofNat ((a:Int) / 2 ^ n % 256).toNat=UInt8.ofNat (a / 2 ^ n):=λn=>by
   have e:((a:Int) / 2 ^ n % 256).toNat=a / 2 ^ n % 256:=by
    have:((a:Int) / 2 ^ n % 256)=((a / 2 ^ n % 256:Nat):Int):=by simp
    rw [this,Int.toNat_natCast]
   rw [e]
   apply UInt8.toNat_inj.1
   simp
  rw [hx,hx,hx,hx]
 have h8:asB s 32=s.list.flatMap λx=>(List.range 4).map λj=>Zs x j:=by
  obtain ⟨a,b,c,d,e,f,g,h⟩:=s
  clear hb hu
  simp [asB,S8.list,List.range_succ]
 rw [h8,List.map_flatMap]
 unfold outL
 have ht:s.list.take 8=s.list:=QS (by unfold S8.list;exact Ql _)
 rw [ht]
 refine Jcp _ (λx hx=>?_)
 rw [<-hb x hx,List.map_map]
 rfl
open Tryz

theorem Jjx (s:BA) (w:World) (hs:s.size<1152921504606846976):
  Calls prog 249 #[.string s] w λe w'=>e=.returned (.string ⟨(padS s.data.toList).toArray⟩)/\Tch NoB w w':=by
 have HIB:Hid (∀V,Calls prog 171 #[.int .u64 ((s.size * 8:Nat):Int),.int .i64 8] V λe w'=>e=.returned (.string ⟨(beL (s.size * 8) 8 8).toArray⟩)/\Tch NoB V w'):=λV=>Ya (s.size * 8) 8 V (by omega)
 have hcv:IntKind.u64.wrap (s.size:Int)=(s.size:Int):=by simp [IntKind.wrap,IntKind.bits,IntKind.signed];omega
 have hmu:IntKind.u64.wrap ((s.size:Int) * 8)=((s.size * 8:Nat):Int):=by simp [IntKind.wrap,IntKind.bits,IntKind.signed];omega
 have HZ:Hid (zs s.size=(119 - s.size % 64) % 64):=rfl
 have hz:zs s.size<=63:=by have:=HZ.o;omega
 have HPD:Hid (padS s.data.toList=s.data.toList++[128]++List.replicate (zs s.size) 0++beL (s.size * 8) 8 8):=by
  show padS _=_
  unfold padS
  rw [show s.data.toList.length=s.size by simp only [QA];rfl]
 generalize padS s.data.toList=PS at *
 go_enter func249,ntmps249
 go_wp2
 go_loopw [3] (λv wr=>∃(k:Nat) (q:BA),k<=zs s.size/\v=.string q/\q.size=s.size+1+k/\Hid (q.data.toList=s.data.toList++[128]++List.replicate k 0)/\wr=w) (λv _=>s.size+100 - JbC v)
 case atStart=>exact ⟨0,_,Nat.zero_le _,rfl,by simp [ByteArray.size_append];rfl,by show _=_;simp,rfl⟩
 case round=>
  obtain ⟨k,q,hk,rfl,hq,HQ,rfl⟩:=hrel
  have HQS:Hid (q.size=s.size+1+k):=hq
  have hqb:q.size<1152921504606847100:=by omega
  by_cases hlt:k<zs s.size
  ·have t1:¬(q.size:Int) % 64=56:=by have:=HZ.o;omega
   clear hq
   go_wp2
   go_roundw
   case rel=>
    refine ⟨k+1,_,hlt,rfl,?_,?_,trivial⟩
    ·have:=HQS.o
     rw [ByteArray.size_append,this]
     rfl
    ·show _=_
     have:=HQ.o
     rw [ByteArray.data_append,Array.toList_append,this,List.replicate_succ']
     simp
   case measure=>
    have:=HQS.o
    simp only [JbC,ByteArray.size_append]
    show _ - (q.size+1)<_
    omega
  ·have t1:(q.size:Int) % 64=56:=by have:=HZ.o;omega
   have HK:Hid (k=zs s.size):=(by omega:k=zs s.size)
   clear hq
   go_wp2_with fail
   refine (HIB.o _).mono ?_
   rintro _ w1 ⟨rfl,ht⟩
   have HT:Hid (Tch NoB wr w1):=ht
   obtain ⟨B8,hB8⟩:∃B8:BA,B8=⟨(beL (s.size * 8) 8 8).toArray⟩:=⟨_,rfl⟩
   have HB8:Hid (B8=_):=hB8
   have hb8:B8.size=8:=by rw [hB8,Jk,Je]
   rw [<-hB8]
   clear ht hB8
   go_wp2
   go_ret
   refine ⟨?_,HT.o⟩
   show Ending.returned (Value.string (q++B8))=_
   congr 2
   refine JgP ?_
   have:=HQ.o
   rw [ByteArray.data_append,Array.toList_append,this,HPD.o,HB8.o,HK.o]

def zV (l:List Int):List Value:=l.map λn=>.int .i64 n
def ZOwn (base:Nat) (w:World) (v:Value) (l:List Int):Prop:=w.ownsRow base 3 1 v l.length (zV l)
theorem ZOwn.nil (base:Nat) (w:World):ZOwn base w (.slice none 0 0) []:=⟨rfl,.inl ⟨rfl,rfl⟩⟩
theorem ZOwn.tch {base:Nat} {w w':World} {v:Value} {l:List Int} {S:Nat->Prop} (h:ZOwn base w v l) (k:Tch S w w') (hs:∀j,v.ownBlock=some j->¬S j):ZOwn base w' v l:=by
 obtain ⟨h1,⟨rfl,h0⟩ | ⟨g,cap,cur,rfl,hb,hrow,h2⟩⟩:=h
 ·exact ⟨h1,.inl ⟨rfl,h0⟩⟩
 ·exact ⟨h1,.inr ⟨g,cap,cur,rfl,hb,(k.block g (Jb hrow) (hs g rfl)).trans hrow,h2⟩⟩
theorem ZOwn.own {base:Nat} {w:World} {v:Value} {l:List Int} (h:ZOwn base w v l):∀k,v.ownBlock=some k->base<=k/\k<w.heap.size:=by
 obtain ⟨_,⟨rfl,h0⟩ | ⟨g,cap,cur,rfl,hb,hrow,_⟩⟩:=h
 ·intro k hk;cases hk
 ·intro k hk;cases hk;exact ⟨hb,(Jb hrow)⟩
theorem ZOwn.at {base:Nat} {w:World} {v:Value} {l:List Int} (h:ZOwn base w v l) (hl:l ≠ []):∃g cap,v=.slice (some ⟨g,0,none⟩) l.length cap/\g<w.heap.size/\∀i (hi:i<l.length),w.cell? ⟨g,i,none⟩=some (.int .i64 l[i]):=by
 obtain ⟨_,⟨rfl,h0⟩ | ⟨g,cap,cur,rfl,hb,hrow,_,_,hsz,htake⟩⟩:=h
 ·exact absurd (QP h0) hl
 ·refine ⟨g,cap,rfl,(Jb hrow),λi hi=>?_⟩
  rw [Ja hrow,<-Array.getElem?_toList]
  have e:(zV l)[i]? =some (.int .i64 l[i]):=by simp [zV,hi]
  rw [<-htake,List.getElem?_take_of_lt (by omega)] at e
  exact e
theorem ZOwn.shape {base:Nat} {w:World} {v:Value} {l:List Int} (h:ZOwn base w v l):∃a c,v=.slice a l.length c:=by
 obtain ⟨_,⟨rfl,h0⟩ | ⟨g,cap,cur,rfl,_⟩⟩:=h
 ·exact ⟨none,0,by rw [h0]⟩
 ·exact ⟨_,_,rfl⟩
theorem JfX:(prog.info? 3).map (λi=>(i.zero,i.size,i.bytes))=some (some (.int .i64 0),1,8):=by kernel_rfl
theorem Ja7 {base:Nat} {w:World} {v:Value} {l:List Int} (h:ZOwn base w v l) (k:Nat) (x:Int) (hx:w.cell? ⟨k,0,none⟩=some (.int .i64 x)) (ty:TypeId) (hb:l.length<=10000000000) (hbase:base<=w.heap.size):
  ∃v' w',(Builtin.append_ #[62,62] ty #[v,.slice (some ⟨k,0,none⟩) 1 1]).run prog w=.ok v' w'/\ZOwn base w' v' (l++[x])/\w.grownBy w' v.ownBlock/\(∀j,v'.ownBlock=some j->v.ownBlock=some j\/w.heap.size<=j):=by
 obtain ⟨i,hi,hp⟩:=Option.map_eq_some_iff.1 JfX
 simp only [Qw] at hp
 obtain ⟨hz,hsz,hby⟩:=hp
 obtain ⟨v',w',hr,h2,h3,h4,h5⟩:=run_append_own_at (P:=prog) (w:=w) base 62 ty 3 i _ 1 8 underlying62 hi hz hsz hby rfl (by omega) v l.length (zV l) h ⟨k,0,none⟩ 1 1 (zV [x]) rfl (λj u hu=>by
  cases j with
  | zero=>simp only [zV,List.map_cons,List.map_nil,List.getElem?_cons_zero,Qh] at hu;rw [<-hu,Addr.add_lit];exact hx
  | succ j=>simp [zV] at hu) (λu hu=>by simp only [zV,List.map_cons,List.map_nil,Qt] at hu;rw [hu];rfl) (by simp only [maxLen];omega) (by omega) hbase
 exact ⟨v',w',hr,by unfold ZOwn;rw [Qe,show zV (l++[x])=zV l++zV [x] by simp [zV]];exact h2,h3,λj hj=>by
  rcases h5 with e | e
  ·exact .inl (e ▸ hj)
  ·rw [hj] at e;cases e;exact .inr (Ql _)⟩
theorem Jb4 {base:Nat} {w:World} {ops:Array Oper} {rest:List Oper} {o:Oper} {a:Act} {Q:Exit->Act->World->Prop} (hgd:o.guard=none) (s x:Operand)
  (ho:o.op=.call { callee:=.builtin .append,args:= #[s,x],argTypes:= #[62,62] })
  {v:Value} {l:List Int} (hv:a.eval s=v) (h:ZOwn base w v l) (k:Nat) (y:Int) (hx:a.eval x=.slice (some ⟨k,0,none⟩) 1 1) (hc:w.cell? ⟨k,0,none⟩=some (.int .i64 y)) (hb:l.length<=10000000000) (hbase:base<=w.heap.size)
  (hK:∀v' w',ZOwn base w' v' (l++[y])->w.grownBy w' v.ownBlock->wpList prog ops Q rest (a.put o.dst v') w'):wpList prog ops Q (o :: rest) a w:=by
 refine wpList_plain hgd λK hK'=>?_
 obtain ⟨v',w',hrun,r,r2,r3⟩:=Ja7 h k y hc o.type hb hbase
 unfold Oper.wp
 simp [execOp,ho,resolve,invoke,builtin,hv,hx,hrun,Result.andThen]
 exact hK' _ _ (hK v' w' r r2)
theorem ZB {w w1:World} {ops:Array Oper} {o:Oper} {a:Act} {K:Act->World->Prop} {Q:Exit->Act->World->Prop} {E:Prop} {t:TypeId} {v y v1:Value} (hrun:(Builtin.append_ #[t,t] o.type #[v,y]).run prog w=.ok v1 w1) (hgd:o.guard=none) (s x:Operand)
  (ho:o.op=.call { callee:=.builtin .append,args:= #[s,x],argTypes:= #[t,t] }) (hv:a.eval s=v) (hx:a.eval x=y) (hK:K (a.put o.dst v1) w1):if Region.wanted o (yielded ops a.tmps)=true then Oper.wp prog o a w K Q else E:=by
 have hw:Region.wanted o (yielded ops a.tmps)=true:=by simp [Region.wanted,hgd]
 rw [if_pos hw]
 unfold Oper.wp
 simp [execOp,ho,resolve,invoke,builtin,hv,hx,hrun,Result.andThen]
 exact hK
theorem Jab {P:Program} {Q:Exit->Act->World->Prop} {S:World->Prop} {id:Nat} {a:Act} {w:World} {L:List Oper} (n1 n2:Nat) (hne:L ≠ []) (hne2:L.dropLast ≠ []) (hm:P.follows .mixedOrders=true) (hB1:Je9 .any L.dropLast.dropLast (L.dropLast.getLast hne2) n1=true) (hB2:Je9 .any L.dropLast (L.getLast hne) n2=true) (hS:S w.drew)
  (h:S w.drew->∀l o1 o2,L.dropLast.dropLast=l->L.dropLast.getLast hne2=o1->L.getLast hne=o2->wpAnyH P .any l.toArray (Jdm P L.dropLast.toArray o1 (Jdm P L.toArray o2 Q)) S l.length (Array.replicate l.length false) a w.drew):(Code.region id L.toArray true).wp P Q a w:=by
 refine wp_region_any hm ?_
 have e:L=L.dropLast++[L.getLast hne]:=(List.dropLast_concat_getLast hne).symm
 have e':L.dropLast=L.dropLast.dropLast++[L.dropLast.getLast hne2]:=(List.dropLast_concat_getLast hne2).symm
 have h1:=wpAny_of_held _ _ _ _ (h hS _ _ _ rfl rfl rfl)
 have h2:=JaJ (Q:=Jdm P L.toArray (L.getLast hne) Q) hB1 L.dropLast.dropLast.length (Array.replicate L.dropLast.dropLast.length false) a w.drew (by simp) (λi o _ hi=>by simp [Array.getD] at hi) (by rw [<-e'];exact h1)
 rw [<-e',YV] at h2
 have hl':L.dropLast.dropLast.length+1=L.dropLast.length:=by
  have:=congrArg List.length e'
  simpa using this.symm
 rw [hl'] at h2
 have h3:=JaJ (Q:=Q) hB2 L.dropLast.length (Array.replicate L.dropLast.length false) a w.drew (by simp) (λi o _ hi=>by simp [Array.getD] at hi) (by rw [<-e];exact h2)
 rw [<-e,YV] at h3
 have hl:L.dropLast.length+1=L.toArray.size:=by
  have:=congrArg List.length e
  simpa using this.symm
 rw [hl] at h3
 exact h3
theorem JdA {w w':World} {r:Option Nat} (h:w.grownBy w' r):Tch (λj=>some j=r) w w':=Tg h
