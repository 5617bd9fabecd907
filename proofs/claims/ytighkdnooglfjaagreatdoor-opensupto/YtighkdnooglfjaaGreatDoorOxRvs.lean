import Derived.Shelf.SlicesE.Reverse
import Derived.Test.YtighkdnooglfjaaGreatDoorOxVfC
namespace Go.Proofs
open Tryz
open Go.Shelf
def Jdo:Go.Shelf.Ren:=⟨fun | 35=>290 | n=>n,fun | 22=>58 | 23=>9 | 3=>3 | 4=>4 | 0=>0 | n=>n,fun | n=>n⟩
theorem Jii:SlLaysE.n35 prog Jdo:={
 mixed:=by kernel_rfl
 f35:=Exists.intro "slices.Reverse[[]string,string]" ⟨by decide,func290.trans (congrArg some (by kernel_rfl))⟩
 t0:=underlying0
 a0:=isAgg0
 z0:=sizeOf0
 v0:=zeroValue0
 t3:=underlying3
 a3:=isAgg3
 z3:=sizeOf3
 v3:=zeroValue3
 t4:=underlying4
 a4:=isAgg4
 z4:=sizeOf4
 v4:=zeroValue4
 t22:=underlying58
 a22:=isAgg58
 z22:=sizeOf58
 v22:=zeroValue58
 a23:=isAgg9
 z23:=sizeOf9 }
theorem YtighkdnooglfjaaGreatDoor.tch_putRow (w:World) (n blk off:Nat) (d:Array ByteArray):YtighkdnooglfjaaGreatDoor.Tch (λj=>j=blk) w (Go.Sort.putRow Value.string (Go.Sort.ahead w n) blk off d):=by
 refine ⟨rfl,rfl,rfl,by simp [Go.Sort.ahead],λk _ hk=>?_⟩
 simp only [Go.Sort.putRow,Go.Sort.mapBlock,Go.Sort.ahead]
 rw [Array.getElem?_modify,if_neg (λe=>hk e.symm)]
theorem YtighkdnooglfjaaGreatDoor.reverse_any (blk cap:Nat) (zs:List ByteArray) (w:World) (hc:∀j (h:j<zs.length),w.cell? ⟨blk,j,none⟩=some (.string zs[j])/\w.frozen? ⟨blk,j,none⟩=false) (hz:zs.length<=1000000):
  Calls prog 290 #[.slice (some ⟨blk,0,none⟩) zs.length cap] w λe w'=>e=.returned (.tuple #[])/\YtighkdnooglfjaaGreatDoor.Tch (λj=>j=blk) w w'/\∀j (h:j<zs.reverse.length),w'.cell? ⟨blk,j,none⟩=some (.string zs.reverse[j]):=by
 have hH:Go.Sort.Holds Value.string w blk 0 zs.toArray:=λj hj=>by
  have hj':j<zs.length:=by simpa using hj
  obtain ⟨h1,h2⟩:=hc j hj'
  rw [Nat.zero_add]
  refine ⟨?_,h2⟩
  rw [h1]
  simp [hj']
 refine (AnyE.slices_Reverse Jii Value.string (λ_=>rfl) blk 0 cap zs w hH (by omega)).mono ?_
 rintro e w' ⟨rfl,n,rfl⟩
 refine ⟨rfl,YtighkdnooglfjaaGreatDoor.tch_putRow _ _ _ _ _,λj h=>?_⟩
 have h0:Go.Sort.Holds Value.string (Go.Sort.ahead w n) blk 0 zs.toArray:=hH
 have:=Go.Sort.cell?_putRow Value.string (Go.Sort.ahead w n) blk 0 zs.toArray zs.reverse.toArray h0 (by simp) j (by simpa using h)
 rw [Nat.zero_add] at this
 rw [this]
 have hj':j<zs.length:=by simpa using h
 simp [hj']
end Go.Proofs
namespace Go.Proofs.YtighkdnooglfjaaGreatDoor
open Tryz
set_option maxRecDepth 100000
set_option maxHeartbeats 4000000
open Go.RowKit Go.Shelf

attribute [local go_sem] Oper.semAt_some

def nV (l:List BA):List Value:=l.map .string
def NOwn (base:Nat) (w:World) (v:Value) (l:List BA):Prop:=w.ownsRow base 9 1 v l.length (nV l)
theorem NOwn.nil (base:Nat) (w:World):NOwn base w (.slice none 0 0) []:=⟨rfl,.inl ⟨rfl,rfl⟩⟩
theorem NOwn.own {base:Nat} {w:World} {v:Value} {l:List BA} (h:NOwn base w v l):∀k,v.ownBlock=some k->base<=k/\∃cs m,w.heap[k]? =some (.cells cs 9 m):=by
 obtain ⟨_,⟨rfl,h0⟩ | ⟨g,cap,cur,rfl,hb,hrow,_⟩⟩:=h
 ·intro k hk;cases hk
 ·intro k hk;cases hk;exact ⟨hb,_,_,hrow⟩
theorem NOwn.tch {base:Nat} {w w':World} {v:Value} {l:List BA} {S:Nat->Prop} (h:NOwn base w v l) (k:Tch S w w') (hs:∀j,v.ownBlock=some j->¬S j):NOwn base w' v l:=by
 obtain ⟨h1,⟨rfl,h0⟩ | ⟨g,cap,cur,rfl,hb,hrow,h2⟩⟩:=h
 ·exact ⟨h1,.inl ⟨rfl,h0⟩⟩
 ·exact ⟨h1,.inr ⟨g,cap,cur,rfl,hb,(k.block g (Jb hrow) (hs g rfl)).trans hrow,h2⟩⟩
theorem NOwn.kept {base:Nat} {W W':World} {v:Value} {l:List BA} {row:Option Nat} (h:NOwn base W v l) (hg:W.grownBy W' row) (hr:∀r,row=some r->∃o:Obj,W.heap[r]? =some o/\o.isCells=false):NOwn base W' v l:=by
 obtain ⟨h1,⟨rfl,h0⟩ | ⟨g,cap,cur,rfl,hb,hrow,h2⟩⟩:=h
 ·exact ⟨h1,.inl ⟨rfl,h0⟩⟩
 ·exact ⟨h1,.inr ⟨g,cap,cur,rfl,hb,JY hrow hg hr,h2⟩⟩
theorem NOwn.at {base:Nat} {w:World} {v:Value} {l:List BA} (h:NOwn base w v l) (hl:l ≠ []):∃g cap,v=.slice (some ⟨g,0,none⟩) l.length cap/\base<=g/\g<w.heap.size/\(∃cs m,w.heap[g]? =some (.cells cs 9 m))/\∀i (hi:i<l.length),w.cell? ⟨g,i,none⟩=some (.string l[i])/\w.frozen? ⟨g,i,none⟩=false:=by
 obtain ⟨_,⟨rfl,h0⟩ | ⟨g,cap,cur,rfl,hb,hrow,_,_,hsz,htake⟩⟩:=h
 ·exact absurd (List.eq_nil_of_length_eq_zero h0) hl
 ·refine ⟨g,cap,rfl,hb,(Jb hrow),⟨_,_,hrow⟩,λi hi=>⟨?_,Qg _ _ _ _ _ hrow⟩⟩
  rw [Ja hrow,<-Array.getElem?_toList]
  have e:(nV l)[i]? =some (.string l[i]):=by simp [nV,hi]
  rw [<-htake,List.getElem?_take_of_lt (by omega)] at e
  exact e
theorem NOwn.shape {base:Nat} {w:World} {v:Value} {l:List BA} (h:NOwn base w v l):∃a c,v=.slice a l.length c:=by
 obtain ⟨_,⟨rfl,h0⟩ | ⟨g,cap,cur,rfl,hb,hrow,_⟩⟩:=h
 ·exact ⟨none,0,by rw [h0]⟩
 ·exact ⟨_,_,rfl⟩
theorem JdW {P:Program} (w:World) (ty:TypeId) (a:Addr) (v:Value) (ha:(isAgg ty).run P w=.ok false w) (hc:w.cell? a=some v):(loadVar ty a).run P w=.ok v w:=by
 simp only [loadVar,Sem.run_bind,ha,Result.andThen]
 simp [hc]
theorem JcT {P:Program} {fn:Func} {p p2:Tmp} {ty ty2:TypeId} (h:fn.results= #[.cell p ty,.cell p2 ty2]) (tmps:Array Value) (w:World) (a a2:Addr) (v v2:Value)
  (hp:tmps.getD p undef=.pointer (some a)) (hp2:tmps.getD p2 undef=.pointer (some a2)) (ha:(isAgg ty).run P w=.ok false w) (ha2:(isAgg ty2).run P w=.ok false w) (hc:w.cell? a=some v) (hc2:w.cell? a2=some v2):
  (results fn tmps).run P w=.ok (.tuple #[v,v2]) w:=by
 have hp':tmps[p]?.getD undef=.pointer (some a):=by simpa using hp
 have hp2':tmps[p2]?.getD undef=.pointer (some a2):=by simpa using hp2
 simp [results,h,hp',hp2',asAddr,JdW w ty a v ha hc,JdW w ty2 a2 v2 ha2 hc2]
theorem JjZ:(prog.info? 9).map (λi=>(i.zero,i.size,i.bytes))=some (some (.string ⟨#[]⟩),1,16):=by kernel_rfl
theorem JcW {base:Nat} {w:World} {v:Value} {l:List BA} (h:NOwn base w v l) (k:Nat) (x:BA) (hx:w.cell? ⟨k,0,none⟩=some (.string x)) (ty:TypeId) (hb:l.length<=10000000000) (hbase:base<=w.heap.size):
  ∃v' w',(Builtin.append_ #[58,58] ty #[v,.slice (some ⟨k,0,none⟩) 1 1]).run prog w=.ok v' w'/\NOwn base w' v' (l++[x])/\w.grownBy w' v.ownBlock:=by
 obtain ⟨i,hi,hp⟩:=Option.map_eq_some_iff.1 JjZ
 simp only [Qw] at hp
 obtain ⟨hz,hsz,hby⟩:=hp
 obtain ⟨v',w',hr,h2,h3,h4⟩:=run_append_own (P:=prog) w base 58 ty 9 i _ 1 16 underlying58 hi hz hsz hby rfl (by omega) v l.length (nV l) h ⟨k,0,none⟩ 1 1 (nV [x]) rfl (λj u hu=>by
  cases j with
  | zero=>simp only [nV,List.map_cons,List.map_nil,List.getElem?_cons_zero,Qh] at hu;rw [<-hu,Addr.add_lit];exact hx
  | succ j=>simp [nV] at hu) (λu hu=>by simp only [nV,List.map_cons,List.map_nil,Qt] at hu;rw [hu];rfl) (by simp only [maxLen];omega) (by omega) hbase
 exact ⟨v',w',hr,by unfold NOwn;rw [Qe,show nV (l++[x])=nV l++nV [x] by simp [nV]];exact h2,h3⟩
theorem Jdp {P:Program} {ops:Array Oper} {l n:Nat} {o:Oper} {rest:List Oper} {a:Act} {w w':World} {Q:Exit->Act->World->Prop} {v xv v':Value} (hgd:o.guard=none) (s x:Operand) (T:TypeId) (ho:o.op=.call { callee:=.builtin .append,args:= #[s,x],argTypes:= #[T,T] })
  (hv:a.eval s=v) (hx:a.eval x=xv) (hr:(Builtin.append_ #[T,T] o.type #[v,xv]).run P w=.ok v' w') (hK:wpListIn (Fence.wide.inRound l) n P ops Q rest (a.put o.dst v') w'):wpListIn (Fence.wide.inRound l) n P ops Q (o :: rest) a w:=by
 have hw:Region.wanted o (yielded ops a.tmps)=true:=by simp [Region.wanted,hgd]
 unfold wpListIn
 rw [if_pos hw]
 refine Jhn (K:=λa w=>wpListIn (Fence.wide.inRound l) n P ops Q rest a w) (λc e=>by rw [ho] at e;cases e) (λ_ _ h=>h) ?_
 unfold Oper.wp
 simp [execOp,ho,resolve,invoke,builtin,hv,hx,hr,Result.andThen]
 exact hK
structure NodI (w:World) (qc wc:Array Value) (pre:List BA) (W:World):Prop where
 below:Below w.heap.size w W
 row:∃v,W.heap[w.heap.size+4]? =some (.cells #[v] 58)/\NOwn w.heap.size W v pre
 r2:W.heap[w.heap.size+2]? =some (.cells #[.slice none 0 0] 58)
 r3:W.heap[w.heap.size+3]? =some (.cells #[.nilIface] 92)
 bq:W.heap[w.heap.size+5]? =some (.cells qc 248)
 bw:W.heap[w.heap.size+6]? =some (.cells wc 258)
theorem NodI.own {w:World} {qc wc:Array Value} {B:Nat} (hB:w.heap.size+7<=B):OwnFrom B (NodI w qc wc):=by
 intro s W W' row h hg hr
 have hr':∀r,row=some r->∃o:Obj,W.heap[r]? =some o/\o.isCells=false:=λr e=>(hr r e).2
 obtain ⟨v,h1,h2⟩:=h.row
 exact ⟨ownFrom_below (β:=List BA) (w₀:=w) (n₀:=w.heap.size) (B:=B) (Ql _) (by omega) s W W' row h.below hg hr,⟨v,JY h1 hg hr',h2.kept hg hr'⟩,JY h.r2 hg hr',JY h.r3 hg hr',JY h.bq hg hr',JY h.bw hg hr'⟩
theorem NodI.add {w W w3:World} {qc wc:Array Value} {pre:List BA} {v v':Value} {x:BA} (HI:NodI w qc wc pre W) (hpo:NOwn w.heap.size W v pre) (hT:Tch (λj=>some j=v.ownBlock) W w3) (hown:NOwn w.heap.size w3 v' (pre++[x])) (hrow:w3.heap[w.heap.size+4]? =some (.cells #[v] 58)):
  KeepsOthers W (w3.setCell ⟨w.heap.size+4,0,none⟩ v')/\Jg7 w.heap.size (w.heap.size+5) (w.heap.size+6) W (w3.setCell ⟨w.heap.size+4,0,none⟩ v')/\NodI w qc wc (pre++[x]) (w3.setCell ⟨w.heap.size+4,0,none⟩ v'):=by
 have hset:w3.setCell ⟨w.heap.size+4,0,none⟩ v'=w3.setRow (w.heap.size+4) #[v']:=Qj w3 (w.heap.size+4) 0 _ _ (0,0) v' hrow
 rw [hset]
 obtain ⟨v0,hv0,_⟩:=HI.row
 have hT4:Tch (λj=>some j=v.ownBlock\/j=w.heap.size+4) W (w3.setRow (w.heap.size+4) #[v']):=(hT.mono (λ_ h=>.inl (.inl h))).trans (Tch.setRow _ _ _) (λ_ h=>.inl (.inr h))
 have hkeep:∀{j:Nat} {cs:Array Value} {T:TypeId},T ≠ 9->j ≠ w.heap.size+4->W.heap[j]? =some (.cells cs T)->(w3.setRow (w.heap.size+4) #[v']).heap[j]? =some (.cells cs T):=λhne hj h=>(hT4.block _ (Jb h) (λe=>by
  rcases e with e | e
  ·obtain ⟨_,cs,m,hc⟩:=hpo.own _ e.symm
   rw [h] at hc
   simp only [Qh,Obj.cells.injEq] at hc
   exact hne hc.2.1
  ·exact hj e)).trans h
 have hz:=HI.below.size
 have hge:∀j,(some j=v.ownBlock\/j=w.heap.size+4)->w.heap.size<=j:=λj e=>by
  rcases e with e | e
  ·exact (hpo.own _ e.symm).1
  ·omega
 have hB:Below w.heap.size W (w3.setRow (w.heap.size+4) #[v']):=hT4.below hz hge
 have hq:=hkeep (by decide) (by omega) HI.bq
 have hw':=hkeep (by decide) (by omega) HI.bw
 refine ⟨JbE hT4 (λj e=>?_),⟨hB,λcs T h=>?_,λcs T h=>?_⟩,HI.below.trans hB,⟨v',Qi _ _ _ _ _ _ hrow,?_⟩,hkeep (by decide) (by omega) HI.r2,hkeep (by decide) (by omega) HI.r3,hq,hw'⟩
 ·rcases e with e | e
  ·obtain ⟨_,cs,m,hc⟩:=hpo.own _ e.symm
   exact ⟨cs,_,m,hc⟩
  ·subst e;exact ⟨_,_,_,hv0⟩
 ·rw [HI.bq] at h;rw [hq,h]
 ·rw [HI.bw] at h;rw [hw',h]
 ·refine hown.tch (Tch.setRow _ _ _) (λj hj e=>?_)
  obtain ⟨_,cs,m,hc⟩:=hown.own _ hj
  rw [e,hrow] at hc
  simp only [Qh,Obj.cells.injEq] at hc
  exact absurd hc.2.1 (by decide)
theorem Jnv (qc wc:Array Value) (wd:Int) (state kb:BA) (v1:Option Addr) (v2 v3:Nat) (m:Bool) (k:BA) (a o:Int) (hq:qc= #[.int .i64 wd,.string state,.string kb]) (hwc:wc= #[.slice v1 v2 v3,.bool m,.string k,.int .u64 a,.int .u8 o]) (w:World):
  CallsIn Fence.wide 3 prog 289 #[.agg qc,.agg wc] w λe w'=>e=.returned (.func (.func 341) #[] #[.pointer (some ⟨w.heap.size,0,none⟩),.pointer (some ⟨w.heap.size+1,0,none⟩)])/\w'=(w.alloc (.cells qc 248)).alloc (.cells wc 258):=by
 refine callsIn_wide.2 ?_
 subst hq hwc
 have hmf:∀(fn:Fn) (first cap:Array Value) (w:World),(Instr.makeFunc fn first cap).run prog w=.ok (.func fn first cap) w:=λ_ _ _ _=>rfl
 go_enter func289,ntmps289
 go_wp2
 go_ret
 exact ⟨rfl,rfl⟩
def Jk0 (w:World) (l:List (List UInt8)) (e:Ending) (w':World):Prop:=∃g cap,e=.returned (.tuple #[.slice (some ⟨g,0,none⟩) l.length cap,.nilIface])/\w.heap.size<=g/\g<w'.heap.size/\(∀j (h:j<l.length),w'.cell? ⟨g,j,none⟩=some (.string ⟨l[j].toArray⟩))/\Below w.heap.size w w'
theorem Jkg (E:Nat->Addr) (wd:Nat) (hw1:1<=wd) (hw:wd<=32) (state kb:BA) (v1:Option Addr) (v2 v3:Nat) (wy:Wy) (hok:WyOk wd wy) (w:World) (hE:Env E w) (hv:VAt w.heap.size w (.slice v1 v2 v3) (wy.1.map encS)):
  CallsIn Fence.wide 5 prog 214 #[qV wd state kb,wV v1 v2 v3 wy.2.isSome (wyK wy) (wyO wy).1 (wyO wy).2] w λe W'=>Jk0 w (wy.nodes (dgW wd)) e W':=by
 have h1:1<=5:=by omega
 have hro:Fence.wide.round=none:=rfl
 have HOK:Hid _:=hok
 have HE:Hid (Env E w):=hE
 have HV:Hid (VAt w.heap.size w (.slice v1 v2 v3) (wy.1.map encS)):=hv
 clear hok hE hv
 refine callsIn_of_wp_marks func214 rfl trivial ?_ hro
 simp only [ntmps214,List.size_toArray,Qp,Qv,Nat.reduceAdd,Nat.reduceSub,Array.replicate_succ,Array.replicate_zero,List.push_toArray,List.append_toArray,List.nil_append,List.cons_append]
 gi_wp2
 refine ⟨trivial,(callsIn_wide.2 (callsIn_wide.1 (Jnv _ _ _ _ _ _ _ _ _ _ _ _ rfl rfl _))).mono ?_⟩
 rintro _ _ ⟨rfl,rfl⟩
 gi_wp2
 obtain ⟨qc,hqc⟩:∃qc:Array Value,qc= #[.int .i64 (wd:Int),.string state,.string kb]:=⟨_,rfl⟩
 obtain ⟨wc,hwc⟩:∃wc:Array Value,wc= #[.slice v1 v2 v3,.bool wy.2.isSome,.string (wyK wy),.int .u64 ((wyO wy).1:Int),.int .u8 ((wyO wy).2:Int)]:=⟨_,rfl⟩
 obtain ⟨WD,hWD⟩:∃WD,WD=((((((w.alloc (.cells qc 248)).alloc (.cells wc 258)).alloc (.cells #[.slice none 0 0] 58)).alloc (.cells #[.nilIface] 92)).alloc (.cells #[.slice none 0 0] 58)).alloc (.cells qc 248)).alloc (.cells wc 258):=⟨_,rfl⟩
 rw [<-hqc,<-hwc,<-hWD]
 have hB0:Below w.heap.size w WD:=by rw [hWD];exact (((((((Below.refl _ w).alloc (Ql _) _).alloc (by simp) _).alloc (by simp;omega) _).alloc (by simp;omega) _).alloc (by simp;omega) _).alloc (by simp;omega) _).alloc (by simp;omega) _
 have hz:WD.heap.size=w.heap.size+7:=by rw [hWD];simp
 have hal:∀(V:World) (o:Obj) (j:Nat) (x:Obj),V.heap[j]? =some x->(V.alloc o).heap[j]? =some x:=λV o j x h=>(Below.heap_alloc V o j (Jb h)).trans h
 have hnw:∀(V:World) (o:Obj) (j:Nat),V.heap.size=j->(V.alloc o).heap[j]? =some o:=λV o j h=>by subst h;exact Qf V o
 have r2:WD.heap[w.heap.size+2]? =some (.cells #[.slice none 0 0] 58):=by rw [hWD];exact hal _ _ _ _ (hal _ _ _ _ (hal _ _ _ _ (hal _ _ _ _ (hnw _ _ _ (by simp)))))
 have r3:WD.heap[w.heap.size+3]? =some (.cells #[.nilIface] 92):=by rw [hWD];exact hal _ _ _ _ (hal _ _ _ _ (hal _ _ _ _ (hnw _ _ _ (by simp))))
 have r4:WD.heap[w.heap.size+4]? =some (.cells #[.slice none 0 0] 58):=by rw [hWD];exact hal _ _ _ _ (hal _ _ _ _ (hnw _ _ _ (by simp)))
 have r5:WD.heap[w.heap.size+5]? =some (.cells qc 248):=by rw [hWD];exact hal _ _ _ _ (hnw _ _ _ (by simp))
 have r6:WD.heap[w.heap.size+6]? =some (.cells wc 258):=by rw [hWD];exact hnw _ _ _ (by simp)
 have hT0:Tch NoB w WD:=(Tch.of_below hB0).mono (λ_ hj=>.inr hj)
 have hU:UpAt E w.heap.size (w.heap.size+5) (w.heap.size+6) wd state kb v1 v2 v3 wy WD:=⟨HE.o.tch hT0 noE,HE.o.size,by rw [r5,hqc],by rw [r6,hwc],HV.o.tch hT0 noE⟩
 have hI0:NodI w qc wc [] WD:=⟨hB0,⟨.slice none 0 0,r4,NOwn.nil _ _⟩,r2,r3,r5,r6⟩
 have hqa:(Value.agg #[.int .i64 (wd:Int),.string state,.string kb])=.agg qc:=by rw [hqc]
 have hwa:(Value.agg #[.slice v1 v2 v3,.bool wy.2.isSome,.string (wyK wy),.int .u64 ((wyO wy).1:Int),.int .u8 ((wyO wy).2:Int)])=.agg wc:=by rw [hwc]
 show Code.wpIn _ _ _ _ _ { tmps:= #[.agg #[.int .i64 (wd:Int),.string state,.string kb],.agg #[.slice v1 v2 v3,.bool wy.2.isSome,.string (wyK wy),.int .u64 ((wyO wy).1:Int),.int .u8 ((wyO wy).2:Int)],_,_,_,_,_,_,_,_,_,_,_,_,_,_,_,_,_,_,_,_,_,_],defers:=_ } _
 rw [hqa,hwa]
 clear hal hnw hWD hqa hwa hT0 r2 r3 r4 hqc hwc
 refine wpIn_rangeFunc_ownF hro h1 (gf:=341) (lb:= #[.pointer (some ⟨w.heap.size+1+1+1+1+1,0,none⟩),.pointer (some ⟨w.heap.size+1+1+1+1+1+1,0,none⟩)]) rfl trivial (enters_of func341 (by kernel_rfl) rfl)
  (Ji4 E 4 (by omega) (w.heap.size+1+1+1+1+1) (w.heap.size+1+1+1+1+1+1) w.heap.size wd hw1 hw state kb v1 v2 v3 wy HOK.o WD hU) (λh k=>⟨h.1.trans k.1,λcs T hc=>k.2.1 cs T (h.2.1 cs T hc),λcs T hc=>k.2.2 cs T (h.2.2 cs T hc)⟩)
  (λW l o o' hl ho hc hw'=>⟨belowK_b (w:=w) (Ql _) W l o o' (by omega) ho hc hw',λcs T h=>JY h (grownBy_putObj' _ l o') (λr e=>by cases e;exact ⟨o,ho,hc⟩),λcs T h=>JY h (grownBy_putObj' _ l o') (λr e=>by cases e;exact ⟨o,ho,hc⟩)⟩) (Below.refl _ _) (λ_=>rfl)
  (NodI w qc wc) (λ_ _ _=>False) (NodI.own (by omega)) (λ_ _ _ _ _ hs _ _=>hs) hI0
  (λx=>{ tmps:= #[.agg qc,.agg wc,.pointer (some ⟨w.heap.size,0,none⟩),.pointer (some ⟨w.heap.size+1,0,none⟩),.pointer (some ⟨w.heap.size+1+1,0,none⟩),.pointer (some ⟨w.heap.size+1+1+1,0,none⟩),.pointer (some ⟨w.heap.size+1+1+1+1,0,none⟩),.string x,.nilIface,.agg qc,.agg wc,.func (.func 341) #[] #[.pointer (some ⟨w.heap.size+1+1+1+1+1,0,none⟩),.pointer (some ⟨w.heap.size+1+1+1+1+1+1,0,none⟩)],.string x,.nilIface,undef,undef,undef,undef,undef,undef,undef,undef,undef,undef],defers:=[] }) ?assign ?body ?done ?stop
 case assign=>
  intro l x W K hK
  gi_wp2
  exact hK
 case body=>
  clear hI0 hU r5 r6 hB0
  rintro l pre x W hI hpl
  obtain ⟨v,hrow,hpo⟩:=hI.row
  have c0:W.cell? ⟨w.heap.size+1+1+1+1,0,none⟩=some v:=Ja hrow
  have HI:Hid _:=hI
  have HROW:Hid _:=hrow
  have HPO:Hid _:=hpo
  have tA:=Tch.alloc NoB W (.cells #[.string x] 9)
  have hpl2:pre.length<=10000:=by
   have h1:=Zs (dgW wd) wy
   have h2:=HOK.o.len
   omega
  obtain ⟨v',w3,hrun,hown,hg⟩:=JcW (hpo.tch tA (λ_ _ h=>h)) W.heap.size x (Ja (Qf W _)) 58 (by omega) (Qm hI.below.size tA.size)
  have hT3:Tch (λj=>some j=v.ownBlock) W w3:=(tA.mono noE).trans (Tch.grown hg) (λ_ h=>.inl h)
  have e3:w3.heap[w.heap.size+4]? =some (.cells #[v] 58):=(hT3.block _ (Jb hrow) (λe=>by
   obtain ⟨_,cs,m,hc⟩:=hpo.own _ e.symm
   rw [hrow] at hc
   simp only [Qh,Obj.cells.injEq] at hc
   exact absurd hc.2.1 (by decide))).trans hrow
  have d0:w3.cell? ⟨w.heap.size+1+1+1+1,0,none⟩=some v:=Ja e3
  have f0:w3.frozen? ⟨w.heap.size+1+1+1+1,0,none⟩=false:=Qg _ _ _ _ _ e3
  obtain ⟨a',c',hvs⟩:=hown.shape
  generalize (pre++[x]).length=n' at hvs
  subst hvs
  have HOW:Hid _:=hown
  have HT3:Hid _:=hT3
  have E3:Hid _:=e3
  clear hI hrow hpo tA hpl2 hown hg hT3 e3
  gi_wp2_with (gi_at_builtin;refine Jdp rfl _ _ 58 rfl rfl rfl hrun ?_)
  exact HI.o.add HPO.o HT3.o HOW.o E3.out
 case done=>
  rintro D ys W hD hys hI hK
  obtain ⟨v,hrow,hpo⟩:=hI.row
  have hyl:ys.length=wy.1.length+1:=by rw [hys,Zs]
  have hlen:=HOK.o.len
  obtain ⟨g,cap,hv,hgb,hgl,⟨gc,gm,hgr⟩,hcells⟩:=hpo.at (λe=>by rw [e] at hyl;simp at hyl)
  subst hv
  have HREV:Hid (Calls prog 290 #[.slice (some ⟨g,0,none⟩) ys.length cap] W λe w'=>e=.returned (.tuple #[])/\Tch (λj=>j=g) W w'/\∀j (h:j<ys.reverse.length),w'.cell? ⟨g,j,none⟩=some (.string ys.reverse[j])):=reverse_any g cap ys W hcells (by omega)
  have c0:W.cell? ⟨w.heap.size+1+1+1+1,0,none⟩=some (.slice (some ⟨g,0,none⟩) ys.length cap):=Ja hrow
  have HI:Hid _:=hI
  have HROW:Hid _:=hrow
  have hgne:g ≠ w.heap.size+4/\g ≠ w.heap.size+2/\g ≠ w.heap.size+3:=by
   refine ⟨λe=>?_,λe=>?_,λe=>?_⟩
   ·rw [e,hrow] at hgr;simp only [Qh,Obj.cells.injEq] at hgr;exact absurd hgr.2.1 (by decide)
   ·rw [e,hI.r2] at hgr;simp only [Qh,Obj.cells.injEq] at hgr;exact absurd hgr.2.1 (by decide)
   ·rw [e,hI.r3] at hgr;simp only [Qh,Obj.cells.injEq] at hgr;exact absurd hgr.2.1 (by decide)
  have HGN:Hid _:=hgne
  have HGB:Hid (w.heap.size<=g/\g<W.heap.size):=⟨hgb,hgl⟩
  have HYS:Hid _:=hys
  have HDK:Hid _:=hK
  have HGR:Hid _:=hgr
  clear hI hrow hpo hgne hgb hgl hys hcells hyl hlen hK hgr hI0 hU r5 r6 hB0
  gi_wp2
  refine ⟨trivial,(callsIn_wide.2 HREV.o).mono ?_⟩
  rintro _ W2 ⟨rfl,ht2,hc2⟩
  have hk:∀{j:Nat} {o:Obj},W.heap[j]? =some o->j ≠ g->W2.heap[j]? =some o:=λh hj=>(ht2.block _ (Jb h) hj).trans h
  have hr4:=hk HROW.o (λe=>HGN.o.1 e.symm)
  have hr2:=hk HI.o.r2 (λe=>HGN.o.2.1 e.symm)
  have hr3:=hk HI.o.r3 (λe=>HGN.o.2.2 e.symm)
  have hKd:=hk HDK.o (λe=>by rw [e,HGR.o] at HDK;have:=HDK.o;simp at this)
  have c0:W2.cell? ⟨w.heap.size+1+1+1+1,0,none⟩=some (.slice (some ⟨g,0,none⟩) ys.length cap):=Ja hr4
  have d2:W2.cell? ⟨w.heap.size+1+1,0,none⟩=some (.slice none 0 0):=Ja hr2
  have d3:W2.cell? ⟨w.heap.size+1+1+1,0,none⟩=some .nilIface:=Ja hr3
  have f2:W2.frozen? ⟨w.heap.size+1+1,0,none⟩=false:=Qg _ _ _ _ _ hr2
  have f3:W2.frozen? ⟨w.heap.size+1+1+1,0,none⟩=false:=Qg _ _ _ _ _ hr3
  have HT2:Hid _:=ht2
  have HC2:Hid _:=hc2
  have R2:Hid _:=hr2
  have R3:Hid _:=hr3
  have KD:Hid _:=hKd
  clear ht2 hc2 hk hr4 hr2 hr3 hKd HREV
  gi_wp2
  obtain ⟨W4,hW4⟩:∃W4,W4=(W2.setRow (w.heap.size+2) #[.slice (some ⟨g,0,none⟩) ys.length cap]).setRow (w.heap.size+3) #[.nilIface]:=⟨_,rfl⟩
  have hs4:(W2.setCell ⟨w.heap.size+1+1,0,none⟩ (.slice (some ⟨g,0,none⟩) ys.length cap)).setCell ⟨w.heap.size+1+1+1,0,none⟩ .nilIface=W4:=by
   rw [hW4,Qj W2 (w.heap.size+2) 0 _ _ (0,0) _ R2.o,Qj _ (w.heap.size+3) 0 _ _ (0,0) _ ((setRow_other _ _ _ _ (by omega)).trans R3.o)]
   rfl
  rw [hs4]
  have t4:Tch (λj=>j=w.heap.size+2\/j=w.heap.size+3) W2 W4:=by rw [hW4];exact ((Tch.setRow W2 (w.heap.size+2) _).mono (λ_ h=>.inl (.inl h))).trans (Tch.setRow _ (w.heap.size+3) _) (λ_ h=>.inl (.inr h))
  have q2:W4.heap[w.heap.size+2]? =some (.cells #[.slice (some ⟨g,0,none⟩) ys.length cap] 58):=by rw [hW4];exact (setRow_other _ _ _ _ (by omega)).trans (Qi _ _ _ _ _ _ R2.o)
  have q3:W4.heap[w.heap.size+3]? =some (.cells #[.nilIface] 92):=by rw [hW4];exact Qi _ _ _ _ _ _ ((setRow_other _ _ _ _ (by omega)).trans R3.o)
  have hKd:W4.heap[D]? =some (.deferred (some [])):=(t4.block _ (Jb KD.out) (λe=>by
   rcases e with e | e
   ·have:=KD.out;rw [e,R2.o] at this;simp at this
   ·have:=KD.out;rw [e,R3.o] at this;simp at this)).trans KD.out
  have hg:=grownBy_putObj' W4 D (.deferred none)
  have hr':∀r,some D=some r->∃o:Obj,W4.heap[r]? =some o/\o.isCells=false:=λr e=>by cases e;exact ⟨_,hKd,rfl⟩
  refine ⟨by simp,.inl ⟨_,_,rfl,run_takeDeferred hKd,?_⟩⟩
  refine ⟨_,JcT results214 _ _ ⟨w.heap.size+1+1,0,none⟩ ⟨w.heap.size+1+1+1,0,none⟩ (.slice (some ⟨g,0,none⟩) ys.length cap) .nilIface rfl rfl (isAgg58 _) (isAgg92 _) (Ja (JY q2 hg hr')) (Ja (JY q3 hg hr')),?_⟩
  have hyn:ys.reverse=(wy.nodes (dgW wd)).map λt=>⟨t.toArray⟩:=by rw [HYS.o,upsT,<-List.map_reverse,List.reverse_reverse]
  have hyl:ys.length=(wy.nodes (dgW wd)).length:=by have:=congrArg List.length hyn;simpa using this
  have hDg:D ≠ g:=λe=>by have:=HDK.o;rw [e,HGR.o] at this;simp at this
  refine ⟨g,cap,by rw [hyl],HGB.o.1,?_,λj h=>?_,?_⟩
  ·have:=HT2.o.size;have:=t4.size;have:=HGB.o.2;have:=hg.size;omega
  ·have h':j<ys.reverse.length:=by rw [List.length_reverse,hyl];exact h
   have e1:=HC2.o j h'
   have e2:(W4.putObj D (.deferred none)).cell? ⟨g,j,none⟩=W2.cell? ⟨g,j,none⟩:=by
    rw [show (W4.putObj D (.deferred none)).cell? ⟨g,j,none⟩=W4.cell? ⟨g,j,none⟩ from World.cell?_of_block (hg.block g (by have:=HT2.o.size;have:=t4.size;have:=HGB.o.2;omega) (λe=>hDg (by cases e;rfl)))]
    exact t4.cell (p:=⟨g,j,none⟩) (by have:=HT2.o.size;have:=HGB.o.2;show g<_;omega) (λe=>by
     rcases e with e | e
     ·exact HGN.o.2.1 e
     ·exact HGN.o.2.2 e)
   rw [e2,e1]
   simp only [hyn,List.getElem_map]
  ·have b1:Below w.heap.size w W:=HI.o.below
   have b2:Below w.heap.size W W2:=HT2.o.below b1.size (λj e=>by rw [e];exact HGB.o.1)
   have b3:Below w.heap.size W2 W4:=t4.below (Qm b1.size b2.size) (λj e=>by omega)
   exact ((b1.trans b2).trans b3).trans (belowK_b (w:=w) (Ql _) _ D _ _ (by omega) hKd rfl rfl)
 case stop=>
  rintro D c pre W _ _ h _
  exact h.elim
