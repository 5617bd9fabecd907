import Derived.Test.YtighkdnooglfjaaGreatDoorOcKSw
namespace Go.Proofs.YtighkdnooglfjaaGreatDoor
open Go.Proofs.Tryz
open Go.RowKit

def iV (l:List Nat):List Value:=l.map λ(n:Nat)=>.int .i64 (n:Int)
def IOwn (base:Nat) (w:World) (v:Value) (l:List Nat):Prop:=w.ownsRow base 3 1 v l.length (iV l)
theorem IOwn.kind {base:Nat} {w:World} {v:Value} {l:List Nat} (h:IOwn base w v l):∀k,v.ownBlock=some k->base<=k/\∃cs m,w.heap[k]? =some (.cells cs 3 m):=by
 obtain ⟨_,⟨rfl,h0⟩ | ⟨g,cap,cur,rfl,hb,hrow,_⟩⟩:=h
 ·intro k hk;cases hk
 ·intro k hk;cases hk;exact ⟨hb,_,_,hrow⟩
theorem IOwn.tch {base:Nat} {w w':World} {v:Value} {l:List Nat} {S:Nat->Prop} (h:IOwn base w v l) (k:Tch S w w') (hs:∀j,v.ownBlock=some j->¬S j):IOwn base w' v l:=by
 obtain ⟨h1,⟨rfl,h0⟩ | ⟨g,cap,cur,rfl,hb,hrow,h2⟩⟩:=h
 ·exact ⟨h1,.inl ⟨rfl,h0⟩⟩
 ·exact ⟨h1,.inr ⟨g,cap,cur,rfl,hb,(k.block g (Jb hrow) (hs g rfl)).trans hrow,h2⟩⟩
theorem IOwn.at {base:Nat} {w:World} {v:Value} {l:List Nat} (h:IOwn base w v l) (hl:l ≠ []):∃g cap,v=.slice (some ⟨g,0,none⟩) l.length cap/\∀i (hi:i<l.length),w.cell? ⟨g,i,none⟩=some (.int .i64 (l[i]:Int)):=by
 obtain ⟨_,⟨rfl,h0⟩ | ⟨g,cap,cur,rfl,hb,hrow,_,_,hsz,htake⟩⟩:=h
 ·exact absurd (QN h0) hl
 ·refine ⟨g,cap,rfl,λi hi=>?_⟩
  rw [Ja hrow,<-Array.getElem?_toList]
  have e:(iV l)[i]? =some (.int .i64 (l[i]:Int)):=by simp [iV,hi]
  rw [<-htake,List.getElem?_take_of_lt (by omega)] at e
  exact e
theorem JjQ:(prog.info? 3).map (λi=>(i.zero,i.size,i.bytes))=some (some (.int .i64 0),1,8):=by kernel_rfl
theorem JcR {base:Nat} {w:World} {v:Value} {l:List Nat} (h:IOwn base w v l) (k x:Nat) (hx:w.cell? ⟨k,0,none⟩=some (.int .i64 (x:Int))) (ty:TypeId) (hb:l.length<=10000000000) (hbase:base<=w.heap.size):
  ∃v' w',(Builtin.append_ #[62,62] ty #[v,.slice (some ⟨k,0,none⟩) 1 1]).run prog w=.ok v' w'/\IOwn base w' v' (l++[x])/\w.grownBy w' v.ownBlock/\(∀j,v'.ownBlock=some j->v.ownBlock=some j\/w.heap.size<=j):=by
 obtain ⟨i,hi,hp⟩:=Option.map_eq_some_iff.1 JjQ
 simp only [Qw] at hp
 obtain ⟨hz,hsz,hby⟩:=hp
 obtain ⟨v',w',hr,h2,h3,h4,h5⟩:=run_append_own_at (P:=prog) (w:=w) base 62 ty 3 i _ 1 8 underlying62 hi hz hsz hby rfl (by omega) v l.length (iV l) h ⟨k,0,none⟩ 1 1 (iV [x]) rfl (λj u hu=>by
  cases j with
  | zero=>simp only [iV,List.map_cons,List.map_nil,List.getElem?_cons_zero,Qh] at hu;rw [<-hu,Addr.add_lit];exact hx
  | succ j=>simp [iV] at hu) (λu hu=>by simp only [iV,List.map_cons,List.map_nil,Qt] at hu;rw [hu];rfl) (by simp only [maxLen];omega) (by omega) hbase
 exact ⟨v',w',hr,by unfold IOwn;rw [Qe,show iV (l++[x])=iV l++iV [x] by simp [iV]];exact h2,h3,λj hj=>by
  rcases h5 with e | e
  ·exact .inl (e ▸ hj)
  ·rw [hj] at e;cases e;exact .inr (Ql _)⟩
theorem Yk {base:Nat} {w:World} {ops:Array Oper} {rest:List Oper} {o:Oper} {a:Act} {Q:Exit->Act->World->Prop} (hgd:o.guard=none) (s x:Operand)
  (ho:o.op=.call { callee:=.builtin .append,args:= #[s,x],argTypes:= #[62,62] })
  {v:Value} {l:List Nat} (hv:a.eval s=v) (h:IOwn base w v l) (k y:Nat) (hx:a.eval x=.slice (some ⟨k,0,none⟩) 1 1) (hc:w.cell? ⟨k,0,none⟩=some (.int .i64 (y:Int))) (hb:l.length<=10000000000) (hbase:base<=w.heap.size)
  (hK:∀v' w',IOwn base w' v' (l++[y])->w.grownBy w' v.ownBlock->(∀j,v'.ownBlock=some j->v.ownBlock=some j\/w.heap.size<=j)->wpList prog ops Q rest (a.put o.dst v') w'):wpList prog ops Q (o :: rest) a w:=by
 refine wpList_plain hgd λK hK'=>?_
 obtain ⟨v',w',hrun,r,r2,r3⟩:=JcR h k y hc o.type hb hbase
 unfold Oper.wp
 simp [execOp,ho,resolve,invoke,builtin,hv,hx,hrun,Result.andThen]
 exact hK' _ _ (hK v' w' r r2 r3)
theorem IOwn.one {base:Nat} {w:World} (n:Nat) (hb:base<=w.heap.size):IOwn base (w.alloc (.cells #[.int .i64 (n:Int)] 3)) (.slice (some ⟨w.heap.size,0,none⟩) 1 1) [n]:=by
 refine ⟨rfl,.inr ⟨w.heap.size,1,#[.int .i64 (n:Int)],rfl,hb,Qf _ _,?_⟩⟩
 simp [iV,maxLen]
def YM (g:List UInt8) (evs:List Ev):List Nat:=(List.range (evs.length+1)).map λk=>endE g evs k
def YO (evs:List Ev):List Nat:=(List.range (evs.length+1)).map λk=>blks (evs.take k)
def flsL (evs:List Ev):List Nat:=(List.range (evs.length+1)).map λk=>floE (evs.take k)
theorem JbI (f:List Ev->Nat) (evs:List Ev) (e:Ev):((List.range ((evs++[e]).length+1)).map λk=>f ((evs++[e]).take k))=((List.range (evs.length+1)).map λk=>f (evs.take k))++[f (evs++[e])]:=by
 rw [Qe,Qp,Qv,List.range_succ,List.map_append]
 congr 1
 ·apply List.map_congr_left
  intro k hk
  rw [List.mem_range] at hk
  rw [List.take_append_of_le_length (by omega)]
 ·rw [List.map_cons,List.map_nil,QQ (by rw [Qe];simp)]
theorem Jgf (g:List UInt8) (evs:List Ev) (e:Ev):YM g (evs++[e])=YM g evs++[(logB g (evs++[e])).length]:=JbI (λl=>(logB g l).length) evs e
theorem JgX (evs:List Ev) (e:Ev):YO (evs++[e])=YO evs++[blks (evs++[e])]:=JbI blks evs e
theorem JhY (evs:List Ev) (e:Ev):flsL (evs++[e])=flsL evs++[floE (evs++[e])]:=JbI floE evs e
theorem HAt.exact {wd base pn:Nat} {outs:List (Nat×Nat)} {st:Option Tr} {evs:List Ev} {w:World} {lb:Nat} {F:Nat->Prop} {fl:Nat} {ch:Ch} (h:HAt wd base outs st evs pn w lb F fl ch):∃evs',evs <+:evs'/\flos evs'=pn/\ch.length=blks evs'+1/\fl=floE evs'/\HAt wd base outs st evs' pn w lb F fl ch:=by
 obtain ⟨hB,evs',cb,r,bs,lv,h1,h2,h3,C⟩:=h
 exact ⟨evs',h1,h2,h3.len,h3.fl,hB,evs',cb,r,bs,lv,List.prefix_refl _,h2,h3,C⟩
theorem HAt.self {wd base pn:Nat} {outs:List (Nat×Nat)} {st:Option Tr} {evs:List Ev} {w:World} {lb:Nat} {F:Nat->Prop} {fl:Nat} {ch:Ch} (h:HAt wd base outs st evs pn w lb F fl ch) (hl:ch.length=blks evs+1) (hp:flos evs=pn):Hist wd (c0O wd outs st) evs ch fl/\∃cb r bs lv,Xq wd base pn w lb F fl ch (logB (Jf wd outs) evs) cb r bs lv:=by
 obtain ⟨hB,evs',cb,r,bs,lv,⟨z,hz⟩,h2,h3,C⟩:=h
 have e1:=h3.len
 have e2:=Zi evs
 have e3:=Zi evs'
 have hz0:z=[]:=by
  apply QN
  have:=congrArg List.length hz
  rw [Qe] at this
  omega
 subst hz0
 rw [QC] at hz
 subst hz
 exact ⟨h3,cb,r,bs,lv,C⟩
theorem Jk2 {evs evs':List Ev} (h:evs <+:evs') (hl:evs'.length=evs.length+1):∃e,evs'=evs++[e]:=by
 obtain ⟨z,rfl⟩:=h
 rw [Qe] at hl
 match z,hl with
 | [e],_=>exact ⟨e,rfl⟩
 | [],hl=>simp at hl
 | _ :: _ :: _,hl=>simp at hl
theorem JO.led_to {E:Nat->Addr} {wd base:Nat} {L L':Led E wd base} {w:World} {xb lb:Nat} {F:Nat->Prop} {fl:Nat} {ch:Ch} {vst:Value} {sl:List Sl} {states:List (List Held)} (h:JO L w xb lb F fl ch vst sl states) (h2:L'.At w lb F fl ch):JO L' w xb lb F fl ch vst sl states:=
 ⟨h.row,h2,h.st,h.low,h.held,h.len,h.floor,h.book⟩

structure XD (base:Nat) (w:World) (v1 v2 v3:Value) (l1 l2 l3:List Nat):Prop where
 o1:IOwn base w v1 l1
 o2:IOwn base w v2 l2
 o3:IOwn base w v3 l3
 n12:∀j,v1.ownBlock=some j->¬v2.ownBlock=some j
 n13:∀j,v1.ownBlock=some j->¬v3.ownBlock=some j
 n23:∀j,v2.ownBlock=some j->¬v3.ownBlock=some j
theorem XD.tch {base:Nat} {w w':World} {v1 v2 v3:Value} {l1 l2 l3:List Nat} {S:Nat->Prop} (h:XD base w v1 v2 v3 l1 l2 l3) (k:Tch S w w') (hs:∀j cs m,w.heap[j]? =some (.cells cs 3 m)->¬S j):XD base w' v1 v2 v3 l1 l2 l3:=by
 refine ⟨h.o1.tch k (λj hj=>?_),h.o2.tch k (λj hj=>?_),h.o3.tch k (λj hj=>?_),h.n12,h.n13,h.n23⟩
 ·obtain ⟨_,cs,m,hr⟩:=h.o1.kind j hj;exact hs j cs m hr
 ·obtain ⟨_,cs,m,hr⟩:=h.o2.kind j hj;exact hs j cs m hr
 ·obtain ⟨_,cs,m,hr⟩:=h.o3.kind j hj;exact hs j cs m hr
structure Xd (E:Nat->Addr) (base wd:Nat) (outs:List (Nat×Nat)) (st:Option Tr) (evs:List Ev) (w:World) (xb lb:Nat) (F:Nat->Prop) (fl:Nat) (ch:Ch) (vst:Value) (sl:List Sl) (states:List (List Held)):Prop where
 shop:JO (Xg E base wd outs st evs (flos evs)) w xb lb F fl ch vst sl states
 len:ch.length=blks evs+1
theorem Xd.next {E:Nat->Addr} {base wd:Nat} {outs:List (Nat×Nat)} {st:Option Tr} {evs:List Ev} {w w':World} {xb lb:Nat} {F:Nat->Prop} {fl:Nat} {ch:Ch} {vst:Value} {sl:List Sl} {states:List (List Held)} (h:Xd E base wd outs st evs w xb lb F fl ch vst sl states) (k:Tch NoB w w'):Xd E base wd outs st evs w' xb lb F fl ch vst sl states:=⟨h.shop.next k,h.len⟩
theorem Xd.hist {E:Nat->Addr} {base wd:Nat} {outs:List (Nat×Nat)} {st:Option Tr} {evs:List Ev} {w:World} {xb lb:Nat} {F:Nat->Prop} {fl:Nat} {ch:Ch} {vst:Value} {sl:List Sl} {states:List (List Held)} (h:Xd E base wd outs st evs w xb lb F fl ch vst sl states):Ji2 wd outs st/\Hist wd (c0O wd outs st) evs ch fl:=⟨h.shop.led.1,(HAt.self h.shop.led h.len rfl).1⟩
theorem Xd.log {E:Nat->Addr} {base wd:Nat} {outs:List (Nat×Nat)} {st:Option Tr} {evs:List Ev} {w:World} {xb lb:Nat} {F:Nat->Prop} {fl:Nat} {ch:Ch} {vst:Value} {sl:List Sl} {states:List (List Held)} (h:Xd E base wd outs st evs w xb lb F fl ch vst sl states):
  Calls Tryz.prog 31 #[.pointer (some ⟨lb,0,none⟩)] w λe w'=>e=.returned (.string ⟨(logB (Jf wd outs) evs).toArray⟩)/\Tch NoB w w':=by
 obtain ⟨_,cb,r,bs,lv,C⟩:=HAt.self h.shop.led h.len rfl
 exact fLog (Ja C.led) _ (Jl5 C.row _ C.log)
theorem Xd.logLen {E:Nat->Addr} {base wd:Nat} {outs:List (Nat×Nat)} {st:Option Tr} {evs:List Ev} {w:World} {xb lb:Nat} {F:Nat->Prop} {fl:Nat} {ch:Ch} {vst:Value} {sl:List Sl} {states:List (List Held)} (h:Xd E base wd outs st evs w xb lb F fl ch vst sl states):(logB (Jf wd outs) evs).length<=1000100 * ch.length+100 * flos evs:=by
 obtain ⟨_,cb,r,bs,lv,C⟩:=HAt.self h.shop.led h.len rfl
 exact C.short
theorem Xd.again {E:Nat->Addr} {base wd:Nat} {outs:List (Nat×Nat)} {st:Option Tr} {evs:List Ev} {pn:Nat} {w:World} {xb lb:Nat} {F:Nat->Prop} {fl:Nat} {ch:Ch} {vst:Value} {sl:List Sl} {states:List (List Held)} (h:JO (Xg E base wd outs st evs pn) w xb lb F fl ch vst sl states) (hn:ch.length+pn=evs.length+1\/ch.length+pn=evs.length+2) (hb:blks evs+1<=ch.length) (hp:flos evs<=pn):
  (ch.length+pn=evs.length+1/\Xd E base wd outs st evs w xb lb F fl ch vst sl states)\/(ch.length+pn=evs.length+2/\∃e,flos (evs++[e])=pn/\fl=floE (evs++[e])/\Xd E base wd outs st (evs++[e]) w xb lb F fl ch vst sl states):=by
 obtain ⟨evs',h1,h2,h3,h4,h5⟩:=HAt.exact h.led
 have e1:=Zi evs
 have e2:=Zi evs'
 rcases hn with hn | hn
 ·left
  have hz:evs'=evs:=by
   obtain ⟨z,hz⟩:=h1
   have:=congrArg List.length hz
   rw [Qe] at this
   have hz0:z=[]:=QN (by omega)
   rw [hz0,QC] at hz
   exact hz.symm
  subst hz
  subst h2
  exact ⟨hn,⟨h,h3⟩⟩
 ·right
  obtain ⟨e,rfl⟩:=Jk2 h1 (by omega)
  subst h2
  exact ⟨hn,e,rfl,h4,⟨h.led_to h5,h3⟩⟩

theorem Xd.noInt {E:Nat->Addr} {base wd:Nat} {outs:List (Nat×Nat)} {st:Option Tr} {evs:List Ev} {w:World} {xb lb:Nat} {F:Nat->Prop} {fl:Nat} {ch:Ch} {vst:Value} {sl:List Sl} {states:List (List Held)} (h:Xd E base wd outs st evs w xb lb F fl ch vst sl states):∀j,F j->∀cs m,w.heap[j]? =some (.cells cs 3 m)->False:=λj hj cs m hr=>by
 obtain ⟨_,cb,r,bs,lv,C⟩:=HAt.self h.shop.led h.len rfl
 rcases C.kind j hj cs _ m hr with e | e | e | e <;> exact absurd e (by decide)
def DoTo (E:Nat->Addr) (base wd:Nat) (outs:List (Nat×Nat)) (st:Option Tr) (evs:List Ev) (kd:Int) (xb lb:Nat) (F:Nat->Prop) (vst:Value) (states:List (List Held)) (w:World) (e:Ending) (w':World):Prop:=
 e=.returned (.bool true)/\∃evs' F' fl' ch' vst' sl' states',Xd E base wd outs st evs' w' xb lb F' fl' ch' vst' sl' states'/\Tch (λj=>F j\/j=xb\/some j=vst.ownBlock) w w'/\states'.length<=states.length+1/\(∀l∈states',∃l0∈states,l.length<=l0.length+9)/\((evs'=evs/\states'.length=states.length/\¬kd=2)\/∃e,evs'=evs++[e]/\fl'=floE evs'/\(states.length<states'.length\/kd=2))
theorem Jk9 {E:Nat->Addr} {base wd:Nat} (hw1:1<=wd) (hw:wd<=32) {outs:List (Nat×Nat)} {st:Option Tr} {evs:List Ev} {w:World} {xb lb:Nat} {F:Nat->Prop} {fl:Nat} {ch:Ch} {vst:Value} {sl:List Sl} {states:List (List Held)} (hF:JT E base w) (hS:Xd E base wd outs st evs w xb lb F fl ch vst sl states) (hlen:states.length<=10000000/\(∀l∈states,l.length<=800000000)/\evs.length<=10000000) (kd a b:Int) (ha1: -9223372036854775808<=a) (ha2:a<9223372036854775808) (ps:List PayL) (p0:Option Addr) (p1:Nat) (hp:∀V,Tch NoB w V->Jcm V (.slice p0 ps.length p1) ps) (hpo:∀p∈ps,p.Ok):
  Calls Tryz.prog 20 #[.pointer (some ⟨xb,0,none⟩),.agg #[.int .i64 kd,.int .i64 a,.int .i64 b,.slice p0 ps.length p1]] w (DoTo E base wd outs st evs kd xb lb F vst states w):=by
 have el:=Zi evs
 have hl:=hS.shop.len
 have hcl:=hS.len
 by_cases h1:kd=1
 ·subst h1
  refine (Jk7 xb a b p0 ps.length p1 (λV w'=>DoTo E base wd outs st evs 1 xb lb F vst states V (.returned (.bool true)) w') (λV hT=>?_)).mono ?_
  ·refine (Jmw (Xg E base wd outs st evs (flos evs)) hw1 hw xb lb F fl ch vst sl states _ ps V (hF.tch hT noE) (hS.shop.next hT) (hp V hT) hpo hlen.2.1 (by omega)).mono ?_
   rintro e w' ⟨he,F',ch',vst',sl',states',g1,g2,_,⟨r,g4⟩,g5,g6⟩
   refine ⟨he,rfl,?_⟩
   have hl2:=g1.len
   have hcl2:ch'.length=ch.length+r.length:=by rw [g4,Qe]
   rcases Xd.again g1 (by omega) (by omega) (Ql _) with ⟨k1,k2⟩ | ⟨k1,e,k2,k3,k4⟩
   ·exact ⟨evs,F',fl,ch',vst',sl',states',k2,g2,g5,g6,.inl ⟨rfl,by omega,by omega⟩⟩
   ·exact ⟨evs++[e],F',fl,ch',vst',sl',states',k4,g2,g5,g6,.inr ⟨e,rfl,k3,.inl (by omega)⟩⟩
  ·rintro e w' ⟨rfl,V,hT,_,evs',F',fl',ch',vst',sl',states',k1,k2,k3⟩
   exact ⟨rfl,evs',F',fl',ch',vst',sl',states',k1,(hT.mono noE).trans k2 (λ_ h=>.inl h),k3⟩
 ·by_cases h2:kd=2
  ·subst h2
   refine (Jk8 (Xg E base wd outs st evs (flos evs)) (Xg E base wd outs st evs (flos evs+1)) (JgW E base wd outs st evs (flos evs) (by omega)) hF hS.shop (by omega) a b ha1 ha2 p0 ps.length p1).mono ?_
   rintro e w' ⟨he,F',fl',g1,g2,_⟩
   refine ⟨he,?_⟩
   rcases Xd.again g1 (by omega) (by omega) (by omega) with ⟨k1,k2⟩ | ⟨k1,e,k2,k3,k4⟩
   ·omega
   ·exact ⟨evs++[e],F',fl',ch,vst,sl,states,k4,g2.mono (λj hj=>.inl (hj.imp (λh=>h) (λh=>.inl h))),by omega,λl hl=>⟨l,hl,by omega⟩,.inr ⟨e,rfl,k3,.inr rfl⟩⟩
  ·refine (Jk6 xb kd a b p0 ps.length p1 h1 h2).mono ?_
   rintro e w' ⟨he,hT⟩
   exact ⟨he,evs,F,fl,ch,vst,sl,states,hS.next hT,hT.mono noE,by omega,λl hl=>⟨l,hl,by omega⟩,.inl ⟨rfl,rfl,h2⟩⟩
theorem Xd.ints {E:Nat->Addr} {base wd:Nat} {outs:List (Nat×Nat)} {st:Option Tr} {evs:List Ev} {w w':World} {xb lb:Nat} {F:Nat->Prop} {fl:Nat} {ch:Ch} {vst:Value} {sl:List Sl} {states:List (List Held)} {S:Nat->Prop} (h:Xd E base wd outs st evs w xb lb F fl ch vst sl states) (k:Tch S w w') (hs:∀j,S j->∃cs m,w.heap[j]? =some (.cells cs 3 m)):Xd E base wd outs st evs w' xb lb F fl ch vst sl states:=by
 have s:=h.shop
 refine ⟨⟨(k.block _ (Jb s.row) (λe=>?_)).trans s.row,(Xg E base wd outs st evs (flos evs)).keep s.led k (λj hj hF=>?_),s.st.tch k (λj hj hS=>?_),s.low,λi x l h1 h2=>(s.held i x l h1 h2).tch k (λj hj hS=>?_),s.len,s.floor,s.book⟩,h.len⟩
 ·obtain ⟨cs,m,hr⟩:=hs _ e;rw [s.row] at hr;simp at hr
 ·obtain ⟨cs,m,hr⟩:=hs _ hj;exact h.noInt j hF cs m hr
 ·obtain ⟨cs,m,hr⟩:=hs _ hS;obtain ⟨cs2,m2,hr2⟩:=s.st.kind j hj;rw [hr] at hr2;simp at hr2
 ·obtain ⟨cs,m,hr⟩:=hs _ hS;obtain ⟨cs2,m2,hr2⟩:=(s.held i x l h1 h2).2 j hj;rw [hr] at hr2;simp at hr2
theorem XD.more1 {base:Nat} {w w':World} {v1 v2 v3 v':Value} {l1 l2 l3 l':List Nat} (h:XD base w v1 v2 v3 l1 l2 l3) (ho:IOwn base w' v' l') (hg:w.grownBy w' v1.ownBlock) (hn:∀j,v'.ownBlock=some j->v1.ownBlock=some j\/w.heap.size<=j):XD base w' v' v2 v3 l' l2 l3:=by
 have k:=Tg hg
 have lt2:∀j,v2.ownBlock=some j->j<w.heap.size:=λj hj=>by obtain ⟨_,cs,m,hr⟩:=h.o2.kind j hj;exact (Jb hr)
 have lt3:∀j,v3.ownBlock=some j->j<w.heap.size:=λj hj=>by obtain ⟨_,cs,m,hr⟩:=h.o3.kind j hj;exact (Jb hr)
 refine ⟨ho,h.o2.tch k (λj hj e=>h.n12 j e.symm hj),h.o3.tch k (λj hj e=>h.n13 j e.symm hj),λj hj hj2=>?_,λj hj hj2=>?_,h.n23⟩
 ·rcases hn j hj with e | e
  ·exact h.n12 j e hj2
  ·have:=lt2 j hj2;omega
 ·rcases hn j hj with e | e
  ·exact h.n13 j e hj2
  ·have:=lt3 j hj2;omega
theorem XD.turn {base:Nat} {w:World} {v1 v2 v3:Value} {l1 l2 l3:List Nat} (h:XD base w v1 v2 v3 l1 l2 l3):XD base w v2 v3 v1 l2 l3 l1:=⟨h.o2,h.o3,h.o1,h.n23,λj h1 h2=>h.n12 j h2 h1,λj h1 h2=>h.n13 j h2 h1⟩
theorem XD.ints {base:Nat} {w:World} {v1 v2 v3:Value} {l1 l2 l3:List Nat} (h:XD base w v1 v2 v3 l1 l2 l3):∀j,some j=v1.ownBlock->∃cs m,w.heap[j]? =some (.cells cs 3 m):=λj e=>(h.o1.kind j e.symm).2
theorem Jcp {E:Nat->Addr} {base wd:Nat} {outs:List (Nat×Nat)} {st:Option Tr} {evs:List Ev} {w w':World} {xb lb:Nat} {F:Nat->Prop} {fl:Nat} {ch:Ch} {vst:Value} {sl:List Sl} {states:List (List Held)} {v1 v2 v3 v':Value} {l1 l2 l3 l':List Nat} (h:Xd E base wd outs st evs w xb lb F fl ch vst sl states) (hR:XD base w v1 v2 v3 l1 l2 l3) (ho:IOwn base w' v' l') (hg:w.grownBy w' v1.ownBlock) (hn:∀j,v'.ownBlock=some j->v1.ownBlock=some j\/w.heap.size<=j):
  Xd E base wd outs st evs w' xb lb F fl ch vst sl states/\XD base w' v2 v3 v' l2 l3 l'/\Tch (λj=>base<=j) w w'/\w'.cell? ⟨xb,2,none⟩=some vst/\w'.cell? ⟨xb,3,none⟩=some (.int .i64 (fl:Int)):=by
 have k:=Tg hg
 have h2:=h.ints k hR.ints
 exact ⟨h2,(hR.more1 ho hg hn).turn,k.mono (λj hj=>.inl (hR.o1.kind j hj.symm).1),Ja h2.shop.row,Ja h2.shop.row⟩

theorem Jkd {evs:List Ev} {k:Nat} {part:List UInt8} (h:part=[]\/∃h:k<evs.length,part <+:evs[k].B/\part.length<(evs[k].B).length) (hs:∀e∈evs,e.content.length<65536):∀q,(raR (q,part,true)).2.2.2.2=false:=by
 intro q
 rcases h with rfl | ⟨hk,h1,h2⟩
 ·exact JcL q [] [71] [] rfl (by simp) (List.nil_prefix) (by rw [Yg];simp)
 ·exact JcL q part evs[k].letter evs[k].content (by cases evs[k] using Ev.on <;> rfl) (hs _ (Qx hk)) h1 h2
theorem JhW {g:List UInt8} (hg:g.length<65536) {evs:List Ev} {r:Nat} (hr:r<endE g evs 0):∀q,(raR (q,(logB g evs).take r,true)).2.2.2.2=false:=by
 intro q
 have e0:endE g evs 0=(recB [71] g).length:=by unfold endE logB;simp
 have e1:(logB g evs).take r=(recB [71] g).take r:=by unfold logB;rw [List.take_append_of_le_length (by omega)]
 rw [e1]
 exact JcL q _ [71] g rfl hg (List.take_prefix _ _) (by rw [QB];omega)
theorem HAt.log {wd base:Nat} {outs:List (Nat×Nat)} {st:Option Tr} {evs:List Ev} {w:World} {lb:Nat} {F:Nat->Prop} {fl:Nat} {ch:Ch} (h:HAt wd base outs st evs (flos evs) w lb F fl ch) (hl:ch.length=blks evs+1):
  Calls prog 31 #[.pointer (some ⟨lb,0,none⟩)] w λe w'=>e=.returned (.string ⟨(logB (Jf wd outs) evs).toArray⟩)/\Tch NoB w w':=by
 obtain ⟨_,cb,r,bs,lv,C⟩:=HAt.self h hl rfl
 exact fLog (Ja C.led) _ (Jl5 C.row _ C.log)
theorem JdY {E:Nat->Addr} {base wd:Nat} {outs:List (Nat×Nat)} {st:Option Tr} {evs:List Ev} {w:World} {xb lb:Nat} {F:Nat->Prop} {fl:Nat} {ch:Ch} {vst:Value} {sl:List Sl} {states:List (List Held)} (hS:Xd E base wd outs st evs w xb lb F fl ch vst sl states) (hm:ch.length<=5000000) (hp:evs.length<=10000000) (k n:Nat) (hk:k<=evs.length) (h1:endE (Jf wd outs) evs k<=n) (h2:k<evs.length->n<endE (Jf wd outs) evs (k+1)) (h3:n<=(logB (Jf wd outs) evs).length):
  ∃chk flk,chk <+:ch/\chk.length=blks (evs.take k)+1/\flk=floE (evs.take k)/\flk<chk.length/\∀V,Tch NoB w V->JT E base V->base<=V.heap.size->
   Calls prog 32 #[.string ⟨((logB (Jf wd outs) evs).take n).toArray⟩] V λe w'=>Tch NoB V w'/\∃lb' F',e=.returned (.tuple #[.pointer (some ⟨lb',0,none⟩),.int .i64 (endE (Jf wd outs) evs k:Int),.int .i64 (if n=endE (Jf wd outs) evs k then 0 else 8)])/\(∀j,F' j->V.heap.size<=j)/\HAt wd base outs st (evs.take k) (flos (evs.take k)) w' lb' F' flk chk:=by
 obtain ⟨hB,hH⟩:=hS.hist
 obtain ⟨chk,flk,hHk,hpre⟩:=hH.take k hk
 obtain ⟨part,e1,e2,e3⟩:=Jld (Jf wd outs) evs k n hk h1 h2 h3
 have hbad:=Jkd e2 hH.small
 have hfl:flos (evs.take k)<=134217728:=by
  have:=Zi (evs.take k)
  rw [QB] at this
  omega
 have hll:=hS.logLen
 have hfe:=Zi evs
 refine ⟨chk,flk,hpre,hHk.len,hHk.fl,hHk.pos,λV hT hFV hbV=>?_⟩
 have hle:=hpre.length_le
 have H:=Jno E hB.w1 hB.w32 outs hB.ok hB.one hB.three st hB.first (evs.take k) hHk (by omega) hfl part hbad (by rw [<-e1,QB];omega) V hFV hbV
 rw [e1]
 refine H.mono ?_
 rintro e w' ⟨k0,lb',F',cb,r,bs,lv,k1,k2,k3⟩
 refine ⟨k0,lb',F',?_,k2,hB,evs.take k,cb,r,bs,lv,List.prefix_refl _,rfl,hHk,k3⟩
 have hq:(n=endE (Jf wd outs) evs k)↔part=[]:=by
  constructor
  ·intro h;exact QN (by omega)
  ·intro h;rw [h] at e3;simpa using e3
 rw [k1]
 by_cases hp0:part=[]
 ·rw [if_pos hp0,if_pos (hq.2 hp0)];rfl
 ·rw [if_neg hp0,if_neg (λh=>hp0 (hq.1 h))];rfl
theorem SOwn.take {base:Nat} {w:World} {g cap:Nat} {l:List Sl} (h:SOwn base w (.slice (some ⟨g,0,none⟩) l.length cap) l) (m:Nat) (hm:m<=l.length):SOwn base w (.slice (some ⟨g,0,none⟩) m cap) (l.take m):=by
 obtain ⟨h1,⟨e,h0⟩ | ⟨g',cap',cur,e,hb,hrow,h3,h4,h5,h6⟩⟩:=h
 ·cases e
 ·simp only [Qy,Qh,Addr.mk.injEq,and_true,true_and] at e
  obtain ⟨rfl,rfl⟩:=e
  have hml:(l.take m).length=m:=by rw [QB];omega
  refine ⟨by simp [slV],.inr ⟨g,cap,cur,by rw [hml],hb,hrow,by rw [hml];omega,h4,h5,?_⟩⟩
  have e2:slV (l.take m)=(slV l).take m:=by simp [slV]
  rw [e2,<-h6,hml,List.take_take]
  congr 1
  omega
theorem JfM {E:Nat->Addr} {wd base:Nat} {L L':Led E wd base} {w:World} {xb lb lb':Nat} {F F':Nat->Prop} {fl fl':Nat} {ch ch':Ch} {g cap:Nat} {sl:List Sl} {states:List (List Held)} (h:JO L w xb lb F fl ch (.slice (some ⟨g,0,none⟩) states.length cap) sl states) (hA:L'.At w lb' F' fl' ch') (hp:ch' <+:ch) (hf:fl'<ch'.length) (hb:base<=w.heap.size):
  JO L' (w.alloc (.cells #[.pointer (some ⟨lb',0,none⟩),.int .i64 (wd:Int),.slice (some ⟨g,0,none⟩) ch'.length cap,.int .i64 (fl':Int)] 35)) w.heap.size lb' F' fl' ch' (.slice (some ⟨g,0,none⟩) ch'.length cap) (sl.take ch'.length) (states.take ch'.length):=by
 have tA:=Ta NoB w (.cells #[.pointer (some ⟨lb',0,none⟩),.int .i64 (wd:Int),.slice (some ⟨g,0,none⟩) ch'.length cap,.int .i64 (fl':Int)] 35)
 have hl:=h.len
 have hle:=hp.length_le
 have hs:SOwn base w (.slice (some ⟨g,0,none⟩) sl.length cap) sl:=by rw [hl.1];exact h.st
 refine ⟨Qf _ _,L'.keep hA tA (λ_ e=>e.elim),(hs.take ch'.length (by omega)).tch tA (λ_ _ e=>e),hb,λi x l h1 h2=>?_,⟨by rw [QB,QB];omega,by rw [QB];omega,by rw [QB];omega⟩,by rw [QB];omega,λi c l h0 h1 h2=>?_⟩
 ·rw [List.getElem?_take] at h1 h2
  split at h1
  ·rename_i hi
   rw [if_pos hi] at h2
   exact (h.held i x l h1 h2).tch tA (λ_ _ e=>e)
  ·cases h1
 ·rw [List.getElem?_take] at h2
  split at h2
  ·obtain ⟨z,rfl⟩:=hp
   refine h.book i c l h0 ?_ h2
   rw [QF (Qo.1 h1).1]
   exact h1
  ·cases h2
theorem Jfy {E:Nat->Addr} {base wd:Nat} (hw1:1<=wd) (hw:wd<=32) {outs:List (Nat×Nat)} {st:Option Tr} {evs evs':List Ev} {w:World} {xb lb lb':Nat} {F F':Nat->Prop} {fl fl':Nat} {ch ch':Ch} {g cap:Nat} {sl:List Sl} {states:List (List Held)} (hS:Xd E base wd outs st evs w xb lb F fl ch (.slice (some ⟨g,0,none⟩) states.length cap) sl states) (hA:HAt wd base outs st evs' (flos evs') w lb' F' fl' ch') (hp:ch' <+:ch) (hf:fl'<ch'.length) (hb:base<=w.heap.size) (hF:JT E base w) (hl:states.length<=1000000000/\∀l∈states,l.length<1000000000):
  ∀W,W=w.alloc (.cells #[.pointer (some ⟨lb',0,none⟩),.int .i64 (wd:Int),.slice (some ⟨g,0,none⟩) ch'.length cap,.int .i64 (fl':Int)] 35)->
  (∀V (c:Int),Tch NoB W V-> -9223372036854775808<=c->c<9223372036854775808->Calls prog 23 #[.pointer (some ⟨w.heap.size,0,none⟩),.int .i64 c] V λe w'=>Tch NoB V w'/\∃(s:BA) (N:Int),Jn wd (s,N)/\e=.returned (.agg #[.string s,.int .i64 N]))/\
  (∀V (n:Nat) (s:BA) (N:Int),Tch NoB W V->n+1=ch'.length->Jn wd (s,N)->Calls prog 21 #[.pointer (some ⟨w.heap.size,0,none⟩),.int .i64 (n:Int),.agg #[.string s,.int .i64 N]] V λe w'=>e=.returned (.bool true)/\Tch NoB V w')/\
  (∀V (h:Int) (s:BA) (N:Int),Tch NoB W V->h<(fl':Int)->Calls prog 24 #[.pointer (some ⟨lb',0,none⟩),.int .i64 h,.agg #[.string s,.int .i64 N]] V λe w'=>e=.returned (.tuple #[.string ⟨#[]⟩,.int .i64 7])/\Tch NoB V w'):=by
 rintro W rfl
 have hO:=JfM (L':=Xg E base wd outs st evs' (flos evs')) hS.shop hA hp hf hb
 have hQ:=JiO E base wd outs st evs' (flos evs')
 have hF:=hF.tch (Ta NoB w (.cells #[.pointer (some ⟨lb',0,none⟩),.int .i64 (wd:Int),.slice (some ⟨g,0,none⟩) ch'.length cap,.int .i64 (fl':Int)] 35)) (λ_ e=>e.elim)
 have hl1:=hO.len
 have hl2:∀l∈states.take ch'.length,l.length<1000000000:=λl h=>hl.2 l (List.mem_of_mem_take h)
 have hl3:(states.take ch'.length).length<=1000000000:=by rw [QB];omega
 refine ⟨λV c hT h1 h2=>?_,λV n s N hT hn hco=>?_,λV h s N hT hh=>?_⟩
 ·refine (JjV _ hw1 hw _ lb' F' fl' ch' _ _ _ c h1 h2 V (hF.tch hT (λ_ e=>e.elim)).env (hO.next hT) hO.coins hl3 (λl h=>Nat.le_of_lt (hl2 l h))).mono ?_
  rintro e w' ⟨ht,⟨s,N⟩,hc,he⟩
  exact ⟨ht,s,N,hc,he⟩
 ·exact Jlb _ hQ hw1 hw _ lb' F' fl' ch' _ _ _ n (by omega) (by omega) (s,N) hco V (hF.tch hT (λ_ e=>e.elim)) (hO.next hT) hl3 hl2
 ·exact hQ.qout h (s,N) ((Xg E base wd outs st evs' (flos evs')).keep hO.led hT (λ_ e=>e.elim)) (hF.tch hT (λ_ e=>e.elim)) (by omega)
theorem JhQ (g:List UInt8) (evs:List Ev) (k:Nat) (hk:k<=evs.length):∃h:k<(YM g evs).length,(YM g evs)[k]=endE g evs k:=⟨by simp [YM];omega,by simp [YM]⟩
theorem JiP (evs:List Ev) (k:Nat) (hk:k<=evs.length):∃h:k<(YO evs).length,(YO evs)[k]=blks (evs.take k):=⟨by simp [YO];omega,by simp [YO]⟩
theorem JjJ (evs:List Ev) (k:Nat) (hk:k<=evs.length):∃h:k<(flsL evs).length,(flsL evs)[k]=floE (evs.take k):=⟨by simp [flsL];omega,by simp [flsL]⟩
