import Derived.Test.YtighkdnooglfjaaGreatDoorOcKApp
namespace Go.Proofs.YtighkdnooglfjaaGreatDoor
open Go.Proofs.Tryz
open Go.RowKit

def Jjc (w:World) (v:Value) (ts:List TxL):Prop:=
 ∃l:List (Sl×Sl),Xe w.heap.size w v l/\l.length=ts.length/\∀(j:Nat) x t,l[j]? =some x->ts[j]? =some t->JB w.heap.size w (.slice x.1.1 x.1.2.1 x.1.2.2) t.1/\Jo w.heap.size w (.slice x.2.1 x.2.2.1 x.2.2.2) t.2
structure JT (E:Nat->Addr) (base:Nat) (w:World):Prop where
 env:Env E w
 sent:Sent E w
 vars:18<=base
 rows:∀g∈Ss,(E g).block<base
theorem JT.tch {E:Nat->Addr} {base:Nat} {S:Nat->Prop} {w w':World} (h:JT E base w) (k:Tch S w w') (hs:∀j,S j->base<=j):JT E base w':=
 ⟨h.env.tch k (λj hj=>Qm h.vars (hs j hj)),h.sent.tch k (λg hg hj=>by have:=hs _ hj;have:=h.rows g hg;omega),h.vars,h.rows⟩
def Jcy (ch:Ch) (h:Int):BA:=if 0<=h then (ch.getD h.toNat (⟨#[]⟩,none)).1 else ⟨#[]⟩
structure Led (E:Nat->Addr) (wd base:Nat) where
 At:World->Nat->(Nat->Prop)->Nat->Ch->Prop
 keep:∀{w w':World} {lb:Nat} {F S:Nat->Prop} {fl:Nat} {ch:Ch},At w lb F fl ch->Tch S w w'->(∀j,S j->¬F j)->At w' lb F fl ch
 own:∀{w:World} {lb:Nat} {F:Nat->Prop} {fl:Nat} {ch:Ch},At w lb F fl ch->∀j,F j->base<=j/\j<w.heap.size
 kinds:∀{w:World} {lb:Nat} {F:Nat->Prop} {fl:Nat} {ch:Ch},At w lb F fl ch->∀j,F j->∀cur T m,w.heap[j]? =some (.cells cur T m)->T ≠ 35/\T ≠ 43/\T ≠ 87
 tip:∀{w:World} {lb:Nat} {F:Nat->Prop} {fl:Nat} {ch:Ch},At w lb F fl ch->JT E base w->
  Calls prog 15 #[.pointer (some ⟨lb,0,none⟩)] w λe w'=>e=.returned (.int .i64 ((ch.length:Int) - 1))/\Tch NoB w w'
 header:∀{w:World} {lb:Nat} {F:Nat->Prop} {fl:Nat} {ch:Ch} (h:Int),At w lb F fl ch->JT E base w-> -9223372036854775808<=h->h<9223372036854775808->
  Calls prog 16 #[.pointer (some ⟨lb,0,none⟩),.int .i64 h] w λe w'=>e=.returned (.tuple #[.string (Jcy ch h),.int .i64 (if 0<=h/\h<(ch.length:Int) then 0 else 7)])/\Tch NoB w w'
 seals:∀{w:World} {lb:Nat} {F:Nat->Prop} {fl:Nat} {ch:Ch} (v:Value) (ts:List TxL),At w lb F fl ch->JT E base w->Jjc w v ts->(∀t∈ts,TxOk wd t)->ts.length<=3->ch.length<2 ^ 27->
  Calls prog 18 #[.pointer (some ⟨lb,0,none⟩),v] w λe w'=>Tch NoB w w'/\match JfL (dgW wd) wd ch ts with
   | .ok b=>e=.returned (.tuple #[.string ⟨b.toArray⟩,.int .i64 0])
   | .error er=>e=.returned (.tuple #[.string ⟨#[]⟩,.int .i64 (Xs er)])
 submits:∀{w:World} {lb:Nat} {F:Nat->Prop} {fl:Nat} {ch:Ch} (s:BA),At w lb F fl ch->JT E base w->s.size<=1000000->ch.length<2 ^ 27->
  Calls prog 19 #[.pointer (some ⟨lb,0,none⟩),.string s] w λe w'=>Tch F w w'/\∃F':Nat->Prop,(∀j,F' j->F j\/w.heap.size<=j)/\match Xo (dgW wd) wd ch s.data.toList with
   | .ok ch'=>e=.returned (.int .i64 0)/\At w' lb F' fl ch'
   | .error er=>e=.returned (.int .i64 (Xs er))/\At w' lb F' fl ch
def slV (l:List Sl):List Value:=l.map λx=>.slice x.1 x.2.1 x.2.2
theorem JgI (l l':List Sl):slV (l++l')=slV l++slV l':=by simp [slV]
def SOwn (base:Nat) (w:World) (v:Value) (l:List Sl):Prop:=w.ownsRow base 43 1 v l.length (slV l)
theorem SOwn.own {base:Nat} {w:World} {v:Value} {l:List Sl} (h:SOwn base w v l):∀k,v.ownBlock=some k->base<=k/\k<w.heap.size:=by
 obtain ⟨_,⟨rfl,h0⟩ | ⟨g,cap,cur,rfl,hb,hrow,_⟩⟩:=h
 ·intro k hk;cases hk
 ·intro k hk;cases hk;exact ⟨hb,(Jb hrow)⟩
theorem SOwn.tch {base:Nat} {w w':World} {v:Value} {l:List Sl} {S:Nat->Prop} (h:SOwn base w v l) (k:Tch S w w') (hs:∀j,v.ownBlock=some j->¬S j):SOwn base w' v l:=by
 obtain ⟨h1,⟨rfl,h0⟩ | ⟨g,cap,cur,rfl,hb,hrow,h2⟩⟩:=h
 ·exact ⟨h1,.inl ⟨rfl,h0⟩⟩
 ·exact ⟨h1,.inr ⟨g,cap,cur,rfl,hb,(k.block g (Jb hrow) (hs g rfl)).trans hrow,h2⟩⟩
theorem SOwn.at {base:Nat} {w:World} {v:Value} {l:List Sl} (h:SOwn base w v l) (hl:l ≠ []):∃g cap,v=.slice (some ⟨g,0,none⟩) l.length cap/\∀i (hi:i<l.length),w.cell? ⟨g,i,none⟩=some (.slice l[i].1 l[i].2.1 l[i].2.2):=by
 obtain ⟨_,⟨rfl,h0⟩ | ⟨g,cap,cur,rfl,hb,hrow,_,_,hsz,htake⟩⟩:=h
 ·exact absurd (QN h0) hl
 ·refine ⟨g,cap,rfl,λi hi=>?_⟩
  rw [Ja hrow,<-Array.getElem?_toList]
  have e:(slV l)[i]? =some (.slice l[i].1 l[i].2.1 l[i].2.2):=by simp [slV,hi]
  rw [<-htake,List.getElem?_take_of_lt (by omega)] at e
  exact e
theorem Jk4:(prog.info? 43).map (λi=>(i.zero,i.size,i.bytes))=some (some (.slice none 0 0),1,24):=by kernel_rfl
theorem Jdu {base:Nat} {w:World} {v:Value} {l:List Sl} (h:SOwn base w v l) (k:Nat) (x:Sl) (hx:w.cell? ⟨k,0,none⟩=some (.slice x.1 x.2.1 x.2.2)) (ty:TypeId) (hb:l.length<=10000000000) (hbase:base<=w.heap.size):
  ∃v' w',(Builtin.append_ #[33,33] ty #[v,.slice (some ⟨k,0,none⟩) 1 1]).run prog w=.ok v' w'/\SOwn base w' v' (l++[x])/\w.grownBy w' v.ownBlock:=by
 obtain ⟨i,hi,hp⟩:=Option.map_eq_some_iff.1 Jk4
 simp only [Qw] at hp
 obtain ⟨hz,hsz,hby⟩:=hp
 obtain ⟨v',w',hr,h2,h3,h4⟩:=run_append_own (P:=prog) w base 33 ty 43 i _ 1 24 underlying33 hi hz hsz hby rfl (by omega) v l.length (slV l) h ⟨k,0,none⟩ 1 1 (slV [x]) rfl (λj u hu=>by
  cases j with
  | zero=>simp only [slV,List.map_cons,List.map_nil,List.getElem?_cons_zero,Qh] at hu;rw [<-hu,Addr.add_lit];exact hx
  | succ j=>simp [slV] at hu) (λu hu=>by simp only [slV,List.map_cons,List.map_nil,Qt] at hu;rw [hu];rfl) (by simp only [maxLen];omega) (by omega) hbase
 exact ⟨v',w',hr,by unfold SOwn;rw [Qe,JgI];exact h2,h3⟩
theorem JbL {base:Nat} {w:World} {ops:Array Oper} {rest:List Oper} {o:Oper} {a:Act} {Q:Exit->Act->World->Prop} (hgd:o.guard=none) (s x:Operand)
  (ho:o.op=.call { callee:=.builtin .append,args:= #[s,x],argTypes:= #[33,33] })
  {v:Value} {l:List Sl} (hv:a.eval s=v) (h:SOwn base w v l) (k:Nat) (y:Sl) (hx:a.eval x=.slice (some ⟨k,0,none⟩) 1 1) (hc:w.cell? ⟨k,0,none⟩=some (.slice y.1 y.2.1 y.2.2)) (hb:l.length<=10000000000) (hbase:base<=w.heap.size)
  (hK:∀v' w',SOwn base w' v' (l++[y])->w.grownBy w' v.ownBlock->wpList prog ops Q rest (a.put o.dst v') w'):wpList prog ops Q (o :: rest) a w:=by
 refine wpList_plain hgd λK hK'=>?_
 obtain ⟨v',w',hrun,r,r2⟩:=Jdu h k y hc o.type hb hbase
 unfold Oper.wp
 simp [execOp,ho,resolve,invoke,builtin,hv,hx,hrun,Result.andThen]
 exact hK' _ _ (hK v' w' r r2)
structure JO {E:Nat->Addr} {wd base:Nat} (L:Led E wd base) (w:World) (xb lb:Nat) (F:Nat->Prop) (fl:Nat) (ch:Ch) (vst:Value) (sl:List Sl) (states:List (List Held)):Prop where
 row:w.heap[xb]? =some (.cells #[.pointer (some ⟨lb,0,none⟩),.int .i64 (wd:Int),vst,.int .i64 (fl:Int)] 35)
 led:L.At w lb F fl ch
 st:SOwn base w vst sl
 low:base<=xb
 held:∀(i:Nat) x l,sl[i]? =some x->states[i]? =some l->XQ w (.slice x.1 x.2.1 x.2.2) l
 len:sl.length=states.length/\ch.length=states.length/\1<=states.length
 floor:fl<states.length
 book:∀(i:Nat) c l,0<=i->ch[i]? =some c->states[i]? =some l->Book wd c.2 l
theorem JO.next {E:Nat->Addr} {wd base:Nat} {L:Led E wd base} {w w':World} {xb lb:Nat} {F:Nat->Prop} {fl:Nat} {ch:Ch} {vst:Value} {sl:List Sl} {states:List (List Held)} (h:JO L w xb lb F fl ch vst sl states) (k:Tch NoB w w'):JO L w' xb lb F fl ch vst sl states:=
 ⟨(k.block _ (Jb h.row) (λe=>e)).trans h.row,L.keep h.led k (λ_ e=>e.elim),h.st.tch k (λ_ _ e=>e),h.low,λi x l h1 h2=>(h.held i x l h1 h2).tch k (λ_ _ e=>e),h.len,h.floor,h.book⟩
set_option maxRecDepth 100000
set_option maxHeartbeats 2000000

def PS.step (wd:Nat) (s:Stp) (p:PS):Option (Stp×PS):=
 match p.num s.1 2 with
 | none=>none
 | some (m,p1)=>if 8 * (wd+1)<=m then none else match p1.txt s.2.data.toList wd with
  | none=>none
  | some (t,p2)=>some ((m,⟨t.toArray⟩),p2)
def Zf (wd:Nat) (k:Int) (x:BA) (st:Option PS):(Nat×List UInt8)×Option PS:=(((Yi wd k st).1,(Jj x.data.toList wd (Yi wd k st).2).1),(Jj x.data.toList wd (Yi wd k st).2).2)
theorem JlL (E:Nat->Addr) (b:Nat) (hb12:18<=b) (g:Option Nat) (wd:Nat) (hw:wd<=1000) (k:Int) (x:BA) (st:Option PS) (w:World) (hE:Env E w) (hp:Jh E w b g wd st) (hd:JN st<=80000000):
  Calls prog 218 #[.pointer (some ⟨b,0,none⟩),.agg #[.int .i64 k,.string x]] w λe w'=>e=.returned (.agg #[.int .i64 ((Zf wd k x st).1.1:Int),.string ⟨(Zf wd k x st).1.2.toArray⟩])/\StTo E w w' b g wd (Zf wd k x st).2:=by
 have hlt:=hp.lt
 have HR0:=Run.start hb12 hE hp (Tch.allocs NoB w (.cells #[.int .i64 k,.string x] 366) (.cells #[.int .i64 0,.string ⟨#[]⟩] 366))
 have hl0:=Jd5 wd k st
 have RUN:Hid _:=HR0
 go_enter func218,ntmps218
 go_wp2_with fail
 refine (Jjs E b hb12 g wd hw k st _ RUN.env RUN.port (by omega)).mono ?_
 rintro _ w1 ⟨rfl,h⟩
 obtain ⟨g1,(RUN1:Hid _)⟩:=RUN.step h
 have bx1:=(RUN1.box (k:=w.heap.size) (Ql _) (heap_alloc2_old _ _ _)).1
 obtain ⟨-,c1⟩:=rows bx1
 clear bx1 h
 go_wp2_with fail
 refine (Ys E b g1 wd x _ _ RUN1.env RUN1.port (by omega)).mono ?_
 rintro _ w3 ⟨rfl,h⟩
 obtain ⟨g3,(RUN3:Hid _)⟩:=RUN1.step h
 have rR:=(RUN3.box (k:=w.heap.size+1) (by omega) (heap_alloc2_new _ _ _)).1
 obtain ⟨e0,e1⟩:=rows rR
 have fR:∀j,w3.frozen? ⟨w.heap.size+1,j,none⟩=false:=λj=>Qg _ _ _ _ _ rR
 have RR:Hid _:=rR
 clear rR h
 go_wp2
 rw [set2 _ _ _ _ _ _ _ RR.out]
 exact QJ (v:=.agg #[.int .i64 ((Zf wd k x st).1.1:Int),.string ⟨(Zf wd k x st).1.2.toArray⟩]) (Qq results218 _ _ (w.heap.size+1) _ _ (0,0) _ rfl (Qi _ _ _ _ _ _ RR) underlying366 rfl (by kernel_rfl)) rfl ⟨rfl,RUN3.done (k:=w.heap.size+1) (by omega) (heap_alloc2_new _ _ _) (by decide)⟩
theorem JdG (n:Nat) (h:n<65536):JD (n:Int)=n:=by unfold JD;omega
theorem JfT (wd:Nat) (s:Stp) (hs:s.1<65536) (p:PS) (h:p.step wd s=none):(Zf wd (s.1:Int) s.2 (some p)).2=none:=by
 unfold Zf Yi
 rw [JdG _ hs]
 unfold PS.step at h
 cases h1:p.num s.1 2 with
 | none=>rw [ZV h1];dsimp only;split <;> rfl
 | some r=>
  obtain ⟨m,p1⟩:=r
  rw [h1] at h
  dsimp only at h
  rw [JS h1]
  dsimp only
  split at h
  ·rename_i hm;rw [if_pos hm];rfl
  ·rename_i hm
   rw [if_neg hm]
   cases h2:p1.txt s.2.data.toList wd with
   | none=>rw [XX h2]
   | some r2=>rw [h2] at h;cases h
theorem JfU (wd:Nat) (s y:Stp) (hs:s.1<65536) (p p2:PS) (h:p.step wd s=some (y,p2)):(Zf wd (s.1:Int) s.2 (some p)).2=some p2/\y=((Zf wd (s.1:Int) s.2 (some p)).1.1,⟨(Zf wd (s.1:Int) s.2 (some p)).1.2.toArray⟩):=by
 unfold Zf Yi
 rw [JdG _ hs]
 unfold PS.step at h
 cases h1:p.num s.1 2 with
 | none=>rw [h1] at h;cases h
 | some r=>
  obtain ⟨m,p1⟩:=r
  rw [h1] at h
  dsimp only at h
  rw [JS h1]
  dsimp only
  split at h
  ·cases h
  ·rename_i hm
   rw [if_neg hm]
   cases h2:p1.txt s.2.data.toList wd with
   | none=>rw [h2] at h;cases h
   | some r2=>
    obtain ⟨t,p3⟩:=r2
    rw [h2] at h
    simp only [Qh,Qw] at h
    obtain ⟨rfl,rfl⟩:=h
    rw [JL h2]
    exact ⟨rfl,rfl⟩
def encS (s:Stp):VV:=(.int .i64 (s.1:Int),.string s.2)
def Jbg (wd:Nat):XE Stp where
 f:=λs p=>p.step wd s
 grow:=wd+2
 zero:=(0,⟨#[]⟩)
 zeroV:=zS
 Init:=λ_ _ _ x s=>x=encS s/\s.1<65536
 Done:=λ_ _ _ x s=>x=encS s
theorem JaT {wd:Nat} {s y:Stp} {p p2:PS} (h:p.step wd s=some (y,p2)):p.like p2/\p2.len<=p.len+(wd+2):=by
 unfold PS.step at h
 cases h1:p.num s.1 2 with
 | none=>rw [h1] at h;cases h
 | some r=>
  obtain ⟨m,p1⟩:=r
  rw [h1] at h
  dsimp only at h
  split at h
  ·cases h
  ·cases h2:p1.txt s.2.data.toList wd with
   | none=>rw [h2] at h;cases h
   | some r2=>
    obtain ⟨t,p3⟩:=r2
    rw [h2] at h
    simp only [Qh,Qw] at h
    obtain ⟨_,rfl⟩:=h
    have l1:=Zn _ _ _ _ _ h1
    have l2:=JeP _ _ _ _ _ h2
    exact ⟨(XR h1).trans (Jf2 h2),by omega⟩
theorem lawS (E:Nat->Addr) (b:Nat) (hb12:18<=b) (wd lim:Nat) (hw:wd<=1000) (hl:lim<=80000000):Yw E b wd lim lkS.fP (Jbg wd) ShS where
 init_tch:=λh _ _ _=>h
 init_zero:=λ_ _=>⟨rfl,by show 0<65536;omega⟩
 init_shape:=λh=>⟨_,_,h.1⟩
 done_tch:=λh _ _ _=>h
 done_mono:=λh _=>h
 like:=λh=>(JaT h).1
 len:=λ_ h=>(JaT h).2
 call:=λ{w g p x a} hE hp hI hd=>by
  obtain ⟨rfl,ha⟩:=hI
  show Calls _ _ #[_,.agg #[.int .i64 (a.1:Int),.string a.2]] _ _
  refine (JlL E b hb12 g wd hw (a.1:Int) a.2 (some p) w hE hp (by simp only [JN];omega)).mono ?_
  rintro e w' ⟨rfl,g',k1,k2,k3⟩
  refine ⟨(.int .i64 _,.string _),⟨_,_,rfl⟩,rfl,?_⟩
  show ToP E w b g wd (Jbg wd) (p.step wd a) _ w'
  cases h:p.step wd a with
  | none=>
   rw [JfT wd a ha p h] at k1
   obtain ⟨p',t,u,h1,h2⟩:=k1
   exact ⟨g',_,p',h1,k2,k3,h2⟩
  | some r=>
   obtain ⟨y,p2⟩:=r
   obtain ⟨e1,e2⟩:=JfU wd a y ha p p2 h
   rw [e1] at k1
   exact ⟨g',_,p2,k1,k2,k3,rfl,rfl,by rw [e2];rfl⟩

theorem JdN (a:Int) (w:World):Calls prog 344 #[.int .i64 a] w λe w'=>e=.returned (.bool false)/\w'=w:=by
 go_enter func344,ntmps344
 go_wp2
 go_ret
 exact ⟨by simp,rfl⟩
def sgn (a b:Int):Int:=if a<b then -1 else if b<a then 1 else 0
theorem JmJ (a b:Int):(0<=sgn a b)↔¬a<b:=by unfold sgn;split <;> (try split) <;> omega
theorem Jfc (a b:Int) (w:World):Calls prog 293 #[.int .i64 a,.int .i64 b] w λe w'=>e=.returned (.int .i64 (sgn a b))/\w'=w:=by
 go_enter func293,ntmps293
 go_wp2_with fail
 refine (JdN _ _).mono ?_
 rintro _ _ ⟨rfl,rfl⟩
 go_wp2_with fail
 refine (JdN _ _).mono ?_
 rintro _ _ ⟨rfl,rfl⟩
 by_cases h1:a<b
 ·have HS:Hid (sgn a b= -1):=(by unfold sgn;rw [if_pos h1]:sgn a b= -1)
  go_wp2
  go_ret
  exact ⟨by rw [HS.o];rfl,rfl⟩
 ·by_cases h2:b<a
  ·have HS:Hid (sgn a b=1):=(by unfold sgn;rw [if_neg h1,if_pos h2]:sgn a b=1)
   go_wp2
   go_ret
   exact ⟨by rw [HS.o];rfl,rfl⟩
  ·have HS:Hid (sgn a b=0):=(by unfold sgn;rw [if_neg h1,if_neg h2]:sgn a b=0)
   go_wp2
   go_ret
   exact ⟨by rw [HS.o];rfl,rfl⟩
theorem Jgc (a b:Int) (x y:BA) (w:World):Calls prog 220 #[.agg #[.int .i64 a,.string x],.agg #[.int .i64 b,.string y]] w λe w'=>e=.returned (.int .i64 (sgn a b))/\Tch NoB w w':=by
 go_enter func220,ntmps220
 go_wp2_with fail
 refine (Jfc _ _ _).mono ?_
 rintro _ _ ⟨rfl,rfl⟩
 go_wp2
 go_ret
 exact ⟨rfl,Tch.allocs _ w _ _⟩

theorem Jet (a:Addr) (w:World):(method 641 170 (.pointer (some a)) "trove/wire.more").run prog w=.ok (140,.pointer (some a)) w:=by kernel_rfl
theorem Jeu (a:Addr) (w:World):(method 641 153 (.pointer (some a)) "trove/wire.more").run prog w=.ok (377,.pointer (some a)) w:=by kernel_rfl
theorem Ji0 (a:Value) (m:Bool) (w:World):Calls prog 377 #[a,.bool m] w λe w'=>e=.returned (.bool m)/\w'=w:=by
 go_enter func377,ntmps377
 go_wp2
 go_ret
 exact ⟨rfl,rfl⟩
def Zw (m:Bool):Option PS->Bool
 | none=>false
 | some (⟨.inl (_,rest)⟩)=> !rest.isEmpty
 | some (⟨.inr _⟩)=>m
theorem Jls (E:Nat->Addr) (b:Nat) (g:Option Nat) (wd:Int) (m:Bool) (st:Option PS) (w:World) (hp:Jh E w b g wd st):
  Calls prog 221 #[.pointer (some ⟨b,0,none⟩),.bool m] w λe w'=>e=.returned (.bool (Zw m st))/\Tch NoB w w':=by
 cases st with
 | none=>
  obtain ⟨p,t,u,h1,_⟩:=hp
  have ce:=h1.errCell
  go_enter func221,ntmps221
  go_wp2
  go_ret
  exact ⟨rfl,Te _ _⟩
 | some p=>
  have hp:=hp
  have ce:=hp.errCell
  cases p using PS.on with
  | rd pre rest=>
   obtain ⟨c0, -⟩:=rows hp.2
   have hm:=Jet ⟨b,0,none⟩
   have HP:Hid (Jc _ _ _ _ _ _):=hp
   go_enter func221,ntmps221
   go_wp2_with fail
   refine (JbH b g wd .nilIface _ pre rest w HP.o).mono ?_
   rintro _ w1 ⟨rfl,(HT:Hid _)⟩
   go_wp2
   go_ret
   exact ⟨rfl,HT⟩
  | wr d=>
   have c0:w.cell? ⟨b,0,none⟩=some (.iface 153 (.pointer (some ⟨b,0,none⟩))):=by obtain ⟨v,_,_,hr⟩:=hp;exact Ja hr
   have hm:=Jeu ⟨b,0,none⟩
   go_enter func221,ntmps221
   go_wp2_with fail
   refine (Ji0 _ m w).mono ?_
   rintro _ _ ⟨rfl,rfl⟩
   go_wp2
   go_ret
   exact ⟨rfl,Te _ _⟩
def YF (ys:List Stp) (k:Nat):Prop:=∀i,1<=i->i<k->∀x y,ys[i - 1]? =some x->ys[i]? =some y->x.1<y.1
def JlF (ys:List Stp) (k:Nat):Decidable (YF ys k):=
 decidable_of_iff (∀i,i<k->1<=i->∀x∈ys[i - 1]?,∀y∈ys[i]?,x.1<y.1) ⟨λh i h1 h2 x y hx hy=>h i h2 h1 x hx y hy,λh i h2 h1 x hx y hy=>h i h1 h2 x y hx hy⟩
def Xl (ys:List Stp) (st:Option PS):Option PS:=haveI:=JlF ys ys.length;if YF ys ys.length then st else none
theorem JfH (E:Nat->Addr) (b:Nat) (g:Option Nat) (wd:Int) (what:Value) (a:Option Addr) (n c:Nat) (w:World) (hp:Jh E w b g wd none):
  Calls prog 219 #[.pointer (some ⟨b,0,none⟩),what,.slice a n c,.func (.func 220) #[] #[]] w λe w'=>e=.returned (.tuple #[])/\w'=w:=by
 obtain ⟨p,t,u,h1,_⟩:=hp
 have ce:=h1.errCell
 clear h1
 go_enter func219,ntmps219
 go_wp2
 go_loopw [8] (λi wr=>i=.int .i64 1/\wr=w) (λ_ _=>0)
 case atStart=>exact ⟨rfl,rfl⟩
 case round=>
  obtain ⟨rfl,rfl⟩:=hrel
  by_cases hlt:1<n
  ·have hlti:(1:Int)<(n:Int):=by omega
   go_wp2
   exact bodyPost_end (v:=.tuple #[]) (results_none results219 _ _ _) rfl ⟨rfl,rfl⟩
  ·have hlti:¬(1:Int)<(n:Int):=by omega
   go_wp2
   exact bodyPost_end (v:=.tuple #[]) (results_none results219 _ _ _) rfl ⟨rfl,rfl⟩
theorem JfI (E:Nat->Addr) (b:Nat) (g:Option Nat) (wd:Int) (what:BA) (hwh:what.size<=1000) (gp:Nat) (ys:List Stp) (hn:ys.length<=300) (p:PS) (w:World) (hE:Env E w) (hp:Jh E w b g wd (some p)) (hr:w.heap[gp]? =some (.cells (vvA (ys.map encS)) 366)) (hgb:gp ≠ b) (hgg:some gp ≠ g):
  Calls prog 219 #[.pointer (some ⟨b,0,none⟩),.string what,.slice (some ⟨gp,0,none⟩) ys.length ys.length,.func (.func 220) #[] #[]] w λe w'=>e=.returned (.tuple #[])/\StTo E w w' b g wd (Xl ys (some p)):=by
 have HG:Hid (gp ≠ b/\some gp ≠ g):=⟨hgb,hgg⟩
 have HE:Hid (Env E w):=hE
 have HP:Hid (Jh E w b g wd (some p)):=hp
 have HR:Hid (w.heap[gp]? =some (.cells (vvA (ys.map encS)) 366)):=hr
 have HN:Hid (ys.length<=300):=hn
 clear hE hp hr hgb hgg hn
 go_enter func219,ntmps219
 go_wp2
 go_loopw [8] (λi wr=>∃k:Nat,1<=k/\i=.int .i64 k/\((Hid (Tch NoB w wr)/\Hid (YF ys k))\/(Hid (StTo E w wr b g wd none)/\Hid (¬YF ys ys.length)))) (λi _=>ys.length+1 - (intOf i).toNat)
 case atStart=>exact ⟨1,by omega,rfl,.inl ⟨Te _ w,λi h1 h2=>by omega⟩⟩
 case round=>
  obtain ⟨k,hk1,rfl,⟨hT,hRi⟩ | ⟨hS,hNR⟩⟩:=hrel
  ·by_cases hlt:k<ys.length
   ·have hrow:=(hT.out.block gp (Jb HR.o) (λh=>h)).trans HR.o
    have hpk:=HP.o.next hT.out
    have ce:=Jc.errCell hpk
    have hlen:ys.length<=300:=HN.o
    have hgk:=λi (hi:i<ys.length)=>Yj (ys.map encS) i (by simpa using hi)
    have cell:∀i (hi:i<ys.length),wr.cell? ⟨gp,i * 2,none⟩=some (.int .i64 (ys[i].1:Int))/\wr.cell? ⟨gp,i * 2+1,none⟩=some (.string ys[i].2):=λi hi=>by
     obtain ⟨e1,e2⟩:=hgk i hi
     rw [List.getElem_map] at e1 e2
     exact ⟨(Ja hrow).trans e1,(Ja hrow).trans e2⟩
    obtain ⟨j,hjk⟩:∃j,k=j+1:=⟨k - 1,by omega⟩
    obtain ⟨a0,a1⟩:=cell j (by omega)
    obtain ⟨b0,b1⟩:=cell k hlt
    have HLT:Hid (k<ys.length):=hlt
    have HA:Hid (ys[j]? =some ys[j]):=Qd (by omega)
    have HB:Hid (ys[k]? =some ys[k]):=Qd hlt
    have hlti:(k:Int)<(ys.length:Int):=by omega
    have hsub:IntKind.i64.wrap ((k:Int) - 1)=(j:Int):=by rw [JC _ (by omega) (by omega)];omega
    have hj0:j<ys.length:=by omega
    have hji:(j:Int)<(ys.length:Int):=by omega
    have HJK:Hid (k=j+1):=hjk
    clear cell hgk hrow
    generalize hX:ys[j]=X at *
    generalize hY:ys[k]=Y at *
    obtain ⟨x0,x1⟩:=X
    obtain ⟨y0,y1⟩:=Y
    dsimp only at a0 a1 b0 b1
    clear hX hY hpk hlt hjk
    go_upto_region 3 with fail
    go_cut [33] (λvb wx=>vb=.bool (decide (0<=sgn (x0:Int) (y0:Int)))/\Hid (Tch NoB wr wx))
    case first=>
     clear hRi hT HA HB HE HP HR HN
     go_region_with (go_at_call 220;refine (Jgc _ _ _ _ _).mono ?_;rintro _ w1 ⟨rfl,ht⟩;have HT1:Hid (Tch _ _ _):=ht;clear ht)
     all_goals
      go_wp2
      go_meet
      exact ⟨rfl,(Td NoB wr 1).trans HT1.o (λ_ h=>.inl h)⟩
    case rest=>
    obtain ⟨rfl,hTx⟩:=hcut
    obtain ⟨wA,hwA⟩:∃wA,wA=wc:=⟨_,rfl⟩
    have HTX:Hid (Tch NoB w wA):=hT.out.trans (hwA ▸ hTx.out) (λ_ h=>.inl h)
    subst hwA
    have hpA:=HP.o.next HTX.o
    have hSG:(0<=sgn (x0:Int) (y0:Int))↔¬x0<y0:=by rw [JmJ];omega
    by_cases hlt:x0<y0
    ·have hdec:decide (0<=sgn (x0:Int) (y0:Int))=false:=by simp [hSG,hlt]
     rw [hdec]
     have HRI:Hid (YF ys (k+1)):=λi h1 h2 x y hx hy=>by
      by_cases hi:i<k
      ·exact hRi.out i h1 hi x y hx hy
      ·obtain rfl:i=k:=by omega
       rw [show i - 1=j by have:=HJK.o;omega,HA.o] at hx
       rw [HB.o] at hy
       cases hx;cases hy;exact hlt
     clear hRi hSG hdec hlt hpA
     go_wp2
     go_roundw
     case rel=>exact ⟨k+1,by omega,by go_num,.inl ⟨HTX.o,HRI.o⟩⟩
     case measure=>have:=HLT.o;simp [intOf];omega
    ·have hdec:decide (0<=sgn (x0:Int) (y0:Int))=true:=by simp [hSG,hlt]
     rw [hdec]
     have HNR:Hid (¬YF ys ys.length):=λh=>hlt (h k hk1 HLT.o _ _ (by rw [show k - 1=j by have:=HJK.o;omega];exact HA.o) HB.o)
     have HEA:Hid (Env E wA):=HE.o.tch HTX.o noE
     have HPA:Hid (Jh E wA b g wd (some p)):=hpA
     clear hRi hSG hdec hlt hpA
     have hws:(what++(⟨#[32]⟩:BA)).size<=1001:=by rw [ByteArray.size_append];show what.size+1<=1001;omega
     have hnb0:¬(what.size+(⟨#[32]⟩:BA).size > 9223372036854775807):=by show ¬(what.size+1 > 9223372036854775807);omega
     go_wp2_with fail
     refine (JcB HEA.o k (by omega)).mono ?_
     rintro _ w2 ⟨⟨s1,hs1,rfl⟩,hb2⟩
     have HT2:Hid (Tch NoB wA w2):=(Tch.of_below hb2).mono (λ_ h=>.inr h)
     clear hb2
     generalize what++(⟨#[32]⟩:BA)=ws at *
     have hnb:¬(ws.size+s1.size > 9223372036854775807):=by omega
     go_wp2_with fail
     refine (ZG E b g wd (ws++s1) _ w2 (HEA.o.tch HT2.o noE) (HPA.o.next HT2.o)).mono ?_
     rintro _ w3 ⟨rfl,hs3⟩
     have HS3:Hid (StTo E w w3 b g wd none):=StTo.fresh (HTX.o.trans HT2.o (λ_ h=>.inl h)) hs3
     clear hs3
     go_wp2
     go_roundw
     case rel=>exact ⟨k+1,by omega,by go_num,.inr ⟨HS3.o,HNR.o⟩⟩
     case measure=>have:=HLT.o;simp [intOf];omega
   ·have HRI:Hid (YF ys ys.length):=λi h1 h2=>hRi.out i h1 (by omega)
    have hlti:¬((k:Nat):Int)<(ys.length:Int):=by omega
    go_wp2
    refine bodyPost_end (v:=.tuple #[]) (results_none results219 _ _ _) rfl ⟨rfl,?_⟩
    unfold Xl
    rw [if_pos HRI.o]
    exact ⟨g,HP.o.next hT.out,.inl rfl,hT.out.mono noE⟩
  ·have hev:=hS.out.choose_spec.1.err
   obtain ⟨_,t,u,ce⟩ | ⟨⟨_,h⟩,_⟩:=hev
   ·by_cases hlt:k<ys.length
    ·have hlti:((k:Nat):Int)<(ys.length:Int):=by omega
     go_wp2
     refine bodyPost_end (v:=.tuple #[]) (results_none results219 _ _ _) rfl ⟨rfl,?_⟩
     unfold Xl
     rw [if_neg hNR.out]
     exact hS.out
    ·have hlti:¬((k:Nat):Int)<(ys.length:Int):=by omega
     go_wp2
     refine bodyPost_end (v:=.tuple #[]) (results_none results219 _ _ _) rfl ⟨rfl,?_⟩
     unfold Xl
     rw [if_neg hNR.out]
     exact hS.out
   ·cases h
