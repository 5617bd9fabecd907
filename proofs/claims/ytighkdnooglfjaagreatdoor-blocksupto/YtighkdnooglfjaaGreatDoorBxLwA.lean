import Derived.Test.YtighkdnooglfjaaGreatDoorBxKLast
import Derived.Test.YtighkdnooglfjaaGreatDoorBxRfA
import Derived.Test.YtighkdnooglfjaaGreatDoorBxCoinS
import Derived.Deep.DeepCutAuto
namespace Go.Proofs.YtighkdnooglfjaaGreatDoor
open Tryz
open Go.RowKit

theorem JbE {w:World} {gp:Nat} {l:List VV} {i:Nat} {T:TypeId} (h:w.heap[gp]? =some (.cells (vvA l) T)) (hi:i<l.length) (a o:Value):
  ((w.setCell ⟨gp,i * 2,none⟩ a).setCell ⟨gp,i * 2+1,none⟩ o).heap[gp]? =some (.cells (vvA (l.set i (a,o))) T)/\Tch (λk=>k=gp) w ((w.setCell ⟨gp,i * 2,none⟩ a).setCell ⟨gp,i * 2+1,none⟩ o):=by
 rw [Qj w gp (i * 2) _ _ (0,0) _ h,Qj _ gp (i * 2+1) _ _ (0,0) _ (Qi _ _ _ _ _ _ h),QI,JeA l i a o hi]
 exact ⟨Qi _ _ _ _ _ _ h,Ts _ _ _⟩
theorem Xf {w:World} {gp:Nat} {l:List VV} {i:Nat} {T:TypeId} (h:w.heap[gp]? =some (.cells (vvA l) T)) (x:VV) (hi:l[i]? =some x):w.cell? ⟨gp,i * 2,none⟩=some x.1/\w.cell? ⟨gp,i * 2+1,none⟩=some x.2:=by
 obtain ⟨hl,rfl⟩:=Qo.1 hi
 obtain ⟨e0,e1⟩:=YI l i hl
 exact ⟨(Ja h).trans e0,(Ja h).trans e1⟩
theorem Yr {w:World} {gp:Nat} {l:List VV} {T:TypeId} (h:w.heap[gp]? =some (.cells (vvA l) T)) (j:Nat):w.frozen? ⟨gp,j,none⟩=false:=Qg _ _ _ _ _ h
theorem mkV {K:LX} (hK:IsL K) (n:Nat) (h:n<=2000000) (w:World):(Instr.makeSlice K.k.tS (.int .i64 (n:Int)) (.int .i64 (n:Int))).run prog w=.ok (.slice (some ⟨w.heap.size,0,none⟩) n n) (w.alloc (.cells (vvA (List.replicate n K.z)) K.k.tE)):=by
 obtain ⟨h1,hu,hc,hb,_⟩:=JgN hK
 obtain ⟨i,hi,hp⟩:=Option.map_eq_some_iff.1 h1
 simp only [Qw] at hp
 obtain ⟨hz,hsz,hby⟩:=hp
 have:=run_makeSlice (P:=prog) (w:=w) K.k.tS K.k.tE i _ hu hi hz .i64 .i64 (n:Int) (n:Int) (by omega) (by omega) (by rw [hsz];omega) (by rw [hby];have:=Nat.mul_le_mul hb h;omega) (by omega)
 rw [this,Int.toNat_natCast,hsz,hc,JgS]
theorem Jav {P:Program} (w:World) (dT sT ty elem:TypeId) (sz g dLen dCap:Nat) (a:Addr) (sLen sCap:Nat) (cur:Array Value) (t:TypeId) (cs:List Value)
  (hu:P.underlying dT=some (.slice elem)) (hs:(P.info? elem).map (·.size)=some sz)
  (hg:w.heap[g]? =some (.cells cur t (0,0))) (hn:cs.length=Nat.min sLen dLen * sz)
  (hsrc:∀j v,cs[j]? =some v->w.cell? (a.add j)=some v) (hfit:cs.length<=cur.size) (h1:∀v∈cs,v.oneCell'=true):
  (Builtin.copy_ #[dT,sT] ty #[.slice (some ⟨g,0,none⟩) dLen dCap,.slice (some a) sLen sCap]).run P w=.ok (goInt (Nat.min sLen dLen)) (w.setRow g (cs++cur.toList.drop cs.length).toArray):=by
 have hl:=run_loadCells_list (P:=P) w a cs hsrc
 have hst:=run_storeCells_at P g 0 t cs 0 cur w hg (by omega) h1
 simp only [Nat.add_zero] at hst
 cases hq:P.info? elem with
 | none=>simp [hq] at hs
 | some i=>
  have hi:i.size=sz:=by simpa [hq] using hs
  simp [Builtin.copy_,run_underlying hu,Builtin.lenOf,Builtin.firstCells,sizeOf,typeInfo,hq,hi,<-hn,hl,hst]
theorem Jc7 (l r:List VV):vvA (l++r)=vvA l++vvA r:=by simp [vvA]
theorem Jez (n k:Nat) (z:VV):(vvA (List.replicate (n+k) z)).toList.drop (n * 2)=(vvA (List.replicate k z)).toList:=by
 rw [<-List.replicate_append_replicate,Jc7,Array.toList_append,List.drop_left']
 rw [QA,XT,List.length_replicate]
def VR (B:Nat) (w:World) (v:Value) (l:List VV):Prop:=
 (Emp v/\l=[])\/∃gi oi c,v=.slice (some ⟨gi,oi,none⟩) l.length c/\gi<B/\gi<w.heap.size/\∀i (h:i<l.length),w.cell? ⟨gi,oi+i * 2,none⟩=some l[i].1/\w.cell? ⟨gi,oi+i * 2+1,none⟩=some l[i].2
theorem VAt.raw {B:Nat} {w:World} {v:Value} {l:List VV} (h:VAt B w v l):VR B w v l:=h.imp_left λh=>⟨.inl h.1,h.2⟩
theorem VR.tch {B:Nat} {w w':World} {v:Value} {l:List VV} {S:Nat->Prop} (h:VR B w v l) (k:Tch S w w') (hs:∀j,S j->B<=j):VR B w' v l:=by
 rcases h with h | h
 ·exact .inl h
 ·exact (VAt.tch (.inr h) k hs).raw
theorem VR.shape {B:Nat} {w:World} {v:Value} {l:List VV} (h:VR B w v l):∃a c,v=.slice a l.length c:=by
 rcases h with ⟨h,rfl⟩ | ⟨gi,oi,c,rfl,_⟩
 ·exact h.shape
 ·exact ⟨_,_,rfl⟩
theorem JgL {K:LX} (hK:IsL K) {B:Nat} {w:World} {v:Value} {l:List VV} {gp k:Nat} (hl1:∀x∈l,K.Sh x) (h:VR B w v l) (hrow:w.heap[gp]? =some (.cells (vvA (List.replicate (l.length+k) K.z)) K.k.tE)):
  ∃r:Int,(∀ty,(Builtin.copy_ #[K.k.tS,K.k.tS] ty #[.slice (some ⟨gp,0,none⟩) (l.length+k) (l.length+k),v]).run prog w=.ok (.int .i64 r) (w.setRow gp (vvA (l++List.replicate k K.z)))):=by
 obtain ⟨_,hu,_,_,hinfo⟩:=JgN hK
 have h1:∀x∈l,x.1.oneCell'=true/\x.2.oneCell'=true:=λx hx=>JjM hK (hl1 x hx)
 rcases h with ⟨rfl | ⟨a,c,rfl⟩,rfl⟩ | ⟨gi,oi,c,rfl,k1,k2,k3⟩
 ·refine ⟨0,λty=>?_⟩
  have:=run_copy_nil (P:=prog) w K.k.tS K.k.tS ty K.k.tE ⟨gp,0,none⟩ ((List.length ([]:List VV))+k) ((List.length ([]:List VV))+k) hu (by rw [hinfo];rfl)
  rw [this,List.nil_append]
  simp only [Qv,Nat.zero_add] at hrow
  rw [setRow_self w gp _ _ _ hrow]
  rfl
 ·refine ⟨0,λty=>?_⟩
  have:=Jav (P:=prog) w K.k.tS K.k.tS ty K.k.tE 2 gp ((List.length ([]:List VV))+k) ((List.length ([]:List VV))+k) a 0 c _ _ [] hu hinfo hrow (by simp) (λj v hv=>by simp at hv) (by simp) (λv hv=>by simp at hv)
  rw [this]
  simp only [Qv,List.drop_zero,List.nil_append,Array.toArray_toList,Nat.zero_add,Nat.zero_min]
  rfl
 ·refine ⟨(Nat.min l.length (l.length+k):Nat),λty=>?_⟩
  have hmin:Nat.min l.length (l.length+k)=l.length:=Nat.min_eq_left (by omega)
  have:=Jav (P:=prog) w K.k.tS K.k.tS ty K.k.tE 2 gp (l.length+k) (l.length+k) ⟨gi,oi,none⟩ l.length c _ _ (vvA l).toList hu hinfo hrow
   (by rw [QA,XT,hmin])
   (Jd0 l _ w (λi hi=>by rw [Addr.add_lit,Addr.add_lit,<-Nat.add_assoc];exact k3 i hi))
   (by rw [QA,XT,XT,List.length_replicate];omega) (Jha l h1)
  have e1:(vvA l).toList.length=l.length * 2:=by rw [QA,XT]
  rw [this,e1,Jez,<-Array.toList_append,<-Jc7,Array.toArray_toList]
  rfl
structure OneC (tS tE:TypeId):Prop where
 und:prog.underlying tS=some (.slice tE)
 info:∃z b,(prog.info? tE).map (λi=>(i.zero,i.size,i.bytes))=some (some z,1,b)/\z.cells.size=1/\b<=24
def VOwn (tE base:Nat) (w:World) (v:Value) (l:List Value):Prop:=w.ownsRow base tE 1 v l.length l
theorem VOwn.nil (tE base:Nat) (w:World):VOwn tE base w (.slice none 0 0) []:=⟨rfl,.inl ⟨rfl,rfl⟩⟩
theorem VOwn.own {tE base:Nat} {w:World} {v:Value} {l:List Value} (h:VOwn tE base w v l):∀k,v.ownBlock=some k->base<=k/\k<w.heap.size/\∃cs m,w.heap[k]? =some (.cells cs tE m):=by
 obtain ⟨_,⟨rfl,h0⟩ | ⟨g,cap,cur,rfl,hb,hrow,_⟩⟩:=h
 ·intro k hk;cases hk
 ·intro k hk;cases hk;exact ⟨hb,(Jb hrow),_,_,hrow⟩
theorem VOwn.tch {tE base:Nat} {w w':World} {v:Value} {l:List Value} {S:Nat->Prop} (h:VOwn tE base w v l) (k:Tch S w w') (hs:∀j,v.ownBlock=some j->¬S j):VOwn tE base w' v l:=by
 obtain ⟨h1,⟨rfl,h0⟩ | ⟨g,cap,cur,rfl,hb,hrow,h2⟩⟩:=h
 ·exact ⟨h1,.inl ⟨rfl,h0⟩⟩
 ·exact ⟨h1,.inr ⟨g,cap,cur,rfl,hb,(k.block g (Jb hrow) (hs g rfl)).trans hrow,h2⟩⟩
theorem VOwn.shape {tE base:Nat} {w:World} {v:Value} {l:List Value} (h:VOwn tE base w v l):∃a c,v=.slice a l.length c:=by
 obtain ⟨_,⟨rfl,h0⟩ | ⟨g,cap,cur,rfl,_⟩⟩:=h
 ·exact ⟨none,0,by rw [h0]⟩
 ·exact ⟨_,_,rfl⟩
theorem VOwn.shape3 {tE base:Nat} {w:World} {v:Value} {l:List Value} (h:VOwn tE base w v l):∃a n c,v=.slice a n c:=by
 obtain ⟨a,c,e⟩:=h.shape
 exact ⟨a,_,c,e⟩
theorem VOwn.apart {tE T base:Nat} {w:World} {v:Value} {l:List Value} (h:VOwn tE base w v l) {j:Nat} {cs:Array Value} {m:Nat×Nat} (hr:w.heap[j]? =some (.cells cs T m)) (hT:T ≠ tE):¬v.ownBlock=some j:=λe=>by
 obtain ⟨_,_,cs',m',hr'⟩:=h.own j e
 rw [hr] at hr'
 simp at hr'
 exact hT hr'.2.1
theorem VOwn.at {tE base:Nat} {w:World} {v:Value} {l:List Value} (h:VOwn tE base w v l) (i:Nat) (x:Value) (hx:l[i]? =some x):∃g cap,v=.slice (some ⟨g,0,none⟩) l.length cap/\g<w.heap.size/\w.cell? ⟨g,i,none⟩=some x:=by
 have hi:=(Qo.1 hx).1
 obtain ⟨_,⟨rfl,h0⟩ | ⟨g,cap,cur,rfl,_,hrow,_,_,hsz,htake⟩⟩:=h
 ·omega
 ·refine ⟨g,cap,rfl,(Jb hrow),?_⟩
  rw [<-htake] at hx
  rw [List.getElem?_take_of_lt (by omega)] at hx
  rw [Ja hrow,<-Array.getElem?_toList]
  exact hx
theorem Jeu {tS tE base:Nat} (hO:OneC tS tE) {w:World} {v:Value} {l:List Value} (h:VOwn tE base w v l) (k:Nat) (x:Value) (hx:w.cell? ⟨k,0,none⟩=some x) (h1:x.oneCell'=true) (ty:TypeId) (hb:l.length<=1000000000) (hbase:base<=w.heap.size):
  ∃v' w',(Builtin.append_ #[tS,tS] ty #[v,.slice (some ⟨k,0,none⟩) 1 1]).run prog w=.ok v' w'/\VOwn tE base w' v' (l++[x])/\w.grownBy w' v.ownBlock/\(v'.ownBlock=v.ownBlock\/v'.ownBlock=some w.heap.size):=by
 obtain ⟨z,b,hinf,hzs,hb24⟩:=hO.info
 obtain ⟨i,hi,hp⟩:=Option.map_eq_some_iff.1 hinf
 simp only [Qw] at hp
 obtain ⟨hz,hsz,hby⟩:=hp
 obtain ⟨v',w',hr,h2,h3,_,h4⟩:=run_append_own_at (P:=prog) w base tS ty tE i _ 1 b hO.und hi hz hsz hby hzs (by omega) v l.length l h ⟨k,0,none⟩ 1 1 [x] rfl (λj u hu=>by
  rw [Addr.add_lit,Nat.zero_add]
  match j with
  | 0=>simp only [List.getElem?_cons_zero,Qh] at hu;rw [<-hu];exact hx
  | j+1=>simp at hu) (λu hu=>by simp only [Qt] at hu;rw [hu];exact h1) (by simp only [maxLen];omega) (by have:=Nat.mul_le_mul_left (l.length+1) hb24;omega) hbase
 exact ⟨v',w',hr,by unfold VOwn;rw [Qe];exact h2,h3,h4⟩
theorem XU {tS tE base:Nat} (hO:OneC tS tE) {w:World} {ops:Array Oper} {rest:List Oper} {o:Oper} {a:Act} {Q:Exit->Act->World->Prop} (hgd:o.guard=none) (s x:Operand)
  (ho:o.op=.call { callee:=.builtin .append,args:= #[s,x],argTypes:= #[tS,tS] })
  {v:Value} {l:List Value} (hv:a.eval s=v) (h:VOwn tE base w v l) (k:Nat) (y:Value) (hx:a.eval x=.slice (some ⟨k,0,none⟩) 1 1) (hc:w.cell? ⟨k,0,none⟩=some y) (h1:y.oneCell'=true) (hb:l.length<=1000000000) (hbase:base<=w.heap.size)
  (hK:∀v' w',VOwn tE base w' v' (l++[y])->w.grownBy w' v.ownBlock->(v'.ownBlock=v.ownBlock\/v'.ownBlock=some w.heap.size)->wpList prog ops Q rest (a.put o.dst v') w'):wpList prog ops Q (o :: rest) a w:=by
 refine wpList_plain hgd λK hK'=>?_
 obtain ⟨v',w',hrun,r,r2,r3⟩:=Jeu hO h k y hc h1 o.type hb hbase
 unfold Oper.wp
 simp [execOp,ho,resolve,invoke,builtin,hv,hx,hrun,Result.andThen]
 exact hK' _ _ (hK v' w' r r2 r3)
theorem Jl3:OneC 67 32:=⟨by kernel_rfl,.pointer none,8,by kernel_rfl,rfl,by decide⟩
theorem Jl5:OneC 68 129:=⟨by kernel_rfl,.pointer none,8,by kernel_rfl,rfl,by decide⟩
theorem Jl2:OneC 308 96:=⟨by kernel_rfl,.slice none 0 0,24,by kernel_rfl,rfl,by decide⟩
theorem Jl4:OneC 309 22:=⟨by kernel_rfl,.slice none 0 0,24,by kernel_rfl,rfl,by decide⟩
set_option maxRecDepth 100000
set_option maxHeartbeats 1000000

theorem ZN (i:Int) (w:World):Calls prog 102 #[.int .i64 i] w λe w'=>e=.returned (.agg #[.int .u64 (IntKind.u64.wrap (wrap64 (77+i))),.int .u8 77])/\Tch NoB w w':=by
 generalize hz:IntKind.u64.wrap (wrap64 (77+i))=z
 go_enter func102,ntmps102
 go_wp2
 refine QK (v:=.agg #[.int .u64 _,.int .u8 77]) (Qq results102 _ _ w.heap.size _ _ (0,0) _ rfl (Qf _ _) underlying80 rfl (by kernel_rfl)) rfl ⟨?_,Ta _ _ _⟩
 rw [<-hz]
def behO (i:Nat):VV:=(.int .u64 ((77+i:Nat):Int),.int .u8 77)
def Xw:List VV:=(List.range 8).map behO
theorem Jcs {B:Nat} (w:World) (v:Value) (l:List VV) (hl:l.length<=1000000) (hv:VR B w v l) (hs:∀x∈l,ShO x):
  Calls prog 62 #[v] w λe w'=>∃g,e=.returned (.slice (some ⟨g,0,none⟩) (l.length+8) (l.length+8))/\w.heap.size<=g/\w'.heap[g]? =some (.cells (vvA (l++Xw)) 80)/\Tch NoB w w':=by
 obtain ⟨ia,ic,hvs⟩:=hv.shape
 have hmk:=mkV isO (l.length+8) (by omega) w
 have hrow0:=Qf w (.cells (vvA (List.replicate (l.length+8) zO)) 80)
 obtain ⟨r,hcp⟩:=JgL isO (k:=8) hs (hv.tch (Ta NoB w (.cells (vvA (List.replicate (l.length+8) zO)) 80)) noE) hrow0
 have wn:IntKind.i64.wrap ((l.length:Int)+8)=((l.length+8:Nat):Int):=by rw [w63 _ (by omega) (by omega)];omega
 obtain ⟨L0,hL0⟩:∃L0,l++List.replicate 8 zO=L0:=⟨_,rfl⟩
 have hcp':∀ty,(Builtin.copy_ #[22,22] ty #[.slice (some ⟨w.heap.size,0,none⟩) (l.length+8) (l.length+8),v]).run prog (w.alloc (.cells (vvA (List.replicate (l.length+8) zO)) 80))=.ok (.int .i64 r) ((w.alloc (.cells (vvA (List.replicate (l.length+8) zO)) 80)).setRow w.heap.size (vvA L0)):=by rw [<-hL0];exact hcp
 have HL0:Hid (l++List.replicate 8 zO=L0):=hL0
 clear hcp hL0
 subst hvs
 generalize hln:l.length=n at *
 generalize hmm:n+8=m at *
 have HR0:Hid ((w.alloc _).heap[w.heap.size]? =_):=hrow0
 have HLN:Hid (l.length=n/\n+8=m):=⟨hln,hmm⟩
 have hm2:(n:Int)+8<=(m:Int):=by omega
 have hm3:(m:Int)<=1000008:=by omega
 clear hln hv hs hmm
 go_enter func62,ntmps62
 go_wp2
 have HB:Hid (∀(k:Nat) V,k<8->Calls prog 102 #[.int .i64 (k:Int)] V λe w'=>e=.returned (.agg #[.int .u64 ((77+k:Nat):Int),.int .u8 77])/\Tch NoB V w'):=λk V hk=>by
  have:=ZN (k:Int) V
  rw [show wrap64 (77+(k:Int))=77+(k:Int) by unfold wrap64;omega,show IntKind.u64.wrap (77+(k:Int))=((77+k:Nat):Int) by simp [IntKind.wrap,IntKind.bits,IntKind.signed];omega] at this
  exact this
 go_loopw [4] (λi wr=>∃k:Nat,k<=8/\i=.int .i64 k/\Hid (wr.heap[w.heap.size]? =some (.cells (vvA (l++(List.range k).map behO++List.replicate (8 - k) zO)) 80))/\Hid (Tch NoB w wr)) (λi _=>8 - (intOf i).toNat)
 case atStart=>
  refine ⟨0,by omega,rfl,by show _=_;rw [show l++List.map behO (List.range 0)++List.replicate (8 - 0) zO=L0 by rw [<-HL0.o];simp];exact Qi _ _ _ _ _ _ HR0.o,?_⟩
  exact (Ta NoB w _).trans (Ts _ _ _) (λj hj=>.inr (by rw [hj];exact Ql _))
 case round=>
  obtain ⟨k,hk,rfl,HR,HT⟩:=hrel
  by_cases hlt:k<8
  ·have hlti:(k:Int)<8:=by omega
   obtain ⟨q,hq⟩:∃q:Nat,n+k=q:=⟨_,rfl⟩
   have wq:IntKind.i64.wrap ((n:Int)+(k:Int))=(q:Int):=by rw [w63 _ (by omega) (by omega)];omega
   have hqm:(q:Int)<(m:Int):=by omega
   have HQ:Hid (n+k=q):=hq
   have HBk:Hid (∀V,Calls prog 102 #[.int .i64 (k:Int)] V λe w'=>e=.returned (.agg #[.int .u64 ((77+k:Nat):Int),.int .u8 77])/\Tch NoB V w'):=λV=>HB.o k V hlt
   have HLL:Hid (q<(l++(List.range k).map behO++List.replicate (8 - k) zO).length):=by
    show q<List.length _
    simp only [Qe,QM,List.length_range,List.length_replicate]
    have:=HLN.o.1
    omega
   obtain ⟨z,hz⟩:∃z:Nat,77+k=z:=⟨_,rfl⟩
   rw [hz] at HBk
   have HZ:Hid (77+k=z):=hz
   clear hz hq
   go_wp2_with (go_at_call 102;refine (HBk.o _).mono ?_;rintro _ w2 ⟨rfl,ht2⟩;have HT2:Hid (Tch NoB wr w2):=ht2;have HR2:Hid (w2.heap[w.heap.size]? =some (.cells (vvA (l++(List.range k).map behO++List.replicate (8 - k) zO)) 80)):=(HT2.o.block _ (Jb HR.o) (λh=>h)).trans HR.o;obtain ⟨f0,f1⟩:=Xf HR2.o _ (Qd HLL.o);have fz:=Yr HR2.o;clear ht2)
   obtain ⟨p1,p2⟩:=JbE HR2.o HLL.o (.int .u64 (z:Int)) (.int .u8 77)
   go_roundw
   case rel=>
    refine ⟨k+1,by omega,by go_num,?_,?_⟩
    ·show _=_
     rw [p1]
     congr 2
     have h1:=HLN.o.1
     have h2:=HQ.o
     have h3:=HZ.o
     rw [<-h2,<-h1,Qs,List.set_append_right _ _ (by omega),Qs,List.set_append_right _ _ (by simp)]
     rw [show 8 - k=(8 - (k+1))+1 by omega,List.replicate_succ,List.range_succ,List.map_append,Qs]
     simp only [QM,List.length_range,Nat.add_sub_cancel_left,Nat.sub_self,Qb,List.map_cons,List.map_nil,List.cons_append,List.nil_append]
     rw [<-h3]
     rfl
    ·exact (HT.o.trans HT2.o (λ_ h=>.inl h)).trans p2 (λj hj=>.inr (by rw [hj];exact Ql _))
   case measure=>simp [intOf];omega
  ·obtain rfl:k=8:=by omega
   have hge:¬((8:Nat):Int)<8:=by omega
   go_wp2
   go_ret
   refine ⟨w.heap.size,rfl,Ql _,?_,HT.o⟩
   have:=HR.o
   simp only [Nat.sub_self,List.replicate_zero,QC] at this
   exact this

abbrev qO:VV:=(.int .u64 99,.int .u8 99)
theorem Jcr {B:Nat} (w:World) (g:Nat) (v:Value) (l:List VV) (hl:l.length<=1000000) (hv:VR B w v l) (hg:B<=g) (hs:∀x∈l,ShO x) (hrow:w.heap[g]? =some (.cells (vvA (l++Xw)) 80)):
  Calls Tryz.prog 64 #[.slice (some ⟨g,0,none⟩) (l.length+8) (l.length+8),v] w λe w'=>e=.returned (.bool true)/\w'.heap[g]? =some (.cells (vvA (List.replicate (l.length+8) qO)) 80)/\Tch (λk=>k=g) w w':=by
 have HSH:Hid (∀x∈l++Xw,ShO x):=λx hx=>by
  rcases QE.1 hx with h | h
  ·exact hs x h
  ·obtain ⟨k,_,rfl⟩:=QL.1 h
   exact ⟨_,_,rfl⟩
 have HLL:Hid ((l++Xw).length=l.length+8):=by show List.length _=_;rw [Qe];rfl
 obtain ⟨ia,ic,hvs⟩:=hv.shape
 subst hvs
 generalize hln:l.length=n at *
 generalize hmm:n+8=m at *
 have HLN:Hid (l.length=n/\n+8=m):=⟨hln,hmm⟩
 have hm2:(n:Int)+8<=(m:Int):=by omega
 have hm3:(m:Int)<=1000008:=by omega
 have HV:Hid (VR B w (.slice ia n ic) l):=hv
 have HG:Hid (B<=g):=hg
 have HR0:Hid (w.heap[g]? =_):=hrow
 clear hln hv hs hmm hg hrow
 go_enter Tryz.func64,Tryz.ntmps64
 go_wp2
 go_loopw [5,6] (λok i wr=>∃k:Nat,k<=m/\ok=.bool true/\i=.int .i64 k/\Hid (wr.heap[g]? =some (.cells (vvA (List.replicate k qO++(l++Xw).drop k)) 80))/\Hid (Tch (λk=>k=g) w wr)) (λ_ i _=>m - (intOf i).toNat)
 case atStart=>exact ⟨0,by omega,rfl,rfl,by show _=_;rw [List.replicate_zero,List.nil_append,List.drop_zero];exact HR0.o,Te _ _⟩
 case round=>
  obtain ⟨k,hk,rfl,rfl,HR,HT⟩:=hrel
  by_cases hlt:k<m
  ·have hlti:(k:Int)<(m:Int):=by omega
   have HKL:Hid (k<(l++Xw).length):=by show k<List.length _;rw [HLL.o];exact hlt
   obtain ⟨x,hx⟩:∃x,(l++Xw)[k]? =some x:=⟨_,Qd HKL.o⟩
   obtain ⟨xa,xo,rfl⟩:=HSH.o x (QT hx)
   have HX:Hid ((l++Xw)[k]? =some (.int .u64 xa,.int .u8 xo)):=hx
   have HRK:Hid ((List.replicate k qO++(l++Xw).drop k)[k]? =some (.int .u64 xa,.int .u8 xo)):=by
    show _=_
    rw [Qz (by simp),List.length_replicate,Nat.sub_self,List.getElem?_drop,Nat.add_zero]
    exact hx
   clear hx
   obtain hkn | hkn:=Nat.lt_or_ge k n
   case' inl=>
    have hkni:(k:Int)<(n:Int):=by omega
    obtain ⟨gi,oi,rfl,hgi,HCE⟩:∃gi oi,ia=some ⟨gi,oi,none⟩/\gi ≠ g/\Hid (∀V,Tch (λk=>k=g) w V->V.cell? ⟨gi,oi+k * 2,none⟩=some (.int .u64 xa)/\V.cell? ⟨gi,oi+k * 2+1,none⟩=some (.int .u8 xo)):=by
     rcases HV.o with ⟨e,e2⟩ | ⟨gi,oi,c,e,hgB,hgi,hcell⟩
     ·rw [e2] at HLN;have:=HLN.o.1;simp at this;omega
     ·simp only [Qy] at e
      have h2:k<l.length:=by rw [HLN.o.1];exact hkn
      have h3:l[k]=(.int .u64 xa,.int .u8 xo):=by
       have:=HX.o
       rw [QF h2,Qd h2] at this
       exact Option.some.inj this
      have h4:=hcell k h2
      rw [h3] at h4
      have hgg:gi ≠ g:=by have:=HG.o;omega
      refine ⟨gi,oi,e.1,hgg,λV hV=>?_⟩
      rw [hV.cell (p:=⟨gi,oi+k * 2,none⟩) hgi hgg,hV.cell (p:=⟨gi,oi+k * 2+1,none⟩) hgi hgg]
      exact h4
    go_upto_region 7 with (go_at_call 102;refine (ZN _ _).mono ?_;rintro _ w2 ⟨rfl,ht2⟩;have HT2:Hid (Tch NoB wr w2):=ht2;clear ht2)
    generalize IntKind.u64.wrap (wrap64 (77+((k:Int) - (n:Int))))=p
    obtain ⟨w3,hw3⟩:∃w3,w3=w2.alloc (.cells #[.int .u64 p,.int .u8 77] 80):=⟨_,rfl⟩
    have h3:w3.heap[w2.heap.size]? =some (.cells #[.int .u64 p,.int .u8 77] 80):=by rw [hw3];exact Qf _ _
    have HT3:Hid (Tch NoB wr w3):=HT2.o.trans (by rw [hw3];exact Ta NoB _ _) (λ_ h=>.inl h)
    have HXB:Hid (wr.heap.size<=w2.heap.size):=HT2.o.size
    rw [<-hw3]
    clear hw3
    generalize w2.heap.size=xb at *
    obtain ⟨p1,p2⟩:=JcC h3 (.int .u64 xa) (.int .u8 xo)
    have b0:w3.cell? ⟨xb,0,none⟩=some (.int .u64 p):=Ja h3
    have b1:w3.cell? ⟨xb,1,none⟩=some (.int .u8 77):=Ja h3
    have bf:∀j,w3.frozen? ⟨xb,j,none⟩=false:=λj=>Qg _ _ _ _ _ h3
    obtain ⟨q0,q1⟩:=HCE.o w3 (HT.o.trans HT3.o noE)
    have HTX:Hid (Tch NoB wr ((w3.setCell ⟨xb,0,none⟩ (.int .u64 xa)).setCell ⟨xb,1,none⟩ (.int .u8 xo))):=HT3.o.trans p2 (λj hj=>.inr (by rw [hj];exact HXB.o))
    have HBX:Hid (((w3.setCell ⟨xb,0,none⟩ (.int .u64 xa)).setCell ⟨xb,1,none⟩ (.int .u8 xo)).heap[xb]? =some (.cells #[.int .u64 xa,.int .u8 xo] 80)):=p1
    clear p1 p2 h3
    go_upto_region 8 with fail
    generalize (w3.setCell ⟨xb,0,none⟩ (.int .u64 xa)).setCell ⟨xb,1,none⟩ (.int .u8 xo)=wx at *
    clear b0 b1 bf q0 q1 hkni
   case' inr=>
    have hkni:¬(k:Int)<(n:Int):=by omega
    obtain ⟨hxa,hxo⟩:xa=((77+(k - n):Nat):Int)/\xo=77:=by
     have h2:=HX.o
     rw [Qz (by rw [HLN.o.1];exact hkn),HLN.o.1] at h2
     have h4:=HLN.o.2
     have h3:Xw[k - n]? =some (behO (k - n)):=by
      unfold Xw
      rw [List.getElem?_map,List.getElem?_range (by omega)]
      rfl
     rw [h3] at h2
     simp only [behO,Qh,Qw,Value.int.injEq,true_and] at h2
     exact ⟨h2.1.symm,h2.2.symm⟩
    have hwr:IntKind.u64.wrap (wrap64 (77+((k:Int) - (n:Int))))=xa:=by
     rw [hxa,show wrap64 (77+((k:Int) - (n:Int)))=((77+(k - n):Nat):Int) by unfold wrap64;omega]
     simp [IntKind.wrap,IntKind.bits,IntKind.signed];omega
    have HXO:Hid (xo=77):=hxo
    clear hxa hxo
    go_upto_region 8 with (go_at_call 102;refine (ZN _ _).mono ?_;rintro _ w2 ⟨rfl,ht2⟩;have HT2:Hid (Tch NoB wr w2):=ht2;clear ht2)
    obtain ⟨wx,hw3⟩:∃w3,w3=w2.alloc (.cells #[.int .u64 xa,.int .u8 77] 80):=⟨_,rfl⟩
    have HBX:Hid (wx.heap[w2.heap.size]? =some (.cells #[.int .u64 xa,.int .u8 xo] 80)):=by rw [hw3,HXO.o];exact Qf _ _
    have HTX:Hid (Tch NoB wr wx):=HT2.o.trans (by rw [hw3];exact Ta NoB _ _) (λ_ h=>.inl h)
    have HXB:Hid (wr.heap.size<=w2.heap.size):=HT2.o.size
    rw [<-hw3]
    clear hw3 hwr hkni
    generalize w2.heap.size=xb at *
   all_goals
    have HRX:Hid (wx.heap[g]? =some (.cells (vvA (List.replicate k qO++(l++Xw).drop k)) 80)):=(HTX.o.block _ (Jb HR.o) (λh=>h)).trans HR.o
    obtain ⟨s0,s1⟩:=Xf HRX.o _ HRK.o
    have b0:=cell_of_row wx xb 0 _ _ _ HBX.o
    have b1:=cell_of_row wx xb 1 _ _ _ HBX.o
    simp only [List.getElem?_toArray,List.getElem?_cons_zero,List.getElem?_cons_succ] at b0 b1
    go_cut [5] (λv5 wy=>v5=.bool true/\Hid (Tch NoB wx wy))
    case first=>
     go_region_held3 (λV=>V.cell? ⟨g,k * 2,none⟩=some (.int .u64 xa)/\V.cell? ⟨g,k * 2+1,none⟩=some (.int .u8 xo)/\V.cell? ⟨xb,0,none⟩=some (.int .u64 xa)/\V.cell? ⟨xb,1,none⟩=some (.int .u8 xo)) (go_keep) (fail)
     all_goals
      go_wp2
      go_meet
      exact ⟨rfl,Td _ _ 1⟩
    case rest=>
    obtain ⟨rfl,HTY⟩:=hcut
    obtain ⟨wy,hwy⟩:∃wy,wy=wc:=⟨wc,rfl⟩
    subst hwy
    clear s0 s1 b0 b1
    have HRY:Hid (wy.heap[g]? =some (.cells (vvA (List.replicate k qO++(l++Xw).drop k)) 80)):=(HTY.o.block _ (Jb HRX.o) (λh=>h)).trans HRX.o
    obtain ⟨s0,s1⟩:=Xf HRY.o _ HRK.o
    have fz:=Yr HRY.o
    obtain ⟨p1,p2⟩:=JbE HRY.o (Qo.1 HRK.o).1 (.int .u64 99) (.int .u8 99)
    have HP1:Hid (_=some (Obj.cells _ _)):=p1
    have HP2:Hid (Tch _ wy _):=p2
    clear p1 p2
    go_wp2
    go_roundw
    case rel=>
     refine ⟨k+1,by omega,rfl,by go_num,?_,?_⟩
     ·show _=_
      rw [HP1.o]
      congr 2
      have h1:=HKL.o
      rw [List.set_append_right _ _ (by simp),List.length_replicate,Nat.sub_self,List.drop_eq_getElem_cons h1,Qb,List.replicate_succ',Qs]
      rfl
     ·exact ((HT.o.trans HTX.o noE).trans HTY.o noE).trans HP2.o (λj hj=>.inl hj)
    case measure=>simp [intOf];omega
  ·obtain rfl:k=m:=by omega
   have hge:¬(k:Int)<(k:Int):=by omega
   go_wp2
   go_ret
   refine ⟨rfl,?_,HT.o⟩
   have h1:=HR.o
   rw [List.drop_eq_nil_of_le (by rw [HLL.o];exact Ql _),QC] at h1
   exact h1
