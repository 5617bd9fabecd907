import Derived.Test.YtighkdnooglfjaaGreatDoorPxChS
import Derived.Sort.CutIn
namespace Go.Proofs.YtighkdnooglfjaaGreatDoor
open Tryz
open Go.RowKit

def psE:Nat->List Nat->List MapEntry
 | _,[]=>[]
 | i,q :: r=>⟨.pointer (some ⟨q,0,none⟩),.agg #[],i⟩ :: psE (i+1) r
theorem JgB (qs:List Nat) (q:Nat):∀i,psE i (qs++[q])=psE i qs++[⟨.pointer (some ⟨q,0,none⟩),.agg #[],i+qs.length⟩]:=by
 induction qs with
 | nil=>intro i;simp [psE]
 | cons x r ih=>
  intro i
  rw [List.cons_append,psE,ih (i+1),psE,List.cons_append,Qp]
  have e:i+1+r.length=i+(r.length+1):=by omega
  rw [e]
theorem u_ps:prog.underlying 405=some (.map 144 288):=underlying405
theorem u_np:prog.underlying 144=some (.pointer 243):=underlying144
def IsN (w:World) (q:Nat):Prop:=∃c,w.heap[q]? =some (.cells c 243)
theorem Jna {a b:Nat} {w:World} (hne:a ≠ b) (ha:IsN w a) (hb:IsN w b):(Op.equal 144 (.pointer (some ⟨a,0,none⟩)) (.pointer (some ⟨b,0,none⟩))).run prog w=.ok false w:=by
 obtain ⟨ca,ha⟩:=ha
 obtain ⟨cb,hb⟩:=hb
 have:=run_sameAddr_other (P:=prog) w (a:=⟨a,0,none⟩) (b:=⟨b,0,none⟩) (λe=>hne (by cases e;rfl)) ha hb
 unfold Op.equal
 rw [show Op.maxDepth=9999+1 from rfl,Op.equalIn]
 simp only [Sem.run_bind,run_underlying u_np,Result.andThen_ok]
 go_simp
theorem Jkl {w:World} {q:Nat} (hq:IsN w q):∀(qs:List Nat),(∀x∈qs,IsN w x)->q ∉ qs->∀i j,(Instr.findAsking 144 (.pointer (some ⟨q,0,none⟩)) (psE i qs) j).run prog w=.ok none w
 | [],_,_,i,j=>rfl
 | x :: r,hx,hn,i,j=>by
  rw [psE,Instr.findAsking]
  simp only [Sem.run_bind,Jna (λe=>hn (by rw [e];exact List.mem_cons_self)) hq (hx x List.mem_cons_self),Result.andThen_ok]
  exact Jkl hq r (λy hy=>hx y (List.mem_cons_of_mem _ hy)) (λe=>hn (List.mem_cons_of_mem _ e)) (i+1) (j+1)
theorem Jhs {w:World} {q:Nat} (hq:IsN w q) (qs:List Nat) (hx:∀x∈qs,IsN w x) (hn:q ∉ qs):(Instr.findKey 144 (.pointer (some ⟨q,0,none⟩)) (psE 0 qs)).run prog w=.ok none w:=by
 unfold Instr.findKey
 simp only [Sem.run_bind,run_underlying u_np,Result.andThen_ok]
 cases qs with
 | nil=>rfl
 | cons x r=>
  rw [show Instr.findNow (.pointer 243) (.pointer (some ⟨q,0,none⟩)) (psE 0 (x :: r)) 0=none from rfl]
  exact Jkl hq _ hx hn 0 0
theorem Jfz (q:Nat) (em:Bool) (w:World):(Instr.checkKey em 10000 144 (.pointer (some ⟨q,0,none⟩))).run prog w=.ok () w:=by
 rw [show (10000:Nat)=9999+1 from rfl,Instr.checkKey]
 simp only [Sem.run_bind,run_underlying u_np,Result.andThen_ok]
 rfl
def _root_.Go.World.setPs (w:World) (p:Nat) (qs:List Nat):World:={ w with heap:=w.heap.setIfInBounds p (.map (psE 0 qs).toArray qs.length) }
theorem Jht {w:World} {p q:Nat} {qs:List Nat} (h:w.heap[p]? =some (.map (psE 0 qs).toArray qs.length)) (hq:IsN w q) (hx:∀x∈qs,IsN w x) (hn:q ∉ qs):
  (Instr.lookup 405 (.map (some p)) (.pointer (some ⟨q,0,none⟩)) true).run prog w=.ok (.tuple #[.agg #[],.bool false]) w:=by
 simp [Instr.lookup,run_underlying u_ps,Go.MapKept.run_getObj_map h,Jfz,Jhs hq qs hx hn,Result.andThen]
theorem Jhu {w:World} {p q:Nat} {qs:List Nat} (h:w.heap[p]? =some (.map (psE 0 qs).toArray qs.length)) (hq:IsN w q) (hx:∀x∈qs,IsN w x) (hn:q ∉ qs):
  (Instr.mapUpdate 405 (.map (some p)) (.pointer (some ⟨q,0,none⟩)) (.agg #[])).run prog w=.ok () (w.setPs p (qs++[q])):=by
 simp [Instr.mapUpdate,run_underlying u_ps,Go.MapKept.run_getObj_map h,Jfz,Jhs hq qs hx hn,Go.MapKept.run_setObj_map _ h,Result.andThen,World.setPs,JgB]
theorem Jc3 {w:World} {p:Nat} {o:Obj} (h:w.heap[p]? =some o) (qs:List Nat):(w.setPs p qs).heap[p]? =some (.map (psE 0 qs).toArray qs.length):=(Go.MapKept.heap_set h).1
theorem Tch.setPs (w:World) (p:Nat) (qs:List Nat):Tch (λk=>k=p) w (w.setPs p qs):=⟨rfl,rfl,rfl,by simp [World.setPs],λk _ hn=>by simp [World.setPs,Ne.symm hn]⟩
structure Jam (n:JL):Prop where
 a:n.1.size<=1000
 b:n.2.1.size<=1000
 c:n.2.2.1.1<18446744073709551616
 d:n.2.2.1.2<256
 e:0<=n.2.2.2.1/\n.2.2.2.1<1000000
 f:n.2.2.2.2.1.size<=1000
 g:n.2.2.2.2.2.size<=1000
theorem Jeu:Go.WideMaps.KeyLaw prog 281:=Go.deep_law (m:=6) (by decide) (by kernel_rfl) (by kernel_rfl) (by kernel_rfl)
theorem Jkd (n:JL) (h:Jam n):∃l,keyOf prog 281 (.agg (Xh n))=some l:=by
 obtain ⟨n1,n2,⟨n3,n4⟩,n5,n6,n7⟩:=n
 obtain ⟨ha,hb,hc,hd,he,hf,hg⟩:=h
 dsimp only at ha hb hc hd he hf hg
 have m:∀s:BA,s.size<=1000->s.size<=maxLen:=λs h=>by simp only [maxLen];omega
 have w3:(Lit.int .u64 (n3:Int)).wf=true:=by simp [Lit.wf,IntKind.min,IntKind.max,IntKind.signed,IntKind.bits];omega
 have w4:(Lit.int .u8 (n4:Int)).wf=true:=by simp [Lit.wf,IntKind.min,IntKind.max,IntKind.signed,IntKind.bits];omega
 have w5:(Lit.int .i64 n5).wf=true:=by simp [Lit.wf,IntKind.min,IntKind.max,IntKind.signed,IntKind.bits];omega
 have c1:prog.cellsOf 9=1:=by kernel_rfl
 have c2:prog.cellsOf 78=1:=by kernel_rfl
 have c3:prog.cellsOf 5=1:=by kernel_rfl
 have c4:prog.cellsOf 3=1:=by kernel_rfl
 have c5:prog.cellsOf 80=2:=by kernel_rfl
 have c6:prog.cellsOf 256=3:=by kernel_rfl
 have c7:prog.cellsOf 277=2:=by kernel_rfl
 have c8:prog.cellsOf 279=3:=by kernel_rfl
 have c9:prog.cellsOf 281=7:=by kernel_rfl
 have k9:∀d,prog.keyLits (d+4) 281 [.string n1,.string n2,.int .u64 (n3:Int),.int .u8 (n4:Int),.int .i64 n5,.string n6,.string n7]=some [.string n1.data.toList,.string n2.data.toList,.int .u64 (n3:Int),.int .u8 (n4:Int),.int .i64 n5,.string n6.data.toList,.string n7.data.toList]:=λd=>by
  simp [-Array.all_eq_true,Program.keyLits,underlying281,underlying256,underlying279,underlying80,underlying277,underlying9,underlying78,underlying5,underlying3,c1,c2,c3,c4,c5,c6,c7,c8,c9,m _ ha,m _ hb,m _ hf,m _ hg,w3,w4,w5,List.range_succ]
 unfold keyOf
 have hfo:(prog.keyType 281 && Value.formed prog 281 (.agg (Xh (n1,n2,(n3,n4),n5,n6,n7))))=true:=by kernel_rfl
 rw [underlying281]
 simp only
 rw [if_pos hfo]
 have hts:prog.types.size+1=(prog.types.size - 3)+4:=by kernel_rfl
 rw [hts]
 rw [show (Value.agg (Xh (n1,n2,(n3,n4),n5,n6,n7))).cells.toList=[.string n1,.string n2,.int .u64 (n3:Int),.int .u8 (n4:Int),.int .i64 n5,.string n6,.string n7] from rfl,k9]
 exact ⟨_,rfl⟩
theorem Jis {n n':JL} (h:Xh n=Xh n'):n=n':=by
 obtain ⟨n1,n2,⟨n3,n4⟩,n5,n6,n7⟩:=n
 obtain ⟨m1,m2,⟨m3,m4⟩,m5,m6,m7⟩:=n'
 simp only [Xh,Array.mk.injEq,QH,Value.string.injEq,Value.int.injEq,true_and,and_true] at h
 obtain ⟨rfl,rfl,h3,h4,rfl,rfl,rfl⟩:=h
 have:n3=m3:=by omega
 have:n4=m4:=by omega
 subst_vars
 rfl
def ndE:Nat->List JL->List MapEntry
 | _,[]=>[]
 | i,q :: r=>⟨.agg (Xh q),.agg #[],i⟩ :: ndE (i+1) r
theorem Jgu (qs:List JL):∀i,(ndE i qs).length=qs.length:=by
 induction qs with
 | nil=>intro i;rfl
 | cons b r ih=>intro i;simp [ndE,ih]
theorem Jgt (qs:List JL) (q:JL):∀i,ndE i (qs++[q])=ndE i qs++[⟨.agg (Xh q),.agg #[],i+qs.length⟩]:=by
 induction qs with
 | nil=>intro i;simp [ndE]
 | cons x r ih=>
  intro i
  rw [List.cons_append,ndE,ih (i+1),ndE,List.cons_append,Qp]
  have e:i+1+r.length=i+(r.length+1):=by omega
  rw [e]
theorem Jhq {qs:List JL}:∀{i:Nat} {e:MapEntry},e∈ndE i qs->∃q∈qs,e.key=.agg (Xh q)/\e.val=.agg #[]:=by
 induction qs with
 | nil=>intro i e h;simp [ndE] at h
 | cons x r ih=>
  intro i e h
  rw [ndE,List.mem_cons] at h
  rcases h with rfl | h
  ·exact ⟨x,List.mem_cons_self,rfl,rfl⟩
  ·obtain ⟨q,h1,h2⟩:=ih h
   exact ⟨q,List.mem_cons_of_mem _ h1,h2⟩
theorem JmI {qs:List JL} {q:JL} (h:q∈qs):∀i,∃e∈ndE i qs,e.key=.agg (Xh q):=by
 induction qs with
 | nil=>simp at h
 | cons x r ih=>
  intro i
  rw [List.mem_cons] at h
  rcases h with rfl | h
  ·exact ⟨_,List.mem_cons_self,rfl⟩
  ·obtain ⟨e,h1,h2⟩:=ih h (i+1)
   exact ⟨e,List.mem_cons_of_mem _ h1,h2⟩
open Classical in
noncomputable def insN (qs:List JL) (q:JL):List JL:=if q∈qs then qs else qs++[q]
def _root_.Go.World.setNd (w:World) (p:Nat) (qs:List JL):World:={ w with heap:=w.heap.setIfInBounds p (.map (ndE 0 qs).toArray qs.length) }
theorem u_nd:prog.underlying 284=some (.map 281 288):=underlying284
theorem JmJ {w:World} {p:Nat} {qs:List JL} (h:w.heap[p]? =some (.map (ndE 0 qs).toArray qs.length)) (q:JL) (hq:Jam q) (hx:∀x∈qs,Jam x):
  (Instr.mapUpdate 284 (.map (some p)) (.agg (Xh q)) (.agg #[])).run prog w=.ok () (w.setNd p (insN qs q)):=by
 obtain ⟨l,hl⟩:=Jkd q hq
 have hall:∀e∈ndE 0 qs,∃l,keyOf prog 281 e.key=some l:=λe he=>by
  obtain ⟨x,h1,h2,_⟩:=Jhq he
  rw [h2]
  exact Jkd x (hx x h1)
 unfold insN
 rcases Jeu.find w hl (ndE 0 qs) hall with ⟨h1,h2⟩ | ⟨j,e,h1,h2,h3⟩
 ·rw [if_neg (λhm=>by obtain ⟨e,k1,k2⟩:=JmI hm 0;exact h2 e k1 k2)]
  simp [Instr.mapUpdate,run_underlying u_nd,Go.MapKept.run_getObj_map h,Jeu.check w _ hl,h1,Go.MapKept.run_setObj_map _ h,Result.andThen,World.setNd,Jgt]
 ·obtain ⟨x,k1,k2,k3⟩:=Jhq (List.mem_of_getElem? h2)
  have hxq:x=q:=by rw [k2] at h3;exact Jis (by simpa using h3)
  subst hxq
  rw [if_pos k1]
  have hm:(ndE 0 qs).modify j (λe=>{ e with key:=.agg (Xh x),val:=.agg #[] })=ndE 0 qs:=by
   apply List.ext_getElem?
   intro i
   rw [List.getElem?_modify]
   by_cases hij:j=i
   ·subst hij
    rw [h2]
    obtain ⟨ek,ev,eb⟩:=e
    simp only at h3 k3
    rw [h3,k3]
    simp
   ·simp [hij]
  simp [Instr.mapUpdate,run_underlying u_nd,Go.MapKept.run_getObj_map h,Jeu.check w _ hl,h1,h2,h3,Jeu.stays w hl,Go.MapKept.run_setObj_map _ h,Result.andThen,World.setNd,hm]
theorem JgI {w:World} {p:Nat} {o:Obj} (h:w.heap[p]? =some o) (qs:List JL):(w.setNd p qs).heap[p]? =some (.map (ndE 0 qs).toArray qs.length):=(Go.MapKept.heap_set h).1
theorem Tch.setNd (w:World) (p:Nat) (qs:List JL):Tch (λk=>k=p) w (w.setNd p qs):=⟨rfl,rfl,rfl,by simp [World.setNd],λk _ hn=>by simp [World.setNd,Ne.symm hn]⟩
theorem JmD {w:World} {p:Nat} {qs:List JL} (h:w.heap[p]? =some (.map (ndE 0 qs).toArray qs.length)):(Builtin.len_ #[284] 3 #[.map (some p)]).run prog w=.ok (.int .i64 (qs.length:Int)) w:=by
 simp [Builtin.len_,Go.MapKept.run_getObj_map h,Jgu]
 rfl
set_option maxRecDepth 100000
set_option maxHeartbeats 1000000

attribute [local go_sem] Oper.semAt_some

def XD (d:List UInt8->BA):Tr->JL
 | .leaf k o=>(⟨#[76]⟩,⟨k.toArray⟩,o,0,⟨#[]⟩,⟨#[]⟩)
 | .br b l r=>(⟨#[78]⟩,⟨#[]⟩,(0,0),(b:Int),Tr.dig d l,Tr.dig d r)
def JY (d:List UInt8->BA):Tr->List JL
 | .leaf k o=>[XD d (.leaf k o)]
 | .br b l r=>XD d (.br b l r) :: (JY d l++JY d r)
inductive XO (d:List UInt8->BA) (F:Nat->Prop) (w:World):Nat->Tr->List Nat->Prop where
 | leaf (n:Nat) (k:Key) (o:Nat×Nat):F n->w.heap[n]? =some (.cells (YQ (Tr.dig d (.leaf k o)) k o) 243)->XO d F w n (.leaf k o) [n]
 | br (n b nl nr:Nat) (l r:Tr) (pl pr:List Nat):F n->w.heap[n]? =some (.cells (brC (Tr.dig d (.br b l r)) b nl nr) 243)->XO d F w nl l pl->XO d F w nr r pr->XO d F w n (.br b l r) (n :: (pl++pr))
theorem Jf.places {d:List UInt8->BA} {F:Nat->Prop} {w:World} {n:Nat} {t:Tr} (h:Jf d F w n t):∃ps,XO d F w n t ps:=by
 induction h with
 | leaf n k o hF hr=>exact ⟨_,.leaf n k o hF hr⟩
 | br n b nl nr l r hF hr _ _ ihl ihr=>
  obtain ⟨pl,hl⟩:=ihl
  obtain ⟨pr,hr'⟩:=ihr
  exact ⟨_,.br n b nl nr l r pl pr hF hr hl hr'⟩
theorem XO.tch {d:List UInt8->BA} {F:Nat->Prop} {w w':World} {n:Nat} {t:Tr} {ps:List Nat} {S:Nat->Prop} (h:XO d F w n t ps) (k:Tch S w w') (hs:∀j,S j->¬F j):XO d F w' n t ps:=by
 induction h with
 | leaf n key o hF hr=>exact .leaf n key o hF ((k.block n (Jb hr) (λe=>hs n e hF)).trans hr)
 | br n b nl nr l r pl pr hF hr _ _ ihl ihr=>exact .br n b nl nr l r pl pr hF ((k.block n (Jb hr) (λe=>hs n e hF)).trans hr) ihl ihr
theorem XO.row {d:List UInt8->BA} {F:Nat->Prop} {w:World} {n:Nat} {t:Tr} {ps:List Nat} (h:XO d F w n t ps):F n/\IsN w n/\w.cell? ⟨n,0,none⟩=some (.string (Tr.dig d t))/\n∈ps:=by
 cases h with
 | leaf n k o hF hr=>exact ⟨hF,⟨_,hr⟩,Ja hr,List.mem_cons_self⟩
 | br n b nl nr l r pl pr hF hr _ _=>exact ⟨hF,⟨_,hr⟩,Ja hr,List.mem_cons_self⟩
theorem XO.rows {d:List UInt8->BA} {F:Nat->Prop} {w:World} {n:Nat} {t:Tr} {ps:List Nat} (h:XO d F w n t ps):∀q∈ps,F q/\IsN w q:=by
 induction h with
 | leaf n k o hF hr=>intro q hq;rw [Qt.1 hq];exact ⟨hF,_,hr⟩
 | br n b nl nr l r pl pr hF hr _ _ ihl ihr=>
  intro q hq
  rw [List.mem_cons,QE] at hq
  rcases hq with rfl | hq | hq
  ·exact ⟨hF,_,hr⟩
  ·exact ihl q hq
  ·exact ihr q hq
def Ja7 (n₀ p:Nat) (W W':World):Prop:=∃S:Nat->Prop,Tch S W W'/\∀j,S j->n₀<=j/\j ≠ p
theorem Ja7.same {n₀ p:Nat} {W W':World} (h:Ja7 n₀ p W W') {o:Obj} (ho:W.heap[p]? =some o):W'.heap[p]? =some o:=by
 obtain ⟨S,h1,h2⟩:=h
 exact (h1.block p (Jb ho) (λe=>(h2 p e).2 rfl)).trans ho
theorem IsN.below {n₀:Nat} {W W':World} (h:Below n₀ W W') {q:Nat} (hq:q<n₀) (hn:IsN W q):IsN W' q:=by
 obtain ⟨c,hc⟩:=hn
 exact ⟨c,((Tch.of_below h).block q (Jb hc) (by omega)).trans hc⟩
theorem XG {n₀:Nat} {S:Nat->Prop} {W W':World} (k:Tch S W W') (hs:∀j,S j->n₀<=j) (hn:n₀<=W.heap.size):Below n₀ W W':=
 ⟨k.os,k.tape,k.output,k.size,λj hj=>k.block j (by omega) (λe=>by have:=hs j e;omega)⟩
theorem Ja7.below {n₀ p:Nat} {W W':World} (h:Ja7 n₀ p W W') (hn:n₀<=W.heap.size):Below n₀ W W':=by
 obtain ⟨S,h1,h2⟩:=h
 exact XG h1 (λj e=>(h2 j e).1) hn
theorem Jdv (d:List UInt8->BA) {n₀ p l m:Nat} (hp:n₀<=p) (J:List JL->World->Prop) (hJ:∀pre W W',J pre W->Tch (λk=>k=p) W W'->J pre W')
  (K:JL->Prop) (hY:∀pre x W,K x->J pre W->YieldAt Fence.wide m prog l #[.agg (Xh x)] W λe W'=>e=.returned (.bool true)/\J (pre++[x]) W'/\Ja7 n₀ p W W')
  (n:Nat) (k:Key) (o:Nat×Nat) (W:World) (hn:n<n₀) (hr:W.heap[n]? =some (.cells (YQ (Tr.dig d (.leaf k o)) k o) 243)) (qs:List Nat) (hm:W.heap[p]? =some (.map (psE 0 qs).toArray qs.length)) (hq:∀x∈qs,IsN W x/\x<n₀) (hnq:n ∉ qs) (pre:List JL) (h0:J pre W) (hK:K (XD d (.leaf k o))):
  Calls prog 322 #[.pointer (some ⟨n,0,none⟩),.map (some p),.func (.yield l) #[] #[]] W λe W'=>e=.returned (.bool true)/\J (pre++[XD d (.leaf k o)]) W'/\W'.heap[p]? =some (.map (psE 0 (qs++[n])).toArray (qs++[n]).length)/\Below n₀ W W':=by
 obtain ⟨W1,hW1⟩:∃W1,W1=W.alloc (.cells #[] 288):=⟨_,rfl⟩
 have t1:Tch NoB W W1:=by rw [hW1];exact Tch.alloc _ _ _
 have isn:∀x,IsN W x->IsN W1 x:=λx ⟨c,hc⟩=>⟨c,(t1.block x (Jb hc) (λe=>e)).trans hc⟩
 have hm1:=(t1.block p (Jb hm) (λe=>e)).trans hm
 have hlk:=Jht hm ⟨_,hr⟩ (λx hx=>(hq x hx).1) hnq
 have hpu:=Jhu hm1 (isn n ⟨_,hr⟩) (λx hx=>isn x (hq x hx).1) hnq
 obtain ⟨W2,hW2⟩:∃W2,W2=W1.setPs p (qs++[n]):=⟨_,rfl⟩
 have hm2:W2.heap[p]? =some (.map (psE 0 (qs++[n])).toArray (qs++[n]).length):=by rw [hW2];exact Jc3 hm1 _
 have t2:Tch (λk=>k=p) W W2:=by rw [hW2];exact (t1.mono noE).trans (Tch.setPs _ _ _) (λj hj=>.inl hj)
 rw [<-hW2] at hpu
 rw [hW1] at hpu
 have hr2:=(t2.block n (Jb hr) (λe=>by omega)).trans hr
 have HPL:Hid (Calls prog 353 #[.pointer (some ⟨n,0,none⟩)] W2 λe w'=>e=.returned (.agg (Xh (XD d (.leaf k o))))/\Tch NoB W2 w'):=JcS n _ k o W2 hr2
 have HIL:Hid (∀V,Below n₀ W2 V->Calls prog 224 #[.pointer (some ⟨n,0,none⟩)] V λe w'=>e=.returned (.bool true)/\w'=V):=λV hV=>Zr n _ k o V (((Tch.of_below hV).block n (Jb hr2) (by omega)).trans hr2)
 have HJ2:Hid (J pre W2):=hJ _ _ _ h0 t2
 have HSZ:Hid (n₀<=W.heap.size):=(by have:=(Jb hm);omega:n₀<=W.heap.size)
 have HT2:Hid _:=t2
 have HM2:Hid _:=hm2
 have HJ:Hid _:=hJ
 have HY:Hid _:=hY
 have HK:Hid _:=hK
 clear hK
 generalize XD d (.leaf k o)=x at *
 clear hW1 t1 isn hm1 hW2 hm2 t2 hr2 hr hq hnq hm h0 hJ hY hn
 refine (callsIn_wide (n:=m+1)).1 ?_
 refine callsIn_of_wp func322 rfl trivial ?_ rfl
 simp only [ntmps322,List.size_toArray,Qp,Qv,Nat.reduceAdd,Nat.reduceSub,Array.replicate_succ,Array.replicate_zero,List.push_toArray,List.append_toArray,List.nil_append,List.cons_append]
 gi_wp2
 refine ⟨trivial,(callsIn_wide.2 HPL.o).mono ?_⟩
 rintro _ W3 ⟨rfl,ht3⟩
 have HT3:Hid (Tch (λk=>k=p) W W3):=HT2.o.trans ht3 noE
 have HM3:Hid (W3.heap[p]? =_):=(ht3.block p (Jb HM2.o) (λe=>e)).trans HM2.o
 have hJ3:=HJ.o _ _ _ HJ2.o (ht3.mono noE)
 have HB3:Hid (Below n₀ W2 W3):=XG ht3 noE (by have:=(Jb HM2.o);omega)
 obtain ⟨fn,tmps,assign,body,hy,hR⟩:=HY.o _ x W3 HK.o hJ3
 clear ht3 hJ3 HJ2 HPL
 gi_wp2
 refine hR.mono ?_
 clear hR hy
 rintro _ W4 ⟨rfl,hJ4,hk4⟩
 have HB4:Hid (Below n₀ W2 W4):=HB3.o.trans (hk4.below (Qm HSZ.o HT3.o.size))
 have HM4:Hid (W4.heap[p]? =_):=hk4.same HM3.o
 have HJ4:Hid (J _ W4):=hJ4
 clear hk4 hJ4
 gi_upto_region 7 with fail
 refine wpIn_wide.2 ?_
 go_wp2_with fail
 refine (HIL.o W4 HB4.o).mono ?_
 rintro _ _ ⟨rfl,rfl⟩
 go_wp2
 gi_wp2
 go_ret
 exact ⟨rfl,HJ4.o,HM4.o,(XG HT2.o (λj hj=>by rw [hj];exact hp) HSZ.o).trans HB4.o⟩
theorem Jfq (d:List UInt8->BA) {n₀ p l m:Nat} (hp:n₀<=p) (J:List JL->World->Prop) (hJ:∀pre W W',J pre W->Tch (λk=>k=p) W W'->J pre W')
  (K:JL->Prop) (hY:∀pre x W,K x->J pre W->YieldAt Fence.wide m prog l #[.agg (Xh x)] W λe W'=>e=.returned (.bool true)/\J (pre++[x]) W'/\Ja7 n₀ p W W')
  (n b nl nr:Nat) (tl tr:Tr) (W:World) (hn:n<n₀) (hr:W.heap[n]? =some (.cells (brC (Tr.dig d (.br b tl tr)) b nl nr) 243)) (hnl:nl<n₀/\W.cell? ⟨nl,0,none⟩=some (.string (Tr.dig d tl))) (hnr:nr<n₀/\W.cell? ⟨nr,0,none⟩=some (.string (Tr.dig d tr))) (qs pl pr:List Nat) (hm:W.heap[p]? =some (.map (psE 0 qs).toArray qs.length)) (hq:∀x∈qs,IsN W x/\x<n₀) (hnq:n ∉ qs) (pre:List JL) (h0:J pre W) (hK:K (XD d (.br b tl tr)))
  (hL:∀V pre,Below n₀ W V->V.heap[p]? =some (.map (psE 0 (qs++[n])).toArray (qs++[n]).length)->J pre V->Calls prog 322 #[.pointer (some ⟨nl,0,none⟩),.map (some p),.func (.yield l) #[] #[]] V λe W'=>e=.returned (.bool true)/\J (pre++JY d tl) W'/\W'.heap[p]? =some (.map (psE 0 (qs++[n]++pl)).toArray (qs++[n]++pl).length)/\Below n₀ V W')
  (hR:∀V pre,Below n₀ W V->V.heap[p]? =some (.map (psE 0 (qs++[n]++pl)).toArray (qs++[n]++pl).length)->J pre V->Calls prog 322 #[.pointer (some ⟨nr,0,none⟩),.map (some p),.func (.yield l) #[] #[]] V λe W'=>e=.returned (.bool true)/\J (pre++JY d tr) W'/\W'.heap[p]? =some (.map (psE 0 (qs++[n]++pl++pr)).toArray (qs++[n]++pl++pr).length)/\Below n₀ V W'):
  Calls prog 322 #[.pointer (some ⟨n,0,none⟩),.map (some p),.func (.yield l) #[] #[]] W λe W'=>e=.returned (.bool true)/\J (pre++[XD d (.br b tl tr)]++JY d tl++JY d tr) W'/\W'.heap[p]? =some (.map (psE 0 (qs++[n]++pl++pr)).toArray (qs++[n]++pl++pr).length)/\Below n₀ W W':=by
 obtain ⟨W1,hW1⟩:∃W1,W1=W.alloc (.cells #[] 288):=⟨_,rfl⟩
 have t1:Tch NoB W W1:=by rw [hW1];exact Tch.alloc _ _ _
 have isn:∀x,IsN W x->IsN W1 x:=λx ⟨c,hc⟩=>⟨c,(t1.block x (Jb hc) (λe=>e)).trans hc⟩
 have hm1:=(t1.block p (Jb hm) (λe=>e)).trans hm
 have hlk:=Jht hm ⟨_,hr⟩ (λx hx=>(hq x hx).1) hnq
 have hpu:=Jhu hm1 (isn n ⟨_,hr⟩) (λx hx=>isn x (hq x hx).1) hnq
 obtain ⟨W2,hW2⟩:∃W2,W2=W1.setPs p (qs++[n]):=⟨_,rfl⟩
 have hm2:W2.heap[p]? =some (.map (psE 0 (qs++[n])).toArray (qs++[n]).length):=by rw [hW2];exact Jc3 hm1 _
 have t2:Tch (λk=>k=p) W W2:=by rw [hW2];exact (t1.mono noE).trans (Tch.setPs _ _ _) (λj hj=>.inl hj)
 rw [<-hW2] at hpu
 rw [hW1] at hpu
 have hr2:=(t2.block n (Jb hr) (λe=>by omega)).trans hr
 have HPL:Hid (Calls prog 353 #[.pointer (some ⟨n,0,none⟩)] W2 λe w'=>e=.returned (.agg (Xh (XD d (.br b tl tr))))/\Tch NoB W2 w'):=Jfw n _ b nl nr _ _ W2 hr2 ((t2.cell (p:=⟨nl,0,none⟩) (Qr _ _ hnl.2) (λe=>by simp only at e;omega)).trans hnl.2) ((t2.cell (p:=⟨nr,0,none⟩) (Qr _ _ hnr.2) (λe=>by simp only at e;omega)).trans hnr.2) (Qk (Qr _ _ hnl.2) t2.size) (Qk (Qr _ _ hnr.2) t2.size)
 have HRW:Hid (∀V,Below n₀ W V->V.heap[n]? =some (.cells (brC (Tr.dig d (.br b tl tr)) b nl nr) 243)):=λV hV=>((Tch.of_below hV).block n (Jb hr) (by omega)).trans hr
 have HIL:Hid (∀V,Below n₀ W V->Calls prog 224 #[.pointer (some ⟨n,0,none⟩)] V λe w'=>e=.returned (.bool false)/\w'=V):=λV hV=>Ym n _ b nl nr V (HRW.o V hV)
 have HL:Hid _:=hL
 have HR:Hid _:=hR
 have HJ2:Hid (J pre W2):=hJ _ _ _ h0 t2
 have HSZ:Hid (n₀<=W.heap.size):=(by have:=(Jb hm);omega:n₀<=W.heap.size)
 have HT2:Hid _:=t2
 have HM2:Hid _:=hm2
 have HJ:Hid _:=hJ
 have HY:Hid _:=hY
 have HK:Hid _:=hK
 clear hK
 generalize XD d (.br b tl tr)=x at *
 clear hW1 t1 isn hm1 hW2 hm2 t2 hr2 hr hq hnq hm h0 hJ hY hn hL hR hnl hnr
 refine (callsIn_wide (n:=m+1)).1 ?_
 refine callsIn_of_wp func322 rfl trivial ?_ rfl
 simp only [ntmps322,List.size_toArray,Qp,Qv,Nat.reduceAdd,Nat.reduceSub,Array.replicate_succ,Array.replicate_zero,List.push_toArray,List.append_toArray,List.nil_append,List.cons_append]
 gi_wp2
 refine ⟨trivial,(callsIn_wide.2 HPL.o).mono ?_⟩
 rintro _ W3 ⟨rfl,ht3⟩
 have HT3:Hid (Tch (λk=>k=p) W W3):=HT2.o.trans ht3 noE
 have HM3:Hid (W3.heap[p]? =_):=(ht3.block p (Jb HM2.o) (λe=>e)).trans HM2.o
 have hJ3:=HJ.o _ _ _ HJ2.o (ht3.mono noE)
 have HB3:Hid (Below n₀ W2 W3):=XG ht3 noE (by have:=(Jb HM2.o);omega)
 obtain ⟨fn,tmps,assign,body,hy,hR⟩:=HY.o _ x W3 HK.o hJ3
 clear ht3 hJ3 HJ2 HPL
 gi_wp2
 refine hR.mono ?_
 clear hR hy
 rintro _ W4 ⟨rfl,hJ4,hk4⟩
 have HB4:Hid (Below n₀ W2 W4):=HB3.o.trans (hk4.below (Qm HSZ.o HT3.o.size))
 have HM4:Hid (W4.heap[p]? =_):=hk4.same HM3.o
 have HJ4:Hid (J _ W4):=hJ4
 clear hk4 hJ4
 have HB5:Hid (Below n₀ W W4):=(XG HT2.o (λj hj=>by rw [hj];exact hp) HSZ.o).trans HB4.o
 have c5:W4.cell? ⟨n,5,none⟩=some (.pointer (some ⟨nl,0,none⟩)):=Ja (HRW.o W4 HB5.o)
 gi_upto_region 7 with fail
 refine wpIn_wide.2 ?_
 go_wp2_with fail
 refine (HIL.o W4 HB5.o).mono ?_
 rintro _ _ ⟨rfl,rfl⟩
 go_wp2_with fail
 refine (HL.o _ _ HB5.o HM4.o HJ4.o).mono ?_
 rintro _ W5 ⟨rfl,hJ5,hm5,hb5⟩
 have HB6:Hid (Below n₀ W W5):=HB5.o.trans hb5
 have c6:W5.cell? ⟨n,6,none⟩=some (.pointer (some ⟨nr,0,none⟩)):=Ja (HRW.o W5 HB6.o)
 have HJ5:Hid (J _ W5):=hJ5
 have HM5:Hid _:=hm5
 clear hJ5 hm5 hb5 c5
 go_wp2_with fail
 refine (HR.o _ _ HB6.o HM5.o HJ5.o).mono ?_
 rintro _ W6 ⟨rfl,hJ6,hm6,hb6⟩
 have HJ6:Hid (J _ W6):=hJ6
 have HM6:Hid _:=hm6
 have HB7:Hid (Below n₀ W W6):=HB6.o.trans hb6
 clear hJ6 hm6 hb6 c6
 go_wp2
 gi_wp2
 go_ret
 exact ⟨rfl,HJ6.o,HM6.o,HB7.o⟩

attribute [local go_sem] Oper.semAt_some

theorem XO.same {d:List UInt8->BA} {F:Nat->Prop} {w:World} {n:Nat} {t:Tr} {ps:List Nat} (h:XO d F w n t ps):∀{t':Tr} {ps':List Nat},XO d F w n t' ps'->t=t':=by
 induction h with
 | leaf n k o hF hr=>
  intro t' ps' h'
  cases h' with
  | leaf _ k' o' _ hr'=>
   rw [hr] at hr'
   obtain ⟨o1,o2⟩:=o
   obtain ⟨o1',o2'⟩:=o'
   simp only [YQ,Qh,Obj.cells.injEq,Array.mk.injEq,QH,Value.string.injEq,Value.int.injEq,ByteArray.mk.injEq,true_and,and_true] at hr'
   obtain ⟨_,hk,h1,h2⟩:=hr'
   have e1:k=k':=by simpa using hk
   have e2:o1=o1':=by omega
   have e3:o2=o2':=by omega
   rw [e1,e2,e3]
  | br _ b nl nr l r pl pr _ hr'=>rw [hr] at hr';simp [YQ,brC] at hr'
 | br n b nl nr l r pl pr hF hr _ _ ihl ihr=>
  intro t' ps' h'
  cases h' with
  | leaf _ k' o' _ hr'=>rw [hr] at hr';simp [YQ,brC] at hr'
  | br _ b' nl' nr' l' r' pl' pr' _ hr' hl' hr2'=>
   rw [hr] at hr'
   simp only [brC,Qh,Obj.cells.injEq,Array.mk.injEq,QH,Value.string.injEq,Value.int.injEq,Value.pointer.injEq,Addr.mk.injEq,true_and,and_true] at hr'
   obtain ⟨_,hb,rfl,rfl⟩:=hr'
   have e:b=b':=by omega
   rw [e,ihl hl',ihr hr2']
theorem XO.part {d:List UInt8->BA} {F:Nat->Prop} {w:World} {n:Nat} {t:Tr} {ps:List Nat} (h:XO d F w n t ps):∀q∈ps,∃s ps',XO d F w q s ps'/\(∀x∈s.coins,x∈t.coins)/\s.coins.length<=t.coins.length:=by
 induction h with
 | leaf n k o hF hr=>intro q hq;rw [Qt.1 hq];exact ⟨_,_,.leaf n k o hF hr,λ_ h=>h,Ql _⟩
 | br n b nl nr l r pl pr hF hr hl hr' ihl ihr=>
  intro q hq
  rw [List.mem_cons,QE] at hq
  rcases hq with rfl | hq | hq
  ·exact ⟨_,_,.br q b nl nr l r pl pr hF hr hl hr',λ_ h=>h,Ql _⟩
  ·obtain ⟨s,ps',h1,h2,h3⟩:=ihl q hq
   exact ⟨s,ps',h1,λx hx=>by simp only [Tr.coins,QE];exact .inl (h2 x hx),by simp only [Tr.coins,Qe];omega⟩
  ·obtain ⟨s,ps',h1,h2,h3⟩:=ihr q hq
   exact ⟨s,ps',h1,λx hx=>by simp only [Tr.coins,QE];exact .inr (h2 x hx),by simp only [Tr.coins,Qe];omega⟩
theorem XO.nodup {d:List UInt8->BA} {F:Nat->Prop} {w:World} {n:Nat} {t:Tr} {ps:List Nat} (h:XO d F w n t ps) (hw:t.Wf):ps.Nodup:=by
 induction h with
 | leaf n k o hF hr=>simp
 | br n b nl nr l r pl pr hF hr hl hr' ihl ihr=>
  obtain ⟨w1,w2,h0,h1,_⟩:=hw
  have nl0:=List.length_pos_iff.2 (Tr.coins_ne l)
  have nr0:=List.length_pos_iff.2 (Tr.coins_ne r)
  have me:=XO.br n b nl nr l r pl pr hF hr hl hr'
  rw [List.nodup_cons,List.nodup_append]
  refine ⟨λhm=>?_,ihl w1,ihr w2,λa ha c hc e=>?_⟩
  ·rw [QE] at hm
   rcases hm with hm | hm
   ·obtain ⟨s,ps',k1,_,k3⟩:=hl.part n hm
    rw [<-me.same k1] at k3
    simp only [Tr.coins,Qe] at k3
    omega
   ·obtain ⟨s,ps',k1,_,k3⟩:=hr'.part n hm
    rw [<-me.same k1] at k3
    simp only [Tr.coins,Qe] at k3
    omega
  ·subst e
   obtain ⟨s,ps1,k1,k2,_⟩:=hl.part a ha
   obtain ⟨s',ps2,m1,m2,_⟩:=hr'.part a hc
   have es:=k1.same m1
   subst es
   obtain ⟨x,hx⟩:=List.exists_mem_of_ne_nil _ (Tr.coins_ne s)
   have a0:=h0 x (k2 x hx)
   have a1:=h1 x (m2 x hx)
   omega
theorem Jke (d:List UInt8->BA) {n₀ p l m:Nat} (hp:n₀<=p) {F:Nat->Prop} (hF:∀j,F j->j<n₀) (J:List JL->World->Prop) (hJ:∀pre W W',J pre W->Tch (λk=>k=p) W W'->J pre W')
  (K:JL->Prop) (hY:∀pre x W,K x->J pre W->YieldAt Fence.wide m prog l #[.agg (Xh x)] W λe W'=>e=.returned (.bool true)/\J (pre++[x]) W'/\Ja7 n₀ p W W'):
  ∀(t:Tr) (n:Nat) (ps:List Nat) (W:World) (qs:List Nat) (pre:List JL),XO d F W n t ps->W.heap[p]? =some (.map (psE 0 qs).toArray qs.length)->(∀x∈qs,IsN W x/\x<n₀)->(qs++ps).Nodup->J pre W->(∀x∈JY d t,K x)->
  Calls prog 322 #[.pointer (some ⟨n,0,none⟩),.map (some p),.func (.yield l) #[] #[]] W λe W'=>e=.returned (.bool true)/\J (pre++JY d t) W'/\W'.heap[p]? =some (.map (psE 0 (qs++ps)).toArray (qs++ps).length)/\Below n₀ W W':=by
 intro t
 induction t with
 | leaf k o=>
  intro n ps W qs pre hN hm hq hnd h0 hK
  cases hN with
  | leaf _ _ _ hFn hr=>exact Jdv d hp J hJ K hY n k o W (hF n hFn) hr qs hm hq (λe=>(List.nodup_append.1 hnd).2.2 n e n (by simp) rfl) pre h0 (hK _ (by simp [JY]))
 | br b tl tr ihl ihr=>
  intro n ps W qs pre hN hm hq hnd h0 hK
  cases hN with
  | br _ _ nl nr _ _ pl pr hFn hr hl hr'=>
   have rl:=hl.row
   have rr:=hr'.row
   have hnq:n ∉ qs:=λe=>(List.nodup_append.1 hnd).2.2 n e n (by simp) rfl
   have hnd':(qs++[n]++pl++pr).Nodup:=by rw [show qs++[n]++pl++pr=qs++n :: (pl++pr) by simp];exact hnd
   have isb:∀V,Below n₀ W V->∀x,(IsN W x/\x<n₀)->IsN V x/\x<n₀:=λV hV x hx=>⟨hx.1.below hV hx.2,hx.2⟩
   have hn':IsN W n/\n<n₀:=⟨⟨_,hr⟩,hF n hFn⟩
   have kp:∀V,Below n₀ W V->∀{q s u},XO d F W q s u->XO d F V q s u:=λV hV q s u hh=>hh.tch (Tch.of_below hV) (λj hj e=>by have:=hF j e;omega)
   have H:=Jfq d hp J hJ K hY n b nl nr tl tr W (hF n hFn) hr ⟨hF _ rl.1,rl.2.2.1⟩ ⟨hF _ rr.1,rr.2.2.1⟩ qs pl pr hm hq hnq pre h0 (hK _ (by simp [JY]))
    (λV pre hV hmV hJV=>ihl nl pl V (qs++[n]) pre (kp V hV hl) hmV (λx hx=>isb V hV x (by rw [QE,Qt] at hx;rcases hx with hx | rfl;exact hq x hx;exact hn')) (List.nodup_append.1 hnd').1 hJV (λx hx=>hK x (by simp [JY,hx])))
    (λV pre hV hmV hJV=>ihr nr pr V (qs++[n]++pl) pre (kp V hV hr') hmV (λx hx=>isb V hV x (by rw [QE,QE,Qt] at hx;rcases hx with (hx | rfl) | hx;exact hq x hx;exact hn';exact ⟨(hl.rows x hx).2,hF x (hl.rows x hx).1⟩)) hnd' hJV (λx hx=>hK x (by simp [JY,hx])))
   refine H.mono λe W' k=>?_
   rw [show qs++n :: (pl++pr)=qs++[n]++pl++pr by simp,JY,show pre++XD d (.br b tl tr) :: (JY d tl++JY d tr)=pre++[XD d (.br b tl tr)]++JY d tl++JY d tr by simp]
   exact k
def JH (d:List UInt8->BA):Option Tr->List JL
 | none=>[(⟨#[69]⟩,⟨#[]⟩,(0,0),0,⟨#[]⟩,⟨#[]⟩)]
 | some t=>JY d t
theorem JkN (d:List UInt8->BA) {n₀ p l m:Nat} (hp:n₀<=p) {F:Nat->Prop} (hF:∀j,F j->j<n₀) (J:List JL->World->Prop) (hJ:∀pre W W',J pre W->Tch (λk=>k=p) W W'->J pre W')
  (K:JL->Prop) (hY:∀pre x W,K x->J pre W->YieldAt Fence.wide m prog l #[.agg (Xh x)] W λe W'=>e=.returned (.bool true)/\J (pre++[x]) W'/\Ja7 n₀ p W W')
  (wd:Nat) (q:Option Nat) (st:Option Tr) (W:World) (hs:StAt d F W q st) (hw:∀t,st=some t->t.Wf) (hm:W.heap[p]? =some (.map #[] 0)) (pre:List JL) (h0:J pre W) (hK:∀x∈JH d st,K x):
  Calls prog 247 #[Jw wd q,.map (some p),.func (.yield l) #[] #[]] W λe W'=>e=.returned (.bool true)/\J (pre++JH d st) W':=by
 obtain ⟨W1,hW1⟩:∃(W1:World),W1=W.alloc (.cells #[.int .i64 (wd:Int),Jh q] 146):=⟨_,rfl⟩
 have t1:Tch NoB W W1:=by rw [hW1];exact Tch.alloc _ _ _
 have hr1:W1.heap[W.heap.size]? =some (.cells #[.int .i64 (wd:Int),Jh q] 146):=by rw [hW1];exact Qf _ _
 have c1:W1.cell? ⟨W.heap.size,1,none⟩=some (Jh q):=Ja hr1
 have hJ1:=hJ _ _ _ h0 (t1.mono noE)
 have HW:Hid (W1=_):=hW1
 cases q with
 | none=>
  cases st with
  | some t=>exact absurd hs (by simp [StAt])
  | none=>
   obtain ⟨fn,tmps,assign,body,hy,hR⟩:=hY _ (⟨#[69]⟩,⟨#[]⟩,(0,0),0,⟨#[]⟩,⟨#[]⟩) W1 (hK _ (by simp [JH])) hJ1
   have hy:(Instr.yield l #[.agg #[.string ⟨#[69]⟩,.string ⟨#[]⟩,.int .u64 0,.int .u8 0,.int .i64 0,.string ⟨#[]⟩,.string ⟨#[]⟩]]).run prog W1=.ok (.round l fn tmps assign body) W1:=hy
   have HR:Hid (RoundIn _ _ _ _ _ _ _ _ _ _):=hR
   clear hR hW1 t1 hr1 hJ hY hs hw hm h0 hJ1
   simp only [Jh,Option.map_none] at c1 HW
   unfold Jw
   simp only [Jh,Option.map_none]
   refine (callsIn_wide (n:=m+1)).1 ?_
   refine callsIn_of_wp func247 rfl trivial ?_ rfl
   simp only [ntmps247,List.size_toArray,Qp,Qv,Nat.reduceAdd,Nat.reduceSub,Array.replicate_succ,Array.replicate_zero,List.push_toArray,List.append_toArray,List.nil_append,List.cons_append]
   gi_upto_region 1 with fail
   rw [<-HW.o]
   gi_wp2
   refine HR.o.mono ?_
   rintro _ W2 ⟨rfl,h2,_⟩
   gi_wp2
   go_ret
   exact ⟨rfl,h2⟩
 | some n=>
  cases st with
  | none=>exact absurd hs (by simp [StAt])
  | some t=>
   obtain ⟨ps,hN⟩:=Jf.places (show Jf d F W n t from hs)
   have hN1:=hN.tch t1 noE
   have hm1:=(t1.block p (Jb hm) (λe=>e)).trans hm
   have HP:Hid (Calls _ _ _ _ _):=Jke d hp hF J hJ K hY t n ps W1 [] pre hN1 hm1 (λx hx=>absurd hx QD) (by rw [List.nil_append];exact hN.nodup (hw t rfl)) hJ1 hK
   clear hW1 t1 hr1 hJ hY hs hw hm h0 hJ1 hN hN1 hm1
   simp only [Jh,Option.map_some] at c1 HW
   unfold Jw
   simp only [Jh,Option.map_some]
   go_enter func247,ntmps247
   go_upto_region 1 with fail
   rw [<-HW.o]
   go_wp2_with fail
   refine HP.o.mono ?_
   rintro _ W2 ⟨rfl,h2,_⟩
   have H2:Hid (J _ W2):=h2
   clear h2
   go_wp2
   go_ret
   exact ⟨rfl,H2.o⟩
open Go Go.RowKit

theorem Tch.putObj (S:Nat->Prop) (W:World) (l:Nat) (o:Obj) (hl:S l):Tch S W (W.putObj l o):=
 ⟨rfl,rfl,rfl,by simp [World.putObj],λk _ hn=>World.putObj_heap_other (λe=>hn (by rw [e];exact hl))⟩
theorem JiF {P:Program} {α:Type} {n:Nat} {g:Operand} {ps:Array Tmp} {assign body:Code} {Q:Exit->Act->World->Prop} {a:Act} {w:World} (h1:1<=n)
  {gf:Nat} {lb:Array Value} (hg:a.eval g=.func (.func gf) #[] lb) (eg:∀args w,(callFunc gf args).run P w=.ok (.enter gf args) w) {encs:α->Array Value} (hps:∀x,(encs x).size=ps.size)
  (r:Nat) (hr:r<w.heap.size) (I:List α->World->Prop) (hI:∀pre A B,I pre A->Tch (λk=>w.heap.size<=k) A B->I pre B) (h0:I [] w) (a₁:α->Nat->Act) (ob:α->Obj) (K:α->Prop) (xs:List α)
  (hseq:∀(l:Nat) (J:List α->World->Prop) (W:World),Tch NoB w W->w.heap.size<=l->l<W.heap.size->(∀pre A B,J pre A->Tch (λk=>k=W.heap.size) A B->J pre B)->
   (∀pre x V,K x->J pre V->YieldAt Fence.wide (n - 1 - 1) P l (encs x) V λe V'=>e=.returned (.bool true)/\J (pre++[x]) V'/\Tch (λk=>k=r\/k=l) V V')->J [] W->
   CallsIn Fence.wide (n - 1) P gf (#[.func (.yield l) #[] #[]]++lb) W λe W'=>(∃v,e=.returned v)/\J xs W')
  (hassign:∀(l:Nat) (x:α) (W:World) (K:Act->World->Prop),K (a₁ x W.heap.size) (W.alloc (ob x))->
   assign.wpIn (Fence.wide.inRound l) (n - 1 - 1) P (Exit.then K (λ_ _ _=>False)) { tmps:=(ps.zip (encs x)).foldl (λt (p,v)=>t.setIfInBounds p v) a.tmps,defers:=[] } W)
  (hbody:∀(l:Nat) (pre:List α) (x:α) (b:Nat) (W:World),K x->I pre W->W.heap[b]? =some (ob x)->body.wpIn (Fence.wide.inRound l) (n - 1 - 1) P (λe _ W'=>e=.normal/\Tch (λk=>k=r) W W'/\I (pre++[x]) W') (a₁ x b) W)
  (hdone:∀(D:Nat) (W:World),w.heap.size<=D->I xs W->W.heap[D]? =some (.deferred (some []))->Q .normal { a with defers:={ target:=.collected D,args:= #[] } :: a.defers } W):
  (Code.rangeFunc g ps assign body).wpIn Fence.wide n P Q a w:=by
 refine wpIn_rangeFunc ?_
 intro fn hfn
 rw [show Fence.wide.round=none from rfl]
 obtain ⟨rec,hrec⟩:∃rec:LoopState->Option Code->Loop,rec=λst pe=>{ state:=st,pending:=pe,fn,tmps:=a.tmps,params:=ps,assign,body,defers:=w.heap.size }:=⟨_,rfl⟩
 obtain ⟨W1,hW1⟩:∃W1,(w.alloc (.deferred (some []))).alloc (.loop (rec .ready none))=W1:=⟨_,rfl⟩
 have t1:Tch NoB w W1:=by rw [<-hW1];exact Tch.allocs _ _ _ _
 have hz1:W1.heap.size=w.heap.size+2:=by rw [<-hW1];simp
 have hL1:W1.heap[w.heap.size+1]? =some (.loop (rec .ready none)):=by rw [<-hW1];exact heap_alloc2_new _ _ _
 have hD1:W1.heap[w.heap.size]? =some (.deferred (some [])):=by rw [<-hW1];exact heap_alloc2_old _ _ _
 refine ⟨w.heap.size+1,[{ target:=.collected w.heap.size,args:= #[] }],W1,{ target:=.fn (.func gf) lb,args:= #[.func (.yield (w.heap.size+1)) #[] #[]] },W1,gf,#[.func (.yield (w.heap.size+1)) #[] #[]]++lb,W1,?_,?_,?_,?_,λ_=>h1,?_⟩
 ·rw [<-hW1,hrec];exact run_enterLoop_outer _ _ _ _ _
 ·simp only [resolve,hg]
  simp [go_sem]
 ·intro f' hf';trivial
 ·simp [invoke,go_sem,eg]
 ·refine (hseq (w.heap.size+1) (λpre W=>I pre W/\W.heap[w.heap.size+1]? =some (.loop (rec .ready none))/\W.heap[w.heap.size]? =some (.deferred (some []))) W1 t1 (by omega) (by omega)
   (λpre A B h k=>⟨hI _ _ _ h.1 (k.mono (λj hj=>.inl (by omega))),(k.block _ (Jb h.2.1) (by omega)).trans h.2.1,(k.block _ (Jb h.2.2) (by omega)).trans h.2.2⟩)
   ?_ ⟨hI _ _ _ h0 (t1.mono noE),hL1,hD1⟩).mono ?_
  ·rintro pre x V hKx ⟨hi,hl,hd⟩
   have hlt:=(Jb hl)
   have hy:=run_yield (P:=P) (args:=encs x) hl (by rw [hrec];exact hps x)
   rw [hrec] at hy
   have tA:=Tch.alloc NoB V (ob x)
   have hlA:=(tA.block _ hlt (λe=>e)).trans hl
   have hdA:=(tA.block _ (Jb hd) (λe=>e)).trans hd
   have hbA:=Qf V (ob x)
   refine ⟨fn,_,assign,body,hy,roundIn_of_wpIn hfn (hassign _ x V _ ⟨_,run_beginRound hlA (by rw [hrec]),?_⟩)⟩
   obtain ⟨VA,hVA⟩:∃VA,VA=V.alloc (ob x):=⟨_,rfl⟩
   obtain ⟨VB,hVB⟩:∃VB,VB=VA.putObj (w.heap.size+1) (.loop { rec .ready none with state:=.busy }):=⟨_,rfl⟩
   rw [<-hVA] at tA hlA hdA hbA ⊢
   rw [<-hVB]
   have tB:Tch (λk=>k=w.heap.size+1) VA VB:=by rw [hVB];exact Tch.putObj _ _ _ _ rfl
   have hlB:VB.heap[w.heap.size+1]? =some (.loop { rec .ready none with state:=.busy }):=by rw [hVB];exact World.putObj_heap_same (Jb hlA)
   have hdB:=(tB.block _ (Jb hdA) (by omega)).trans hdA
   have hbB:=(tB.block _ (Jb hbA) (by omega)).trans hbA
   have hiB:I pre VB:=hI _ _ _ (hI _ _ _ hi (tA.mono noE)) (tB.mono (λj hj=>.inl (by omega)))
   refine wpIn_mono (hbody _ pre x _ VB hKx hiB hbB) ?_
   rintro e a3 VC ⟨rfl,tC,hiC⟩
   have hlC:=(tC.block _ (Jb hlB) (by omega)).trans hlB
   have hdC:=(tC.block _ (Jb hdB) (by omega)).trans hdB
   have hE:=run_endRound (P:=P) none hlC
   rw [hrec] at hE
   refine ⟨_,_,hE,rfl,⟨?_,?_,?_⟩,?_⟩
   ·exact hI _ _ _ hiC (Tch.putObj _ _ _ _ (by omega))
   ·rw [hrec];exact World.putObj_heap_same (Jb hlC)
   ·exact (World.putObj_heap_other (by omega)).trans hdC
   ·refine (((tA.mono noE).trans tB (λj hj=>.inl (.inr hj))).trans tC (λj hj=>.inl (.inl hj))).trans (Tch.putObj (λk=>k=w.heap.size+1) _ _ _ rfl) (λj hj=>.inl (.inr hj))
  ·rintro e W2 ⟨⟨v,rfl⟩,hi,hl,hd⟩
   have hE:=run_endLoop (P:=P) hl (by rw [hrec];simp)
   rw [hrec] at hE
   exact ⟨none,_,hE,hdone _ _ (Ql _) (hI _ _ _ hi (Tch.putObj _ _ _ _ (by omega))) ((World.putObj_heap_other (by omega)).trans hd)⟩

attribute [local go_sem] Oper.semAt_some

theorem Jjr (d:List UInt8->BA) {n₀ l m:Nat} {F:Nat->Prop} (hF:∀j,F j->j<n₀) (W:World) (hn:n₀<=W.heap.size) (J:List JL->World->Prop) (hJ:∀pre A B,J pre A->Tch (λk=>k=W.heap.size) A B->J pre B)
  (K:JL->Prop) (hY:∀pre x V,K x->J pre V->YieldAt Fence.wide m prog l #[.agg (Xh x)] V λe V'=>e=.returned (.bool true)/\J (pre++[x]) V'/\Ja7 n₀ W.heap.size V V')
  (Bt g c wd:Nat) (q:Option Nat) (st:Option Tr) (hb:W.cell? ⟨Bt,0,none⟩=some (.slice (some ⟨g,0,none⟩) 1 c)) (hg0:W.cell? ⟨g,0,none⟩=some (.int .i64 (wd:Int))) (hg1:W.cell? ⟨g,1,none⟩=some (Jh q)) (hs:StAt d F W q st) (hw:∀t,st=some t->t.Wf) (h0:J [] W) (hK:∀x∈JH d st,K x):
  Calls prog 246 #[.func (.yield l) #[] #[],.pointer (some ⟨Bt,0,none⟩)] W λe W'=>(∃v,e=.returned v)/\J (JH d st) W':=by
 obtain ⟨W1,hW1⟩:∃(W1:World),W1=W.alloc (.map #[] 0):=⟨_,rfl⟩
 have t1:Tch NoB W W1:=by rw [hW1];exact Tch.alloc _ _ _
 have hm1:W1.heap[W.heap.size]? =some (.map #[] 0):=by rw [hW1];exact Qf _ _
 have lt0:=Qr _ _ hb
 have ltg:=Qr _ _ hg0
 have c0:=(t1.cell (p:=⟨Bt,0,none⟩) lt0 (λe=>e)).trans hb
 have c1:=(t1.cell (p:=⟨g,0,none⟩) ltg (λe=>e)).trans hg0
 have c2:=(t1.cell (p:=⟨g,1,none⟩) ltg (λe=>e)).trans hg1
 obtain ⟨rv,hrv⟩:∃rv,Jh q=.pointer rv:=⟨_,rfl⟩
 have HP:Hid (∀V,Tch NoB W1 V->Calls prog 247 #[.agg #[.int .i64 (wd:Int),.pointer rv],.map (some W.heap.size),.func (.yield l) #[] #[]] V λe W'=>e=.returned (.bool true)/\J (JH d st) W'):=λV hV=>by
  have:=JkN d hn hF J hJ K hY wd q st V ((hs.next t1).next hV) hw ((hV.block _ (Jb hm1) (λe=>e)).trans hm1) [] (hJ _ _ _ h0 ((t1.go hV).mono noE)) hK
  unfold Jw at this
  rw [hrv] at this
  exact this
 rw [hrv] at c2
 have HW:Hid _:=hW1
 have HZ:Hid (W.heap.size<W1.heap.size):=(Jb hm1)
 have hmk:(Instr.makeMap 405 none).run prog W=.ok (.map (some W.heap.size)) W1:=by
  rw [hW1]
  simp [Instr.makeMap,Result.andThen]
 clear hW1 t1 hm1 hb hg0 hg1 hs hw h0 hJ hY hF hn lt0 hrv
 go_enter func246,ntmps246
 go_upto_region 2 with fail
 go_loopw [9] (λi wr=>(i=.int .i64 0/\wr=W1)\/(i=.int .i64 1/\Hid (J (JH d st) wr))) (λi _=>1 - (intOf i).toNat)
 case atStart=>exact .inl ⟨rfl,rfl⟩
 case round=>
  rcases hrel with ⟨rfl,rfl⟩ | ⟨rfl,HJ1⟩
  ·go_wp2_with fail
   refine (HP.o _ (by first | exact Tch.alloc _ _ _ | exact Tch.refl _ _)).mono ?_
   rintro _ W2 ⟨rfl,hj2⟩
   have HJ2:Hid _:=hj2
   clear hj2
   go_wp2
   go_roundw
   case rel=>exact .inr ⟨rfl,HJ2⟩
   case measure=>simp [intOf]
  ·go_wp2
   refine bodyPost_end (v:=.tuple #[]) (results_none results246 _ _ _) rfl ?_
   exact ⟨⟨_,rfl⟩,HJ1.o⟩

attribute [local go_sem] Oper.semAt_some

theorem Jk0 (a:Option Addr) (n c:Nat) (w:World):Calls prog 158 #[.slice a n c] w λe w'=>e=.returned (.func (.func 246) #[] #[.pointer (some ⟨w.heap.size,0,none⟩)])/\w'=w.alloc (.cells #[.slice a n c] 189):=by
 have hmf:∀(fn:Fn) (first cap:Array Value) (w:World),(Instr.makeFunc fn first cap).run prog w=.ok (.func fn first cap) w:=λ_ _ _ _=>rfl
 go_enter func158,ntmps158
 go_wp2
 go_ret
 exact ⟨rfl,rfl⟩
structure CntI (w:World) (pre:List JL) (V:World):Prop where
 map:V.heap[w.heap.size]? =some (.map (ndE 0 (pre.foldl insN [])).toArray (pre.foldl insN []).length)
 box:V.heap[w.heap.size+1]? =some (.cells #[.map (some w.heap.size)] 284)
 below:Below w.heap.size w V
 ks:∀x∈pre.foldl insN [],Jam x
theorem JhO (d:List UInt8->BA) {F:Nat->Prop} (w:World) (hF:∀j,F j->j<w.heap.size) (g c wd:Nat) (q:Option Nat) (st:Option Tr) (hg0:w.cell? ⟨g,0,none⟩=some (.int .i64 (wd:Int))) (hg1:w.cell? ⟨g,1,none⟩=some (Jh q)) (hs:StAt d F w q st) (hw:∀t,st=some t->t.Wf) (hK:∀x∈JH d st,Jam x):
  Calls prog 98 #[.slice (some ⟨g,0,none⟩) 1 c] w λe w'=>e=.returned (.int .i64 (((JH d st).foldl insN []).length:Int))/\Tch NoB w w':=by
 have hmk:(Instr.makeMap 284 none).run prog w=.ok (.map (some w.heap.size)) (w.alloc (.map #[] 0)):=by simp [Instr.makeMap,Result.andThen]
 have HK:Hid _:=hK
 have HS:Hid (StAt d F w q st/\(∀t,st=some t->t.Wf)/\(∀j,F j->j<w.heap.size)):=⟨hs,hw,hF⟩
 have HG:Hid (w.cell? ⟨g,0,none⟩=some (.int .i64 (wd:Int))/\w.cell? ⟨g,1,none⟩=some (Jh q)):=⟨hg0,hg1⟩
 clear hK hs hw hF hg0 hg1
 refine (callsIn_wide (n:=5)).1 ?_
 refine callsIn_of_wp_marks func98 rfl trivial ?_ rfl
 simp only [ntmps98,List.size_toArray,Qp,Qv,Nat.reduceAdd,Nat.reduceSub,Array.replicate_succ,Array.replicate_zero,List.push_toArray,List.append_toArray,List.nil_append,List.cons_append]
 gi_wp2
 refine ⟨trivial,(callsIn_wide.2 (Jk0 _ _ _ _)).mono ?_⟩
 rintro _ _ ⟨rfl,rfl⟩
 gi_wp2
 obtain ⟨WD,hWD⟩:∃WD,WD=((w.alloc (.map #[] 0)).alloc (.cells #[.map (some w.heap.size)] 284)).alloc (.cells #[.slice (some ⟨g,0,none⟩) 1 c] 189):=⟨_,rfl⟩
 rw [<-hWD]
 have hB0:Below w.heap.size w WD:=by rw [hWD];exact (((Below.refl _ w).alloc (Ql _) _).alloc (by simp) _).alloc (by simp;omega) _
 have hz:WD.heap.size=w.heap.size+3:=by rw [hWD];simp
 have hal:∀(V:World) (o:Obj) (j:Nat) (x:Obj),V.heap[j]? =some x->(V.alloc o).heap[j]? =some x:=λV o j x h=>(Below.heap_alloc V o j (Jb h)).trans h
 have hnw:∀(V:World) (o:Obj) (j:Nat),V.heap.size=j->(V.alloc o).heap[j]? =some o:=λV o j h=>by subst h;exact Qf V o
 have r0:WD.heap[w.heap.size]? =some (.map #[] 0):=by rw [hWD];exact hal _ _ _ _ (hal _ _ _ _ (hnw _ _ _ rfl))
 have r1:WD.heap[w.heap.size+1]? =some (.cells #[.map (some w.heap.size)] 284):=by rw [hWD];exact hal _ _ _ _ (hnw _ _ _ (by simp))
 have r2:WD.heap[w.heap.size+2]? =some (.cells #[.slice (some ⟨g,0,none⟩) 1 c] 189):=by rw [hWD];exact hnw _ _ _ (by simp)
 have hT0:Tch NoB w WD:=(Tch.of_below hB0).mono (λ_ hj=>.inr hj)
 clear hal hnw hWD
 refine JiF (α:=JL) (by omega) (gf:=246) (lb:= #[.pointer (some ⟨w.heap.size+1+1,0,none⟩)]) rfl (enters_of func246 (by kernel_rfl) rfl) (encs:=λx=> #[.agg (Xh x)]) (λ_=>rfl)
  w.heap.size (by omega) (CntI w) ?hI ⟨r0,r1,hB0,by simp⟩
  (λx b=>{ tmps:= #[.slice (some ⟨g,0,none⟩) 1 c,undef,.int .i64 0,.pointer (some ⟨w.heap.size+1,0,none⟩),.pointer (some ⟨b,0,none⟩),.map (some w.heap.size),.slice (some ⟨g,0,none⟩) 1 c,.func (.func 246) #[] #[.pointer (some ⟨w.heap.size+1+1,0,none⟩)],.agg (Xh x),undef,undef,undef,undef,undef],defers:=[] })
  (λx=>.cells (Xh x) 281) Jam (JH d st) ?hseq ?hassign ?hbody ?hdone
 case hI=>
  intro pre A B h k
  refine ⟨(k.block _ (Jb h.map) (by omega)).trans h.map,(k.block _ (Jb h.box) (by omega)).trans h.box,h.below.trans (XG k (λj hj=>by omega) h.below.size),h.ks⟩
 case hseq=>
  intro l J W hT hl1 hl2 hJ hY hJ0
  have tW:=hT0.go hT
  refine callsIn_wide.2 (Jjr d (n₀:=w.heap.size) (m:=5 - 1 - 1) HS.o.2.2 W tW.size J hJ Jam ?_ (w.heap.size+1+1) g c wd q st ?_ ?_ ?_ (HS.o.1.next tW) HS.o.2.1 hJ0 HK.o)
  ·intro pre x V hx hJV
   refine (hY pre x V hx hJV).mono λe V' k=>⟨k.1,k.2.1,_,k.2.2,λj hj=>by omega⟩
  ·exact Ja ((hT.block _ (Jb r2) (λe=>e)).trans r2)
  ·exact (tW.cell (p:=⟨g,0,none⟩) (Qr _ _ HG.o.1) (λe=>e)).trans HG.o.1
  ·exact (tW.cell (p:=⟨g,1,none⟩) (Qr _ _ HG.o.2) (λe=>e)).trans HG.o.2
 case hassign=>
  intro l x W K hK
  obtain ⟨n1,n2,⟨n3,n4⟩,n5,n6,n7⟩:=x
  simp only [Xh] at hK ⊢
  gi_wp2
  exact hK
 case hbody=>
  intro l pre x b W hx hI hb
  have hpu:=JmJ hI.map x hx hI.ks
  have c0:W.cell? ⟨w.heap.size+1,0,none⟩=some (.map (some w.heap.size)):=Ja hI.box
  have HI:Hid _:=hI
  have HX:Hid (Jam x):=hx
  have HX2:Hid (CntI w (pre++[x]) (W.setNd w.heap.size (insN (pre.foldl insN []) x))):=by
   have tS:=Tch.setNd W w.heap.size (insN (pre.foldl insN []) x)
   have e:(pre++[x]).foldl insN []=insN (pre.foldl insN []) x:=by simp
   refine ⟨by rw [e];exact JgI hI.map _,(tS.block _ (Jb hI.box) (by omega)).trans hI.box,hI.below.trans (XG tS (λj hj=>by omega) hI.below.size),?_⟩
   rw [e]
   intro y hy
   unfold insN at hy
   split at hy
   ·exact hI.ks y hy
   ·rw [QE,Qt] at hy
    rcases hy with hy | rfl
    ·exact hI.ks y hy
    ·exact hx
  generalize hns:pre.foldl insN []=ns at *
  clear hns hI hx
  obtain ⟨n1,n2,⟨n3,n4⟩,n5,n6,n7⟩:=x
  have q0:W.cell? ⟨b,0,none⟩=some (.string n1):=Ja hb
  have q1:W.cell? ⟨b,1,none⟩=some (.string n2):=Ja hb
  have q2:W.cell? ⟨b,2,none⟩=some (.int .u64 (n3:Int)):=Ja hb
  have q3:W.cell? ⟨b,3,none⟩=some (.int .u8 (n4:Int)):=Ja hb
  have q4:W.cell? ⟨b,4,none⟩=some (.int .i64 n5):=Ja hb
  have q5:W.cell? ⟨b,5,none⟩=some (.string n6):=Ja hb
  have q6:W.cell? ⟨b,6,none⟩=some (.string n7):=Ja hb
  have hpu:(Instr.mapUpdate 284 (.map (some w.heap.size)) (.agg #[.string n1,.string n2,.int .u64 (n3:Int),.int .u8 (n4:Int),.int .i64 n5,.string n6,.string n7]) (.agg #[])).run prog W=.ok () (W.setNd w.heap.size (insN ns (n1,n2,(n3,n4),n5,n6,n7))):=hpu
  simp only [Xh]
  gi_wp2
  exact ⟨Tch.setNd _ _ _,HX2.o⟩
 case hdone=>
  intro D W hD hI hd
  have c0:W.cell? ⟨w.heap.size+1,0,none⟩=some (.map (some w.heap.size)):=Ja hI.box
  have hln:=JmD hI.map
  have HI:Hid _:=hI
  have HD:Hid (W.heap[D]? =some (.deferred (some []))/\WD.heap.size<=D):=⟨hd,hD⟩
  obtain ⟨ns,hns⟩:∃ns,ns=(JH d st).foldl insN []:=⟨_,rfl⟩
  rw [<-hns] at hln
  have HNS:Hid _:=hns
  clear hI hd hD hns
  gi_wp2
  refine ⟨by simp,.inl ⟨_,_,rfl,run_takeDeferred HD.o.1,?_⟩⟩
  refine ⟨_,results_tmp results98 _ _ _,?_,?_⟩
  ·rw [<-HNS.o];rfl
  ·exact ((Tch.of_below HI.o.below).mono (λ_ hj=>.inr hj)).trans (Tch.putObj (λk=>k=D) W D (.deferred none) rfl) (λj hj=>.inr (by have:=HD.o.2;omega))

theorem Jih:(prog.info? 146).map (λi=>(i.zero,i.size,i.bytes))=some (some (.agg #[.int .i64 0,.pointer none]),2,16):=by kernel_rfl
theorem Jcm {base:Nat} {w:World} (k:Nat) (x:Int) (rv:Option Addr) (h0:w.cell? ⟨k,0,none⟩=some (.int .i64 x)) (h1:w.cell? ⟨k,1,none⟩=some (.pointer rv)) (ty:TypeId) (hbase:base<=w.heap.size):
  ∃g c w',(Builtin.append_ #[189,189] ty #[.slice none 0 0,.slice (some ⟨k,0,none⟩) 1 1]).run prog w=.ok (.slice (some ⟨g,0,none⟩) 1 c) w'/\w'.cell? ⟨g,0,none⟩=some (.int .i64 x)/\w'.cell? ⟨g,1,none⟩=some (.pointer rv)/\Tch NoB w w':=by
 obtain ⟨i,hi,hp⟩:=Option.map_eq_some_iff.1 Jih
 simp only [Qw] at hp
 obtain ⟨hz,hsz,hby⟩:=hp
 obtain ⟨v',w',hr,h2,h3,h4⟩:=run_append_own (P:=prog) w base 189 ty 146 i _ 2 16 underlying189 hi hz hsz hby rfl (by omega) (.slice none 0 0) 0 [] ⟨rfl,.inl ⟨rfl,rfl⟩⟩ ⟨k,0,none⟩ 1 1 [.int .i64 x,.pointer rv] rfl (λj u hu=>by
  match j with
  | 0=>simp only [List.getElem?_cons_zero,Qh] at hu;rw [<-hu,Addr.add_lit];exact h0
  | 1=>simp only [List.getElem?_cons_succ,List.getElem?_cons_zero,Qh] at hu;rw [<-hu,Addr.add_lit];exact h1
  | j+2=>simp at hu) (λu hu=>by simp only [List.mem_cons,QD,or_false] at hu;rcases hu with rfl | rfl <;> rfl) (by simp only [maxLen];omega) (by omega) hbase
 obtain ⟨_,⟨rfl,h0'⟩ | ⟨g,cap,cur,rfl,hb,hrow,_,_,hsz',htake⟩⟩:=h2
 ·omega
 ·refine ⟨g,cap,w',hr,?_,?_,Tch.grown h3 |>.mono (λj hj=>by cases hj)⟩
  ·rw [Ja hrow,<-Array.getElem?_toList]
   have e:([.int .i64 x,.pointer rv]:List Value)[0]? =some (.int .i64 x):=rfl
   rw [<-List.nil_append [Value.int .i64 x,.pointer rv],<-htake,List.getElem?_take_of_lt (by omega)] at e
   exact e
  ·rw [Ja hrow,<-Array.getElem?_toList]
   have e:([.int .i64 x,.pointer rv]:List Value)[1]? =some (.pointer rv):=rfl
   rw [<-List.nil_append [Value.int .i64 x,.pointer rv],<-htake,List.getElem?_take_of_lt (by omega)] at e
   exact e
theorem XQ {w w':World} {ops:Array Oper} {rest:List Oper} {o:Oper} {a:Act} {Q:Exit->Act->World->Prop} (hgd:o.guard=none) (s x:Operand) (T:TypeId)
  (ho:o.op=.call { callee:=.builtin .append,args:= #[s,x],argTypes:= #[T,T] }) {v xv v':Value} (hv:a.eval s=v) (hx:a.eval x=xv) (hrun:(Builtin.append_ #[T,T] o.type #[v,xv]).run prog w=.ok v' w')
  (hK:wpList prog ops Q rest (a.put o.dst v') w'):wpList prog ops Q (o :: rest) a w:=by
 refine wpList_plain hgd λK hK'=>?_
 unfold Oper.wp
 simp [execOp,ho,resolve,invoke,builtin,hv,hx,hrun,Result.andThen]
 exact hK' _ _ hK
theorem JgT (d:List UInt8->BA) {w:World} {cb wd fl r:Nat} {bs:List BV} {lv:Value} (h:Jz w cb wd fl r bs lv) (hl:bs.length=fl+1) (hfl:fl<134217728) (b:BV) (hb:bs[fl]? =some b) {F:Nat->Prop} (hF:∀j,F j->j<w.heap.size) (st:Option Tr) (hs:StAt d F w b.2.2 st) (hw:∀t,st=some t->t.Wf) (hK:∀x∈JH d st,Jam x):
  Calls prog 57 #[.pointer (some ⟨cb,0,none⟩)] w λe w'=>e=.returned (.int .i64 (((JH d st).foldl insN []).length:Int))/\Tch NoB w w':=by
 obtain ⟨bh,bu,bq⟩:=b
 obtain ⟨rv,hrv⟩:∃rv,Jh bq=.pointer rv:=⟨_,rfl⟩
 have c1:w.cell? ⟨cb,1,none⟩=some (.int .i64 (fl:Int)):=Ja h.row
 have HC:Hid (∀V,Tch NoB w V->V.cell? ⟨cb,2,none⟩=some (.map (some r))/\(Instr.lookup 141 (.map (some r)) (.int .i64 (fl:Int)) false).run prog V=.ok (.agg #[.string bh,.int .i64 (bu:Int),.pointer rv]) V):=λV hV=>by
  have h1:=h.next hV
  have h2:=Jcu h1.map fl _ hb false
  simp only [bV,hrv] at h2
  exact ⟨Ja h1.row,h2⟩
 have HT:Hid (∀V,Tch NoB w V->Calls prog 40 #[.pointer (some ⟨cb,0,none⟩)] V λe w'=>e=.returned (.int .i64 (fl:Int))/\V=w'):=λV hV=>(JaO (h.next hV) (by omega)).mono λe w' k=>⟨by rw [k.1,hl];congr 2;omega,k.2⟩
 have HCN:Hid (∀V g c,Tch NoB w V->V.cell? ⟨g,0,none⟩=some (.int .i64 (bu:Int))->V.cell? ⟨g,1,none⟩=some (.pointer rv)->Calls prog 98 #[.slice (some ⟨g,0,none⟩) 1 c] V λe w'=>e=.returned (.int .i64 (((JH d st).foldl insN []).length:Int))/\Tch NoB V w'):=λV g c hV e0 e1=>
  JhO d V (λj hj=>Qk (hF j hj) hV.size) g c bu bq st e0 (by rw [hrv];exact e1) (hs.next hV) hw hK
 have hfd:∀W,(Instr.field 148 (.agg #[.string bh,.int .i64 (bu:Int),.pointer rv]) 1).run prog W=.ok (.agg #[.int .i64 (bu:Int),.pointer rv]) W:=λW=>by kernel_rfl
 have HB:Hid _:=hfl
 generalize (JH d st).foldl insN []=ns at *
 clear h hl hb hF hs hw hK hrv
 go_enter func57,ntmps57
 go_upto_region 3 with fail
 go_loopw [3,4] (λv i wr=>(i=.int .i64 (fl:Int)/\v=.slice none 0 0/\wr=w)\/(i=.int .i64 ((fl:Int)+1)/\∃g c,v=.slice (some ⟨g,0,none⟩) 1 c/\Hid (wr.cell? ⟨g,0,none⟩=some (.int .i64 (bu:Int))/\wr.cell? ⟨g,1,none⟩=some (.pointer rv))/\Hid (Tch NoB w wr))) (λ_ i _=>fl+1 - (intOf i).toNat)
 case atStart=>exact .inl ⟨rfl,rfl,rfl⟩
 case round=>
  rcases hrel with ⟨rfl,rfl,rfl⟩ | ⟨rfl,g,c,rfl,HV,HTr⟩
  ·obtain ⟨c2,hlk⟩:=HC.o wr (Tch.refl _ _)
   have tA:=Tch.alloc NoB wr (.cells #[.int .i64 (bu:Int),.pointer rv] 146)
   have hrA:=Qf wr (.cells #[.int .i64 (bu:Int),.pointer rv] 146)
   obtain ⟨g,c,w3,hrun,e0,e1,ht3⟩:=Jcm (base:=0) wr.heap.size (bu:Int) rv (Ja hrA) (Ja hrA) 189 (Nat.zero_le _)
   have HT3:Hid (Tch NoB wr w3):=tA.go ht3
   have HV3:Hid (w3.cell? ⟨g,0,none⟩=some (.int .i64 (bu:Int))/\w3.cell? ⟨g,1,none⟩=some (.pointer rv)):=⟨e0,e1⟩
   clear tA hrA ht3 e0 e1
   go_wp2_with fail
   refine (HT.o _ (Tch.refl _ _)).mono ?_
   rintro _ _ ⟨rfl,rfl⟩
   go_wp2_with (at_builtin;refine XQ rfl _ _ 189 rfl rfl rfl hrun ?_)
   go_roundw
   case rel=>exact .inr ⟨by have:=HB.o;congr 1,g,c,rfl,HV3,HT3⟩
   case measure=>simp [intOf]
  ·have hlt:¬(fl:Int)+1<=(fl:Int):=by omega
   go_wp2_with fail
   refine (HT.o _ HTr.o).mono ?_
   rintro _ _ ⟨rfl,rfl⟩
   go_wp2_with fail
   refine (HCN.o _ g c HTr.o HV.o.1 HV.o.2).mono ?_
   rintro _ w4 ⟨rfl,ht4⟩
   have HT4:Hid (Tch NoB w w4):=HTr.o.go ht4
   clear ht4
   go_wp2
   go_ret
   exact ⟨rfl,HT4.o⟩

theorem JcQ {wd:Nat} (hw:wd<=32):∀(t:Tr),TrOk wd t->∀x∈JY (dgW wd) t,Jam x
 | .leaf k o,h,x,hx=>by
  rw [JY,Qt] at hx
  subst hx
  obtain ⟨h1,_,h2,h3⟩:=h
  have hk:(⟨k.toArray⟩:BA).size<=1000:=by rw [JC];omega
  exact ⟨by show ByteArray.size ⟨#[76]⟩<=1000;decide,hk,h2,h3,⟨Int.le_refl _,by show (0:Int)<1000000;decide⟩,by show ByteArray.size ⟨#[]⟩<=1000;decide,by show ByteArray.size ⟨#[]⟩<=1000;decide⟩
 | .br b l r,h,x,hx=>by
  rw [JY,List.mem_cons,QE] at hx
  obtain ⟨h1,h2,h3⟩:=h
  have hd:∀t:Tr,(Tr.dig (dgW wd) t).size<=1000:=λt=>by
   have:(Tr.dig (dgW wd) t).size=wd:=by cases t <;> exact Js wd hw _
   omega
  rcases hx with rfl | hx | hx
  ·exact ⟨by show ByteArray.size ⟨#[78]⟩<=1000;decide,by show ByteArray.size ⟨#[]⟩<=1000;decide,by show (0:Nat)<18446744073709551616;decide,by show (0:Nat)<256;decide,⟨by show (0:Int)<=(b:Int);omega,by show (b:Int)<_;omega⟩,hd l,hd r⟩
  ·exact JcQ hw l h2 x hx
  ·exact JcQ hw r h3 x hx
theorem JiW {wd:Nat} (hw:wd<=32) (st:Option Tr) (h:StOk wd st):∀x∈JH (dgW wd) st,Jam x:=by
 cases st with
 | none=>intro x hx;rw [JH,Qt] at hx;subst hx;exact ⟨by decide,by decide,by decide,by decide,⟨Int.le_refl _,by decide⟩,by decide,by decide⟩
 | some t=>exact JcQ hw t h
theorem Jk7 {w:World} {lb cb:Nat} (hl:w.cell? ⟨lb,0,none⟩=some (.pointer (some ⟨cb,0,none⟩))) (n:Int) (h:Calls prog 57 #[.pointer (some ⟨cb,0,none⟩)] w λe w'=>e=.returned (.int .i64 n)/\Tch NoB w w'):
  Calls prog 29 #[.pointer (some ⟨lb,0,none⟩)] w λe w'=>e=.returned (.int .i64 n)/\Tch NoB w w':=by
 have H:Hid (Calls _ _ _ _ _):=h
 clear h
 go_enter func29,ntmps29
 go_wp2_with fail
 refine H.out.mono ?_
 rintro _ w1 ⟨rfl,ht⟩
 have HT:Hid _:=ht
 clear ht H
 go_wp2
 go_ret
 exact ⟨rfl,HT.o⟩
theorem JhT (E:Nat->Addr) {w:World} (hE:Env E w) {cb wd fl r:Nat} {bs:List BV} {v:Value} (h:Jz w cb wd fl r bs v) (k m:Int) (hk:¬((fl:Int)<=k/\k<bs.length)):
  Calls prog 55 #[.pointer (some ⟨cb,0,none⟩),.int .i64 k,.int .i64 m] w λe w'=>Tch NoB w w'/\∃t u,e=.returned (.tuple #[.string ⟨#[]⟩,.iface t u])/\Jp E 5 w' (.iface t u):=by
 have HS:Hid (Calls prog 92 #[.pointer (some ⟨cb,0,none⟩),.int .i64 k] w λe w'=>∃t u,e=.returned (.tuple #[.agg #[.int .i64 0,.pointer none],.iface t u])/\Jp E 5 w' (.iface t u)/\Tch NoB w w'):=Jaz E hE h k hk
 clear hE h hk
 go_enter func55,ntmps55
 go_wp2_with fail
 refine HS.o.mono ?_
 rintro _ w1 ⟨t,u,rfl,he,ht⟩
 have HT:Hid _:=ht
 have HE:Hid _:=he
 clear he ht HS
 go_wp2
 go_ret2
 exact ⟨HT.o.go (Tch.alloc _ _ _),_,_,rfl,HE.o.tch (Tch.alloc NoB w1 _) (λ_ _ _ _ h=>h)⟩
theorem Jgb {E:Nat->Addr} {w:World} {lb cb:Nat} (hS:∀w',Tch NoB w w'->Env E w'/\Sent E w') (er:Er) (hl:w.cell? ⟨lb,0,none⟩=some (.pointer (some ⟨cb,0,none⟩))) (k m:Int) (h:Calls prog 55 #[.pointer (some ⟨cb,0,none⟩),.int .i64 k,.int .i64 m] w λe w'=>Tch NoB w w'/\∃t u,e=.returned (.tuple #[.string ⟨#[]⟩,.iface t u])/\Jp E (erG er) w' (.iface t u)):
  Calls prog 27 #[.pointer (some ⟨lb,0,none⟩),.int .i64 k,.int .i64 m] w λe w'=>e=.returned (.tuple #[.string ⟨#[]⟩,.int .i64 (Xv er)])/\Tch NoB w w':=by
 have H:Hid (Calls _ _ _ _ _):=h
 have HS:Hid _:=hS
 clear h hS
 go_enter func27,ntmps27
 go_wp2_with fail
 refine H.out.mono ?_
 rintro _ w1 ⟨ht,t,u,rfl,he⟩
 have HT:Hid _:=ht
 have HR:Hid (Calls _ _ _ _ _):=ZC er (HS.o w1 ht).1 (HS.o w1 ht).2 t u he
 clear ht H he
 go_wp2_with fail
 refine HR.o.mono ?_
 rintro _ w2 ⟨rfl,ht2⟩
 have HT2:Hid _:=ht2
 clear ht2 HR
 go_wp2
 go_ret2
 exact ⟨rfl,HT.o.go HT2.o⟩
structure JeR {E:Nat->Addr} {wd base:Nat} (L:Led E wd base):Prop where
 stored:∀{w:World} {lb:Nat} {F:Nat->Prop} {fl:Nat} {ch:Ch} (c':BA×Option Tr),L.At w lb F fl ch->JV E base w->ch.length=fl+1->ch[fl]? =some c'->(∀t,c'.2=some t->t.Wf)->
  Calls prog 29 #[.pointer (some ⟨lb,0,none⟩)] w λe w'=>e=.returned (.int .i64 (((JH (dgW wd) c'.2).foldl insN []).length:Int))/\Tch NoB w w'
 dout:∀{w:World} {lb:Nat} {F:Nat->Prop} {fl:Nat} {ch:Ch} (h k:Int),L.At w lb F fl ch->JV E base w->¬((fl:Int)<=h/\h<(ch.length:Int))->
  Calls prog 27 #[.pointer (some ⟨lb,0,none⟩),.int .i64 h,.int .i64 k] w λe w'=>e=.returned (.tuple #[.string ⟨#[]⟩,.int .i64 7])/\Tch NoB w w'
theorem Jg2 (E:Nat->Addr) (base pn wd:Nat):JeR (JaN E base pn wd) where
 stored:=λ{w lb F fl ch} c' hA hF hlen hc hwf=>by
  obtain ⟨⟨hw,lg,cb,r,bs,lv,C⟩,hH⟩:=hA
  have hl:w.cell? ⟨lb,0,none⟩=some (.pointer (some ⟨cb,0,none⟩)):=Ja C.led
  have hb:bs[fl]? =some (bs[fl]'(by rw [C.len];omega)):=Qd _
  obtain ⟨h1,h2,h3⟩:=C.st fl _ c' hb hc (Ql _)
  have hm:=C.most
  exact Jk7 hl _ (JgT (dgW wd) C.row (by rw [C.len];exact hlen) (by omega) _ hb (λj hj=>(C.low j hj).2) c'.2 h2 hwf (JiW hw.2 _ h3))
 dout:=λ{w lb F fl ch} h k hA hF hh=>by
  obtain ⟨⟨_,lg,cb,r,bs,lv,C⟩,_⟩:=hA
  have hl:w.cell? ⟨lb,0,none⟩=some (.pointer (some ⟨cb,0,none⟩)):=Ja C.led
  exact Jgb (λw' k=>hF.next k) .range hl h k (JhT E hF.env C.row h k (by rw [C.len];exact hh))
