import Derived.Stop.Asserts
import Derived.Test.YtighkdnooglfjaaGreatDoorRows
import Derived.ProofKit
import Derived.LaidMore
import Derived.Stop.LaidErr
import Derived.Test.YtighkdnooglfjaaGreatDoorOcPBook
import Derived.Shelf.SlicesE.Reverse
namespace Go.Proofs.YtighkdnooglfjaaGreatDoor
open Go.Proofs.Tryz
set_option maxRecDepth 100000
open Go.RowKit Go.Extern.Stop Go.Stop Go.Extern

def Jl6:Array Value->Sem Value:=Extern.ReflectliteType.method λt=>do Extern.Rtype.noPackHeld "Comparable" t;pure (.bool (<-typeInfo t).comparable)
theorem JjT (v:Value) (w:World):(Extern.ReflectliteType.typeOf #[.iface 509 v]).run prog w=.ok (.iface 338 (.agg #[.pointer (some ⟨18,509,none⟩)])) w:=by kernel_rfl
theorem Jen (w:World):(Jl6 #[.agg #[.pointer (some ⟨18,509,none⟩)]]).run prog w=.ok (.bool true) w:=by kernel_rfl
theorem JaK (v:Value) (w:World):(Go.method 641 338 v "Comparable").run prog w=.ok (392,v) w:=by kernel_rfl
theorem Jmt:(prog.info? 509).map (·.comparable)=some true:=by kernel_rfl
theorem Jmu:(prog.info? 531).map (·.size)=some 1:=by kernel_rfl
theorem Jnd (v:Value) (xT:TypeId) (w:World):(Instr.typeAssert (.iface 509 v) xT 340 true).run prog w=.ok (.tuple #[.nilIface,.bool false]) w:=run_typeAssert_lacksB underlying340 (by kernel_rfl) (by kernel_rfl) v xT w
theorem Jif (v:Value) (xT:TypeId) (w:World):(Instr.typeAssert (.iface 509 v) xT 343 true).run prog w=.ok (.tuple #[.nilIface,.bool false]) w:=run_typeAssert_lacksB underlying343 (by kernel_rfl) (by kernel_rfl) v xT w
theorem Jgu (v:Value) (xT:TypeId) (w:World):(Instr.typeAssert (.iface 509 v) xT 344 true).run prog w=.ok (.tuple #[.nilIface,.bool false]) w:=run_typeAssert_lacksB underlying344 (by kernel_rfl) (by kernel_rfl) v xT w
theorem Jne (v:Value) (xT:TypeId) (w:World):(Instr.typeAssert (.iface 235 v) xT 340 true).run prog w=.ok (.tuple #[.nilIface,.bool false]) w:=run_typeAssert_lacksB underlying340 (by kernel_rfl) (by kernel_rfl) v xT w
theorem Jgm (v:Value) (xT:TypeId) (w:World):(Instr.typeAssert (.iface 235 v) xT 343 true).run prog w=.ok (.tuple #[.iface 235 v,.bool true]) w:=run_typeAssert_hasB underlying343 (by kernel_rfl) v xT w
theorem Jev (v:Value) (w:World):(Go.method 641 235 v "Unwrap").run prog w=.ok (387,v) w:=by kernel_rfl

def Ss:List Nat:=[0,1,2,3,4,5,6,7]
structure Sent (E:Nat->Addr) (w:World):Prop where
 row:∀g∈Ss,∃ca ta,w.heap[(E g).block]? =some (.cells ca ta (0,0))
 inj:∀g∈Ss,∀h∈Ss,E g=E h->g=h
theorem Sent.tch {E:Nat->Addr} {S:Nat->Prop} {w w':World} (h:Sent E w) (k:Tch S w w') (hs:∀g∈Ss,¬S (E g).block):Sent E w':=
 ⟨λg hg=>by obtain ⟨ca,ta,hr⟩:=h.row g hg;exact ⟨ca,ta,(k.block _ (Jb hr) (hs g hg)).trans hr⟩,h.inj⟩
theorem ErrN.unique {E:Nat->Addr} {g:Nat} {w:World}:∀{n m:Nat} {v:Value},ErrN E g w v n->ErrN E g w v m->n=m
 | 0,0,_,_,_=>rfl
 | 0,m+1,_,h,k=>by obtain ⟨p,s,u,_,_,rfl⟩:=k;simp [ErrN] at h
 | n+1,0,_,h,k=>by obtain ⟨p,s,u,_,_,rfl⟩:=h;simp [ErrN] at k
 | n+1,m+1,_,h,k=>by
  obtain ⟨p,s,u,hp,hu,rfl⟩:=h
  obtain ⟨p2,s2,u2,hp2,hu2,e⟩:=k
  simp only [Value.iface.injEq,Value.pointer.injEq,Qh,Addr.mk.injEq,and_true,true_and] at e
  rw [<-e,hp] at hp2
  simp only [Qh,Obj.cells.injEq,and_true] at hp2
  have:u=u2:=by have:=congrArg (λa=>a[1]?) hp2;simpa using this
  subst this
  rw [ErrN.unique hu hu2]
theorem Jmr (E:Nat->Addr) (g:Nat) (w:World):∃f:Value->Nat,∀v n,ErrN E g w v n->f v=n:=by
 classical
 refine ⟨λv=>if h:∃n,ErrN E g w v n then h.choose else 0,λv n h=>?_⟩
 simp only
 rw [dif_pos ⟨n,h⟩]
 exact ErrN.unique (Exists.choose_spec ⟨n,h⟩) h

theorem Jmv {E:Nat->Addr} {w:World} (g t:Nat) (hg:g∈Ss) (ht:t∈Ss) (hS:Sent E w) (v:Value) (n:Nat) (hv:ErrN E g w v n):
  Calls prog 132 #[v,eV E t,.bool true] w λe w'=>e=.returned (.bool (g == t))/\w'=w:=by
 obtain ⟨i,hi,hcmp⟩:=Option.map_eq_some_iff.1 Jmt
 obtain ⟨j,hj,hjs⟩:=Option.map_eq_some_iff.1 Jmu
 obtain ⟨ca,ta,ha⟩:=hS.row g hg
 obtain ⟨cb,tb,hb⟩:=hS.row t ht
 have HI:Hid (E g=E t->g=t):=hS.inj g hg t ht
 clear hS hg ht
 obtain ⟨f,(HF:Hid _)⟩:=Jmr E g w
 have nE:=Jnd
 have uE:=Jif
 have vE:=Jgu
 have nW:=Jne
 have uW:=Jgm
 have mU:=Jev
 go_enter func132,ntmps132
 go_wp2
 go_loopw [0] (λE' wl=>wl=w/\∃m,ErrN E g w E' m) (λE' _=>f E')
 case atStart=>exact ⟨rfl,n,hv⟩
 case round=>
  obtain ⟨rfl,m,hm⟩:=hrel
  cases hm using ErrN.ri with
  | base=>
   by_cases hab:g=t
   ·subst hab
    have heq:=run_eql_iface_ptr_same (P:=prog) wr (E g) underlying92 underlying509 hi hcmp hj
    go_wp2
    go_ret
    exact ⟨by simp,rfl⟩
   ·have hne:E g ≠ E t:=λe=>hab (HI.o e)
    have heq:=run_eql_iface_ptr_other (P:=prog) wr underlying92 underlying509 hi hcmp hj (by rw [hjs];decide) hne ha hb
    go_wp2
    go_ret
    exact ⟨by rw [beq_eq_false_iff_ne.2 hab];rfl,rfl⟩
  | wrap p s u m1 hp h1 ih=>
   clear ih
   have hty:=run_eql_iface_types (P:=prog) 235 509 (.pointer (some ⟨p,0,none⟩)) (.pointer (some (E t))) underlying92 (by decide) wr
   have hlen:=HF.o _ _ h1
   have hlen0:=HF.o _ _ (ErrN.wrap p s u m1 hp h1)
   have c1:wr.cell? ⟨p,1,none⟩=some u:=Ja hp
   have hne:∃a b,u=.iface a b:=by cases h1 using ErrN.ri <;> exact ⟨_,_,rfl⟩
   obtain ⟨u1,v1,rfl⟩:=hne
   have HC:Hid (ErrN E g wr (.iface u1 v1) m1):=h1
   clear h1
   go_wp2
   go_roundw
   case rel=>exact ⟨trivial,m1,HC.o⟩
   case measure=>
    show f (.iface u1 v1)<_
    rw [hlen,hlen0];omega

theorem Jmb {E:Nat->Addr} {w:World} (g t:Nat) (hg:g∈Ss) (ht:t∈Ss) (hS:Sent E w) (v:Value) (hv:Jl E g w v):
  Calls prog 75 #[v,eV E t] w λe w'=>e=.returned (.bool (g == t))/\w'=w:=by
 have h10:= @run_callFunc_extern prog 131 _ Extern.ReflectliteType.typeOf func131 (by kernel_rfl) (by kernel_rfl) (by kernel_rfl) (by kernel_rfl)
 have h30:= @run_callFunc_extern prog 392 _ Jl6 func392 (by kernel_rfl) (by kernel_rfl) (by kernel_rfl) (by kernel_rfl)
 have tT:=JjT
 have cT:=Jen
 have mR:=JaK
 obtain ⟨a,b,rfl⟩:=hv.iface
 obtain ⟨n,hn⟩:=hv.len
 have hcon:=Jmv g t hg ht hS (.iface a b) n hn
 clear hv hn hS hg ht
 go_enter func75,ntmps75
 go_wp2_with (first | (go_at_call 132;refine hcon.mono ?_;rintro e w' ⟨rfl,rfl⟩) | go_in)
 go_ret
 exact ⟨rfl,rfl⟩
set_option maxHeartbeats 1000000
open Go.RowKit

def Jjz (g:Nat):Int:=if g=0 then 2 else if g=1 then 3 else if g=2 then 4 else if g=3 then 5 else if g=4 then 6 else if g=5 then 7 else if g=6 then 8 else 1
theorem YU (w:World):Calls prog 42 #[.nilIface] w λe w'=>e=.returned (.int .i64 0)/\w'=w:=by
 go_enter func42,ntmps42
 go_wp2
 go_ret
 exact ⟨rfl,rfl⟩
theorem Jbz {E:Nat->Addr} {w:World} (g:Nat) (hg:g∈Ss) (hE:Env E w) (hS:Sent E w) (v:Value) (hv:Jl E g w v):
  Calls prog 42 #[v] w λe w'=>e=.returned (.int .i64 (Jjz g))/\w'=w:=by
 have HI:Hid (∀t∈Ss,_):=λt ht=>Jmb g t hg ht hS v hv
 obtain ⟨a,b,rfl⟩:=hv.iface
 have c0:=hE.tip
 have c1:=hE.input
 have c2:=hE.exist
 have c3:=hE.sum
 have c4:=hE.root
 have c5:=hE.range
 have c6:=hE.form
 have c7:=hE.torn
 have hg':g=0\/g=1\/g=2\/g=3\/g=4\/g=5\/g=6\/g=7:=by simpa [Ss] using hg
 rcases hg' with rfl | rfl | rfl | rfl | rfl | rfl | rfl | rfl
 all_goals
  go_enter func42,ntmps42
  go_wp2_with (go_at_call 75;refine (HI _ (by decide)).mono ?_;rintro _ _ ⟨rfl,rfl⟩)
  go_ret
  exact ⟨rfl,rfl⟩
open Go.ChangeShapes Go.WideShapes Go.ChangeAt Go.RowKit

theorem Jnq (u:TypeId) (h:prog.typeName? 3 u=some "*errors.errorString"):u=509:=
 have star: "*" ++ "errors.errorString" = "*errors.errorString" :=by decide
 typeName_ptr_named (nm:= "errors.errorString") (by rw [star];kernel_rfl) (by kernel_rfl) (by decide) u (by rw [star];exact h)
theorem Jjv:prog.cellsOf 531=1:=by kernel_rfl
theorem Jjw:prog.cellsOf 9=1:=by kernel_rfl
def Jf7 (W:World) (g:Nat) (text:List UInt8):Prop:=∃(a:Addr) (s:BA) (ca:Array Value) (ta:TypeId),W.cell? ⟨g,0,none⟩=some (.iface 509 (.pointer (some a)))/\W.cell? a=some (.string s)/\s.data.toList=text/\W.heap[a.block]? =some (.cells ca ta (0,0))
theorem Yb {n:String} {g:Nat} {text:List UInt8} {r:List (String×DataW Unit)} {W:World} (h:laidMet prog ((n,.iface "*errors.errorString" (.ptr (.agg [.lit (.string text)]))) :: r) W) (hg:prog.globalNamed n=some g) (ht:(prog.globals[g]?).map (·.type)=some 92):Jf7 W g text:=by
 obtain ⟨ps,⟨g0,t0,cs0,f0,p0,q0,hg0,ht0,hv0,hd0,_,e0⟩,_,hrows⟩:=h
 obtain rfl:=Option.some.inj (hg.symm.trans hg0)
 obtain rfl:=Option.some.inj (ht.symm.trans ht0)
 subst e0
 obtain ⟨l0⟩:=cs0
 have ok0:∀u v,l0=[.iface u v]->Value.okWide prog W .any 0 u v:=λu v e=>by
  subst e
  exact (hrows g 0 (by simp [MemPlace.row])).2 u v ((World.var?_cell hg0 hv0 0).trans rfl)
 obtain ⟨a0,s0,rfl,hc0,hs0,hz0,rfl⟩:=errorString_of_trod underlying92 Jnq underlying509 underlying531 rfl rfl underlying9 Jjv Jjw hd0 ok0
 obtain ⟨ca,ta,hb⟩:=(hrows a0.block a0.off (by simp [MemPlace.row])).1
 exact ⟨a0,s0,ca,ta,(World.var?_cell hg0 hv0 0).trans rfl,hc0,hs0,hb⟩
def txOf:DataW Unit->List UInt8
 | .iface _ (.ptr (.agg [.lit (.string t)]))=>t
 | _=>[]
def tx (g:Nat):List UInt8:=txOf (if g=0 then Rows.laid_trove_fault_Tip else if g=1 then Rows.laid_trove_fault_Input else if g=2 then Rows.laid_trove_fault_Exists else if g=3 then Rows.laid_trove_fault_Sum else if g=4 then Rows.laid_trove_fault_Root else if g=5 then Rows.laid_trove_fault_Range else if g=6 then Rows.laid_trove_fault_Torn else Rows.laid_trove_fault_Form)
theorem JmR:∀g∈Ss,∀h∈Ss,tx g=tx h->g=h:=by decide
theorem Jmp {W:World} (hS:∀g∈Ss,Jf7 W g (tx g)) (hsz:18<=W.heap.size) (hpow:Lib.TabIs prog W "internal/strconv.uint64pow10" .u64 Lib.pow10Tab) (htab:∀i,i<64->W.cell? ⟨13,i,none⟩=some (.int .u32 (Ks.getD i 0))):
  ∃E:Nat->Addr,Env E W/\Sent E W/\∀g∈Ss,(E g).block<W.heap.size:=by
 classical
 let E:Nat->Addr:=λg=>if h:g∈Ss then Classical.choose (hS g h) else ⟨0,0,none⟩
 have hE:∀g (h:g∈Ss),∃(s:BA) (ca:Array Value) (ta:TypeId),W.cell? ⟨g,0,none⟩=some (.iface 509 (.pointer (some (E g))))/\W.cell? (E g)=some (.string s)/\s.data.toList=tx g/\W.heap[(E g).block]? =some (.cells ca ta (0,0)):=λg h=>by
  have e:E g=Classical.choose (hS g h):=dif_pos h
  rw [e]
  exact Classical.choose_spec (hS g h)
 have hc:∀g,g∈Ss->W.cell? ⟨g,0,none⟩=some (.iface 509 (.pointer (some (E g)))):=λg h=>by obtain ⟨_,_,_,h1,_⟩:=hE g h;exact h1
 refine ⟨E,⟨hsz,hc _ (by decide),hc _ (by decide),hc _ (by decide),hc _ (by decide),hc _ (by decide),hc _ (by decide),hc _ (by decide),hc _ (by decide),hpow,htab⟩,⟨λg hg=>?_,λg hg h hh e=>?_⟩,λg hg=>?_⟩
 ·obtain ⟨_,ca,ta,_,_,_,h4⟩:=hE g hg
  exact ⟨ca,ta,h4⟩
 ·obtain ⟨s,_,_,_,h2,h3,_⟩:=hE g hg
  obtain ⟨s',_,_,_,h2',h3',_⟩:=hE h hh
  rw [e,h2'] at h2
  cases h2
  exact JmR g hg h hh (h3.symm.trans h3')
 ·obtain ⟨_,ca,ta,_,_,_,h4⟩:=hE g hg
  exact (Jb h4)
theorem gTab:prog.globalNamed "trove/digest.roundConstants" =some 13:=by kernel_rfl
theorem JjN:(prog.globals[13]?).map (·.type)=some 486:=by kernel_rfl
theorem Jml:prog.cellsOf 486=64:=by kernel_rfl
theorem Jmm:prog.cellsOf 429=1:=by kernel_rfl
theorem JjM:(prog.globals[15]?).map (·.type)=some 503:=by kernel_rfl
theorem Jmk:prog.cellsOf 503=20:=by kernel_rfl
theorem Jjx:prog.cellsOf 78=1:=by kernel_rfl

theorem Jik {W:World} (h:laidMetH prog Rows.opensUptoRow.laid W):∃E:Nat->Addr,Env E W/\Sent E W/\∀g∈Ss,(E g).block<W.heap.size:=by
 rw [MakeChecks.laidMetH_plain _ _ _ (by kernel_rfl)] at h
 have h3:=h.tail.tail.tail
 have hs:∀g∈Ss,Jf7 W g (tx g):=by
  intro g hg
  simp only [Ss,List.mem_cons,QD,or_false] at hg
  rcases hg with rfl | rfl | rfl | rfl | rfl | rfl | rfl | rfl
  ·exact Yb h3.tail (by kernel_rfl) (by kernel_rfl)
  ·exact Yb h3.tail.tail (by kernel_rfl) (by kernel_rfl)
  ·exact Yb h3.tail.tail.tail (by kernel_rfl) (by kernel_rfl)
  ·exact Yb h3.tail.tail.tail.tail (by kernel_rfl) (by kernel_rfl)
  ·exact Yb h3.tail.tail.tail.tail.tail (by kernel_rfl) (by kernel_rfl)
  ·exact Yb h3.tail.tail.tail.tail.tail.tail (by kernel_rfl) (by kernel_rfl)
  ·exact Yb h3.tail.tail.tail.tail.tail.tail.tail (by kernel_rfl) (by kernel_rfl)
  ·exact Yb h3 (by kernel_rfl) (by kernel_rfl)
 have ht:laidMet prog [("trove/digest.roundConstants",Lib.tabData .u32 Ks)] W:=h3.tail.tail.tail.tail.tail.tail.tail.tail.tail
 have htab:=Lib.tabIs_of_head gTab JjN underlying486 underlying429 Jmm Jml ht
 have hp:laidMet prog (("internal/strconv.uint64pow10",Lib.tabData .u64 Lib.pow10Tab) :: _) W:=h.tail.tail
 have hpow:=Lib.tabIs_of_head gPow JjM underlying503 underlying78 Jjx Jmk hp
 refine Jmp hs ?_ hpow (λi hi=>htab.cell gTab i hi)
 obtain ⟨ps,hv,_⟩:=h.tail
 obtain ⟨g,t,cs,fuel,p,q,hg,_,hvv,_⟩:=hv
 obtain rfl:g=17:=Option.some.inj (hg.symm.trans (show prog.globalNamed "math/bits.deBruijn64tab" =some 17 by kernel_rfl))
 unfold World.var? at hvv
 rw [hg] at hvv
 simp only [Qu] at hvv
 split at hvv
 ·rename_i hh
  exact (Jb hh)
 ·cases hvv

theorem Tch.box (w:World) (o:Obj):Tch NoB w (w.alloc o).drew:=(Ta _ w o).trans (Td _ (w.alloc o) 1) (λ_ h=>.inl h)
theorem Tch.box2 (w:World) (o o':Obj):Tch NoB w ((w.alloc o).alloc o').drew:=((Ta _ w o).trans (Ta _ (w.alloc o) o') (λ_ h=>.inl h)).trans (Td _ ((w.alloc o).alloc o') 1) (λ_ h=>.inl h)
theorem Bs.tchOwn {base:Nat} {w w':World} {v:Value} {xs:List Value} (h:Bs base w v xs) (hg:w.grownBy w' v.ownBlock) {W:World} (hW:W.heap.size<=base) (k:Tch NoB W w):Tch NoB W w':=
 k.trans (Tg hg) (λj hj=>by
  have:=(h.own j hj.symm).1
  exact .inr (by omega))
theorem JdO (n k:Nat) (w:World) (hk:k<=8):
  Calls prog 49 #[.int .u64 (n:Int),.int .i64 (k:Int)] w λe w'=>e=.returned (.string ⟨(beL n k k).toArray⟩)/\Tch NoB w w':=by
 obtain ⟨i0,hi,hz0,hz1,hz2⟩:=info_parts Jci
 have hki:(k:Int)<=8:=by omega
 go_enter func49,ntmps49
 go_wp2
 go_loopw [5,6] (λv i wr=>∃j:Nat,j<=k/\i=.int .i64 ((k:Int) - 1 - (j:Int))/\Hid (Bs w.heap.size wr v (bc (beL n k j)))/\Hid (Tch NoB w wr)) (λ_ i _=>(intOf i+1).toNat)
 case atStart=>exact ⟨0,by omega,congrArg (Value.int .i64) (by omega),Bs.nil _ _,Te _ _⟩
 case round=>
  obtain ⟨j,hj,rfl,hbs,htc⟩:=hrel
  by_cases hjk:j<k
  ·obtain ⟨m,hm',hmk⟩:∃m:Nat,(k:Int) - 1 - (j:Int)=(m:Int)/\k - 1 - j=m:=⟨k - 1 - j,by omega,rfl⟩
   have HM:Hid ((k:Int) - 1 - (j:Int)=(m:Int)/\k - 1 - j=m):=⟨hm',hmk⟩
   have hm7:m<=7:=by omega
   have HJ:Hid (j<k):=hjk
   rw [hm']
   clear hm' hmk hjk
   have hw8:IntKind.i64.wrap (8 * (m:Int))=8 * (m:Int):=JC _ (by omega) (by omega)
   have hsh:Op.shift .shr .u64 (n:Int) .i64 (8 * (m:Int))=pure (.int .u64 ((n:Int) / 2 ^ (8 * m))):=by
    rw [shift_shr_u64 _ _ _ (by omega) (by omega)]
    congr 3
   have Hbl:Hid ((bc (beL n k j)).length=j):=(by rw [XY,Je]:(bc (beL n k j)).length=j)
   obtain ⟨a0,m0,c0,hv0⟩:=hbs.out.shape3
   subst hv0
   go_wp2_with (at_builtin;refine Xw rfl _ _ 52 52 5 rfl i0 _ underlying52 hi hz0 hz1 hz2 rfl rfl (hbs.out.alloc _) _ 1 [_] rfl (Src.ofSlice _ underlying52 _ 1 1 _ rfl (cell_one_new _ _ _) (by simp [Value.oneCell'])) (by rw [Hbl.out];omega) (by have:=htc.out.size;simp;omega) ?_;intro v1 w1 hbs1 hg1 hmv1;have HB1:Hid _:=hbs1;have Hg1:Hid _:=hg1;clear hmv1 hbs1 hg1)
   have e2:[Value.int .u8 (IntKind.u8.wrap ((n:Int) / 2 ^ (8 * (m:Int)).toNat))]=bc [UInt8.ofNat (n / 2 ^ (8 * m))]:=by
    rw [IntKind.wrap_u8',show (8 * (m:Int)).toNat=8 * m by omega]
    simp [bc]
   have e3:bc (beL n k (j+1))=bc (beL n k j)++bc [UInt8.ofNat (n / 2 ^ (8 * m))]:=by
    rw [<-HM.o.2,<-Zy];rfl
   have hjk:=HJ.o
   go_roundw
   case rel=>
    refine ⟨j+1,by omega,?_,?_,?_⟩
    ·exact congrArg (Value.int .i64) (by have:=HM.o.1;omega)
    ·rw [e3,<-e2];exact HB1
    ·exact Bs.tchOwn (hbs.out.alloc _) Hg1.out (Ql _) (htc.out.trans (Ta NoB _ _) noE)
   case measure=>simp only [intOf];omega
  ·obtain rfl:j=k:=by omega
   have hneg:¬(0:Int)<=(j:Int) - 1 - (j:Int):=by omega
   have hcv:=Xu (P:=prog) (l:=beL n j j) hbs.out 52 9 5 underlying52 underlying5 underlying9
   obtain ⟨a0,m0,c0,hv0⟩:=hbs.out.shape3
   subst hv0
   go_wp2
   go_ret
   exact ⟨rfl,htc.out⟩
theorem Jcj {a b:BA} (h:a.data.toList=b.data.toList):a=b:=by
 cases a;cases b;simp only at h;rw [Array.toList_inj] at h;rw [h]
theorem Ja4 (b:Nat) (w:World) (k:Nat) (hb:b<256) (hc:w.cell? ⟨k,0,none⟩=some (.int .u8 (b:Int))):(convert 52 9 (.slice (some ⟨k,0,none⟩) 1 1)).run prog w=.ok (.string ⟨#[UInt8.ofNat b]⟩) w:=by
 have:=run_convert_bytes_back (P:=prog) w 52 9 5 ⟨k,0,none⟩ 1 [UInt8.ofNat b] underlying52 underlying5 underlying9 (λj hj=>by
  obtain rfl:j=0:=by simpa using hj
  rw [Addr.add_lit,Nat.zero_add,hc]
  simp [Nat.mod_eq_of_lt hb])
 exact this
theorem Jgp (b:Nat) (w:World) (hb:b<256):(convert 52 9 (.slice (some ⟨w.heap.size,0,none⟩) 1 1)).run prog (w.alloc (.cells #[.int .u8 (b:Int)] 5))=.ok (.string ⟨#[UInt8.ofNat b]⟩) (w.alloc (.cells #[.int .u8 (b:Int)] 5)):=by
 have:=run_convert_bytes_back (P:=prog) (w.alloc (.cells #[.int .u8 (b:Int)] 5)) 52 9 5 ⟨w.heap.size,0,none⟩ 1 [UInt8.ofNat b] underlying52 underlying5 underlying9 (λj hj=>by
  obtain rfl:j=0:=by simpa using hj
  rw [Addr.add_lit,Nat.zero_add,Ja (Qf _ _)]
  simp [Nat.mod_eq_of_lt hb])
 exact this
theorem JdP (a o:Nat) (w:World) (ho:o<256):
  Calls prog 38 #[.agg #[.int .u64 (a:Int),.int .u8 (o:Int)]] w λe w'=>e=.returned (.string ⟨(outB (a,o)).toArray⟩)/\Tch NoB w w':=by
 have HO:Hid (o<256):=ho
 have hin:=λW=>JdO a 8 W (by omega)
 have hby:=λW=>Jgp o W ho
 have hadd:∀W,(Op.stringOp .add (⟨(beL a 8 8).toArray⟩:BA) ⟨#[UInt8.ofNat o]⟩).run prog W=.ok (.string ⟨(outB (a,o)).toArray⟩) W:=λW=>by
  have:=run_string_add_sum (P:=prog) W (⟨(beL a 8 8).toArray⟩:BA) ⟨#[UInt8.ofNat o]⟩ (by show (beL a 8 8).toArray.size+1<=_;simp [Je])
  rw [this]
  exact congrArg (λx=>Result.ok (Value.string x) W) (Jcj (by simp [outB,beL]))
 have hb2:=Ja4 o ((w.alloc (.cells #[.int .u64 (a:Int),.int .u8 (o:Int)] 80)).alloc (.cells #[.int .u8 (o:Int)] 5)).drew (w.heap.size+1) ho (Ja (heap_alloc2_new _ _ _))
 have HIN:Hid _:=hin
 clear hin ho
 go_enter func38,ntmps38
 go_wp2
 go_region_with (go_at_call 49;refine (HIN.o _).mono ?_;rintro _ w1 ⟨rfl,ht1⟩;have r1:w1.heap[w.heap.size]? =some (.cells #[.int .u64 (a:Int),.int .u8 (o:Int)] 80):=(ht1.block _ (by first | (simp;done) | (simp;omega)) (λh=>h)).trans (by first | exact Qf _ _ | exact heap_alloc2_old _ _ _);have c1:w1.cell? ⟨w.heap.size,1,none⟩=some (.int .u8 (o:Int)):=Ja r1;(try (have q1:w1.heap[w.heap.size+1]? =some (.cells #[.int .u8 (o:Int)] 5):=(ht1.block _ (by simp) (λh=>h)).trans (heap_alloc2_new _ _ _);have q2:=Ja4 o w1 (w.heap.size+1) HO.o (Ja q1)));have HT1:Hid _:=ht1;clear ht1 r1)
 all_goals
  go_wp2
  go_ret
  refine ⟨rfl,?_⟩
  first
   | exact (Tch.box w _).trans HT1.o noE
   | exact (Tch.box2 w _ _).trans HT1.o noE
   | exact ((Tch.box w _).trans HT1.o noE).trans (Ta NoB w1 _) noE
theorem Jh7 (c:BA×Int) (w:World) (h0:0<=c.2) (h3:c.2<256) (hz:c.1.size<=1000000):
  Calls prog 54 #[.agg #[.string c.1,.int .i64 c.2]] w λe w'=>e=.returned (.string ⟨(Jd c).toArray⟩)/\Tch NoB w w':=by
 obtain ⟨s,n⟩:=c
 simp only at h0 h3 hz
 obtain ⟨m,rfl⟩:=Int.eq_ofNat_of_zero_le h0
 have hm:m<256:=by omega
 have hwr:IntKind.u8.wrap (m:Int)=(m:Int):=by simp [IntKind.wrap,IntKind.bits,IntKind.signed];omega
 have hby:=Ja4 m ((w.alloc (.cells #[.string s,.int .i64 (m:Int)] 49)).alloc (.cells #[.int .u8 (m:Int)] 5)) (w.heap.size+1) hm (Ja (heap_alloc2_new _ _ _))
 have hadd:∀W,(Op.stringOp .add s ⟨#[UInt8.ofNat m]⟩).run prog W=.ok (.string ⟨(Jd (s,(m:Int))).toArray⟩) W:=λW=>by
  have:=run_string_add_sum (P:=prog) W s ⟨#[UInt8.ofNat m]⟩ (by show s.size+1<=_;omega)
  rw [this]
  have hx:JD (m:Int)=m:=by have:=YA (m:Int) h0 (by omega);omega
  exact congrArg (λx=>Result.ok (Value.string x) W) (Jcj (by simp [Jd,hx,beL]))
 clear h0 h3 hz
 go_enter func54,ntmps54
 go_wp2
 go_ret
 exact ⟨rfl,(Ta NoB w _).trans (Ta NoB _ _) (λ_ h=>.inl h)⟩

theorem JhX (wd:Nat) (l:List (BA×Int)) (h:∀x∈l,Jn wd x):(l.flatMap Jd).length=l.length * (wd+1):=by
 induction l with
 | nil=>simp
 | cons x r ih=>rw [QG,Qe,XZ (h x QM),ih (λy hy=>h y (QO _ hy)),Qp,Nat.succ_mul];omega
theorem JcI (o:Nat×Nat):(outB o).length=9:=by simp [outB,Je]
theorem JdI (l:List (Nat×Nat)):(l.flatMap outB).length=l.length * 9:=by
 induction l with
 | nil=>simp
 | cons x r ih=>rw [QG,Qe,JcI,ih,Qp,Nat.succ_mul];omega
def txA1 (t:TxL) (i:Nat):List UInt8:=beL t.1.length 1 1++(t.1.take i).flatMap Jd
def txA2 (t:TxL) (i:Nat):List UInt8:=txA1 t t.1.length++(beL t.2.length 1 1++(t.2.take i).flatMap outB)
theorem JiT (t:TxL) (i:Nat) (h:i<t.1.length):txA1 t (i+1)=txA1 t i++Jd t.1[i]:=by
 unfold txA1;rw [QP h];simp only [List.flatMap_append,QG,List.flatMap_nil,QC,Qs]
theorem JiU (t:TxL) (i:Nat) (h:i<t.2.length):txA2 t (i+1)=txA2 t i++outB t.2[i]:=by
 unfold txA2;rw [QP h];simp only [List.flatMap_append,QG,List.flatMap_nil,QC,Qs]
theorem Jda (t:TxL):txA2 t t.2.length=txB t:=by
 unfold txA2 txA1 txB Jer JW;rw [List.take_length,List.take_length]
theorem Jc9 (wd:Nat) (t:TxL) (h:TxOk wd t) (hw:wd<=32) (i:Nat):(txA1 t i).length<=100:=by
 unfold txA1
 rw [Qe,Je,JhX wd _ (λx hx=>h.coins x (List.mem_of_mem_take hx)),QB]
 have:=h.ins
 have:min i t.1.length<=3:=by omega
 have:min i t.1.length * (wd+1)<=3 * (32+1):=Nat.mul_le_mul this (by omega)
 omega
theorem Jdb (wd:Nat) (t:TxL) (h:TxOk wd t) (hw:wd<=32) (i:Nat):(txA2 t i).length<=200:=by
 unfold txA2
 rw [Qe,Qe,Je,JdI,QB]
 have:=Jc9 wd t h hw t.1.length
 have:=h.made
 omega
theorem Jbo (a b:List UInt8) (h:a.length+b.length<=1000000000) (W:World):(Op.stringOp .add (⟨a.toArray⟩:BA) ⟨b.toArray⟩).run prog W=.ok (.string ⟨(a++b).toArray⟩) W:=by
 rw [run_string_add_sum (P:=prog) W (⟨a.toArray⟩:BA) ⟨b.toArray⟩ (by show a.toArray.size+b.toArray.size<=_;simp;omega)]
 exact congrArg (λx=>Result.ok (Value.string x) W) (Jcj (by simp))
theorem beL1 (n:Nat):beL n 1 1=[UInt8.ofNat n]:=by simp [beL]
theorem JjW (wd:Nat) (hw:wd<=32) (B:Nat) (v1 v2:Value) (t:TxL) (hk:TxOk wd t) (w:World) (h1:JB B w v1 t.1) (h2:Jo B w v2 t.2):
  Calls prog 76 #[.agg #[v1,v2]] w λe w'=>e=.returned (.string ⟨(txB t).toArray⟩)/\Tch NoB w w':=by
 obtain ⟨a1,c1,rfl⟩:=h1.shape
 obtain ⟨a2,c2,rfl⟩:=h2.shape
 have l1:=hk.ins
 have l2:=hk.made
 have HK:Hid _:=hk
 have H1:Hid _:=h1
 have H2:Hid _:=h2
 clear hk h1 h2
 have hw1:IntKind.u8.wrap (t.1.length:Int)=(t.1.length:Int):=by simp [IntKind.wrap,IntKind.bits,IntKind.signed];omega
 have hw2:IntKind.u8.wrap (t.2.length:Int)=(t.2.length:Int):=by simp [IntKind.wrap,IntKind.bits,IntKind.signed];omega
 have hby:=Ja4 t.1.length ((w.alloc (.cells #[.slice a1 t.1.length c1,.slice a2 t.2.length c2] 98)).alloc (.cells #[.int .u8 (t.1.length:Int)] 5)) (w.heap.size+1) (by omega) (Ja (heap_alloc2_new _ _ _))
 have T2:Hid (Tch NoB w ((w.alloc (.cells #[.slice a1 t.1.length c1,.slice a2 t.2.length c2] 98)).alloc (.cells #[.int .u8 (t.1.length:Int)] 5))):=(Ta NoB w _).trans (Ta NoB _ _) (λ_ h=>.inl h)
 have R2:Hid (((w.alloc (.cells #[.slice a1 t.1.length c1,.slice a2 t.2.length c2] 98)).alloc (.cells #[.int .u8 (t.1.length:Int)] 5)).heap[w.heap.size]? =some (.cells #[.slice a1 t.1.length c1,.slice a2 t.2.length c2] 98)):=heap_alloc2_old _ _ _
 go_enter func76,ntmps76
 go_wp2
 go_loopw [3,4] (λs i wr=>∃k:Nat,k<=t.1.length/\i=.int .i64 k/\s=.string ⟨(txA1 t k).toArray⟩/\Hid (Tch NoB w wr)/\Hid (wr.heap[w.heap.size]? =some (.cells #[.slice a1 t.1.length c1,.slice a2 t.2.length c2] 98))) (λ_ i _=>t.1.length - (intOf i).toNat)
 case atStart=>exact ⟨0,by omega,rfl,by rw [txA1,beL1];simp,T2.out,R2.o⟩
 case round=>
  clear hby T2 R2
  obtain ⟨k,hk,rfl,rfl,hT,hR⟩:=hrel
  have d0:wr.cell? ⟨w.heap.size,0,none⟩=some (.slice a1 t.1.length c1):=Ja hR.out
  by_cases hlt:k<t.1.length
  ·rcases H1.o with ⟨e,e2⟩ | ⟨gi,oi,cc,e,_,hgi,hcell⟩
   ·rw [e2] at hlt;simp at hlt
   simp only [Qy,true_and] at e
   obtain ⟨rfl,rfl⟩:=e
   obtain ⟨f0,f1⟩:=hcell k hlt
   have hck:=HK.o.coins _ (Qx hlt)
   have q0:=(hT.out.cell (p:=⟨gi,oi+k * 2,none⟩) hgi (λh=>h)).trans f0
   have q1:=(hT.out.cell (p:=⟨gi,oi+k * 2+1,none⟩) hgi (λh=>h)).trans f1
   have hlti:(k:Int)<(t.1.length:Int):=by omega
   have hcb:=XZ hck
   have hadd:=Jbo (txA1 t k) (Jd t.1[k]) (by have:=Jc9 wd t HK.o hw k;omega)
   rw [<-JiT t k hlt] at hadd
   have HKT:Hid (Calls _ _ _ wr _):=Jh7 t.1[k] wr hck.2.1 (by have:=hck.2.2;omega) (by rw [hck.1];omega)
   clear hcell f0 f1 hck hcb
   generalize t.1[k]=c at *
   generalize hX1:txA1 t (k+1)=X1 at *
   generalize txA1 t k=X0 at *
   have HX1:Hid (_=X1):=hX1
   clear hX1
   generalize Jd c=cb at *
   go_wp2_with (go_at_call 54;refine HKT.o.mono ?_;rintro _ w1 ⟨rfl,ht1⟩;have HT1:Hid _:=ht1;clear ht1)
   go_roundw
   case rel=>exact ⟨k+1,by omega,by go_num,by rw [HX1.o],hT.out.trans HT1.o noE,(HT1.o.block _ (Jb hR.out) (λh=>h)).trans hR.out⟩
   case measure=>simp [intOf];omega
  ·have HK1:Hid (k=t.1.length):=(by omega:k=t.1.length)
   have hge:¬(k:Int)<(t.1.length:Int):=by omega
   have d1:wr.cell? ⟨w.heap.size,1,none⟩=some (.slice a2 t.2.length c2):=Ja hR.out
   have hby:=Jgp t.2.length wr (by omega)
   have hadd0:=Jbo (txA1 t k) [UInt8.ofNat t.2.length] (by have:=Jc9 wd t HK.o hw k;simp;omega)
   have HX:Hid (txA1 t k++[UInt8.ofNat t.2.length]=txA2 t 0):=(by rw [HK1.o,txA2,beL1];simp:txA1 t k++[UInt8.ofNat t.2.length]=txA2 t 0)
   have TB:Hid (Tch NoB w (wr.alloc (.cells #[.int .u8 (t.2.length:Int)] 5))):=hT.out.trans (Ta NoB wr _) noE
   have RB:Hid ((wr.alloc (.cells #[.int .u8 (t.2.length:Int)] 5)).heap[w.heap.size]? =some (.cells #[.slice a1 t.1.length c1,.slice a2 t.2.length c2] 98)):=(Below.heap_alloc wr _ _ (Jb hR.out)).trans hR.out
   generalize txA1 t k++[UInt8.ofNat t.2.length]=X at *
   generalize txA1 t k=X0 at *
   go_wp2
   clear hby hadd0 d0 d1 hge hR hT
   go_loopw [3,5] (λs i wr=>∃k:Nat,k<=t.2.length/\i=.int .i64 k/\s=.string ⟨(txA2 t k).toArray⟩/\Hid (Tch NoB w wr)/\Hid (wr.heap[w.heap.size]? =some (.cells #[.slice a1 t.1.length c1,.slice a2 t.2.length c2] 98))) (λ_ i _=>t.2.length - (intOf i).toNat)
   case atStart=>exact ⟨0,by omega,rfl,by rw [HX.o],TB.out,RB.out⟩
   case round=>
    clear HX TB RB HK1 hk hlt
    obtain ⟨k,hk,rfl,rfl,hT,hR⟩:=hrel
    rename_i wq _
    have d1:wr.cell? ⟨w.heap.size,1,none⟩=some (.slice a2 t.2.length c2):=Ja hR.out
    by_cases hlt:k<t.2.length
    ·rcases H2.o with ⟨e,e2⟩ | ⟨gi,oi,cc,e,_,hgi,hcell⟩
     ·rw [e2] at hlt;simp at hlt
     simp only [Qy,true_and] at e
     obtain ⟨rfl,rfl⟩:=e
     obtain ⟨f0,f1⟩:=hcell k hlt
     have hok:=HK.o.outs _ (Qx hlt)
     have q0:=(hT.out.cell (p:=⟨gi,oi+k * 2,none⟩) hgi (λh=>h)).trans f0
     have q1:=(hT.out.cell (p:=⟨gi,oi+k * 2+1,none⟩) hgi (λh=>h)).trans f1
     have hlti:(k:Int)<(t.2.length:Int):=by omega
     have hadd:=Jbo (txA2 t k) (outB t.2[k]) (by have:=Jdb wd t HK.o hw k;rw [JcI];omega)
     rw [<-JiU t k hlt] at hadd
     have HKT:Hid (Calls _ _ _ wr _):=JdP t.2[k].1 t.2[k].2 wr hok.2
     clear hcell f0 f1 hok
     generalize hc:t.2[k]=c at *
     obtain ⟨ca,co⟩:=c
     clear hc
     simp only at q0 q1
     generalize hX1:txA2 t (k+1)=X1 at *
     generalize txA2 t k=X0 at *
     have HX1:Hid (_=X1):=hX1
     clear hX1
     generalize outB (ca,co)=cb at *
     go_wp2_with (go_at_call 38;refine HKT.o.mono ?_;rintro _ w1 ⟨rfl,ht1⟩;have HT1:Hid _:=ht1;clear ht1)
     go_roundw
     case rel=>exact ⟨k+1,by omega,by go_num,by rw [HX1.o],hT.out.trans HT1.o noE,(HT1.o.block _ (Jb hR.out) (λh=>h)).trans hR.out⟩
     case measure=>simp [intOf];omega
    ·have HK2:Hid (k=t.2.length):=(by omega:k=t.2.length)
     have hge:¬(k:Int)<(t.2.length:Int):=by omega
     have HE:Hid (txA2 t k=txB t):=(by rw [HK2.o];exact Jda t:txA2 t k=txB t)
     generalize txA2 t k=X at *
     go_wp2
     go_ret
     exact ⟨by rw [<-HE.o];rfl,hT.out⟩

theorem ZN (c:Int) (n:Nat) (w:World) (h1: -9223372036854775808<=c) (h2:c<9223372036854775808) (hn:0<n) (hn2:n<9223372036854775808):
  Calls prog 22 #[.int .i64 c,.int .i64 (n:Int)] w λe w'=>(∃r:Nat,r<n/\e=.returned (.int .i64 (r:Int)))/\w'=w:=by
 obtain ⟨d,hd,hd1,hd2,hdc⟩:∃d:Int,(0<=d)/\d<9223372036854775808/\(c<0->wrap64 (-(wrap64 (c+1)))=d)/\(¬c<0->c=d):=by
  by_cases h:c<0
  ·refine ⟨-(c+1),by omega,by omega,λ_=>?_,λh'=>absurd h h'⟩
   have e1:wrap64 (c+1)=c+1:=by simp only [wrap64];omega
   rw [e1]
   simp only [wrap64];omega
  ·exact ⟨c,by omega,by omega,λh'=>absurd h' h,λ_=>rfl⟩
 obtain ⟨m,rfl⟩:=Int.eq_ofNat_of_zero_le hd
 have hne:¬(n:Int)=0:=by omega
 by_cases hc:c<0
 ·have HD2:Hid (wrap64 (-(wrap64 (c+1)))=(m:Int)):=hd2 hc
  clear h1 h2 hd hd1 hd2 hdc
  go_enter func22,ntmps22
  go_wp2
  go_ret
  exact ⟨⟨m % n,Nat.mod_lt _ hn,by show Ending.returned (Value.int .i64 ((wrap64 (-wrap64 (c+1))).tmod n))=_;rw [HD2.o];rfl⟩,rfl⟩
 ·obtain rfl:=hdc hc
  clear h1 h2 hd hd1 hd2 hdc
  go_enter func22,ntmps22
  go_wp2
  go_ret
  exact ⟨⟨m % n,Nat.mod_lt _ hn,rfl⟩,rfl⟩
theorem Ja5 (n:Nat) (s:BA) (w:World) (h1:1<=n) (h32:n<=32) (hs:s.size<1152921504606846976) (h7:13<w.heap.size) (hT:∀i,i<64->w.cell? ⟨13,i,none⟩=some (.int .u32 (Ks.getD i 0))):
  Calls prog 39 #[.int .i64 (n:Int),.string s] w λe w'=>e=.returned (.string ⟨((digL s.data.toList).take n).toArray⟩)/\Tch NoB w w':=by
 have HD:Hid (Calls _ _ _ _ _):=JhJ n s w h1 h32 hs h7 hT
 clear hT
 go_enter func39,ntmps39
 go_wp2_with (go_at_call 73;refine HD.o.mono ?_;rintro _ w1 ⟨rfl,hb⟩;have HB:Hid _:=hb;clear hb)
 go_ret
 exact ⟨rfl,(Tch.of_below HB.o).mono (λj hj=>.inr hj)⟩
theorem Jh8 (c:Int) (w:World) (h1: -9223372036854775808<=c) (h2:c<9223372036854775808):
  Calls prog 36 #[.int .i64 c] w λe w'=>(∃n:Nat,1<=n/\n<=32/\e=.returned (.int .i64 (n:Int)))/\Tch NoB w w':=by
 have HP:Hid (∀W,Calls prog 22 #[.int .i64 c,.int .i64 ((10:Nat):Int)] W _):=λW=>ZN c 10 W h1 h2 (by omega) (by omega)
 have HC:Hid (∀r,r<10->∃n:Nat,1<=n/\n<=32/\(w.alloc (.cells #[.int .i64 1,.int .i64 1,.int .i64 2,.int .i64 3,.int .i64 4,.int .i64 8,.int .i64 16,.int .i64 31,.int .i64 32,.int .i64 32] 3)).cell? ⟨w.heap.size,r,none⟩=some (.int .i64 (n:Int))):=by
  intro r hr
  have hrow:=Qf w (.cells #[.int .i64 1,.int .i64 1,.int .i64 2,.int .i64 3,.int .i64 4,.int .i64 8,.int .i64 16,.int .i64 31,.int .i64 32,.int .i64 32] 3)
  obtain rfl | rfl | rfl | rfl | rfl | rfl | rfl | rfl | rfl | rfl:r=0\/r=1\/r=2\/r=3\/r=4\/r=5\/r=6\/r=7\/r=8\/r=9:=by omega
  all_goals first | exact ⟨1,by omega,by omega,Ja hrow⟩ | exact ⟨2,by omega,by omega,Ja hrow⟩ | exact ⟨3,by omega,by omega,Ja hrow⟩ | exact ⟨4,by omega,by omega,Ja hrow⟩ | exact ⟨8,by omega,by omega,Ja hrow⟩ | exact ⟨16,by omega,by omega,Ja hrow⟩ | exact ⟨31,by omega,by omega,Ja hrow⟩ | exact ⟨32,by omega,by omega,Ja hrow⟩
 clear h1 h2
 go_enter func36,ntmps36
 go_wp2_with (go_at_call 22;refine (HP.o _).mono ?_;rintro _ w1 ⟨⟨r,hr,rfl⟩,rfl⟩;obtain ⟨n,n1,n2,hcell⟩:=HC.o r hr)
 go_ret
 exact ⟨⟨n,n1,n2,rfl⟩,Ta _ _ _⟩
def Xa (w:World) (v:Value) (l:List Held):Prop:=
 (v=.slice none 0 0/\l=[])\/∃g o c,v=.slice (some ⟨g,o,none⟩) l.length c/\g<w.heap.size/\∀i (h:i<l.length),w.cell? ⟨g,o+i * 4,none⟩=some (.string l[i].1.1)/\w.cell? ⟨g,o+i * 4+1,none⟩=some (.int .i64 l[i].1.2)/\w.cell? ⟨g,o+i * 4+2,none⟩=some (.int .u64 ((l[i].2.1:Nat):Int))/\w.cell? ⟨g,o+i * 4+3,none⟩=some (.int .u8 ((l[i].2.2:Nat):Int))
theorem Xa.tch {w w':World} {v:Value} {l:List Held} (h:Xa w v l) (k:Tch NoB w w'):Xa w' v l:=by
 rcases h with h | ⟨gi,oi,c,hv,h2,h3⟩
 ·exact .inl h
 ·refine .inr ⟨gi,oi,c,hv,Qk h2 k.size,λi hi=>?_⟩
  have hc:∀o,w'.cell? ⟨gi,o,none⟩=w.cell? ⟨gi,o,none⟩:=λo=>k.cell (p:=⟨gi,o,none⟩) h2 (λe=>e)
  rw [hc,hc,hc,hc];exact h3 i hi
theorem Xa.shape {w:World} {v:Value} {l:List Held} (h:Xa w v l):∃a c,v=.slice a l.length c:=by
 rcases h with ⟨rfl,rfl⟩ | ⟨gi,oi,c,rfl,_⟩
 ·exact ⟨none,0,rfl⟩
 ·exact ⟨_,_,rfl⟩
theorem JhD {a b:BA} (h:a.toList=b.toList):a=b:=by
 rw [ByteArray.toList_eq,ByteArray.toList_eq] at h
 exact Jcj h
theorem Jfk {l:List Held} {c:BA×Int} {k:Nat} (hk:k<l.length) (he:l[k].1=c) (hn:∀j (hj:j<l.length),j<k->l[j].1 ≠ c):JZ l c=some k:=by
 unfold JZ
 rw [List.findIdx?_eq_some_iff_getElem]
 exact ⟨hk,by simpa using he,λj hj=>by simpa using hn j (by omega) hj⟩
theorem JjE {l:List Held} {c:BA×Int} (hn:∀j (hj:j<l.length),l[j].1 ≠ c):JZ l c=none:=by
 unfold JZ
 rw [List.findIdx?_eq_none_iff]
 intro x hx
 obtain ⟨j,hj,rfl⟩:=List.getElem_of_mem hx
 simpa using hn j hj
def Yt (l:List Held) (c:BA×Int):Int:=match JZ l c with | some k=>(k:Int) | none=> -1
theorem Jgq (v:Value) (l:List Held) (c:BA×Int) (w:World) (h:Xa w v l) (hl:l.length<1000000000):
  Calls prog 48 #[v,.agg #[.string c.1,.int .i64 c.2]] w λe w'=>e=.returned (.int .i64 (Yt l c))/\Tch NoB w w':=by
 obtain ⟨a,cc,rfl⟩:=h.shape
 obtain ⟨s,n⟩:=c
 have H:Hid _:=h
 clear h
 have TA:Hid (∀o,Tch NoB w (w.alloc o)):=λo=>Ta _ w o
 simp only
 go_enter func48,ntmps48
 go_wp2
 go_loopw [5] (λi wr=>∃k n':Nat,k<=l.length/\i=.int .i64 k/\wr=(w.alloc (.cells #[.string s,.int .i64 n] 49)).drewN n'/\Hid (∀j (hj:j<l.length),j<k->l[j].1 ≠ (s,n))) (λi _=>l.length - (intOf i).toNat)
 case atStart=>exact ⟨0,0,by omega,rfl,rfl,λj _ h=>absurd h (by omega)⟩
 case round=>
  obtain ⟨k,n',hk,rfl,rfl,HN⟩:=hrel
  by_cases hlt:k<l.length
  ·rcases H.out with ⟨e,e2⟩ | ⟨gi,oi,c2,e,hgi,hcell⟩
   ·rw [e2] at hlt;simp at hlt
   simp only [Qy,true_and] at e
   obtain ⟨rfl,rfl⟩:=e
   obtain ⟨f0,f1,_,_⟩:=hcell k hlt
   have q0:((w.alloc (.cells #[.string s,.int .i64 n] 49)).drewN n').cell? ⟨gi,oi+k * 4,none⟩=_:=((TA.out _).cell (p:=⟨gi,oi+k * 4,none⟩) hgi (λh=>h)).trans f0
   have q1:((w.alloc (.cells #[.string s,.int .i64 n] 49)).drewN n').cell? ⟨gi,oi+k * 4+1,none⟩=_:=((TA.out _).cell (p:=⟨gi,oi+k * 4+1,none⟩) hgi (λh=>h)).trans f1
   have hlti:(k:Int)<(l.length:Int):=by omega
   clear hcell q0 q1
   by_cases he:l[k].1=(s,n)
   ·have e1:l[k].1.1=s:=by rw [he]
    have e2:l[k].1.2=n:=by rw [he]
    rw [e1] at f0
    rw [e2] at f1
    have HF:Hid (JZ l (s,n)=some k):=Jfk hlt he HN.o
    clear he e1 e2
    go_wp2
    go_region
    all_goals go_wp2
    all_goals go_ret
    all_goals exact ⟨by unfold Yt;rw [HF.o];rfl,(TA.out _).trans (Td NoB _ _) noE⟩
   ·have HE:Hid _:=he
    have hrl:∃n2:Nat,True:=⟨0,trivial⟩
    generalize hx:l[k].1=x at *
    obtain ⟨xs,xn⟩:=x
    simp only at f0 f1
    have HX:Hid _:=hx
    clear hx
    by_cases hs:xs.toList=s.toList
    ·have hs':xs=s:=JhD hs
     subst hs'
     have hn:¬xn=n:=λe=>he (by rw [e])
     clear he hs
     go_wp2
     go_region
     all_goals go_wp2
     all_goals go_roundw
     case rel=>exact ⟨k+1,n'+1,by omega,by go_num,rfl,λj hj hjk=>by
      by_cases e:j=k
      ·subst e;exact λh=>HE.o (HX.o.symm.trans h)
      ·exact HN.o j hj (by omega)⟩
     case measure=>simp [intOf];omega
    ·clear he
     go_wp2
     go_region
     all_goals go_wp2
     all_goals go_roundw
     case rel=>exact ⟨k+1,n'+1,by omega,by go_num,rfl,λj hj hjk=>by
      by_cases e:j=k
      ·subst e;exact λh=>HE.o (HX.o.symm.trans h)
      ·exact HN.o j hj (by omega)⟩
     case measure=>simp [intOf];omega
  ·have HK:Hid (JZ l (s,n)=none):=JjE (λj hj=>HN.o j hj (by omega))
   have hge:¬(k:Int)<(l.length:Int):=by omega
   go_wp2
   go_ret
   exact ⟨by unfold Yt;rw [HK.o];rfl,(TA.out _).trans (Td NoB _ _) noE⟩
end Go.Proofs.YtighkdnooglfjaaGreatDoor
namespace Go.Proofs
open Go.Proofs.Tryz
open Go.Shelf
def Jdl:Go.Shelf.Ren:=⟨fun | 35=>290 | n=>n,fun | 22=>58 | 23=>9 | 3=>3 | 4=>4 | 0=>0 | n=>n,fun | n=>n⟩
theorem Jh9:SlLaysE.n35 prog Jdl:={
 mixed:=by kernel_rfl
 f35:=Exists.intro "slices.Reverse[[]string,string]" ⟨by decide,func290.trans (congrArg some (by kernel_rfl))⟩
 t0:=underlying0
 a0:=isAgg0
 z0:=sizeOf0
 v0:=zeroValue0
 t3:=underlying3
 a3:=isAgg3
 z3:=sizeOf3
 v3:=zeroValue3
 t4:=underlying4
 a4:=isAgg4
 z4:=sizeOf4
 v4:=zeroValue4
 t22:=underlying58
 a22:=isAgg58
 z22:=sizeOf58
 v22:=zeroValue58
 a23:=isAgg9
 z23:=sizeOf9 }
theorem YtighkdnooglfjaaGreatDoor.tch_putRow (w:World) (n blk off:Nat) (d:Array ByteArray):YtighkdnooglfjaaGreatDoor.Tch (λj=>j=blk) w (Go.Sort.putRow Value.string (Go.Sort.ahead w n) blk off d):=by
 refine ⟨rfl,rfl,rfl,by simp [Go.Sort.ahead],λk _ hk=>?_⟩
 simp only [Go.Sort.putRow,Go.Sort.mapBlock,Go.Sort.ahead]
 rw [Array.getElem?_modify,if_neg (λe=>hk e.symm)]
theorem YtighkdnooglfjaaGreatDoor.reverse_any (blk cap:Nat) (zs:List ByteArray) (w:World) (hc:∀j (h:j<zs.length),w.cell? ⟨blk,j,none⟩=some (.string zs[j])/\w.frozen? ⟨blk,j,none⟩=false) (hz:zs.length<=1000000):
  Calls prog 290 #[.slice (some ⟨blk,0,none⟩) zs.length cap] w λe w'=>e=.returned (.tuple #[])/\YtighkdnooglfjaaGreatDoor.Tch (λj=>j=blk) w w'/\∀j (h:j<zs.reverse.length),w'.cell? ⟨blk,j,none⟩=some (.string zs.reverse[j]):=by
 have hH:Go.Sort.Holds Value.string w blk 0 zs.toArray:=λj hj=>by
  have hj':j<zs.length:=by simpa using hj
  obtain ⟨h1,h2⟩:=hc j hj'
  rw [Nat.zero_add]
  refine ⟨?_,h2⟩
  rw [h1]
  simp [hj']
 refine (AnyE.slices_Reverse Jh9 Value.string (λ_=>rfl) blk 0 cap zs w hH (by omega)).mono ?_
 rintro e w' ⟨rfl,n,rfl⟩
 refine ⟨rfl,YtighkdnooglfjaaGreatDoor.tch_putRow _ _ _ _ _,λj h=>?_⟩
 have h0:Go.Sort.Holds Value.string (Go.Sort.ahead w n) blk 0 zs.toArray:=hH
 have:=Go.Sort.cell?_putRow Value.string (Go.Sort.ahead w n) blk 0 zs.toArray zs.reverse.toArray h0 (by simp) j (by simpa using h)
 rw [Nat.zero_add] at this
 rw [this]
 have hj':j<zs.length:=by simpa using h
 simp [hj']
end Go.Proofs
