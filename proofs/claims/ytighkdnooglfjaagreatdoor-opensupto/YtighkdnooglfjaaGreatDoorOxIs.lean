import Derived.Test.YtighkdnooglfjaaGreatDoorOxMDef
import Derived.Stop.Asserts
import Derived.RowKitTokens
namespace Go.Proofs.YtighkdnooglfjaaGreatDoor
open Tryz
set_option maxRecDepth 100000
open Go.RowKit Go.Extern.Stop Go.Stop Go.Extern

def Jmc:Array Value->Sem Value:=Extern.ReflectliteType.method λt=>do Extern.Rtype.noPackHeld "Comparable" t;pure (.bool (<-typeInfo t).comparable)
theorem Jj0 (v:Value) (w:World):(Extern.ReflectliteType.typeOf #[.iface 509 v]).run prog w=.ok (.iface 338 (.agg #[.pointer (some ⟨18,509,none⟩)])) w:=by kernel_rfl
theorem Jep (w:World):(Jmc #[.agg #[.pointer (some ⟨18,509,none⟩)]]).run prog w=.ok (.bool true) w:=by kernel_rfl
theorem JaM (v:Value) (w:World):(Go.method 641 338 v "Comparable").run prog w=.ok (392,v) w:=by kernel_rfl
theorem Jmy:(prog.info? 509).map (·.comparable)=some true:=by kernel_rfl
theorem Jmz:(prog.info? 531).map (·.size)=some 1:=by kernel_rfl
theorem Jni (v:Value) (xT:TypeId) (w:World):(Instr.typeAssert (.iface 509 v) xT 340 true).run prog w=.ok (.tuple #[.nilIface,.bool false]) w:=run_typeAssert_lacksB underlying340 (by kernel_rfl) (by kernel_rfl) v xT w
theorem Jio (v:Value) (xT:TypeId) (w:World):(Instr.typeAssert (.iface 509 v) xT 343 true).run prog w=.ok (.tuple #[.nilIface,.bool false]) w:=run_typeAssert_lacksB underlying343 (by kernel_rfl) (by kernel_rfl) v xT w
theorem Jgx (v:Value) (xT:TypeId) (w:World):(Instr.typeAssert (.iface 509 v) xT 344 true).run prog w=.ok (.tuple #[.nilIface,.bool false]) w:=run_typeAssert_lacksB underlying344 (by kernel_rfl) (by kernel_rfl) v xT w
theorem Jnj (v:Value) (xT:TypeId) (w:World):(Instr.typeAssert (.iface 235 v) xT 340 true).run prog w=.ok (.tuple #[.nilIface,.bool false]) w:=run_typeAssert_lacksB underlying340 (by kernel_rfl) (by kernel_rfl) v xT w
theorem Jgp (v:Value) (xT:TypeId) (w:World):(Instr.typeAssert (.iface 235 v) xT 343 true).run prog w=.ok (.tuple #[.iface 235 v,.bool true]) w:=run_typeAssert_hasB underlying343 (by kernel_rfl) v xT w
theorem Jex (v:Value) (w:World):(Go.method 641 235 v "Unwrap").run prog w=.ok (387,v) w:=by kernel_rfl

def Ss:List Nat:=[0,1,2,3,4,5,6,7]
structure Sent (E:Nat->Addr) (w:World):Prop where
 row:∀g∈Ss,∃ca ta,w.heap[(E g).block]? =some (.cells ca ta (0,0))
 inj:∀g∈Ss,∀h∈Ss,E g=E h->g=h
theorem Sent.tch {E:Nat->Addr} {S:Nat->Prop} {w w':World} (h:Sent E w) (k:Tch S w w') (hs:∀g∈Ss,¬S (E g).block):Sent E w':=
 ⟨λg hg=>by obtain ⟨ca,ta,hr⟩:=h.row g hg;exact ⟨ca,ta,(k.block _ (Jb hr) (hs g hg)).trans hr⟩,h.inj⟩
inductive ErrN (E:Nat->Addr) (g:Nat) (w:World):Value->Nat->Prop where
 | base:ErrN E g w (eV E g) 0
 | wrap (p:Nat) (s:BA) (v:Value) (n:Nat):w.heap[p]? =some (.cells #[.string s,v] 237)->ErrN E g w v n->ErrN E g w (.iface 235 (.pointer (some ⟨p,0,none⟩))) (n+1)
theorem Jn.len {E:Nat->Addr} {g:Nat} {w:World} {v:Value} (h:Jn E g w v):∃n,ErrN E g w v n:=by
 induction h with
 | base=>exact ⟨0,.base⟩
 | wrap p s u hp _ ih=>obtain ⟨n,hn⟩:=ih;exact ⟨n+1,.wrap p s u n hp hn⟩
theorem ErrN.unique {E:Nat->Addr} {g:Nat} {w:World} {v:Value} {n m:Nat} (h:ErrN E g w v n) (h':ErrN E g w v m):n=m:=by
 induction h generalizing m with
 | base=>cases h';rfl
 | wrap p s u n hp h1 ih=>
  cases h' with
  | wrap _ s2 u2 n2 hp2 h2=>
   rw [hp] at hp2
   simp only [Qh,Obj.cells.injEq,and_true] at hp2
   have:u=u2:=by have:=congrArg (λa=>a[1]?) hp2;simpa using this
   subst this
   rw [ih h2]
open Classical in
noncomputable def Jen (E:Nat->Addr) (g:Nat) (w:World) (v:Value):Nat:=if h:∃n,ErrN E g w v n then h.choose else 0
theorem JdL {E:Nat->Addr} {g:Nat} {w:World} {v:Value} {n:Nat} (h:ErrN E g w v n):Jen E g w v=n:=by
 unfold Jen
 rw [dif_pos ⟨n,h⟩]
 exact ErrN.unique (Exists.choose_spec ⟨n,h⟩) h

theorem JmA {E:Nat->Addr} {w:World} (g t:Nat) (hg:g∈Ss) (ht:t∈Ss) (hS:Sent E w) (v:Value) (n:Nat) (hv:ErrN E g w v n):
  Calls prog 132 #[v,eV E t,.bool true] w λe w'=>e=.returned (.bool (g == t))/\w'=w:=by
 obtain ⟨i,hi,hcmp⟩:=Option.map_eq_some_iff.1 Jmy
 obtain ⟨j,hj,hjs⟩:=Option.map_eq_some_iff.1 Jmz
 obtain ⟨ca,ta,ha⟩:=hS.row g hg
 obtain ⟨cb,tb,hb⟩:=hS.row t ht
 have HI:Hid (E g=E t->g=t):=hS.inj g hg t ht
 clear hS hg ht
 have nE:=Jni
 have uE:=Jio
 have vE:=Jgx
 have nW:=Jnj
 have uW:=Jgp
 have mU:=Jex
 go_enter func132,ntmps132
 go_wp2
 go_loopw [0] (λE' wl=>wl=w/\∃m,ErrN E g w E' m) (λE' _=>Jen E g w E')
 case atStart=>exact ⟨rfl,n,hv⟩
 case round=>
  obtain ⟨rfl,m,hm⟩:=hrel
  cases hm with
  | base=>
   by_cases hab:g=t
   ·subst hab
    have heq:=run_eql_iface_ptr_same (P:=prog) wr (E g) underlying92 underlying509 hi hcmp hj
    go_wp2
    go_ret
    exact ⟨by simp,rfl⟩
   ·have hne:E g ≠ E t:=λe=>hab (HI.o e)
    have heq:=run_eql_iface_ptr_other (P:=prog) wr underlying92 underlying509 hi hcmp hj (by rw [hjs];decide) hne ha hb
    go_wp2
    go_ret
    exact ⟨by rw [beq_eq_false_iff_ne.2 hab];rfl,rfl⟩
  | wrap p s u m1 hp h1=>
   have hty:=run_eql_iface_types (P:=prog) 235 509 (.pointer (some ⟨p,0,none⟩)) (.pointer (some (E t))) underlying92 (by decide) wr
   have hlen:=JdL h1
   have hlen0:=JdL (ErrN.wrap p s u m1 hp h1)
   have c1:wr.cell? ⟨p,1,none⟩=some u:=Ja hp
   have hne:∃a b,u=.iface a b:=by cases h1 <;> exact ⟨_,_,rfl⟩
   obtain ⟨u1,v1,rfl⟩:=hne
   have HC:Hid _:=h1
   clear h1
   go_wp2
   go_roundw
   case rel=>exact ⟨trivial,m1,HC.o⟩
   case measure=>
    show Jen E g wr (.iface u1 v1)<_
    rw [hlen,hlen0];omega

theorem Jmh {E:Nat->Addr} {w:World} (g t:Nat) (hg:g∈Ss) (ht:t∈Ss) (hS:Sent E w) (v:Value) (hv:Jn E g w v):
  Calls prog 75 #[v,eV E t] w λe w'=>e=.returned (.bool (g == t))/\w'=w:=by
 have h10:= @run_callFunc_extern prog 131 _ Extern.ReflectliteType.typeOf func131 (by kernel_rfl) (by kernel_rfl) (by kernel_rfl) (by kernel_rfl)
 have h30:= @run_callFunc_extern prog 392 _ Jmc func392 (by kernel_rfl) (by kernel_rfl) (by kernel_rfl) (by kernel_rfl)
 have tT:=Jj0
 have cT:=Jep
 have mR:=JaM
 obtain ⟨a,b,rfl⟩:=hv.iface
 obtain ⟨n,hn⟩:=hv.len
 have hcon:=JmA g t hg ht hS (.iface a b) n hn
 clear hv hn hS hg ht
 go_enter func75,ntmps75
 go_wp2_with (first | (go_at_call 132;refine hcon.mono ?_;rintro e w' ⟨rfl,rfl⟩) | go_in)
 go_ret
 exact ⟨rfl,rfl⟩
set_option maxHeartbeats 1000000
open Go.RowKit

def JjH (g:Nat):Int:=if g=0 then 2 else if g=1 then 3 else if g=2 then 4 else if g=3 then 5 else if g=4 then 6 else if g=5 then 7 else if g=6 then 8 else 1
theorem YT (w:World):Calls prog 42 #[.nilIface] w λe w'=>e=.returned (.int .i64 0)/\w'=w:=by
 go_enter func42,ntmps42
 go_wp2
 go_ret
 exact ⟨rfl,rfl⟩
theorem JbD {E:Nat->Addr} {w:World} (g:Nat) (hg:g∈Ss) (hE:Env E w) (hS:Sent E w) (v:Value) (hv:Jn E g w v):
  Calls prog 42 #[v] w λe w'=>e=.returned (.int .i64 (JjH g))/\w'=w:=by
 have HI:Hid (∀t∈Ss,Calls prog 75 #[v,eV E t] w λe w'=>e=.returned (.bool (g == t))/\w'=w):=λt ht=>Jmh g t hg ht hS v hv
 obtain ⟨a,b,rfl⟩:=hv.iface
 have c0:=hE.tip
 have c1:=hE.input
 have c2:=hE.exist
 have c3:=hE.sum
 have c4:=hE.root
 have c5:=hE.range
 have c6:=hE.form
 have c7:=hE.torn
 clear hE hS hv
 have hg':g=0\/g=1\/g=2\/g=3\/g=4\/g=5\/g=6\/g=7:=by simpa [Ss] using hg
 clear hg
 rcases hg' with rfl | rfl | rfl | rfl | rfl | rfl | rfl | rfl
 all_goals
  go_enter func42,ntmps42
  go_wp2_with (go_at_call 75;refine (HI.o _ (by decide)).mono ?_;rintro _ _ ⟨rfl,rfl⟩)
  go_ret
  exact ⟨rfl,rfl⟩
