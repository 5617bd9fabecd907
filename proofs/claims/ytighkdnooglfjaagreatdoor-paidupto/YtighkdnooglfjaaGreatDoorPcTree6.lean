import Derived.Test.YtighkdnooglfjaaGreatDoorPcTree5
import Derived.RangeFuncNested
import Derived.RangeFuncBound
import Derived.Shelf.RegionOpen
import Derived.OwnWalkIn
import Derived.LoopNIn
import Derived.LoopIn
namespace Go.Proofs.YtighkdnooglfjaaGreatDoor
open Tryz
set_option maxRecDepth 100000
set_option maxHeartbeats 2000000
open Go.RowKit

def StAt (d:List UInt8->BA) (F:Nat->Prop) (w:World):Option Nat->Option Tr->Prop
 | none,none=>True
 | some n,some t=>Je d F w n t
 | _,_=>False
abbrev Jh (q:Option Nat):Value:=.pointer (q.map λn=>⟨n,0,none⟩)
theorem StAt.tch {d:List UInt8->BA} {F:Nat->Prop} {w w':World} {q:Option Nat} {st:Option Tr} {S:Nat->Prop} (h:StAt d F w q st) (k:Tch S w w') (hs:∀j,S j->¬F j):StAt d F w' q st:=by
 cases q <;> cases st <;> first | exact h | exact Je.tch h k hs
theorem StAt.next {d:List UInt8->BA} {F:Nat->Prop} {w w':World} {q:Option Nat} {st:Option Tr} (h:StAt d F w q st) (k:Tch NoB w w'):StAt d F w' q st:=h.tch k noE
theorem StAt.mono {d:List UInt8->BA} {F F':Nat->Prop} {w:World} {q:Option Nat} {st:Option Tr} (h:StAt d F w q st) (hF:∀j,F j->F' j):StAt d F' w q st:=by
 cases q <;> cases st <;> first | exact h | exact Je.mono h hF
def StOk (wd:Nat):Option Tr->Prop
 | none=>True
 | some t=>TrOk wd t
abbrev Jc2 (wd:Nat) (F:Nat->Prop) (r:Option Tr) (W:World) (e:Ending) (w':World):Prop:=∃q,e=.returned (.tuple #[Jh q,.nilIface])/\StAt (dgW wd) F w' q r/\Tch NoB W w'
theorem StAt.of_some {d:List UInt8->BA} {F:Nat->Prop} {w:World} {q:Option Nat} {t:Tr} (h:StAt d F w q (some t)):∃m,q=Option.some m/\Je d F w m t:=by
 cases q with
 | none=>exact h.elim
 | some m=>exact ⟨m,rfl,h⟩
theorem StAt.of_none {d:List UInt8->BA} {F:Nat->Prop} {w:World} {q:Option Nat} (h:StAt d F w q Option.none):q=Option.none:=by
 cases q with
 | none=>rfl
 | some m=>exact h.elim
theorem Jgy (wd:Nat) (F:Nat->Prop) (rv:Option Addr) (k:Key) (n:Nat) (w:World) (k':Key) (o':Nat×Nat) (hn:Je (dgW wd) F w n (.leaf k' o')):
  Calls prog 339 #[.agg #[.int .i64 (wd:Int),.pointer rv],.pointer (some ⟨n,0,none⟩),.string ⟨k.toArray⟩] w λe w'=>Jc2 wd F none w e w':=by
 have HIL:Hid (∀W,Tch NoB w W->Calls prog 224 #[.pointer (some ⟨n,0,none⟩)] W λe w'=>e=.returned (.bool true)/\w'=W):=λW hT=>by
  obtain ⟨_,hr⟩:=hn.a
  exact JaN n _ k' o' W ((hT.block n (Jb hr) (λh=>h)).trans hr)
 clear hn
 generalize (⟨k.toArray⟩:BA)=kb at *
 go_enter func339,ntmps339
 go_wp2_with fail
 refine (HIL.o _ (Ta _ _ _)).mono ?_
 rintro _ _ ⟨rfl,rfl⟩
 go_wp2
 go_ret2
 exact ⟨none,rfl,trivial,Ta _ _ _⟩
theorem Jgx (wd:Nat) (F:Nat->Prop) (rv:Option Addr) (k:Key) (hkl:k.length=wd+1) (hw:wd<=32) (b:Nat) (hb:b<8 * (wd+1)) (n nl nr:Nat) (w:World) (d:BA) (hrow:w.heap[n]? =some (.cells (brC d b nl nr) 243)) (v nc no:Nat) (hv:(v=0/\nl=nc/\nr=no)\/(v=1/\nl=no/\nr=nc)) (hbt:bt k b=v) (st res:Option Tr)
  (ih:∀W,Tch NoB w W->Calls prog 339 #[.agg #[.int .i64 (wd:Int),.pointer rv],.pointer (some ⟨nc,0,none⟩),.string ⟨k.toArray⟩] W λe w'=>Jc2 wd F st W e w')
  (hN:st=none->∀W,Tch NoB w W->StAt (dgW wd) F W (some no) res)
  (hS:∀s,st=some s->∀(m:Nat) W,Tch NoB w W->Je (dgW wd) F W m s->Calls prog 332 #[.int .i64 (wd:Int),.int .i64 (b:Int),if v=0 then .agg #[.pointer (some ⟨m,0,none⟩),.pointer (some ⟨no,0,none⟩)] else .agg #[.pointer (some ⟨no,0,none⟩),.pointer (some ⟨m,0,none⟩)]] W λe w'=>∃q,e=.returned (.tuple #[.pointer (some ⟨q,0,none⟩),.nilIface])/\StAt (dgW wd) F w' (some q) res/\Tch NoB W w'):
  Calls prog 339 #[.agg #[.int .i64 (wd:Int),.pointer rv],.pointer (some ⟨n,0,none⟩),.string ⟨k.toArray⟩] w λe w'=>Jc2 wd F res w e w':=by
 have hnt:=(Jb hrow)
 obtain ⟨-, -, -, -,c4,c5,c6⟩:=rows hrow
 have HBIT:Hid (∀W,Calls prog 288 #[.string ⟨k.toArray⟩,.int .i64 (b:Int)] W λe w'=>e=.returned (.int .i64 (v:Int))/\W=w'):=λW=>by
  have:=Yo k b (by omega) (by omega) W
  rw [hbt] at this
  exact this.mono λe w' h=>⟨h.1,h.2.symm⟩
 have HIL:Hid (∀W,Tch NoB w W->_):=λW hT=>Jaw n _ b nl nr W ((hT.block n hnt (λh=>h)).trans hrow)
 have HREC:Hid _:=ih
 have HPW:Hid (∀(m:Nat) W,_):=λm W=>YO (some ⟨no,0,none⟩) (some ⟨m,0,none⟩) v W
 have HN:Hid _:=hN
 have HS:Hid _:=hS
 generalize (⟨k.toArray⟩:BA)=kb at *
 have hA0:Tch NoB w (w.alloc (.cells #[.int .i64 (wd:Int),.pointer rv] 146)):=Ta _ _ _
 obtain ⟨wA,(HWA:Hid _)⟩:∃wA,wA=w.alloc (.cells #[.int .i64 (wd:Int),.pointer rv] 146):=⟨_,rfl⟩
 rw [<-HWA] at hA0
 have hrA:wA.heap[w.heap.size]? =some (.cells #[.int .i64 (wd:Int),.pointer rv] 146):=by rw [HWA];exact Qf _ _
 have hzA:=(Jb hrA)
 have HCL:Hid (∀W,Tch NoB wA W->(W.cell? ⟨w.heap.size,0,none⟩=some (.int .i64 (wd:Int))/\W.cell? ⟨w.heap.size,1,none⟩=some (.pointer rv)/\W.cell? ⟨n,4,none⟩=some (.int .i64 (b:Int))/\W.cell? ⟨n,5,none⟩=some (.pointer (some ⟨nl,0,none⟩))/\W.cell? ⟨n,6,none⟩=some (.pointer (some ⟨nr,0,none⟩)))/\Tch NoB w W):=λW hT=>by
  have h1:=(hT.block _ hzA (λh=>h)).trans hrA
  have h2:=hA0.trans hT noE
  have h3:=(h2.block n hnt (λh=>h)).trans hrow
  exact ⟨⟨Ja h1,Ja h1,Ja h3,Ja h3,Ja h3⟩,h2⟩
 have HTW:Hid (∀q,_):=λq=>(HCL _ (Td _ wA q)).2
 have hz0:IntKind.i64.wrap 0=0:=by decide
 have hz1:IntKind.i64.wrap 1=1:=by decide
 clear hA0 hrA hrow
 rcases hv with ⟨rfl,rfl,rfl⟩ | ⟨rfl,rfl,rfl⟩
 all_goals
  simp only [if_true,Nat.succ_ne_self,if_false,Int.natCast_zero,Int.natCast_one] at HPW HS HBIT
  go_enter func339,ntmps339
  go_wp2_with fail
  refine (HIL _ (Ta _ _ _)).mono ?_
  rintro _ _ ⟨rfl,rfl⟩
  rw [<-HWA.o]
  obtain ⟨⟨a0,a1,a3,a4,a5⟩,_⟩:=HCL wA (Te _ _)
  go_wp2_with fail
  refine (HBIT _).mono ?_
  rintro _ _ ⟨rfl,rfl⟩
  go_wp2_with fail
  cases st
  all_goals
   go_region_held3 (λW=>W.cell? ⟨w.heap.size,0,none⟩=some (.int .i64 (wd:Int))/\W.cell? ⟨w.heap.size,1,none⟩=some (.pointer rv)/\W.cell? ⟨n,5,none⟩=some (.pointer (some ⟨nl,0,none⟩))/\W.cell? ⟨n,6,none⟩=some (.pointer (some ⟨nr,0,none⟩))) (go_keep) ((go_at_call 339;refine (HREC _ (HTW 1)).mono ?_;rintro _ w2 ⟨q,rfl,hq,ht2⟩;have hT2:=(Td NoB wA 1).trans ht2 noE;obtain ⟨⟨b0,b1,b3,b4,b5⟩,(HW2:Hid _)⟩:=HCL w2 hT2;(first | (obtain ⟨m,rfl,(HM:Hid _)⟩:=hq.of_some) | (obtain rfl:=hq.of_none));have HT2:Hid _:=hT2;clear ht2 hT2))
  ·go_wp2
   go_ret2
   exact ⟨some _,rfl,HN (by trivial) _ HW2,HW2⟩
  ·have HTW:Hid (∀q,_):=λq=>HT2.trans (Td NoB w2 q) noE
   go_wp2_with fail
   go_region_held3 (λW=>W.cell? ⟨w.heap.size,0,none⟩=some (.int .i64 (wd:Int))/\W.cell? ⟨n,4,none⟩=some (.int .i64 (b:Int))) (go_keep) ((first | (go_at_call 333;refine (HPW m _).mono ?_;rintro _ w3 ⟨rfl,ht3⟩;have hT3:=(HTW 1).trans ht3 noE;obtain ⟨⟨d0,d1,d3,d4,d5⟩,(HW3:Hid _)⟩:=HCL w3 hT3;have HM3:Hid _:=(HM.next (Td NoB w2 1)).next ht3;have HT3:Hid _:=hT3;clear ht3 hT3) | (go_at_call 332;refine (HS _ rfl m _ HW3 HM3).mono ?_;rintro _ w4 ⟨q,rfl,(HQ:Hid _),ht4⟩;have hT4:=HT3.trans ht4 noE;obtain ⟨⟨f0,f1,f3,f4,f5⟩,(HW4:Hid _)⟩:=HCL w4 hT4;clear ht4 hT4)))
   all_goals
    go_wp2
    go_ret2
    exact ⟨some q,rfl,HQ,HW4⟩
theorem JhJ (E:Nat->Addr) (wd:Nat) (hw1:1<=wd) (hw:wd<=32) (F:Nat->Prop) (rv:Option Addr) (k:Key) (hkl:k.length=wd+1):∀(t:Tr) (n:Nat) (w:World),TrOk wd t->Env E w->(∀j,w.heap.size<=j->F j)->Je (dgW wd) F w n t->
  Calls prog 339 #[.agg #[.int .i64 (wd:Int),.pointer rv],.pointer (some ⟨n,0,none⟩),.string ⟨k.toArray⟩] w λe w'=>Jc2 wd F (t.cut k) w e w':=by
 intro t
 induction t using Tr.ri with
 | leaf k' o'=>
  intro n w _ _ _ hn
  exact Jgy wd F rv k n w k' o' hn
 | br b l r ihl ihr=>
  intro n w hok hE hF hn
  obtain ⟨hb,hokl,hokr⟩:=hok
  obtain ⟨nl,nr,hFn,hr,hnl,hnr⟩:=hn.bri
  have il:∀W,Tch NoB w W->_:=λW (hT:Tch NoB w W)=>ihl nl W hokl (hE.tch hT noE) (λj hj=>hF j (Qm hT.size hj)) (hnl.next hT)
  have ir:∀W,Tch NoB w W->_:=λW (hT:Tch NoB w W)=>ihr nr W hokr (hE.tch hT noE) (λj hj=>hF j (Qm hT.size hj)) (hnr.next hT)
  have nb:∀(a c:Tr) (x y:Nat) W,Tch NoB w W->Je (dgW wd) F W x a->Je (dgW wd) F W y c->Calls prog 332 #[.int .i64 (wd:Int),.int .i64 (b:Int),.agg #[.pointer (some ⟨x,0,none⟩),.pointer (some ⟨y,0,none⟩)]] W λe w'=>∃q,e=.returned (.tuple #[.pointer (some ⟨q,0,none⟩),.nilIface])/\StAt (dgW wd) F w' (some q) (some (.br b a c))/\Tch NoB W w':=λa c x y W hT hx hy=>by
   refine (XV E wd hw1 hw b x y a c F hb W (hE.tch hT noE) hx hy).mono ?_
   rintro e w' ⟨q,rfl,h1,h2,h3⟩
   exact ⟨q,rfl,.br q b x y a c (hF q (Qm hT.size h1)) h2 (hx.next h3) (hy.next h3),h3⟩
  simp only [Tr.cut]
  by_cases h0:bt k b=0
  ·rw [if_pos h0]
   refine Jgx wd F rv k hkl hw b hb n nl nr w _ hr 0 nl nr (.inl ⟨rfl,rfl,rfl⟩) h0 _ _ il (λh W hT=>?_) (λs h m W hT hm=>?_)
   ·rw [h];exact hnr.next hT
   ·rw [h];exact nb s r m nr W hT hm (hnr.next hT)
  ·have h1:bt k b=1:=by have:=Zd k b;omega
   rw [if_neg h0]
   refine Jgx wd F rv k hkl hw b hb n nl nr w _ hr 1 nr nl (.inr ⟨rfl,rfl,rfl⟩) h1 _ _ ir (λh W hT=>?_) (λs h m W hT hm=>?_)
   ·rw [h];exact hnl.next hT
   ·rw [h];exact nb l s nl m W hT (hnl.next hT) hm
open Go.RowKit Go.Shelf

attribute [local go_sem] Oper.semAt_some

theorem JdS (n:Nat) (dg:BA) (k':Key) (o:Nat×Nat) (k:Key) (hk:1<=k.length) (hk2:k.length<=1000000) (w:World) (h:w.heap[n]? =some (.cells (YV dg k' o) 243)):
  Calls prog 296 #[.pointer (some ⟨n,0,none⟩),.string ⟨k.toArray⟩] w λe w'=>e=.returned (.pointer none)/\∃m,w'=w.drewN m:=by
 obtain ⟨-, -, -, -,c4,c5,c6⟩:=rows h
 have HB:Hid (∀W,_):=λW=>Yo k 0 (by omega) hk2 W
 have hb:=Zd k 0
 generalize (⟨k.toArray⟩:BA)=kb at *
 generalize bt k 0=a at *
 obtain rfl | rfl:a=0\/a=1:=by omega
 all_goals
  go_enter func296,ntmps296
  go_wp2
  go_region_with (go_at_call 288;refine (HB _).mono ?_;rintro _ _ ⟨rfl,rfl⟩)
  all_goals go_wp2
  all_goals go_ret
  all_goals exact ⟨rfl,1,rfl⟩
theorem Jf1 (n:Nat) (dg:BA) (b nl nr:Nat) (k:Key) (hk:b<8 * k.length) (hk2:k.length<=1000000) (w:World) (h:w.heap[n]? =some (.cells (brC dg b nl nr) 243)):
  Calls prog 296 #[.pointer (some ⟨n,0,none⟩),.string ⟨k.toArray⟩] w λe w'=>e=.returned (.pointer (some ⟨if bt k b=0 then nl else nr,0,none⟩))/\∃m,w'=w.drewN m:=by
 obtain ⟨-, -, -, -,c4,c5,c6⟩:=rows h
 have HB:Hid (∀W,_):=λW=>Yo k b hk hk2 W
 have hb:=Zd k b
 generalize (⟨k.toArray⟩:BA)=kb at *
 generalize bt k b=a at *
 obtain rfl | rfl:a=0\/a=1:=by omega
 ·rw [if_pos rfl]
  go_enter func296,ntmps296
  go_wp2
  go_region_with (go_at_call 288;refine (HB _).mono ?_;rintro _ _ ⟨rfl,rfl⟩)
  all_goals go_wp2
  all_goals go_ret
  all_goals exact ⟨rfl,1,rfl⟩
 ·rw [if_neg (by decide)]
  go_enter func296,ntmps296
  go_wp2
  go_region_with (go_at_call 288;refine (HB _).mono ?_;rintro _ _ ⟨rfl,rfl⟩)
  all_goals go_wp2
  all_goals go_ret
  all_goals exact ⟨rfl,1,rfl⟩
