import Derived.Test.YtighkdnooglfjaaGreatDoorLcTree5
import Derived.RangeFuncNested
import Derived.RangeFuncBound
import Derived.Test.YtighkdnooglfjaaGreatDoorLcIs
namespace Go.Proofs.YtighkdnooglfjaaGreatDoor
open Tryz
set_option maxRecDepth 100000
set_option maxHeartbeats 2000000
open Go.RowKit

variable {c:BA×Int}{k:Key}{d:List UInt8->BA}{n n₀ wj:Nat}{F S:Nat->Prop}{o:Nat×Nat}{q:Option Nat}{W w w':World}
def StAt(d:List UInt8->BA)(F:Nat->Prop)(w:World):Option Nat->Option Tr->Prop
 | none,none=>True
 | some n,some t=>Jg d F w n t
 | _,_=>False
abbrev Jh(q:Option Nat):Value:=.pointer (q.map λn=>⟨n,0,none⟩)
theorem StAt.tch{st:Option Tr}(h:StAt d F w q st)(k:Tch S w w')(hs:∀j,S j->¬F j):StAt d F w' q st:=by
 cases q<;>cases st<;>first|exact h|exact Jg.tch h k hs
theorem StAt.next{st:Option Tr}(h:StAt d F w q st)(k:Tch NoB w w'):StAt d F w' q st:=h.tch k noE
theorem StAt.mono{F':Nat->Prop}{st:Option Tr}(h:StAt d F w q st)(hF:∀j,F j->F' j):StAt d F' w q st:=by
 cases q<;>cases st<;>first|exact h|exact Jg.mono h hF
def StOk(wj:Nat):Option Tr->Prop
 | none=>True
 | some t=>TrOk wj t
abbrev JfF(wj:Nat)(F:Nat->Prop)(r:Option Tr)(W:World)(e:Ending)(w':World):Prop:=∃q,e=.returned (.tuple #[Jh q,.nilIface])/\StAt (dgW wj) F w' q r/\Tch NoB W w'
theorem StAt.of_some{t:Tr}(h:StAt d F w q (some t)):∃m,q=Option.some m/\Jg d F w m t:=by
 cases q with
 | none=>exact h.elim
 | some m=>exact⟨m,rfl,h⟩
theorem StAt.of_none(h:StAt d F w q Option.none):q=Option.none:=by
 cases q with
 | none=>rfl
 | some m=>exact h.elim
theorem JkM(wj:Nat)(F:Nat->Prop)(rv:Option Addr)(k:Key)(n:Nat)(w:World)(k':Key)(o':Nat×Nat)(hn:Jg (dgW wj) F w n (.leaf k' o')):
  Calls prog 339 #[.agg #[.int .i64 (wj:Int),.pointer rv],.pointer (some ⟨n,0,none⟩),.string ⟨k.toArray⟩] w λe w'=>JfF wj F none w e w':=by
 have HIL:Hid (∀W,Tch NoB w W->Calls prog 224 #[.pointer (some ⟨n,0,none⟩)] W λe w'=>e=.returned (.bool true)/\w'=W):=λW hT=>by
  obtain⟨_,hr⟩:=hn.a;exact Jax n _ k' o' W ((hT.block n (Jb hr) (λh=>h)).trans hr)
 clear hn;generalize (⟨k.toArray⟩:BA)=kb at *;go_enter func339,ntmps339;go_wp2_with fail;refine(HIL.o _ (Ta _ _ _)).mono ?_;rintro _ _⟨rfl,rfl⟩;go_wp2;go_ret2;exact⟨none,rfl,trivial,Ta _ _ _⟩
theorem JkL(wj:Nat)(F:Nat->Prop)(rv:Option Addr)(k:Key)(hkl:k.length=wj+1)(hw:wj<=32)(b:Nat)(hb:b<8*(wj+1))(n nl nr:Nat)(w:World)(d:BA)(hrow:w.heap[n]? =some (.cells (brC d b nl nr) 243))(v nc no:Nat)(hv:(v=0/\nl=nc/\nr=no)\/(v=1/\nl=no/\nr=nc))(hbt:bt k b=v)(st res:Option Tr)
 (ih:∀W,Tch NoB w W->Calls prog 339 #[.agg #[.int .i64 (wj:Int),.pointer rv],.pointer (some ⟨nc,0,none⟩),.string ⟨k.toArray⟩] W λe w'=>JfF wj F st W e w')
 (hN:st=none->∀W,Tch NoB w W->StAt (dgW wj) F W (some no) res)
 (hS:∀s,st=some s->∀(m:Nat) W,Tch NoB w W->Jg (dgW wj) F W m s->Calls prog 332 #[.int .i64 (wj:Int),.int .i64 (b:Int),if v=0 then .agg #[.pointer (some ⟨m,0,none⟩),.pointer (some ⟨no,0,none⟩)] else .agg #[.pointer (some ⟨no,0,none⟩),.pointer (some ⟨m,0,none⟩)]] W λe w'=>∃q,e=.returned (.tuple #[.pointer (some ⟨q,0,none⟩),.nilIface])/\StAt (dgW wj) F w' (some q) res/\Tch NoB W w'):
  Calls prog 339 #[.agg #[.int .i64 (wj:Int),.pointer rv],.pointer (some ⟨n,0,none⟩),.string ⟨k.toArray⟩] w λe w'=>JfF wj F res w e w':=by
 have hnt:=(Jb hrow)
 obtain⟨-, -, -, -,c4,c5,c6⟩:=rows hrow;have HBIT:Hid (∀W,Calls prog 288 #[.string ⟨k.toArray⟩,.int .i64 (b:Int)] W λe w'=>e=.returned (.int .i64 (v:Int))/\W=w'):=λW=>by
  have:=Zq k b (by omega) (by omega) W;rw[hbt]at this;exact this.mono λe w' h=>⟨h.1,h.2.symm⟩
 have HIL:Hid (∀W,Tch NoB w W->_):=λW hT=>JaN n _ b nl nr W ((hT.block n hnt (λh=>h)).trans hrow);have HREC:Hid _:=ih;have HPW:Hid (∀(m:Nat) W,_):=λm W=>Jah (some ⟨no,0,none⟩) (some ⟨m,0,none⟩) v W;have HN:Hid _:=hN;have HS:Hid _:=hS;generalize (⟨k.toArray⟩:BA)=kb at *;have hA0:Tch NoB w (w.alloc (.cells #[.int .i64 (wj:Int),.pointer rv] 146)):=Ta _ _ _;obtain⟨wA,(HWA:Hid _)⟩:∃wA,wA=w.alloc (.cells #[.int .i64 (wj:Int),.pointer rv] 146):=⟨_,rfl⟩
 rw[<-HWA]at hA0;have hrA:wA.heap[w.heap.size]? =some (.cells #[.int .i64 (wj:Int),.pointer rv] 146):=by rw[HWA];exact Qf _ _
 have hzA:=(Jb hrA)
 have HCL:Hid (∀W,Tch NoB wA W->(W.cell? ⟨w.heap.size,0,none⟩=some (.int .i64 (wj:Int))/\W.cell? ⟨w.heap.size,1,none⟩=some (.pointer rv)/\W.cell? ⟨n,4,none⟩=some (.int .i64 (b:Int))/\W.cell? ⟨n,5,none⟩=some (.pointer (some ⟨nl,0,none⟩))/\W.cell? ⟨n,6,none⟩=some (.pointer (some ⟨nr,0,none⟩)))/\Tch NoB w W):=λW hT=>by
  have h1:=(hT.block _ hzA (λh=>h)).trans hrA;have h2:=hA0.trans hT noE;have h3:=(h2.block n hnt (λh=>h)).trans hrow;exact⟨⟨Ja h1,Ja h1,Ja h3,Ja h3,Ja h3⟩,h2⟩
 have HTW:Hid (∀q,_):=λq=>(HCL _ (Td _ wA q)).2;have hz0:IntKind.i64.wrap 0=0:=by decide
 have hz1:IntKind.i64.wrap 1=1:=by decide
 clear hA0 hrA hrow
 rcases hv with⟨rfl,rfl,rfl⟩|⟨rfl,rfl,rfl⟩
 all_goals
  simp only[if_true,Nat.succ_ne_self,if_false,Int.natCast_zero,Int.natCast_one]at HPW HS HBIT;go_enter func339,ntmps339;go_wp2_with fail;refine(HIL _ (Ta _ _ _)).mono ?_;rintro _ _⟨rfl,rfl⟩;rw[<-HWA.o];obtain⟨⟨a0,a1,a3,a4,a5⟩,_⟩:=HCL wA (Te _ _);go_wp2_with fail;refine(HBIT _).mono ?_;rintro _ _⟨rfl,rfl⟩;go_wp2_with fail
  cases st
  all_goals go_region_held3 (λW=>W.cell? ⟨w.heap.size,0,none⟩=some (.int .i64 (wj:Int))/\W.cell? ⟨w.heap.size,1,none⟩=some (.pointer rv)/\W.cell? ⟨n,5,none⟩=some (.pointer (some ⟨nl,0,none⟩))/\W.cell? ⟨n,6,none⟩=some (.pointer (some ⟨nr,0,none⟩))) (go_keep) ((go_at_call 339;refine(HREC _ (HTW 1)).mono ?_;rintro _ w2⟨q,rfl,hq,ht2⟩;have hT2:=(Td NoB wA 1).trans ht2 noE;obtain⟨⟨b0,b1,b3,b4,b5⟩,(HW2:Hid _)⟩:=HCL w2 hT2;(first|(obtain⟨m,rfl,(HM:Hid _)⟩:=hq.of_some)|(obtain rfl:=hq.of_none));have HT2:Hid _:=hT2;clear ht2 hT2))
  ·go_wp2;go_ret2;exact⟨some _,rfl,HN (by trivial) _ HW2,HW2⟩
  ·have HTW:Hid (∀q,_):=λq=>HT2.trans (Td NoB w2 q) noE;go_wp2_with fail;go_region_held3 (λW=>W.cell? ⟨w.heap.size,0,none⟩=some (.int .i64 (wj:Int))/\W.cell? ⟨n,4,none⟩=some (.int .i64 (b:Int))) (go_keep) ((first|(go_at_call 333;refine(HPW m _).mono ?_;rintro _ w3⟨rfl,ht3⟩;have hT3:=(HTW 1).trans ht3 noE;obtain⟨⟨d0,d1,d3,d4,d5⟩,(HW3:Hid _)⟩:=HCL w3 hT3;have HM3:Hid _:=(HM.next (Td NoB w2 1)).next ht3;have HT3:Hid _:=hT3;clear ht3 hT3)|(go_at_call 332;refine(HS _ rfl m _ HW3 HM3).mono ?_;rintro _ w4⟨q,rfl,(HQ:Hid _),ht4⟩;have hT4:=HT3.trans ht4 noE;obtain⟨⟨f0,f1,f3,f4,f5⟩,(HW4:Hid _)⟩:=HCL w4 hT4;clear ht4 hT4)))
   all_goals go_wp2;go_ret2;exact⟨some q,rfl,HQ,HW4⟩
theorem Jmb(E:Nat->Addr)(wj:Nat)(hw1:1<=wj)(hw:wj<=32)(F:Nat->Prop)(rv:Option Addr)(k:Key)(hkl:k.length=wj+1):∀(t:Tr)(n:Nat)(w:World),TrOk wj t->Env E w->(∀j,w.heap.size<=j->F j)->Jg (dgW wj) F w n t->
  Calls prog 339 #[.agg #[.int .i64 (wj:Int),.pointer rv],.pointer (some ⟨n,0,none⟩),.string ⟨k.toArray⟩] w λe w'=>JfF wj F (t.cut k) w e w':=by
 intro t
 induction t using Tr.ri with
 | leaf k' o'=>
  intro n w _ _ _ hn;exact JkM wj F rv k n w k' o' hn
 | br b l r ihl ihr=>
  intro n w hok hE hF hn;obtain⟨hb,hokl,hokr⟩:=hok;obtain⟨nl,nr,hFn,hr,hnl,hnr⟩:=hn.bri;have il:∀W,Tch NoB w W->_:=λW (hT:Tch NoB w W)=>ihl nl W hokl (hE.tch hT noE) (λj hj=>hF j (Qm hT.size hj)) (hnl.next hT);have ir:∀W,Tch NoB w W->_:=λW (hT:Tch NoB w W)=>ihr nr W hokr (hE.tch hT noE) (λj hj=>hF j (Qm hT.size hj)) (hnr.next hT);have nb:∀(a c:Tr)(x y:Nat) W,Tch NoB w W->Jg (dgW wj) F W x a->Jg (dgW wj) F W y c->Calls prog 332 #[.int .i64 (wj:Int),.int .i64 (b:Int),.agg #[.pointer (some ⟨x,0,none⟩),.pointer (some ⟨y,0,none⟩)]] W λe w'=>∃q,e=.returned (.tuple #[.pointer (some ⟨q,0,none⟩),.nilIface])/\StAt (dgW wj) F w' (some q) (some (.br b a c))/\Tch NoB W w':=λa c x y W hT hx hy=>by
   refine(YO E wj hw1 hw b x y a c F hb W (hE.tch hT noE) hx hy).mono ?_;rintro e w'⟨q,rfl,h1,h2,h3⟩;exact⟨q,rfl,.br q b x y a c (hF q (Qm hT.size h1)) h2 (hx.next h3) (hy.next h3),h3⟩
  simp only[Tr.cut]
  by_cases h0:bt k b=0
  ·rw[if_pos h0];refine JkL wj F rv k hkl hw b hb n nl nr w _ hr 0 nl nr (.inl ⟨rfl,rfl,rfl⟩) h0 _ _ il (λh W hT=>?_) (λs h m W hT hm=>?_)
   ·rw[h];exact hnr.next hT
   ·rw[h];exact nb s r m nr W hT hm (hnr.next hT)
  ·have h1:bt k b=1:=(by have:=Yf k b;omega);rw[if_neg h0];refine JkL wj F rv k hkl hw b hb n nl nr w _ hr 1 nr nl (.inr ⟨rfl,rfl,rfl⟩) h1 _ _ ir (λh W hT=>?_) (λs h m W hT hm=>?_)
   ·rw[h];exact hnl.next hT
   ·rw[h];exact nb l s nl m W hT (hnl.next hT) hm
open Go.RowKit Go.Shelf

attribute [local go_sem] Oper.semAt_some

theorem Jg2(n:Nat)(dg:BA)(k':Key)(o:Nat×Nat)(k:Key)(hk:1<=k.length)(hk2:k.length<=1000000)(w:World)(h:w.heap[n]? =some (.cells (YI dg k' o) 243)):
  Calls prog 296 #[.pointer (some ⟨n,0,none⟩),.string ⟨k.toArray⟩] w λe w'=>e=.returned (.pointer none)/\∃m,w'=w.drewN m:=by
 obtain⟨-, -, -, -,c4,c5,c6⟩:=rows h;have HB:Hid (∀W,_):=λW=>Zq k 0 (by omega) hk2 W;have hb:=Yf k 0;generalize (⟨k.toArray⟩:BA)=kb at *;generalize bt k 0=a at *;obtain rfl|rfl:a=0\/a=1:=by omega
 all_goals
  go_enter func296,ntmps296;go_wp2;go_region_with (go_at_call 288;refine(HB _).mono ?_;rintro _ _⟨rfl,rfl⟩)
  all_goals go_wp2
  all_goals go_ret
  all_goals exact⟨rfl,1,rfl⟩
theorem Jj3(n:Nat)(dg:BA)(b nl nr:Nat)(k:Key)(hk:b<8*k.length)(hk2:k.length<=1000000)(w:World)(h:w.heap[n]? =some (.cells (brC dg b nl nr) 243)):
  Calls prog 296 #[.pointer (some ⟨n,0,none⟩),.string ⟨k.toArray⟩] w λe w'=>e=.returned (.pointer (some ⟨if bt k b=0 then nl else nr,0,none⟩))/\∃m,w'=w.drewN m:=by
 obtain⟨-, -, -, -,c4,c5,c6⟩:=rows h;have HB:Hid (∀W,_):=λW=>Zq k b hk hk2 W;have hb:=Yf k b;generalize (⟨k.toArray⟩:BA)=kb at *;generalize bt k b=a at *;obtain rfl|rfl:a=0\/a=1:=by omega
 ·rw[if_pos rfl];go_enter func296,ntmps296;go_wp2;go_region_with (go_at_call 288;refine(HB _).mono ?_;rintro _ _⟨rfl,rfl⟩)
  all_goals go_wp2
  all_goals go_ret
  all_goals exact⟨rfl,1,rfl⟩
 ·rw[if_neg (by decide)];go_enter func296,ntmps296;go_wp2;go_region_with (go_at_call 288;refine(HB _).mono ?_;rintro _ _⟨rfl,rfl⟩)
  all_goals go_wp2
  all_goals go_ret
  all_goals exact⟨rfl,1,rfl⟩

attribute [local go_sem] Oper.semAt_some

def Way(n₀:Nat)(k:Key)(W:World):Option Nat->List Nat->Prop
 | q,[]=>q=none
 | q,x::xs=>q=some x/\x<n₀/\((∃dg k' o,W.heap[x]? =some (.cells (YI dg k' o) 243)/\xs=[])\/(∃dg b nl nr,W.heap[x]? =some (.cells (brC dg b nl nr) 243)/\b<8*k.length/\Way n₀ k W (some (if bt k b=0 then nl else nr)) xs))
theorem Way.below{A B:World}(h:Below n₀ A B):∀{q:Option Nat} {xs:List Nat},Way n₀ k A q xs->Way n₀ k B q xs
 | _,[],hl=>hl
 | _,x::xs,⟨h1,h2,h3⟩=>⟨h1,h2,by
   rcases h3 with⟨dg,k',o,hr,he⟩|⟨dg,b,nl,nr,hr,hb,hw⟩
   ·exact .inl ⟨dg,k',o,(h.block x h2).trans hr,he⟩
   ·exact .inr ⟨dg,b,nl,nr,(h.block x h2).trans hr,hb,Way.below h hw⟩⟩
theorem JeD{x:Nat}{dg dg':BA}{k':Key}{b nl nr:Nat}(h:W.heap[x]? =some (.cells (YI dg k' o) 243))(h':W.heap[x]? =some (.cells (brC dg' b nl nr) 243)):False:=by
 rw[h]at h';simp[YI,brC]at h'
theorem Way.unique:∀{q:Option Nat} {xs ys:List Nat},Way n₀ k W q xs->Way n₀ k W q ys->xs=ys
 | _,[],[],_,_=>rfl
 | _,[],_::_,h,⟨h',_⟩=>by rw[h]at h';cases h'
 | _,_::_,[],⟨h',_⟩,h=>by rw[h]at h';cases h'
 | _,x::xs,y::ys,⟨h1,_,h3⟩,⟨k1,_,k3⟩=>by
  rw[h1]at k1
  cases k1
  rcases h3 with⟨dg,k',o,hr,rfl⟩|⟨dg,b,nl,nr,hr,hb,hw⟩
  ·rcases k3 with⟨_,_,_,_,rfl⟩|⟨_,_,_,_,hr',_⟩
   ·rfl
   ·exact(JeD hr hr').elim
  ·rcases k3 with⟨_,_,_,hr',_⟩|⟨dg',b',nl',nr',hr',_,hw'⟩
   ·exact(JeD hr' hr).elim
   ·rw[hr]at hr';simp only[brC,Qh,Obj.cells.injEq,and_true]at hr';have e4:=congrArg (λa=>a[4]?) hr';have e5:=congrArg (λa=>a[5]?) hr';have e6:=congrArg (λa=>a[6]?) hr';simp at e4 e5 e6;obtain rfl:b=b':=(by omega);subst e5 e6;rw[Way.unique hw hw']
theorem JjK{q':Option Nat}(h:Jh q=Jh q'):q=q':=by
 cases q<;>cases q'<;>simp[Jh]at h ⊢
 exact h
theorem Jm2(n₀:Nat)(k:Key):∃f:World->Value->Nat,∀W q xs,Way n₀ k W q xs->f W (Jh q)=xs.length:=by
 classical
 refine⟨λW v=>if h:∃r:Option Nat×List Nat,v=Jh r.1/\Way n₀ k W r.1 r.2 then (Classical.choose h).2.length else 0,λW q xs h=>?_⟩;have hex:∃r:Option Nat×List Nat,Jh q=Jh r.1/\Way n₀ k W r.1 r.2:=⟨(q,xs),rfl,h⟩
 simp only;rw[dif_pos hex];obtain⟨e,hl⟩:=Classical.choose_spec hex;rw[<-JjK e]at hl;rw[Way.unique hl h]
theorem Jg.way{t:Tr}(hk:k.length=wj+1)(h:Jg d F w n t)(hok:TrOk wj t):∃xs m,Way w.heap.size k w (some n) xs/\xs.getLast? =some m/\Jg d F w m (.leaf (t.near k).1 (t.near k).2):=by
 induction h using Jg.ri with
 | leaf n k' o hF hr=>exact⟨[n],n,⟨rfl,(Jb hr),.inl ⟨_,_,_,hr,rfl⟩⟩,rfl,.leaf n k' o hF hr⟩
 | br n b nl nr l r hF hr hl hr' ihl ihr=>
  obtain⟨hb,hokl,hokr⟩:=hok;simp only[Tr.near]
  by_cases h0:bt k b=0
  ·obtain⟨xs,m,h1,h2,h3⟩:=ihl hokl;refine⟨n::xs,m,⟨rfl,(Jb hr),.inr ⟨_,b,nl,nr,hr,by omega,by rw[if_pos h0];exact h1⟩⟩,?_,by rw[if_pos h0];exact h3⟩
   cases xs with
   | nil=>cases h2
   | cons x xs=>rw[List.getLast?_cons_cons];exact h2
  ·obtain⟨xs,m,h1,h2,h3⟩:=ihr hokr;refine⟨n::xs,m,⟨rfl,(Jb hr),.inr ⟨_,b,nl,nr,hr,by omega,by rw[if_neg h0];exact h1⟩⟩,?_,by rw[if_neg h0];exact h3⟩
   cases xs with
   | nil=>cases h2
   | cons x xs=>rw[List.getLast?_cons_cons];exact h2
theorem Jmc(wj:Int)(rv:Option Addr)(kb:BA)(w:World):
  CallsIn Fence.wide 3 prog 223 #[.agg #[.int .i64 wj,.pointer rv],.string kb] w λe w'=>e=.returned (.func (.func 295) #[] #[.pointer (some ⟨w.heap.size,0,none⟩),.pointer (some ⟨w.heap.size+1,0,none⟩)])/\w'=(w.alloc (.cells #[.int .i64 wj,.pointer rv] 146)).alloc (.cells #[.string kb] 9):=by
 refine callsIn_wide.2 ?_;have hmf:∀(fn:Fn)(first cap:Array Value)(w:World),(Instr.makeFunc fn first cap).run prog w=.ok (.func fn first cap) w:=λ_ _ _ _=>rfl;go_enter func223,ntmps223;go_wp2;go_ret;exact⟨rfl,rfl⟩
def Jm5(n₀ Bk:Nat)(W W':World):Prop:=Below n₀ W W'/\∀v,W.cell? ⟨Bk,0,none⟩=some v->W'.cell? ⟨Bk,0,none⟩=some v
theorem JkO(n:Nat)(hn:2<=n)(l Bt Bk n₀:Nat)(k:Key)(hk1:1<=k.length)(hk2:k.length<=1000000)(q:Option Nat)(xs:List Nat)(J Jx:List Nat->World->Prop)
 (hJ:∀pre W m,J pre W->J pre (W.drewN m))
 (hY:∀pre x W,J pre W->xs[pre.length]? =some x->YieldAt Fence.wide (n-1) prog l #[.pointer (some ⟨x,0,none⟩)] W λe W'=>
 (e=.returned (.bool true)/\J (pre++[x]) W'/\Jm5 n₀ Bk W W')\/(e=.returned (.bool false)/\Jx (pre++[x]) W'))
 (W:World) (hBt:W.cell? ⟨Bt,1,none⟩=some (Jh q)) (hBk:W.cell? ⟨Bk,0,none⟩=some (.string ⟨k.toArray⟩)) (hL:Way n₀ k W q xs) (h0:J [] W):
  CallsIn Fence.wide n prog 295 #[.func (.yield l) #[] #[],.pointer (some ⟨Bt,0,none⟩),.pointer (some ⟨Bk,0,none⟩)] W λe W'=>(∃v,e=.returned v)/\
   ((∃ys,ys=xs/\J ys W')\/(∃pre,pre <+:xs/\Jx pre W')):=by
 obtain⟨fw,(HFW:Hid _)⟩:=Jm2 n₀ k;refine callsIn_of_wp func295 rfl trivial ?_ rfl;simp only[ntmps295,List.size_toArray,Qp,Qv,Nat.reduceAdd,Nat.reduceSub,Array.replicate_succ,Array.replicate_zero,List.push_toArray,List.append_toArray,List.nil_append,List.cons_append];gi_wp2;gi_loopw [4] (λp wr=>∃(pre rest:List Nat)(q:Option Nat),p=Jh q/\xs=pre++rest/\Way n₀ k wr q rest/\wr.cell? ⟨Bk,0,none⟩=some (.string ⟨k.toArray⟩)/\J pre wr)
  (λp wr=>fw wr p)
 case atStart=>exact⟨[],xs,q,rfl,rfl,hL,hBk,h0⟩
 case round=>
  obtain⟨pre,rest,q,rfl,hx,hl,hbk',hJs⟩:=hrel
  cases rest with
  | nil=>
   obtain rfl:q=none:=hl;rw[show Jh none=.pointer none from rfl];gi_wp2;refine⟨λ_ h=>(by cases h),?_⟩;gi_wp2;exact bodyPost_end (v:=.tuple #[]) (results_none results295 _ _ _) rfl ⟨⟨_,rfl⟩,.inl ⟨pre,by simp[hx],hJs⟩⟩
  | cons x rest=>
   have hl':=hl;obtain⟨rfl,hlt,hr⟩:=hl;obtain⟨fn,tmps,assign,body,hy,hR⟩:=hY pre x wr hJs (by rw[hx];simp);rw[show Jh (some x)=.pointer (some ⟨x,0,none⟩) from rfl];gi_wp2;refine⟨λ_=>by omega,hR.mono ?_⟩;clear hR hy hY;rintro e W3 (⟨rfl,hJ3,hk3⟩|⟨rfl,hJx3⟩)
   ·have hb3:W3.cell? ⟨Bk,0,none⟩=some (.string ⟨k.toArray⟩):=hk3.2 _ hbk';have hw3:=Way.below hk3.1 hl';obtain⟨_,_,hr3⟩:=hw3;have hleft:fw wr (Jh (some x))=rest.length+1:=HFW.o _ _ _ hl';have HL':Hid (_=_):=hleft;clear hr hl' hleft;generalize hKB:(⟨k.toArray⟩:BA)=kb at *;have HKB:Hid (_=kb):=hKB;clear hKB
    rcases hr3 with⟨dg,k',o,hrow,rfl⟩|⟨dg,b,nl,nr,hrow,hb8,hw⟩
    ·have ht:=Jg2 x dg k' o k hk1 hk2 W3 hrow;rw[HKB.o]at ht;gi_wp2;refine⟨trivial,λ_=>by omega,(callsIn_wide.2 ht).mono ?_⟩;rintro _ _⟨rfl,m,rfl⟩;gi_wp2;go_roundw
     case rel=>exact⟨pre++[x],[],none,rfl,by simp[hx],rfl,by rw[HKB.o];exact hb3,hJ _ _ m hJ3⟩
     case measure=>rw[show Value.pointer none=Jh none from rfl,HFW.o _ _ [] (show Way n₀ k _ none [] from rfl),show Value.pointer (some ⟨x,0,none⟩)=Jh (some x) from rfl,HL'.out];simp
    ·have ht:=Jj3 x dg b nl nr k hb8 hk2 W3 hrow;rw[HKB.o]at ht;gi_wp2;refine⟨trivial,λ_=>by omega,(callsIn_wide.2 ht).mono ?_⟩;rintro _ _⟨rfl,m,rfl⟩;have hwm:Way n₀ k (W3.drewN m) (some (if bt k b=0 then nl else nr)) rest:=Way.below (A:=W3) (B:=W3.drewN m) ⟨rfl,rfl,rfl,Ql _,λ_ _=>rfl⟩ hw;generalize (if bt k b=0 then nl else nr)=nx at *;gi_wp2;go_roundw
     case rel=>exact⟨pre++[x],rest,some nx,rfl,by simp[hx],hwm,by rw[HKB.o];exact hb3,hJ _ _ m hJ3⟩
     case measure=>rw[show Value.pointer (some ⟨nx,0,none⟩)=Jh (some nx) from rfl,HFW.o _ _ _ hwm,show Value.pointer (some ⟨x,0,none⟩)=Jh (some x) from rfl,HL'.out];omega
   ·gi_wp2;refine bodyPost_end (v:=.tuple #[]) (results_none results295 _ _ _) rfl ?_;exact⟨⟨_,rfl⟩,.inr ⟨pre++[x],⟨rest,by simp[hx]⟩,hJx3⟩⟩
theorem Jf3(n:Nat)(hn:2<=n)(Bt Bk n₀:Nat)(k:Key)(hk1:1<=k.length)(hk2:k.length<=1000000)(q:Option Nat)(xs:List Nat)(w:World)(hBt:Bt<w.heap.size)(hBk:Bk<w.heap.size)(hn₀:n₀<=w.heap.size)(c1:w.cell? ⟨Bt,1,none⟩=some (Jh q))(c2:w.cell? ⟨Bk,0,none⟩=some (.string ⟨k.toArray⟩))(hL:Way n₀ k w q xs):
  SeqStopsK Fence.wide n prog 295 #[.pointer (some ⟨Bt,0,none⟩),.pointer (some ⟨Bk,0,none⟩)] (λx:Nat=> #[Value.pointer (some ⟨x,0,none⟩)]) (Jm5 n₀ Bk) (λys=>ys=xs) (λpre=>pre <+:xs) xs.length w:=λl J Jx W hW hJ _ hY h0=>
 JkO n hn l Bt Bk n₀ k hk1 hk2 q xs J Jx (λpre W' m h=>hJ pre W' (W'.drewN m) none h ⟨rfl,rfl,rfl,Ql _,λ_ _ _=>rfl⟩ (λr e=>by cases e)) (λpre x W hJ hx=>hY pre x W hJ (Qo.1 hx).1) W ((hW.cell (p:=⟨Bt,1,none⟩) hBt).trans c1) ((hW.cell (p:=⟨Bk,0,none⟩) hBk).trans c2) (Way.below (hW.mono hn₀) hL) h0
theorem Jde(wj:Int)(q:Option Nat)(k:Key)(hk1:1<=k.length)(hk2:k.length<=1000000)(xs:List Nat)(w:World)(hL:Way w.heap.size k w q xs):
  CallsIn Fence.wide 4 prog 269 #[.agg #[.int .i64 wj,Jh q],.string ⟨k.toArray⟩] w λe W'=>e=.returned (Jh xs.getLast?)/\Below w.heap.size w W':=by
 have h1:1<=4:=by omega
 have hro:Fence.wide.round=none:=rfl;have HL:Hid (Way w.heap.size k w q xs):=hL;clear hL;obtain⟨rv,hrv⟩:∃rv,rv=(q.map λn=>(⟨n,0,none⟩:Addr)):=⟨_,rfl⟩
 have HRV:Hid (Jh q=.pointer rv):=by rw[hrv];rfl
 rw[HRV.o];clear hrv;refine callsIn_of_wp_marks func269 rfl trivial ?_ hro;simp only[ntmps269,List.size_toArray,Qp,Qv,Nat.reduceAdd,Nat.reduceSub,Array.replicate_succ,Array.replicate_zero,List.push_toArray,List.append_toArray,List.nil_append,List.cons_append];gi_wp2;refine⟨trivial,(Jmc _ _ _ _).mono ?_⟩;rintro _ _⟨rfl,rfl⟩;gi_wp2;obtain⟨WD,hWD⟩:∃WD,WD=(((w.alloc (.cells #[.int .i64 wj,.pointer rv] 146)).alloc (.cells #[.pointer none] 144)).alloc (.cells #[.int .i64 wj,.pointer rv] 146)).alloc (.cells #[.string ⟨k.toArray⟩] 9):=⟨_,rfl⟩
 rw[<-hWD];have hB0:Below w.heap.size w WD:=by rw[hWD];exact((((Below.refl _ w).alloc (Ql _) _).alloc (by simp) _).alloc (by simp;omega) _).alloc (by simp;omega) _
 have hz:WD.heap.size=w.heap.size+4:=by rw[hWD];simp
 have r1:WD.heap[w.heap.size+1]? =some (.cells #[.pointer none] 144):=by rw[hWD];exact(Below.heap_alloc _ _ _ (by simp)).trans (JG _ _ _ _)
 have r2:WD.heap[w.heap.size+2]? =some (.cells #[.int .i64 wj,.pointer rv] 146):=by rw[hWD];exact(Below.heap_alloc _ _ _ (by simp)).trans (JH _ _ _ _)
 have r3:WD.heap[w.heap.size+3]? =some (.cells #[.string ⟨k.toArray⟩] 9):=by rw[hWD];have:=Qf (((w.alloc (.cells #[.int .i64 wj,.pointer rv] 146)).alloc (.cells #[.pointer none] 144)).alloc (.cells #[.int .i64 wj,.pointer rv] 146)) (.cells #[.string ⟨k.toArray⟩] 9);simpa using this
 have hs1:WD.cell? ⟨w.heap.size+1,0,none⟩=some (.pointer none):=Ja r1;have hs2:WD.frozen? ⟨w.heap.size+1,0,none⟩=false:=Qg _ _ _ _ _ r1;refine wpIn_rangeFunc_ownF hro h1 (gf:=295) (lb:= #[.pointer (some ⟨w.heap.size+1+1,0,none⟩),.pointer (some ⟨w.heap.size+1+1+1,0,none⟩)]) rfl trivial (enters_of func295 (by kernel_rfl) rfl)
  (Jf3 3 (by omega) (w.heap.size+1+1) (w.heap.size+1+1+1) w.heap.size k hk1 hk2 q xs WD (by omega) (by omega) (by omega) (by rw[HRV.o];exact Ja r2) (Ja r3) (Way.below hB0 HL.o)) (λh k=>⟨h.1.trans k.1,λv hv=>k.2 v (h.2 v hv)⟩)
  (λW l o o' hl ho hc hw'=>⟨belowK_b (w:=w) (Ql _) W l o o' (by omega) ho hc hw',λv hv=>cell_kept hv (grownBy_putObj' _ l o') (λr e=>by cases e;exact⟨o,ho,hc⟩)⟩) (Below.refl _ _) (λ_=>rfl)
  (λpre W=>(W.cell? ⟨w.heap.size+1,0,none⟩=some (Jh pre.getLast?)/\W.frozen? ⟨w.heap.size+1,0,none⟩=false)/\Below w.heap.size w W)
  (λ_ _ _=>False)
  (OwnFrom.and (Own.from (λs A B row hs hg hr=>⟨cell_kept hs.1 hg hr,(frozen_kept hs.1 hg hr).trans hs.2⟩) _) (ownFrom_below (Ql _) (by omega)))
  (λ_ _ _ _ _ hs _ _=>hs)
  ⟨⟨hs1,hs2⟩,hB0⟩
  (λx=>{ tmps:= #[.agg #[.int .i64 wj,.pointer rv],.string ⟨k.toArray⟩,.pointer (some ⟨w.heap.size,0,none⟩),undef,.pointer none,.pointer (some ⟨w.heap.size+1,0,none⟩),.pointer (some ⟨x,0,none⟩),.agg #[.int .i64 wj,.pointer rv],.string ⟨k.toArray⟩,.func (.func 295) #[] #[.pointer (some ⟨w.heap.size+1+1,0,none⟩),.pointer (some ⟨w.heap.size+1+1+1,0,none⟩)],.pointer (some ⟨x,0,none⟩),undef,undef],defers:=[] }) ?assign ?body ?done ?stop
 case assign=>intro l x W K hK;gi_wp2;exact hK
 case body=>
  rintro l pre x W⟨⟨hc,hf⟩,hB⟩ _;gi_wp2;refine⟨KeepsOthers.setCell _ _ _,⟨(Below.refl w.heap.size W).setCell (p:=⟨w.heap.size+1,0,none⟩) (by simp) _,λv hv=>?_⟩,⟨?_,by rw[World.frozen?_setCell];exact hf⟩,hB.setCell (p:=⟨w.heap.size+1,0,none⟩) (by simp) _⟩
  ·rw[World.cell?_setCell_other _ _ _ _ (by simp)];exact hv
  ·rw[List.getLast?_concat];exact World.cell?_setCell_same' _ _ _ (by rw[hc];rfl)
 case done=>rintro D ys W hD rfl⟨⟨hc,_⟩,hB⟩ hK;gi_wp2;refine⟨by simp,.inl ⟨_,_,rfl,run_takeDeferred hK,?_⟩⟩;exact⟨_,results_tmp rfl _ _ _,rfl,hB.trans (belowK_b (w:=w) (Ql _) W D _ _ (by omega) hK rfl rfl)⟩
 case stop=>rintro D c pre W _ _ h _;exact h.elim
theorem JbB(wj:Int)(k:Key)(hk1:1<=k.length)(hk2:k.length<=1000000)(w:World):
  Calls prog 269 #[.agg #[.int .i64 wj,.pointer none],.string ⟨k.toArray⟩] w λe w'=>e=.returned (.pointer none)/\Tch NoB w w':=
 (callsIn_wide.1 (Jde wj none k hk1 hk2 [] w rfl)).mono λ_ _ h=>⟨h.1,(Tch.of_below h.2).mono (λ_ hj=>.inr hj)⟩
theorem JbC(wj:Nat)(hw:wj<=1000)(d:List UInt8->BA)(F:Nat->Prop)(n:Nat)(t:Tr)(k:Key)(hk:k.length=wj+1)(w:World)(h:Jg d F w n t)(hok:TrOk wj t):
  Calls prog 269 #[.agg #[.int .i64 (wj:Int),.pointer (some ⟨n,0,none⟩)],.string ⟨k.toArray⟩] w λe w'=>∃m,e=.returned (.pointer (some ⟨m,0,none⟩))/\Jg d F w' m (.leaf (t.near k).1 (t.near k).2)/\Tch NoB w w':=by
 obtain⟨xs,m,h1,h2,h3⟩:=h.way hk hok;refine(callsIn_wide.1 (Jde (wj:Int) (some n) k (by omega) (by omega) xs w h1)).mono ?_;rintro e w'⟨rfl,hB⟩;have hT:Tch NoB w w':=(Tch.of_below hB).mono (λ_ hj=>.inr hj);exact⟨m,by rw[h2];rfl,h3.next hT,hT⟩

abbrev Jv(wj:Nat)(q:Option Nat):Value:=.agg #[.int .i64 (wj:Int),Jh q]
theorem Jep(E:Nat->Addr)(wj:Nat)(hw:wj<=32)(c:BA×Int)(hc:Jk wj c)(w:World)(hE:Env E w):
  Calls prog 145 #[.int .i64 (wj:Int),.agg #[.string c.1,.int .i64 c.2]] w λe w'=>e=.returned (.tuple #[.string ⟨(Je c).toArray⟩,.nilIface])/\Tch NoB w w':=by
 refine(Jhr E wj (by omega) c w hE).mono ?_;rintro e w'⟨h1,h2⟩;have:=(Jcy wj c c (.wr []) _ ((Jiw wj c c hc).wr [])).1;rw[this]at h2;exact⟨h2,h1⟩
theorem Jb0(hc:Jk wj c)(ho:Jy o):TrOk wj (.leaf (Je c) o):=by
 obtain⟨h1,h2,h3⟩:=hc;have hl:c.1.data.toList.length=wj:=by simpa using h1
 refine⟨by simp[Je,Jf];exact h1,?_,ho⟩;have hx:=Yv c.2 h2 (by omega);have e:(Je c).getD wj 0=UInt8.ofNat (JE c.2):=by unfold Je;rw[Qn,Qz (by omega),hl,Nat.sub_self];simp[beL]
 rw[e,UInt8.toNat_ofNat'];omega
theorem Zw(E:Nat->Addr)(wj:Nat)(hw1:1<=wj)(hw:wj<=32)(F:Nat->Prop)(q:Option Nat)(st:Option Tr)(w:World)(hE:Env E w)(h:StAt (dgW wj) F w q st):
  Calls prog 83 #[Jv wj q] w λe w'=>e=.returned (.string (JV (dgW wj) st))/\Tch NoB w w':=by
 cases st with
 | none=>
  obtain rfl:=h.of_none;have HO:Hid (∀W,Tch NoB w W->_):=λW hT=>Jbg E wj ⟨#[69]⟩ W (hE.tch hT noE) hw1 hw (by decide);show Calls _ _ #[.agg #[_,.pointer none]] _ _;go_enter func83,ntmps83;go_wp2_with fail;refine(HO _ (Ta _ _ _)).mono ?_;rintro _ w1⟨rfl,ht⟩;have HT:Hid _:=(Ta NoB w _).trans ht noE;go_wp2;go_ret;exact⟨rfl,HT⟩
 | some t=>
  obtain⟨n,rfl,hn⟩:=h.of_some;have c0:=hn.digCell;have hlt:=hn.own.2;show Calls _ _ #[.agg #[_,.pointer (some ⟨n,0,none⟩)]] _ _;go_enter func83,ntmps83;go_wp2;go_ret;exact⟨rfl,Ta _ _ _⟩
theorem Jn{P:Program}{fn:Func}{p t:Tmp}{ty:TypeId}(h:fn.results= #[.cell p ty,.tmp t])(tmps:Array Value)(w:World)(g:Nat)(T:TypeId)(cs:Array Value)(fr:Nat×Nat)(d:TypeDesc)
 (hp:tmps.getD p undef=.pointer (some ⟨g,0,none⟩)) (hg:w.heap[g]? =some (.cells cs T fr))
 (hu:P.underlying ty=some d) (hd:(match d with | .struct _ | .array _ _=>true|_=>false)=true) (hi:(P.info? ty).map (·.size)=some cs.size):
  (results fn tmps).run P w=.ok (.tuple #[.agg cs,tmps.getD t undef]) w:=by
 have hp':tmps[p]?.getD undef=.pointer (some ⟨g,0,none⟩):=by simpa using hp
 simp[results,h,hp',asAddr,run_loadVar_row w g T ty cs fr d hg hu hd hi]
structure Jbq(w W:World)(wj:Nat)(q:Option Nat)(c:BA×Int)(o:Nat×Nat):Prop where
 t:W.heap[w.heap.size]? =some (.cells #[.int .i64 (wj:Int),Jh q] 146)
 c:W.heap[w.heap.size+1]? =some (.cells #[.string c.1,.int .i64 c.2] 49)
 oo:W.heap[w.heap.size+2]? =some (.cells #[.int .u64 (o.1:Int),.int .u8 (o.2:Int)] 80)
 r:W.heap[w.heap.size+3]? =some (.cells #[.int .i64 0,.pointer none] 146)
theorem Jbq.next{W':World}(h:Jbq w W wj q c o)(k:Tch NoB W W'):Jbq w W' wj q c o:=
 ⟨(k.block _ (Jb h.t) (λh=>h)).trans h.t,(k.block _ (Jb h.c) (λh=>h)).trans h.c,(k.block _ (Jb h.oo) (λh=>h)).trans h.oo,(k.block _ (Jb h.r) (λh=>h)).trans h.r⟩
theorem Ja2(w:World)(o0 o1 o2 o3:Obj):((((w.alloc o0).alloc o1).alloc o2).alloc o3).heap[w.heap.size+3]? =some o3:=by
 have:=Qf (((w.alloc o0).alloc o1).alloc o2) o3;simpa using this
theorem XC(w:World)(o0 o1 o2 o3:Obj)(k:Nat)(h:k<w.heap.size+3):((((w.alloc o0).alloc o1).alloc o2).alloc o3).heap[k]? =(((w.alloc o0).alloc o1).alloc o2).heap[k]? :=Below.heap_alloc _ _ _ (by simp;omega)
theorem Jg4(w:World)(wj:Nat)(q:Option Nat)(c:BA×Int)(o:Nat×Nat):Jbq w ((((w.alloc (.cells #[.int .i64 (wj:Int),Jh q] 146)).alloc (.cells #[.string c.1,.int .i64 c.2] 49)).alloc (.cells #[.int .u64 (o.1:Int),.int .u8 (o.2:Int)] 80)).alloc (.cells #[.int .i64 0,.pointer none] 146)) wj q c o:=
 ⟨(XC _ _ _ _ _ _ (by omega)).trans (JN _ _ _ _),(XC _ _ _ _ _ _ (by omega)).trans (JG _ _ _ _),(XC _ _ _ _ _ _ (by omega)).trans (JH _ _ _ _),Ja2 _ _ _ _ _⟩
theorem Jg.tchT{t:Tr}(h:Jg d F w n t)(k:Tch S w w')(hs:∀j cs,S j->w.heap[j]? ≠ some (.cells cs 243)):Jg d F w' n t:=by
 induction h using Jg.ri with
 | leaf n key o hF hr=>exact .leaf n key o hF ((k.block n (Jb hr) (λe=>hs n _ e hr)).trans hr)
 | br n b nl nr l r hF hr _ _ ihl ihr=>exact .br n b nl nr l r hF ((k.block n (Jb hr) (λe=>hs n _ e hr)).trans hr) ihl ihr
theorem StAt.row{st:Option Tr}{g:Nat}{cur cs:Array Value}{T:TypeId}(h:StAt d F w q st)(hr:w.heap[g]? =some (.cells cur T))(hT:T ≠ 243):StAt d F (w.setRow g cs) q st:=by
 have hs:∀j c,j=g->w.heap[j]? ≠ some (.cells c 243):=λj c e e'=>by
  subst e;rw[hr]at e';simp at e';exact hT e'.2
 cases q<;>cases st<;>first|exact h|exact Jg.tchT h (Ts w g cs) hs
def Jkt(E:Nat->Addr)(wj:Nat)(F:Nat->Prop)(r:Except Er (Option Tr))(e:Ending)(w':World):Prop:=match r with
 | .ok st'=>∃q',e=.returned (.tuple #[Jv wj q',.nilIface])/\StAt (dgW wj) F w' q' st'
 | .error _=>e=.returned (.tuple #[.agg #[.int .i64 0,.pointer none],eV E 2])
theorem TrOk.near{t:Tr}(h:TrOk wj t):(t.near k).1.length=wj+1:=by
 induction t using Tr.ri with
 | leaf k' o=>exact h.1
 | br b l r ihl ihr=>
  simp only[Tr.near]
  split
  ·exact ihl h.2.1
  ·exact ihr h.2.2
theorem JlZ(E:Nat->Addr)(wj:Nat)(hw1:1<=wj)(hw:wj<=32)(F:Nat->Prop)(q:Option Nat)(st:Option Tr)(c:BA×Int)(hc:Jk wj c)(o:Nat×Nat)(ho:Jy o)(w:World)(hE:Env E w)(hF:∀j,w.heap.size<=j->F j)(hs:StAt (dgW wj) F w q st)(hok:StOk wj st):
  Calls prog 191 #[Jv wj q,.agg #[.string c.1,.int .i64 c.2],.agg #[.int .u64 (o.1:Int),.int .u8 (o.2:Int)]] w λe w'=>Tch NoB w w'/\Jkt E wj F (YW st (Je c) o) e w':=by
 have hkl:=Yu hc;have HL:Hid _:=Jb0 hc ho;have HKO:Hid (∀W,Tch NoB w W->_):=λW hT=>Jep E wj hw c hc W (hE.tch hT noE);have HNL:Hid (∀W,Tch NoB w W->Calls prog 268 #[.int .i64 (wj:Int),.string ⟨(Je c).toArray⟩,.agg #[.int .u64 (o.1:Int),.int .u8 (o.2:Int)]] W λe w'=>∃n,e=.returned (.tuple #[.pointer (some ⟨n,0,none⟩),.nilIface])/\Jg (dgW wj) F w' n (.leaf (Je c) o)/\Tch NoB W w'):=λW hT=>(Jgw E wj hw1 hw (Je c) o HL W (hE.tch hT noE)).mono λe w' ⟨n,h1,h2,h3,h4⟩=>⟨n,h1,.leaf n _ _ (hF n (Qm hT.size h2)) h3,h4⟩
 have HS:Hid (StAt (dgW wj) F w q st):=hs;have HE:Hid _:=hE;have HF:Hid _:=hF;have HOK:Hid _:=hok;have HBX:=Jg4 w wj q c o;obtain⟨rv,hrv⟩:∃rv,rv=(q.map λn=>(⟨n,0,none⟩:Addr)):=⟨_,rfl⟩
 have hrq:Jh q=.pointer rv:=by rw[hrv]
 obtain⟨cs,cn⟩:=c;obtain⟨oa,oo⟩:=o;dsimp only at HKO HNL HBX ⊢;show Calls _ _ #[.agg #[_,Jh q],_,_] _ _;rw[hrq];have HRQ:Hid _:=hrq;clear hrq hrv;have hA0:Tch NoB w ((((w.alloc (.cells #[.int .i64 (wj:Int),.pointer rv] 146)).alloc (.cells #[.string cs,.int .i64 cn] 49)).alloc (.cells #[.int .u64 (oa:Int),.int .u8 (oo:Int)] 80)).alloc (.cells #[.int .i64 0,.pointer none] 146)):=(Tch.allocs3 NoB w _ _ _).trans (Ta _ _ _) (λ_ h=>.inl h);have HA0:Hid _:=hA0;have HB0:Hid (Jbq w ((((w.alloc (.cells #[.int .i64 (wj:Int),.pointer rv] 146)).alloc (.cells #[.string cs,.int .i64 cn] 49)).alloc (.cells #[.int .u64 (oa:Int),.int .u8 (oo:Int)] 80)).alloc (.cells #[.int .i64 0,.pointer none] 146)) wj q (cs,cn) (oa,oo)):=by rw[<-HRQ.o];exact HBX
 go_enter func191,ntmps191;go_wp2_with fail;refine(HKO _ HA0).mono ?_;rintro _ w1⟨rfl,ht1⟩;have HT1:Hid (Tch NoB w w1):=HA0.trans ht1 noE;have b1:=HB0.o.next ht1;have HB1:Hid _:=b1;obtain⟨a0, -⟩:=rows b1.t;obtain⟨a1,a2⟩:=rows b1.oo;generalize hKB:(⟨(Je (cs,cn)).toArray⟩:BA)=kb at *;have HKB:Hid _:=hKB;go_wp2_with fail;refine(HNL.o _ HT1.o).mono ?_;rintro _ w2⟨ln,rfl,(HLN:Hid _),ht2⟩;have HT2:Hid _:=HT1.trans ht2 noE;have b2:=HB1.o.next ht2;have HB2:Hid _:=b2;obtain⟨d0, -⟩:=rows b2.t;have d1:w2.cell? ⟨w.heap.size,1,none⟩=some (.pointer rv):=by rw[<-HRQ.o];exact Ja b2.t
 clear ht2 b2 HNL HB1 HT1 a0 a1 a2
 cases st with
 | none=>
  obtain rfl:=HS.of_none;obtain rfl:rv=none:=by have:=HRQ.o;simpa [Jh]using this.symm
  have HN:Hid (Calls prog 269 #[.agg #[.int .i64 (wj:Int),.pointer none],.string kb] w2 λe w'=>e=.returned (.pointer none)/\Tch NoB w2 w'):=by have:=JbB (wj:Int) (Je (cs,cn)) (by omega) (by omega) w2;rw[HKB.o]at this;exact this
  go_wp2_with fail;refine HN.o.mono ?_;rintro _ w3⟨rfl,ht3⟩;have b3:=HB2.o.next ht3;obtain⟨e0, -⟩:=rows b3.t;obtain⟨r0,r1⟩:=rows b3.r;have fR:∀j,w3.frozen? ⟨w.heap.size+1+1+1,j,none⟩=false:=λj=>Qg _ _ _ _ _ b3.r;have RR:Hid _:=b3.r;have HT3:Hid _:=HT2.trans ht3 noE;have HLN3:Hid _:=HLN.next ht3;go_wp2;rw[set2 _ _ _ _ _ _ _ RR.out];refine QJ (v:=.tuple #[.agg #[.int .i64 (wj:Int),.pointer (some ⟨ln,0,none⟩)],.nilIface]) (Jn results191 _ _ (w.heap.size+1+1+1) _ _ (0,0) _ rfl (Qi _ _ _ _ _ _ RR) underlying146 rfl (by kernel_rfl)) rfl ⟨?_,some ln,rfl,?_⟩
  ·exact HT3.trans (Ts _ _ _) (λj hj=>.inr (by omega))
  ·exact StAt.row (q:=some ln) (st:=some _) HLN3 RR (by decide)
 | some t=>
  obtain⟨n,rfl,hn⟩:=HS.of_some;obtain rfl:rv=some ⟨n,0,none⟩:=by have:=HRQ.o;simpa [Jh]using this.symm
  have HTO:Hid _:=HOK.o;have HNT:Hid _:=hn.next HT2.o;have HN:Hid (Calls prog 269 #[.agg #[.int .i64 (wj:Int),.pointer (some ⟨n,0,none⟩)],.string kb] w2 λe w'=>∃m,e=.returned (.pointer (some ⟨m,0,none⟩))/\Jg (dgW wj) F w' m (.leaf (t.near (Je (cs,cn))).1 (t.near (Je (cs,cn))).2)/\Tch NoB w2 w'):=by have:=JbC wj (by omega) (dgW wj) F n t (Je (cs,cn)) hkl w2 HNT HTO.o;rw[HKB.o]at this;exact this
  go_wp2_with fail;refine HN.mono ?_;rintro _ w3⟨m,rfl,hm,ht3⟩;have b3:=HB2.o.next ht3;obtain⟨e0,e1⟩:=rows b3.t;obtain⟨r0,r1⟩:=rows b3.r;have fR:∀j,w3.frozen? ⟨w.heap.size+1+1+1,j,none⟩=false:=λj=>Qg _ _ _ _ _ b3.r;have hmk:w3.cell? ⟨m,1,none⟩=some (.string ⟨(t.near (Je (cs,cn))).1.toArray⟩):=Ja hm.a.2;have hmlt:=hm.own.2;have hnk:=HTO.o.near (k:=Je (cs,cn));have HT3:Hid _:=HT2.trans ht3 noE;have HLN3:Hid _:=HLN.next ht3;have HNT3:Hid _:=HNT.next ht3;have HB3:Hid _:=b3;have hex:=(HE.tch HT3 noE).exist;generalize hNB:(⟨(t.near (Je (cs,cn))).1.toArray⟩:BA)=nb at *;have HNB:Hid _:=hNB
  by_cases heq:(t.near (Je (cs,cn))).1=Je (cs,cn)
  ·have hkk:nb=kb:=(by rw[<-HNB.o,heq];exact HKB.o);have HWE:Hid (YW (some t) (Je (cs,cn)) (oa,oo)=.error .exist):=if_pos heq;subst hkk;go_wp2;go_region
   all_goals
    go_wp2;rw[set2 _ _ _ _ _ _ _ HB3.o.r];refine QJ (v:=.tuple #[.agg #[.int .i64 0,.pointer none],eV E 2]) (Jn results191 _ _ (w.heap.size+1+1+1) _ _ (0,0) _ rfl (Qi _ _ _ _ _ _ HB3.r) underlying146 rfl (by kernel_rfl)) rfl ⟨?_,?_⟩
    ·exact(HT3.trans (Td NoB w3 1) noE).trans (Ts _ _ _) (λj hj=>.inr (by omega))
    ·rw[HWE.o];rfl
  ·have hnl:nb.data.toList=(t.near (Je (cs,cn))).1:=(by rw[<-HNB.o]);have hkl2:kb.data.toList=Je (cs,cn):=(by rw[<-HKB.o]);have hne:(nb.toList == kb.toList)=false:=by
    rw[ByteArray.toList_eq,ByteArray.toList_eq,hnl,hkl2];simpa using heq
   have HWO:Hid (YW (some t) (Je (cs,cn)) (oa,oo)=.ok (some (t.graft (Je (cs,cn)) (oa,oo) (fd (t.near (Je (cs,cn))).1 (Je (cs,cn)))))):=if_neg heq;have hfd:=Jij (t.near (Je (cs,cn))).1 (Je (cs,cn)) (by omega) heq;have HFD:Hid (∀W,Calls prog 271 #[.string nb,.string kb] W λe w'=>e=.returned (.int .i64 (fd (t.near (Je (cs,cn))).1 (Je (cs,cn)):Int))/\∃n,w'=W.drewN n):=λW=>by
    have:=Ji4 (t.near (Je (cs,cn))).1 (Je (cs,cn)) (by omega) heq (by omega) W;rw[HNB.o,HKB.o]at this;exact this
   have HGR:Hid (∀W,Tch NoB w3 W->Calls prog 270 #[.agg #[.int .i64 (wj:Int),.pointer (some ⟨n,0,none⟩)],.pointer (some ⟨n,0,none⟩),.pointer (some ⟨ln,0,none⟩),.int .i64 (fd (t.near (Je (cs,cn))).1 (Je (cs,cn)):Int)] W λe w'=>∃m,e=.returned (.tuple #[.pointer (some ⟨m,0,none⟩),.nilIface])/\Jg (dgW wj) F w' m (t.graft (Je (cs,cn)) (oa,oo) (fd (t.near (Je (cs,cn))).1 (Je (cs,cn))))/\Tch NoB W w'):=λW hT=>
    Ji9 E wj hw1 hw F _ _ _ HL _ (by have:=hfd.1;omega) ln t n W HTO (HE.tch (HT3.trans hT noE) noE) (λj hj=>HF j (Qm (HT3.trans hT noE).size hj)) (HNT3.next hT) (HLN3.next hT)
   generalize fd (t.near (Je (cs,cn))).1 (Je (cs,cn))=dd at *;have hz3:=(Jb HB3.r)
   go_wp2_with fail;go_region_held3 (λW=>W.cell? ⟨w.heap.size,0,none⟩=some (.int .i64 (wj:Int))/\W.cell? ⟨w.heap.size,1,none⟩=some (.pointer (some ⟨n,0,none⟩))/\W.cell? ⟨m,1,none⟩=some (.string nb)) (go_keep) ((first|(go_at_call 271;refine(HFD _).mono ?_;rintro _ _⟨rfl,m5,rfl⟩)|(go_at_call 270;refine(HGR _ (Td NoB w3 _)).mono ?_;rintro _ w4⟨g4,rfl,(HG4:Hid _),ht4⟩;have hT4:=(Td NoB w3 _).trans ht4 noE;have f0:=(hT4.cell (p:=⟨w.heap.size,0,none⟩) (by show w.heap.size<_;omega) (λh=>h)).trans e0;have f1:=(hT4.cell (p:=⟨w.heap.size,1,none⟩) (by show w.heap.size<_;omega) (λh=>h)).trans e1;have f2:=(hT4.cell (p:=⟨m,1,none⟩) hmlt (λh=>h)).trans hmk;have HT4:Hid _:=hT4;clear ht4 hT4)))
   all_goals
    have b4:=HB3.o.next HT4.o;obtain⟨s0,s1⟩:=rows b4.r;have fS:∀j,w4.frozen? ⟨w.heap.size+1+1+1,j,none⟩=false:=λj=>Qg _ _ _ _ _ b4.r;have RR:Hid _:=b4.r;go_wp2;rw[set2 _ _ _ _ _ _ _ RR.out];refine QJ (v:=.tuple #[.agg #[.int .i64 (wj:Int),.pointer (some ⟨g4,0,none⟩)],.nilIface]) (Jn results191 _ _ (w.heap.size+1+1+1) _ _ (0,0) _ rfl (Qi _ _ _ _ _ _ RR) underlying146 rfl (by kernel_rfl)) rfl ⟨?_,?_⟩
    ·exact(HT3.trans HT4 noE).trans (Ts _ _ _) (λj hj=>.inr (by omega))
    ·rw[HWO.o];exact⟨some g4,rfl,StAt.row (q:=some g4) (st:=some _) HG4 RR (by decide)⟩
