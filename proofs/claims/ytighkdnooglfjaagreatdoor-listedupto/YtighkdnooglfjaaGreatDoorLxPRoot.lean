import Derived.Test.YtighkdnooglfjaaGreatDoorLxKLast
import Derived.Test.YtighkdnooglfjaaGreatDoorLxFaA
import Derived.Shelf.SlicesE.Reverse
namespace Go.Proofs.YtighkdnooglfjaaGreatDoor

variable {a:BA}{bs:List BV}{d:List UInt8->BA}{b cb fl r wj:Nat}{v:Value}{w w':World}
def Tr.text(d:List UInt8->BA):Tr->List UInt8
 | .leaf k o=>76::(k++outB o)
 | .br b l r=>78::(beL b 2 2++((l.dig d).data.toList++(r.dig d).data.toList))
theorem Tr.dig_text(d:List UInt8->BA)(t:Tr):t.dig d=d (t.text d):=by cases t<;>rfl
def JhQ(d:List UInt8->BA):Option Tr->List UInt8
 | none=>[69]
 | some t=>t.text d
theorem JhN(d:List UInt8->BA)(st:Option Tr):JU d st=d (JhQ d st):=by
 cases st with
 | none=>rfl
 | some t=>exact t.dig_text d
abbrev KO:=Key×(Nat×Nat)
def Fork(l:List KO)(b:Nat):Prop:=(∀x∈l,∀y∈l,∀i,i<b->bt x.1 i=bt y.1 i)/\∃x∈l,∃y∈l,bt x.1 b ≠ bt y.1 b
def side(l:List KO)(b v:Nat):List KO:=l.filter λx=>bt x.1 b=v
inductive Root (d:List UInt8->BA):List KO->List UInt8->Prop where
 | none:Root d [] [69]
 | one (k:Key) (o:Nat×Nat):Root d [(k,o)] (76::(k++outB o))
 | two (l:List KO) (b:Nat) (x y:List UInt8):Fork l b->Root d (side l b 0) x->Root d (side l b 1) y->Root d l (78::(beL b 2 2++((d x).data.toList++(d y).data.toList)))
theorem Fork.unique{l:List KO}{b':Nat}(h:Fork l b)(h':Fork l b'):b=b':=by
 obtain⟨p1,x,hx,y,hy,p2⟩:=h;obtain⟨q1,u,hu,v,hv,q2⟩:=h'
 rcases Nat.lt_trichotomy b b' with h|h|h
 ·exact absurd (q1 x hx y hy b h) p2
 ·exact h
 ·exact absurd (p1 u hu v hv b' h) q2
theorem Fork.two{l:List KO}(h:Fork l b):2<=l.length:=by
 obtain⟨_,x,hx,y,hy,h⟩:=h
 match l,hx,hy with
 | [],hx,_=>cases hx
 | [a],hx,hy=>simp only[Qt]at hx hy;rw[hx,hy]at h;exact absurd rfl h
 | _::_::_,_,_=>simp
theorem Root.of_tree(t:Tr):∀(l:List KO)(s:List UInt8),t.Wf->(∀x,x∈l↔x∈t.coins)->(l.map (·.1)).Nodup->Root d l s->s=t.text d:=by
 induction t with
 | leaf k o=>
  intro l s _ hm hn hr;simp only[Tr.coins,Qt]at hm;have hl:l=[(k,o)]:=by
   match l,hm,hn with
   | [],hm,_=>exact absurd ((hm (k,o)).2 rfl) (by simp)
   | [a],hm,_=>rw[(hm a).1 (by simp)]
   | a::b::r,hm,hn=>
    have e1:=(hm a).1 (by simp);have e2:=(hm b).1 (by simp);simp[e1,e2]at hn
  subst hl
  cases hr with
  | one=>rfl
  | two _ b x y hf _ _=>exact absurd hf.two (by simp)
 | br b lt rt ihl ihr=>
  intro l s hw hm hn hr;obtain⟨w1,w2,h0,h1,hs⟩:=hw;have hf:Fork l b:=by obtain⟨x,hx⟩:=List.exists_mem_of_ne_nil _ lt.coins_ne;obtain⟨y,hy⟩:=List.exists_mem_of_ne_nil _ rt.coins_ne;refine⟨λx hx y hy i hi=>hs x ((hm x).1 hx) y ((hm y).1 hy) i hi,x,(hm x).2 (by simp[Tr.coins,hx]),y,(hm y).2 (by simp[Tr.coins,hy]),?_⟩;rw[h0 x hx,h1 y hy];decide
  have hl2:=hf.two
  cases hr with
  | none=>simp at hl2
  | one=>simp at hl2
  | two _ b' x y hf' hx hy=>
   obtain rfl:=hf.unique hf';have hx':=ihl (side l b 0) x w1 (λz=>by
    unfold side;rw[QN,hm];simp only[Tr.coins,QE,decide_eq_true_iff];constructor
    ·rintro⟨h|h,h2⟩
     ·exact h
     ·have:=h1 z h;omega
    ·intro h;exact⟨.inl h,h0 z h⟩) (hn.sublist (List.Sublist.map _ List.filter_sublist)) hx
   have hy':=ihr (side l b 1) y w2 (λz=>by
    unfold side;rw[QN,hm];simp only[Tr.coins,QE,decide_eq_true_iff];constructor
    ·rintro⟨h|h,h2⟩
     ·have:=h0 z h;omega
     ·exact h
    ·intro h;exact⟨.inr h,h1 z h⟩) (hn.sublist (List.Sublist.map _ List.filter_sublist)) hy
   rw[hx',hy',<-Tr.dig_text d lt,<-Tr.dig_text d rt];rfl
theorem Root.of_state{st:Option Tr}{l:List KO}{s:List UInt8}(hw:∀t,st=some t->t.Wf)(hm:∀x,x∈l↔x∈Jr st)(hn:(l.map (·.1)).Nodup)(hr:Root d l s):s=JhQ d st:=by
 cases st with
 | none=>
  cases l with
  | nil=>cases hr with
   | none=>rfl
   | two _ b x y hf _ _=>exact absurd hf.two (by simp)
  | cons a r=>exact absurd ((hm a).1 (by simp)) (by simp[Jr])
 | some t=>exact Root.of_tree t l s (hw t rfl) hm hn hr

theorem Jnm{b:BA}(h:a.data.toList=b.data.toList):a=b:=by
 cases a;cases b;simp only at h;rw[Array.toList_inj]at h;rw[h]
open Go.RowKit

open Tryz
set_option maxRecDepth 100000
set_option maxHeartbeats 1000000

theorem Jfg(a:Addr)(w:World):(method 641 170 (.pointer (some a)) "trove/wire.more").run prog w=.ok (140,.pointer (some a)) w:=by kernel_rfl
theorem Jfh(a:Addr)(w:World):(method 641 153 (.pointer (some a)) "trove/wire.more").run prog w=.ok (377,.pointer (some a)) w:=by kernel_rfl
theorem Jke(a:Value)(m:Bool)(w:World):Calls prog 377 #[a,.bool m] w λe w'=>e=.returned (.bool m)/\w'=w:=by
 go_enter func377,ntmps377;go_wp2;go_ret;exact⟨rfl,rfl⟩
def JnU(m:Bool):Option PS->Bool
 | none=>false
 | some (.rd _ rest)=> !rest.isEmpty
 | some (.wr _)=>m
theorem Jir(E:Nat->Addr)(b:Nat)(g:Option Nat)(wj:Int)(m:Bool)(st:Option PS)(w:World)(hp:Ji E w b g wj st):
  Calls prog 221 #[.pointer (some ⟨b,0,none⟩),.bool m] w λe w'=>e=.returned (.bool (JnU m st))/\Tch NoB w w':=by
 cases st with
 | none=>
  obtain⟨p,t,u,h1,_⟩:=hp;have ce:=h1.errCell;clear h1;go_enter func221,ntmps221;go_wp2;go_ret;exact⟨rfl,Te _ _⟩
 | some p=>
  have hp:Jc w b g wj .nilIface p:=hp;have ce:=hp.errCell
  cases p with
  | rd pre rest=>
   have c0:w.cell? ⟨b,0,none⟩=some (.iface 170 (.pointer (some ⟨b,0,none⟩))):=Ja hp.2;have hm:=Jfg ⟨b,0,none⟩;have HP:Hid (Jc _ _ _ _ _ _):=hp;clear hp;go_enter func221,ntmps221;go_wp2_with fail;refine(Jce b g wj .nilIface _ pre rest w HP.o).mono ?_;rintro _ w1⟨rfl,ht⟩;have HT:Hid (Tch _ _ _):=ht;clear ht;go_wp2;go_ret;exact⟨rfl,HT.o⟩
  | wr d=>
   have c0:w.cell? ⟨b,0,none⟩=some (.iface 153 (.pointer (some ⟨b,0,none⟩))):=(by obtain⟨v,_,_,hr⟩:=hp;exact Ja hr);have hm:=Jfh ⟨b,0,none⟩;clear hp;go_enter func221,ntmps221;go_wp2_with fail;refine(Jke _ m w).mono ?_;rintro _ _⟨rfl,rfl⟩;go_wp2;go_ret;exact⟨rfl,Te _ _⟩


open Go.RowKit Go.Shelf

attribute [local go_sem] Oper.semAt_some

theorem JbJ{W W':World}{row:Option Nat}{B:Nat}{cs:Array Value}{T:TypeId}{m:Nat×Nat}(h:W.heap[B]? =some (.cells cs T m))(hg:W.grownBy W' row)(hr:∀r,row=some r->∃o:Obj,W.heap[r]? =some o/\o.isCells=false):W'.heap[B]? =some (.cells cs T m):=by
 refine(hg.block B (Jb h) (λe=>?_)).trans h;obtain⟨o,ho,hc⟩:=hr B e.symm;rw[h]at ho
 cases ho
 cases hc

attribute [local go_sem] Oper.semAt_some

theorem Yn{P:Program}{ops:Array Oper}{o:Oper}{a:Act}{K:Act->World->Prop}{Q:Exit->Act->World->Prop}{E:Prop}{xv v':Value}(hgd:o.guard=none)(s x:Operand)(T:TypeId)(ho:o.op=.call { callee:=.builtin .append,args:= #[s,x],argTypes:= #[T,T] })
 (hv:a.eval s=v) (hx:a.eval x=xv) (hr:(Builtin.append_ #[T,T] o.type #[v,xv]).run P w=.ok v' w') (hK:K (a.put o.dst v') w'):if Region.wanted o (yielded ops a.tmps)=true then Oper.wp P o a w K Q else E:=by
 have hw:Region.wanted o (yielded ops a.tmps)=true:=by simp[Region.wanted,hgd]
 rw[if_pos hw];unfold Oper.wp;simp[execOp,ho,resolve,invoke,builtin,hv,hx,hr,Result.andThen];exact hK

theorem XX{c:BA×Int}(hc:Jj wj c):(Je c).length=wj+1:=(Jb1 hc (o:=(0,0)) ⟨by decide,by decide⟩).1

theorem Jbj(h:Jz w cb wj fl r bs v)(k:Nat)(b:BV)(hk:bs[k]? =some b)(hf:fl<=k):
  Calls prog 92 #[.pointer (some ⟨cb,0,none⟩),.int .i64 (k:Int)] w λe w'=>e=.returned (.tuple #[Jv b.2.1 b.2.2,.nilIface])/\Tch NoB w w':=by
 obtain⟨W,hW⟩:∃W,W=w.alloc (.cells #[.int .i64 0,.pointer none] 146):=⟨_,rfl⟩
 have hA:Tch NoB w W:=by rw[hW];exact Ta _ _ _
 have c1:W.cell? ⟨cb,1,none⟩=some (.int .i64 (fl:Int)):=Ja (h.next hA).row;have HAT:Hid (Calls _ _ _ _ _):=Jm9 (h.next hA) k b hk;have hrow:W.heap[w.heap.size]? =some (.cells #[.int .i64 0,.pointer none] 146):=by rw[hW];exact Qf _ _
 have HW:Hid (W=w.alloc (.cells #[.int .i64 0,.pointer none] 146)):=hW;have HR:Hid (W.heap[w.heap.size]? =_):=hrow;have HA:Hid (Tch _ w W):=hA;obtain⟨bh,bu,bq⟩:=b;obtain⟨rv,hrv⟩:∃rv,Jh bq=.pointer rv:=⟨_,rfl⟩
 simp only[bV]at HAT;show Calls _ _ _ _ λe w'=>e=.returned (.tuple #[.agg #[_,Jh bq],.nilIface])/\_;rw[hrv]at HAT ⊢;have hlt:¬(k:Int)<(fl:Int):=by omega
 clear h hk hW hrow hA hrv hf;go_enter func92,ntmps92;go_upto_region 1 with fail;rw[<-HW.o];go_wp2_with fail;refine HAT.o.mono ?_;rintro _ w2⟨rfl,ht2⟩;have hr2:w2.heap[w.heap.size]? =some (.cells #[.int .i64 0,.pointer none] 146):=(ht2.block _ (Jb HR.o) (λh=>h)).trans HR.o;have hz2:=(Jb hr2)
 obtain⟨W3,hW3⟩:∃W3,W3=w2.alloc (.cells #[.string bh,.int .i64 (bu:Int),.pointer rv] 148):=⟨_,rfl⟩
 have t3:Tch NoB w2 W3:=by rw[hW3];exact Ta _ _ _
 have hr3:W3.heap[w.heap.size]? =some (.cells #[.int .i64 0,.pointer none] 146):=(t3.block _ hz2 (λh=>h)).trans hr2;have hq3:W3.heap[w2.heap.size]? =some (.cells #[.string bh,.int .i64 (bu:Int),.pointer rv] 148):=by rw[hW3];exact Qf _ _
 have r0:W3.cell? ⟨w.heap.size,0,none⟩=some (.int .i64 0):=Ja hr3;have r1:W3.cell? ⟨w.heap.size,1,none⟩=some (.pointer none):=Ja hr3;have fR:∀j,W3.frozen? ⟨w.heap.size,j,none⟩=false:=λj=>Qg _ _ _ _ _ hr3;have q1:W3.cell? ⟨w2.heap.size,1,none⟩=some (.int .i64 (bu:Int)):=Ja hq3;have q2:W3.cell? ⟨w2.heap.size,2,none⟩=some (.pointer rv):=Ja hq3;have HR3:Hid (W3.heap[w.heap.size]? =_):=hr3;have HW3:Hid (W3=_):=hW3;have HT3:Hid (Tch NoB w W3):=(HA.o.go ht2).go t3;clear ht2 hr2 t3 hr3 hq3 hW3 HAT HR HA HW c1;go_upto_region 4 with fail;rw[<-HW3.o];go_wp2;rw[set2 _ _ _ _ _ _ _ HR3.o];refine QJ (v:=.tuple #[.agg #[.int .i64 (bu:Int),.pointer rv],.nilIface]) (Jn results92 _ _ w.heap.size _ _ (0,0) _ rfl (Qi _ _ _ _ _ _ HR3.o) underlying146 rfl (by kernel_rfl)) rfl ⟨rfl,?_⟩;exact HT3.o.trans (Ts _ _ _) (λj hj=>.inr (by omega))
theorem JgZ(E:Nat->Addr)(hE:Env E w)(h:Jz w cb wj fl r bs v)(k:Int)(hk:k<(fl:Int)):
  Calls prog 92 #[.pointer (some ⟨cb,0,none⟩),.int .i64 k] w λe w'=>∃t u,e=.returned (.tuple #[Jv 0 none,.iface t u])/\Jp E 5 w' (.iface t u)/\Tch NoB w w':=by
 obtain⟨W,hW⟩:∃W,W=w.alloc (.cells #[.int .i64 0,.pointer none] 146):=⟨_,rfl⟩
 have hA:Tch NoB w W:=by rw[hW];exact Ta _ _ _
 have c1:W.cell? ⟨cb,1,none⟩=some (.int .i64 (fl:Int)):=Ja (h.next hA).row;have hrg:=(hE.tch hA noE).range;have hsz:=(hE.tch hA noE).size;have hGs:5<W.heap.size:=Qk (by decide) hsz;have hrow:W.heap[w.heap.size]? =some (.cells #[.int .i64 0,.pointer none] 146):=by rw[hW];exact Qf _ _
 have r0:W.cell? ⟨w.heap.size,0,none⟩=some (.int .i64 0):=Ja hrow;have r1:W.cell? ⟨w.heap.size,1,none⟩=some (.pointer none):=Ja hrow;have fR:∀j,W.frozen? ⟨w.heap.size,j,none⟩=false:=λj=>Qg _ _ _ _ _ hrow;have HW:Hid (W=w.alloc (.cells #[.int .i64 0,.pointer none] 146)):=hW;have HR:Hid (W.heap[w.heap.size]? =_):=hrow;have HA:Hid (Tch _ w W):=hA;have hz:w.heap.size<W.heap.size:=(Jb hrow)
 show Calls _ _ _ _ λe w'=>∃t u,e=.returned (.tuple #[.agg #[.int .i64 0,.pointer none],.iface t u])/\_;clear h hW hrow hA hE hsz;go_enter func92,ntmps92;go_upto_region 1 with fail;rw[<-HW.o];go_wp2_with fail;refine(Xk _ _ _ _).mono ?_;rintro _ _⟨rfl,rfl⟩;have hrow2:(W.alloc (.cells #[.string ⟨#[104,101,105,103,104,116]⟩,eV E 5] 237)).heap[w.heap.size]? =some (.cells #[.int .i64 0,.pointer none] 146):=(Below.heap_alloc W _ _ hz).trans HR.o;have hpl:=Qf W (.cells #[.string ⟨#[104,101,105,103,104,116]⟩,eV E 5] 237);have t2:=Ta NoB W (.cells #[.string ⟨#[104,101,105,103,104,116]⟩,eV E 5] 237);have HR2:Hid (_=_):=hrow2;have HPL:Hid (_=_):=hpl;have HT2:Hid (Tch _ W _):=t2;have r0:(W.alloc (.cells #[.string ⟨#[104,101,105,103,104,116]⟩,eV E 5] 237)).cell? ⟨w.heap.size,0,none⟩=some (.int .i64 0):=Ja hrow2;have r1:(W.alloc (.cells #[.string ⟨#[104,101,105,103,104,116]⟩,eV E 5] 237)).cell? ⟨w.heap.size,1,none⟩=some (.pointer none):=Ja hrow2;have fR:∀j,(W.alloc (.cells #[.string ⟨#[104,101,105,103,104,116]⟩,eV E 5] 237)).frozen? ⟨w.heap.size,j,none⟩=false:=λj=>Qg _ _ _ _ _ hrow2;clear hrow2 hpl t2;generalize W.alloc (.cells #[.string ⟨#[104,101,105,103,104,116]⟩,eV E 5] 237)=W2 at *;go_wp2;rw[set2 _ _ _ _ _ _ _ HR2.o];refine QJ (v:=.tuple #[.agg #[.int .i64 0,.pointer none],.iface 235 (.pointer (some ⟨W.heap.size,0,none⟩))]) (Jn results92 _ _ w.heap.size _ _ (0,0) _ rfl (Qi _ _ _ _ _ _ HR2.o) underlying146 rfl (by kernel_rfl)) rfl ⟨_,_,rfl,?_,?_⟩
 ·exact .wrap W.heap.size ⟨#[104,101,105,103,104,116]⟩ (eV E 5) ((setRow_other _ _ _ _ (by omega)).trans HPL.o) .base
 ·exact(HA.o.go HT2.o).trans (Ts _ _ _) (λj hj=>.inr (by omega))
theorem Jfy(E:Nat->Addr)(hE:Env E w)(h:Jz w cb wj fl r bs v)(k:Int)(hf:(fl:Int)<=k)(hk:¬(0<=k/\k<bs.length)):
  Calls prog 92 #[.pointer (some ⟨cb,0,none⟩),.int .i64 k] w λe w'=>∃t u,e=.returned (.tuple #[Jv 0 none,.iface t u])/\Jp E 5 w' (.iface t u)/\Tch NoB w w':=by
 obtain⟨W,hW⟩:∃W,W=w.alloc (.cells #[.int .i64 0,.pointer none] 146):=⟨_,rfl⟩
 have hA:Tch NoB w W:=by rw[hW];exact Ta _ _ _
 have c1:W.cell? ⟨cb,1,none⟩=some (.int .i64 (fl:Int)):=Ja (h.next hA).row;have HAT:Hid (Calls _ _ _ _ _):=JkA E (hE.tch hA noE) (h.next hA) k hk;have hrow:W.heap[w.heap.size]? =some (.cells #[.int .i64 0,.pointer none] 146):=by rw[hW];exact Qf _ _
 have HW:Hid (W=w.alloc (.cells #[.int .i64 0,.pointer none] 146)):=hW;have HR:Hid (W.heap[w.heap.size]? =_):=hrow;have HA:Hid (Tch _ w W):=hA;simp only[bV,Jh,Option.map_none]at HAT;show Calls _ _ _ _ λe w'=>∃t u,e=.returned (.tuple #[.agg #[.int .i64 0,.pointer none],.iface t u])/\_;have hlt:¬k<(fl:Int):=by omega
 clear h hk hW hrow hA hf hE;go_enter func92,ntmps92;go_upto_region 1 with fail;rw[<-HW.o];go_wp2_with fail;refine HAT.o.mono ?_;rintro _ w2⟨t,u,rfl,he2,ht2⟩;have hr2:w2.heap[w.heap.size]? =some (.cells #[.int .i64 0,.pointer none] 146):=(ht2.block _ (Jb HR.o) (λh=>h)).trans HR.o;have hz2:=(Jb hr2)
 obtain⟨W3,hW3⟩:∃W3,W3=w2.alloc (.cells #[.string ⟨#[]⟩,.int .i64 0,.pointer none] 148):=⟨_,rfl⟩
 have t3:Tch NoB w2 W3:=by rw[hW3];exact Ta _ _ _
 have hr3:W3.heap[w.heap.size]? =some (.cells #[.int .i64 0,.pointer none] 146):=(t3.block _ hz2 (λh=>h)).trans hr2;have hq3:W3.heap[w2.heap.size]? =some (.cells #[.string ⟨#[]⟩,.int .i64 0,.pointer none] 148):=by rw[hW3];exact Qf _ _
 have r0:W3.cell? ⟨w.heap.size,0,none⟩=some (.int .i64 0):=Ja hr3;have r1:W3.cell? ⟨w.heap.size,1,none⟩=some (.pointer none):=Ja hr3;have fR:∀j,W3.frozen? ⟨w.heap.size,j,none⟩=false:=λj=>Qg _ _ _ _ _ hr3;have q1:W3.cell? ⟨w2.heap.size,1,none⟩=some (.int .i64 0):=Ja hq3;have q2:W3.cell? ⟨w2.heap.size,2,none⟩=some (.pointer none):=Ja hq3;have HR3:Hid (W3.heap[w.heap.size]? =_):=hr3;have HW3:Hid (W3=_):=hW3;have HT3:Hid (Tch NoB w W3):=(HA.o.go ht2).go t3;have HE3:Hid (Jp E 5 W3 (.iface t u)):=he2.tch t3 (λ_ _ _ _ h=>h);clear ht2 hr2 t3 hr3 hq3 hW3 HAT HR HA HW c1 he2;go_upto_region 4 with fail;rw[<-HW3.o];go_wp2;rw[set2 _ _ _ _ _ _ _ HR3.o];refine QJ (v:=.tuple #[.agg #[.int .i64 0,.pointer none],.iface t u]) (Jn results92 _ _ w.heap.size _ _ (0,0) _ rfl (Qi _ _ _ _ _ _ HR3.o) underlying146 rfl (by kernel_rfl)) rfl ⟨_,_,rfl,?_,?_⟩
 ·exact HE3.o.tch (Ts _ _ _) (λj c x hj e=>by rw[e,HR3.o]at hj;simp at hj)
 ·exact HT3.o.trans (Ts _ _ _) (λj hj=>.inr (by omega))
theorem Jg0(E:Nat->Addr)(hE:Env E w)(h:Jz w cb wj fl r bs v)(k:Int)(hk:¬((fl:Int)<=k/\k<bs.length)):
  Calls prog 92 #[.pointer (some ⟨cb,0,none⟩),.int .i64 k] w λe w'=>∃t u,e=.returned (.tuple #[Jv 0 none,.iface t u])/\Jp E 5 w' (.iface t u)/\Tch NoB w w':=by
 by_cases hf:k<(fl:Int)
 ·exact JgZ E hE h k hf
 ·exact Jfy E hE h k (by omega) (by omega)


theorem JhS(E:Nat->Addr)(wj:Nat)(hw:wj<=32)(h:HdL)(hh:HdOk wj h)(w:World)(hE:Env E w):
  Calls prog 212 #[.int .i64 (wj:Int),.string ⟨(hdrB h).toArray⟩] w λe w'=>e=.returned (.tuple #[.string h.2.2.2,.nilIface])/\Tch NoB w w':=by
 have hlen:(hdrB h).length<=1000:=by obtain⟨h1,h2,h3,h4⟩:=hh;unfold hdrB;simp only[Qe,Jf,QA];have e2:h.2.1.data.size=wj:=h2;have e3:h.2.2.1.data.size=wj:=h3;have e4:h.2.2.2.data.size=wj:=h4;omega
 have hrd:(PS.rd [] (hdrB h)).hdr wj (0,⟨#[]⟩,⟨#[]⟩,⟨#[]⟩)=some (h,.rd (hdrB h) []):=by have:=(Jfv wj h (0,⟨#[]⟩,⟨#[]⟩,⟨#[]⟩) hh).rd [] [];rw[QC]at this;exact this
 have HHD:Hid (∀W,Tch NoB w W->Jc W w.heap.size none (wj:Int) .nilIface (.rd [] (hdrB h))->Calls prog 86 #[.pointer (some ⟨w.heap.size,0,none⟩),.agg #[.int .u64 0,.string ⟨#[]⟩,.string ⟨#[]⟩,.string ⟨#[]⟩]] W λe w'=>e=.returned (.agg #[.int .u64 (h.1:Int),.string h.2.1,.string h.2.2.1,.string h.2.2.2])/\RdTo E W w' w.heap.size (wj:Int) (some (.rd (hdrB h) []))):=λW hT hp=>JhU E hE wj hw ⟨(hdrB h).toArray⟩ (by rw[Jy];omega) h _ hrd hT hp;obtain⟨n,s1,s2,s3⟩:=h;dsimp only at HHD ⊢;clear hE hh hlen hrd;have HL:Hid (∀hb,hb=hdrB (n,s1,s2,s3)->_):=λhb (_:hb=hdrB (n,s1,s2,s3))=>trivial;clear HL;generalize hhb:hdrB (n,s1,s2,s3)=hb at *;clear hhb;go_enter func212,ntmps212;go_wp2_with fail;refine(XR _ _ _).mono ?_;rintro _ w1⟨rfl,hp1,ht1⟩;have HT1:Hid (Tch NoB w w1):=ht1;have HP1:Hid (Jc w1 w.heap.size none (wj:Int) .nilIface (.rd [] hb)):=hp1;clear ht1 hp1;go_wp2_with fail;refine(HHD.o w1 HT1.o HP1.o).mono ?_;rintro _ w2⟨rfl,⟨hp2,_⟩,ht2⟩;obtain⟨W3,hW3⟩:∃W3,W3=w2.alloc (.cells #[.int .u64 (n:Int),.string s1,.string s2,.string s3] 167):=⟨_,rfl⟩
 have hA:Tch NoB w2 W3:=by rw[hW3];exact Ta _ _ _
 have HT2:Hid (Tch NoB w W3):=(HT1.o.trans ht2 (λj hj=>.inr (Nat.le_of_eq hj.symm))).go hA;have HP2:Hid (Jc W3 w.heap.size none (wj:Int) .nilIface (.rd hb [])):=hp2.tch hA (λh=>h) (λ_ _ h=>h);have hr3:W3.heap[w2.heap.size]? =some (.cells #[.int .u64 (n:Int),.string s1,.string s2,.string s3] 167):=by rw[hW3];exact Qf _ _
 have c3:W3.cell? ⟨w2.heap.size,3,none⟩=some (.string s3):=Ja hr3;have C3:Hid (W3.heap[w2.heap.size]? =_):=hr3;have HW3:Hid (W3=_):=hW3;have HDN:Hid (∀W,Tch NoB W3 W->Calls prog 88 #[.pointer (some ⟨w.heap.size,0,none⟩)] W λe w'=>e=.returned .nilIface/\Tch NoB W w'):=λW hT=>JbH w.heap.size (wj:Int) hb W (HP2.o.tch hT (λh=>h) (λ_ _ h=>h));clear hp2 ht2 HHD HP1 HT1 hA hr3 hW3 HP2;go_upto_region 3 with fail;rw[<-HW3.o];have HC:Hid (∀W,Tch NoB W3 W->W.cell? ⟨w2.heap.size,3,none⟩=some (.string s3)):=λW hT=>Ja ((hT.block _ (Jb C3.out) (λh=>h)).trans C3.out);go_region_with (go_at_call 88;refine(HDN.o _ (Td _ _ 1)).mono ?_;rintro _ w4⟨rfl,ht4⟩;have HT4:Hid (Tch NoB W3 w4):=(Td NoB W3 1).go ht4;have c4:=HC.o _ HT4.o;clear ht4)
 all_goals go_wp2;go_ret2;exact⟨rfl,HT2.o.go HT4.o⟩

theorem Jc0{b:BA}(h:a.toList=b.toList):a=b:=by
 rw[ByteArray.toList_eq,ByteArray.toList_eq]at h;exact Jnm (by simpa using h)

def Ast(w:World):Prop:=∃t u,w.cell? ⟨11,0,none⟩=some (.iface t u)
theorem Ast.tch{S:Nat->Prop}(h:Ast w)(k:Tch S w w')(hs:¬S 11):Ast w':=by
 obtain⟨t,u,h⟩:=h;exact⟨t,u,(k.cell (Qr _ _ h) hs).trans h⟩

attribute [local go_sem] Oper.semAt_some

end Go.Proofs.YtighkdnooglfjaaGreatDoor
namespace Go.Proofs
open Go.Shelf
end Go.Proofs
namespace Go.Proofs.YtighkdnooglfjaaGreatDoor
open Tryz
open Go.RowKit Go.Shelf

attribute [local go_sem] Oper.semAt_some

def nV(l:List BA):List Value:=l.map .string
def NOwn(base:Nat)(w:World)(v:Value)(l:List BA):Prop:=w.ownsRow base 9 1 v l.length (nV l)
theorem NOwn.nil(base:Nat)(w:World):NOwn base w (.slice none 0 0) []:=⟨rfl,.inl ⟨rfl,rfl⟩⟩
theorem NOwn.own{base:Nat}{w:World}{v:Value}{l:List BA}(h:NOwn base w v l):∀k,v.ownBlock=some k->base<=k/\∃cs m,w.heap[k]? =some (.cells cs 9 m):=by
 obtain⟨_,⟨rfl,h0⟩|⟨g,cap,cur,rfl,hb,hrow,_⟩⟩:=h
 ·intro k hk;cases hk
 ·intro k hk;cases hk;exact⟨hb,_,_,hrow⟩
theorem NOwn.tch{base:Nat}{w w':World}{v:Value}{l:List BA}{S:Nat->Prop}(h:NOwn base w v l)(k:Tch S w w')(hs:∀j,v.ownBlock=some j->¬S j):NOwn base w' v l:=by
 obtain⟨h1,⟨rfl,h0⟩|⟨g,cap,cur,rfl,hb,hrow,h2⟩⟩:=h
 ·exact⟨h1,.inl ⟨rfl,h0⟩⟩
 ·exact⟨h1,.inr ⟨g,cap,cur,rfl,hb,(k.block g (Jb hrow) (hs g rfl)).trans hrow,h2⟩⟩
theorem NOwn.at{base:Nat}{w:World}{v:Value}{l:List BA}(h:NOwn base w v l)(hl:l ≠ []):∃g cap,v=.slice (some ⟨g,0,none⟩) l.length cap/\base<=g/\g<w.heap.size/\(∃cs m,w.heap[g]? =some (.cells cs 9 m))/\∀i (hi:i<l.length),w.cell? ⟨g,i,none⟩=some (.string l[i])/\w.frozen? ⟨g,i,none⟩=false:=by
 obtain⟨_,⟨rfl,h0⟩|⟨g,cap,cur,rfl,hb,hrow,_,_,hsz,htake⟩⟩:=h
 ·exact absurd (QO h0) hl
 ·refine⟨g,cap,rfl,hb,(Jb hrow),⟨_,_,hrow⟩,λi hi=>⟨?_,Qg _ _ _ _ _ hrow⟩⟩;rw[Ja hrow,<-Array.getElem?_toList];have e:(nV l)[i]? =some (.string l[i]):=by simp[nV,hi]
  rw[<-htake,List.getElem?_take_of_lt (by omega)]at e;exact e
theorem NOwn.shape{base:Nat}{w:World}{v:Value}{l:List BA}(h:NOwn base w v l):∃a c,v=.slice a l.length c:=by
 obtain⟨_,⟨rfl,h0⟩|⟨g,cap,cur,rfl,hb,hrow,_⟩⟩:=h
 ·exact⟨none,0,by rw[h0]⟩
 ·exact⟨_,_,rfl⟩
theorem Jjq{P:Program}(w:World)(ty:TypeId)(a:Addr)(v:Value)(ha:(isAgg ty).run P w=.ok false w)(hc:w.cell? a=some v):(loadVar ty a).run P w=.ok v w:=by
 simp only[loadVar,Sem.run_bind,ha,Result.andThen];simp[hc]
theorem Jgi:(prog.info? 9).map (λi=>(i.zero,i.size,i.bytes))=some (some (.string ⟨#[]⟩),1,16):=by kernel_rfl
theorem Xx{base:Nat}{w:World}{v:Value}{l:List BA}(h:NOwn base w v l)(k:Nat)(x:BA)(hx:w.cell? ⟨k,0,none⟩=some (.string x))(ty:TypeId)(hb:l.length<=10000000000)(hbase:base<=w.heap.size):
  ∃v' w',(Builtin.append_ #[58,58] ty #[v,.slice (some ⟨k,0,none⟩) 1 1]).run prog w=.ok v' w'/\NOwn base w' v' (l++[x])/\w.grownBy w' v.ownBlock:=by
 obtain⟨i,hi,hp⟩:=Option.map_eq_some_iff.1 Jgi;simp only[Qw]at hp;obtain⟨hz,hsz,hby⟩:=hp;obtain⟨v',w',hr,h2,h3,h4⟩:=run_append_own (P:=prog) w base 58 ty 9 i _ 1 16 underlying58 hi hz hsz hby rfl (by omega) v l.length (nV l) h ⟨k,0,none⟩ 1 1 (nV [x]) rfl (λj u hu=>by
  cases j with
  | zero=>simp only[nV,List.map_cons,List.map_nil,List.getElem?_cons_zero,Qh]at hu;rw[<-hu,Addr.add_lit];exact hx
  | succ j=>simp[nV]at hu) (λu hu=>by simp only[nV,List.map_cons,List.map_nil,Qt]at hu;rw[hu];rfl) (by simp only[maxLen];omega) (by omega) hbase
 exact⟨v',w',hr,by unfold NOwn;rw[Qe,show nV (l++[x])=nV l++nV [x] by simp[nV]];exact h2,h3⟩
theorem JdZ{P:Program}{ops:Array Oper}{l n:Nat}{o:Oper}{rest:List Oper}{a:Act}{w w':World}{Q:Exit->Act->World->Prop}{v xv v':Value}(hgd:o.guard=none)(s x:Operand)(T:TypeId)(ho:o.op=.call { callee:=.builtin .append,args:= #[s,x],argTypes:= #[T,T] })
  (hv:a.eval s=v) (hx:a.eval x=xv) (hr:(Builtin.append_ #[T,T] o.type #[v,xv]).run P w=.ok v' w') (hK:wpListIn (Fence.wide.inRound l) n P ops Q rest (a.put o.dst v') w'):wpListIn (Fence.wide.inRound l) n P ops Q (o::rest) a w:=by
 have hw:Region.wanted o (yielded ops a.tmps)=true:=by simp[Region.wanted,hgd]
 unfold wpListIn;rw[if_pos hw];refine JmI (K:=λa w=>wpListIn (Fence.wide.inRound l) n P ops Q rest a w) (λc e=>by rw[ho]at e;cases e) (λ_ _ h=>h) ?_;unfold Oper.wp;simp[execOp,ho,resolve,invoke,builtin,hv,hx,hr,Result.andThen];exact hK
open Go.RowKit
