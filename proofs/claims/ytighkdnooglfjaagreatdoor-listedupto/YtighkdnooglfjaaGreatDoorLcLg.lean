import Derived.Test.YtighkdnooglfjaaGreatDoorLcLst
import Derived.Test.YtighkdnooglfjaaGreatDoorLcRwt
namespace Go.Proofs.YtighkdnooglfjaaGreatDoor
open Tryz
set_option maxRecDepth 100000
set_option maxHeartbeats 2000000
open Go.RowKit

variable {what:BA}{l:List VV}{N b least most size:Nat}{S:Nat->Prop}{v:Value}{w w':World}
def ShO(x:VV):Prop:=∃(a:Int)(o:Int),x=(.int .u64 a,.int .u8 o)
def ShC(x:VV):Prop:=∃(a:BA)(o:Int),x=(.string a,.int .i64 o)
def ShT(x:VV):Prop:=∃(a:Sl)(o:Sl),x=(.slice a.1 a.2.1 a.2.2,.slice o.1 o.2.1 o.2.2)
def ShS(x:VV):Prop:=∃(a:Int)(o:BA),x=(.int .i64 a,.string o)
abbrev lkO:LK:=⟨80,22,351,205⟩
abbrev lkC:LK:=⟨49,96,349,203⟩
abbrev lkT:LK:=⟨98,73,234,134⟩
abbrev lkS:LK:=⟨366,255,367,218⟩
abbrev zO:VV:=(.int .u64 0,.int .u8 0)
abbrev zC:VV:=(.string ⟨#[]⟩,.int .i64 0)
abbrev zT:VV:=(.slice none 0 0,.slice none 0 0)
abbrev zS:VV:=(.int .i64 0,.string ⟨#[]⟩)
structure LX where
 k:LK
 fE:FuncId
 fS:FuncId
 fL:FuncId
 z:VV
 Sh:VV->Prop
 by_:Nat
abbrev xO:LX:=⟨lkO,189,282,204,zO,ShO,16⟩
abbrev xC:LX:=⟨lkC,280,281,202,zC,ShC,24⟩
abbrev xT:LX:=⟨lkT,135,201,133,zT,ShT,48⟩
abbrev xS:LX:=⟨lkS,286,291,216,zS,ShS,24⟩
def IsL(K:LX):Prop:=K=xO\/K=xC\/K=xT\/K=xS
theorem isO:IsL xO:=.inl rfl
theorem isC:IsL xC:=.inr (.inl rfl)
theorem isT:IsL xT:=.inr (.inr (.inl rfl))
def Tag(_:LX):Prop:=True
abbrev Tag.K{K:LX}(_:Tag K):LX:=K
theorem JnV{K:LX}(hK:IsL K){x:VV}(h:K.Sh x):x.1.oneCell'=true/\x.2.oneCell'=true:=by
 rcases hK with rfl|rfl|rfl|rfl
 all_goals obtain⟨a,o,rfl⟩:=h;exact⟨rfl,rfl⟩
theorem JmG(a b:Value):∀n:Nat,madeCells #[a,b] (n*2)=vvA (List.replicate n (a,b)):=by
 intro n;apply Array.ext_getElem?;intro k
 by_cases hk:k<n*2
 ·obtain⟨e0,e1⟩:=ZE (List.replicate n (a,b)) (k/2) (by rw[List.length_replicate];omega);rw[List.getElem_replicate]at e0 e1;have hm:(madeCells #[a,b] (n*2))[k]? =some (#[a,b][k % 2]!):=by simp[madeCells,hk]
  rw[hm]
  rcases Nat.mod_two_eq_zero_or_one k with hp|hp
  ·rw[hp,show k=k/2*2 by omega,e0];rfl
  ·rw[hp,show k=k/2*2+1 by omega,e1];rfl
 ·rw[Array.getElem?_eq_none (by rw[size_madeCells];omega),Array.getElem?_eq_none (by rw[JaK,List.length_replicate];omega)]
theorem Jnf{K:LX}(hK:IsL K):(prog.info? K.k.tE).map (λi=>(i.zero,i.size,i.bytes))=some (some (.agg #[K.z.1,K.z.2]),2,K.by_)/\prog.underlying K.k.tS=some (.slice K.k.tE)/\(Value.agg #[K.z.1,K.z.2]).cells= #[K.z.1,K.z.2]/\K.by_<=48/\(prog.info? K.k.tE).map (·.size)=some 2:=by
 rcases hK with rfl|rfl|rfl|rfl
 all_goals refine⟨by kernel_rfl,by kernel_rfl,rfl,by decide,by kernel_rfl⟩
theorem mkL{K:LX}(hK:IsL K)(n:Nat)(h:n<=264)(w:World):(Instr.makeSlice K.k.tS (.int .u64 (n:Int)) (.int .u64 (n:Int))).run prog w=.ok (.slice (some ⟨w.heap.size,0,none⟩) n n) (w.alloc (.cells (vvA (List.replicate n K.z)) K.k.tE)):=by
 obtain⟨h1,hu,hc,hb,_⟩:=Jnf hK;obtain⟨i,hi,hp⟩:=Option.map_eq_some_iff.1 h1;simp only[Qw]at hp;obtain⟨hz,hsz,hby⟩:=hp;have:=run_makeSlice (P:=prog) (w:=w) K.k.tS K.k.tE i _ hu hi hz .u64 .u64 (n:Int) (n:Int) (by omega) (by omega) (by rw[hsz];omega) (by rw[hby];have:=Nat.mul_le_mul hb h;omega) (by omega);rw[this,Int.toNat_natCast,hsz,hc,JmG]

theorem Jne{K:LX}(hK:IsL K)(f:FuncId)(caps:Array Value)(what:BA)(g off n cap:Nat)(x:Nat->VV)(hx:∀i,i<n->K.Sh (x i))(Inv:Nat->World->Prop)(Bad:Value->World->Prop)(H:JcU f caps g off n x Inv Bad)(hn:n<=264)(hIt:∀v W,Bad v W->∀i:Nat,i<n->Calls prog 101 #[.int .i64 (i:Int)] W λe w'=>(∃s:BA,s.size<=30/\e=.returned (.string s))/\Below W.heap.size W w')(hw:what.size<=1000)(w:World)(h0:Inv 0 w):
  Calls prog K.fE #[.string what,.slice (some ⟨g,off,none⟩) n cap,.func (.func f) #[] caps] w λe w'=>ToE Inv Bad n e w':=by
 have HX:Hid _:=hx;have HIT:Hid _:=hIt;have hk:Tag K:=trivial
 rcases hK with rfl|rfl|rfl|rfl
 all_goals
  first|go_enter func189,ntmps189|go_enter func280,ntmps280|go_enter func135,ntmps135|go_enter func286,ntmps286
  go_wp2;go_loopw [12] (λi wr=>∃k:Nat,k<=n/\i=.int .i64 k/\Inv k wr) (λi _=>n-(intOf i).toNat)
  case atStart=>exact⟨0,by omega,rfl,h0⟩
  case round=>
   obtain⟨k,hk,rfl,hI⟩:=hrel
   by_cases hlt:k<n
   ·obtain⟨c0,c1⟩:=H.read k _ hlt hI;have hcall:=λW=>H.call k W hlt;obtain⟨xa,xo,hxk⟩:=HX k hlt;rw[hxk]at c0 c1 hcall;have HCA:Hid _:=hcall;have hlti:(k:Int)<(n:Int):=(by omega);have hen:=H.enter;go_wp2_with fail;refine(HCA.o _ (H.alloc k _ _ hI)).mono ?_;rintro _ w1 (⟨rfl,hI1⟩|⟨t,v,rfl,hB⟩)
    ·go_wp2;go_roundw
     case rel=>exact⟨k+1,by omega,by go_num,hI1⟩
     case measure=>simp[intOf];omega
    ·have HB:Hid _:=hB;go_wp2_with fail;refine(HIT _ _ HB k hlt).mono ?_;rintro _ w2⟨⟨s1,hs1,rfl⟩,(HB2:Hid _)⟩;have hws:(what++(⟨#[32]⟩:BA)).size<=1001:=(by rw[ByteArray.size_append];show what.size+1<=1001;omega);generalize what++(⟨#[32]⟩:BA)=ws at *;have hnb:¬(ws.size+s1.size > 9223372036854775807):=(by omega);go_wp2_with fail;refine(Xl (ws++s1) t v _).mono ?_;rintro _ _⟨rfl,rfl⟩;go_wp2;go_ret;exact .inr ⟨w2.heap.size,ws++s1,.iface t v,w1,rfl,Qf _ _,HB,HB2.alloc HB2.size _⟩
   ·have HK:Hid (k=n):=(by omega:k=n)
    have hge:¬(k:Int)<(n:Int):=(by omega);have HI:Hid _:=hI;go_wp2;go_ret;exact .inl ⟨rfl,by rw[<-HK.o];exact HI⟩

theorem Jb2{K:LX}(hK:IsL K)(f:FuncId)(caps:Array Value)(what:BA)(g off n cap:Nat)(x:Nat->VV)(hx:∀i,i<n->K.Sh (x i))(Inv:Nat->World->Prop)(Bad:Value->World->Prop)(H:JcU f caps g off n x Inv Bad)(hn:n<=3)(hw:what.size<=1000)(w:World)(h0:Inv 0 w):
  Calls prog K.fE #[.string what,.slice (some ⟨g,off,none⟩) n cap,.func (.func f) #[] caps] w λe w'=>ToE Inv Bad n e w':=
 Jne hK f caps what g off n cap x hx Inv Bad H (by omega) (λ_ W _ i hi=>(Jho i (by omega) W).mono λe w' h=>by
  obtain⟨⟨s,h1,h2⟩,rfl⟩:=h;exact⟨⟨s,by omega,h2⟩,Below.refl _ _⟩) hw w h0
theorem Jot{K:LX}(hK:IsL K){E:Nat->Addr}{b wj lim:Nat}{α:Type}{Q:Ye α}(H:Ze E b wj lim K.k.fP Q K.Sh)(N gp cnt:Nat)(w:World)(g:Option Nat)(i:Nat)(x:VV)(a:α)(l:List VV)(p:PS)(hE:Env E w)(hL:YF K.k w b g N gp cnt l)(hp:Jc w b g wj .nilIface p)(hI:Q.Init b w p x a)(hi:i<cnt)(hd:p.len<=lim):
  Calls prog K.fS #[.int .i64 (i:Int),.agg #[x.1,x.2],.pointer (some ⟨N+2,0,none⟩),.pointer (some ⟨gp+1,0,none⟩),.pointer (some ⟨N,0,none⟩)] w λe w'=>Jkm K.k E w b g wj N gp cnt i Q l (Q.f a p) e w':=by
 have c0:=rows hL.box0;have c1:w.cell? ⟨N+2,0,none⟩=some (.func (.func K.k.fP) #[.pointer (some ⟨b,0,none⟩)] #[]):=Ja hL.box1;have c2:w.cell? ⟨gp+1,0,none⟩=some (.slice (some ⟨gp,0,none⟩) cnt cnt):=Ja hL.box2;have hlt:=hp.lt;have l2:=(Jb hL.box2)
 have hh:=hL.high;have n0:N<w.heap.size:=by omega
 have n1:N+2<w.heap.size:=by omega
 have hii:(i:Int)<(cnt:Int):=by omega
 have hsh:=H.init_shape hI;have tA:Tch NoB w (w.alloc (.cells #[x.1,x.2] K.k.tE)).drew:=(Ta _ w _).trans (Td _ _ 1) (λ_ h=>.inl h);have hLA:Hid (YF K.k (w.alloc (.cells #[x.1,x.2] K.k.tE)).drew b g N gp cnt l):=hL.tch tA noE (.inl rfl);have HC:Hid (Calls prog K.k.fP #[.pointer (some ⟨b,0,none⟩),.agg #[x.1,x.2]] (w.alloc (.cells #[x.1,x.2] K.k.tE)).drew _):=H.call (x:=x) (hE.tch tA noE) (hp.tch tA (λh=>h) (λ_ _ h=>h)) (H.init_tch hI tA noE (PS.like.refl _)) hd;have TA:Hid _:=tA;have HDT:Hid (∀{w w':World} {B:Nat} {g g':Option Nat} {x:VV} {a:α} {S:Nat->Prop},Q.Done w B g x a->Tch S w w'->(∀j,S j->j<B\/some j=g\/w.heap.size<=j)->Jm w g g'->Q.Done w' B g' x a):=H.done_tch;have HDM:Hid (∀{w:World} {B B':Nat} {g:Option Nat} {x:VV} {a:α},Q.Done w B g x a->B'<=B->Q.Done w B' g x a):=H.done_mono;clear hL hp hE hI tA H;have hk:Tag K:=trivial
 rcases hK with rfl|rfl|rfl|rfl
 all_goals
  obtain⟨xa,xo,rfl⟩:=hsh;dsimp only at hLA HC TA
  first|go_enter func282,ntmps282|go_enter func281,ntmps281|go_enter func201,ntmps201|go_enter func291,ntmps291
  go_wp2;go_region_with ((first|go_at_call 205|go_at_call 203|go_at_call 134|go_at_call 218);refine HC.o.mono ?_;rintro _ w1⟨_,⟨ya,yo,rfl⟩,rfl,g1,err,p1,hp1,hm1,ht1,hres⟩;have HL1:Hid (YF _ w1 b g1 N gp cnt l):=hLA.out.tch ht1 (λj h=>by rcases h with h|h;exact .inl h;exact .inr (.inl h)) hm1;obtain⟨x0,y0,d0,d1,d2,d3⟩:=Jgo HL1.o hi;have e2:w1.cell? ⟨gp+1,0,none⟩=some (.slice (some ⟨gp,0,none⟩) cnt cnt):=Ja HL1.o.box2;have HP1:Hid (Jc _ _ _ _ _ _):=hp1;have HM1:Hid (Jm _ _ _):=hm1;have HT1:Hid (Tch _ _ _):=ht1;have HRES:Hid (match Q.f a p with|some (a,p2)=>p1=p2/\err=.nilIface/\Q.Done w1 _ g1 _ a|none=>Jp E 7 w1 err):=hres;clear hp1 hm1 ht1 hres)
  all_goals
   first
    | (obtain⟨j0,je,q1,q2,q3⟩:=JaO HL1.o HP1.o hi (.int .u64 ya) (.int .u8 yo);generalize (w1.setCell ⟨gp,i*2,none⟩ (.int .u64 ya)).setCell ⟨gp,i*2+1,none⟩ (.int .u8 yo)=W3 at *)
    | (obtain⟨j0,je,q1,q2,q3⟩:=JaO HL1.o HP1.o hi (.string ya) (.int .i64 yo);generalize (w1.setCell ⟨gp,i*2,none⟩ (.string ya)).setCell ⟨gp,i*2+1,none⟩ (.int .i64 yo)=W3 at *)
    | (obtain⟨j0,je,q1,q2,q3⟩:=JaO HL1.o HP1.o hi (.slice ya.1 ya.2.1 ya.2.2) (.slice yo.1 yo.2.1 yo.2.2);generalize (w1.setCell ⟨gp,i*2,none⟩ (.slice ya.1 ya.2.1 ya.2.2)).setCell ⟨gp,i*2+1,none⟩ (.slice yo.1 yo.2.1 yo.2.2)=W3 at *)
    | (obtain⟨j0,je,q1,q2,q3⟩:=JaO HL1.o HP1.o hi (.int .i64 ya) (.string yo);generalize (w1.setCell ⟨gp,i*2,none⟩ (.int .i64 ya)).setCell ⟨gp,i*2+1,none⟩ (.string yo)=W3 at *)
   have Q1:Hid (YF _ _ _ _ _ _ _ _):=q1;have Q2:Hid (Jc _ _ _ _ _ _):=q2;have Q3:Hid (Tch _ _ _):=q3;clear q1 q2 q3;go_wp2;go_ret;have hsz:=TA.out.size;have hm:Jm w g g1:=by
    rcases HM1.o with h|⟨j,h,hj⟩
    ·exact .inl h
    ·exact .inr ⟨j,h,Qm hsz hj⟩
   have ht:Tch (λk=>k=b\/some k=g\/k=gp) w W3:=((TA.out.mono noE).trans HT1.o (λj h=>by rcases h with h|h;exact .inl (.inl h);exact .inl (.inr (.inl h)))).trans Q3.out (λj h=>.inl (.inr (.inr h)));refine⟨ht,?_⟩;have hr:=HRES.o
   cases hq:Q.f a p with
   | some r=>
    obtain⟨a',p2⟩:=r;rw[hq]at hr;obtain⟨rfl,rfl,hdn⟩:=hr;have z:∀o,w.heap.size+1=(w.alloc o).drew.heap.size:=λ_=>by simp
    exact⟨rfl,g1,(_,_),Q2.out,Q1.out,HDT.o (HDM.o hdn (by rw[<-z];omega)) Q3.out (λj h=>.inl (by omega)) (.inl rfl),hm⟩
   | none=>
    rw[hq]at hr;exact⟨err,rfl,hr.tch Q3.out (λq s u hq e=>by subst e;rw[HL1.o.arr]at hq;simp at hq),g1,p1,Q2.out,hm,Q1.out.box0⟩

theorem Jlg(what:BA)(hwh:what.size<=1000):∃s1 s2:BA,(∀W,(Op.stringOp .add (⟨#[110,117,109,98,101,114,32,111,102,32]⟩:BA) what).run prog W=.ok (.string s1) W)/\∀W,(Op.stringOp .add s1 (⟨#[115]⟩:BA)).run prog W=.ok (.string s2) W:=by
 obtain⟨s1,hs1,ha1⟩:∃s1:BA,s1.size<=1010/\∀W,(Op.stringOp .add (⟨#[110,117,109,98,101,114,32,111,102,32]⟩:BA) what).run prog W=.ok (.string s1) W:=
  ⟨_,by rw[ByteArray.size_append];show 10+what.size<=1010;omega,λW=>run_string_add_sum (P:=prog) W _ _ (by show 10+what.size<=_;omega)⟩
 obtain⟨s2,ha2⟩:∃s2:BA,∀W,(Op.stringOp .add s1 (⟨#[115]⟩:BA)).run prog W=.ok (.string s2) W:=
  ⟨_,λW=>run_string_add_sum (P:=prog) W _ _ (by show s1.size+1<=_;omega)⟩
 exact⟨s1,s2,ha1,ha2⟩
structure BoxL(K:LX)(w:World)(N b:Nat)(what:BA)(size least most:Nat):Prop where
 c:w.heap[N]? =some (.cells #[.pointer (some ⟨b,0,none⟩)] 230)
 of:w.heap[N+1]? =some (.cells #[.string what,.int .i64 (size:Int),.int .u64 (least:Int),.int .u64 (most:Int)] 233)
 part:w.heap[N+2]? =some (.cells #[.func (.func K.k.fP) #[.pointer (some ⟨b,0,none⟩)] #[]] K.k.tF)
theorem BoxL.tch{K:LX}(h:BoxL K w N b what size least most)(k:Tch S w w')(hs:∀j,N<=j->j<N+3->¬S j):BoxL K w' N b what size least most:=
 ⟨(k.block _ (Jb h.c) (hs _ (by omega) (by omega))).trans h.c,(k.block _ (Jb h.of) (hs _ (by omega) (by omega))).trans h.of,(k.block _ (Jb h.part) (hs _ (by omega) (by omega))).trans h.part⟩
theorem BoxL.cells{K:LX}(h:BoxL K w N b what size least most):w.cell? ⟨N,0,none⟩=some (.pointer (some ⟨b,0,none⟩))/\w.cell? ⟨N+1,0,none⟩=some (.string what)/\w.cell? ⟨N+1,2,none⟩=some (.int .u64 (least:Int))/\w.cell? ⟨N+1,3,none⟩=some (.int .u64 (most:Int)):=
 ⟨Ja h.c,Ja h.of,Ja h.of,Ja h.of⟩

def Jko(b:Nat)(g:Option Nat)(v:Value):Prop:=∀a n c,v=.slice (some a) n c->a.block ≠ b/\some a.block ≠ g
theorem VAt.tchF{B:Nat}(h:VAt B w v l)(k:Tch S w w')(hs:∀a n c,v=.slice (some a) n c->¬S a.block):VAt B w' v l:=by
 rcases h with h|⟨gi,oi,c,hv,h1,h2,h3⟩
 ·exact .inl h
 ·refine .inr ⟨gi,oi,c,hv,h1,Qk h2 k.size,λi hi=>?_⟩;have hc:∀o,w'.cell? ⟨gi,o,Option.none⟩=w.cell? ⟨gi,o,Option.none⟩:=λo=>k.cell (p:=⟨gi,o,Option.none⟩) h2 (show ¬S gi from hs ⟨gi,oi,Option.none⟩ _ _ hv);rw[hc,hc];exact h3 i hi
theorem VAt.free{g:Option Nat}{wj:Int}{e:Value}{p:PS}(h:VAt b w v l)(hp:Jc w b g wj e p):Jko b g v:=by
 intro a n c e
 rcases h with⟨h,_⟩|⟨gi,oi,c,hv,h1,_⟩
 ·rw[h]at e;cases e
 ·rw[hv]at e
  cases e
  exact⟨by show gi ≠ b;omega,λe=>by have:=(hp.own _ e.symm).1;simp only at this;omega⟩
theorem JaQ{K:LX}(hK:IsL K)(b:Nat)(g:Option Nat)(wj:Nat)(what:BA)(hwh:what.size<=1000)(size least most:Nat)(v:Value)(ia:Option Addr)(n ic:Nat)(hvs:v=.slice ia n ic)(p0:PS)(t:TypeId)(u:Value)(w:World)(hp:Jc w b g wj (.iface t u) p0):
  Calls prog K.fL #[.pointer (some ⟨b,0,none⟩),.agg #[.string what,.int .i64 (size:Int),.int .u64 (least:Int),.int .u64 (most:Int)],v,.func (.func K.k.fP) #[.pointer (some ⟨b,0,none⟩)] #[]] w λe w'=>e=.returned (.slice none 0 0)/\Jc w' b g wj (.iface t u) p0/\Tch NoB w w':=by
 have hlt:=hp.lt;subst hvs;obtain⟨s1,s2,ha1,ha2⟩:=Jlg what hwh;have hk:Tag K:=trivial
 rcases hK with rfl|rfl|rfl|rfl
 all_goals
  first|go_enter func204,ntmps204|go_enter func202,ntmps202|go_enter func133,ntmps133|go_enter func216,ntmps216
  go_wp2_with fail;refine(Jag b g wj _ _ p0 t u _ (hp.allocs3 _ _ _)).mono ?_;rintro _ w1⟨rfl,hw1⟩;have HP:Hid (Jc w1 b g wj (.iface t u) p0):=by rw[<-hw1];exact hp.allocs3 _ _ _
  have HT:Hid (Tch NoB w w1):=by rw[<-hw1];exact Tch.allocs3 _ _ _ _ _
  obtain⟨c0,cA,cB,cC⟩:=(show BoxL hk.K w1 w.heap.size b what size least most by rw[<-hw1];exact⟨JN _ _ _ _,JG _ _ _ _,JH _ _ _ _⟩).cells;have ce:=HP.o.errCell;clear hp hw1;go_wp2_with (go_at_call 200;refine(Jbj b g wj _ p0 t u _ HP.o).mono ?_;rintro _ _⟨rfl,rfl⟩)
  all_goals go_ret
  all_goals exact⟨rfl,HP.o,HT.o⟩

theorem Jmy{K:LX}(hK:IsL K)(E:Nat->Addr)(b:Nat)(g:Option Nat)(wj:Nat)(what:BA)(hwh:what.size<=1000)(size least most:Nat)(v:Value)(ia:Option Addr)(n ic:Nat)(hvs:v=.slice ia n ic)(p0:PS)(w:World)(hE:Env E w)(hp:Jc w b g wj .nilIface p0)(hn:n<1000000)(hd:p0.len<=10000000000000)(hsz:size<=8)(h1:p0.num n size=none):
  Calls prog K.fL #[.pointer (some ⟨b,0,none⟩),.agg #[.string what,.int .i64 (size:Int),.int .u64 (least:Int),.int .u64 (most:Int)],v,.func (.func K.k.fP) #[.pointer (some ⟨b,0,none⟩)] #[]] w λe w'=>(∃a n c,e=.returned (.slice a n c))/\Jbo E w w' b g wj:=by
 have hlt:=hp.lt;subst hvs;have hlw:IntKind.u64.wrap (n:Int)=(n:Int):=JI _ (by omega) (by omega);obtain⟨s1,s2,ha1,ha2⟩:=Jlg what hwh;have hk:Tag K:=trivial
 rcases hK with rfl|rfl|rfl|rfl
 all_goals
  first|go_enter func204,ntmps204|go_enter func202,ntmps202|go_enter func133,ntmps133|go_enter func216,ntmps216
  go_wp2_with fail;refine(YU E b g wj n size p0 _ (hE.allocs3 _ _ _) (hp.allocs3 _ _ _) hsz hd h1).mono ?_;rintro _ w1⟨rfl,hp1,ht1⟩;obtain⟨c0,cA,cB,cC⟩:=(BoxL.tch (K:=hk.K) (b:=b) (what:=what) (size:=size) (least:=least) (most:=most) ⟨JN _ _ _ _,JG _ _ _ _,JH _ _ _ _⟩ ht1 (λj h1 h2 e=>by omega)).cells;have ce:=hp1.errCell;have HP1:Hid _:=hp1;have HT1:Hid _:=ht1;go_wp2_with (go_at_call 200;refine(Jbj b g wj _ p0 _ _ _ HP1).mono ?_;rintro _ _⟨rfl,rfl⟩)
  all_goals go_ret
  all_goals exact⟨⟨_,_,_,rfl⟩,g,p0,_,HP1,.base,.inl rfl,(Tch.allocs3 _ _ _ _ _).trans HT1 (λj h=>.inl (.inl h))⟩

theorem Jmz{K:LX}(hK:IsL K)(E:Nat->Addr)(b:Nat)(hb12:18<=b)(g:Option Nat)(wj:Nat)(what:BA)(hwh:what.size<=1000)(size least most:Nat)(v:Value)(ia:Option Addr)(n ic cnt:Nat)(hvs:v=.slice ia n ic)(p0 p:PS)(w:World)(hE:Env E w)(hp:Jc w b g wj .nilIface p0)(hn:n<1000000)(hd:p0.len<=10000000000000)(hsz:size<=8)(h1:p0.num n size=some (cnt,p))(hr:cnt<least\/most<cnt):
  Calls prog K.fL #[.pointer (some ⟨b,0,none⟩),.agg #[.string what,.int .i64 (size:Int),.int .u64 (least:Int),.int .u64 (most:Int)],v,.func (.func K.k.fP) #[.pointer (some ⟨b,0,none⟩)] #[]] w λe w'=>(∃a n c,e=.returned (.slice a n c))/\Jbo E w w' b g wj:=by
 have hlt:=hp.lt;subst hvs;have hlw:IntKind.u64.wrap (n:Int)=(n:Int):=JI _ (by omega) (by omega);obtain⟨s1,s2,ha1,ha2⟩:=Jlg what hwh;have hk:Tag K:=trivial
 rcases hK with rfl|rfl|rfl|rfl
 all_goals
  first|go_enter func204,ntmps204|go_enter func202,ntmps202|go_enter func133,ntmps133|go_enter func216,ntmps216
  go_wp2_with fail;refine(Xs b g wj n size cnt p0 p _ (hp.allocs3 _ _ _) hsz hd h1).mono ?_;rintro _ w1⟨rfl,g1,hp1,hm1,ht1⟩;have hB:=BoxL.tch (K:=hk.K) (b:=b) (what:=what) (size:=size) (least:=least) (most:=most) ⟨JN _ _ _ _,JG _ _ _ _,JH _ _ _ _⟩ ht1 (λj h1 h2=>Yk hp j h1);obtain⟨c0,cA,cB,cC⟩:=hB.cells;have ce:=hp1.errCell;have HE1:Hid _:=(hE.allocs3 _ _ _).tch ht1 (JaS hb12 hp);have hs1:=ht1.size;simp at hs1;have HB:Hid (BoxL hk.K w1 w.heap.size b what size least most):=hB;have HP1:Hid _:=hp1;have HM1:Hid (Jm _ g g1):=hm1;have HT1:Hid (Tch _ _ w1):=ht1;clear hp hp1 hm1 ht1 hE hB h1;have hdec:(decide (cnt<least) || decide (most<cnt))=true:=by simpa using hr
  clear hr;go_wp2_with fail
  all_goals refine(Jdr E b g1 wj s2 p w1 HE1.o HP1.o).mono ?_;rintro _ w5⟨rfl,hp5,he5,ht5⟩;obtain⟨k0,_,_,_⟩:=(HB.o.tch ht5 (λj h1 h2 e=>by omega)).cells;have ce5:=hp5.errCell;have HP5:Hid (Jc _ _ _ _ _ _):=hp5;have HE5:Hid (Jp _ _ _ _):=he5;have HT5:Hid (Tch _ _ _):=ht5;clear hp5 he5 ht5;go_wp2;go_ret;exact⟨⟨_,_,_,rfl⟩,g1,p,_,HP5.o,HE5.o,HM1.o.allocs3,((Tch.allocs3 _ _ _ _ _).trans HT1.o (λj h=>.inl h)).trans HT5.o (λj h=>.inl (.inl h))⟩

theorem JmA{K:LX}(hK:IsL K)(mx:Nat)(hmx:mx<=264){E:Nat->Addr}{wj lim:Nat}{α:Type}{Q:Ye α}(H:Ze E b wj lim K.k.fP Q K.Sh)(hz:Q.zeroV=K.z)(hb12:18<=b)(g:Option Nat)(what:BA)(hwh:what.size<=1000)(size least most:Nat)(v:Value)(l:List VV)(xa:List α)(cnt:Nat)(p0 p:PS)(w:World)
 (hE:Env E w) (hp:Jc w b g wj .nilIface p0) (hv:VAt w.heap.size w v l) (hvb:Jko b g v) (hl:l.length=xa.length) (hn:xa.length<1000000) (hd:p0.len+8+Q.grow*mx<=lim) (hlim:lim<=10000000000000) (hsz:size<=8) (hm3:most<=mx) (h1:p0.num xa.length size=some (cnt,p)) (hlo:least<=cnt) (hhi:cnt<=most) (hvc:v=.slice none 0 0\/xa.length=cnt)
 (hin:∀(j:Nat) x a,l[j]? =some x->xa[j]? =some a->Q.Init b w p0 x a):
  Calls prog K.fL #[.pointer (some ⟨b,0,none⟩),.agg #[.string what,.int .i64 (size:Int),.int .u64 (least:Int),.int .u64 (most:Int)],v,.func (.func K.k.fP) #[.pointer (some ⟨b,0,none⟩)] #[]] w λe w'=>ToL K.k E w b g wj Q (PS.many Q.f (JK Q.zero xa cnt) p) e w':=by
 have hlt:=hp.lt;obtain⟨ia,ic,hvs⟩:=hv.shape;rw[hl]at hvs;have hlw:IntKind.u64.wrap (xa.length:Int)=(xa.length:Int):=JI _ (by omega) (by omega);have hone:∀x∈l,x.1.oneCell'=true/\x.2.oneCell'=true:=λx hx=>by
  obtain⟨j,hj,rfl⟩:=List.getElem_of_mem hx;exact JnV hK (H.init_shape (hin j l[j] xa[j] (Qd hj) (Qd (by omega))))
 have HONE:Hid _:=hone;have HV:Hid (VAt w.heap.size w v l):=hv;have HVB:Hid _:=hvb;have HVC:Hid _:=hvc;have HIN:Hid _:=hin;have HL:Hid _:=hl;have H1:Hid (p0.num xa.length size=some (cnt,p)):=h1;clear hv hvb hvc hin hl hone;subst hvs;have hmk:=mkL hK cnt (by omega);obtain⟨_,(HUN:Hid _),_,_,(HIF:Hid _)⟩:=Jnf hK;have hEa:= @Jne K hK;have hSt:= @Jot K hK E b wj lim α Q H;have hk:Tag K:=trivial
 rcases hK with rfl|rfl|rfl|rfl
 all_goals
  have HEA:Hid _:=hEa;have HST:Hid _:=hSt;clear hEa hSt
  first|go_enter func204,ntmps204|go_enter func202,ntmps202|go_enter func133,ntmps133|go_enter func216,ntmps216
  go_wp2_with fail;refine(Xs b g wj xa.length size cnt p0 p _ (hp.allocs3 _ _ _) hsz (by omega) h1).mono ?_;rintro _ w1⟨rfl,g1,hp1,(HM1:Hid _),ht1⟩;have hB:=BoxL.tch (K:=hk.K) (b:=b) (what:=what) (size:=size) (least:=least) (most:=most) ⟨JN _ _ _ _,JG _ _ _ _,JH _ _ _ _⟩ ht1 (λj h1 h2=>Yk hp j h1);obtain⟨c0,cA,cB,cC⟩:=hB.cells;have ce:=hp1.errCell;have t1:¬(cnt:Int)<(least:Int):=by omega
  have t2:¬(most:Int)<(cnt:Int):=by omega
  have HP:Hid (Jc w b g wj .nilIface p0):=hp;have HP1:Hid _:=hp1;have HT1:Hid _:=ht1;have HB:Hid _:=hB;have HE:Hid _:=hE;have HH:Hid _:=H;have HZ:Hid _:=hz;clear hp hp1 ht1 hB hE H hz h1;have hs1:=HT1.o.size;simp at hs1;obtain⟨rr,hcp⟩:=Jma (z:=hk.K.z) (gp:=w1.heap.size) (cnt:=cnt) (w:=(w1.alloc (.cells (vvA (List.replicate cnt hk.K.z)) hk.K.k.tE)).alloc (.cells #[.slice (some ⟨w1.heap.size,0,none⟩) cnt cnt] hk.K.k.tS)) HUN HIF HONE.o
   ((HV.o.tch (Tch.allocs3 NoB w _ _ _) noE).tchF HT1.o (λa n c e hj=>by
    rcases hj with hj|hj
    ·exact(HVB a n c e).1 hj
    ·exact(HVB a n c e).2 hj) |>.tch (Tch.allocs NoB w1 _ _) noE) (heap_alloc2_old _ _ _) (by rw[HL.o];exact HVC)
  have hstl:=Ja7 hk.K.z HV rfl (by rw[HL.o];exact HVC);have hxal:=Ja7 Q.zero HV HL HVC.o;obtain⟨W3,hW3,F3⟩:=Jgp (K:=hk.K.k) (z:=hk.K.z) (w1:=w1) (st:=JK hk.K.z l cnt) HP HP1 HM1 HT1 HB.c HB.part HE hb12 hs1 hstl;rw[<-hW3]at hcp;have hcp3:=hcp 3;obtain⟨(G1:Hid _),F2,F4,F5,F6,F8,F7⟩:=F3;obtain⟨k0,kA,_,_⟩:=(HB.o.tch F8 (λ_ _ _ h=>h)).cells;have k2:W3.cell? ⟨w1.heap.size+1,0,none⟩=some (.slice (some ⟨w1.heap.size,0,none⟩) cnt cnt):=Ja G1.box2;have G2:Hid (Jc _ _ _ _ _ _):=F2;have G4:Hid (Env E W3):=F4;have G5:Hid (Jm _ _ _):=F5;have G6:Hid (Tch _ _ _):=F6;have hpl:=Jaf _ _ _ _ _ H1.o;have hgr:Q.grow*cnt<=Q.grow*mx:=Nat.mul_le_mul_left _ (by omega);have HS:Hid (JcU _ _ _ _ _ _ (InvV hk.K.k E W3 b g1 wj w.heap.size w1.heap.size cnt Q (JK hk.K.z l cnt) (JK Q.zero xa cnt) p) (BadV E W3 b g1 wj w.heap.size w1.heap.size Q (JK Q.zero xa cnt) p)):=Jou HH.o hk.K.fS (λ_ _=>by kernel_rfl) W3 hb12 g1 w.heap.size w1.heap.size cnt (JK hk.K.z l cnt) (JK Q.zero xa cnt) p hstl hxal (by omega) (by omega) (λW g i x a l p=>HST.o _ _ _ W g i x a l p);have tD:=Td NoB W3 1;have HIN3:Hid (∀(j:Nat) x t,(JK hk.K.z l cnt)[j]? =some x->(JK Q.zero xa cnt)[j]? =some t->Q.Init b W3.drew p x t):=by
   have:=Jgi HH.o (cnt:=cnt) HL.o (λj x t a c=>HH.o.init_tch (HH.o.init_tch (HIN.o j x t a c) G6.out (λj hj=>by
    rcases hj with rfl|hj
    ·exact Ql _
    ·have:=(HP.o.own j hj.symm).1;omega) (YA H1.o)) tD noE (PS.like.refl _))
   rw[HZ.o]at this;exact this
  have HI:Hid (InvV hk.K.k E W3 b g1 wj w.heap.size w1.heap.size cnt Q (JK hk.K.z l cnt) (JK Q.zero xa cnt) p 0 W3.drew):=⟨g1,[],[],p,by simp[PS.many],rfl,G2.out.tch tD (λh=>h) (λ_ _ h=>h),G1.out.tch tD noE (.inl rfl),λj x t a=>by simp at a,HIN3.o,G4.out.tch tD noE,.inl rfl,tD.mono noE,PS.like.refl _,by omega⟩
  have HSH:Hid (∀i,i<cnt->hk.K.Sh ((JK hk.K.z l cnt).getD i Q.zeroV)):=λi hi=>by
   have hi':i<(JK hk.K.z l cnt).length:=(by omega);have e:(JK hk.K.z l cnt).getD i Q.zeroV=(JK hk.K.z l cnt)[i]:=(by simp[List.getD_eq_getElem?_getD,hi']);rw[e];exact HH.o.init_shape (HIN3.o i _ ((JK Q.zero xa cnt)[i]'(by omega)) (Qd hi') (Qd (by omega)))
  have HXL:Hid ((JK Q.zero xa cnt).length=cnt):=hxal;have HIT:Hid (∀v W,BadV E W3 b g1 wj w.heap.size w1.heap.size Q (JK Q.zero xa cnt) p v W->∀i:Nat,i<cnt->Calls prog 101 #[.int .i64 (i:Int)] W λe w'=>(∃s:BA,s.size<=30/\e=.returned (.string s))/\Below W.heap.size W w'):=λv W hB i hi=>by
   obtain⟨_,_,_,_,_,_,ht,_⟩:=hB;refine Jk3 (G4.out.tch ht (λj hj=>?_)) i (by omega)
   rcases hj with rfl|hj|rfl
   ·exact hb12
   ·have:=(G2.out.own j hj.symm).1;omega
   ·have:=HP.o.lt;omega
  have hlN:w.heap.size+1<W3.heap.size:=by omega
  have HKA:Hid (∀w4,Tch (λk=>k=b\/some k=g1\/k=w1.heap.size) W3 w4->w4.cell? ⟨w.heap.size+1,0,none⟩=some (.string what)):=λw4 ht=>(ht.cell (p:=⟨w.heap.size+1,0,none⟩) hlN (by
   show ¬(w.heap.size+1=b\/some (w.heap.size+1)=g1\/w.heap.size+1=w1.heap.size);have:=Jbe HP.o _ _ _ HM1.o (w.heap.size+1) (by omega) (by omega);rintro(e|e|e)
   ·omega
   ·exact this (.inr e)
   ·omega)).trans kA
  clear hcp hW3 F2 F4 F5 F6 F8 tD hstl hxal;have hmf:∀(fn:Fn)(first cap:Array Value)(w:World),(Instr.makeFunc fn first cap).run prog w=.ok (.func fn first cap) w:=λ_ _ _ _=>rfl
  cases hq:PS.many Q.f (JK Q.zero xa cnt) p with
  | some r=>
   obtain⟨ys,p2⟩:=r;have HQ:Hid (_=_):=hq;clear hq;go_wp2;go_region_held3 (λW=>W.cell? ⟨w.heap.size,0,none⟩=some (.pointer (some ⟨b,0,none⟩))/\W.cell? ⟨w.heap.size+1,0,none⟩=some (.string what)/\W.cell? ⟨w1.heap.size+1,0,none⟩=some (.slice (some ⟨w1.heap.size,0,none⟩) cnt cnt)) (go_keep) (((first|go_at_call 189|go_at_call 280|go_at_call 135|go_at_call 286);refine(HEA.o _ _ what w1.heap.size 0 cnt cnt _ HSH.o _ _ HS.o (by omega) HIT.o hwh _ HI.o).mono ?_;intro e w4 h4;obtain⟨err,g4,p4,v4,rfl,hsh,hp4,hm4,ht4,hN4,hB4,hA4⟩:=Jei h4 G1.out HXL.o;rw[HQ.o]at hA4;obtain⟨rfl,rfl,xs,hL4,hyl,hD4⟩:=hA4;obtain⟨d2,f2,q1,q2⟩:=XS (n:=0) (e':=.nilIface) hp4;rw[World.drewN_zero]at d2 f2 q1 q2;have k4:w4.cell? ⟨w.heap.size,0,none⟩=some (.pointer (some ⟨b,0,none⟩)):=Ja hN4;have kA4:w4.cell? ⟨w.heap.size+1,0,none⟩=some (.string what):=HKA.o w4 ht4;have kB4:w4.cell? ⟨w1.heap.size+1,0,none⟩=some (.slice (some ⟨w1.heap.size,0,none⟩) cnt cnt):=Ja hB4;have hz4:=Qm F7 ht4.size;have j4:=(q2.cell (p:=⟨w.heap.size,0,none⟩) (by show w.heap.size<_;omega) (by show ¬w.heap.size=b;omega)).trans k4;have jA4:=(q2.cell (p:=⟨w.heap.size+1,0,none⟩) (by show w.heap.size+1<_;omega) (by show ¬w.heap.size+1=b;omega)).trans kA4;have jB4:=(q2.cell (p:=⟨w1.heap.size+1,0,none⟩) (Jb hB4) (by show ¬w1.heap.size+1=b;omega)).trans kB4;have Q1:Hid (Jc _ _ _ _ _ _):=q1;have Q2:Hid (Tch _ _ _):=q2;have M4:Hid (Jm _ _ _):=hm4;have T4:Hid (Tch _ _ _):=ht4;have L4:Hid (YF _ _ _ _ _ _ _ _):=hL4;have D4:Hid (∀(j:Nat) x a,_):=hD4;have YL:Hid (ys.length=cnt):=hyl;clear h4 q1 q2 hm4 ht4 hN4 hB4 hL4 hp4 hsh hD4 hyl))
   all_goals
    have L5:Hid (YF _ (w4.setCell ⟨b,2,none⟩ .nilIface) b g4 w.heap.size w1.heap.size cnt xs):=L4.out.tch Q2.out (λj h=>.inl h) (.inl rfl);have k5:(w4.setCell ⟨b,2,none⟩ .nilIface).cell? ⟨w1.heap.size+1,0,none⟩=some (.slice (some ⟨w1.heap.size,0,none⟩) cnt cnt):=Ja L5.out.box2;have D5:Hid (∀(j:Nat) x t,xs[j]? =some x->ys[j]? =some t->Q.Done (w4.setCell ⟨b,2,none⟩ .nilIface) (w1.heap.size+1) g4 x t):=λj x t a c=>HH.o.done_tch (D4.out j x t a c) Q2.out (λj h=>.inl (by omega)) (.inl rfl);generalize w4.setCell ⟨b,2,none⟩ .nilIface=W5 at *;go_wp2;go_ret;show ToL _ E w b g wj Q (PS.many Q.f (JK Q.zero xa cnt) p) _ _;rw[HQ.o];refine⟨w1.heap.size,xs,by rw[YL.out];rfl,by omega,L5.out.arr,by rw[YL.out];exact L5.out.len,g4,Q1.out,L5.out.apart _ (by simp),D5.out,G5.out.trans M4.out G6.out.size,?_⟩;refine(G6.out.trans T4.out (λj h=>?_)).trans Q2.out (λj h=>.inl (.inl h))
    rcases h with h|h|h
    ·exact .inl (.inl h)
    ·rcases G5.out with e|⟨i,e,hi⟩
     ·rw[e]at h;exact .inl (.inr h)
     ·rw[e]at h;cases h;exact .inr hi
    ·exact .inr (by omega)
  | none=>
   have HQ:Hid (_=_):=hq;clear hq;go_wp2;go_region_held3 (λW=>W.cell? ⟨w.heap.size,0,none⟩=some (.pointer (some ⟨b,0,none⟩))/\W.cell? ⟨w.heap.size+1,0,none⟩=some (.string what)/\W.cell? ⟨w1.heap.size+1,0,none⟩=some (.slice (some ⟨w1.heap.size,0,none⟩) cnt cnt)) (go_keep) (((first|go_at_call 189|go_at_call 280|go_at_call 135|go_at_call 286);refine(HEA.o _ _ what w1.heap.size 0 cnt cnt _ HSH.o _ _ HS.o (by omega) HIT.o hwh _ HI.o).mono ?_;intro e w4 h4;obtain⟨err,g4,p4,v4,rfl,hsh,hp4,hm4,ht4,hN4,hB4,hA4⟩:=Jei h4 G1.out HXL.o;rw[HQ.o]at hA4;obtain⟨pp,ss,vv,rfl,hpl4,hev⟩:=hA4;obtain⟨d2,f2,q1,q2⟩:=XS (n:=0) (e':=.iface 235 (.pointer (some ⟨pp,0,none⟩))) hp4;rw[World.drewN_zero]at d2 f2 q1 q2;have k4:w4.cell? ⟨w.heap.size,0,none⟩=some (.pointer (some ⟨b,0,none⟩)):=Ja hN4;have kA4:w4.cell? ⟨w.heap.size+1,0,none⟩=some (.string what):=HKA.o w4 ht4;have kB4:w4.cell? ⟨w1.heap.size+1,0,none⟩=some (.slice (some ⟨w1.heap.size,0,none⟩) cnt cnt):=Ja hB4;have hz4:=Qm F7 ht4.size;have j4:=(q2.cell (p:=⟨w.heap.size,0,none⟩) (by show w.heap.size<_;omega) (by show ¬w.heap.size=b;omega)).trans k4;have jA4:=(q2.cell (p:=⟨w.heap.size+1,0,none⟩) (by show w.heap.size+1<_;omega) (by show ¬w.heap.size+1=b;omega)).trans kA4;have jB4:=(q2.cell (p:=⟨w1.heap.size+1,0,none⟩) (Jb hB4) (by show ¬w1.heap.size+1=b;omega)).trans kB4;have Q1:Hid (Jc _ _ _ _ _ _):=q1;have Q2:Hid (Tch _ _ _):=q2;have M4:Hid (Jm _ _ _):=hm4;have T4:Hid (Tch _ _ _):=ht4;have B4:Hid (w4.heap[_]? =_):=hB4;have PL:Hid (w4.heap[_]? =_):=hpl4;have EV:Hid (Jp _ _ _ _):=hev;have P4:Hid (Jc _ _ _ _ _ _):=hp4;clear h4 q1 q2 hm4 ht4 hN4 hB4 hp4 hsh hpl4 hev))
   all_goals
    have hb4:=P4.out.lt;have k5:(w4.setCell ⟨b,2,none⟩ (.iface 235 (.pointer (some ⟨pp,0,none⟩)))).cell? ⟨w1.heap.size+1,0,none⟩=some (.slice (some ⟨w1.heap.size,0,none⟩) cnt cnt):=Ja ((Q2.out.block _ (Jb B4.out) (by omega)).trans B4.out);have h6:Hid (Jp E 7 (w4.setCell ⟨b,2,none⟩ (.iface 235 (.pointer (some ⟨pp,0,none⟩)))) (.iface 235 (.pointer (some ⟨pp,0,none⟩)))):=(Jp.wrap pp ss vv PL.out EV.out).tch Q2.out (λq s u hq e=>Jlp hq P4.out e);generalize w4.setCell ⟨b,2,none⟩ (.iface 235 (.pointer (some ⟨pp,0,none⟩)))=W5 at *;go_wp2;go_ret;show ToL _ E w b g wj Q (PS.many Q.f (JK Q.zero xa cnt) p) _ _;rw[HQ.o];refine⟨⟨_,_,_,rfl⟩,g4,p4,_,Q1.out,h6.out,G5.out.trans M4.out G6.out.size,?_⟩;refine(G6.out.trans T4.out (λj h=>?_)).trans Q2.out (λj h=>.inl (.inl h))
    rcases h with h|h|h
    ·exact .inl (.inl h)
    ·rcases G5.out with e|⟨i,e,hi⟩
     ·rw[e]at h;exact .inl (.inr h)
     ·rw[e]at h;cases h;exact .inr hi
    ·exact .inr (by omega)

theorem JaP{K:LX}(hK:IsL K)(mx:Nat)(hmx:mx<=264){E:Nat->Addr}{b wj lim:Nat}{α:Type}{Q:Ye α}(H:Ze E b wj lim K.k.fP Q K.Sh)(hz:Q.zeroV=K.z)(hb12:18<=b)(g:Option Nat)(what:BA)(hwh:what.size<=1000)(size least most:Nat)(v:Value)(l:List VV)(xa:List α)(p0:PS)(w:World)
  (hE:Env E w) (hp:Jc w b g wj .nilIface p0) (hv:VAt w.heap.size w v l) (hvb:Jko b g v) (hl:l.length=xa.length) (hn:xa.length<1000000) (hd:p0.len+8+Q.grow*mx<=lim) (hlim:lim<=10000000000000) (hsz:size<=8) (hm3:most<=mx) (htk:p0.takes v)
  (hin:∀(j:Nat) x a,l[j]? =some x->xa[j]? =some a->Q.Init b w p0 x a):
  Calls prog K.fL #[.pointer (some ⟨b,0,none⟩),.agg #[.string what,.int .i64 (size:Int),.int .u64 (least:Int),.int .u64 (most:Int)],v,.func (.func K.k.fP) #[.pointer (some ⟨b,0,none⟩)] #[]] w λe w'=>ToL K.k E w b g wj Q (p0.lst Q.f Q.zero size least most xa) e w':=by
 unfold PS.lst;obtain⟨ia,ic,hvs⟩:=hv.shape;rw[hl]at hvs
 cases h1:p0.num xa.length size with
 | none=>exact Jmy hK E b g wj what hwh size least most v ia _ ic hvs p0 w hE hp hn (by omega) hsz h1
 | some r=>
  obtain⟨cnt,p⟩:=r
  by_cases hr:cnt<least\/most<cnt
  ·simp only[hr,if_true];exact Jmz hK E b hb12 g wj what hwh size least most v ia _ ic cnt hvs p0 p w hE hp hn (by omega) hsz h1 hr
  ·simp only[hr,if_false];exact JmA hK mx hmx H hz hb12 g what hwh size least most v l xa cnt p0 p w hE hp hv hvb hl hn hd hlim hsz hm3 h1 (by omega) (by omega) (Jev htk h1) hin
theorem JmC:type_of% (@JaQ xO isO):= @JaQ xO isO
theorem JmB:type_of% (@JaP xO isO 3 (by decide)):= @JaP xO isO 3 (by decide)
theorem Job:type_of% (@Jb2 xO isO):= @Jb2 xO isO
theorem Jmx:type_of% (@JaQ xC isC):= @JaQ xC isC
theorem Jmw:type_of% (@JaP xC isC 3 (by decide)):= @JaP xC isC 3 (by decide)
theorem Joa:type_of% (@Jb2 xC isC):= @Jb2 xC isC
theorem JmE:type_of% (@JaQ xT isT):= @JaQ xT isT
theorem JmD:type_of% (@JaP xT isT 3 (by decide)):= @JaP xT isT 3 (by decide)
theorem Joc:type_of% (@Jb2 xT isT):= @Jb2 xT isT
