import Derived.Test.YtighkdnooglfjaaGreatDoorPxLst
import Derived.Deep.RegionHeld3
namespace Go.Proofs.YtighkdnooglfjaaGreatDoor
open Tryz
set_option maxRecDepth 100000
set_option maxHeartbeats 2000000
open Go.RowKit

def ShO (x:VV):Prop:=∃(a:Int) (o:Int),x=(.int .u64 a,.int .u8 o)
def ShC (x:VV):Prop:=∃(a:BA) (o:Int),x=(.string a,.int .i64 o)
def ShT (x:VV):Prop:=∃(a:Sl) (o:Sl),x=(.slice a.1 a.2.1 a.2.2,.slice o.1 o.2.1 o.2.2)
abbrev lkO:LK:=⟨80,22,351,205⟩
abbrev lkC:LK:=⟨49,96,349,203⟩
abbrev lkT:LK:=⟨98,73,234,134⟩
abbrev zO:VV:=(.int .u64 0,.int .u8 0)
abbrev zC:VV:=(.string ⟨#[]⟩,.int .i64 0)
abbrev zT:VV:=(.slice none 0 0,.slice none 0 0)
structure LX where
 k:LK
 fE:FuncId
 fS:FuncId
 fL:FuncId
 z:VV
 Sh:VV->Prop
abbrev xO:LX:=⟨lkO,189,282,204,zO,ShO⟩
abbrev xC:LX:=⟨lkC,280,281,202,zC,ShC⟩
abbrev xT:LX:=⟨lkT,135,201,133,zT,ShT⟩
def IsL (K:LX):Prop:=K=xO\/K=xC\/K=xT
def Tag (_:LX):Prop:=True
abbrev Tag.K {K:LX} (_:Tag K):LX:=K
theorem JmR {K:LX} (hK:IsL K) {x:VV} (h:K.Sh x):x.1.oneCell'=true/\x.2.oneCell'=true:=by
 rcases hK with rfl | rfl | rfl
 all_goals
  obtain ⟨a,o,rfl⟩:=h
  exact ⟨rfl,rfl⟩
theorem mkL {K:LX} (hK:IsL K) (n:Nat) (h:n<=3) (w:World):(Instr.makeSlice K.k.tS (.int .u64 (n:Int)) (.int .u64 (n:Int))).run prog w=.ok (.slice (some ⟨w.heap.size,0,none⟩) n n) (w.alloc (.cells (vvA (List.replicate n K.z)) K.k.tE)):=by
 rcases hK with rfl | rfl | rfl
 all_goals
  obtain rfl | rfl | rfl | rfl:n=0\/n=1\/n=2\/n=3:=by omega
  all_goals kernel_rfl
theorem Jnd {K:LX} (hK:IsL K):(prog.info? K.k.tE).map (·.size)=some 2/\prog.underlying K.k.tS=some (.slice K.k.tE):=by
 rcases hK with rfl | rfl | rfl
 all_goals
  constructor
  all_goals kernel_rfl

theorem JcG {K:LX} (hK:IsL K) (f:FuncId) (caps:Array Value) (what:BA) (g off n cap:Nat) (x:Nat->VV) (hx:∀i,i<n->K.Sh (x i)) (Inv:Nat->World->Prop) (Bad:Value->World->Prop) (H:Ja9 f caps g off n x Inv Bad) (hn:n<=3) (hw:what.size<=1000) (w:World) (h0:Inv 0 w):
  Calls prog K.fE #[.string what,.slice (some ⟨g,off,none⟩) n cap,.func (.func f) #[] caps] w λe w'=>ToE Inv Bad n e w':=by
 have HX:Hid (∀i,i<n->K.Sh (x i)):=hx
 clear hx
 have hk:Tag K:=trivial
 rcases hK with rfl | rfl | rfl
 all_goals
  first | go_enter func189,ntmps189 | go_enter func280,ntmps280 | go_enter func135,ntmps135
  go_wp2
  go_loopw [12] (λi wr=>∃k:Nat,k<=n/\i=.int .i64 k/\Inv k wr) (λi _=>n - (intOf i).toNat)
  case atStart=>exact ⟨0,by omega,rfl,h0⟩
  case round=>
   clear h0
   obtain ⟨k,hk,rfl,hI⟩:=hrel
   by_cases hlt:k<n
   ·obtain ⟨c0,c1⟩:=H.read k _ hlt hI
    have hcall:=λW=>H.call k W hlt
    obtain ⟨xa,xo,hxk⟩:=HX.o k hlt
    rw [hxk] at c0 c1 hcall
    clear hxk
    have HCA:Hid (∀(W:World),_):=hcall
    clear hcall
    have hlti:(k:Int)<(n:Int):=by omega
    have hen:=H.enter
    go_wp2_with fail
    refine (HCA.o _ (H.alloc k _ _ hI)).mono ?_
    clear hI c0 c1 HCA
    rintro _ w1 (⟨rfl,hI1⟩ | ⟨t,v,rfl,hB⟩)
    ·go_wp2
     go_roundw
     case rel=>exact ⟨k+1,by omega,by go_num,hI1⟩
     case measure=>simp [intOf];omega
    ·have HB:Hid (Bad (.iface t v) w1):=hB
     clear hB
     go_wp2_with fail
     refine (Jgm k (by omega) _).mono ?_
     rintro _ _ ⟨⟨s1,hs1,rfl⟩,rfl⟩
     have hws:(what++(⟨#[32]⟩:BA)).size<=1001:=by rw [ByteArray.size_append];show what.size+1<=1001;omega
     generalize what++(⟨#[32]⟩:BA)=ws at *
     have hnb:¬(ws.size+s1.size > 9223372036854775807):=by omega
     go_wp2_with fail
     refine (XM (ws++s1) t v _).mono ?_
     rintro _ _ ⟨rfl,rfl⟩
     go_wp2
     go_ret
     exact .inr ⟨w1.heap.size,ws++s1,.iface t v,w1,rfl,Qf _ _,HB.o,(Below.refl _ _).alloc (Ql _) _⟩
   ·have HK:Hid (k=n):=(by omega:k=n)
    have hge:¬(k:Int)<(n:Int):=by omega
    have HI:Hid (Inv k wr):=hI
    clear hI
    go_wp2
    go_ret
    exact .inl ⟨rfl,by rw [<-HK.o];exact HI.o⟩

theorem Jnv {K:LX} (hK:IsL K) {E:Nat->Addr} {b wd lim:Nat} {α:Type} {Q:Xz α} (H:XP E b wd lim K.k.fP Q K.Sh) (N gp cnt:Nat) (w:World) (g:Option Nat) (i:Nat) (x:VV) (a:α) (l:List VV) (p:PS) (hE:Env E w) (hL:XN K.k w b g N gp cnt l) (hp:Jc w b g wd .nilIface p) (hI:Q.Init b w p x a) (hi:i<cnt) (hd:p.len<=lim):
  Calls prog K.fS #[.int .i64 (i:Int),.agg #[x.1,x.2],.pointer (some ⟨N+2,0,none⟩),.pointer (some ⟨gp+1,0,none⟩),.pointer (some ⟨N,0,none⟩)] w λe w'=>Jf3 K.k E w b g wd N gp cnt i Q l (Q.f a p) e w':=by
 have c0:w.cell? ⟨N,0,none⟩=some (.pointer (some ⟨b,0,none⟩)):=Ja hL.box0
 have c1:w.cell? ⟨N+2,0,none⟩=some (.func (.func K.k.fP) #[.pointer (some ⟨b,0,none⟩)] #[]):=Ja hL.box1
 have c2:w.cell? ⟨gp+1,0,none⟩=some (.slice (some ⟨gp,0,none⟩) cnt cnt):=Ja hL.box2
 have hlt:=hp.lt
 have l2:=(Jb hL.box2)
 have hh:=hL.high
 have n0:N<w.heap.size:=by omega
 have n1:N+2<w.heap.size:=by omega
 have hii:(i:Int)<(cnt:Int):=by omega
 have hsh:=H.init_shape hI
 have tA:Tch NoB w (w.alloc (.cells #[x.1,x.2] K.k.tE)).drew:=(Tch.alloc _ w _).trans (Tch.drewN _ _ 1) (λ_ h=>.inl h)
 have hLA:Hid (XN K.k (w.alloc (.cells #[x.1,x.2] K.k.tE)).drew b g N gp cnt l):=hL.tch tA noE (.inl rfl)
 have HC:Hid (Calls prog K.k.fP #[.pointer (some ⟨b,0,none⟩),.agg #[x.1,x.2]] (w.alloc (.cells #[x.1,x.2] K.k.tE)).drew _):=H.call (x:=x) (hE.tch tA noE) (hp.tch tA (λh=>h) (λ_ _ h=>h)) (H.init_tch hI tA noE (PS.like.refl _)) hd
 have TA:Hid (Tch _ _ _):=tA
 have HDT:Hid (∀{w w':World} {B:Nat} {g g':Option Nat} {x:VV} {a:α} {S:Nat->Prop},Q.Done w B g x a->Tch S w w'->(∀j,S j->j<B\/some j=g\/w.heap.size<=j)->Jn w g g'->Q.Done w' B g' x a):=H.done_tch
 have HDM:Hid (∀{w:World} {B B':Nat} {g:Option Nat} {x:VV} {a:α},Q.Done w B g x a->B'<=B->Q.Done w B' g x a):=H.done_mono
 clear hL hp hE hI tA H
 have hk:Tag K:=trivial
 rcases hK with rfl | rfl | rfl
 all_goals
  obtain ⟨xa,xo,rfl⟩:=hsh
  dsimp only at hLA HC TA
  first | go_enter func282,ntmps282 | go_enter func281,ntmps281 | go_enter func201,ntmps201
  go_wp2
  go_region_with ((first | go_at_call 205 | go_at_call 203 | go_at_call 134);refine HC.o.mono ?_;rintro _ w1 ⟨_,⟨ya,yo,rfl⟩,rfl,g1,err,p1,hp1,hm1,ht1,hres⟩;have HL1:Hid (XN _ w1 b g1 N gp cnt l):=hLA.out.tch ht1 (λj h=>by rcases h with h | h;exact .inl h;exact .inr (.inl h)) hm1;obtain ⟨x0,y0,d0,d1,d2,d3⟩:=Jb5 HL1.o hi;have e2:w1.cell? ⟨gp+1,0,none⟩=some (.slice (some ⟨gp,0,none⟩) cnt cnt):=Ja HL1.o.box2;have HP1:Hid (Jc _ _ _ _ _ _):=hp1;have HM1:Hid (Jn _ _ _):=hm1;have HT1:Hid (Tch _ _ _):=ht1;have HRES:Hid (match Q.f a p with | some (a,p2)=>p1=p2/\err=.nilIface/\Q.Done w1 _ g1 _ a | none=>Jp E 7 w1 err):=hres;clear hp1 hm1 ht1 hres)
  all_goals
   first
    | (obtain ⟨j0,je,q1,q2,q3⟩:=JaG HL1.o HP1.o hi (.int .u64 ya) (.int .u8 yo);generalize (w1.setCell ⟨gp,i * 2,none⟩ (.int .u64 ya)).setCell ⟨gp,i * 2+1,none⟩ (.int .u8 yo)=W3 at *)
    | (obtain ⟨j0,je,q1,q2,q3⟩:=JaG HL1.o HP1.o hi (.string ya) (.int .i64 yo);generalize (w1.setCell ⟨gp,i * 2,none⟩ (.string ya)).setCell ⟨gp,i * 2+1,none⟩ (.int .i64 yo)=W3 at *)
    | (obtain ⟨j0,je,q1,q2,q3⟩:=JaG HL1.o HP1.o hi (.slice ya.1 ya.2.1 ya.2.2) (.slice yo.1 yo.2.1 yo.2.2);generalize (w1.setCell ⟨gp,i * 2,none⟩ (.slice ya.1 ya.2.1 ya.2.2)).setCell ⟨gp,i * 2+1,none⟩ (.slice yo.1 yo.2.1 yo.2.2)=W3 at *)
   have Q1:Hid (XN _ _ _ _ _ _ _ _):=q1
   have Q2:Hid (Jc _ _ _ _ _ _):=q2
   have Q3:Hid (Tch _ _ _):=q3
   clear q1 q2 q3
   go_wp2
   go_ret
   have hsz:=TA.out.size
   have hm:Jn w g g1:=by
    rcases HM1.o with h | ⟨j,h,hj⟩
    ·exact .inl h
    ·exact .inr ⟨j,h,Qm hsz hj⟩
   have ht:Tch (λk=>k=b\/some k=g\/k=gp) w W3:=((TA.out.mono noE).trans HT1.o (λj h=>by rcases h with h | h;exact .inl (.inl h);exact .inl (.inr (.inl h)))).trans Q3.out (λj h=>.inl (.inr (.inr h)))
   refine ⟨ht,?_⟩
   have hr:=HRES.o
   cases hq:Q.f a p with
   | some r=>
    obtain ⟨a',p2⟩:=r
    rw [hq] at hr
    obtain ⟨rfl,rfl,hdn⟩:=hr
    have z:∀o,w.heap.size+1=(w.alloc o).drew.heap.size:=λ_=>by simp
    exact ⟨rfl,g1,(_,_),Q2.out,Q1.out,HDT.o (HDM.o hdn (by rw [<-z];omega)) Q3.out (λj h=>.inl (by omega)) (.inl rfl),hm⟩
   | none=>
    rw [hq] at hr
    exact ⟨err,rfl,hr.tch Q3.out (λq s u hq e=>by subst e;rw [HL1.o.arr] at hq;simp at hq),g1,p1,Q2.out,hm,Q1.out.box0⟩

theorem Jkb (what:BA) (hwh:what.size<=1000):∃s1 s2:BA,(∀W,(Op.stringOp .add (⟨#[110,117,109,98,101,114,32,111,102,32]⟩:BA) what).run prog W=.ok (.string s1) W)/\∀W,(Op.stringOp .add s1 (⟨#[115]⟩:BA)).run prog W=.ok (.string s2) W:=by
 obtain ⟨s1,hs1,ha1⟩:∃s1:BA,s1.size<=1010/\∀W,(Op.stringOp .add (⟨#[110,117,109,98,101,114,32,111,102,32]⟩:BA) what).run prog W=.ok (.string s1) W:=
  ⟨_,by rw [ByteArray.size_append];show 10+what.size<=1010;omega,λW=>run_string_add_sum (P:=prog) W _ _ (by show 10+what.size<=_;omega)⟩
 obtain ⟨s2,ha2⟩:∃s2:BA,∀W,(Op.stringOp .add s1 (⟨#[115]⟩:BA)).run prog W=.ok (.string s2) W:=
  ⟨_,λW=>run_string_add_sum (P:=prog) W _ _ (by show s1.size+1<=_;omega)⟩
 exact ⟨s1,s2,ha1,ha2⟩
structure BoxL (K:LX) (w:World) (N b:Nat) (what:BA) (size least most:Nat):Prop where
 c:w.heap[N]? =some (.cells #[.pointer (some ⟨b,0,none⟩)] 230)
 of:w.heap[N+1]? =some (.cells #[.string what,.int .i64 (size:Int),.int .u64 (least:Int),.int .u64 (most:Int)] 233)
 part:w.heap[N+2]? =some (.cells #[.func (.func K.k.fP) #[.pointer (some ⟨b,0,none⟩)] #[]] K.k.tF)
theorem BoxL.tch {K:LX} {w w':World} {N b:Nat} {what:BA} {size least most:Nat} {S:Nat->Prop} (h:BoxL K w N b what size least most) (k:Tch S w w') (hs:∀j,N<=j->j<N+3->¬S j):BoxL K w' N b what size least most:=
 ⟨(k.block _ (Jb h.c) (hs _ (by omega) (by omega))).trans h.c,(k.block _ (Jb h.of) (hs _ (by omega) (by omega))).trans h.of,(k.block _ (Jb h.part) (hs _ (by omega) (by omega))).trans h.part⟩
theorem BoxL.cells {K:LX} {w:World} {N b:Nat} {what:BA} {size least most:Nat} (h:BoxL K w N b what size least most):w.cell? ⟨N,0,none⟩=some (.pointer (some ⟨b,0,none⟩))/\w.cell? ⟨N+1,0,none⟩=some (.string what)/\w.cell? ⟨N+1,2,none⟩=some (.int .u64 (least:Int))/\w.cell? ⟨N+1,3,none⟩=some (.int .u64 (most:Int)):=
 ⟨Ja h.c,Ja h.of,Ja h.of,Ja h.of⟩

theorem JaI {K:LX} (hK:IsL K) (b:Nat) (g:Option Nat) (wd:Nat) (what:BA) (hwh:what.size<=1000) (size least most:Nat) (v:Value) (ia:Option Addr) (n ic:Nat) (hvs:v=.slice ia n ic) (p0:PS) (t:TypeId) (u:Value) (w:World) (hp:Jc w b g wd (.iface t u) p0):
  Calls prog K.fL #[.pointer (some ⟨b,0,none⟩),.agg #[.string what,.int .i64 (size:Int),.int .u64 (least:Int),.int .u64 (most:Int)],v,.func (.func K.k.fP) #[.pointer (some ⟨b,0,none⟩)] #[]] w λe w'=>e=.returned (.slice none 0 0)/\Jc w' b g wd (.iface t u) p0/\Tch NoB w w':=by
 have hlt:=hp.lt
 subst hvs
 obtain ⟨s1,s2,ha1,ha2⟩:=Jkb what hwh
 have hk:Tag K:=trivial
 rcases hK with rfl | rfl | rfl
 all_goals
  first | go_enter func204,ntmps204 | go_enter func202,ntmps202 | go_enter func133,ntmps133
  go_wp2_with fail
  refine (ZY b g wd _ _ p0 t u _ (hp.allocs3 _ _ _)).mono ?_
  rintro _ w1 ⟨rfl,hw1⟩
  have HP:Hid (Jc w1 b g wd (.iface t u) p0):=by rw [<-hw1];exact hp.allocs3 _ _ _
  have HT:Hid (Tch NoB w w1):=by rw [<-hw1];exact Tch.allocs3 _ _ _ _ _
  obtain ⟨c0,cA,cB,cC⟩:=(show BoxL hk.K w1 w.heap.size b what size least most by rw [<-hw1];exact ⟨JD _ _ _ _,JA _ _ _ _,Jt _ _ _ _⟩).cells
  have ce:=HP.o.errCell
  clear hp hw1
  go_wp2_with (go_at_call 200;refine (Jab b g wd _ p0 t u _ HP.o).mono ?_;rintro _ _ ⟨rfl,rfl⟩)
  all_goals go_ret
  all_goals exact ⟨rfl,HP.o,HT.o⟩

theorem Jlp {K:LX} (hK:IsL K) (E:Nat->Addr) (b:Nat) (g:Option Nat) (wd:Nat) (what:BA) (hwh:what.size<=1000) (size least most:Nat) (v:Value) (ia:Option Addr) (n ic:Nat) (hvs:v=.slice ia n ic) (p0:PS) (w:World) (hE:Env E w) (hp:Jc w b g wd .nilIface p0) (hn:n<1000000) (hd:p0.len<=10000000000000) (hsz:size<=8) (h1:p0.num n size=none):
  Calls prog K.fL #[.pointer (some ⟨b,0,none⟩),.agg #[.string what,.int .i64 (size:Int),.int .u64 (least:Int),.int .u64 (most:Int)],v,.func (.func K.k.fP) #[.pointer (some ⟨b,0,none⟩)] #[]] w λe w'=>(∃a n c,e=.returned (.slice a n c))/\ZQ E w w' b g wd:=by
 have hlt:=hp.lt
 subst hvs
 have hlw:IntKind.u64.wrap (n:Int)=(n:Int):=Jr _ (by omega) (by omega)
 obtain ⟨s1,s2,ha1,ha2⟩:=Jkb what hwh
 have hk:Tag K:=trivial
 rcases hK with rfl | rfl | rfl
 all_goals
  first | go_enter func204,ntmps204 | go_enter func202,ntmps202 | go_enter func133,ntmps133
  go_wp2_with fail
  refine (Yo E b g wd n size p0 _ (hE.allocs3 _ _ _) (hp.allocs3 _ _ _) hsz hd h1).mono ?_
  rintro _ w1 ⟨rfl,hp1,ht1⟩
  obtain ⟨c0,cA,cB,cC⟩:=(BoxL.tch (K:=hk.K) (b:=b) (what:=what) (size:=size) (least:=least) (most:=most) ⟨JD _ _ _ _,JA _ _ _ _,Jt _ _ _ _⟩ ht1 (λj h1 h2 e=>by omega)).cells
  have ce:=hp1.errCell
  have HP1:Hid (Jc _ _ _ _ _ _):=hp1
  have HT1:Hid (Tch _ _ w1):=ht1
  clear hp hp1 ht1 hE
  go_wp2_with (go_at_call 200;refine (Jab b g wd _ p0 _ _ _ HP1.o).mono ?_;rintro _ _ ⟨rfl,rfl⟩)
  all_goals go_ret
  all_goals exact ⟨⟨_,_,_,rfl⟩,g,p0,_,HP1.o,.base,.inl rfl,(Tch.allocs3 _ _ _ _ _).trans HT1.o (λj h=>.inl (.inl h))⟩

theorem Jlq {K:LX} (hK:IsL K) (E:Nat->Addr) (b:Nat) (hb12:18<=b) (g:Option Nat) (wd:Nat) (what:BA) (hwh:what.size<=1000) (size least most:Nat) (v:Value) (ia:Option Addr) (n ic cnt:Nat) (hvs:v=.slice ia n ic) (p0 p:PS) (w:World) (hE:Env E w) (hp:Jc w b g wd .nilIface p0) (hn:n<1000000) (hd:p0.len<=10000000000000) (hsz:size<=8) (h1:p0.num n size=some (cnt,p)) (hr:cnt<least\/most<cnt):
  Calls prog K.fL #[.pointer (some ⟨b,0,none⟩),.agg #[.string what,.int .i64 (size:Int),.int .u64 (least:Int),.int .u64 (most:Int)],v,.func (.func K.k.fP) #[.pointer (some ⟨b,0,none⟩)] #[]] w λe w'=>(∃a n c,e=.returned (.slice a n c))/\ZQ E w w' b g wd:=by
 have hlt:=hp.lt
 subst hvs
 have hlw:IntKind.u64.wrap (n:Int)=(n:Int):=Jr _ (by omega) (by omega)
 obtain ⟨s1,s2,ha1,ha2⟩:=Jkb what hwh
 have hk:Tag K:=trivial
 rcases hK with rfl | rfl | rfl
 all_goals
  first | go_enter func204,ntmps204 | go_enter func202,ntmps202 | go_enter func133,ntmps133
  go_wp2_with fail
  refine (Xc b g wd n size cnt p0 p _ (hp.allocs3 _ _ _) hsz hd h1).mono ?_
  rintro _ w1 ⟨rfl,g1,hp1,hm1,ht1⟩
  have hB:=BoxL.tch (K:=hk.K) (b:=b) (what:=what) (size:=size) (least:=least) (most:=most) ⟨JD _ _ _ _,JA _ _ _ _,Jt _ _ _ _⟩ ht1 (λj h1 h2=>XJ hp j h1)
  obtain ⟨c0,cA,cB,cC⟩:=hB.cells
  have ce:=hp1.errCell
  have HE1:Hid (Env E w1):=(hE.allocs3 _ _ _).tch ht1 (ZH hb12 hp)
  have hs1:=ht1.size
  simp at hs1
  have HB:Hid (BoxL hk.K w1 w.heap.size b what size least most):=hB
  have HP1:Hid (Jc _ _ _ _ _ _):=hp1
  have HM1:Hid (Jn _ g g1):=hm1
  have HT1:Hid (Tch _ _ w1):=ht1
  clear hp hp1 hm1 ht1 hE hB h1
  have hdec:(decide (cnt<least) || decide (most<cnt))=true:=by simpa using hr
  clear hr
  go_wp2_with fail
  all_goals
   refine (Ja2 E b g1 wd s2 p w1 HE1.o HP1.o).mono ?_
   rintro _ w5 ⟨rfl,hp5,he5,ht5⟩
   obtain ⟨k0,_,_,_⟩:=(HB.o.tch ht5 (λj h1 h2 e=>by omega)).cells
   have ce5:=hp5.errCell
   have HP5:Hid (Jc _ _ _ _ _ _):=hp5
   have HE5:Hid (Jp _ _ _ _):=he5
   have HT5:Hid (Tch _ _ _):=ht5
   clear hp5 he5 ht5
   go_wp2
   go_ret
   exact ⟨⟨_,_,_,rfl⟩,g1,p,_,HP5.o,HE5.o,HM1.o.allocs3,((Tch.allocs3 _ _ _ _ _).trans HT1.o (λj h=>.inl h)).trans HT5.o (λj h=>.inl (.inl h))⟩

theorem Jlr {K:LX} (hK:IsL K) {E:Nat->Addr} {b wd lim:Nat} {α:Type} {Q:Xz α} (H:XP E b wd lim K.k.fP Q K.Sh) (hz:Q.zeroV=K.z) (hb12:18<=b) (g:Option Nat) (what:BA) (hwh:what.size<=1000) (size least most:Nat) (v:Value) (l:List VV) (xa:List α) (cnt:Nat) (p0 p:PS) (w:World)
  (hE:Env E w) (hp:Jc w b g wd .nilIface p0) (hv:VAt b w v l) (hl:l.length=xa.length) (hn:xa.length<1000000) (hd:p0.len+8+Q.grow * 3<=lim) (hlim:lim<=10000000000000) (hsz:size<=8) (hm3:most<=3) (h1:p0.num xa.length size=some (cnt,p)) (hlo:least<=cnt) (hhi:cnt<=most) (hvc:v=.slice none 0 0\/xa.length=cnt)
  (hin:∀(j:Nat) x a,l[j]? =some x->xa[j]? =some a->Q.Init b w p0 x a):
  Calls prog K.fL #[.pointer (some ⟨b,0,none⟩),.agg #[.string what,.int .i64 (size:Int),.int .u64 (least:Int),.int .u64 (most:Int)],v,.func (.func K.k.fP) #[.pointer (some ⟨b,0,none⟩)] #[]] w λe w'=>ToL K.k E w b g wd Q (PS.many Q.f (Jl Q.zero xa cnt) p) e w':=by
 have hlt:=hp.lt
 obtain ⟨ia,ic,hvs⟩:=hv.shape
 rw [hl] at hvs
 have hlw:IntKind.u64.wrap (xa.length:Int)=(xa.length:Int):=Jr _ (by omega) (by omega)
 have hone:∀x∈l,x.1.oneCell'=true/\x.2.oneCell'=true:=λx hx=>by
  obtain ⟨j,hj,rfl⟩:=List.getElem_of_mem hx
  exact JmR hK (H.init_shape (hin j l[j] xa[j] (Qd hj) (Qd (by omega))))
 have HONE:Hid (∀x∈l,x.1.oneCell'=true/\x.2.oneCell'=true):=hone
 have HV:Hid (VAt b w v l):=hv
 have HVC:Hid (v=.slice none 0 0\/xa.length=cnt):=hvc
 have HIN:Hid (∀(j:Nat) x a,l[j]? =some x->xa[j]? =some a->Q.Init b w p0 x a):=hin
 have HL:Hid (l.length=xa.length):=hl
 have H1:Hid (p0.num xa.length size=some (cnt,p)):=h1
 clear hv hvc hin hl hone
 subst hvs
 have hmk:=mkL hK cnt (by omega)
 obtain ⟨hinfo,hund⟩:=Jnd hK
 have hEa:= @JcG K hK
 have hSt:= @Jnv K hK E b wd lim α Q H
 have hk:Tag K:=trivial
 rcases hK with rfl | rfl | rfl
 all_goals
  have HUN:Hid (_=_):=hund
  have HIF:Hid (_=_):=hinfo
  have HEA:Hid (∀_ _,_):=hEa
  have HST:Hid (∀_ _,_):=hSt
  clear hund hinfo hEa hSt
  first | go_enter func204,ntmps204 | go_enter func202,ntmps202 | go_enter func133,ntmps133
  go_wp2_with fail
  refine (Xc b g wd xa.length size cnt p0 p _ (hp.allocs3 _ _ _) hsz (by omega) h1).mono ?_
  rintro _ w1 ⟨rfl,g1,hp1,hm1,ht1⟩
  have hB:=BoxL.tch (K:=hk.K) (b:=b) (what:=what) (size:=size) (least:=least) (most:=most) ⟨JD _ _ _ _,JA _ _ _ _,Jt _ _ _ _⟩ ht1 (λj h1 h2=>XJ hp j h1)
  obtain ⟨c0,cA,cB,cC⟩:=hB.cells
  have ce:=hp1.errCell
  have t1:¬(cnt:Int)<(least:Int):=by omega
  have t2:¬(most:Int)<(cnt:Int):=by omega
  have HP:Hid (Jc w b g wd .nilIface p0):=hp
  have HP1:Hid (Jc w1 b g1 wd .nilIface p):=hp1
  have HM1:Hid (Jn _ g g1):=hm1
  have HT1:Hid (Tch _ _ w1):=ht1
  have HB:Hid (BoxL hk.K w1 w.heap.size b what size least most):=hB
  have HE:Hid (Env E w):=hE
  have HH:Hid (XP E b wd lim hk.K.k.fP Q hk.K.Sh):=H
  have HZ:Hid (Q.zeroV=hk.K.z):=hz
  clear hp hp1 hm1 ht1 hB hE H hz h1
  have hs1:=HT1.o.size
  simp at hs1
  obtain ⟨rr,hcp⟩:=Jhj (z:=hk.K.z) (gp:=w1.heap.size) (cnt:=cnt) (w:=(w1.alloc (.cells (vvA (List.replicate cnt hk.K.z)) hk.K.k.tE)).alloc (.cells #[.slice (some ⟨w1.heap.size,0,none⟩) cnt cnt] hk.K.k.tS)) HUN.o HIF.o HONE.o
   ((HV.o.tch (Tch.allocs3 NoB w _ _ _) noE).tch HT1.o (λj hj=>by
    rcases hj with rfl | hj
    ·exact Ql _
    ·have:=(HP.o.own j hj.symm).1;omega) |>.tch (Tch.allocs NoB w1 _ _) noE) (heap_alloc2_old _ _ _) (by rw [HL.o];exact HVC.o)
  have hstl:(Jl hk.K.z l cnt).length=cnt:=YM hk.K.z HV.o rfl (by rw [HL.o];exact HVC.o)
  have hxal:(Jl Q.zero xa cnt).length=cnt:=YM Q.zero HV.o HL.o HVC.o
  obtain ⟨W3,hW3,F3⟩:=Jb6 (K:=hk.K.k) (z:=hk.K.z) (w1:=w1) (st:=Jl hk.K.z l cnt) HP.o HP1.o HM1.o HT1.o HB.o.c HB.o.part HE.o hb12 hs1 hstl
  rw [<-hW3] at hcp
  have hcp3:=hcp 3
  obtain ⟨F1,F2,F4,F5,F6,F8,F7⟩:=F3
  obtain ⟨k0,kA,_,_⟩:=(HB.o.tch F8 (λ_ _ _ h=>h)).cells
  have k2:W3.cell? ⟨w1.heap.size+1,0,none⟩=some (.slice (some ⟨w1.heap.size,0,none⟩) cnt cnt):=Ja F1.box2
  have G1:Hid (XN _ _ _ _ _ _ _ _):=F1
  have G2:Hid (Jc _ _ _ _ _ _):=F2
  have G4:Hid (Env E W3):=F4
  have G5:Hid (Jn _ _ _):=F5
  have G6:Hid (Tch _ _ _):=F6
  have hpl:=Zb _ _ _ _ _ H1.o
  have hgr:Q.grow * cnt<=Q.grow * 3:=Nat.mul_le_mul_left _ (by omega)
  have HS:Hid (Ja9 _ _ _ _ _ _ (InvV hk.K.k E W3 b g1 wd w.heap.size w1.heap.size cnt Q (Jl hk.K.z l cnt) (Jl Q.zero xa cnt) p) (BadV E W3 b g1 wd w.heap.size w1.heap.size Q (Jl Q.zero xa cnt) p)):=Jmf HH.o hk.K.fS (λ_ _=>by kernel_rfl) W3 hb12 g1 w.heap.size w1.heap.size cnt (Jl hk.K.z l cnt) (Jl Q.zero xa cnt) p hstl hxal (by omega) (by omega) (λW g i x a l p=>HST.o _ _ _ W g i x a l p)
  have tD:=Tch.drewN NoB W3 1
  have HIN3:Hid (∀(j:Nat) x t,(Jl hk.K.z l cnt)[j]? =some x->(Jl Q.zero xa cnt)[j]? =some t->Q.Init b W3.drew p x t):=by
   have:=Jb2 HH.o (cnt:=cnt) HL.o (λj x t a c=>HH.o.init_tch (HH.o.init_tch (HIN.o j x t a c) G6.out (λj hj=>by
    rcases hj with rfl | hj
    ·exact Ql _
    ·have:=(HP.o.own j hj.symm).1;omega) (XS H1.o)) tD noE (PS.like.refl _))
   rw [HZ.o] at this
   exact this
  have HI:Hid (InvV hk.K.k E W3 b g1 wd w.heap.size w1.heap.size cnt Q (Jl hk.K.z l cnt) (Jl Q.zero xa cnt) p 0 W3.drew):=⟨g1,[],[],p,by simp [PS.many],rfl,G2.out.tch tD (λh=>h) (λ_ _ h=>h),G1.out.tch tD noE (.inl rfl),λj x t a=>by simp at a,HIN3.o,G4.out.tch tD noE,.inl rfl,tD.mono noE,PS.like.refl _,by omega⟩
  have HSH:Hid (∀i,i<cnt->hk.K.Sh ((Jl hk.K.z l cnt).getD i Q.zeroV)):=λi hi=>by
   have hi':i<(Jl hk.K.z l cnt).length:=by omega
   have e:(Jl hk.K.z l cnt).getD i Q.zeroV=(Jl hk.K.z l cnt)[i]:=by simp [List.getD_eq_getElem?_getD,hi']
   rw [e]
   exact HH.o.init_shape (HIN3.o i _ ((Jl Q.zero xa cnt)[i]'(by omega)) (Qd hi') (Qd (by omega)))
  have HXL:Hid ((Jl Q.zero xa cnt).length=cnt):=hxal
  have hlN:w.heap.size+1<W3.heap.size:=by omega
  have HKA:Hid (∀w4,Tch (λk=>k=b\/some k=g1\/k=w1.heap.size) W3 w4->w4.cell? ⟨w.heap.size+1,0,none⟩=some (.string what)):=λw4 ht=>(ht.cell (p:=⟨w.heap.size+1,0,none⟩) hlN (by
   show ¬(w.heap.size+1=b\/some (w.heap.size+1)=g1\/w.heap.size+1=w1.heap.size)
   have:=ZW HP.o _ _ _ HM1.o (w.heap.size+1) (by omega) (by omega)
   rintro (e | e | e)
   ·omega
   ·exact this (.inr e)
   ·omega)).trans kA
  clear hcp hW3 F1 F2 F4 F5 F6 F8 tD hstl hxal
  have hmf:∀(fn:Fn) (first cap:Array Value) (w:World),(Instr.makeFunc fn first cap).run prog w=.ok (.func fn first cap) w:=λ_ _ _ _=>rfl
  cases hq:PS.many Q.f (Jl Q.zero xa cnt) p with
  | some r=>
   obtain ⟨ys,p2⟩:=r
   have HQ:Hid (_=_):=hq
   clear hq
   go_wp2
   go_region_held3 (λW=>W.cell? ⟨w.heap.size,0,none⟩=some (.pointer (some ⟨b,0,none⟩))/\W.cell? ⟨w.heap.size+1,0,none⟩=some (.string what)/\W.cell? ⟨w1.heap.size+1,0,none⟩=some (.slice (some ⟨w1.heap.size,0,none⟩) cnt cnt)) (go_keep) (((first | go_at_call 189 | go_at_call 280 | go_at_call 135);refine (HEA.o _ _ what w1.heap.size 0 cnt cnt _ HSH.o _ _ HS.o (by omega) hwh _ HI.o).mono ?_;intro e w4 h4;obtain ⟨err,g4,p4,v4,rfl,hsh,hp4,hm4,ht4,hN4,hB4,hA4⟩:=JaC h4 G1.out HXL.o;rw [HQ.o] at hA4;obtain ⟨rfl,rfl,xs,hL4,hyl,hD4⟩:=hA4;obtain ⟨d2,f2,q1,q2⟩:=Xu (n:=0) (e':=.nilIface) hp4;rw [World.drewN_zero] at d2 f2 q1 q2;have k4:w4.cell? ⟨w.heap.size,0,none⟩=some (.pointer (some ⟨b,0,none⟩)):=Ja hN4;have kA4:w4.cell? ⟨w.heap.size+1,0,none⟩=some (.string what):=HKA.o w4 ht4;have kB4:w4.cell? ⟨w1.heap.size+1,0,none⟩=some (.slice (some ⟨w1.heap.size,0,none⟩) cnt cnt):=Ja hB4;have hz4:=Qm F7 ht4.size;have j4:=(q2.cell (p:=⟨w.heap.size,0,none⟩) (by show w.heap.size<_;omega) (by show ¬w.heap.size=b;omega)).trans k4;have jA4:=(q2.cell (p:=⟨w.heap.size+1,0,none⟩) (by show w.heap.size+1<_;omega) (by show ¬w.heap.size+1=b;omega)).trans kA4;have jB4:=(q2.cell (p:=⟨w1.heap.size+1,0,none⟩) (Jb hB4) (by show ¬w1.heap.size+1=b;omega)).trans kB4;have Q1:Hid (Jc _ _ _ _ _ _):=q1;have Q2:Hid (Tch _ _ _):=q2;have M4:Hid (Jn _ _ _):=hm4;have T4:Hid (Tch _ _ _):=ht4;have L4:Hid (XN _ _ _ _ _ _ _ _):=hL4;have D4:Hid (∀(j:Nat) x a,_):=hD4;have YL:Hid (ys.length=cnt):=hyl;clear h4 q1 q2 hm4 ht4 hN4 hB4 hL4 hp4 hsh hD4 hyl))
   all_goals
    have L5:Hid (XN _ (w4.setCell ⟨b,2,none⟩ .nilIface) b g4 w.heap.size w1.heap.size cnt xs):=L4.out.tch Q2.out (λj h=>.inl h) (.inl rfl)
    have k5:(w4.setCell ⟨b,2,none⟩ .nilIface).cell? ⟨w1.heap.size+1,0,none⟩=some (.slice (some ⟨w1.heap.size,0,none⟩) cnt cnt):=Ja L5.out.box2
    have D5:Hid (∀(j:Nat) x t,xs[j]? =some x->ys[j]? =some t->Q.Done (w4.setCell ⟨b,2,none⟩ .nilIface) (w1.heap.size+1) g4 x t):=λj x t a c=>HH.o.done_tch (D4.out j x t a c) Q2.out (λj h=>.inl (by omega)) (.inl rfl)
    generalize w4.setCell ⟨b,2,none⟩ .nilIface=W5 at *
    go_wp2
    go_ret
    show ToL _ E w b g wd Q (PS.many Q.f (Jl Q.zero xa cnt) p) _ _
    rw [HQ.o]
    refine ⟨w1.heap.size,xs,by rw [YL.out];rfl,by omega,L5.out.arr,by rw [YL.out];exact L5.out.len,g4,Q1.out,L5.out.apart _ (by simp),D5.out,G5.out.trans M4.out G6.out.size,?_⟩
    refine (G6.out.trans T4.out (λj h=>?_)).trans Q2.out (λj h=>.inl (.inl h))
    rcases h with h | h | h
    ·exact .inl (.inl h)
    ·rcases G5.out with e | ⟨i,e,hi⟩
     ·rw [e] at h;exact .inl (.inr h)
     ·rw [e] at h;cases h;exact .inr hi
    ·exact .inr (by omega)
  | none=>
   have HQ:Hid (_=_):=hq
   clear hq
   go_wp2
   go_region_held3 (λW=>W.cell? ⟨w.heap.size,0,none⟩=some (.pointer (some ⟨b,0,none⟩))/\W.cell? ⟨w.heap.size+1,0,none⟩=some (.string what)/\W.cell? ⟨w1.heap.size+1,0,none⟩=some (.slice (some ⟨w1.heap.size,0,none⟩) cnt cnt)) (go_keep) (((first | go_at_call 189 | go_at_call 280 | go_at_call 135);refine (HEA.o _ _ what w1.heap.size 0 cnt cnt _ HSH.o _ _ HS.o (by omega) hwh _ HI.o).mono ?_;intro e w4 h4;obtain ⟨err,g4,p4,v4,rfl,hsh,hp4,hm4,ht4,hN4,hB4,hA4⟩:=JaC h4 G1.out HXL.o;rw [HQ.o] at hA4;obtain ⟨pp,ss,vv,rfl,hpl4,hev⟩:=hA4;obtain ⟨d2,f2,q1,q2⟩:=Xu (n:=0) (e':=.iface 235 (.pointer (some ⟨pp,0,none⟩))) hp4;rw [World.drewN_zero] at d2 f2 q1 q2;have k4:w4.cell? ⟨w.heap.size,0,none⟩=some (.pointer (some ⟨b,0,none⟩)):=Ja hN4;have kA4:w4.cell? ⟨w.heap.size+1,0,none⟩=some (.string what):=HKA.o w4 ht4;have kB4:w4.cell? ⟨w1.heap.size+1,0,none⟩=some (.slice (some ⟨w1.heap.size,0,none⟩) cnt cnt):=Ja hB4;have hz4:=Qm F7 ht4.size;have j4:=(q2.cell (p:=⟨w.heap.size,0,none⟩) (by show w.heap.size<_;omega) (by show ¬w.heap.size=b;omega)).trans k4;have jA4:=(q2.cell (p:=⟨w.heap.size+1,0,none⟩) (by show w.heap.size+1<_;omega) (by show ¬w.heap.size+1=b;omega)).trans kA4;have jB4:=(q2.cell (p:=⟨w1.heap.size+1,0,none⟩) (Jb hB4) (by show ¬w1.heap.size+1=b;omega)).trans kB4;have Q1:Hid (Jc _ _ _ _ _ _):=q1;have Q2:Hid (Tch _ _ _):=q2;have M4:Hid (Jn _ _ _):=hm4;have T4:Hid (Tch _ _ _):=ht4;have B4:Hid (w4.heap[_]? =_):=hB4;have PL:Hid (w4.heap[_]? =_):=hpl4;have EV:Hid (Jp _ _ _ _):=hev;have P4:Hid (Jc _ _ _ _ _ _):=hp4;clear h4 q1 q2 hm4 ht4 hN4 hB4 hp4 hsh hpl4 hev))
   all_goals
    have hb4:=P4.out.lt
    have k5:(w4.setCell ⟨b,2,none⟩ (.iface 235 (.pointer (some ⟨pp,0,none⟩)))).cell? ⟨w1.heap.size+1,0,none⟩=some (.slice (some ⟨w1.heap.size,0,none⟩) cnt cnt):=Ja ((Q2.out.block _ (Jb B4.out) (by omega)).trans B4.out)
    have h6:Hid (Jp E 7 (w4.setCell ⟨b,2,none⟩ (.iface 235 (.pointer (some ⟨pp,0,none⟩)))) (.iface 235 (.pointer (some ⟨pp,0,none⟩)))):=(Jp.wrap pp ss vv PL.out EV.out).tch Q2.out (λq s u hq e=>Jfv hq P4.out e)
    generalize w4.setCell ⟨b,2,none⟩ (.iface 235 (.pointer (some ⟨pp,0,none⟩)))=W5 at *
    go_wp2
    go_ret
    show ToL _ E w b g wd Q (PS.many Q.f (Jl Q.zero xa cnt) p) _ _
    rw [HQ.o]
    refine ⟨⟨_,_,_,rfl⟩,g4,p4,_,Q1.out,h6.out,G5.out.trans M4.out G6.out.size,?_⟩
    refine (G6.out.trans T4.out (λj h=>?_)).trans Q2.out (λj h=>.inl (.inl h))
    rcases h with h | h | h
    ·exact .inl (.inl h)
    ·rcases G5.out with e | ⟨i,e,hi⟩
     ·rw [e] at h;exact .inl (.inr h)
     ·rw [e] at h;cases h;exact .inr hi
    ·exact .inr (by omega)

theorem JaH {K:LX} (hK:IsL K) {E:Nat->Addr} {b wd lim:Nat} {α:Type} {Q:Xz α} (H:XP E b wd lim K.k.fP Q K.Sh) (hz:Q.zeroV=K.z) (hb12:18<=b) (g:Option Nat) (what:BA) (hwh:what.size<=1000) (size least most:Nat) (v:Value) (l:List VV) (xa:List α) (p0:PS) (w:World)
  (hE:Env E w) (hp:Jc w b g wd .nilIface p0) (hv:VAt b w v l) (hl:l.length=xa.length) (hn:xa.length<1000000) (hd:p0.len+8+Q.grow * 3<=lim) (hlim:lim<=10000000000000) (hsz:size<=8) (hm3:most<=3) (htk:p0.takes v)
  (hin:∀(j:Nat) x a,l[j]? =some x->xa[j]? =some a->Q.Init b w p0 x a):
  Calls prog K.fL #[.pointer (some ⟨b,0,none⟩),.agg #[.string what,.int .i64 (size:Int),.int .u64 (least:Int),.int .u64 (most:Int)],v,.func (.func K.k.fP) #[.pointer (some ⟨b,0,none⟩)] #[]] w λe w'=>ToL K.k E w b g wd Q (p0.lst Q.f Q.zero size least most xa) e w':=by
 unfold PS.lst
 obtain ⟨ia,ic,hvs⟩:=hv.shape
 rw [hl] at hvs
 cases h1:p0.num xa.length size with
 | none=>exact Jlp hK E b g wd what hwh size least most v ia _ ic hvs p0 w hE hp hn (by omega) hsz h1
 | some r=>
  obtain ⟨cnt,p⟩:=r
  by_cases hr:cnt<least\/most<cnt
  ·simp only [hr,if_true]
   exact Jlq hK E b hb12 g wd what hwh size least most v ia _ ic cnt hvs p0 p w hE hp hn (by omega) hsz h1 hr
  ·simp only [hr,if_false]
   exact Jlr hK H hz hb12 g what hwh size least most v l xa cnt p0 p w hE hp hv hl hn hd hlim hsz hm3 h1 (by omega) (by omega) (JbL htk h1) hin
theorem Jlt:type_of% (@JaI xO (.inl rfl)):= @JaI xO (.inl rfl)
theorem Jls:type_of% (@JaH xO (.inl rfl)):= @JaH xO (.inl rfl)
theorem Jm8:type_of% (@JcG xO (.inl rfl)):= @JcG xO (.inl rfl)
theorem Jlo:type_of% (@JaI xC (.inr (.inl rfl))):= @JaI xC (.inr (.inl rfl))
theorem Jln:type_of% (@JaH xC (.inr (.inl rfl))):= @JaH xC (.inr (.inl rfl))
theorem Jm7:type_of% (@JcG xC (.inr (.inl rfl))):= @JcG xC (.inr (.inl rfl))
theorem Jlz:type_of% (@JaI xT (.inr (.inr rfl))):= @JaI xT (.inr (.inr rfl))
theorem Jly:type_of% (@JaH xT (.inr (.inr rfl))):= @JaH xT (.inr (.inr rfl))
theorem Jm9:type_of% (@JcG xT (.inr (.inr rfl))):= @JcG xT (.inr (.inr rfl))
