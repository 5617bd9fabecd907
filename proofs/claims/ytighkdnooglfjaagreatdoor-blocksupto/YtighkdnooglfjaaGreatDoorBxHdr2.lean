import Derived.Test.YtighkdnooglfjaaGreatDoorBxCoinS
namespace Go.Proofs.YtighkdnooglfjaaGreatDoor
open Tryz
set_option maxRecDepth 100000
set_option maxHeartbeats 1000000
open Go.RowKit

structure Run (E:Nat->Addr) (w0 wA w:World) (b:Nat) (g g':Option Nat) (wj:Int) (st:Option PS):Prop where
 port:Jh E w b g' wj st
 moved:Jp wA g g'
 tch:Tch (λk=>k=b\/some k=g) wA w
 env:Env E w
 k12:18<=b
 low:b<w0.heap.size
 own:∀k,g=some k->b<k/\k<w0.heap.size
 new:Tch NoB w0 wA
theorem Run.start {E:Nat->Addr} {w0 wA:World} {b:Nat} {g:Option Nat} {wj:Int} {st:Option PS} (h12:18<=b) (hE:Env E w0) (hp:Jh E w0 b g wj st) (k:Tch NoB w0 wA):Run E w0 wA wA b g g wj st:=
 ⟨hp.next k,.inl rfl,Te _ _,hE.tch k noE,h12,hp.lt,hp.own,k⟩
theorem Run.step {E:Nat->Addr} {w0 wA w w':World} {b:Nat} {g g':Option Nat} {wj:Int} {st st':Option PS} (h:Run E w0 wA w b g g' wj st) (k:StTo E w w' b g' wj st'):∃g'',Run E w0 wA w' b g g'' wj st':=by
 obtain ⟨g2,k1,k2,k3⟩:=k
 exact ⟨g2,k1,h.moved.trans k2 h.tch.size,XW h.tch k3 h.moved,h.env.tch k3 (Jbb h.k12 h.port),h.k12,h.low,h.own,h.new⟩
theorem Run.box {E:Nat->Addr} {w0 wA w:World} {b:Nat} {g g':Option Nat} {wj:Int} {st:Option PS} (h:Run E w0 wA w b g g' wj st) {k:Nat} {o:Obj} (hk:w0.heap.size<=k) (hA:wA.heap[k]? =some o):w.heap[k]? =some o/\¬(k=b\/some k=g'):=by
 have hl:=(Jb hA)
 have h1:=h.low
 refine ⟨(h.tch.block k hl ?_).trans hA,?_⟩
 ·rintro (e | e)
  ·omega
  ·have:=(h.own k e.symm).2;omega
 ·rcases h.moved with e | ⟨i,e,hi⟩
  ·rw [e]
   rintro (e | e)
   ·omega
   ·have:=(h.own k e.symm).2;omega
  ·rw [e]
   rintro (e | e)
   ·omega
   ·cases e;omega
theorem Run.to {E:Nat->Addr} {w0 wA w:World} {b:Nat} {g g':Option Nat} {wj:Int} {st:Option PS} (h:Run E w0 wA w b g g' wj st):StTo E w0 w b g wj st:=
 StTo.fresh h.new ⟨g',h.port,h.moved,h.tch⟩
theorem Run.done {E:Nat->Addr} {w0 wA w:World} {b:Nat} {g g':Option Nat} {wj:Int} {st:Option PS} (h:Run E w0 wA w b g g' wj st) {k:Nat} {cur cs:Array Value} {T:TypeId} (hk:w0.heap.size<=k) (hA:wA.heap[k]? =some (.cells cur T)) (hT:T ≠ 237):StTo E w0 (w.setRow k cs) b g wj st:=by
 obtain ⟨h1,h2⟩:=h.box hk hA
 obtain ⟨g2,k1,k2,k3⟩:=h.to
 have hg:g2=g':=k1.same h.port
 subst hg
 exact ⟨g2,k1.row h1 hT h2,k2,k3.trans (Ts w k cs) (λj hj=>.inr (by omega))⟩
theorem set4 (w:World) (g:Nat) (t:TypeId) (a b c d v0 v1 v2 v3:Value) (h:w.heap[g]? =some (.cells #[a,b,c,d] t (0,0))):
  (((w.setCell ⟨g,0,none⟩ v0).setCell ⟨g,1,none⟩ v1).setCell ⟨g,2,none⟩ v2).setCell ⟨g,3,none⟩ v3=w.setRow g #[v0,v1,v2,v3]:=by
 rw [Qj w g 0 _ t (0,0) v0 h,Qj _ g 1 _ t (0,0) v1 (Qi _ _ _ _ _ _ h),QI,
  Qj _ g 2 _ t (0,0) v2 (Qi _ _ _ _ _ _ h),QI,Qj _ g 3 _ t (0,0) v3 (Qi _ _ _ _ _ _ h),QI]
 refine congrArg (w.setRow g) ?_
 simp
def YZ (wj:Nat) (h:HdL) (st:Option PS):(Nat×List UInt8×List UInt8×List UInt8)×Option PS:=
 let r0:=JG h.1 4 st
 let r1:=Jj h.2.1.data.toList wj r0.2
 let r2:=Jj h.2.2.1.data.toList wj r1.2
 let r3:=Jj h.2.2.2.data.toList wj r2.2
 ((r0.1,r1.1,r2.1,r3.1),r3.2)
abbrev hdV (r:Nat×List UInt8×List UInt8×List UInt8):Value:=.agg #[.int .u64 (r.1:Int),.string ⟨r.2.1.toArray⟩,.string ⟨r.2.2.1.toArray⟩,.string ⟨r.2.2.2.toArray⟩]
theorem Jgn (wj:Nat) (h:HdL) (p:PS) (hh:p.hdr wj h=none):(YZ wj h (some p)).2=none:=by
 unfold YZ
 unfold PS.hdr at hh
 dsimp only
 cases h1:p.num h.1 4 with
 | none=>rw [JaH h1];rfl
 | some r=>
  obtain ⟨n,p1⟩:=r
  rw [Xu h1]
  simp only [h1] at hh
  dsimp only
  cases h2:p1.txt h.2.1.data.toList wj with
  | none=>rw [Yp h2];rfl
  | some r=>
   obtain ⟨t1,p2⟩:=r
   rw [JW h2]
   simp only [h2] at hh
   dsimp only
   cases h3:p2.txt h.2.2.1.data.toList wj with
   | none=>rw [Yp h3];rfl
   | some r=>
    obtain ⟨t2,p3⟩:=r
    rw [JW h3]
    simp only [h3] at hh
    dsimp only
    cases h4:p3.txt h.2.2.2.data.toList wj with
    | none=>rw [Yp h4]
    | some r=>simp [h4] at hh
theorem JcW (wj:Nat) (h y:HdL) (p p2:PS) (hh:p.hdr wj h=some (y,p2)):(YZ wj h (some p)).2=some p2/\hdV (YZ wj h (some p)).1=.agg #[.int .u64 (y.1:Int),.string y.2.1,.string y.2.2.1,.string y.2.2.2]:=by
 unfold YZ
 unfold PS.hdr at hh
 dsimp only
 cases h1:p.num h.1 4 with
 | none=>rw [h1] at hh;cases hh
 | some r=>
  obtain ⟨n,p1⟩:=r
  rw [Xu h1]
  simp only [h1] at hh
  dsimp only
  cases h2:p1.txt h.2.1.data.toList wj with
  | none=>rw [h2] at hh;cases hh
  | some r=>
   obtain ⟨t1,p2⟩:=r
   rw [JW h2]
   simp only [h2] at hh
   dsimp only
   cases h3:p2.txt h.2.2.1.data.toList wj with
   | none=>rw [h3] at hh;cases hh
   | some r=>
    obtain ⟨t2,p3⟩:=r
    rw [JW h3]
    simp only [h3] at hh
    dsimp only
    cases h4:p3.txt h.2.2.2.data.toList wj with
    | none=>rw [h4] at hh;cases hh
    | some r=>
     obtain ⟨t3,p4⟩:=r
     rw [JW h4]
     simp only [h4,Qh,Qw] at hh
     obtain ⟨rfl,rfl⟩:=hh
     exact ⟨rfl,rfl⟩

theorem Jhy (E:Nat->Addr) (b:Nat) (hb12:18<=b) (g:Option Nat) (wj:Nat) (n:Nat) (s1 s2 s3:BA) (st:Option PS) (w:World) (hE:Env E w) (hp:Jh E w b g wj st) (hd:JN st+4 * wj<=90000000):
  Calls prog 86 #[.pointer (some ⟨b,0,none⟩),.agg #[.int .u64 (n:Int),.string s1,.string s2,.string s3]] w λe w'=>e=.returned (hdV (YZ wj (n,s1,s2,s3) st).1)/\StTo E w w' b g wj (YZ wj (n,s1,s2,s3) st).2:=by
 have hlt:=hp.lt
 have HR0:=Run.start hb12 hE hp (Tch.allocs NoB w (.cells #[.int .u64 (n:Int),.string s1,.string s2,.string s3] 167) (.cells #[.int .u64 0,.string ⟨#[]⟩,.string ⟨#[]⟩,.string ⟨#[]⟩] 167))
 have hl0:=Jal n 4 st
 have hl1:=Yc s1.data.toList wj (JG n 4 st).2
 have hl2:=Yc s2.data.toList wj (Jj s1.data.toList wj (JG n 4 st).2).2
 have RUN:Hid _:=HR0
 clear hE hp HR0
 go_enter func86,ntmps86
 go_wp2_with fail
 refine (Zj E b g wj n 4 st _ RUN.out.env RUN.out.port (by omega) (by omega)).mono ?_
 rintro _ w1 ⟨rfl,h⟩
 obtain ⟨g1,R1⟩:=RUN.out.step h
 have bx1:=(R1.box (k:=w.heap.size) (Ql _) (heap_alloc2_old _ _ _)).1
 have c1:w1.cell? ⟨w.heap.size,1,none⟩=some (.string s1):=Ja bx1
 have RUN1:Hid _:=R1
 clear R1 bx1 h
 go_wp2_with fail
 refine (YJ E b g1 wj s1 _ _ RUN1.out.env RUN1.out.port (by omega)).mono ?_
 rintro _ w2 ⟨rfl,h⟩
 obtain ⟨g2,R2⟩:=RUN1.out.step h
 have bx2:=(R2.box (k:=w.heap.size) (Ql _) (heap_alloc2_old _ _ _)).1
 have c2:w2.cell? ⟨w.heap.size,2,none⟩=some (.string s2):=Ja bx2
 have RUN2:Hid _:=R2
 clear R2 bx2 h
 go_wp2_with fail
 refine (YJ E b g2 wj s2 _ _ RUN2.out.env RUN2.out.port (by omega)).mono ?_
 rintro _ w3 ⟨rfl,h⟩
 obtain ⟨g3,R3⟩:=RUN2.out.step h
 have bx3:=(R3.box (k:=w.heap.size) (Ql _) (heap_alloc2_old _ _ _)).1
 have c3:w3.cell? ⟨w.heap.size,3,none⟩=some (.string s3):=Ja bx3
 have RUN3:Hid _:=R3
 clear R3 bx3 h
 go_wp2_with fail
 refine (YJ E b g3 wj s3 _ _ RUN3.out.env RUN3.out.port (by omega)).mono ?_
 rintro _ w4 ⟨rfl,h⟩
 obtain ⟨g4,R4⟩:=RUN3.out.step h
 have rR:=(R4.box (k:=w.heap.size+1) (by omega) (heap_alloc2_new _ _ _)).1
 have e0:w4.cell? ⟨w.heap.size+1,0,none⟩=some (.int .u64 0):=Ja rR
 have e1:w4.cell? ⟨w.heap.size+1,1,none⟩=some (.string ⟨#[]⟩):=Ja rR
 have e2:w4.cell? ⟨w.heap.size+1,2,none⟩=some (.string ⟨#[]⟩):=Ja rR
 have e3:w4.cell? ⟨w.heap.size+1,3,none⟩=some (.string ⟨#[]⟩):=Ja rR
 have fR:∀j,w4.frozen? ⟨w.heap.size+1,j,none⟩=false:=λj=>Qg _ _ _ _ _ rR
 have RUN4:Hid _:=R4
 have RR:Hid (_=_):=rR
 clear R4 rR h
 go_wp2
 rw [set4 _ _ _ _ _ _ _ _ _ _ _ RR.out]
 exact QK (v:=hdV (YZ wj (n,s1,s2,s3) st).1) (Qq results86 _ _ (w.heap.size+1) _ _ (0,0) _ rfl (Qi _ _ _ _ _ _ RR.out) underlying167 rfl (by kernel_rfl)) rfl ⟨rfl,RUN4.out.done (k:=w.heap.size+1) (by omega) (heap_alloc2_new _ _ _) (by decide)⟩

theorem Xc (wj:Int) (w:World):
  Calls prog 77 #[.int .i64 wj] w λe w'=>e=.returned (.pointer (some ⟨w.heap.size,0,none⟩))/\Jc w' w.heap.size none wj .nilIface (.wr [])/\Tch NoB w w':=by
 go_enter func77,ntmps77
 go_wp2
 go_ret
 refine ⟨rfl,⟨.slice none 0 0,rfl,Bs.nil _ _,?_⟩,Ta _ _ _⟩
 exact Qf _ _
theorem Zc (wj:Int) (s:BA) (w:World):
  Calls prog 85 #[.int .i64 wj,.string s] w λe w'=>e=.returned (.pointer (some ⟨w.heap.size,0,none⟩))/\Jc w' w.heap.size none wj .nilIface (.rd [] s.data.toList)/\Tch NoB w w':=by
 go_enter func85,ntmps85
 go_wp2
 go_ret
 refine ⟨rfl,⟨rfl,?_⟩,Ta _ _ _⟩
 exact Qf _ _
theorem Jkb (b:Nat) (g:Option Nat) (wj:Int) (done:List UInt8) (w:World) (hp:Jc w b g wj .nilIface (.wr done)):
  Calls prog 79 #[.pointer (some ⟨b,0,none⟩)] w λe w'=>e=.returned (.tuple #[.string ⟨done.toArray⟩,.nilIface])/\∃n,w'=w.drewN n:=by
 have ce:=hp.errCell
 obtain ⟨v,_,hbs,hrow⟩:=hp
 have c3:w.cell? ⟨b,3,none⟩=some v:=Ja hrow
 have hst:=λn=>XI (P:=prog) (w:=w.drewN n) (l:=done) hbs 52 9 5 underlying52 underlying5 underlying9
 have hst0:=hst 0
 rw [World.drewN_zero] at hst0
 have hst1:=hst 1
 rw [<-World.drew_is_drewN] at hst1
 clear hst hrow hbs
 generalize (⟨done.toArray⟩:BA)=r at *
 go_enter func79,ntmps79
 go_wp2
 go_ret2
 exact ⟨rfl,0,rfl⟩
theorem Jig (b:Nat) (g:Option Nat) (wj:Int) (t:TypeId) (u:Value) (p:PS) (w:World) (hp:Jc w b g wj (.iface t u) p):
  Calls prog 79 #[.pointer (some ⟨b,0,none⟩)] w λe w'=>e=.returned (.tuple #[.string ⟨#[]⟩,.iface t u])/\∃n,w'=w.drewN n:=by
 have ce:=hp.errCell
 clear hp
 go_enter func79,ntmps79
 go_wp2
 go_region
 all_goals go_wp2
 all_goals go_ret2
 all_goals exact ⟨rfl,1,rfl⟩
theorem JcP (b:Nat) (g:Option Nat) (wj:Int) (e:Value) (pre rest:List UInt8) (w:World) (hp:Jc w b g wj e (.rd pre rest)):
  Calls prog 87 #[.pointer (some ⟨b,0,none⟩)] w λe w'=>e=.returned (.string ⟨rest.toArray⟩)/\Tch NoB w w':=by
 have c3:w.cell? ⟨b,3,none⟩=some (.string ⟨(pre++rest).toArray⟩):=Ja hp.2
 have c4:w.cell? ⟨b,4,none⟩=some (.int .i64 (pre.length:Int)):=Ja hp.2
 have hsz:pre.length<=(⟨(pre++rest).toArray⟩:BA).size:=by rw [Jk,Qe];omega
 have hx:(⟨(pre++rest).toArray⟩:BA).extract pre.length (⟨(pre++rest).toArray⟩:BA).size=⟨rest.toArray⟩:=by rw [JjZ,List.drop_left'];rfl
 clear hp
 generalize (⟨rest.toArray⟩:BA)=rt at *
 generalize (⟨(pre++rest).toArray⟩:BA)=r at *
 generalize pre.length=n at *
 go_enter func87,ntmps87
 go_wp2
 go_region
 all_goals go_wp2
 all_goals go_ret
 all_goals exact ⟨rfl,Td _ w 1⟩
theorem Jaa (E:Nat->Addr) (b:Nat) (g:Option Nat) (wj:Int) (st:Option PS) (hw:∀p,st=some p->∃d,p=.wr d) (w:World) (hp:Jh E w b g wj st):
  Calls prog 79 #[.pointer (some ⟨b,0,none⟩)] w λe w'=>Tch NoB w w'/\match st with
   | some (.wr d)=>e=.returned (.tuple #[.string ⟨d.toArray⟩,.nilIface])
   | _=>∃t u,e=.returned (.tuple #[.string ⟨#[]⟩,.iface t u])/\Jm E 7 w' (.iface t u):=by
 cases st with
 | none=>
  obtain ⟨p,t,u,h1,h2⟩:=hp
  refine (Jig b g wj t u p w h1).mono ?_
  rintro e w' ⟨rfl,n,rfl⟩
  exact ⟨Td _ w n,t,u,rfl,h2.tch (Td NoB w n) (λ_ _ _ _ h=>h)⟩
 | some p=>
  obtain ⟨d,rfl⟩:=hw p rfl
  refine (Jkb b g wj d w hp).mono ?_
  rintro e w' ⟨rfl,n,rfl⟩
  exact ⟨Td _ w n,rfl⟩

theorem JdQ (b:Nat) (g:Option Nat) (wj:Int) (e x:Value) (pre rest:List UInt8) (w:World) (hp:Jc w b g wj e (.rd pre rest)):
  Calls prog 140 #[.pointer (some ⟨b,0,none⟩),x] w λe w'=>e=.returned (.bool (!rest.isEmpty))/\Tch NoB w w':=by
 have c3:w.cell? ⟨b,3,none⟩=some (.string ⟨(pre++rest).toArray⟩):=Ja hp.2
 have c4:w.cell? ⟨b,4,none⟩=some (.int .i64 (pre.length:Int)):=Ja hp.2
 have hsz:(⟨(pre++rest).toArray⟩:BA).size=pre.length+rest.length:=by rw [Jk,Qe]
 have hb:decide (pre.length<(⟨(pre++rest).toArray⟩:BA).size)= !rest.isEmpty:=by
  rw [hsz]
  cases rest with
  | nil=>simp
  | cons a l=>simp
 have HB:Hid _:=hb
 clear hp hb hsz
 generalize (⟨(pre++rest).toArray⟩:BA)=r at *
 generalize pre.length=n at *
 go_enter func140,ntmps140
 go_wp2
 go_region
 all_goals go_wp2
 all_goals go_ret
 all_goals exact ⟨by rw [<-HB.o];rfl,Td _ w 1⟩
theorem JjF (b:Nat) (wj:Int) (pre:List UInt8) (w:World) (hp:Jc w b none wj .nilIface (.rd pre [])):
  Calls prog 88 #[.pointer (some ⟨b,0,none⟩)] w λe w'=>e=.returned .nilIface/\Tch NoB w w':=by
 have ce:=hp.errCell
 have HM:Hid (∀x W,Tch NoB w W->Calls prog 140 #[.pointer (some ⟨b,0,none⟩),x] W λe w'=>e=.returned (.bool false)/\Tch NoB W w'):=λx W hT=>JdQ b none wj .nilIface x pre [] W (hp.tch hT (λh=>h) (λ_ _ h=>h))
 have HE:Hid (∀W,Tch NoB w W->W.cell? ⟨b,2,none⟩=some .nilIface):=λW hT=>(hp.tch hT (λh=>h) (λ_ _ h=>h)).errCell
 clear hp
 go_enter func88,ntmps88
 go_wp2_with fail
 refine (HM.o _ w (Te _ _)).mono ?_
 rintro _ w1 ⟨rfl,ht⟩
 have c1:=HE.o w1 ht
 have HT:Hid _:=ht
 clear HM HE ht
 go_wp2
 go_ret
 exact ⟨rfl,HT.o⟩
theorem JdP (b:Nat) (g:Option Nat) (wj:Int) (t:TypeId) (u:Value) (p:PS) (w:World) (hp:Jc w b g wj (.iface t u) p):
  Calls prog 88 #[.pointer (some ⟨b,0,none⟩)] w λe w'=>e=.returned (.iface t u)/\Tch NoB w w':=by
 have ce:=hp.errCell
 clear hp
 go_enter func88,ntmps88
 go_wp2
 go_ret
 first
  | exact ⟨rfl,Te _ _⟩
  | exact ⟨rfl,Td _ w 1⟩
theorem Jes (E:Nat->Addr) (b:Nat) (wj:Int) (pre rest:List UInt8) (hr:rest ≠ []) (w:World) (hE:Env E w) (hp:Jc w b none wj .nilIface (.rd pre rest)):
  Calls prog 88 #[.pointer (some ⟨b,0,none⟩)] w λe w'=>∃t u,e=.returned (.iface t u)/\Jm E 7 w' (.iface t u)/\Tch NoB w w':=by
 have ce:=hp.errCell
 have hne:(!rest.isEmpty)=true:=by cases rest with | nil=>exact absurd rfl hr | cons a l=>rfl
 have HM:Hid (∀x,Calls prog 140 #[.pointer (some ⟨b,0,none⟩),x] w λe w'=>e=.returned (.bool true)/\Tch NoB w w'):=λx=>by
  have:=JdQ b none wj .nilIface x pre rest w hp
  rw [hne] at this
  exact this
 have HF:Hid (∀W,Tch NoB w W->W.cell? ⟨7,0,none⟩=some (eV E 7)):=λW hT=>(hE.tch hT noE).form
 clear hp hE hne
 go_enter func88,ntmps88
 go_wp2_with fail
 refine (HM.o _).mono ?_
 rintro _ w1 ⟨rfl,ht⟩
 have c1:=HF.o w1 ht
 have HT:Hid _:=ht
 clear HM HF ht
 go_wp2_with fail
 refine (XA _ _ _ _).mono ?_
 rintro _ _ ⟨rfl,rfl⟩
 go_wp2
 go_ret
 exact ⟨_,_,rfl,.wrap _ _ _ (Qf _ _) .base,HT.o.trans (Ta NoB _ _) noE⟩
theorem JcK (E:Nat->Addr) (b:Nat) (wj:Int) (st:Option PS) (hr:∀p,st=some p->∃q r,p=.rd q r) (w:World) (hE:Env E w) (g:Option Nat) (hp:Jh E w b g wj st):
  Calls prog 88 #[.pointer (some ⟨b,0,none⟩)] w λe w'=>Tch NoB w w'/\match st with
   | some (.rd _ [])=>e=.returned .nilIface
   | _=>∃t u,e=.returned (.iface t u)/\Jm E 7 w' (.iface t u):=by
 cases st with
 | none=>
  obtain ⟨p,t,u,h1,h2⟩:=hp
  refine (JdP b g wj t u p w h1).mono ?_
  rintro e w' ⟨rfl,h⟩
  exact ⟨h,t,u,rfl,h2.tch h (λ_ _ _ _ h=>h)⟩
 | some p=>
  obtain ⟨q,r,rfl⟩:=hr p rfl
  have hg:g=none:=hp.1
  subst hg
  cases r with
  | nil=>exact (JjF b wj q w hp).mono λe w' ⟨h1,h2⟩=>⟨h2,h1⟩
  | cons a l=>exact (Jes E b wj q (a :: l) (by simp) w hE hp).mono λe w' ⟨t,u,h1,h2,h3⟩=>⟨h3,t,u,h1,h2⟩
