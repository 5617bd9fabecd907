import Derived.Test.YtighkdnooglfjaaGreatDoorOcPDef
import Derived.Shelf.Strconv.Clone
import Derived.Shelf.Strings.Repeat
namespace Go.Proofs.YtighkdnooglfjaaGreatDoor
open Tryz
set_option maxRecDepth 100000
set_option maxHeartbeats 1000000
open Go.RowKit

def JaI (E:Nat->Addr) (w w':World) (b:Nat) (g:Option Nat) (wd:Int):Prop:=
 ∃g' p',Jc w' b g' wd (eV E 7) p'/\Jm w g g'/\Tch (λk=>k=b\/some k=g) w w'
theorem Tch.allocs (S:Nat->Prop) (w:World) (o o':Obj):Tch S w ((w.alloc o).alloc o'):=(Ta S w o).trans (Ta S _ o') (λ_ h=>.inl h)
theorem Jc.allocs {w:World} {b:Nat} {g:Option Nat} {wd:Int} {err:Value} {p:PS} (h:Jc w b g wd err p) (o o':Obj):Jc ((w.alloc o).alloc o') b g wd err p:=
 h.tch (Tch.allocs NoB w o o') (λh=>h) (λ_ _ h=>h)
theorem Env.allocs {E:Nat->Addr} {w:World} (h:Env E w) (o o':Obj):Env E ((w.alloc o).alloc o'):=h.tch (Tch.allocs NoB w o o') noE
theorem set2 (w:World) (g:Nat) (t:TypeId) (a b v0 v1:Value) (h:w.heap[g]? =some (.cells #[a,b] t (0,0))):
  (w.setCell ⟨g,0,none⟩ v0).setCell ⟨g,1,none⟩ v1=w.setRow g #[v0,v1]:=by
 rw [Qj w g 0 _ t (0,0) v0 h,Qj _ g 1 _ t (0,0) v1 (Qi _ _ _ _ _ _ h),QI]
 refine congrArg (w.setRow g) ?_
 simp
theorem Xx.fresh {w w2 w3:World} {b k:Nat} {g g2:Option Nat} {wd:Int} {err:Value} {p p2:PS} (_hp:Jc w b g wd err p) (o o':Obj) (hm:Jm ((w.alloc o).alloc o') g g2) (ht:Tch (λk=>k=b\/some k=g) ((w.alloc o).alloc o') w2)
  (hp2:Jc w3 b g2 wd .nilIface p2) (h3:Tch (λj=>j=k) w2 w3) (hk:w.heap.size<=k):Xx w w3 b g wd p2:=by
 refine ⟨g2,hp2,?_,((Tch.allocs _ w o o').trans ht (λ_ h=>.inl h)).trans h3 (λj hj=>by subst hj;exact .inr hk)⟩
 rcases hm with hm | ⟨i,hi,hle⟩
 ·exact .inl hm
 ·exact .inr ⟨i,hi,by simp at hle;omega⟩
theorem JaI.fresh {E:Nat->Addr} {w w2 w3:World} {b k:Nat} {g g2:Option Nat} {wd:Int} {err:Value} {p p2:PS} (_hp:Jc w b g wd err p) (o o':Obj) (hm:Jm ((w.alloc o).alloc o') g g2) (ht:Tch (λk=>k=b\/some k=g) ((w.alloc o).alloc o') w2)
  (hp2:Jc w3 b g2 wd (eV E 7) p2) (h3:Tch (λj=>j=k) w2 w3) (hk:w.heap.size<=k):JaI E w w3 b g wd:=by
 refine ⟨g2,p2,hp2,?_,((Tch.allocs _ w o o').trans ht (λ_ h=>.inl h)).trans h3 (λj hj=>by subst hj;exact .inr hk)⟩
 rcases hm with hm | ⟨i,hi,hle⟩
 ·exact .inl hm
 ·exact .inr ⟨i,hi,by simp at hle;omega⟩
theorem XS {w:World} {b:Nat} {g:Option Nat} {wd:Int} {err:Value} {p:PS} (h:Jc w b g wd err p) (k:Nat) (hk:w.heap.size<=k):¬(k=b\/some k=g):=by
 have h1:=h.lt
 rintro (rfl | e)
 ·omega
 ·have:=(h.own k e.symm).2;omega
theorem Jay {w:World} {b:Nat} {g:Option Nat} {wd:Int} {err:Value} {p:PS} (h12:18<=b) (h:Jc w b g wd err p):∀j,(j=b\/some j=g)->18<=j:=by
 rintro j (rfl | e)
 ·exact h12
 ·have:=(h.own j e.symm).1;omega
theorem JbD {w:World} {b:Nat} {g g':Option Nat} {wd:Int} {err:Value} {p:PS} (h:Jc w b g wd err p) (o o':Obj) (hm:Jm ((w.alloc o).alloc o') g g') (k:Nat) (hk:w.heap.size<=k) (hk2:k<w.heap.size+2):¬(k=b\/some k=g'):=by
 rcases hm with rfl | ⟨i,rfl,hi⟩
 ·exact XS h k hk
 ·have h1:=h.lt
  rintro (rfl | e)
  ·omega
  ·cases e;simp at hi;omega

theorem Jbq (x:Int) (h0:0<=x) (h:x<256):IntKind.u8.wrap x=x:=by
 simp [IntKind.wrap,IntKind.bits,IntKind.signed];omega

theorem Jkc (b:Nat) (g:Option Nat) (wd:Int) (a o a' o':Nat) (p p1 p2:PS) (w:World) (hp:Jc w b g wd .nilIface p) (hd:p.len<=90000000) (hd1:p1.len<=90000000) (ho:o<256) (h1:p.num a 8=some (a',p1)) (h2:p1.num o 1=some (o',p2)) (ho':o'<256):
  Calls prog 205 #[.pointer (some ⟨b,0,none⟩),.agg #[.int .u64 (a:Int),.int .u8 (o:Int)]] w λe w'=>e=.returned (.agg #[.int .u64 (a':Int),.int .u8 (o':Int)])/\Xx w w' b g wd p2:=by
 have hlt:=hp.lt
 go_enter func205,ntmps205
 go_wp2_with fail
 refine (Xk b g wd a 8 a' p p1 _ (hp.allocs _ _) (by omega) (by omega) h1).mono ?_
 rintro _ w1 ⟨rfl,g1,hp1,hm1,ht1⟩
 have cB:=(ht1.cell (p:=⟨w.heap.size,1,none⟩) (by simp;omega) (XS hp _ (Ql _))).trans (Ja (heap_alloc2_old _ _ _))
 have rR:=(ht1.block _ (by simp) (XS hp _ (by omega))).trans (heap_alloc2_new _ _ _)
 have hw:IntKind.u64.wrap (o:Int)=(o:Int):=JA _ (by omega) (by omega)
 have hw2:IntKind.u8.wrap (o':Int)=(o':Int):=Jbq _ (by omega) (by omega)
 have RR:Hid _:=rR
 have HM1:Hid (Jm _ _ _):=hm1
 have HT1:Hid (Tch _ _ _):=ht1
 have HP:Hid (Jc _ _ _ _ _ _):=hp
 go_wp2_with fail
 refine (Xk b g1 wd o 1 o' p1 p2 _ hp1 (by omega) (by omega) h2).mono ?_
 rintro _ w2 ⟨rfl,g2,hp2,hm2,ht2⟩
 have rR2:=(ht2.block _ (by have:=HT1.o.size;simp at this;omega) (JbD HP _ _ HM1 _ (by omega) (by omega))).trans RR.out
 obtain ⟨e0,e1⟩:=rows rR2
 have fR:∀j,w2.frozen? ⟨w.heap.size+1,j,none⟩=false:=λj=>Qg _ _ _ _ _ rR2
 have RR2:Hid _:=rR2
 go_wp2
 rw [set2 _ _ _ _ _ _ _ RR2.out]
 refine QJ (v:=.agg #[.int .u64 (a':Int),.int .u8 (o':Int)]) (Qq results205 _ _ (w.heap.size+1) _ _ (0,0) _ rfl (Qi w2 _ _ _ _ _ RR2) underlying80 rfl (by kernel_rfl)) rfl ⟨rfl,?_⟩
 have hn2:¬(w.heap.size+1=b\/some (w.heap.size+1)=g2):=by
  have h3:=HM1.o.trans hm2 HT1.o.size
  exact JbD HP _ _ h3 _ (by omega) (by omega)
 refine Xx.fresh HP.o _ _ (HM1.o.trans hm2 HT1.o.size) (XV HT1.o ht2 HM1.o) ?_ (Ts w2 (w.heap.size+1) _) (by omega)
 exact hp2.tch (Ts w2 (w.heap.size+1) _) (λe=>hn2 (.inl e.symm)) (λj hj e=>hn2 (.inr (by rw [hj,e])))

theorem Jim (E:Nat->Addr) (b:Nat) (g:Option Nat) (wd:Int) (a o:Nat) (p:PS) (w:World) (hE:Env E w) (hp:Jc w b g wd .nilIface p) (hd:p.len<=90000000) (h1:p.num a 8=none):
  Calls prog 205 #[.pointer (some ⟨b,0,none⟩),.agg #[.int .u64 (a:Int),.int .u8 (o:Int)]] w λe w'=>∃x y:Int,e=.returned (.agg #[.int .u64 x,.int .u8 y])/\JaI E w w' b g wd:=by
 have hlt:=hp.lt
 go_enter func205,ntmps205
 go_wp2_with fail
 refine (YC E b g wd a 8 p _ (hE.allocs _ _) (hp.allocs _ _) (by omega) (by omega) h1).mono ?_
 rintro _ w2 ⟨rfl,hp1,(HT1:Hid _)⟩
 have hb1:w.heap.size ≠ b:=by omega
 have hb2:w.heap.size+1 ≠ b:=by omega
 have cB:=(HT1.cell (p:=⟨w.heap.size,1,none⟩) (by simp;omega) hb1).trans (Ja (heap_alloc2_old _ _ _))
 have rR2:=(HT1.block _ (by simp) hb2).trans (heap_alloc2_new _ _ _)
 obtain ⟨e0,e1⟩:=rows rR2
 have fR:∀j,w2.frozen? ⟨w.heap.size+1,j,none⟩=false:=λj=>Qg _ _ _ _ _ rR2
 have RR2:Hid _:=rR2
 have HP:Hid (Jc _ _ _ _ _ _):=hp
 go_wp2_with fail
 refine (Zb b g wd _ _ p _ _ _ hp1).mono ?_
 rintro _ _ ⟨rfl,rfl⟩
 go_wp2
 rw [set2 _ _ _ _ _ _ _ RR2.out]
 refine QJ (v:=.agg #[.int .u64 0,.int .u8 0]) (Qq results205 _ _ (w.heap.size+1) _ _ (0,0) _ rfl (Qi w2 _ _ _ _ _ RR2) underlying80 rfl (by kernel_rfl)) rfl ⟨0,0,rfl,?_⟩
 refine JaI.fresh (p2:=p) HP _ _ (.inl rfl) (HT1.mono (λj h=>.inl (.inl h))) ?_ (Ts w2 (w.heap.size+1) _) (by omega)
 exact hp1.tch (Ts w2 (w.heap.size+1) _) (λe=>hb2 e.symm) (λj hj e=>by subst e;have:=(HP.o.own _ hj).2;omega)

theorem Jin (E:Nat->Addr) (b:Nat) (hb12:18<=b) (g:Option Nat) (wd:Int) (a o a':Nat) (p p1:PS) (w:World) (hE:Env E w) (hp:Jc w b g wd .nilIface p) (hd:p.len<=90000000) (ho:o<256) (h1:p.num a 8=some (a',p1)) (h2:p1.num o 1=none):
  Calls prog 205 #[.pointer (some ⟨b,0,none⟩),.agg #[.int .u64 (a:Int),.int .u8 (o:Int)]] w λe w'=>∃x y:Int,e=.returned (.agg #[.int .u64 x,.int .u8 y])/\JaI E w w' b g wd:=by
 have hlt:=hp.lt
 go_enter func205,ntmps205
 go_wp2_with fail
 refine (Xk b g wd a 8 a' p p1 _ (hp.allocs _ _) (by omega) (by omega) h1).mono ?_
 rintro _ w1 ⟨rfl,g1,hp1,(HM1:Hid _),(HT1:Hid _)⟩
 have cB:=(HT1.cell (p:=⟨w.heap.size,1,none⟩) (by simp;omega) (XS hp _ (Ql _))).trans (Ja (heap_alloc2_old _ _ _))
 have rR:=(HT1.block _ (by simp) (XS hp _ (by omega))).trans (heap_alloc2_new _ _ _)
 have hw:IntKind.u64.wrap (o:Int)=(o:Int):=JA _ (by omega) (by omega)
 have RR:Hid _:=rR
 have HP:Hid _:=hp
 have hE1:=(hE.allocs _ _).tch HT1 (Jay hb12 hp)
 go_wp2_with fail
 refine (YC E b g1 wd o 1 p1 _ hE1 hp1 (by omega) (by have:=Zn _ _ _ _ _ h1;omega) h2).mono ?_
 rintro _ w2 ⟨rfl,hp2,ht2⟩
 have hb2:w.heap.size+1 ≠ b:=by omega
 have rR2:=(ht2.block _ (by have:=HT1.o.size;simp at this;omega) hb2).trans RR.out
 obtain ⟨e0,e1⟩:=rows rR2
 have fR:∀j,w2.frozen? ⟨w.heap.size+1,j,none⟩=false:=λj=>Qg _ _ _ _ _ rR2
 have RR2:Hid _:=rR2
 go_wp2
 rw [set2 _ _ _ _ _ _ _ RR2.out]
 refine QJ (v:=.agg #[.int .u64 (a':Int),.int .u8 0]) (Qq results205 _ _ (w.heap.size+1) _ _ (0,0) _ rfl (Qi w2 _ _ _ _ _ RR2) underlying80 rfl (by kernel_rfl)) rfl ⟨(a':Int),0,rfl,?_⟩
 have hn2:¬(w.heap.size+1=b\/some (w.heap.size+1)=g1):=JbD HP _ _ HM1 _ (by omega) (by omega)
 refine JaI.fresh (p2:=p1) HP _ _ HM1 (HT1.trans ht2 (λj h=>.inl (.inl h))) ?_ (Ts w2 (w.heap.size+1) _) (by omega)
 exact hp2.tch (Ts w2 (w.heap.size+1) _) (λe=>hn2 (.inl e.symm)) (λj hj e=>hn2 (.inr (by rw [hj,e])))

def ErrN (E:Nat->Addr) (g:Nat) (w:World):Value->Nat->Prop
 | v,0=>v=eV E g
 | v,n+1=>∃p s u,w.heap[p]? =some (.cells #[.string s,u] 237)/\ErrN E g w u n/\v=.iface 235 (.pointer (some ⟨p,0,none⟩))
theorem ErrN.wrap {E:Nat->Addr} {g:Nat} {w:World} (p:Nat) (s:BA) (v:Value) (n:Nat) (hp:w.heap[p]? =some (.cells #[.string s,v] 237)) (h:ErrN E g w v n):ErrN E g w (.iface 235 (.pointer (some ⟨p,0,none⟩))) (n+1):=⟨p,s,v,hp,h,rfl⟩
theorem ErrN.ri {E:Nat->Addr} {g:Nat} {w:World} {motive:∀v n,ErrN E g w v n->Prop} (base:motive (eV E g) 0 rfl) (wrap:∀p s v n hp h,motive v n h->motive _ _ (.wrap p s v n hp h)):∀{v n} (h:ErrN E g w v n),motive v n h
 | _,0,rfl=>base
 | _,n+1,⟨p,s,u,hp,hu,rfl⟩=>wrap p s u n hp hu (ErrN.ri base wrap hu)
structure Jl (E:Nat->Addr) (g:Nat) (w:World) (v:Value):Prop where
 of ::
 len:∃n,ErrN E g w v n
theorem Jl.base {E:Nat->Addr} {g:Nat} {w:World}:Jl E g w (eV E g):=⟨0,rfl⟩
theorem Jl.wrap {E:Nat->Addr} {g:Nat} {w:World} (p:Nat) (s:BA) (v:Value) (hp:w.heap[p]? =some (.cells #[.string s,v] 237)):Jl E g w v->Jl E g w (.iface 235 (.pointer (some ⟨p,0,none⟩)))
 | ⟨n,h⟩=>⟨n+1,.wrap p s v n hp h⟩
theorem Jl.tch {E:Nat->Addr} {g:Nat} {w w':World} {v:Value} {S:Nat->Prop} (h:Jl E g w v) (k:Tch S w w') (hs:∀p s u,w.heap[p]? =some (.cells #[.string s,u] 237)->¬S p):Jl E g w' v:=by
 obtain ⟨n,h⟩:=h
 induction h using ErrN.ri with
 | base=>exact .base
 | wrap p s u n hp _ ih=>exact .wrap p s u ((k.block p (Jb hp) (hs p s u hp)).trans hp) ih
theorem Jl.later {E:Nat->Addr} {g:Nat} {w w':World} {v:Value} (h:Jl E g w v) (k:Below w.heap.size w w'):Jl E g w' v:=
 h.tch (Tch.of_below k) (λp _ _ hp hj=>by have:=(Jb hp);omega)
theorem Jl.iface {E:Nat->Addr} {g:Nat} {w:World} {v:Value} (h:Jl E g w v):∃t u,v=.iface t u:=by
 obtain ⟨n,h⟩:=h
 cases h using ErrN.ri <;> exact ⟨_,_,rfl⟩

theorem Xy (s:BA) (t:TypeId) (v:Value) (w:World):Calls prog 80 #[.string s,.iface t v] w λe w'=>e=.returned (.iface 235 (.pointer (some ⟨w.heap.size,0,none⟩)))/\w'=w.alloc (.cells #[.string s,.iface t v] 237):=by
 go_enter func80,ntmps80
 go_wp2
 go_ret
 exact ⟨rfl,rfl⟩
theorem Jgo (i:Nat) (hi:i<10) (w:World):Calls prog 101 #[.int .i64 (i:Int)] w λe w'=>(∃s:BA,s.size<=10/\e=.returned (.string s))/\w=w':=by
 have h0:(0:Int)<=(i:Int):=by omega
 have h1:(i:Int)<100:=by omega
 have h2:(i:Int)<10:=by omega
 go_enter func101,ntmps101
 go_wp2
 go_ret
 refine ⟨⟨_,?_,rfl⟩,rfl⟩
 rw [ByteArray.size_extract];omega

section
variable {w W:World} {a b:Obj}
theorem hn1 (h:W=w.alloc a):W.heap[w.heap.size]? =some a:=by rw [h];exact Qf _ _
theorem ha1 (h:W=w.alloc a):Tch NoB w W:=by rw [h];exact Ta _ _ _
theorem hno (h:W=(w.alloc a).alloc b):W.heap[w.heap.size]? =some a:=by rw [h];exact heap_alloc2_old _ _ _
theorem hnn (h:W=(w.alloc a).alloc b):W.heap[w.heap.size+1]? =some b:=by rw [h];exact heap_alloc2_new _ _ _
theorem ha2 (h:W=(w.alloc a).alloc b):Tch NoB w W:=by rw [h];exact (Ta _ _ _).trans (Ta _ _ _) (λ_ h=>.inl h)
end

def RdOk {α:Type} (f:PS->Option (α×PS)) (Ok:α->Prop) (m:Nat):Prop:=∀q r y p',f (.rd q r)=some (y,p')->∃b r',b.length<=m/\r=b++r'/\p'=.rd (q++b) r'/\Ok y
theorem Zc (x k:Nat):RdOk (PS.num x k) (λn=>n<256 ^ k) k:=by
 intro q r y p' h
 simp only [PS.num] at h
 split at h
 ·rename_i hk
  cases h
  refine ⟨r.take k,r.drop k,by simp;omega,(List.take_append_drop k r).symm,rfl,?_⟩
  have:=Jbc (r.take k)
  rwa [QB,Nat.min_eq_left hk] at this
 ·cases h
theorem Jbj (s:List UInt8) (k:Nat):RdOk (PS.txt s k) (λt=>t.length=k) k:=by
 intro q r y p' h
 simp only [PS.txt] at h
 split at h
 ·rename_i hk
  cases h
  exact ⟨r.take k,r.drop k,by simp;omega,(List.take_append_drop k r).symm,rfl,by simp;omega⟩
 ·cases h
theorem RdOk.bind {α β:Type} {f:PS->Option (α×PS)} {g:α->PS->Option (β×PS)} {h:PS->Option (β×PS)} {A:α->Prop} {B:β->Prop} {m n:Nat} (hf:RdOk f A m) (hg:∀a,A a->RdOk (g a) B n) (hh:∀p y p',h p=some (y,p')->∃a p1,f p=some (a,p1)/\g a p1=some (y,p')):RdOk h B (m+n):=by
 intro q r y p' e
 obtain ⟨a,p1,e1,e2⟩:=hh _ _ _ e
 obtain ⟨b,r1,l1,rfl,rfl,ha⟩:=hf _ _ _ _ e1
 obtain ⟨b2,r2,l2,rfl,rfl,hb⟩:=hg a ha _ _ _ _ e2
 exact ⟨b++b2,r2,by rw [Qe];omega,by rw [Qs],by rw [Qs],hb⟩
theorem RdOk.mono {α:Type} {f:PS->Option (α×PS)} {A B:α->Prop} {m n:Nat} (h:RdOk f A m) (hab:∀a,A a->B a) (hmn:m<=n):RdOk f B n:=by
 intro q r y p' e
 obtain ⟨b,r1,l1,e1,e2,ha⟩:=h _ _ _ _ e
 exact ⟨b,r1,by omega,e1,e2,hab _ ha⟩
theorem RdOk.ret {α:Type} (y:α) {A:α->Prop} (h:A y):RdOk (λp=>some (y,p)) A 0:=by
 intro q r z p' e
 cases e
 exact ⟨[],r,Ql _,rfl,by rw [QC],h⟩
theorem Jkk (a o:Nat):RdOk (PS.out a o) Jr 9:=by
 refine RdOk.bind (n:=1) (Zc a 8) (g:=λn p=>(p.num o 1).bind λq=>some ((n,q.1),q.2)) (λn hn=>?_) ?_
 ·refine RdOk.bind (n:=0) (Zc o 1) (g:=λk p=>some ((n,k),p)) (λk hk=>RdOk.ret (n,k) ⟨by simpa using hn,by simpa using hk⟩) ?_
  intro p y p' e
  cases h1:p.num o 1 with
  | none=>rw [h1] at e;cases e
  | some r=>rw [h1] at e;cases e;exact ⟨_,_,rfl,rfl⟩
 ·intro p y p' e
  unfold PS.out at e
  cases h1:p.num a 8 with
  | none=>rw [h1] at e;cases e
  | some r=>
   obtain ⟨n,p1⟩:=r
   rw [h1] at e
   dsimp only at e
   refine ⟨n,p1,rfl,?_⟩
   cases h2:p1.num o 1 with
   | none=>rw [h2] at e;cases e
   | some r2=>obtain ⟨k,p2⟩:=r2;rw [h2] at e;cases e;rfl
theorem Jiv (wd:Nat) (c:BA×Int):RdOk (PS.coin wd c) (Jn wd) (wd+1):=by
 intro q r y p' e
 unfold PS.coin at e
 cases h1:(PS.rd q r).txt c.1.data.toList wd with
 | none=>rw [h1] at e;cases e
 | some r1=>
  obtain ⟨t,p1⟩:=r1
  rw [h1] at e
  dsimp only at e
  obtain ⟨b,r',l1,rfl,rfl,ht⟩:=Jbj _ _ _ _ _ _ h1
  cases h2:(PS.rd (q++b) r').num (JD c.2) 1 with
  | none=>rw [h2] at e;cases e
  | some r2=>
   obtain ⟨m,p2⟩:=r2
   rw [h2] at e
   dsimp only at e
   obtain ⟨b2,r2',l2,rfl,rfl,hm⟩:=Zc _ _ _ _ _ _ h2
   split at e
   ·rename_i h3
    cases e
    exact ⟨b++b2,r2',by rw [Qe];omega,by rw [Qs],by rw [Qs],by show t.toArray.size=_;simpa using ht,by show (0:Int)<=(m:Int);omega,by show (m:Int)<3;omega⟩
   ·cases e
theorem Jgy (wd:Nat):∀(l:List (BA×Int)),RdOk (PS.coins wd l) (λys=>ys.length=l.length/\∀y∈ys,Jn wd y) (l.length * (wd+1)):=by
 intro l
 induction l with
 | nil=>rw [Qv,Nat.zero_mul];exact RdOk.ret [] ⟨rfl,λ_ h=>by cases h⟩
 | cons x r ih=>
  refine (RdOk.bind (B:=λys=>ys.length=r.length+1/\∀y∈ys,Jn wd y) (n:=r.length * (wd+1)) (Jiv wd x) (g:=λy p=>(PS.coins wd r p).bind λq=>some (y :: q.1,q.2)) (λy hy=>?_) ?_).mono (λ_ h=>h) (by rw [Qp,Nat.succ_mul];omega)
  ·have:=RdOk.bind (n:=0) (h:=λp=>(PS.coins wd r p).bind λq=>some (y :: q.1,q.2)) ih (g:=λys p=>some (y :: ys,p)) (B:=λys=>ys.length=r.length+1/\∀y∈ys,Jn wd y) (λys hys=>RdOk.ret (y :: ys) ⟨by simp [hys.1],λz hz=>by rcases List.mem_cons.1 hz with rfl | hz;exact hy;exact hys.2 z hz⟩) (λp z p' e=>by
    cases h1:PS.coins wd r p with
    | none=>rw [h1] at e;cases e
    | some r=>rw [h1] at e;cases e;exact ⟨_,_,rfl,rfl⟩)
   rwa [Nat.add_zero] at this
  ·intro p z p' e
   unfold PS.coins at e
   cases h1:p.coin wd x with
   | none=>rw [h1] at e;cases e
   | some r1=>
    obtain ⟨y,p1⟩:=r1
    rw [h1] at e
    dsimp only at e
    refine ⟨y,p1,rfl,?_⟩
    cases h2:PS.coins wd r p1 with
    | none=>rw [h2] at e;cases e
    | some r2=>obtain ⟨ys,p2⟩:=r2;rw [h2] at e;cases e;rfl
theorem Jiw:∀(l:List (Nat×Nat)),RdOk (PS.outs l) (λys=>ys.length=l.length/\∀y∈ys,Jr y) (l.length * 9):=by
 intro l
 induction l with
 | nil=>rw [Qv,Nat.zero_mul];exact RdOk.ret [] ⟨rfl,λ_ h=>by cases h⟩
 | cons x r ih=>
  refine (RdOk.bind (B:=λys=>ys.length=r.length+1/\∀y∈ys,Jr y) (n:=r.length * 9) (Jkk x.1 x.2) (g:=λy p=>(PS.outs r p).bind λq=>some (y :: q.1,q.2)) (λy hy=>?_) ?_).mono (λ_ h=>h) (by rw [Qp,Nat.succ_mul];omega)
  ·have:=RdOk.bind (n:=0) (h:=λp=>(PS.outs r p).bind λq=>some (y :: q.1,q.2)) ih (g:=λys p=>some (y :: ys,p)) (B:=λys=>ys.length=r.length+1/\∀y∈ys,Jr y) (λys hys=>RdOk.ret (y :: ys) ⟨by simp [hys.1],λz hz=>by rcases List.mem_cons.1 hz with rfl | hz;exact hy;exact hys.2 z hz⟩) (λp z p' e=>by
    cases h1:PS.outs r p with
    | none=>rw [h1] at e;cases e
    | some r=>rw [h1] at e;cases e;exact ⟨_,_,rfl,rfl⟩)
   rwa [Nat.add_zero] at this
  ·intro p z p' e
   unfold PS.outs at e
   cases h1:p.out x.1 x.2 with
   | none=>rw [h1] at e;cases e
   | some r1=>
    obtain ⟨y,p1⟩:=r1
    rw [h1] at e
    dsimp only at e
    refine ⟨y,p1,rfl,?_⟩
    cases h2:PS.outs r p1 with
    | none=>rw [h2] at e;cases e
    | some r2=>obtain ⟨ys,p2⟩:=r2;rw [h2] at e;cases e;rfl
theorem JcZ (n:Nat):(YI [] n).length=n:=by simp [YI]
theorem Jc0 (n:Nat):(YJ [] n).length=n:=by simp [YJ]
theorem Jgz (wd least:Nat) (hw:wd<=32):RdOk (PS.listC wd least 3 []) (λys=>least<=ys.length/\ys.length<=3/\∀y∈ys,Jn wd y) 100:=by
 refine (RdOk.bind (n:=99) (Zc 0 1) (g:=λcnt p=>if cnt<least\/3<cnt then none else PS.coins wd (YI [] cnt) p) (λcnt _=>?_) ?_).mono (λ_ h=>h) (by omega)
 ·by_cases h:cnt<least\/3<cnt
  ·intro q r y p' e;simp only [if_pos h] at e;cases e
  ·simp only [if_neg h]
   refine (Jgy wd (YI [] cnt)).mono (λys hy=>?_) ?_
   ·rw [JcZ] at hy;exact ⟨by omega,by omega,hy.2⟩
   ·rw [JcZ];have:cnt * (wd+1)<=3 * 33:=Nat.mul_le_mul (by omega) (by omega);omega
 ·intro p y p' e
  unfold PS.listC at e
  cases h1:p.num ([]:List (BA×Int)).length 1 with
  | none=>rw [h1] at e;cases e
  | some r1=>obtain ⟨cnt,p1⟩:=r1;rw [h1] at e;exact ⟨cnt,p1,rfl,e⟩
theorem JgA:RdOk (PS.listO 0 3 []) (λys=>ys.length<=3/\∀y∈ys,Jr y) 28:=by
 refine (RdOk.bind (n:=27) (Zc 0 1) (g:=λcnt p=>if cnt<0\/3<cnt then none else PS.outs (YJ [] cnt) p) (λcnt _=>?_) ?_).mono (λ_ h=>h) (by omega)
 ·by_cases h:cnt<0\/3<cnt
  ·intro q r y p' e;simp only [if_pos h] at e;cases e
  ·simp only [if_neg h]
   refine (Jiw (YJ [] cnt)).mono (λys hy=>?_) ?_
   ·rw [Jc0] at hy;exact ⟨by omega,hy.2⟩
   ·rw [Jc0];omega
 ·intro p y p' e
  unfold PS.listO at e
  cases h1:p.num ([]:List (Nat×Nat)).length 1 with
  | none=>rw [h1] at e;cases e
  | some r1=>obtain ⟨cnt,p1⟩:=r1;rw [h1] at e;exact ⟨cnt,p1,rfl,e⟩
theorem JlC (wd:Nat) (hw:wd<=32):RdOk (PS.tx wd ([],[])) (TxOk wd) 128:=by
 refine RdOk.bind (n:=28) (Jgz wd 1 hw) (g:=λys p=>(p.listO 0 3 []).bind λq=>some ((ys,q.1),q.2)) (λys hy=>?_) ?_
 ·refine RdOk.bind (n:=0) JgA (g:=λzs p=>some ((ys,zs),p)) (λzs hz=>RdOk.ret (ys,zs) ⟨hy.2.2,hz.2,hy.1,hy.2.1,hz.1⟩) ?_
  intro p y p' e
  cases h1:p.listO 0 3 [] with
  | none=>rw [h1] at e;cases e
  | some r=>rw [h1] at e;cases e;exact ⟨_,_,rfl,rfl⟩
 ·intro p y p' e
  unfold PS.tx at e
  cases h1:p.listC wd 1 3 [] with
  | none=>rw [h1] at e;cases e
  | some r=>
   obtain ⟨ys,p1⟩:=r
   rw [h1] at e
   dsimp only at e
   refine ⟨ys,p1,rfl,?_⟩
   cases h2:p1.listO 0 3 [] with
   | none=>rw [h2] at e;cases e
   | some r2=>obtain ⟨k,p2⟩:=r2;rw [h2] at e;cases e;rfl
theorem Jkl (wd:Nat) (hw:wd<=32):∀n,RdOk (PS.txs wd (List.replicate n ([],[]))) (λys=>ys.length=n/\∀y∈ys,TxOk wd y) (n * 128):=by
 intro n
 induction n with
 | zero=>rw [Nat.zero_mul];exact RdOk.ret [] ⟨rfl,λ_ h=>by cases h⟩
 | succ n ih=>
  rw [List.replicate_succ]
  refine (RdOk.bind (B:=λys=>ys.length=n+1/\∀y∈ys,TxOk wd y) (n:=n * 128) (JlC wd hw) (g:=λy p=>(PS.txs wd (List.replicate n ([],[])) p).bind λq=>some (y :: q.1,q.2)) (λy hy=>?_) ?_).mono (λ_ h=>h) (by omega)
  ·have:=RdOk.bind (n:=0) (h:=λp=>(PS.txs wd (List.replicate n ([],[])) p).bind λq=>some (y :: q.1,q.2)) ih (g:=λys p=>some (y :: ys,p)) (B:=λys=>ys.length=n+1/\∀y∈ys,TxOk wd y) (λys hys=>RdOk.ret (y :: ys) ⟨by simp [hys.1],λz hz=>by rcases List.mem_cons.1 hz with rfl | hz;exact hy;exact hys.2 z hz⟩) (λp z p' e=>by
    cases h1:PS.txs wd (List.replicate n ([],[])) p with
    | none=>rw [h1] at e;cases e
    | some r=>rw [h1] at e;cases e;exact ⟨_,_,rfl,rfl⟩)
   rwa [Nat.add_zero] at this
  ·intro p z p' e
   unfold PS.txs at e
   cases h1:p.tx wd ([],[]) with
   | none=>rw [h1] at e;cases e
   | some r1=>
    obtain ⟨y,p1⟩:=r1
    rw [h1] at e
    dsimp only at e
    refine ⟨y,p1,rfl,?_⟩
    cases h2:PS.txs wd (List.replicate n ([],[])) p1 with
    | none=>rw [h2] at e;cases e
    | some r2=>obtain ⟨ys,p2⟩:=r2;rw [h2] at e;cases e;rfl
theorem ZF (wd:Nat) (hw:wd<=32):RdOk (PS.body wd []) (λts=>ts.length<=3/\∀t∈ts,TxOk wd t) 385:=by
 refine RdOk.bind (m:=1) (n:=384) (Zc 0 1) (g:=λcnt p=>if 3<cnt then none else PS.txs wd (ZW [] cnt) p) (λcnt _=>?_) ?_
 ·by_cases h:3<cnt
  ·intro q r y p' e;simp only [if_pos h] at e;cases e
  ·simp only [if_neg h]
   exact (Jkl wd hw cnt).mono (λys hy=>⟨by omega,hy.2⟩) (by omega)
 ·intro p y p' e
  unfold PS.body at e
  cases h1:p.num ([]:List TxL).length 1 with
  | none=>rw [h1] at e;cases e
  | some r1=>obtain ⟨cnt,p1⟩:=r1;rw [h1] at e;exact ⟨cnt,p1,rfl,e⟩
theorem Jbi (wd:Nat) (hw:wd<=32) (z:HdL):RdOk (PS.hdr wd z) (HdOk wd) 100:=by
 intro q r y p' e
 unfold PS.hdr at e
 cases h1:(PS.rd q r).num z.1 4 with
 | none=>rw [h1] at e;cases e
 | some r1=>
  obtain ⟨n,p1⟩:=r1
  rw [h1] at e
  dsimp only at e
  obtain ⟨b1,s1,l1,rfl,rfl,k1⟩:=Zc _ _ _ _ _ _ h1
  cases h2:(PS.rd (q++b1) s1).txt z.2.1.data.toList wd with
  | none=>rw [h2] at e;cases e
  | some r2=>
   obtain ⟨t2,p2⟩:=r2
   rw [h2] at e
   dsimp only at e
   obtain ⟨b2,s2,l2,rfl,rfl,k2⟩:=Jbj _ _ _ _ _ _ h2
   cases h3:(PS.rd (q++b1++b2) s2).txt z.2.2.1.data.toList wd with
   | none=>rw [h3] at e;cases e
   | some r3=>
    obtain ⟨t3,p3⟩:=r3
    rw [h3] at e
    dsimp only at e
    obtain ⟨b3,s3,l3,rfl,rfl,k3⟩:=Jbj _ _ _ _ _ _ h3
    cases h4:(PS.rd (q++b1++b2++b3) s3).txt z.2.2.2.data.toList wd with
    | none=>rw [h4] at e;cases e
    | some r4=>
     obtain ⟨t4,p4⟩:=r4
     rw [h4] at e
     dsimp only at e
     obtain ⟨b4,s4,l4,rfl,rfl,k4⟩:=Jbj _ _ _ _ _ _ h4
     cases e
     refine ⟨b1++b2++b3++b4,s4,by simp only [Qe];omega,by simp only [Qs],by simp only [Qs],?_⟩
     exact ⟨by simpa using k1,(List.size_toArray).trans k2,(List.size_toArray).trans k3,(List.size_toArray).trans k4⟩
end Go.Proofs.YtighkdnooglfjaaGreatDoor
namespace Go.Proofs
open Tryz
open Go.Shelf
def Jeq:Go.Shelf.Ren:=⟨fun | 316=>142 | n=>n,fun | 9=>9 | 3=>3 | 4=>4 | 37=>52 | 0=>0 | 127=>358 | 5=>5 | n=>n,fun | n=>n⟩
theorem JjY:Go.Proofs.LaysM.n316 prog Jeq:={
 mixed:=by kernel_rfl
 f316:=func142.trans (congrArg some (by kernel_rfl))
 t0:=underlying0
 a0:=isAgg0
 z0:=sizeOf0
 v0:=zeroValue0
 t3:=underlying3
 a3:=isAgg3
 z3:=sizeOf3
 v3:=zeroValue3
 t4:=underlying4
 a4:=isAgg4
 z4:=sizeOf4
 v4:=zeroValue4
 t9:=underlying9
 a9:=isAgg9
 z9:=sizeOf9
 v9:=zeroValue9
 t37:=underlying52
 a37:=isAgg52
 z37:=sizeOf52
 v37:=zeroValue52
 t127:=underlying358
 a127:=isAgg358
 z127:=sizeOf358
 v127:=zeroValue358
 t5:=underlying5
 a5:=isAgg5
 z5:=sizeOf5
 v5:=zeroValue5
 i0:=by kernel_rfl
 i3:=by kernel_rfl
 i4:=by kernel_rfl
 i5:=by kernel_rfl
 i9:=by kernel_rfl
 i37:=by kernel_rfl
 i127:=by kernel_rfl }
open Go.RowKit in
theorem stringslite_Clone (s:ByteArray) (w:World) (hlim:s.size<=281474976710656):
  Calls prog 142 #[.string s] w λe w'=>e=.returned (.string s)/\Below w.heap.size w w':=Any.stringslite_Clone JjY s w hlim
def JbV:Go.Shelf.Ren:=⟨fun | 105=>128 | 212=>192 | 99=>193 | 165=>194 | 166=>195 | 170=>196 | 169=>197 | 263=>272 | 264=>273 | 206=>274 | 240=>275 | 241=>276 | 276=>335 | 277=>336 | n=>n,fun | 9=>9 | 3=>3 | 4=>4 | 20=>20 | 0=>0 | 46=>322 | 109=>323 | 5=>5 | 72=>328 | 76=>330 | 51=>429 | 146=>430 | 53=>78 | 148=>432 | 70=>326 | 37=>52 | 75=>92 | 127=>358 | 164=>483 | 80=>61 | n=>n,fun | n=>n⟩
theorem Jhi:Go.Proofs.Lays.n105 prog JbV:={
 mixed:=by kernel_rfl
 f99:=func193.trans (congrArg some (by kernel_rfl))
 f105:=func128.trans (congrArg some (by kernel_rfl))
 f165:=func194.trans (congrArg some (by kernel_rfl))
 f166:=func195.trans (congrArg some (by kernel_rfl))
 f169:=func197.trans (congrArg some (by kernel_rfl))
 f170:=func196.trans (congrArg some (by kernel_rfl))
 f206:=func274.trans (congrArg some (by kernel_rfl))
 f212:=func192.trans (congrArg some (by kernel_rfl))
 f240:=func275.trans (congrArg some (by kernel_rfl))
 f241:=func276.trans (congrArg some (by kernel_rfl))
 f263:=func272.trans (congrArg some (by kernel_rfl))
 f264:=func273.trans (congrArg some (by kernel_rfl))
 f276:=func335.trans (congrArg some (by kernel_rfl))
 f277:=func336.trans (congrArg some (by kernel_rfl))
 t0:=underlying0
 a0:=isAgg0
 z0:=sizeOf0
 v0:=zeroValue0
 t3:=underlying3
 a3:=isAgg3
 z3:=sizeOf3
 v3:=zeroValue3
 t4:=underlying4
 a4:=isAgg4
 z4:=sizeOf4
 v4:=zeroValue4
 t5:=underlying5
 a5:=isAgg5
 z5:=sizeOf5
 v5:=zeroValue5
 t9:=underlying9
 a9:=isAgg9
 z9:=sizeOf9
 v9:=zeroValue9
 t20:=underlying20
 a20:=isAgg20
 z20:=sizeOf20
 v20:=zeroValue20
 t37:=underlying52
 a37:=isAgg52
 z37:=sizeOf52
 v37:=zeroValue52
 t46:=underlying322
 a46:=isAgg322
 z46:=sizeOf322
 v46:=zeroValue322
 t51:=underlying429
 a51:=isAgg429
 z51:=sizeOf429
 v51:=zeroValue429
 t53:=underlying78
 a53:=isAgg78
 z53:=sizeOf78
 v53:=zeroValue78
 t70:=underlying326
 a70:=isAgg326
 z70:=sizeOf326
 v70:=zeroValue326
 t72:=underlying328
 a72:=isAgg328
 z72:=sizeOf328
 v72:=zeroValue328
 t75:=underlying92
 a75:=isAgg92
 z75:=sizeOf92
 v75:=zeroValue92
 t76:=underlying330
 a76:=isAgg330
 z76:=sizeOf330
 v76:=zeroValue330
 t109:=underlying323
 a109:=isAgg323
 z109:=sizeOf323
 v109:=zeroValue323
 t127:=underlying358
 a127:=isAgg358
 z127:=sizeOf358
 v127:=zeroValue358
 t146:=underlying430
 a146:=isAgg430
 z146:=sizeOf430
 v146:=zeroValue430
 t148:=underlying432
 a148:=isAgg432
 z148:=sizeOf432
 v148:=zeroValue432
 t164:=underlying483
 a164:=isAgg483
 z164:=sizeOf483
 v164:=zeroValue483 }
theorem JaV:Builder.Extra prog JbV:={
 sizeBuilder:=by kernel_rfl
 liesBuilder:=by kernel_rfl
 t5:=underlying5
 a5:=isAgg5
 z5:=sizeOf5
 v5:=zeroValue5
 infoByte:=by kernel_rfl
 cellsByte:=by kernel_rfl
 sizeByte:=by kernel_rfl
 neB5:=by decide }
open Go.RowKit Go.Lib in
theorem strings_Repeat_main (s:ByteArray) (c:Nat) (w:World) (hc2:2<=c) (hc:c<=9223372036854775807) (hlen:s.size * c<=140737488355328) (h0:0<s.size):
  Calls prog 128 #[.string s,.int .i64 c] w λe w'=>e=.returned (.string ⟨(Lib.repeatL s.data.toList c).toArray⟩)/\Below w.heap.size w w':=Any.strings_Repeat_main Jhi JaV s c w hc2 hc hlen h0
open Go.RowKit Go.Lib in
theorem strings_Repeat_one (s:ByteArray) (w:World):
  Calls prog 128 #[.string s,.int .i64 1] w λe w'=>e=.returned (.string s)/\w'=w:=Any.strings_Repeat_one Jhi s w
end Go.Proofs
namespace Go.Proofs.YtighkdnooglfjaaGreatDoor
open Tryz
open Go.RowKit
theorem Tch.of_belowN {w w':World} (h:Below w.heap.size w w'):Tch NoB w w':=(Tch.of_below h).mono (λ_ hj=>.inr hj)
set_option maxRecDepth 100000 in
theorem JhF (s:BA) (w:World) (hs:s.size<=1000000):Calls prog 90 #[.string s] w λe w'=>e=.returned (.string s)/\Tch NoB w w':=by
 have HC:Hid (∀W,Calls prog 142 #[.string s] W λe w'=>e=.returned (.string s)/\Tch NoB W w'):=λW=>(stringslite_Clone s W (by omega)).mono λe w' h=>⟨h.1,Tch.of_belowN h.2⟩
 clear hs
 go_enter func90,ntmps90
 go_wp2_with fail
 refine (HC.o _).mono ?_
 rintro _ w1 ⟨rfl,h⟩
 have HH:Hid _:=h
 clear h HC
 go_wp2
 go_ret
 exact ⟨rfl,HH.o⟩
theorem JgG (c:Nat) (h1:1<=c) (h2:c<=32) (w:World):Calls prog 128 #[.string ⟨#[0]⟩,.int .i64 (c:Int)] w λe w'=>e=.returned (.string ⟨(List.replicate c (0:UInt8)).toArray⟩)/\Tch NoB w w':=by
 by_cases hc:c=1
 ·subst hc
  exact (strings_Repeat_one ⟨#[0]⟩ w).mono λe w' h=>⟨h.1,by rw [h.2];exact Te _ _⟩
 ·refine (strings_Repeat_main ⟨#[0]⟩ c w (by omega) (by omega) (by show 1 * c<=_;omega) (by show 0<1;omega)).mono λe w' h=>⟨?_,Tch.of_belowN h.2⟩
  have e:Lib.repeatL [0] c=List.replicate c (0:UInt8):=by
   have:=Lib.repeatL_replicate 0 1 c
   rw [Nat.mul_one] at this
   exact this
  rw [h.1,show (⟨#[0]⟩:BA).data.toList=[0] from rfl,e]
