import Derived.Test.YtighkdnooglfjaaGreatDoorBxShI
import Derived.Test.YtighkdnooglfjaaGreatDoorBxPRt
namespace Go.Proofs.YtighkdnooglfjaaGreatDoor
open Tryz
set_option maxRecDepth 100000
set_option maxHeartbeats 2000000
open Go.RowKit

theorem Jcn (n:Int):IntKind.u64.wrap n=(Jw n:Int):=by
 simp [IntKind.wrap,IntKind.bits,IntKind.signed,Jw];omega
def Yo (wj:Nat) (c:BA×Int) (st:Option PS):(List UInt8×Nat)×Option PS:=
 (((Jj c.1.data.toList wj st).1,(JG (Jw c.2) 1 (Jj c.1.data.toList wj st).2).1),if 3<=(JG (Jw c.2) 1 (Jj c.1.data.toList wj st).2).1 then none else (JG (Jw c.2) 1 (Jj c.1.data.toList wj st).2).2)
theorem Jfx (wj:Nat) (c:BA×Int) (p:PS) (h:p.coin wj c=none):(Yo wj c (some p)).2=none:=by
 unfold Yo
 unfold PS.coin at h
 cases h1:p.txt c.1.data.toList wj with
 | none=>rw [Yp h1,Jh9];rfl
 | some r=>
  obtain ⟨t,p1⟩:=r
  rw [JW h1]
  simp only [h1] at h
  cases h2:p1.num (Jw c.2) 1 with
  | none=>rw [JaH h2];rfl
  | some r=>
   obtain ⟨m,p2⟩:=r
   rw [Xu h2]
   simp only [h2] at h
   split at h
   ·cases h
   ·exact if_pos (by simp only;omega)
theorem JbW (wj:Nat) (c y:BA×Int) (p p2:PS) (h:p.coin wj c=some (y,p2)):(Yo wj c (some p)).2=some p2/\y=(⟨(Yo wj c (some p)).1.1.toArray⟩,((Yo wj c (some p)).1.2:Int)):=by
 unfold Yo
 unfold PS.coin at h
 cases h1:p.txt c.1.data.toList wj with
 | none=>rw [h1] at h;cases h
 | some r=>
  obtain ⟨t,p1⟩:=r
  rw [JW h1]
  simp only [h1] at h
  cases h2:p1.num (Jw c.2) 1 with
  | none=>rw [h2] at h;cases h
  | some r=>
   obtain ⟨m,p2'⟩:=r
   rw [Xu h2]
   simp only [h2] at h
   split at h
   ·rename_i h3
    simp only [Qh,Qw] at h
    obtain ⟨rfl,rfl⟩:=h
    exact ⟨if_neg (by simp only;omega),rfl⟩
   ·cases h
theorem JfW (m:Nat) (h:m<256):IntKind.i64.wrap (m:Int)=(m:Int):=Js _ (by omega) (by omega)

theorem JgK (E:Nat->Addr) (b:Nat) (hb12:18<=b) (g:Option Nat) (wj:Nat) (c:BA×Int) (st:Option PS) (w:World) (hE:Env E w) (hp:Jh E w b g wj st) (hd:JN st+wj<=90000000):
  Calls prog 203 #[.pointer (some ⟨b,0,none⟩),.agg #[.string c.1,.int .i64 c.2]] w λe w'=>e=.returned (.agg #[.string ⟨(Yo wj c st).1.1.toArray⟩,.int .i64 ((Yo wj c st).1.2:Int)])/\StTo E w w' b g wj (Yo wj c st).2:=by
 have hlt:=hp.lt
 have hx:=Jcn c.2
 obtain ⟨s,N⟩:=c
 simp only at hx
 have HC:Hid (Yo wj (s,N) st=(((Jj s.data.toList wj st).1,(JG (Jw N) 1 (Jj s.data.toList wj st).2).1),if 3<=(JG (Jw N) 1 (Jj s.data.toList wj st).2).1 then none else (JG (Jw N) 1 (Jj s.data.toList wj st).2).2)):=rfl
 simp only
 go_enter func203,ntmps203
 go_wp2_with fail
 refine (YJ E b g wj s st _ (hE.allocs _ _) (hp.next (Tch.allocs _ _ _ _)) (by omega)).mono ?_
 rintro _ w1 ⟨rfl,g1,hp1,hm1,ht1⟩
 have hl1:=Yc s.data.toList wj st
 generalize hS1:(Jj s.data.toList wj st).2=st1 at *
 generalize hTB:(⟨(Jj s.data.toList wj st).1.toArray⟩:BA)=tb at *
 have HS1:Hid (_=st1):=hS1
 have HTB:Hid (_=tb):=hTB
 clear hS1 hTB
 have cB:w1.cell? ⟨w.heap.size,1,none⟩=some (.int .i64 N):=(ht1.cell (p:=⟨w.heap.size,1,none⟩) (by simp;omega) (Jgp hp _ (Ql _))).trans (Ja (heap_alloc2_old _ _ _))
 have rR:w1.heap[w.heap.size+1]? =some (.cells #[.string ⟨#[]⟩,.int .i64 0] 49):=(ht1.block _ (by simp) (Jgp hp _ (by omega))).trans (heap_alloc2_new _ _ _)
 have hsz1:=ht1.size
 simp at hsz1
 have HE1:Hid (Env E w1):=(hE.allocs _ _).tch ht1 (Jbb hb12 hp)
 have HN:Hid (∀g',Jp w1 g1 g'->¬(w.heap.size+1=b\/some (w.heap.size+1)=g')):=λg' hm=>Jbc hp (hm1.trans hm ht1.size) _ (by omega) (by simp)
 have RR:Hid (_=_):=rR
 have HM1:Hid (Jp _ _ _):=hm1
 have HT1:Hid (Tch _ _ _):=ht1
 have HP1:Hid (Jh _ _ _ _ _ _):=hp1
 clear rR hm1 ht1 hp hE hp1
 go_wp2_with fail
 refine (Zj E b g1 wj (Jw N) 1 st1 _ HE1.o HP1.o (by omega) (by omega)).mono ?_
 rintro _ w2 ⟨rfl,g2,hp2,hm2,ht2⟩
 have hm:=Jba (Jw N) 1 st1
 generalize hS2:(JG (Jw N) 1 st1).2=st2 at *
 generalize hM:(JG (Jw N) 1 st1).1=m at *
 have HS2:Hid (_=st2):=hS2
 have HMM:Hid (_=m):=hM
 clear hS2 hM
 have hw2:=JfW m (by omega)
 have rR2:w2.heap[w.heap.size+1]? =some (.cells #[.string ⟨#[]⟩,.int .i64 0] 49):=(ht2.block _ (by omega) (HN.o g1 (.inl rfl))).trans RR.out
 have RR2:Hid (_=_):=rR2
 have HE2:Hid (Env E w2):=HE1.o.tch ht2 (Jbb hb12 HP1.o)
 have HP2:Hid (Jh _ _ _ _ _ _):=hp2
 have HM2:Hid (Jp _ _ _):=hm2
 have HT2:Hid (Tch _ _ _):=ht2
 have TA:Hid (Tch (λk=>k=b\/some k=g) _ w2):=XW HT1.o ht2 HM1.o
 have MA:Hid (Jp _ g g2):=HM1.o.trans hm2 HT1.o.size
 by_cases h3:3<=m
 ·have h3i:(3:Int)<=(m:Int):=by omega
  clear rR2 hp2 hm2 ht2
  go_wp2_with fail
  refine (Jaj E b g2 wj _ st2 w2 HE2.o HP2.o).mono ?_
  rintro _ w3 ⟨rfl,g3,hp3,hm3,ht3⟩
  have rR3:w3.heap[w.heap.size+1]? =some (.cells #[.string ⟨#[]⟩,.int .i64 0] 49):=(ht3.block _ (Jb RR2.out) (HN.o g2 HM2.o)).trans RR2.out
  have e0:w3.cell? ⟨w.heap.size+1,0,none⟩=some (.string ⟨#[]⟩):=Ja rR3
  have e1:w3.cell? ⟨w.heap.size+1,1,none⟩=some (.int .i64 0):=Ja rR3
  have fR:∀j,w3.frozen? ⟨w.heap.size+1,j,none⟩=false:=λj=>Qg _ _ _ _ _ rR3
  have RR3:Hid (_=_):=rR3
  have HP3:Hid (Jh _ _ _ _ _ _):=hp3
  have HM3:Hid (Jp _ _ _):=hm3
  have HT3:Hid (Tch _ _ _):=ht3
  clear rR3 hp3 hm3 ht3
  go_wp2
  rw [set2 _ _ _ _ _ _ _ RR3.out]
  obtain rfl:=HTB.o
  obtain rfl:=HS2.o
  obtain rfl:=HMM.o
  obtain rfl:=HS1.o
  refine QK (v:=.agg #[.string _,.int .i64 _]) (Qq results203 _ _ (w.heap.size+1) _ _ (0,0) _ rfl (Qi _ _ _ _ _ _ RR3.out) underlying49 rfl (by kernel_rfl)) rfl ⟨by rw [HC.o],?_⟩
  rw [HC.o,if_pos h3]
  refine StTo.row (StTo.fresh (Tch.allocs _ _ _ _) (StTo.trans MA.out TA.out ⟨g3,HP3.o,HM3.o,HT3.o⟩)) (by omega) RR3.out (by decide) (by omega) (λg' _ hg e=>?_)
  exact HN.o g3 (HM2.o.trans HM3.o HT2.o.size) (.inr (by rw [e];exact hg.same HP3.o))
 ·have h3i:¬(3:Int)<=(m:Int):=by omega
  have e0:w2.cell? ⟨w.heap.size+1,0,none⟩=some (.string ⟨#[]⟩):=Ja rR2
  have e1:w2.cell? ⟨w.heap.size+1,1,none⟩=some (.int .i64 0):=Ja rR2
  have fR:∀j,w2.frozen? ⟨w.heap.size+1,j,none⟩=false:=λj=>Qg _ _ _ _ _ rR2
  clear rR2 hp2 hm2 ht2
  go_wp2
  rw [set2 _ _ _ _ _ _ _ RR2.out]
  obtain rfl:=HTB.o
  obtain rfl:=HS2.o
  obtain rfl:=HMM.o
  obtain rfl:=HS1.o
  refine QK (v:=.agg #[.string _,.int .i64 _]) (Qq results203 _ _ (w.heap.size+1) _ _ (0,0) _ rfl (Qi _ _ _ _ _ _ RR2.out) underlying49 rfl (by kernel_rfl)) rfl ⟨by rw [HC.o],?_⟩
  rw [HC.o,if_neg h3]
  refine StTo.row (StTo.fresh (Tch.allocs _ _ _ _) ⟨g2,HP2.o,MA.out,TA.out⟩) (by omega) RR2.out (by decide) (by omega) (λg' _ hg e=>?_)
  exact HN.o g2 HM2.o (.inr (by rw [e];exact hg.same HP2.o))

theorem JkW (x m:Nat) (p p1:PS) (h:p.num x 1=some (m,p1)):m<256:=by
 have:=Jba x 1 (some p)
 rw [Xu h] at this
 simpa using this
theorem Ja1 (a o:Nat) (y:Nat×Nat) (p p2:PS) (h:p.out a o=some (y,p2)):∃p1,p.num a 8=some (y.1,p1)/\p1.num o 1=some (y.2,p2)/\p1.len<=p.len+8/\p2.len<=p.len+9/\y.2<256:=by
 unfold PS.out at h
 cases q:p.num a 8 with
 | none=>simp [q] at h
 | some r=>
  obtain ⟨a',p1⟩:=r
  simp only [q] at h
  cases q2:p1.num o 1 with
  | none=>simp [q2] at h
  | some s=>
   obtain ⟨o',p2'⟩:=s
   simp only [q2,Qh,Qw] at h
   obtain ⟨rfl,rfl⟩:=h
   have l1:=Zw _ _ _ _ _ q
   have l2:=Zw _ _ _ _ _ q2
   exact ⟨p1,rfl,q2,l1,by omega,JkW _ _ _ _ q2⟩
def encO (o:Nat×Nat):VV:=(.int .u64 (o.1:Int),.int .u8 (o.2:Int))
def JbT:XM (Nat×Nat) where
 f:=λo p=>p.out o.1 o.2
 grow:=9
 zero:=(0,0)
 zeroV:=zO
 Init:=λ_ _ _ x o=>x=encO o/\o.2<256
 Done:=λ_ _ _ x o=>x=encO o
theorem lawO (E:Nat->Addr) (b:Nat) (hb12:18<=b) (wj lim:Nat) (hl:lim<=80000000):Yu E b wj lim lkO.fP JbT ShO where
 init_tch:=λh _ _ _=>h
 init_zero:=λ_ _=>⟨rfl,by decide⟩
 init_shape:=λh=>⟨_,_,h.1⟩
 done_tch:=λh _ _ _=>h
 done_mono:=λh _=>h
 like:=λ{a a' p p'} h=>by
  obtain ⟨p1,h1,h2,_⟩:=Ja1 _ _ _ _ _ h
  exact (Yh h1).trans (Yh h2)
 len:=λ{w x a a' p p'} _ h=>by
  obtain ⟨p1,_,_,_,h2,_⟩:=Ja1 _ _ _ _ _ h
  exact h2
 call:=λ{w g p x a} hE hp hI hd=>by
  obtain ⟨rfl,ha⟩:=hI
  show Calls _ _ #[_,.agg #[.int .u64 (a.1:Int),.int .u8 (a.2:Int)]] _ _
  show Calls _ _ _ _ λe w'=>∃y,ShO y/\e=_/\ToP E w b g wj JbT (p.out a.1 a.2) y w'
  cases h:p.out a.1 a.2 with
  | none=>
   have hno:Calls prog 205 #[.pointer (some ⟨b,0,none⟩),.agg #[.int .u64 (a.1:Int),.int .u8 (a.2:Int)]] w λe w'=>∃x y:Int,e=.returned (.agg #[.int .u64 x,.int .u8 y])/\Jaz E w w' b g wj:=by
    unfold PS.out at h
    cases h1:p.num a.1 8 with
    | none=>exact JhP E b g wj a.1 a.2 p w hE hp (by omega) h1
    | some r=>
     obtain ⟨a',p1⟩:=r
     simp only [h1] at h
     cases h2:p1.num a.2 1 with
     | none=>exact JhQ E b hb12 g wj a.1 a.2 a' p p1 w hE hp (by omega) ha h1 h2
     | some r=>simp [h2] at h
   refine hno.mono ?_
   rintro e w' ⟨x,y,rfl,g',p',h1,h2,h3⟩
   exact ⟨(.int .u64 x,.int .u8 y),⟨_,_,rfl⟩,rfl,g',_,p',h1,h2,h3,.base⟩
  | some r=>
   obtain ⟨y,p2⟩:=r
   obtain ⟨p1,h1,h2,l1,l2,hy⟩:=Ja1 _ _ _ _ _ h
   refine (Jjk b g wj a.1 a.2 y.1 y.2 p p1 p2 w hp (by omega) (by omega) ha h1 h2 hy).mono ?_
   rintro e w' ⟨rfl,g',k1,k2,k3⟩
   exact ⟨encO y,⟨_,_,rfl⟩,rfl,g',_,p2,k1,k2,k3,rfl,rfl,rfl⟩
def encC (c:BA×Int):VV:=(.string c.1,.int .i64 c.2)
def JbS (wj:Nat):XM (BA×Int) where
 f:=λc p=>p.coin wj c
 grow:=wj+1
 zero:=(⟨#[]⟩,0)
 zeroV:=zC
 Init:=λ_ _ _ x c=>x=encC c
 Done:=λ_ _ _ x c=>x=encC c
theorem Zt {wj:Nat} {c y:BA×Int} {p p2:PS} (h:p.coin wj c=some (y,p2)):p.like p2/\p2.len<=p.len+(wj+1):=by
 unfold PS.coin at h
 cases q:p.txt c.1.data.toList wj with
 | none=>simp [q] at h
 | some r=>
  obtain ⟨t,p1⟩:=r
  simp only [q] at h
  cases q2:p1.num (Jw c.2) 1 with
  | none=>simp [q2] at h
  | some s=>
   obtain ⟨m,p2'⟩:=s
   simp only [q2] at h
   split at h
   ·simp only [Qh,Qw] at h
    obtain ⟨_,rfl⟩:=h
    have l1:=Jg8 _ _ _ _ _ q
    have l2:=Zw _ _ _ _ _ q2
    exact ⟨(Jj7 q).trans (Yh q2),by omega⟩
   ·cases h
theorem lawC (E:Nat->Addr) (b:Nat) (hb12:18<=b) (wj lim:Nat) (hl:lim+wj<=80000000):Yu E b wj lim lkC.fP (JbS wj) ShC where
 init_tch:=λh _ _ _=>h
 init_zero:=λ_ _=>rfl
 init_shape:=λh=>⟨_,_,h⟩
 done_tch:=λh _ _ _=>h
 done_mono:=λh _=>h
 like:=λh=>(Zt h).1
 len:=λ_ h=>(Zt h).2
 call:=λ{w g p x a} hE hp hI hd=>by
  obtain rfl:=hI
  show Calls _ _ #[_,.agg #[.string a.1,.int .i64 a.2]] _ _
  refine (JgK E b hb12 g wj a (some p) w hE hp (by simp only [JN];omega)).mono ?_
  rintro e w' ⟨rfl,g',k1,k2,k3⟩
  refine ⟨(.string _,.int .i64 _),⟨_,_,rfl⟩,rfl,?_⟩
  show ToP E w b g wj (JbS wj) (p.coin wj a) _ w'
  cases h:p.coin wj a with
  | none=>
   rw [Jfx wj a p h] at k1
   obtain ⟨p',t,u,h1,h2⟩:=k1
   exact ⟨g',_,p',h1,k2,k3,h2⟩
  | some r=>
   obtain ⟨y,p2⟩:=r
   obtain ⟨e1,e2⟩:=JbW wj a y p p2 h
   rw [e1] at k1
   exact ⟨g',_,p2,k1,k2,k3,rfl,rfl,by rw [e2];rfl⟩
theorem JdH:∀(l:List (Nat×Nat)) (p:PS),PS.many JbT.f l p=PS.outs l p
 | [],_=>rfl
 | x :: r,p=>by
  simp only [PS.many,PS.outs]
  have e:JbT.f x p=p.out x.1 x.2:=rfl
  rw [e]
  cases p.out x.1 x.2 with
  | none=>rfl
  | some q=>simp only [JdH r];cases PS.outs r q.2 <;> rfl
theorem Jcv (wj:Nat):∀(l:List (BA×Int)) (p:PS),PS.many (JbS wj).f l p=PS.coins wj l p
 | [],_=>rfl
 | x :: r,p=>by
  simp only [PS.many,PS.coins]
  have e:(JbS wj).f x p=p.coin wj x:=rfl
  rw [e]
  cases p.coin wj x with
  | none=>rfl
  | some q=>simp only [Jcv wj r];cases PS.coins wj r q.2 <;> rfl
theorem JjW (l:List (Nat×Nat)) (cnt:Nat):Jy (0,0) l cnt=Yq l cnt:=by
 unfold Jy Yq
 cases l <;> simp
theorem JjV (l:List (BA×Int)) (cnt:Nat):Jy (⟨#[]⟩,0) l cnt=XX l cnt:=by
 unfold Jy XX
 cases l <;> simp
theorem Ji9 (least most:Nat) (l:List (Nat×Nat)) (p:PS):p.lst JbT.f JbT.zero 1 least most l=p.listO least most l:=by
 unfold PS.lst PS.listO
 cases p.num l.length 1 with
 | none=>rfl
 | some r=>simp only [JdH,<-JjW];rfl
theorem Ji8 (wj least most:Nat) (l:List (BA×Int)) (p:PS):p.lst (JbS wj).f (JbS wj).zero 1 least most l=p.listC wj least most l:=by
 unfold PS.lst PS.listC
 cases p.num l.length 1 with
 | none=>rfl
 | some r=>simp only [Jcv,<-JjV];rfl
theorem Jr.vat {B:Nat} {w:World} {v:Value} {l:List (Nat×Nat)} (h:Jr B w v l):VAt B w v (l.map encO):=by
 rcases h with ⟨h1,h2⟩ | ⟨gi,oi,c,h1,h2,h3,h4⟩
 ·exact .inl ⟨h1,by rw [h2];rfl⟩
 ·exact .inr ⟨gi,oi,c,by rw [QM];exact h1,h2,h3,λi hi=>by
   rw [List.getElem_map];exact h4 i (by simpa using hi)⟩
theorem Jz.vat {B:Nat} {w:World} {v:Value} {l:List (BA×Int)} (h:Jz B w v l):VAt B w v (l.map encC):=by
 rcases h with ⟨h1,h2⟩ | ⟨gi,oi,c,h1,h2,h3,h4⟩
 ·exact .inl ⟨h1,by rw [h2];rfl⟩
 ·exact .inr ⟨gi,oi,c,by rw [QM];exact h1,h2,h3,λi hi=>by
   rw [List.getElem_map];exact h4 i (by simpa using hi)⟩
theorem JbP {α:Type} (enc:α->VV):∀(xs:List VV) (ys:List α),xs.length=ys.length->(∀(j:Nat) x a,xs[j]? =some x->ys[j]? =some a->x=enc a)->xs=ys.map enc:=by
 intro xs ys hl h
 apply List.ext_getElem (by simpa using hl)
 intro j h1 h2
 rw [List.getElem_map]
 exact h j _ _ (Qd h1) (Qd (by omega))
def ToO (E:Nat->Addr) (w:World) (b:Nat) (g:Option Nat) (wj:Nat) (r:Option (List (Nat×Nat)×PS)) (e:Ending) (w':World):Prop:=
 match r with
 | some (ys,p2)=>∃gp,e=.returned (.slice (some ⟨gp,0,none⟩) ys.length ys.length)/\w.heap.size<=gp/\w'.heap[gp]? =some (.cells (vvA (ys.map encO)) 80)/\∃g',Jc w' b g' wj .nilIface p2/\some gp ≠ g'/\Jp w g g'/\Tch (λk=>k=b\/some k=g) w w'
 | none=>(∃a n c,e=.returned (.slice a n c))/\JaM E w w' b g wj
def ToC (E:Nat->Addr) (w:World) (b:Nat) (g:Option Nat) (wj:Nat) (r:Option (List (BA×Int)×PS)) (e:Ending) (w':World):Prop:=
 match r with
 | some (ys,p2)=>∃gp,e=.returned (.slice (some ⟨gp,0,none⟩) ys.length ys.length)/\w.heap.size<=gp/\w'.heap[gp]? =some (.cells (vvA (ys.map encC)) 49)/\∃g',Jc w' b g' wj .nilIface p2/\some gp ≠ g'/\Jp w g g'/\Tch (λk=>k=b\/some k=g) w w'
 | none=>(∃a n c,e=.returned (.slice a n c))/\JaM E w w' b g wj
theorem ToO.of {E:Nat->Addr} {w w':World} {b:Nat} {g:Option Nat} {wj:Nat} {r:Option (List (Nat×Nat)×PS)} {e:Ending} (h:ToL lkO E w b g wj JbT r e w'):ToO E w b g wj r e w':=by
 cases r with
 | none=>exact h
 | some r=>
  obtain ⟨ys,p2⟩:=r
  obtain ⟨gp,xs,h1,h2,h3,h4,g',h5,h6,h7,h8,h9⟩:=h
  exact ⟨gp,h1,h2,by rw [JbP encO xs ys h4 h7] at h3;exact h3,g',h5,h6,h8,h9⟩
theorem ToC.of {E:Nat->Addr} {w w':World} {b:Nat} {g:Option Nat} {wj:Nat} {r:Option (List (BA×Int)×PS)} {e:Ending} (h:ToL lkC E w b g wj (JbS wj) r e w'):ToC E w b g wj r e w':=by
 cases r with
 | none=>exact h
 | some r=>
  obtain ⟨ys,p2⟩:=r
  obtain ⟨gp,xs,h1,h2,h3,h4,g',h5,h6,h7,h8,h9⟩:=h
  exact ⟨gp,h1,h2,by rw [JbP encC xs ys h4 h7] at h3;exact h3,g',h5,h6,h8,h9⟩
theorem ToO.shape {E:Nat->Addr} {w w':World} {b:Nat} {g:Option Nat} {wj:Nat} {r:Option (List (Nat×Nat)×PS)} {e:Ending} (h:ToO E w b g wj r e w'):∃a n c,e=.returned (.slice a n c):=by
 cases r with
 | none=>exact h.1
 | some r=>obtain ⟨gp,he,_⟩:=h;exact ⟨_,_,_,he⟩
theorem ToC.shape {E:Nat->Addr} {w w':World} {b:Nat} {g:Option Nat} {wj:Nat} {r:Option (List (BA×Int)×PS)} {e:Ending} (h:ToC E w b g wj r e w'):∃a n c,e=.returned (.slice a n c):=by
 cases r with
 | none=>exact h.1
 | some r=>obtain ⟨gp,he,_⟩:=h;exact ⟨_,_,_,he⟩
theorem JdF (E:Nat->Addr) (b:Nat) (hb12:18<=b) (g:Option Nat) (wj:Nat) (what:BA) (v:Value) (l:List (Nat×Nat)) (least most:Nat) (p0:PS) (w:World)
  (hE:Env E w) (hp:Jc w b g wj .nilIface p0) (hv:Jr b w v l) (hwh:what.size<=1000) (hl3:l.length<1000000) (hm3:most<=3) (hvc:p0.takes v) (ho:∀x∈l,x.2<256) (hd:p0.len<=70000000):
  Calls prog 204 #[.pointer (some ⟨b,0,none⟩),.agg #[.string what,.int .i64 ((1:Nat):Int),.int .u64 (least:Int),.int .u64 (most:Int)],v,.func (.func 205) #[.pointer (some ⟨b,0,none⟩)] #[]] w λe w'=>ToO E w b g wj (p0.listO least most l) e w':=by
 rw [<-Ji9]
 exact (JkM (lawO E b hb12 wj 80000000 (by omega)) rfl hb12 g what hwh 1 least most v (l.map encO) l p0 w hE hp (hv.vat.up (Nat.le_of_lt hp.lt)) (hv.vat.free hp) (by simp) hl3 (by simp only [JbT];omega) (by omega) (by omega) hm3 hvc (λj x a h1 h2=>by
  rw [List.getElem?_map,h2] at h1
  simp only [Option.map_some,Qh] at h1
  exact ⟨h1.symm,ho a (QT h2)⟩)).mono λe w' h=>ToO.of h
theorem JhE (E:Nat->Addr) (b:Nat) (hb12:18<=b) (g:Option Nat) (wj:Nat) (hw:wj<=1000) (what:BA) (v:Value) (l:List (BA×Int)) (least most:Nat) (p0:PS) (w:World)
  (hE:Env E w) (hp:Jc w b g wj .nilIface p0) (hv:Jz b w v l) (hwh:what.size<=1000) (hl3:l.length<1000000) (hm3:most<=3) (hvc:p0.takes v) (hd:p0.len<=70000000):
  Calls prog 202 #[.pointer (some ⟨b,0,none⟩),.agg #[.string what,.int .i64 ((1:Nat):Int),.int .u64 (least:Int),.int .u64 (most:Int)],v,.func (.func 203) #[.pointer (some ⟨b,0,none⟩)] #[]] w λe w'=>ToC E w b g wj (p0.listC wj least most l) e w':=by
 rw [<-Ji8]
 exact (JkH (lawC E b hb12 wj 79000000 (by omega)) rfl hb12 g what hwh 1 least most v (l.map encC) l p0 w hE hp (hv.vat.up (Nat.le_of_lt hp.lt)) (hv.vat.free hp) (by simp) hl3 (by simp only [JbS];omega) (by omega) (by omega) hm3 hvc (λj x a h1 h2=>by
  rw [List.getElem?_map,h2] at h1
  simp only [Option.map_some,Qh] at h1
  exact h1.symm)).mono λe w' h=>ToC.of h
theorem Jap (E:Nat->Addr) (b:Nat) (hb12:18<=b) (g:Option Nat) (wj:Nat) (v:Value) (l:List (Nat×Nat)) (p0:PS) (w:World)
  (hE:Env E w) (hp:Jc w b g wj .nilIface p0) (hv:Jr b w v l) (hl3:l.length<1000000) (hvc:p0.takes v) (ho:∀x∈l,x.2<256) (hd:p0.len<=70000000):
  Calls prog 188 #[.pointer (some ⟨b,0,none⟩),v] w λe w'=>
   ToO E w b g wj (p0.listO 1 3 l) e w':=by
 obtain ⟨ia,ic,hvs⟩:=hv.shape
 have hmf:∀(fn:Fn) (first cap:Array Value) (w:World),(Instr.makeFunc fn first cap).run prog w=.ok (.func fn first cap) w:=λ_ _ _ _=>rfl
 have HL':Hid (∀what:BA,what.size<=1000->_):=λwhat hwh=>JdF E b hb12 g wj what v l 1 3 p0 w hE hp hv hwh hl3 (by omega) hvc ho hd
 clear hE hp hv hvc ho
 subst hvs
 go_enter func188,ntmps188
 go_wp2_with fail
 refine (HL'.out _ (by decide)).mono ?_
 clear HL'
 intro e w1 h
 obtain ⟨a,n,c,rfl⟩:=h.shape
 have HH:Hid (ToO _ _ _ _ _ _ _ _):=h
 clear h
 go_wp2
 go_ret
 exact HH.o

def NewC (w:World) (B:Nat) (g:Option Nat) (x:Sl) (ys:List (BA×Int)):Prop:=∃gp,x=(some ⟨gp,0,none⟩,ys.length,ys.length)/\B<=gp/\some gp ≠ g/\w.heap[gp]? =some (.cells (vvA (ys.map encC)) 49)
def NewO (w:World) (B:Nat) (g:Option Nat) (x:Sl) (ys:List (Nat×Nat)):Prop:=∃gp,x=(some ⟨gp,0,none⟩,ys.length,ys.length)/\B<=gp/\some gp ≠ g/\w.heap[gp]? =some (.cells (vvA (ys.map encO)) 80)
theorem NewC.tch {w w':World} {B:Nat} {g g':Option Nat} {x:Sl} {ys:List (BA×Int)} {S:Nat->Prop} (h:NewC w B g x ys) (k:Tch S w w') (hs:∀j,S j->j<B\/some j=g\/w.heap.size<=j) (hm:Jp w g g'):NewC w' B g' x ys:=by
 obtain ⟨gp,h1,h2,h3,h4⟩:=h
 have l:=(Jb h4)
 refine ⟨gp,h1,h2,?_,(k.block gp l (λe=>by rcases hs gp e with e | e | e;omega;exact h3 e;omega)).trans h4⟩
 rcases hm with rfl | ⟨i,rfl,hi⟩
 ·exact h3
 ·intro e;cases e;omega
theorem NewO.tch {w w':World} {B:Nat} {g g':Option Nat} {x:Sl} {ys:List (Nat×Nat)} {S:Nat->Prop} (h:NewO w B g x ys) (k:Tch S w w') (hs:∀j,S j->j<B\/some j=g\/w.heap.size<=j) (hm:Jp w g g'):NewO w' B g' x ys:=by
 obtain ⟨gp,h1,h2,h3,h4⟩:=h
 have l:=(Jb h4)
 refine ⟨gp,h1,h2,?_,(k.block gp l (λe=>by rcases hs gp e with e | e | e;omega;exact h3 e;omega)).trans h4⟩
 rcases hm with rfl | ⟨i,rfl,hi⟩
 ·exact h3
 ·intro e;cases e;omega
theorem NewC.mono {w:World} {B B':Nat} {g:Option Nat} {x:Sl} {ys:List (BA×Int)} (h:NewC w B g x ys) (hB:B'<=B):NewC w B' g x ys:=by
 obtain ⟨gp,h1,h2,h3⟩:=h;exact ⟨gp,h1,by omega,h3⟩
theorem NewO.mono {w:World} {B B':Nat} {g:Option Nat} {x:Sl} {ys:List (Nat×Nat)} (h:NewO w B g x ys) (hB:B'<=B):NewO w B' g x ys:=by
 obtain ⟨gp,h1,h2,h3⟩:=h;exact ⟨gp,h1,by omega,h3⟩
theorem Ji4 (E:Nat->Addr) (b:Nat) (hb12:18<=b) (g:Option Nat) (wj:Nat) (hw:wj<=1000) (what:BA) (v:Value) (l:List (BA×Int)) (least most:Nat) (st:Option PS) (w:World)
  (hE:Env E w) (hp:Jh E w b g wj st) (hv:Jz b w v l) (hwh:what.size<=1000) (hl3:l.length<1000000) (hm3:most<=3) (hvc:∀p,st=some p->p.takes v) (hd:JN st<=70000000):
  Calls prog 202 #[.pointer (some ⟨b,0,none⟩),.agg #[.string what,.int .i64 ((1:Nat):Int),.int .u64 (least:Int),.int .u64 (most:Int)],v,.func (.func 203) #[.pointer (some ⟨b,0,none⟩)] #[]] w λe w'=>∃(x:Sl) (g':Option Nat),e=.returned (.slice x.1 x.2.1 x.2.2)/\Jh E w' b g' wj ((st.bind (PS.listC wj least most l)).map (·.2))/\Jp w g g'/\Tch (λk=>k=b\/some k=g) w w'/\∀ys p2,st.bind (PS.listC wj least most l)=some (ys,p2)->NewC w' w.heap.size g' x ys:=by
 cases st with
 | none=>
  obtain ⟨p,t,u,h1,h2⟩:=hp
  obtain ⟨ia,ic,hvs⟩:=hv.shape
  refine (JkI b g wj what hwh 1 least most v ia _ ic hvs p t u w h1).mono ?_
  rintro e w' ⟨rfl,h3,h4⟩
  exact ⟨(none,0,0),g,rfl,⟨p,t,u,h3,h2.tch h4 (λ_ _ _ _ h=>h)⟩,.inl rfl,h4.mono noE,λys p2 h=>by simp at h⟩
 | some p=>
  refine (JhE E b hb12 g wj hw what v l least most p w hE hp hv hwh hl3 hm3 (hvc p rfl) hd).mono ?_
  intro e w' h
  obtain ⟨xa,xn,xc,rfl⟩:=h.shape
  simp only [Qu]
  cases hq:p.listC wj least most l with
  | none=>
   rw [hq] at h
   obtain ⟨_,g',p',vv,h1,h2,h3,h4⟩:=h
   obtain ⟨t,u,rfl⟩:=h2.iface
   exact ⟨(xa,xn,xc),g',rfl,⟨p',t,u,h1,h2⟩,h3,h4,λys p2 h=>by simp at h⟩
  | some r=>
   obtain ⟨ys,p2⟩:=r
   rw [hq] at h
   obtain ⟨gp,he,h1,h2,g',h3,h4,h5,h6⟩:=h
   cases he
   refine ⟨(_,_,_),g',rfl,h3,h5,h6,λzs p3 hz=>?_⟩
   simp only [Qh,Qw] at hz
   obtain ⟨rfl,rfl⟩:=hz
   exact ⟨gp,rfl,h1,h4,h2⟩
theorem Ji5 (E:Nat->Addr) (b:Nat) (hb12:18<=b) (g:Option Nat) (wj:Nat) (what:BA) (v:Value) (l:List (Nat×Nat)) (least most:Nat) (st:Option PS) (w:World)
  (hE:Env E w) (hp:Jh E w b g wj st) (hv:Jr b w v l) (hwh:what.size<=1000) (hl3:l.length<1000000) (hm3:most<=3) (hvc:∀p,st=some p->p.takes v) (ho:∀x∈l,x.2<256) (hd:JN st<=70000000):
  Calls prog 204 #[.pointer (some ⟨b,0,none⟩),.agg #[.string what,.int .i64 ((1:Nat):Int),.int .u64 (least:Int),.int .u64 (most:Int)],v,.func (.func 205) #[.pointer (some ⟨b,0,none⟩)] #[]] w λe w'=>∃(x:Sl) (g':Option Nat),e=.returned (.slice x.1 x.2.1 x.2.2)/\Jh E w' b g' wj ((st.bind (PS.listO least most l)).map (·.2))/\Jp w g g'/\Tch (λk=>k=b\/some k=g) w w'/\∀ys p2,st.bind (PS.listO least most l)=some (ys,p2)->NewO w' w.heap.size g' x ys:=by
 cases st with
 | none=>
  obtain ⟨p,t,u,h1,h2⟩:=hp
  obtain ⟨ia,ic,hvs⟩:=hv.shape
  refine (JkN b g wj what hwh 1 least most v ia _ ic hvs p t u w h1).mono ?_
  rintro e w' ⟨rfl,h3,h4⟩
  exact ⟨(none,0,0),g,rfl,⟨p,t,u,h3,h2.tch h4 (λ_ _ _ _ h=>h)⟩,.inl rfl,h4.mono noE,λys p2 h=>by simp at h⟩
 | some p=>
  refine (JdF E b hb12 g wj what v l least most p w hE hp hv hwh hl3 hm3 (hvc p rfl) ho hd).mono ?_
  intro e w' h
  obtain ⟨xa,xn,xc,rfl⟩:=h.shape
  simp only [Qu]
  cases hq:p.listO least most l with
  | none=>
   rw [hq] at h
   obtain ⟨_,g',p',vv,h1,h2,h3,h4⟩:=h
   obtain ⟨t,u,rfl⟩:=h2.iface
   exact ⟨(xa,xn,xc),g',rfl,⟨p',t,u,h1,h2⟩,h3,h4,λys p2 h=>by simp at h⟩
  | some r=>
   obtain ⟨ys,p2⟩:=r
   rw [hq] at h
   obtain ⟨gp,he,h1,h2,g',h3,h4,h5,h6⟩:=h
   cases he
   refine ⟨(_,_,_),g',rfl,h3,h5,h6,λzs p3 hz=>?_⟩
   simp only [Qh,Qw] at hz
   obtain ⟨rfl,rfl⟩:=hz
   exact ⟨gp,rfl,h1,h4,h2⟩
theorem Jjc {α:Type} (f:α->PS->Option (α×PS)) (n:Nat) (hf:∀a p a' p',f a p=some (a',p')->p'.len<=p.len+n) (l:List α):∀(p p1:PS) (ys:List α),PS.many f l p=some (ys,p1)->p1.len<=p.len+n * l.length:=by
 induction l with
 | nil=>intro p p1 ys h;simp [PS.many] at h;rw [<-h.2];simp
 | cons z l ih=>
  intro p p1 ys h
  simp only [PS.many] at h
  cases q:f z p with
  | none=>simp [q] at h
  | some r=>
   obtain ⟨r1,r2⟩:=r
   simp only [q] at h
   cases q2:PS.many f l r2 with
   | none=>simp [q2] at h
   | some s=>
    obtain ⟨s1,s2⟩:=s
    simp only [q2,Qh,Qw] at h
    obtain ⟨rfl,rfl⟩:=h
    have h1:=hf _ _ _ _ q
    have h2:=ih _ _ _ q2
    rw [Qp,Nat.mul_add];omega
theorem JdG {α:Type} {f:α->PS->Option (α×PS)} {z:α} {size least most n:Nat} (hf:∀a p a' p',f a p=some (a',p')->p.like p'/\p'.len<=p.len+n) {l:List α} {p p2:PS} {ys:List α} {v:Value} (ht:p.takes v) (hv:v=.slice none 0 0->l=[]) (h:p.lst f z size least most l=some (ys,p2)):
  p.like p2/\least<=ys.length/\ys.length<=most/\p2.len<=p.len+size+n * ys.length:=by
 unfold PS.lst at h
 split at h
 ·cases h
 ·rename_i cnt p1 q1
  split at h
  ·cases h
  ·rename_i hr
   have e1:=ZQ _ _ _ _ _ h
   have e2:(Jy z l cnt).length=cnt:=by
    unfold Jy
    split
    ·simp
    ·rename_i hl
     rcases JdI ht q1 with e | e
     ·exact absurd (by rw [hv e];rfl) hl
     ·exact e
   have e3:=Jjc f n (λa p a' p' h=>(hf a p a' p' h).2) _ _ _ _ h
   have e4:=Zw _ _ _ _ _ q1
   refine ⟨(Yh q1).trans (Jbw f (λa p a' p' h=>(hf a p a' p' h).1) _ _ _ _ h),by omega,by omega,?_⟩
   rw [e1];omega
theorem JbO {p p2:PS} {v:Value} {wj least most:Nat} {l ys:List (BA×Int)} {B:Nat} {w:World} (hv:Jz B w v l) (ht:p.takes v) (h:p.listC wj least most l=some (ys,p2)):
  p.like p2/\least<=ys.length/\ys.length<=most/\p2.len<=p.len+1+(wj+1) * ys.length:=by
 rw [<-Ji8] at h
 exact JdG (λa p a' p' h=>Zt h) ht (λe=>by rcases hv with ⟨_,h⟩ | ⟨_,_,_,h,_⟩;exact h;rw [h] at e;cases e) h
theorem JdJ {a:Nat×Nat} {y:Nat×Nat} {p p2:PS} (h:p.out a.1 a.2=some (y,p2)):p.like p2/\p2.len<=p.len+9:=by
 obtain ⟨p1,h1,h2,h3,h4,h5⟩:=Ja1 _ _ _ _ _ h
 exact ⟨(Yh h1).trans (Yh h2),h4⟩
theorem ZP {p p2:PS} {v:Value} {least most:Nat} {l ys:List (Nat×Nat)} {B:Nat} {w:World} (hv:Jr B w v l) (ht:p.takes v) (h:p.listO least most l=some (ys,p2)):
  p.like p2/\least<=ys.length/\ys.length<=most/\p2.len<=p.len+1+9 * ys.length:=by
 rw [<-Ji9] at h
 exact JdG (λa p a' p' h=>JdJ h) ht (λe=>by rcases hv with ⟨_,h⟩ | ⟨_,_,_,h,_⟩;exact h;rw [h] at e;cases e) h
structure Jam (b:Nat) (w:World) (p:PS) (x:Sl×Sl) (t:TxL):Prop where
 coins:Jz b w (.slice x.1.1 x.1.2.1 x.1.2.2) t.1
 outs:Jr b w (.slice x.2.1 x.2.2.1 x.2.2.2) t.2
 few1:t.1.length<1000000
 few2:t.2.length<1000000
 takes1:p.takes (.slice x.1.1 x.1.2.1 x.1.2.2)
 takes2:p.takes (.slice x.2.1 x.2.2.1 x.2.2.2)
 small:∀o∈t.2,o.2<256
theorem Jam.tch {b:Nat} {w w':World} {p p':PS} {x:Sl×Sl} {t:TxL} {S:Nat->Prop} (h:Jam b w p x t) (k:Tch S w w') (hs:∀j,S j->b<=j) (hl:p.like p'):Jam b w' p' x t:=
 ⟨h.coins.tch k hs,h.outs.tch k hs,h.few1,h.few2,hl.takes h.takes1,hl.takes h.takes2,h.small⟩
def JeF (w:World) (B:Nat) (g:Option Nat) (x:Sl×Sl) (t:TxL):Prop:=NewC w B g x.1 t.1/\NewO w B g x.2 t.2
def encT (x:Sl×Sl):VV:=(.slice x.1.1 x.1.2.1 x.1.2.2,.slice x.2.1 x.2.2.1 x.2.2.2)
theorem JfE {b wj:Nat} {w:World} {p p2:PS} {x:Sl×Sl} {t t':TxL} (hw:wj<=32) (hI:Jam b w p x t) (h:p.tx wj t=some (t',p2)):p.like p2/\p2.len<=p.len+200/\t'.1.length<=3/\t'.2.length<=3:=by
 unfold PS.tx at h
 split at h
 ·cases h
 ·rename_i ys p1 q1
  obtain ⟨k1,_,k2,k3⟩:=JbO hI.coins hI.takes1 q1
  split at h
  ·cases h
  ·rename_i zs p3 q2
   obtain ⟨m1,_,m2,m3⟩:=ZP hI.outs (k1.takes hI.takes2) q2
   simp only [Qh,Qw] at h
   obtain ⟨rfl,rfl⟩:=h
   have:(wj+1) * ys.length<=33 * 3:=Nat.mul_le_mul (by omega) k2
   exact ⟨k1.trans m1,by omega,k2,m2⟩

theorem Jj6 (E:Nat->Addr) (b:Nat) (hb12:18<=b) (g:Option Nat) (wj:Nat) (hw:wj<=32) (x:Sl×Sl) (t:TxL) (p:PS) (w:World) (hE:Env E w) (hp:Jc w b g wj .nilIface p) (hI:Jam b w p x t) (hd:p.len<=60000000):
  Calls prog 134 #[.pointer (some ⟨b,0,none⟩),.agg #[.slice x.1.1 x.1.2.1 x.1.2.2,.slice x.2.1 x.2.2.1 x.2.2.2]] w λe w'=>∃(y:Sl×Sl) (g':Option Nat),e=.returned (.agg #[.slice y.1.1 y.1.2.1 y.1.2.2,.slice y.2.1 y.2.2.1 y.2.2.2])/\Jh E w' b g' wj ((p.tx wj t).map (·.2))/\Jp w g g'/\Tch (λk=>k=b\/some k=g) w w'/\∀t' p2,p.tx wj t=some (t',p2)->JeF w' w.heap.size g' y t':=by
 obtain ⟨⟨x1,x2,x3⟩,y1,y2,y3⟩:=x
 obtain ⟨hv1,hv2,hl1,hl2,ht1,ht2,ho⟩:=hI
 simp only at hv1 hv2 ht1 ht2
 have hlt:=hp.lt
 have hmf:∀(fn:Fn) (first cap:Array Value) (w:World),(Instr.makeFunc fn first cap).run prog w=.ok (.func fn first cap) w:=λ_ _ _ _=>rfl
 have tA:=Tch.allocs NoB w (.cells #[.slice x1 x2 x3,.slice y1 y2 y3] 98) (.cells #[.slice none 0 0,.slice none 0 0] 98)
 have HC1:Hid (∀what:BA,what.size<=1000->_):=λwhat hwh=>Ji4 E b hb12 g wj (by omega) what (.slice x1 x2 x3) t.1 1 3 (some p) _ (hE.tch tA noE) (hp.tch tA (λh=>h) (λ_ _ h=>h)) (hv1.tch tA noE) hwh hl1 (by omega) (λq hq=>by cases hq;exact ht1) (by simp only [JN];omega)
 have HV2:Hid (Jr b w (.slice y1 y2 y3) t.2):=hv2
 have HE:Hid (Env E w):=hE
 have HP:Hid (Jc w b g wj .nilIface p):=hp
 have HT2:Hid (p.takes (.slice y1 y2 y3)):=ht2
 have HF:Hid (∀ys p1,p.listC wj 1 3 t.1=some (ys,p1)->p.like p1/\p1.len<=p.len+200):=λys p1 h=>by
  obtain ⟨k1,_,k2,k3⟩:=JbO hv1 ht1 h
  have:(wj+1) * ys.length<=33 * 3:=Nat.mul_le_mul (by omega) k2
  exact ⟨k1,by omega⟩
 have HO:Hid (∀x∈t.2,x.2<256):=ho
 clear hv1 hv2 hE hp ht1 ht2 ho tA
 go_enter func134,ntmps134
 go_wp2_with fail
 refine (HC1.o _ (by decide)).mono ?_
 rintro _ w1 ⟨⟨a1,a2,a3⟩,g1,rfl,hp1,hm1,ht1,hn1⟩
 have c2:w1.cell? ⟨w.heap.size,1,none⟩=some (.slice y1 y2 y3):=(ht1.cell (p:=⟨w.heap.size,1,none⟩) (by simp;omega) (XQ HP.o _ (Ql _))).trans (Ja (heap_alloc2_old _ _ _))
 have rR:w1.heap[w.heap.size+1]? =some (.cells #[.slice none 0 0,.slice none 0 0] 98):=(ht1.block _ (by simp) (XQ HP.o _ (by omega))).trans (heap_alloc2_new _ _ _)
 have hsz1:=ht1.size
 simp at hsz1
 have hS:∀j,(j=b\/some j=g)->b<=j:=by
  rintro j (rfl | hj)
  ·exact Ql _
  ·have:=(HP.o.own j hj.symm).1;omega
 have HPS:Hid (Jh E w b g wj (some p)):=HP.o
 have HN:Hid (∀g',Jp w1 g1 g'->¬(w.heap.size+1=b\/some (w.heap.size+1)=g')):=λg' hm=>Jbc HPS.o (hm1.trans hm ht1.size) _ (by omega) (by simp)
 simp only [Qu] at hp1 hn1
 have HC2:Hid (∀what:BA,what.size<=1000->_):=λwhat hwh=>Ji5 E b hb12 g1 wj what (.slice y1 y2 y3) t.2 0 3 _ w1 ((HE.o.tch (Tch.allocs NoB w _ _) noE).tch ht1 (Jag hb12 HP.o)) hp1 ((HV2.o.tch (Tch.allocs NoB w _ _) noE).tch ht1 hS) hwh hl2 (by omega) (λq hq=>by
   cases hl:p.listC wj 1 3 t.1 with
   | none=>rw [hl] at hq;cases hq
   | some r=>
    obtain ⟨ys,p1⟩:=r
    rw [hl] at hq
    cases hq
    exact (HF.o _ _ hl).1.takes HT2.o) HO.o (by
   cases hl:p.listC wj 1 3 t.1 with
   | none=>simp [JN]
   | some r=>
    obtain ⟨ys,p1⟩:=r
    have:=(HF.o _ _ hl).2
    simp only [Option.map_some,JN];omega)
 have RR:Hid (_=_):=rR
 have HM1:Hid (Jp _ _ _):=hm1
 have HT1:Hid (Tch _ _ _):=ht1
 have HN1:Hid (∀ys p2,p.listC wj 1 3 t.1=some (ys,p2)->NewC w1 _ g1 (a1,a2,a3) ys):=hn1
 clear rR hm1 ht1 hp1 hn1 HC1 hS
 go_wp2_with fail
 refine (HC2.o _ (by decide)).mono ?_
 rintro _ w2 ⟨⟨b1,b2,b3⟩,g2,rfl,hp2,hm2,ht2,hn2⟩
 have rR2:w2.heap[w.heap.size+1]? =some (.cells #[.slice none 0 0,.slice none 0 0] 98):=(ht2.block _ (by omega) (HN.o g1 (.inl rfl))).trans RR.out
 have e0:w2.cell? ⟨w.heap.size+1,0,none⟩=some (.slice none 0 0):=Ja rR2
 have e1:w2.cell? ⟨w.heap.size+1,1,none⟩=some (.slice none 0 0):=Ja rR2
 have fR:∀j,w2.frozen? ⟨w.heap.size+1,j,none⟩=false:=λj=>Qg _ _ _ _ _ rR2
 have RR2:Hid (_=_):=rR2
 have HP2:Hid (Jh _ _ _ _ _ _):=hp2
 have HM2:Hid (Jp _ _ _):=hm2
 have HT2':Hid (Tch _ _ _):=ht2
 have HN2:Hid (∀ys p2,_->NewO w2 _ g2 (b1,b2,b3) ys):=hn2
 clear rR2 hp2 hm2 ht2 hn2 HC2
 go_wp2
 rw [set2 _ _ _ _ _ _ _ RR2.out]
 refine QK (v:=.agg #[.slice a1 a2 a3,.slice b1 b2 b3]) (Qq results134 _ _ (w.heap.size+1) _ _ (0,0) _ rfl (Qi w2 _ _ _ _ _ RR2.out) underlying98 rfl (by kernel_rfl)) rfl ⟨((a1,a2,a3),(b1,b2,b3)),g2,rfl,?_,?_,?_,?_⟩
 ·have hst:((((p.listC wj 1 3 t.1).map (·.2)).bind (PS.listO 0 3 t.2)).map (·.2))=(p.tx wj t).map (·.2):=by
   unfold PS.tx
   cases p.listC wj 1 3 t.1 with
   | none=>rfl
   | some r=>
    obtain ⟨ys,p1⟩:=r
    simp only [Option.map_some,Qu]
    cases p1.listO 0 3 t.2 <;> rfl
  have:=HP2.o
  rw [hst] at this
  exact this.row RR2.out (by decide) (HN.o g2 HM2.o)
 ·have:=HM1.o.trans HM2.o HT1.o.size
  rcases this with h | ⟨i,h,hi⟩
  ·exact .inl h
  ·exact .inr ⟨i,h,by simp at hi;omega⟩
 ·exact ((Tch.allocs _ w _ _).trans (XW HT1.o HT2'.out HM1.o) (λ_ h=>.inl h)).trans (Ts w2 (w.heap.size+1) _) (λj hj=>.inr (by omega))
 ·intro t' p2 h
  unfold PS.tx at h
  cases hl:p.listC wj 1 3 t.1 with
  | none=>rw [hl] at h;cases h
  | some r=>
   obtain ⟨ys,p1⟩:=r
   rw [hl] at h
   simp only at h
   have k1:=HN1.o ys p1 hl
   have k2:=HN2.o
   rw [hl] at k2
   simp only [Option.map_some,Qu] at k2
   cases hl2:p1.listO 0 3 t.2 with
   | none=>rw [hl2] at h;cases h
   | some r=>
    obtain ⟨zs,p3⟩:=r
    rw [hl2] at h
    cases h
    have tR:=Ts w2 (w.heap.size+1) #[.slice a1 a2 a3,.slice b1 b2 b3]
    refine ⟨?_,?_⟩
    ·refine NewC.mono (NewC.tch (NewC.tch k1 HT2'.out (λj h=>?_) HM2.o) tR (λj h=>.inl (by simp;omega)) (.inl rfl)) (by simp;omega)
     rcases h with h | h
     ·exact .inl (by simp;omega)
     ·exact .inr (.inl h)
    ·exact NewO.mono (NewO.tch (k2 _ _ hl2) tR (λj h=>.inl (by omega)) (.inl rfl)) (by omega)
def Zk (wj:Nat):XM TxL where
 f:=λt p=>p.tx wj t
 grow:=200
 zero:=([],[])
 zeroV:=zT
 Init:=λb w p x t=>∃y:Sl×Sl,x=encT y/\Jam b w p y t
 Done:=λw B g x t=>∃y:Sl×Sl,x=encT y/\JeF w B g y t
theorem Jg7 {wj:Nat} {t t':TxL} {p p2:PS} (h:p.tx wj t=some (t',p2)):p.like p2:=by
 unfold PS.tx at h
 split at h
 ·cases h
 ·rename_i ys p1 q1
  split at h
  ·cases h
  ·rename_i zs p3 q2
   cases h
   rw [<-Ji8] at q1
   rw [<-Ji9] at q2
   unfold PS.lst at q1 q2
   split at q1
   ·cases q1
   ·rename_i h1
    split at q1
    ·cases q1
    ·split at q2
     ·cases q2
     ·rename_i h2
      split at q2
      ·cases q2
      ·exact (((Yh h1).trans (Jbw _ (λa p a' p' h=>(Zt h).1) _ _ _ _ q1)).trans (Yh h2)).trans (Jbw _ (λa p a' p' h=>(JdJ h).1) _ _ _ _ q2)
theorem lawT (E:Nat->Addr) (b:Nat) (hb12:18<=b) (wj lim:Nat) (hw:wj<=32) (hl:lim<=60000000):Yu E b wj lim lkT.fP (Zk wj) ShT where
 init_tch:=λ⟨y,h1,h2⟩ k hs hl=>⟨y,h1,h2.tch k hs hl⟩
 init_zero:=λ_ _=>⟨((none,0,0),(none,0,0)),rfl,.inl ⟨rfl,rfl⟩,.inl ⟨rfl,rfl⟩,by simp [Zk],by simp [Zk],λ_ _ _=>rfl,λ_ _ _=>rfl,λo ho=>by simp [Zk] at ho⟩
 init_shape:=λ⟨y,h1,_⟩=>⟨y.1,y.2,h1⟩
 done_tch:=λ⟨y,h1,h2,h3⟩ k hs hm=>⟨y,h1,h2.tch k hs hm,h3.tch k hs hm⟩
 done_mono:=λ⟨y,h1,h2,h3⟩ hB=>⟨y,h1,h2.mono hB,h3.mono hB⟩
 like:=λh=>Jg7 h
 len:=λ⟨y,_,hI⟩ h=>(JfE hw hI h).2.1
 call:=λ{w g p x a} hE hp hI hd=>by
  obtain ⟨y,rfl,hI⟩:=hI
  refine (Jj6 E b hb12 g wj hw y a p w hE hp hI (by omega)).mono ?_
  rintro e w' ⟨z,g',rfl,k1,k2,k3,k4⟩
  refine ⟨encT z,⟨z.1,z.2,rfl⟩,rfl,?_⟩
  show ToP E w b g wj (Zk wj) (p.tx wj a) _ w'
  cases h:p.tx wj a with
  | none=>
   rw [h] at k1
   obtain ⟨p',t,u,h1,h2⟩:=k1
   exact ⟨g',_,p',h1,k2,k3,h2⟩
  | some r=>
   obtain ⟨t',p2⟩:=r
   rw [h] at k1
   exact ⟨g',_,p2,k1,k2,k3,rfl,rfl,z,rfl,k4 t' p2 h⟩
theorem Jfe (wj:Nat):∀(l:List TxL) (p:PS),PS.many (Zk wj).f l p=PS.txs wj l p
 | [],_=>rfl
 | x :: r,p=>by
  simp only [PS.many,PS.txs]
  have e:(Zk wj).f x p=p.tx wj x:=rfl
  rw [e]
  cases p.tx wj x with
  | none=>rfl
  | some q=>simp only [Jfe wj r];cases PS.txs wj r q.2 <;> rfl
theorem JjX (l:List TxL) (cnt:Nat):Jy ([],[]) l cnt=YD l cnt:=by
 unfold Jy YD
 cases l <;> simp
theorem JmA (wj:Nat) (l:List TxL) (p:PS):p.lst (Zk wj).f (Zk wj).zero 1 0 3 l=p.body wj l:=by
 unfold PS.lst PS.body
 cases p.num l.length 1 with
 | none=>rfl
 | some r=>
  simp only [Jfe,<-JjX,Nat.not_lt_zero,false_or]
  rfl
theorem JR.vat {B:Nat} {w:World} {v:Value} {l:List (Sl×Sl)} (h:JR B w v l):VAt B w v (l.map encT):=by
 rcases h with ⟨h1,h2⟩ | ⟨gi,oi,c,h1,h2,h3,h4⟩
 ·exact .inl ⟨h1,by rw [h2];rfl⟩
 ·exact .inr ⟨gi,oi,c,by rw [QM];exact h1,h2,h3,λi hi=>by
   rw [List.getElem_map];exact h4 i (by simpa using hi)⟩
def ToB (E:Nat->Addr) (w:World) (b:Nat) (g:Option Nat) (wj:Nat) (r:Option (List TxL×PS)) (e:Ending) (w':World):Prop:=
 ∃(x:Sl) (g':Option Nat),e=.returned (.slice x.1 x.2.1 x.2.2)/\Jh E w' b g' wj (r.map (·.2))/\Jp w g g'/\Tch (λk=>k=b\/some k=g) w w'/\
  ∀ts p2,r=some (ts,p2)->∃(gp:Nat) (zs:List (Sl×Sl)),x=(some ⟨gp,0,none⟩,ts.length,ts.length)/\w.heap.size<=gp/\some gp ≠ g'/\w'.heap[gp]? =some (.cells (vvA (zs.map encT)) 98)/\zs.length=ts.length/\∀(j:Nat) z t,zs[j]? =some z->ts[j]? =some t->JeF w' w.heap.size g' z t
theorem ToB.of {E:Nat->Addr} {w w':World} {b:Nat} {g:Option Nat} {wj:Nat} {r:Option (List TxL×PS)} {e:Ending} (h:ToL lkT E w b g wj (Zk wj) r e w'):ToB E w b g wj r e w':=by
 cases r with
 | none=>
  obtain ⟨⟨x1,x2,x3,rfl⟩,g',p',v,h1,h2,h3,h4⟩:=h
  obtain ⟨t,u,rfl⟩:=h2.iface
  exact ⟨(x1,x2,x3),g',rfl,⟨p',t,u,h1,h2⟩,h3,h4,λts p2 h=>by cases h⟩
 | some r=>
  obtain ⟨ys,p2⟩:=r
  obtain ⟨gp,xs,rfl,h2,h3,h4,g',h5,h6,h7,h8,h9⟩:=h
  refine ⟨(some ⟨gp,0,none⟩,ys.length,ys.length),g',rfl,h5,h8,h9,λts p3 h=>?_⟩
  simp only [Qh,Qw] at h
  obtain ⟨rfl,rfl⟩:=h
  have hz:∃zs:List (Sl×Sl),xs=zs.map encT/\∀(j:Nat) z t,zs[j]? =some z->ys[j]? =some t->JeF w' w.heap.size g' z t:=by
   have key:∀(xs:List VV) (ys:List TxL),xs.length=ys.length->(∀(j:Nat) x a,xs[j]? =some x->ys[j]? =some a->(Zk wj).Done w' (gp+1) g' x a)->∃zs:List (Sl×Sl),xs=zs.map encT/\∀(j:Nat) z t,zs[j]? =some z->ys[j]? =some t->JeF w' w.heap.size g' z t:=by
    intro xs
    induction xs with
    | nil=>intro ys _ _;exact ⟨[],rfl,λj z t h=>by simp at h⟩
    | cons x xs ih=>
     intro ys hl h
     cases ys with
     | nil=>simp at hl
     | cons y ys=>
      obtain ⟨zs,e,hzs⟩:=ih ys (by simpa using hl) (λj x a h1 h2=>h (j+1) x a (by simpa using h1) (by simpa using h2))
      obtain ⟨z,ez,hz⟩:=h 0 x y rfl rfl
      refine ⟨z :: zs,by rw [e,ez];rfl,λj z' t h1 h2=>?_⟩
      cases j with
      | zero=>simp at h1 h2;subst h1 h2;exact ⟨hz.1.mono (by omega),hz.2.mono (by omega)⟩
      | succ j=>exact hzs j z' t (by simpa using h1) (by simpa using h2)
   exact key xs ys h4 h7
  obtain ⟨zs,rfl,hzs⟩:=hz
  exact ⟨gp,zs,rfl,h2,h6,h3,by simpa using h4,hzs⟩
theorem JhF (E:Nat->Addr) (b:Nat) (hb12:18<=b) (g:Option Nat) (wj:Nat) (hw:wj<=32) (what:BA) (hwh:what.size<=1000) (v:Value) (l:List (Sl×Sl)) (ts:List TxL) (p0:PS) (w:World)
  (hE:Env E w) (hp:Jc w b g wj .nilIface p0) (hv:JR b w v l) (hl:l.length=ts.length) (hl3:ts.length<1000000) (hvc:p0.takes v) (hin:∀(j:Nat) x t,l[j]? =some x->ts[j]? =some t->Jam b w p0 x t) (hd:p0.len<=50000000):
  Calls prog 133 #[.pointer (some ⟨b,0,none⟩),.agg #[.string what,.int .i64 1,.int .u64 0,.int .u64 3],v,.func (.func 134) #[.pointer (some ⟨b,0,none⟩)] #[]] w λe w'=>ToB E w b g wj (p0.body wj ts) e w':=by
 obtain ⟨lim,hlim,hlaw⟩:∃lim,lim=60000000/\Yu E b wj lim lkT.fP (Zk wj) ShT:=⟨_,rfl,lawT E b hb12 wj 60000000 hw (by omega)⟩
 have hgrow:(Zk wj).grow=200:=rfl
 rw [<-JmA]
 exact (JkO hlaw rfl hb12 g what hwh 1 0 3 v (l.map encT) ts p0 w hE hp (hv.vat.up (Nat.le_of_lt hp.lt)) (hv.vat.free hp) (by simpa using hl) hl3 (by rw [hgrow];omega) (by omega) (by omega) (by omega) hvc (λj x a h1 h2=>by
  rw [List.getElem?_map] at h1
  cases hz:l[j]? with
  | none=>rw [hz] at h1;cases h1
  | some z=>rw [hz] at h1;cases h1;exact ⟨z,rfl,hin j z a hz h2⟩)).mono λe w' h=>ToB.of h
theorem Jci (E:Nat->Addr) (b:Nat) (hb12:18<=b) (g:Option Nat) (wj:Nat) (hw:wj<=32) (v:Value) (l:List (Sl×Sl)) (ts:List TxL) (p0:PS) (w:World)
  (hE:Env E w) (hp:Jc w b g wj .nilIface p0) (hv:JR b w v l) (hl:l.length=ts.length) (hl3:ts.length<1000000) (hvc:p0.takes v) (hin:∀(j:Nat) x t,l[j]? =some x->ts[j]? =some t->Jam b w p0 x t) (hd:p0.len<=50000000):
  Calls prog 78 #[.pointer (some ⟨b,0,none⟩),v] w λe w'=>ToB E w b g wj (p0.body wj ts) e w':=by
 obtain ⟨ia,ic,hvs⟩:=hv.shape
 have hmf:∀(fn:Fn) (first cap:Array Value) (w:World),(Instr.makeFunc fn first cap).run prog w=.ok (.func fn first cap) w:=λ_ _ _ _=>rfl
 have HL:Hid (∀what:BA,what.size<=1000->_):=λwhat hwh=>JhF E b hb12 g wj hw what hwh v l ts p0 w hE hp hv hl hl3 hvc hin hd
 clear hE hp hv hvc hin hl
 subst hvs
 go_enter func78,ntmps78
 go_wp2_with fail
 refine (HL.o _ (by decide)).mono ?_
 clear HL
 rintro e w1 ⟨⟨x1,x2,x3⟩,g1,rfl,h⟩
 have HH:Hid (Jh _ _ _ _ _ _/\_):=h
 clear h
 go_wp2
 go_ret
 exact ⟨(x1,x2,x3),g1,rfl,HH.o⟩
