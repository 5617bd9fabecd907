import Derived.Test.YtighkdnooglfjaaGreatDoorSxLdQ
namespace Go.Proofs.YtighkdnooglfjaaGreatDoor

theorem Jit {wd:Nat} {z y:Stp} {q r:List UInt8} {p:PS} (h:PS.step wd z (.rd q r)=some (y,p)):Zm wd y/\∃q' r',p=.rd q' r':=by
 unfold PS.step at h
 cases h1:(PS.rd q r).num z.1 2 with
 | none=>rw [h1] at h;cases h
 | some x=>
  obtain ⟨m,p1⟩:=x
  rw [h1] at h
  dsimp only at h
  obtain ⟨b1,r1,_,_,rfl,_⟩:=Ya z.1 2 q r m p1 h1
  split at h
  ·cases h
  ·rename_i hm
   cases h2:(PS.rd (q++b1) r1).txt z.2.data.toList wd with
   | none=>rw [h2] at h;cases h
   | some x=>
    obtain ⟨t,p2⟩:=x
    rw [h2] at h
    simp only [Qh,Qw] at h
    obtain ⟨rfl,rfl⟩:=h
    obtain ⟨b2,r2,_,_,rfl,ht⟩:=ZL _ _ _ _ _ _ h2
    exact ⟨⟨by show m<_;omega,by show ByteArray.size _=_;rw [Jz];exact ht⟩,_,_,rfl⟩
theorem JdE {wd:Nat}:∀(l ys:List Stp) (q r:List UInt8) (p:PS),PS.many (Jak wd).f l (.rd q r)=some (ys,p)->(ys.length=l.length/\∀s∈ys,Zm wd s)/\∃q' r',p=.rd q' r'
 | [],ys,q,r,p,h=>by
  simp only [PS.many,Qh,Qw] at h
  obtain ⟨rfl,rfl⟩:=h
  exact ⟨⟨rfl,λs hs=>by cases hs⟩,q,r,rfl⟩
 | z :: l,ys,q,r,p,h=>by
  unfold PS.many at h
  cases h1:(Jak wd).f z (.rd q r) with
  | none=>rw [h1] at h;cases h
  | some x=>
   obtain ⟨y,p1⟩:=x
   rw [h1] at h
   obtain ⟨hy,q1,r1,rfl⟩:=Jit (show PS.step wd z (.rd q r)=some (y,p1) from h1)
   dsimp only at h
   cases h2:PS.many (Jak wd).f l (.rd q1 r1) with
   | none=>rw [h2] at h;cases h
   | some x=>
    obtain ⟨ys',p2⟩:=x
    rw [h2] at h
    simp only [Qh,Qw] at h
    obtain ⟨rfl,rfl⟩:=h
    obtain ⟨⟨e1,e2⟩,hp⟩:=JdE l ys' q1 r1 p2 h2
    refine ⟨⟨by simp [e1],λs hs=>?_⟩,hp⟩
    rcases List.mem_cons.1 hs with rfl | hs
    ·exact hy
    ·exact e2 s hs
theorem JhT {wd:Nat} {ys:List Stp} {q r:List UInt8} {p:PS} (h:PS.lstS wd [] (.rd q r)=some (ys,p)):(ys.length<=8 * (wd+1)/\∀s∈ys,Zm wd s)/\∃q' r',p=.rd q' r':=by
 unfold PS.lstS PS.lst at h
 cases h1:(PS.rd q r).num ([]:List Stp).length 2 with
 | none=>rw [h1] at h;cases h
 | some x=>
  obtain ⟨cnt,p1⟩:=x
  rw [h1] at h
  dsimp only at h
  obtain ⟨b1,r1,_,_,rfl,_⟩:=Ya _ 2 q r cnt p1 h1
  split at h
  ·cases h
  ·rename_i hc
   obtain ⟨⟨e1,e2⟩,hp⟩:=JdE _ _ _ _ _ h
   have hs:(Jf ((0,⟨#[]⟩):Stp) [] cnt).length=cnt:=by simp [Jf]
   rw [hs] at e1
   exact ⟨⟨by omega,e2⟩,hp⟩
theorem JcT {x k:Nat} {q r:List UInt8} {p:PS} (h:(JD x k (some (.rd q r))).2=some p):(JD x k (some (.rd q r))).1<256 ^ k/\∃q' r',p=.rd q' r':=by
 cases h1:(PS.rd q r).num x k with
 | none=>rw [Zj h1] at h;cases h
 | some y=>
  obtain ⟨m,p1⟩:=y
  rw [JQ h1] at h ⊢
  obtain ⟨b,r',_,_,rfl,hm⟩:=Ya x k q r m p1 h1
  simp only [Qh] at h
  exact ⟨hm,_,_,h.symm⟩
theorem Jgo {s:List UInt8} {k:Nat} {q r:List UInt8} {p:PS} (h:(Jn s k (some (.rd q r))).2=some p):(Jn s k (some (.rd q r))).1.length=k/\∃q' r',p=.rd q' r':=by
 cases h1:(PS.rd q r).txt s k with
 | none=>rw [XO h1] at h;cases h
 | some y=>
  obtain ⟨m,p1⟩:=y
  rw [JK h1] at h ⊢
  obtain ⟨b,r',_,_,rfl,hm⟩:=ZL s k q r m p1 h1
  simp only [Qh] at h
  exact ⟨hm,_,_,h.symm⟩
theorem Jfu {wd:Nat} {k:BA} {o:Nat×Nat} {q r:List UInt8} {p:PS} (h:(JB wd k o (some (.rd q r))).2=some p):((JB wd k o (some (.rd q r))).1.1.length=wd+1/\((JB wd k o (some (.rd q r))).1.1.getD wd 0).toNat<3/\Jy (JB wd k o (some (.rd q r))).1.2)/\∃q' r',p=.rd q' r':=by
 unfold JB Yt at h ⊢
 dsimp only at h ⊢
 cases h1:(Jn k.data.toList (wd+1) (some (.rd q r))).2 with
 | none=>rw [h1] at h;simp [stO,JD] at h
 | some p1=>
  obtain ⟨hl,q1,r1,rfl⟩:=Jgo h1
  rw [h1] at h
  dsimp only at h ⊢
  by_cases h3:3<=((Jn k.data.toList (wd+1) (some (.rd q r))).1.getD wd 0).toNat
  ·rw [if_pos h3] at h
   simp [stO,JD] at h
  ·rw [if_neg h3] at h ⊢
   unfold stO at h ⊢
   dsimp only at h ⊢
   cases h4:(JD o.1 8 (some (.rd q1 r1))).2 with
   | none=>rw [h4] at h;simp [JD] at h
   | some p2=>
    obtain ⟨ha,q2,r2,rfl⟩:=JcT h4
    rw [h4] at h
    obtain ⟨hb,hp⟩:=JcT h
    exact ⟨⟨hl,by omega,by show _<2 ^ 64;exact ha,by show _<256;exact hb⟩,hp⟩
theorem ZT {wd:Nat} {m:Bool} {k:BA} {o:Nat×Nat} {q r:List UInt8} {wy:Wy} {p:PS} (h:(PS.rd q r).way wd [] m k o=some (wy,p)):WyOk wd wy/\∃q' r',p=.rd q' r':=by
 unfold PS.way at h
 cases h1:(PS.rd q r).lstS wd [] with
 | none=>rw [h1] at h;cases h
 | some x=>
  obtain ⟨ys,p1⟩:=x
  rw [h1] at h
  obtain ⟨⟨e1,e2⟩,q1,r1,rfl⟩:=JhT h1
  dsimp only at h
  by_cases hr:YP ys ys.length
  ·have hs:Xg ys (some (.rd q1 r1))=some (.rd q1 r1):=by unfold Xg;rw [if_pos hr]
   rw [hs] at h
   split at h
   ·rename_i hz
    simp only [Option.map_some,Qh,Qw] at h
    obtain ⟨rfl,rfl⟩:=h
    exact ⟨⟨λs hs=>(by cases hs),λi h1 h2=>(by simp at h2),by simp,λ_=>rfl,λx hx=>(by cases hx)⟩,_,_,rfl⟩
   ·cases h2:(JB wd k o (some (.rd q1 r1))).2 with
    | none=>rw [h2] at h;cases h
    | some p2=>
     rw [h2] at h
     simp only [Option.map_some,Qh,Qw] at h
     obtain ⟨rfl,rfl⟩:=h
     obtain ⟨hl,hp⟩:=Jfu h2
     exact ⟨⟨e2,hr,e1,λh=>(by cases h),λx hx=>(by cases hx;exact hl)⟩,hp⟩
  ·have hs:Xg ys (some (.rd q1 r1))=none:=by unfold Xg;rw [if_neg hr]
   rw [hs] at h
   split at h
   ·cases h
   ·rw [Jgm] at h
    cases h
open Tryz
set_option maxRecDepth 100000
set_option maxHeartbeats 2000000
open Go.RowKit

open Classical in
noncomputable def chk (wd:Nat) (key:Key) (state:BA) (s:List UInt8):Option Wy:=match (PS.rd [] s).way wd [] false ⟨#[]⟩ (0,0) with
 | some (wy,.rd _ [])=>if (∀x∈wy.1,bt key x.1=bt (JT wy) x.1)/\dgW wd ((wy.nodes (dgW wd)).headD [])=state then some wy else none
 | _=>none
def JiL (wd:Nat) (key:Key) (r:Option Wy) (e:Ending) (w':World):Prop:=match r with
 | some wy=>∃(x:Int) (y z g cap:Nat),XL (wy.said key)=.agg #[.int .i64 x,.int .u64 (y:Int),.int .u8 (z:Int)]/\e=.returned (.tuple #[.agg #[.int .i64 x,.int .u64 (y:Int),.int .u8 (z:Int),.slice (some ⟨g,0,none⟩) (wy.1.length+1) cap],.nilIface])/\g<w'.heap.size/\∀(j:Nat) t,(wy.nodes (dgW wd))[j]? =some t->w'.cell? ⟨g,j,none⟩=some (.string ⟨t.toArray⟩)
 | none=>∃t u,e=.returned (.tuple #[.agg #[.int .i64 0,.int .u64 0,.int .u8 0,.slice none 0 0],.iface t u])
theorem Jia (E:Nat->Addr) (b wd:Nat) (st:Option PS) (hrd:∀p,st=some p->∃q r,p=.rd q r) (hne:∀q,st ≠ some (.rd q [])) (W:World) (hE:Env E W) (g:Option Nat) (hp:Jg E W b g (wd:Int) st):
  Calls prog 88 #[.pointer (some ⟨b,0,none⟩)] W λe w'=>Tch NoB W w'/\∃t u,e=.returned (.iface t u):=by
 cases st with
 | none=>
  refine (Jaz E b (wd:Int) none (λp h=>by cases h) W hE g hp).mono ?_
  rintro e w' ⟨ht,t,u,he,_⟩
  exact ⟨ht,t,u,he⟩
 | some p=>
  obtain ⟨q,r,rfl⟩:=hrd p rfl
  cases r with
  | nil=>exact absurd rfl (hne q)
  | cons a r=>
   refine (Jaz E b (wd:Int) (some (.rd q (a :: r))) (λp h=>⟨q,a :: r,(Option.some.inj h).symm⟩) W hE g hp).mono ?_
   rintro e w' ⟨ht,t,u,he,_⟩
   exact ⟨ht,t,u,he⟩
theorem Jdp (E:Nat->Addr) (wd:Nat) (hw:wd<=32) (state kb s:BA) (hs:s.size<=2000000) (hr:∀wy q,(PS.rd [] s.data.toList).way wd [] false ⟨#[]⟩ (0,0) ≠ some (wy,.rd q [])) (w:World) (hE:Env E w):
  Calls prog 144 #[qV wd state kb,.string s] w λe w'=>Tch NoB w w'/\∃t u,e=.returned (.tuple #[.agg #[.int .i64 0,.int .u64 0,.int .u8 0,.slice none 0 0],.iface t u]):=by
 have hsz:=hE.size
 obtain ⟨R,hR⟩:∃R,R=(PS.rd [] s.data.toList).way wd [] false ⟨#[]⟩ (0,0):=⟨_,rfl⟩
 rw [<-hR] at hr
 have hrd:∀p,R.map (·.2)=some p->∃q r,p=.rd q r:=λp hp=>by
  cases hR':R with
  | none=>rw [hR'] at hp;cases hp
  | some x=>
   obtain ⟨wy,p2⟩:=x
   rw [hR'] at hp
   cases hp
   rw [hR'] at hR
   exact (ZT hR.symm).2
 have hlen:(s.data.toList).length<=2000000:=by rw [QA];exact hs
 have HWAY:Hid (∀W b,Tch NoB w W->18<=b->Jc W b none (wd:Int) .nilIface (.rd [] s.data.toList)->Calls prog 146 #[.pointer (some ⟨b,0,none⟩),.agg #[.slice none 0 0,.bool false,.string ⟨#[]⟩,.int .u64 0,.int .u8 0]] W λe w'=>∃v1 v2 v3 m k a o g',e=.returned (wV v1 v2 v3 m k a o)/\Jg E w' b g' (wd:Int) (R.map (·.2))/\Tch (λk=>k=b) W w'):=λW b hT hb hp=>by
  refine (JbJ E b hb none wd hw none 0 0 [] false ⟨#[]⟩ 0 0 (by decide) (.rd [] s.data.toList) W (hE.tch hT noE) hp (.inl ⟨rfl,rfl⟩) (Jaf.nil _ _) (by simp) (by simp) (by simp [PS.takes]) (by simp only [PS.len,Qv];omega)).mono ?_
  rintro e w' ⟨x1,x2,x3,m,k,a,o,g',rfl,h1,_,h3,_⟩
  rw [<-hR] at h1
  exact ⟨x1,x2,x3,m,k,a,o,g',rfl,h1,h3.mono (λj hj=>.inl (by rcases hj with h | h;exact h;cases h))⟩
 have HDN:Hid (∀W b g',Tch NoB w W->Jg E W b g' (wd:Int) (R.map (·.2))->Calls prog 88 #[.pointer (some ⟨b,0,none⟩)] W λe w'=>Tch NoB W w'/\∃t u,e=.returned (.iface t u)):=λW b g' hT hp=>by
  have hne:∀q,R.map (·.2) ≠ some (.rd q []):=λq h=>by
   cases hR':R with
   | none=>rw [hR'] at h;cases h
   | some x=>
    obtain ⟨wy,p2⟩:=x
    rw [hR'] at h
    cases h
    exact hr wy q hR'
  exact Jia E b wd (R.map (·.2)) hrd hne W (hE.tch hT noE) g' hp
 have HSZ:Hid (18<=w.heap.size):=hsz
 clear hE hr hrd hlen hR hs
 obtain ⟨W,hW⟩:∃W,W=(w.alloc (.cells #[.int .i64 (wd:Int),.string state,.string kb] 248)).alloc (.cells #[.int .i64 0,.int .u64 0,.int .u8 0,.slice none 0 0] 252):=⟨_,rfl⟩
 have tA:Tch NoB w W:=by rw [hW];exact Tch.allocs _ _ _ _
 have hr0:W.heap[w.heap.size]? =some (.cells #[.int .i64 (wd:Int),.string state,.string kb] 248):=by rw [hW];exact heap_alloc2_old _ _ _
 have hr1:W.heap[w.heap.size+1]? =some (.cells #[.int .i64 0,.int .u64 0,.int .u8 0,.slice none 0 0] 252):=by rw [hW];exact heap_alloc2_new _ _ _
 have hWz:W.heap.size=w.heap.size+2:=by rw [hW];simp
 have HRR:Hid (∀V,Tch NoB W V->V.heap[w.heap.size+1]? =some (.cells #[.int .i64 0,.int .u64 0,.int .u8 0,.slice none 0 0] 252)):=λV hT=>(hT.block _ (Jb hr1) (λh=>h)).trans hr1
 have a0:W.cell? ⟨w.heap.size,0,none⟩=some (.int .i64 (wd:Int)):=Ja hr0
 have HA:Hid (Tch _ w W):=tA
 have HWZ:Hid (W.heap.size=w.heap.size+2):=hWz
 have HW:Hid (W=_):=hW
 clear tA hr0 hr1 hWz hW hsz
 go_enter func144,ntmps144
 go_upto_region 1 with fail
 rw [<-HW.o]
 go_wp2_with fail
 refine (Xi _ _ _).mono ?_
 rintro _ w1 ⟨rfl,hp1,ht1⟩
 have HT1:Hid (Tch NoB W w1):=ht1
 have HP1:Hid (Jc w1 W.heap.size none (wd:Int) .nilIface (.rd [] s.data.toList)):=hp1
 clear ht1 hp1 a0
 go_wp2_with fail
 refine (HWAY.o w1 W.heap.size (HA.o.go HT1.o) (by have:=HSZ.o;have:=HWZ.o;omega) HP1.o).mono ?_
 rintro _ w2 ⟨v1,v2,v3,mm,wk,oa,oo,g',rfl,hp2,ht2⟩
 obtain ⟨W3,hW3⟩:∃W3,W3=w2.alloc (.cells #[.slice v1 v2 v3,.bool mm,.string wk,.int .u64 (oa:Int),.int .u8 (oo:Int)] 258):=⟨_,rfl⟩
 have t3:Tch NoB w2 W3:=by rw [hW3];exact Tch.alloc _ _ _
 have HT3:Hid (Tch NoB W W3):=(HT1.o.trans ht2 (λj hj=>.inr (Nat.le_of_eq hj.symm))).go t3
 have HP3:Hid (Jg E W3 W.heap.size g' (wd:Int) (R.map (·.2))):=hp2.next t3
 have HW3:Hid (W3=_):=hW3
 clear hp2 ht2 t3 hW3 HWAY HP1 HT1
 go_upto_region 3 with fail
 rw [<-HW3.o]
 go_wp2_with fail
 refine (HDN.o W3 W.heap.size g' (HA.o.go HT3.o) HP3.o).mono ?_
 rintro _ w4 ⟨ht4,t,u,rfl⟩
 have HT4:Hid (Tch NoB W w4):=HT3.o.go ht4
 clear ht4 HDN HP3
 go_wp2_with fail
 refine (Xr _ _ _ _).mono ?_
 rintro _ w5 ⟨rfl,hw5⟩
 have t5:Tch NoB w4 w5:=by rw [hw5];exact Tch.alloc _ _ _
 have HT5:Hid (Tch NoB W w5):=HT4.o.go t5
 have hr8:=HRR.o w5 HT5.o
 have r0:w5.cell? ⟨w.heap.size+1,0,none⟩=some (.int .i64 0):=Ja hr8
 have r1:w5.cell? ⟨w.heap.size+1,1,none⟩=some (.int .u64 0):=Ja hr8
 have r2:w5.cell? ⟨w.heap.size+1,2,none⟩=some (.int .u8 0):=Ja hr8
 have r3:w5.cell? ⟨w.heap.size+1,3,none⟩=some (.slice none 0 0):=Ja hr8
 have fR:∀j,w5.frozen? ⟨w.heap.size+1,j,none⟩=false:=λj=>Qg _ _ _ _ _ hr8
 have R8:Hid (w5.heap[w.heap.size+1]? =_):=hr8
 clear hr8 t5 hw5
 go_wp2
 rw [set4 _ _ _ _ _ _ _ _ _ _ _ R8.o]
 refine QJ (v:=.tuple #[.agg #[.int .i64 0,.int .u64 0,.int .u8 0,.slice none 0 0],_]) (Ji results144 _ _ (w.heap.size+1) _ _ (0,0) _ rfl (Qi _ _ _ _ _ _ R8.o) underlying252 rfl (by kernel_rfl)) rfl ?_
 exact ⟨(HA.o.go HT5.o).trans (Tch.setRow _ _ _) (λj hj=>.inr (by omega)),_,_,rfl⟩
theorem JfT (E:Nat->Addr) (wd:Nat) (hw1:1<=wd) (hw:wd<=32) (state:BA) (key:Key) (hk:key.length=wd+1) (s:BA) (hs:s.size<=2000000) (wy:Wy) (q:List UInt8) (hp:(PS.rd [] s.data.toList).way wd [] false ⟨#[]⟩ (0,0)=some (wy,.rd q [])) (hbits:∀s∈wy.1,bt key s.1=bt (JT wy) s.1) (hroot:dgW wd ((wy.nodes (dgW wd)).headD [])=state) (w:World) (hE:Env E w):
  Calls prog 144 #[qV wd state ⟨key.toArray⟩,.string s] w λe w'=>Tch NoB w w'/\JiL wd key (some wy) e w':=by
 have hsz:=hE.size
 have hok:WyOk wd wy:=(ZT hp).1
 have hlen:(s.data.toList).length<=2000000:=by rw [QA];exact hs
 have HWAY:Hid (∀W b,Tch NoB w W->18<=b->Jc W b none (wd:Int) .nilIface (.rd [] s.data.toList)->Calls prog 146 #[.pointer (some ⟨b,0,none⟩),.agg #[.slice none 0 0,.bool false,.string ⟨#[]⟩,.int .u64 0,.int .u8 0]] W λe w'=>∃v1 v2 v3 g',e=.returned (wV v1 v2 v3 wy.2.isSome (wyK wy) (wyO wy).1 (wyO wy).2)/\VAt w'.heap.size w' (.slice v1 v2 v3) (wy.1.map encS)/\Jc w' b g' (wd:Int) .nilIface (.rd q [])/\Tch (λk=>k=b) W w'):=λW b hT hb hpa=>by
  refine (JbJ E b hb none wd hw none 0 0 [] false ⟨#[]⟩ 0 0 (by decide) (.rd [] s.data.toList) W (hE.tch hT noE) hpa (.inl ⟨rfl,rfl⟩) (Jaf.nil _ _) (by simp) (by simp) (by simp [PS.takes]) (by simp only [PS.len,Qv];omega)).mono ?_
  rintro e w' ⟨x1,x2,x3,m,k,a,o,g',rfl,h1,_,h3,h4⟩
  rw [hp] at h1 h4
  obtain ⟨i1,rfl,rfl,rfl,rfl⟩:=(h4 wy _ rfl).is
  exact ⟨x1,x2,x3,g',rfl,i1,h1,h3.mono (λj hj=>.inl (by rcases hj with h | h;exact h;cases h))⟩
 have HCB:Hid (∀W v1 v2 v3,Tch NoB w W->VAt W.heap.size W (.slice v1 v2 v3) (wy.1.map encS)->Calls prog 213 #[qV wd state ⟨key.toArray⟩,wV v1 v2 v3 wy.2.isSome (wyK wy) (wyO wy).1 (wyO wy).2] W λe w'=>Tch NoB W w'/\e=.returned .nilIface):=λW v1 v2 v3 hT hv=>by
  refine (YG E wd hw state key hk wy hok v1 v2 v3 _ _ _ W (hE.tch hT noE) hv (λ⟨s,hs,h⟩=>absurd (hbits s hs) h)).mono ?_
  rintro e w' ⟨ht,⟨_,rfl⟩ | ⟨⟨s,hs,h⟩,_⟩⟩
  ·exact ⟨ht,rfl⟩
  ·exact absurd (hbits s hs) h
 have hnl:(wy.nodes (dgW wd)).length=wy.1.length+1:=by simp [Wy.nodes,Xk]
 obtain ⟨t0,hh0,ht0⟩:∃t0,(wy.nodes (dgW wd))[0]? =some t0/\(wy.nodes (dgW wd)).headD []=t0:=by
  cases hn:wy.nodes (dgW wd) with
  | nil=>rw [hn] at hnl;simp at hnl
  | cons a l=>exact ⟨a,rfl,rfl⟩
 have ht0l:t0.length<=1000:=by
  have h1:=YA (dgW wd) (JT wy) (JS wy.2) wy.1 0 (Nat.zero_le _)
  have h2:(wy.nodes (dgW wd))[0]? =some (YN (dgW wd) (JT wy) (JS wy.2) wy.1 0):=h1
  rw [hh0] at h2
  cases h2
  exact ZH wd hw _ _ (YK hw hok) _ hok.steps 0 (Nat.zero_le _)
 rw [ht0] at hroot
 have HND:Hid (∀W v1 v2 v3,Tch NoB w W->VAt W.heap.size W (.slice v1 v2 v3) (wy.1.map encS)->Calls prog 214 #[qV wd state ⟨key.toArray⟩,wV v1 v2 v3 wy.2.isSome (wyK wy) (wyO wy).1 (wyO wy).2] W λe w'=>Tch NoB W w'/\∃(g n cap:Nat),e=.returned (.tuple #[.slice (some ⟨g,0,none⟩) (n+1) cap,.nilIface])/\w'.cell? ⟨g,0,none⟩=some (.string ⟨t0.toArray⟩)/\n<=1000/\n=wy.1.length/\g<w'.heap.size/\∀(j:Nat) t,(wy.nodes (dgW wd))[j]? =some t->w'.cell? ⟨g,j,none⟩=some (.string ⟨t.toArray⟩)):=λW v1 v2 v3 hT hv=>by
  refine (callsIn_wide.1 (JcA E wd hw1 hw state _ v1 v2 v3 wy hok W (hE.tch hT noE) hv)).mono ?_
  rintro e w' ⟨g,cap,rfl,_,hgl,hc,hB⟩
  refine ⟨(Tch.of_below hB).mono (λ_ hj=>.inr hj),g,wy.1.length,cap,by rw [hnl],?_,by have:=hok.len;omega,rfl,hgl,λj t ht=>?_⟩
  ·have h0:=hc 0 (by omega)
   rw [h0]
   have:(wy.nodes (dgW wd))[0]'(by omega)=t0:=by
    have:=Qd (l:=wy.nodes (dgW wd)) (i:=0) (by omega)
    rw [hh0] at this
    exact (Option.some.inj this).symm
   rw [this]
  ·obtain ⟨hj,rfl⟩:=Qo.1 ht
   exact hc j hj
 have HOF:Hid (∀W,Tch NoB w W->Calls prog 130 #[.int .i64 (wd:Int),.string ⟨t0.toArray⟩] W λe w'=>e=.returned (.string state)/\Tch NoB W w'):=λW hT=>by
  have:=Zz E wd ⟨t0.toArray⟩ W (hE.tch hT noE) hw1 hw (by rw [Jz];omega)
  rw [Ja1,hroot] at this
  exact this
 have HSB:Hid (∀W v1 v2 v3,Calls prog 215 #[qV wd state ⟨key.toArray⟩,wV v1 v2 v3 wy.2.isSome (wyK wy) (wyO wy).1 (wyO wy).2] W _):=λW v1 v2 v3=>JcP wd state ⟨key.toArray⟩ v1 v2 v3 _ _ _ _ W
 have HDN:Hid (∀W b g',Jc W b g' (wd:Int) .nilIface (.rd q [])->Calls prog 88 #[.pointer (some ⟨b,0,none⟩)] W λe w'=>e=.returned .nilIface/\Tch NoB W w'):=λW b g' hp=>by
  obtain rfl:g'=none:=hp.1
  exact ZM b (wd:Int) q W hp
 have hee:(((wyO wy).1,(wyO wy).2):Nat×Nat)=wyO wy:=rfl
 rw [hee] at HSB
 rw [Jg1] at HSB
 unfold JiL
 dsimp only
 generalize wy.said key=r at *
 obtain ⟨x,y,z,hsv,_⟩:=ZP r
 rw [hsv] at HSB
 have HSV:Hid (XL _=_):=hsv
 have HSZ:Hid (18<=w.heap.size):=hsz
 clear hE hok hbits hroot hlen hnl hh0 ht0 ht0l hsv hee hp hs
 generalize (⟨key.toArray⟩:BA)=kb at *
 have HWL:Hid (∀n,n=wy.1.length->n=wy.1.length):=λn h=>h
 generalize wy.nodes (dgW wd)=nds at *
 generalize wyK wy=wk at *
 generalize wy.2.isSome=mm at *
 generalize (wyO wy).1=oa at *
 generalize (wyO wy).2=oo at *
 generalize (⟨t0.toArray⟩:BA)=tb at *
 obtain ⟨W,hW⟩:∃W,W=(w.alloc (.cells #[.int .i64 (wd:Int),.string state,.string kb] 248)).alloc (.cells #[.int .i64 0,.int .u64 0,.int .u8 0,.slice none 0 0] 252):=⟨_,rfl⟩
 have tA:Tch NoB w W:=by rw [hW];exact Tch.allocs _ _ _ _
 have hr0:W.heap[w.heap.size]? =some (.cells #[.int .i64 (wd:Int),.string state,.string kb] 248):=by rw [hW];exact heap_alloc2_old _ _ _
 have hr1:W.heap[w.heap.size+1]? =some (.cells #[.int .i64 0,.int .u64 0,.int .u8 0,.slice none 0 0] 252):=by rw [hW];exact heap_alloc2_new _ _ _
 have hWz:W.heap.size=w.heap.size+2:=by rw [hW];simp
 have HRR:Hid (∀V,Tch NoB W V->V.heap[w.heap.size]? =some (.cells #[.int .i64 (wd:Int),.string state,.string kb] 248)/\V.heap[w.heap.size+1]? =some (.cells #[.int .i64 0,.int .u64 0,.int .u8 0,.slice none 0 0] 252)):=λV hT=>⟨(hT.block _ (Jb hr0) (λh=>h)).trans hr0,(hT.block _ (Jb hr1) (λh=>h)).trans hr1⟩
 have HCC:Hid (∀V,Tch NoB W V->V.cell? ⟨w.heap.size,0,none⟩=some (.int .i64 (wd:Int))/\V.cell? ⟨w.heap.size,1,none⟩=some (.string state)/\V.cell? ⟨w.heap.size,2,none⟩=some (.string kb)):=λV hT=>⟨Ja (HRR.o V hT).1,Ja (HRR.o V hT).1,Ja (HRR.o V hT).1⟩
 have HGNE:Hid (∀V,Tch NoB W V->∀{gn:Nat},gn<V.heap.size->(∀(j:Nat) t,nds[j]? =some t->V.cell? ⟨gn,j,none⟩=some (.string ⟨t.toArray⟩))->gn ≠ w.heap.size+1\/nds=[]):=λV hT gn _ hc=>by
  cases hnd:nds with
  | nil=>exact .inr rfl
  | cons a l=>
   refine .inl λe=>?_
   have h1:=hc 0 a (by rw [hnd];rfl)
   have h2:V.cell? ⟨w.heap.size+1,0,none⟩=some (.int .i64 0):=Ja (HRR.o V hT).2
   rw [e,h2] at h1
   cases h1
 have HA:Hid (Tch _ w W):=tA
 have HWZ:Hid (W.heap.size=w.heap.size+2):=hWz
 have HW:Hid (W=_):=hW
 obtain ⟨a0,a1,a2⟩:=HCC.o W (Tch.refl _ _)
 clear tA hr0 hr1 hWz hW hsz
 go_enter func144,ntmps144
 go_upto_region 1 with fail
 rw [<-HW.o]
 go_wp2_with fail
 refine (Xi _ _ _).mono ?_
 rintro _ w1 ⟨rfl,hp1,ht1⟩
 have HT1:Hid (Tch NoB W w1):=ht1
 have HP1:Hid (Jc w1 W.heap.size none (wd:Int) .nilIface (.rd [] s.data.toList)):=hp1
 clear ht1 hp1 a0 a1 a2
 go_wp2_with fail
 refine (HWAY.o w1 W.heap.size (HA.o.go HT1.o) (by have:=HSZ.o;have:=HWZ.o;omega) HP1.o).mono ?_
 rintro _ w2 ⟨v1,v2,v3,g',rfl,hv2,hp2,ht2⟩
 obtain ⟨W3,hW3⟩:∃W3,W3=w2.alloc (.cells #[.slice v1 v2 v3,.bool mm,.string wk,.int .u64 (oa:Int),.int .u8 (oo:Int)] 258):=⟨_,rfl⟩
 have t3:Tch NoB w2 W3:=by rw [hW3];exact Tch.alloc _ _ _
 have hT3:Tch NoB W W3:=(HT1.o.trans ht2 (λj hj=>.inr (Nat.le_of_eq hj.symm))).go t3
 have hr3:W3.heap[w2.heap.size]? =some (.cells #[.slice v1 v2 v3,.bool mm,.string wk,.int .u64 (oa:Int),.int .u8 (oo:Int)] 258):=by rw [hW3];exact Qf _ _
 have HWC:Hid (∀V,Tch NoB W3 V->V.cell? ⟨w2.heap.size,0,none⟩=some (.slice v1 v2 v3)/\V.cell? ⟨w2.heap.size,1,none⟩=some (.bool mm)/\V.cell? ⟨w2.heap.size,2,none⟩=some (.string wk)/\V.cell? ⟨w2.heap.size,3,none⟩=some (.int .u64 (oa:Int))/\V.cell? ⟨w2.heap.size,4,none⟩=some (.int .u8 (oo:Int))):=λV hT=>by
  have:=(hT.block _ (Jb hr3) (λh=>h)).trans hr3
  exact ⟨Ja this,Ja this,Ja this,Ja this,Ja this⟩
 have HT3:Hid (Tch NoB W W3):=hT3
 have HP3:Hid (Jc W3 W.heap.size g' (wd:Int) .nilIface (.rd q [])):=hp2.tch t3 (λh=>h) (λ_ _ h=>h)
 have HV3:Hid (VAt W3.heap.size W3 (.slice v1 v2 v3) (wy.1.map encS)):=(hv2.tch t3 noE).up t3.size
 have HW3:Hid (W3=_):=hW3
 clear hv2 hp2 ht2 t3 hT3 hr3 hW3 HWAY HP1 HT1
 go_upto_region 3 with fail
 rw [<-HW3.o]
 go_wp2_with fail
 refine (HDN.o W3 W.heap.size g' HP3.o).mono ?_
 rintro _ w4 ⟨rfl,ht4⟩
 have HT4:Hid (Tch NoB W3 w4):=ht4
 obtain ⟨b0,b1,b2⟩:=HCC.o w4 (HT3.o.go ht4)
 obtain ⟨d0,d1,d2,d3,d4⟩:=HWC.o w4 ht4
 clear ht4 HDN HP3
 go_wp2_with fail
 refine (HCB.o w4 v1 v2 v3 (HA.o.go (HT3.o.go HT4.o)) ((HV3.o.tch HT4.o noE).up HT4.o.size)).mono ?_
 rintro _ w5 ⟨ht5,rfl⟩
 have HT5:Hid (Tch NoB W3 w5):=HT4.o.go ht5
 clear ht5 HT4 HCB b0 b1 b2 d0 d1 d2 d3 d4
 obtain ⟨b0,b1,b2⟩:=HCC.o w5 (HT3.o.go HT5.o)
 obtain ⟨d0,d1,d2,d3,d4⟩:=HWC.o w5 HT5.o
 go_wp2_with fail
 refine (HND.o w5 v1 v2 v3 (HA.o.go (HT3.o.go HT5.o)) ((HV3.o.tch HT5.o noE).up HT5.o.size)).mono ?_
 rintro _ w6 ⟨ht6,gn,nn,cap,rfl,hc6,hn6,hnw,hgn,hca⟩
 have HNW:Hid (nn=wy.1.length):=hnw
 have HCA:Hid (∀V,Tch NoB w6 V->gn<V.heap.size/\∀(j:Nat) t,nds[j]? =some t->V.cell? ⟨gn,j,none⟩=some (.string ⟨t.toArray⟩)):=λV hT=>⟨Qk hgn hT.size,λj t ht=>(hT.cell (p:=⟨gn,j,none⟩) hgn (λh=>h)).trans (hca j t ht)⟩
 clear hnw hgn hca
 have HT6:Hid (Tch NoB W3 w6):=HT5.o.go ht6
 clear ht6 HT5 HND b0 b1 b2 d0 d1 d2 d3 d4
 obtain ⟨b0,b1,b2⟩:=HCC.o w6 (HT3.o.go HT6.o)
 have HC6:Hid (∀V,Tch NoB w6 V->V.cell? ⟨gn,0,none⟩=some (.string tb)):=λV hT=>(hT.cell (Qr _ _ hc6) (λh=>h)).trans hc6
 have hi0:(0:Int)<((nn+1:Nat):Int):=by omega
 go_upto_region 12 with fail
 go_cut [53] (λvb wx=>vb=.bool false/\Hid (Tch NoB w6 wx))
 case first=>
  go_region_with (go_at_call 130;refine (HOF.o _ (HA.o.go (HT3.o.go (HT6.o.go (Tch.drewN _ _ 1))))).mono ?_;rintro _ w7 ⟨rfl,ht7⟩;have HT7:Hid (Tch NoB w6 w7):=(Tch.drewN NoB w6 1).go ht7;obtain ⟨e0,e1,e2⟩:=HCC.o _ (HT3.o.go (HT6.o.go HT7.o));clear ht7)
  all_goals
   go_wp2
   go_meet
   exact ⟨rfl,HT7⟩
 case rest=>
 obtain ⟨rfl,HTC⟩:=hcut
 obtain ⟨wA,hwA⟩:∃wA,wA=wc:=⟨wc,rfl⟩
 subst hwA
 have HTA:Hid (Tch NoB W3 wA):=HT6.o.go HTC.o
 have HCA2:Hid (∀V,Tch NoB wA V->gn<V.heap.size/\∀(j:Nat) t,nds[j]? =some t->V.cell? ⟨gn,j,none⟩=some (.string ⟨t.toArray⟩)):=λV hT=>HCA.o V (HTC.o.go hT)
 clear HCA
 clear b0 b1 b2 HOF HC6 hc6 HT6 HTC
 obtain ⟨b0,b1,b2⟩:=HCC.o wA (HT3.o.go HTA.o)
 obtain ⟨d0,d1,d2,d3,d4⟩:=HWC.o wA HTA.o
 go_wp2_with fail
 refine (HSB.o wA v1 v2 v3).mono ?_
 rintro _ w8 ⟨rfl,ht8⟩
 have HT8:Hid (Tch NoB W w8):=(HT3.o.go HTA.o).go ht8
 obtain ⟨hg8,hc8⟩:=HCA2.o w8 ht8
 have HG8:Hid (gn<w8.heap.size):=hg8
 have HC8:Hid (∀(j:Nat) t,nds[j]? =some t->w8.cell? ⟨gn,j,none⟩=some (.string ⟨t.toArray⟩)):=hc8
 have HGA:Hid (gn ≠ w.heap.size+1\/nds=[]):=HGNE.o w8 HT8.o hg8 hc8
 clear hg8 hc8
 obtain ⟨_,hr8⟩:=HRR.o w8 HT8.o
 have r0:w8.cell? ⟨w.heap.size+1,0,none⟩=some (.int .i64 0):=Ja hr8
 have r1:w8.cell? ⟨w.heap.size+1,1,none⟩=some (.int .u64 0):=Ja hr8
 have r2:w8.cell? ⟨w.heap.size+1,2,none⟩=some (.int .u8 0):=Ja hr8
 have r3:w8.cell? ⟨w.heap.size+1,3,none⟩=some (.slice none 0 0):=Ja hr8
 have fR:∀j,w8.frozen? ⟨w.heap.size+1,j,none⟩=false:=λj=>Qg _ _ _ _ _ hr8
 have R8:Hid (w8.heap[w.heap.size+1]? =_):=hr8
 clear ht8 hr8 HSB b0 b1 b2 d0 d1 d2 d3 d4 HTA
 go_wp2
 rw [set4 _ _ _ _ _ _ _ _ _ _ _ R8.o]
 refine QJ (v:=.tuple #[.agg #[.int .i64 x,.int .u64 (y:Int),.int .u8 (z:Int),.slice (some ⟨gn,0,none⟩) (nn+1) cap],.nilIface]) (Ji results144 _ _ (w.heap.size+1) _ _ (0,0) _ rfl (Qi _ _ _ _ _ _ R8.o) underlying252 rfl (by kernel_rfl)) rfl ?_
 refine ⟨(HA.o.go HT8.o).trans (Tch.setRow _ _ _) (λj hj=>.inr (by omega)),?_⟩
 refine ⟨x,y,z,gn,cap,HSV.o,by rw [HNW.o],by rw [setRow_size];exact HG8.o,λj t ht=>?_⟩
 rcases HGA.o with hg | hg
 ·exact ((Tch.setRow w8 (w.heap.size+1) _).cell (p:=⟨gn,j,none⟩) HG8.o hg).trans (HC8.o j t ht)
 ·rw [hg] at ht;cases ht
theorem Jd0 (E:Nat->Addr) (wd:Nat) (hw:wd<=32) (state:BA) (key:Key) (hk:key.length=wd+1) (s:BA) (hs:s.size<=2000000) (wy:Wy) (q:List UInt8) (hp:(PS.rd [] s.data.toList).way wd [] false ⟨#[]⟩ (0,0)=some (wy,.rd q [])) (hbad:∃s∈wy.1,bt key s.1 ≠ bt (JT wy) s.1) (w:World) (hE:Env E w) (hA:Ast w):
  Calls prog 144 #[qV wd state ⟨key.toArray⟩,.string s] w λe w'=>Tch NoB w w'/\∃t u,e=.returned (.tuple #[.agg #[.int .i64 0,.int .u64 0,.int .u8 0,.slice none 0 0],.iface t u]):=by
 have hsz:=hE.size
 have hok:WyOk wd wy:=(ZT hp).1
 have hlen:(s.data.toList).length<=2000000:=by rw [QA];exact hs
 have HWAY:Hid (∀W b,Tch NoB w W->18<=b->Jc W b none (wd:Int) .nilIface (.rd [] s.data.toList)->Calls prog 146 #[.pointer (some ⟨b,0,none⟩),.agg #[.slice none 0 0,.bool false,.string ⟨#[]⟩,.int .u64 0,.int .u8 0]] W λe w'=>∃v1 v2 v3 g',e=.returned (wV v1 v2 v3 wy.2.isSome (wyK wy) (wyO wy).1 (wyO wy).2)/\VAt w'.heap.size w' (.slice v1 v2 v3) (wy.1.map encS)/\Jc w' b g' (wd:Int) .nilIface (.rd q [])/\Tch (λk=>k=b) W w'):=λW b hT hb hpa=>by
  refine (JbJ E b hb none wd hw none 0 0 [] false ⟨#[]⟩ 0 0 (by decide) (.rd [] s.data.toList) W (hE.tch hT noE) hpa (.inl ⟨rfl,rfl⟩) (Jaf.nil _ _) (by simp) (by simp) (by simp [PS.takes]) (by simp only [PS.len,Qv];omega)).mono ?_
  rintro e w' ⟨x1,x2,x3,m,k,a,o,g',rfl,h1,_,h3,h4⟩
  rw [hp] at h1 h4
  obtain ⟨i1,rfl,rfl,rfl,rfl⟩:=(h4 wy _ rfl).is
  exact ⟨x1,x2,x3,g',rfl,i1,h1,h3.mono (λj hj=>.inl (by rcases hj with h | h;exact h;cases h))⟩
 have HCB:Hid (∀W v1 v2 v3,Tch NoB w W->VAt W.heap.size W (.slice v1 v2 v3) (wy.1.map encS)->Calls prog 213 #[qV wd state ⟨key.toArray⟩,wV v1 v2 v3 wy.2.isSome (wyK wy) (wyO wy).1 (wyO wy).2] W λe w'=>Tch NoB W w'/\∃t u,e=.returned (.iface t u)):=λW v1 v2 v3 hT hv=>by
  refine (YG E wd hw state key hk wy hok v1 v2 v3 _ _ _ W (hE.tch hT noE) hv (λ_=>hA.tch hT (λh=>h))).mono ?_
  rintro e w' ⟨ht,⟨h,_⟩ | ⟨_,h⟩⟩
  ·obtain ⟨s,hs,hn⟩:=hbad
   exact absurd (h s hs) hn
  ·exact ⟨ht,h⟩
 have HDN:Hid (∀W b g',Jc W b g' (wd:Int) .nilIface (.rd q [])->Calls prog 88 #[.pointer (some ⟨b,0,none⟩)] W λe w'=>e=.returned .nilIface/\Tch NoB W w'):=λW b g' hp=>by
  obtain rfl:g'=none:=hp.1
  exact ZM b (wd:Int) q W hp
 have HSZ:Hid (18<=w.heap.size):=hsz
 clear hE hok hbad hlen hp hs hA
 generalize (⟨key.toArray⟩:BA)=kb at *
 generalize wyK wy=wk at *
 generalize wy.2.isSome=mm at *
 generalize (wyO wy).1=oa at *
 generalize (wyO wy).2=oo at *
 obtain ⟨W,hW⟩:∃W,W=(w.alloc (.cells #[.int .i64 (wd:Int),.string state,.string kb] 248)).alloc (.cells #[.int .i64 0,.int .u64 0,.int .u8 0,.slice none 0 0] 252):=⟨_,rfl⟩
 have tA:Tch NoB w W:=by rw [hW];exact Tch.allocs _ _ _ _
 have hr0:W.heap[w.heap.size]? =some (.cells #[.int .i64 (wd:Int),.string state,.string kb] 248):=by rw [hW];exact heap_alloc2_old _ _ _
 have hr1:W.heap[w.heap.size+1]? =some (.cells #[.int .i64 0,.int .u64 0,.int .u8 0,.slice none 0 0] 252):=by rw [hW];exact heap_alloc2_new _ _ _
 have hWz:W.heap.size=w.heap.size+2:=by rw [hW];simp
 have HRR:Hid (∀V,Tch NoB W V->V.heap[w.heap.size]? =some (.cells #[.int .i64 (wd:Int),.string state,.string kb] 248)/\V.heap[w.heap.size+1]? =some (.cells #[.int .i64 0,.int .u64 0,.int .u8 0,.slice none 0 0] 252)):=λV hT=>⟨(hT.block _ (Jb hr0) (λh=>h)).trans hr0,(hT.block _ (Jb hr1) (λh=>h)).trans hr1⟩
 have HCC:Hid (∀V,Tch NoB W V->V.cell? ⟨w.heap.size,0,none⟩=some (.int .i64 (wd:Int))/\V.cell? ⟨w.heap.size,1,none⟩=some (.string state)/\V.cell? ⟨w.heap.size,2,none⟩=some (.string kb)):=λV hT=>⟨Ja (HRR.o V hT).1,Ja (HRR.o V hT).1,Ja (HRR.o V hT).1⟩
 have HA:Hid (Tch _ w W):=tA
 have HWZ:Hid (W.heap.size=w.heap.size+2):=hWz
 have HW:Hid (W=_):=hW
 obtain ⟨a0,a1,a2⟩:=HCC.o W (Tch.refl _ _)
 clear tA hr0 hr1 hWz hW hsz
 go_enter func144,ntmps144
 go_upto_region 1 with fail
 rw [<-HW.o]
 go_wp2_with fail
 refine (Xi _ _ _).mono ?_
 rintro _ w1 ⟨rfl,hp1,ht1⟩
 have HT1:Hid (Tch NoB W w1):=ht1
 have HP1:Hid (Jc w1 W.heap.size none (wd:Int) .nilIface (.rd [] s.data.toList)):=hp1
 clear ht1 hp1 a0 a1 a2
 go_wp2_with fail
 refine (HWAY.o w1 W.heap.size (HA.o.go HT1.o) (by have:=HSZ.o;have:=HWZ.o;omega) HP1.o).mono ?_
 rintro _ w2 ⟨v1,v2,v3,g',rfl,hv2,hp2,ht2⟩
 obtain ⟨W3,hW3⟩:∃W3,W3=w2.alloc (.cells #[.slice v1 v2 v3,.bool mm,.string wk,.int .u64 (oa:Int),.int .u8 (oo:Int)] 258):=⟨_,rfl⟩
 have t3:Tch NoB w2 W3:=by rw [hW3];exact Tch.alloc _ _ _
 have hT3:Tch NoB W W3:=(HT1.o.trans ht2 (λj hj=>.inr (Nat.le_of_eq hj.symm))).go t3
 have hr3:W3.heap[w2.heap.size]? =some (.cells #[.slice v1 v2 v3,.bool mm,.string wk,.int .u64 (oa:Int),.int .u8 (oo:Int)] 258):=by rw [hW3];exact Qf _ _
 have HWC:Hid (∀V,Tch NoB W3 V->V.cell? ⟨w2.heap.size,0,none⟩=some (.slice v1 v2 v3)/\V.cell? ⟨w2.heap.size,1,none⟩=some (.bool mm)/\V.cell? ⟨w2.heap.size,2,none⟩=some (.string wk)/\V.cell? ⟨w2.heap.size,3,none⟩=some (.int .u64 (oa:Int))/\V.cell? ⟨w2.heap.size,4,none⟩=some (.int .u8 (oo:Int))):=λV hT=>by
  have:=(hT.block _ (Jb hr3) (λh=>h)).trans hr3
  exact ⟨Ja this,Ja this,Ja this,Ja this,Ja this⟩
 have HT3:Hid (Tch NoB W W3):=hT3
 have HP3:Hid (Jc W3 W.heap.size g' (wd:Int) .nilIface (.rd q [])):=hp2.tch t3 (λh=>h) (λ_ _ h=>h)
 have HV3:Hid (VAt W3.heap.size W3 (.slice v1 v2 v3) (wy.1.map encS)):=(hv2.tch t3 noE).up t3.size
 have HW3:Hid (W3=_):=hW3
 clear hv2 hp2 ht2 t3 hT3 hr3 hW3 HWAY HP1 HT1
 go_upto_region 3 with fail
 rw [<-HW3.o]
 go_wp2_with fail
 refine (HDN.o W3 W.heap.size g' HP3.o).mono ?_
 rintro _ w4 ⟨rfl,ht4⟩
 have HT4:Hid (Tch NoB W3 w4):=ht4
 obtain ⟨b0,b1,b2⟩:=HCC.o w4 (HT3.o.go ht4)
 obtain ⟨d0,d1,d2,d3,d4⟩:=HWC.o w4 ht4
 clear ht4 HDN HP3
 go_wp2_with fail
 refine (HCB.o w4 v1 v2 v3 (HA.o.go (HT3.o.go HT4.o)) ((HV3.o.tch HT4.o noE).up HT4.o.size)).mono ?_
 rintro _ w5 ⟨ht5,t,u,rfl⟩
 have HTX:Hid (Tch NoB W w5):=HT3.o.go (HT4.o.go ht5)
 obtain ⟨_,hr8⟩:=HRR.o w5 HTX.o
 have r0:w5.cell? ⟨w.heap.size+1,0,none⟩=some (.int .i64 0):=Ja hr8
 have r1:w5.cell? ⟨w.heap.size+1,1,none⟩=some (.int .u64 0):=Ja hr8
 have r2:w5.cell? ⟨w.heap.size+1,2,none⟩=some (.int .u8 0):=Ja hr8
 have r3:w5.cell? ⟨w.heap.size+1,3,none⟩=some (.slice none 0 0):=Ja hr8
 have fR:∀j,w5.frozen? ⟨w.heap.size+1,j,none⟩=false:=λj=>Qg _ _ _ _ _ hr8
 have R8:Hid (w5.heap[w.heap.size+1]? =_):=hr8
 clear ht5 HT4 HCB b0 b1 b2 d0 d1 d2 d3 d4 hr8
 go_wp2
 rw [set4 _ _ _ _ _ _ _ _ _ _ _ R8.o]
 refine QJ (v:=.tuple #[.agg #[.int .i64 0,.int .u64 0,.int .u8 0,.slice none 0 0],_]) (Ji results144 _ _ (w.heap.size+1) _ _ (0,0) _ rfl (Qi _ _ _ _ _ _ R8.o) underlying252 rfl (by kernel_rfl)) rfl ?_
 exact ⟨(HA.o.go HTX.o).trans (Tch.setRow _ _ _) (λj hj=>.inr (by omega)),_,_,rfl⟩

theorem JfU (E:Nat->Addr) (wd:Nat) (hw1:1<=wd) (hw:wd<=32) (state:BA) (key:Key) (hk:key.length=wd+1) (s:BA) (hs:s.size<=2000000) (wy:Wy) (q:List UInt8) (hp:(PS.rd [] s.data.toList).way wd [] false ⟨#[]⟩ (0,0)=some (wy,.rd q [])) (hbits:∀s∈wy.1,bt key s.1=bt (JT wy) s.1) (hroot:dgW wd ((wy.nodes (dgW wd)).headD []) ≠ state) (w:World) (hE:Env E w):
  Calls prog 144 #[qV wd state ⟨key.toArray⟩,.string s] w λe w'=>Tch NoB w w'/\∃t u,e=.returned (.tuple #[.agg #[.int .i64 0,.int .u64 0,.int .u8 0,.slice none 0 0],.iface t u]):=by
 have hsz:=hE.size
 have hok:WyOk wd wy:=(ZT hp).1
 have hlen:(s.data.toList).length<=2000000:=by rw [QA];exact hs
 have HWAY:Hid (∀W b,Tch NoB w W->18<=b->Jc W b none (wd:Int) .nilIface (.rd [] s.data.toList)->Calls prog 146 #[.pointer (some ⟨b,0,none⟩),.agg #[.slice none 0 0,.bool false,.string ⟨#[]⟩,.int .u64 0,.int .u8 0]] W λe w'=>∃v1 v2 v3 g',e=.returned (wV v1 v2 v3 wy.2.isSome (wyK wy) (wyO wy).1 (wyO wy).2)/\VAt w'.heap.size w' (.slice v1 v2 v3) (wy.1.map encS)/\Jc w' b g' (wd:Int) .nilIface (.rd q [])/\Tch (λk=>k=b) W w'):=λW b hT hb hpa=>by
  refine (JbJ E b hb none wd hw none 0 0 [] false ⟨#[]⟩ 0 0 (by decide) (.rd [] s.data.toList) W (hE.tch hT noE) hpa (.inl ⟨rfl,rfl⟩) (Jaf.nil _ _) (by simp) (by simp) (by simp [PS.takes]) (by simp only [PS.len,Qv];omega)).mono ?_
  rintro e w' ⟨x1,x2,x3,m,k,a,o,g',rfl,h1,_,h3,h4⟩
  rw [hp] at h1 h4
  obtain ⟨i1,rfl,rfl,rfl,rfl⟩:=(h4 wy _ rfl).is
  exact ⟨x1,x2,x3,g',rfl,i1,h1,h3.mono (λj hj=>.inl (by rcases hj with h | h;exact h;cases h))⟩
 have HCB:Hid (∀W v1 v2 v3,Tch NoB w W->VAt W.heap.size W (.slice v1 v2 v3) (wy.1.map encS)->Calls prog 213 #[qV wd state ⟨key.toArray⟩,wV v1 v2 v3 wy.2.isSome (wyK wy) (wyO wy).1 (wyO wy).2] W λe w'=>Tch NoB W w'/\e=.returned .nilIface):=λW v1 v2 v3 hT hv=>by
  refine (YG E wd hw state key hk wy hok v1 v2 v3 _ _ _ W (hE.tch hT noE) hv (λ⟨s,hs,h⟩=>absurd (hbits s hs) h)).mono ?_
  rintro e w' ⟨ht,⟨_,rfl⟩ | ⟨⟨s,hs,h⟩,_⟩⟩
  ·exact ⟨ht,rfl⟩
  ·exact absurd (hbits s hs) h
 have hnl:(wy.nodes (dgW wd)).length=wy.1.length+1:=by simp [Wy.nodes,Xk]
 obtain ⟨t0,hh0,ht0⟩:∃t0,(wy.nodes (dgW wd))[0]? =some t0/\(wy.nodes (dgW wd)).headD []=t0:=by
  cases hn:wy.nodes (dgW wd) with
  | nil=>rw [hn] at hnl;simp at hnl
  | cons a l=>exact ⟨a,rfl,rfl⟩
 have ht0l:t0.length<=1000:=by
  have h1:=YA (dgW wd) (JT wy) (JS wy.2) wy.1 0 (Nat.zero_le _)
  have h2:(wy.nodes (dgW wd))[0]? =some (YN (dgW wd) (JT wy) (JS wy.2) wy.1 0):=h1
  rw [hh0] at h2
  cases h2
  exact ZH wd hw _ _ (YK hw hok) _ hok.steps 0 (Nat.zero_le _)
 rw [ht0] at hroot
 have HND:Hid (∀W v1 v2 v3,Tch NoB w W->VAt W.heap.size W (.slice v1 v2 v3) (wy.1.map encS)->Calls prog 214 #[qV wd state ⟨key.toArray⟩,wV v1 v2 v3 wy.2.isSome (wyK wy) (wyO wy).1 (wyO wy).2] W λe w'=>Tch NoB W w'/\∃(g n cap:Nat),e=.returned (.tuple #[.slice (some ⟨g,0,none⟩) (n+1) cap,.nilIface])/\w'.cell? ⟨g,0,none⟩=some (.string ⟨t0.toArray⟩)/\n<=1000/\n=wy.1.length/\g<w'.heap.size/\∀(j:Nat) t,(wy.nodes (dgW wd))[j]? =some t->w'.cell? ⟨g,j,none⟩=some (.string ⟨t.toArray⟩)):=λW v1 v2 v3 hT hv=>by
  refine (callsIn_wide.1 (JcA E wd hw1 hw state _ v1 v2 v3 wy hok W (hE.tch hT noE) hv)).mono ?_
  rintro e w' ⟨g,cap,rfl,_,hgl,hc,hB⟩
  refine ⟨(Tch.of_below hB).mono (λ_ hj=>.inr hj),g,wy.1.length,cap,by rw [hnl],?_,by have:=hok.len;omega,rfl,hgl,λj t ht=>?_⟩
  ·have h0:=hc 0 (by omega)
   rw [h0]
   have:(wy.nodes (dgW wd))[0]'(by omega)=t0:=by
    have:=Qd (l:=wy.nodes (dgW wd)) (i:=0) (by omega)
    rw [hh0] at this
    exact (Option.some.inj this).symm
   rw [this]
  ·obtain ⟨hj,rfl⟩:=Qo.1 ht
   exact hc j hj
 have HOF:Hid (∀W,Tch NoB w W->Calls prog 130 #[.int .i64 (wd:Int),.string ⟨t0.toArray⟩] W λe w'=>e=.returned (.string (dgW wd t0))/\Tch NoB W w'):=λW hT=>by
  have:=Zz E wd ⟨t0.toArray⟩ W (hE.tch hT noE) hw1 hw (by rw [Jz];omega)
  rw [Ja1] at this
  exact this
 have HRT:Hid (∀W,Tch NoB w W->W.cell? ⟨4,0,none⟩=some (eV E 4)):=λW hT=>(hE.tch hT noE).root
 have HDN:Hid (∀W b g',Jc W b g' (wd:Int) .nilIface (.rd q [])->Calls prog 88 #[.pointer (some ⟨b,0,none⟩)] W λe w'=>e=.returned .nilIface/\Tch NoB W w'):=λW b g' hp=>by
  obtain rfl:g'=none:=hp.1
  exact ZM b (wd:Int) q W hp
 have hrl:¬(dgW wd t0).toList=state.toList:=λh=>hroot (ZV h)
 generalize dgW wd t0=dg0 at *
 have HSZ:Hid (18<=w.heap.size):=hsz
 clear hE hok hbits hroot hlen hnl hh0 ht0 ht0l hp hs
 generalize (⟨key.toArray⟩:BA)=kb at *
 have HWL:Hid (∀n,n=wy.1.length->n=wy.1.length):=λn h=>h
 generalize wy.nodes (dgW wd)=nds at *
 generalize wyK wy=wk at *
 generalize wy.2.isSome=mm at *
 generalize (wyO wy).1=oa at *
 generalize (wyO wy).2=oo at *
 generalize (⟨t0.toArray⟩:BA)=tb at *
 obtain ⟨W,hW⟩:∃W,W=(w.alloc (.cells #[.int .i64 (wd:Int),.string state,.string kb] 248)).alloc (.cells #[.int .i64 0,.int .u64 0,.int .u8 0,.slice none 0 0] 252):=⟨_,rfl⟩
 have tA:Tch NoB w W:=by rw [hW];exact Tch.allocs _ _ _ _
 have hr0:W.heap[w.heap.size]? =some (.cells #[.int .i64 (wd:Int),.string state,.string kb] 248):=by rw [hW];exact heap_alloc2_old _ _ _
 have hr1:W.heap[w.heap.size+1]? =some (.cells #[.int .i64 0,.int .u64 0,.int .u8 0,.slice none 0 0] 252):=by rw [hW];exact heap_alloc2_new _ _ _
 have hWz:W.heap.size=w.heap.size+2:=by rw [hW];simp
 have HRR:Hid (∀V,Tch NoB W V->V.heap[w.heap.size]? =some (.cells #[.int .i64 (wd:Int),.string state,.string kb] 248)/\V.heap[w.heap.size+1]? =some (.cells #[.int .i64 0,.int .u64 0,.int .u8 0,.slice none 0 0] 252)):=λV hT=>⟨(hT.block _ (Jb hr0) (λh=>h)).trans hr0,(hT.block _ (Jb hr1) (λh=>h)).trans hr1⟩
 have HCC:Hid (∀V,Tch NoB W V->V.cell? ⟨w.heap.size,0,none⟩=some (.int .i64 (wd:Int))/\V.cell? ⟨w.heap.size,1,none⟩=some (.string state)/\V.cell? ⟨w.heap.size,2,none⟩=some (.string kb)):=λV hT=>⟨Ja (HRR.o V hT).1,Ja (HRR.o V hT).1,Ja (HRR.o V hT).1⟩
 have HGNE:Hid (∀V,Tch NoB W V->∀{gn:Nat},gn<V.heap.size->(∀(j:Nat) t,nds[j]? =some t->V.cell? ⟨gn,j,none⟩=some (.string ⟨t.toArray⟩))->gn ≠ w.heap.size+1\/nds=[]):=λV hT gn _ hc=>by
  cases hnd:nds with
  | nil=>exact .inr rfl
  | cons a l=>
   refine .inl λe=>?_
   have h1:=hc 0 a (by rw [hnd];rfl)
   have h2:V.cell? ⟨w.heap.size+1,0,none⟩=some (.int .i64 0):=Ja (HRR.o V hT).2
   rw [e,h2] at h1
   cases h1
 have HA:Hid (Tch _ w W):=tA
 have HWZ:Hid (W.heap.size=w.heap.size+2):=hWz
 have HW:Hid (W=_):=hW
 obtain ⟨a0,a1,a2⟩:=HCC.o W (Tch.refl _ _)
 clear tA hr0 hr1 hWz hW hsz
 go_enter func144,ntmps144
 go_upto_region 1 with fail
 rw [<-HW.o]
 go_wp2_with fail
 refine (Xi _ _ _).mono ?_
 rintro _ w1 ⟨rfl,hp1,ht1⟩
 have HT1:Hid (Tch NoB W w1):=ht1
 have HP1:Hid (Jc w1 W.heap.size none (wd:Int) .nilIface (.rd [] s.data.toList)):=hp1
 clear ht1 hp1 a0 a1 a2
 go_wp2_with fail
 refine (HWAY.o w1 W.heap.size (HA.o.go HT1.o) (by have:=HSZ.o;have:=HWZ.o;omega) HP1.o).mono ?_
 rintro _ w2 ⟨v1,v2,v3,g',rfl,hv2,hp2,ht2⟩
 obtain ⟨W3,hW3⟩:∃W3,W3=w2.alloc (.cells #[.slice v1 v2 v3,.bool mm,.string wk,.int .u64 (oa:Int),.int .u8 (oo:Int)] 258):=⟨_,rfl⟩
 have t3:Tch NoB w2 W3:=by rw [hW3];exact Tch.alloc _ _ _
 have hT3:Tch NoB W W3:=(HT1.o.trans ht2 (λj hj=>.inr (Nat.le_of_eq hj.symm))).go t3
 have hr3:W3.heap[w2.heap.size]? =some (.cells #[.slice v1 v2 v3,.bool mm,.string wk,.int .u64 (oa:Int),.int .u8 (oo:Int)] 258):=by rw [hW3];exact Qf _ _
 have HWC:Hid (∀V,Tch NoB W3 V->V.cell? ⟨w2.heap.size,0,none⟩=some (.slice v1 v2 v3)/\V.cell? ⟨w2.heap.size,1,none⟩=some (.bool mm)/\V.cell? ⟨w2.heap.size,2,none⟩=some (.string wk)/\V.cell? ⟨w2.heap.size,3,none⟩=some (.int .u64 (oa:Int))/\V.cell? ⟨w2.heap.size,4,none⟩=some (.int .u8 (oo:Int))):=λV hT=>by
  have:=(hT.block _ (Jb hr3) (λh=>h)).trans hr3
  exact ⟨Ja this,Ja this,Ja this,Ja this,Ja this⟩
 have HT3:Hid (Tch NoB W W3):=hT3
 have HP3:Hid (Jc W3 W.heap.size g' (wd:Int) .nilIface (.rd q [])):=hp2.tch t3 (λh=>h) (λ_ _ h=>h)
 have HV3:Hid (VAt W3.heap.size W3 (.slice v1 v2 v3) (wy.1.map encS)):=(hv2.tch t3 noE).up t3.size
 have HW3:Hid (W3=_):=hW3
 clear hv2 hp2 ht2 t3 hT3 hr3 hW3 HWAY HP1 HT1
 go_upto_region 3 with fail
 rw [<-HW3.o]
 go_wp2_with fail
 refine (HDN.o W3 W.heap.size g' HP3.o).mono ?_
 rintro _ w4 ⟨rfl,ht4⟩
 have HT4:Hid (Tch NoB W3 w4):=ht4
 obtain ⟨b0,b1,b2⟩:=HCC.o w4 (HT3.o.go ht4)
 obtain ⟨d0,d1,d2,d3,d4⟩:=HWC.o w4 ht4
 clear ht4 HDN HP3
 go_wp2_with fail
 refine (HCB.o w4 v1 v2 v3 (HA.o.go (HT3.o.go HT4.o)) ((HV3.o.tch HT4.o noE).up HT4.o.size)).mono ?_
 rintro _ w5 ⟨ht5,rfl⟩
 have HT5:Hid (Tch NoB W3 w5):=HT4.o.go ht5
 clear ht5 HT4 HCB b0 b1 b2 d0 d1 d2 d3 d4
 obtain ⟨b0,b1,b2⟩:=HCC.o w5 (HT3.o.go HT5.o)
 obtain ⟨d0,d1,d2,d3,d4⟩:=HWC.o w5 HT5.o
 go_wp2_with fail
 refine (HND.o w5 v1 v2 v3 (HA.o.go (HT3.o.go HT5.o)) ((HV3.o.tch HT5.o noE).up HT5.o.size)).mono ?_
 rintro _ w6 ⟨ht6,gn,nn,cap,rfl,hc6,hn6,hnw,hgn,hca⟩
 have HNW:Hid (nn=wy.1.length):=hnw
 have HCA:Hid (∀V,Tch NoB w6 V->gn<V.heap.size/\∀(j:Nat) t,nds[j]? =some t->V.cell? ⟨gn,j,none⟩=some (.string ⟨t.toArray⟩)):=λV hT=>⟨Qk hgn hT.size,λj t ht=>(hT.cell (p:=⟨gn,j,none⟩) hgn (λh=>h)).trans (hca j t ht)⟩
 clear hnw hgn hca
 have HT6:Hid (Tch NoB W3 w6):=HT5.o.go ht6
 clear ht6 HT5 HND b0 b1 b2 d0 d1 d2 d3 d4
 obtain ⟨b0,b1,b2⟩:=HCC.o w6 (HT3.o.go HT6.o)
 have HC6:Hid (∀V,Tch NoB w6 V->V.cell? ⟨gn,0,none⟩=some (.string tb)):=λV hT=>(hT.cell (Qr _ _ hc6) (λh=>h)).trans hc6
 have hi0:(0:Int)<((nn+1:Nat):Int):=by omega
 go_upto_region 12 with fail
 go_cut [53] (λvb wx=>vb=.bool true/\Hid (Tch NoB w6 wx))
 case first=>
  go_region_with (go_at_call 130;refine (HOF.o _ (HA.o.go (HT3.o.go (HT6.o.go (Tch.drewN _ _ 1))))).mono ?_;rintro _ w7 ⟨rfl,ht7⟩;have HT7:Hid (Tch NoB w6 w7):=(Tch.drewN NoB w6 1).go ht7;obtain ⟨e0,e1,e2⟩:=HCC.o _ (HT3.o.go (HT6.o.go HT7.o));clear ht7)
  all_goals
   go_wp2
   go_meet
   exact ⟨by simpa using hrl,HT7⟩
 case rest=>
 obtain ⟨rfl,HTC⟩:=hcut
 obtain ⟨wA,hwA⟩:∃wA,wA=wc:=⟨wc,rfl⟩
 subst hwA
 have HTA:Hid (Tch NoB W wA):=HT3.o.go (HT6.o.go HTC.o)
 have hrt:=HRT.o wA (HA.o.go HTA.o)
 unfold eV at hrt
 clear b0 b1 b2 HOF HC6 hc6 HT6 HTC HCA
 go_wp2_with fail
 refine (Xr _ _ _ _).mono ?_
 rintro _ w8 ⟨rfl,hw8⟩
 have t8:Tch NoB wA w8:=by rw [hw8];exact Tch.alloc _ _ _
 have HTX:Hid (Tch NoB W w8):=HTA.o.go t8
 obtain ⟨_,hr8⟩:=HRR.o w8 HTX.o
 have r0:w8.cell? ⟨w.heap.size+1,0,none⟩=some (.int .i64 0):=Ja hr8
 have r1:w8.cell? ⟨w.heap.size+1,1,none⟩=some (.int .u64 0):=Ja hr8
 have r2:w8.cell? ⟨w.heap.size+1,2,none⟩=some (.int .u8 0):=Ja hr8
 have r3:w8.cell? ⟨w.heap.size+1,3,none⟩=some (.slice none 0 0):=Ja hr8
 have fR:∀j,w8.frozen? ⟨w.heap.size+1,j,none⟩=false:=λj=>Qg _ _ _ _ _ hr8
 have R8:Hid (w8.heap[w.heap.size+1]? =_):=hr8
 clear t8 hw8 hr8 hrt
 go_wp2
 rw [set4 _ _ _ _ _ _ _ _ _ _ _ R8.o]
 refine QJ (v:=.tuple #[.agg #[.int .i64 0,.int .u64 0,.int .u8 0,.slice none 0 0],_]) (Ji results144 _ _ (w.heap.size+1) _ _ (0,0) _ rfl (Qi _ _ _ _ _ _ R8.o) underlying252 rfl (by kernel_rfl)) rfl ?_
 exact ⟨(HA.o.go HTX.o).trans (Tch.setRow _ _ _) (λj hj=>.inr (by omega)),_,_,rfl⟩

theorem Jbx (E:Nat->Addr) (wd:Nat) (hw1:1<=wd) (hw:wd<=32) (state:BA) (key:Key) (hk:key.length=wd+1) (s:BA) (hs:s.size<=2000000) (w:World) (hE:Env E w) (hA:Ast w):
  Calls prog 144 #[qV wd state ⟨key.toArray⟩,.string s] w λe w'=>Tch NoB w w'/\JiL wd key (chk wd key state s.data.toList) e w':=by
 unfold chk
 cases hR:(PS.rd [] s.data.toList).way wd [] false ⟨#[]⟩ (0,0) with
 | none=>exact Jdp E wd hw state ⟨key.toArray⟩ s hs (λwy q h=>by rw [hR] at h;cases h) w hE
 | some x=>
  obtain ⟨wy,p⟩:=x
  obtain ⟨hok,q,r,rfl⟩:=ZT hR
  cases r with
  | cons a r=>exact Jdp E wd hw state ⟨key.toArray⟩ s hs (λwy q h=>by rw [hR] at h;cases h) w hE
  | nil=>
   dsimp only
   by_cases hb:∀x∈wy.1,bt key x.1=bt (JT wy) x.1
   ·by_cases hr:dgW wd ((wy.nodes (dgW wd)).headD [])=state
    ·rw [if_pos ⟨hb,hr⟩]
     exact JfT E wd hw1 hw state key hk s hs wy q hR hb hr w hE
    ·rw [if_neg (λh=>hr h.2)]
     exact JfU E wd hw1 hw state key hk s hs wy q hR hb hr w hE
   ·rw [if_neg (λh=>hb h.1)]
    refine Jd0 E wd hw state key hk s hs wy q hR ?_ w hE hA
    refine Classical.byContradiction λh=>hb λx hx=>?_
    exact Classical.byContradiction λh2=>h ⟨x,hx,h2⟩
theorem Jb1 (E:Nat->Addr) (wd:Nat) (hw1:1<=wd) (hw:wd<=32) (h:HdL) (hh:HdOk wd h) (c:BA×Int) (hc:Jo wd c) (pf:BA) (P:Int->Nat->Nat->Value->Prop) (w:World) (hE:Env E w)
  (hck:∀W,Tch NoB w W->Calls prog 144 #[qV wd h.2.2.2 ⟨(Jd c).toArray⟩,.string pf] W λe w'=>Tch NoB W w'/\∃(x:Int) (y z:Nat) (ga:Option Addr) (gl gc:Nat) (ev:Value),P x y z ev/\e=.returned (.tuple #[.agg #[.int .i64 x,.int .u64 (y:Int),.int .u8 (z:Int),.slice ga gl gc],ev])):
  Calls prog 91 #[.int .i64 (wd:Int),.string ⟨(hdrB h).toArray⟩,.agg #[.string c.1,.int .i64 c.2],.string pf] w λe w'=>Tch NoB w w'/\∃(x:Int) (y z:Nat) (ev:Value),P x y z ev/\e=.returned (.tuple #[.agg #[.int .i64 x,.int .u64 (y:Int),.int .u8 (z:Int)],ev]):=by
 have HASK:Hid (∀W,Tch NoB w W->Calls prog 143 _ W _):=λW hT=>Jcn E wd hw1 hw h hh c hc W (hE.tch hT noE)
 have HCK:Hid (∀W,Tch NoB w W->_):=hck
 clear hE hh hc hck
 generalize h.2.2.2=st at *
 generalize (⟨(hdrB h).toArray⟩:BA)=hb at *
 obtain ⟨s,N⟩:=c
 dsimp only at HASK HCK ⊢
 generalize (⟨(Jd (s,N)).toArray⟩:BA)=kb at *
 obtain ⟨W,hW⟩:∃W,W=(w.alloc (.cells #[.string s,.int .i64 N] 49)).alloc (.cells #[.int .i64 0,.int .u64 0,.int .u8 0] 179):=⟨_,rfl⟩
 have tA:Tch NoB w W:=by rw [hW];exact Tch.allocs _ _ _ _
 have hr0:W.heap[w.heap.size]? =some (.cells #[.string s,.int .i64 N] 49):=by rw [hW];exact heap_alloc2_old _ _ _
 have hr1:W.heap[w.heap.size+1]? =some (.cells #[.int .i64 0,.int .u64 0,.int .u8 0] 179):=by rw [hW];exact heap_alloc2_new _ _ _
 have a0:W.cell? ⟨w.heap.size,0,none⟩=some (.string s):=Ja hr0
 have a1:W.cell? ⟨w.heap.size,1,none⟩=some (.int .i64 N):=Ja hr0
 have HRR:Hid (∀V,Tch NoB W V->V.heap[w.heap.size+1]? =some (.cells #[.int .i64 0,.int .u64 0,.int .u8 0] 179)):=λV hT=>(hT.block _ (Jb hr1) (λh=>h)).trans hr1
 have HA:Hid (Tch _ w W):=tA
 have HW:Hid (W=_):=hW
 clear tA hr0 hr1 hW
 go_enter func91,ntmps91
 go_upto_region 1 with fail
 rw [<-HW.o]
 go_wp2_with fail
 refine (HASK.o W HA.o).mono ?_
 rintro _ w1 ⟨rfl,ht1⟩
 obtain ⟨W2,hW2⟩:∃W2,W2=w1.alloc (.cells #[.int .i64 (wd:Int),.string st,.string kb] 248):=⟨_,rfl⟩
 have t2:Tch NoB w1 W2:=by rw [hW2];exact Tch.alloc _ _ _
 have hr2:W2.heap[w1.heap.size]? =some (.cells #[.int .i64 (wd:Int),.string st,.string kb] 248):=by rw [hW2];exact Qf _ _
 have b0:W2.cell? ⟨w1.heap.size,0,none⟩=some (.int .i64 (wd:Int)):=Ja hr2
 have b1:W2.cell? ⟨w1.heap.size,1,none⟩=some (.string st):=Ja hr2
 have b2:W2.cell? ⟨w1.heap.size,2,none⟩=some (.string kb):=Ja hr2
 have HT2:Hid (Tch NoB W W2):=ht1.go t2
 have HW2:Hid (W2=_):=hW2
 clear ht1 t2 hr2 hW2 a0 a1 HASK
 go_upto_region 2 with fail
 rw [<-HW2.o]
 go_wp2_with fail
 refine (HCK.o W2 (HA.o.go HT2.o)).mono ?_
 rintro _ w3 ⟨ht3,x,y,z,ga,gl,gc,ev,hsv,rfl⟩
 obtain ⟨W4,hW4⟩:∃W4,W4=w3.alloc (.cells #[.int .i64 x,.int .u64 (y:Int),.int .u8 (z:Int),.slice ga gl gc] 252):=⟨_,rfl⟩
 have t4:Tch NoB w3 W4:=by rw [hW4];exact Tch.alloc _ _ _
 have hr4:W4.heap[w3.heap.size]? =some (.cells #[.int .i64 x,.int .u64 (y:Int),.int .u8 (z:Int),.slice ga gl gc] 252):=by rw [hW4];exact Qf _ _
 have HT4:Hid (Tch NoB W W4):=(HT2.o.go ht3).go t4
 have d0:W4.cell? ⟨w3.heap.size,0,none⟩=some (.int .i64 x):=Ja hr4
 have d1:W4.cell? ⟨w3.heap.size,1,none⟩=some (.int .u64 (y:Int)):=Ja hr4
 have d2:W4.cell? ⟨w3.heap.size,2,none⟩=some (.int .u8 (z:Int)):=Ja hr4
 have hs4:=HRR.o W4 HT4.o
 have e0:W4.cell? ⟨w.heap.size+1,0,none⟩=some (.int .i64 0):=Ja hs4
 have e1:W4.cell? ⟨w.heap.size+1,1,none⟩=some (.int .u64 0):=Ja hs4
 have e2:W4.cell? ⟨w.heap.size+1,2,none⟩=some (.int .u8 0):=Ja hs4
 have fR:∀j,W4.frozen? ⟨w.heap.size+1,j,none⟩=false:=λj=>Qg _ _ _ _ _ hs4
 have R4:Hid (W4.heap[w.heap.size+1]? =_):=hs4
 have HSV:Hid (P x y z ev):=hsv
 have HW4:Hid (W4=_):=hW4
 clear ht3 hsv hW4 hr4 t4 hs4 HCK b0 b1 b2
 go_upto_region 5 with fail
 rw [<-HW4.o]
 go_wp2
 rw [set3 _ _ _ _ _ _ _ _ _ R4.o]
 refine QJ (v:=.tuple #[.agg #[.int .i64 x,.int .u64 (y:Int),.int .u8 (z:Int)],ev]) (Ji results91 _ _ (w.heap.size+1) _ _ (0,0) _ rfl (Qi _ _ _ _ _ _ R4.o) underlying179 rfl (by kernel_rfl)) rfl ?_
 exact ⟨(HA.o.go HT4.o).trans (Tch.setRow _ _ _) (λj hj=>.inr (by omega)),x,y,z,ev,HSV.o,rfl⟩
theorem JfY {w:World} (wd:Nat) (hb pf:BA) (c:BA×Int) (h:∀W,Tch NoB w W->Calls prog 91 #[.int .i64 (wd:Int),.string hb,.agg #[.string c.1,.int .i64 c.2],.string pf] W λe w'=>Tch NoB W w'/\∃(x:Int) (y z:Nat) (t:TypeId) (u:Value),e=.returned (.tuple #[.agg #[.int .i64 x,.int .u64 (y:Int),.int .u8 (z:Int)],.iface t u])):
  Calls prog 47 #[.int .i64 (wd:Int),.string hb,.agg #[.string c.1,.int .i64 c.2],.string pf] w λe w'=>Tch NoB w w'/\e=.returned (.tuple #[.int .i64 0,.agg #[.int .u64 0,.int .u8 0]]):=by
 obtain ⟨s,N⟩:=c
 have H:Hid (∀W,Tch NoB w W->Calls _ _ _ W _):=h
 clear h
 dsimp only at H ⊢
 obtain ⟨W,hW⟩:∃W,W=(w.alloc (.cells #[.string s,.int .i64 N] 49)).alloc (.cells #[.int .u64 0,.int .u8 0] 80):=⟨_,rfl⟩
 have tA:Tch NoB w W:=by rw [hW];exact Tch.allocs _ _ _ _
 have hr0:W.heap[w.heap.size]? =some (.cells #[.string s,.int .i64 N] 49):=by rw [hW];exact heap_alloc2_old _ _ _
 have hr1:W.heap[w.heap.size+1]? =some (.cells #[.int .u64 0,.int .u8 0] 80):=by rw [hW];exact heap_alloc2_new _ _ _
 have a0:W.cell? ⟨w.heap.size,0,none⟩=some (.string s):=Ja hr0
 have a1:W.cell? ⟨w.heap.size,1,none⟩=some (.int .i64 N):=Ja hr0
 have HRR:Hid (∀V,Tch NoB W V->V.heap[w.heap.size+1]? =some (.cells #[.int .u64 0,.int .u8 0] 80)):=λV hT=>(hT.block _ (Jb hr1) (λh=>h)).trans hr1
 have HA:Hid (Tch _ w W):=tA
 have HW:Hid (W=_):=hW
 clear tA hr0 hr1 hW
 go_enter func47,ntmps47
 go_upto_region 1 with fail
 rw [<-HW.o]
 go_wp2_with fail
 refine (H.out W HA.o).mono ?_
 rintro _ w1 ⟨ht1,x,y,z,t,u,rfl⟩
 obtain ⟨W2,hW2⟩:∃W2,W2=w1.alloc (.cells #[.int .i64 x,.int .u64 (y:Int),.int .u8 (z:Int)] 179):=⟨_,rfl⟩
 have t2:Tch NoB w1 W2:=by rw [hW2];exact Tch.alloc _ _ _
 have hr2:W2.heap[w1.heap.size]? =some (.cells #[.int .i64 x,.int .u64 (y:Int),.int .u8 (z:Int)] 179):=by rw [hW2];exact Qf _ _
 have b0:W2.cell? ⟨w1.heap.size,0,none⟩=some (.int .i64 x):=Ja hr2
 have b1:W2.cell? ⟨w1.heap.size,1,none⟩=some (.int .u64 (y:Int)):=Ja hr2
 have b2:W2.cell? ⟨w1.heap.size,2,none⟩=some (.int .u8 (z:Int)):=Ja hr2
 have HT2:Hid (Tch NoB W W2):=ht1.go t2
 have hs2:=HRR.o W2 HT2.o
 have e0:W2.cell? ⟨w.heap.size+1,0,none⟩=some (.int .u64 0):=Ja hs2
 have e1:W2.cell? ⟨w.heap.size+1,1,none⟩=some (.int .u8 0):=Ja hs2
 have fR:∀j,W2.frozen? ⟨w.heap.size+1,j,none⟩=false:=λj=>Qg _ _ _ _ _ hs2
 have hlt:w1.heap.size ≠ w.heap.size+1:=λe=>by rw [e,hs2] at hr2;simp at hr2
 have R2:Hid (W2.heap[w.heap.size+1]? =_):=hs2
 have HW2:Hid (W2=_):=hW2
 clear ht1 t2 hr2 hs2 hW2 a0 a1 H b0 b1 b2
 go_upto_region 2 with fail
 rw [<-HW2.o]
 go_wp2
 rw [set2 _ _ _ _ _ _ _ R2.o]
 refine QJ (v:=.tuple #[.int .i64 0,.agg #[.int .u64 0,.int .u8 0]]) (ZO results47 _ _ (w.heap.size+1) _ _ (0,0) _ rfl (Qi _ _ _ _ _ _ R2.o) underlying80 rfl (by kernel_rfl)) rfl ?_
 exact ⟨(HA.o.go HT2.o).trans (Tch.setRow W2 (w.heap.size+1) _) (λj hj=>.inr (by omega)),rfl⟩
def Xx (r:Option Wy) (k:Key):Int×(Nat×Nat):=match r with
 | none=>(0,(0,0))
 | some wy=>match wy.said k with
  | some o=>(1,o)
  | none=>(2,(0,0))
theorem JgE (E:Nat->Addr) (wd:Nat) (hw1:1<=wd) (hw:wd<=32) (h:HdL) (hh:HdOk wd h) (c:BA×Int) (hc:Jo wd c) (s:BA) (hs:s.size<=2000000) (w:World) (hE:Env E w) (hA:Ast w):
  Calls prog 47 #[.int .i64 (wd:Int),.string ⟨(hdrB h).toArray⟩,.agg #[.string c.1,.int .i64 c.2],.string s] w λe w'=>Tch NoB w w'/\e=.returned (.tuple #[.int .i64 (Xx (chk wd (Jd c) h.2.2.2 s.data.toList) (Jd c)).1,.agg #[.int .u64 ((Xx (chk wd (Jd c) h.2.2.2 s.data.toList) (Jd c)).2.1:Int),.int .u8 ((Xx (chk wd (Jd c) h.2.2.2 s.data.toList) (Jd c)).2.2:Int)]]):=by
 have H:=λW (hT:Tch NoB w W)=>Jbx E wd hw1 hw h.2.2.2 (Jd c) (YY hc) s hs W (hE.tch hT noE) (hA.tch hT (λh=>h))
 cases hr:chk wd (Jd c) h.2.2.2 s.data.toList with
 | none=>
  rw [hr] at H
  refine JfY wd _ s c (λW hT=>?_)
  refine (Jb1 E wd hw1 hw h hh c hc s (λ_ _ _ ev=>∃t u,ev=.iface t u) W (hE.tch hT noE) (λV hT2=>?_)).mono ?_
  ·refine (H V (hT.go hT2)).mono ?_
   rintro e w' ⟨ht,t,u,he⟩
   exact ⟨ht,0,0,0,none,0,0,.iface t u,⟨t,u,rfl⟩,he⟩
  ·rintro e w' ⟨ht,x,y,z,ev,⟨t,u,rfl⟩,he⟩
   exact ⟨ht,x,y,z,t,u,he⟩
 | some wy=>
  rw [hr] at H
  refine (Jcs wd _ s c (wy.said (Jd c)) (λW hT=>?_)).mono ?_
  ·refine (Jb1 E wd hw1 hw h hh c hc s (λx y z ev=>XL (wy.said (Jd c))=.agg #[.int .i64 x,.int .u64 (y:Int),.int .u8 (z:Int)]/\ev=.nilIface) W (hE.tch hT noE) (λV hT2=>?_)).mono ?_
   ·refine (H V (hT.go hT2)).mono ?_
    rintro e w' ⟨ht,x,y,z,g,cap,hsv,he,_⟩
    exact ⟨ht,x,y,z,_,_,_,.nilIface,⟨hsv,rfl⟩,he⟩
   ·rintro e w' ⟨ht,x,y,z,ev,⟨hsv,rfl⟩,he⟩
    exact ⟨ht,x,y,z,hsv,he⟩
  ·rintro e w' ⟨ht,x,y,z,hsv,rfl⟩
   refine ⟨ht,?_⟩
   unfold Xx
   dsimp only
   cases hs:wy.said (Jd c) with
   | none=>
    rw [hs] at hsv
    simp only [XL,Value.agg.injEq,Array.mk.injEq,QH,Value.int.injEq,true_and,and_true] at hsv
    obtain ⟨rfl,hy,hz⟩:=hsv
    rw [<-hy,<-hz]
    rfl
   | some o=>
    rw [hs] at hsv
    simp only [XL,Value.agg.injEq,Array.mk.injEq,QH,Value.int.injEq,true_and,and_true] at hsv
    obtain ⟨rfl,hy,hz⟩:=hsv
    rw [<-hy,<-hz]
