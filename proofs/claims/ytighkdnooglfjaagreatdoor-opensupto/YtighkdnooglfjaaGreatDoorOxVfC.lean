import Derived.Test.YtighkdnooglfjaaGreatDoorOxVfA
namespace Go.Proofs.YtighkdnooglfjaaGreatDoor
open Tryz
set_option maxRecDepth 100000
set_option maxHeartbeats 2000000
open Go.RowKit

def Ast (w:World):Prop:=∃t u,w.cell? ⟨11,0,none⟩=some (.iface t u)
theorem Ast.tch {S:Nat->Prop} {w w':World} (h:Ast w) (k:Tch S w w') (hs:¬S 11):Ast w':=by
 obtain ⟨t,u,h⟩:=h
 exact ⟨t,u,(k.cell (Qr _ _ h) hs).trans h⟩
theorem Jk5 (N wd:Nat) (state:BA) (key kk:Key) (hk1:key.length<=1000000) (hk2:kk.length<=1000000) (b:Nat) (hb:b<8 * key.length) (hb':b<8 * kk.length) (oth:BA) (i:Int) (v1:Option Addr) (v2 v3:Nat) (m:Bool) (a o:Nat) (w:World)
  (r0:w.heap[N]? =some (.cells #[.int .i64 (wd:Int),.string state,.string ⟨key.toArray⟩] 248)) (r1:w.heap[N+1]? =some (.cells #[.slice v1 v2 v3,.bool m,.string ⟨kk.toArray⟩,.int .u64 (a:Int),.int .u8 (o:Int)] 258)) (hA:bt key b ≠ bt kk b->Ast w):
  Calls prog 287 #[.int .i64 i,.agg #[.int .i64 (b:Int),.string oth],.pointer (some ⟨N,0,none⟩),.pointer (some ⟨N+1,0,none⟩)] w λe w'=>Tch NoB w w'/\((bt key b=bt kk b/\e=.returned .nilIface)\/(bt key b ≠ bt kk b/\∃t u,e=.returned (.iface t u))):=by
 have HB1:Hid (∀W,Calls prog 288 #[.string ⟨key.toArray⟩,.int .i64 (b:Int)] W λe w'=>e=.returned (.int .i64 (bt key b:Int))/\w'=W):=λW=>Xb key b hb hk1 W
 have HB2:Hid (∀W,Calls prog 288 #[.string ⟨kk.toArray⟩,.int .i64 (b:Int)] W λe w'=>e=.returned (.int .i64 (bt kk b:Int))/\w'=W):=λW=>Xb kk b hb' hk2 W
 obtain ⟨W,hW⟩:∃W,W=w.alloc (.cells #[.int .i64 (b:Int),.string oth] 366):=⟨_,rfl⟩
 have tA:Tch NoB w W:=by rw [hW];exact Tch.alloc _ _ _
 have q0:=(tA.block _ (Jb r0) (λh=>h)).trans r0
 have q1:=(tA.block _ (Jb r1) (λh=>h)).trans r1
 have q2:W.heap[w.heap.size]? =some (.cells #[.int .i64 (b:Int),.string oth] 366):=by rw [hW];exact Qf _ _
 have c0:W.cell? ⟨N,2,none⟩=some (.string ⟨key.toArray⟩):=Ja q0
 have c1:W.cell? ⟨N+1,2,none⟩=some (.string ⟨kk.toArray⟩):=Ja q1
 have c2:W.cell? ⟨w.heap.size,0,none⟩=some (.int .i64 (b:Int)):=Ja q2
 have HA:Hid (bt key b ≠ bt kk b->Ast W):=λh=>(hA h).tch tA (λh=>h)
 have HT:Hid (Tch NoB w W):=tA
 have HW:Hid (W=_):=hW
 clear tA q0 q1 q2 r0 r1 hA hW
 generalize (⟨key.toArray⟩:BA)=k1 at *
 generalize (⟨kk.toArray⟩:BA)=k2 at *
 generalize bt key b=x at *
 generalize bt kk b=y at *
 by_cases hxy:x=y
 ·subst hxy
  clear HA
  go_enter func287,ntmps287
  go_upto_region 1 with fail
  rw [<-HW.o]
  go_quiet (first | (go_at_call_of 288 (Value.string k1);exact Calls.quiet_of_same (HB1.o _)) | (go_at_call_of 288 (Value.string k2);exact Calls.quiet_of_same (HB2.o _)))
  go_wp2
  go_ret
  exact ⟨HT.o.go (Tch.drewN _ _ _),.inl ⟨trivial,rfl⟩⟩
 ·have hne:¬(x:Int)=(y:Int):=by omega
  obtain ⟨t,u,hcell⟩:=HA.o hxy
  have HXY:Hid (x ≠ y):=hxy
  clear HA hxy
  go_enter func287,ntmps287
  go_upto_region 1 with fail
  rw [<-HW.o]
  go_quiet (first | (go_at_call_of 288 (Value.string k1);exact Calls.quiet_of_same (HB1.o _)) | (go_at_call_of 288 (Value.string k2);exact Calls.quiet_of_same (HB2.o _)))
  go_wp2
  go_ret
  exact ⟨HT.o.go (Tch.drewN _ _ _),.inr ⟨HXY.o,_,_,rfl⟩⟩
structure Jjd (w0:World) (key:Key) (wy:Wy) (i:Nat) (w:World):Prop where
 tch:Tch NoB w0 w
 eq:∀(j:Nat) s,j<i->wy.1[j]? =some s->bt key s.1=bt (XI wy) s.1
def Jjc (w0:World) (key:Key) (wy:Wy) (v:Value) (w:World):Prop:=Tch NoB w0 w/\(∃s∈wy.1,bt key s.1 ≠ bt (XI wy) s.1)/\∃t u,v=.iface t u
theorem JhB (wy:Wy):wyK wy=⟨(XI wy).toArray⟩:=by
 obtain ⟨l,e⟩:=wy
 cases e <;> rfl
theorem Jed {wd:Nat} {wy:Wy} (h:WyOk wd wy):(XI wy).length=(if wy.1=[] then (XI wy).length else wd+1):=by
 split
 ·rfl
 ·rename_i hn
  obtain ⟨l,e⟩:=wy
  cases e with
  | none=>exact absurd (h.bare rfl) hn
  | some x=>exact (h.key x rfl).1
theorem Jgd (wd:Nat) (hw:wd<=32) (state:BA) (key:Key) (hk:key.length=wd+1) (wy:Wy) (hok:WyOk wd wy) (w0:World) (N:Nat) (g off:Nat) (hz:g<w0.heap.size) (v1:Option Addr) (v2 v3:Nat) (m:Bool) (a o:Nat)
  (r0:w0.heap[N]? =some (.cells #[.int .i64 (wd:Int),.string state,.string ⟨key.toArray⟩] 248)) (r1:w0.heap[N+1]? =some (.cells #[.slice v1 v2 v3,.bool m,.string (wyK wy),.int .u64 (a:Int),.int .u8 (o:Int)] 258))
  (hA:(∃s∈wy.1,bt key s.1 ≠ bt (XI wy) s.1)->Ast w0)
  (hr:∀i (h:i<wy.1.length),w0.cell? ⟨g,off+i * 2,none⟩=some (.int .i64 ((wy.1[i].1:Nat):Int))/\w0.cell? ⟨g,off+i * 2+1,none⟩=some (.string wy.1[i].2)):
  JbT 287 #[.pointer (some ⟨N,0,none⟩),.pointer (some ⟨N+1,0,none⟩)] g off wy.1.length (λi=>(wy.1.map encS).getD i zS) (Jjd w0 key wy) (Jjc w0 key wy):=by
 have hx:∀i (h:i<wy.1.length),(wy.1.map encS).getD i zS=encS wy.1[i]:=λi h=>by simp [List.getD_eq_getElem?_getD,h]
 refine ⟨λ_ _=>rfl,?_,?_,?_⟩
 ·rintro i w hi I
  rw [hx i hi]
  have hc:∀o,w.cell? ⟨g,o,none⟩=w0.cell? ⟨g,o,none⟩:=λo=>I.tch.cell (p:=⟨g,o,none⟩) hz (λh=>h)
  rw [hc,hc]
  exact hr i hi
 ·rintro i w o I
  exact ⟨I.tch.go (Tch.alloc _ _ _),I.eq⟩
 ·rintro i w hi I
  rw [hx i hi]
  have hs:=hok.steps wy.1[i] (Qx hi)
  have hl:=Jed hok
  rw [if_neg (λe=>by rw [e] at hi;simp at hi)] at hl
  rw [JhB] at r1
  refine (Jk5 N wd state key (XI wy) (by omega) (by omega) wy.1[i].1 (by have:=hs.1;omega) (by have:=hs.1;omega) wy.1[i].2 (i:Int) v1 v2 v3 m a o w ((I.tch.block _ (Jb r0) (λh=>h)).trans r0) ((I.tch.block _ (Jb r1) (λh=>h)).trans r1) (λh=>(hA ⟨_,Qx hi,h⟩).tch I.tch (λh=>h))).mono ?_
  rintro e w' ⟨ht,⟨he,rfl⟩ | ⟨he,t,u,rfl⟩⟩
  ·refine .inl ⟨rfl,I.tch.go ht,λj s hj hs2=>?_⟩
   by_cases hji:j=i
   ·subst hji
    rw [Qd hi] at hs2
    cases hs2
    exact he
   ·exact I.eq j s (by omega) hs2
  ·exact .inr ⟨t,u,rfl,I.tch.go ht,⟨_,Qx hi,he⟩,t,u,rfl⟩
theorem JhT (fv:Value) (what:BA) (w:World):Calls prog 286 #[.string what,.slice none 0 0,fv] w λe w'=>e=.returned .nilIface/\w=w':=by
 go_enter func286,ntmps286
 go_wp2
 go_loopw [12] (λi wr=>i=.int .i64 0/\w=wr) (λi _=>0)
 case atStart=>exact ⟨rfl,rfl⟩
 case round=>
  obtain ⟨rfl,rfl⟩:=hrel
  go_wp2
  go_ret
  exact ⟨rfl,rfl⟩
theorem Jdj (E:Nat->Addr) (wd:Nat) (hw:wd<=32) (state:BA) (key:Key) (hk:key.length=wd+1) (wy:Wy) (hok:WyOk wd wy) (v1:Option Addr) (v2 v3:Nat) (m:Bool) (a o:Nat) (w:World) (hE:Env E w) (hv:VAt w.heap.size w (.slice v1 v2 v3) (wy.1.map encS)) (hA:(∃s∈wy.1,bt key s.1 ≠ bt (XI wy) s.1)->Ast w):
  Calls prog 213 #[qV wd state ⟨key.toArray⟩,wV v1 v2 v3 m (wyK wy) a o] w λe w'=>Tch NoB w w'/\(((∀s∈wy.1,bt key s.1=bt (XI wy) s.1)/\e=.returned .nilIface)\/((∃s∈wy.1,bt key s.1 ≠ bt (XI wy) s.1)/\∃t u,e=.returned (.iface t u))):=by
 obtain ⟨W,hW⟩:∃W,W=(w.alloc (.cells #[.int .i64 (wd:Int),.string state,.string ⟨key.toArray⟩] 248)).alloc (.cells #[.slice v1 v2 v3,.bool m,.string (wyK wy),.int .u64 (a:Int),.int .u8 (o:Int)] 258):=⟨_,rfl⟩
 have tA:Tch NoB w W:=by rw [hW];exact Tch.allocs _ _ _ _
 have r0:W.heap[w.heap.size]? =some (.cells #[.int .i64 (wd:Int),.string state,.string ⟨key.toArray⟩] 248):=by rw [hW];exact heap_alloc2_old _ _ _
 have r1:W.heap[w.heap.size+1]? =some (.cells #[.slice v1 v2 v3,.bool m,.string (wyK wy),.int .u64 (a:Int),.int .u8 (o:Int)] 258):=by rw [hW];exact heap_alloc2_new _ _ _
 have hEW:=hE.tch tA noE
 have HEA:Hid (∀what:BA,what.size<=1000->Calls prog 286 #[.string what,.slice v1 v2 v3,.func (.func 287) #[] #[.pointer (some ⟨w.heap.size,0,none⟩),.pointer (some ⟨w.heap.size+1,0,none⟩)]] W λe w'=>ToE (Jjd W key wy) (Jjc W key wy) wy.1.length e w'):=λwhat hwh=>by
  rcases hv with ⟨e1,e2⟩ | ⟨gi,oi,c,e1,h1,h2,h3'⟩
  ·have hnil:wy.1=[]:=by simpa using e2
   rw [e1]
   refine (JhT _ _ _).mono ?_
   rintro _ _ ⟨rfl,rfl⟩
   exact .inl ⟨rfl,Tch.refl _ _,λj s hj=>by rw [hnil] at hj;simp at hj⟩
  ·rw [e1,List.length_map]
   refine Jm9 _ _ _ _ _ _ _ _ (λi hi=>?_) _ _ (Jgd wd hw state key hk wy hok W w.heap.size gi oi (Qk h2 tA.size) v1 v2 v3 m a o r0 r1 (λh=>(hA h).tch tA (λh=>h)) (λi hi=>?_)) (by have:=hok.len;omega) (λv V hb i hi=>JcE (hEW.tch hb.1 noE) i (by have:=hok.len;omega)) hwh W ⟨Tch.refl _ _,λj s hj=>absurd hj (Nat.not_lt_zero _)⟩
   ·simp only [Qn,List.getElem?_map,Qd hi];exact ⟨_,_,rfl⟩
   ·have hc:∀o,W.cell? ⟨gi,o,none⟩=w.cell? ⟨gi,o,none⟩:=λo=>tA.cell (p:=⟨gi,o,none⟩) h2 (λh=>h)
    have:=h3' i (by simpa using hi)
    rw [hc,hc]
    simpa [encS] using this
 have hc:W.cell? ⟨w.heap.size+1,0,none⟩=some (.slice v1 v2 v3):=Ja r1
 have HT:Hid (Tch NoB w W):=tA
 have HW:Hid (W=_):=hW
 have hmf:∀(fn:Fn) (first cap:Array Value) (w:World),(Instr.makeFunc fn first cap).run prog w=.ok (.func fn first cap) w:=λ_ _ _ _=>rfl
 clear tA r0 r1 hEW hv hE hA hW hok hk
 go_enter func213,ntmps213
 go_upto_region 1 with fail
 rw [<-HW.o]
 go_wp2_with fail
 refine (HEA.o _ (by decide)).mono ?_
 rintro e w2 (⟨rfl,I⟩ | ⟨p,sx,vx,w1,rfl,hp,⟨ht,hb,hv⟩,hbl⟩)
 ·have HT2:Hid (Tch NoB w w2):=HT.o.go I.tch
  have HEQ:Hid (∀s∈wy.1,bt key s.1=bt (XI wy) s.1):=λs hs=>by
   obtain ⟨j,hj,rfl⟩:=List.getElem_of_mem hs
   exact I.eq j _ hj (Qd hj)
  clear I
  go_wp2
  go_ret
  exact ⟨HT2.o,.inl ⟨HEQ.o,rfl⟩⟩
 ·have HT2:Hid (Tch NoB w w2):=(HT.o.go ht).go ((Tch.of_below hbl).mono (λ_ hj=>.inr hj))
  have HBD:Hid (∃s∈wy.1,bt key s.1 ≠ bt (XI wy) s.1):=hb
  clear ht hb hv hbl hp
  go_wp2
  go_ret
  exact ⟨HT2.o,.inr ⟨HBD.o,_,_,rfl⟩⟩

attribute [local go_sem] Oper.semAt_some

def Zn (d:List UInt8->BA) (key:Key) (e:List UInt8) (l:List Stp) (j:Nat):List UInt8:=(Yx d key e (l.drop j)).headD []
theorem JaP (d:List UInt8->BA) (key:Key) (e:List UInt8):∀(l:List Stp) (j:Nat),j<=l.length->(Yx d key e l)[j]? =some (Zn d key e l j)
 | [],j,h=>by
  obtain rfl:j=0:=by simpa using h
  rfl
 | s :: r,0,_=>rfl
 | s :: r,j+1,h=>by
  have:=JaP d key e r j (by simpa using h)
  obtain ⟨b,oth⟩:=s
  simpa [Yx,Zn] using this
theorem JdY (d:List UInt8->BA) (key:Key) (e:List UInt8) (l:List Stp):Zn d key e l l.length=e:=by simp [Zn,Yx]
theorem JcJ (d:List UInt8->BA) (key:Key) (e:List UInt8) (l:List Stp) (j:Nat) (h:j<l.length):Zn d key e l j=78 :: (beL l[j].1 2 2++(if bt key l[j].1=0 then (d (Zn d key e l (j+1))).data.toList++l[j].2.data.toList else l[j].2.data.toList++(d (Zn d key e l (j+1))).data.toList)):=by
 unfold Zn
 rw [List.drop_eq_getElem_cons h]
 generalize l[j]=s
 obtain ⟨b,oth⟩:=s
 rfl
theorem JdZ (wd:Nat) (hw:wd<=32) (key:Key) (e:List UInt8) (he:e.length<=1000) (l:List Stp) (hl:∀s∈l,Jah wd s) (j:Nat) (h:j<=l.length):(Zn (dgW wd) key e l j).length<=1000:=by
 by_cases hj:j<l.length
 ·rw [JcJ _ _ _ _ _ hj]
  have hs:=(hl _ (Qx hj)).2
  have hd:=Jr wd hw (Zn (dgW wd) key e l (j+1))
  have e1:(dgW wd (Zn (dgW wd) key e l (j+1))).data.toList.length=wd:=by simpa using hd
  have e2:l[j].2.data.toList.length=wd:=by simpa using hs
  split <;> simp only [Qp,Qe,Je,e1,e2] <;> omega
 ·obtain rfl:j=l.length:=by omega
  rw [JdY]
  exact he
def upsT (d:List UInt8->BA) (wy:Wy):List BA:=(wy.nodes d).reverse.map λt=>⟨t.toArray⟩
theorem Zs (d:List UInt8->BA) (wy:Wy):(upsT d wy).length=wy.1.length+1:=by simp [upsT,Wy.nodes,YB]
theorem JkT (d:List UInt8->BA) (wy:Wy) (p:Nat) (hp:p<=wy.1.length):(upsT d wy)[p]? =some ⟨(Zn d (XI wy) (Yi wy.2) wy.1 (wy.1.length - p)).toArray⟩:=by
 unfold upsT
 rw [List.getElem?_map,List.getElem?_reverse (by simp [Wy.nodes,YB];omega)]
 have hl:(wy.nodes d).length=wy.1.length+1:=by simp [Wy.nodes,YB]
 rw [hl,show wy.1.length+1 - 1 - p=wy.1.length - p by omega]
 unfold Wy.nodes
 rw [JaP d _ _ _ _ (by omega)]
 rfl
theorem JbW {wd:Nat} (hw:wd<=32) {wy:Wy} (h:WyOk wd wy):(Yi wy.2).length<=1000:=by
 obtain ⟨l,e⟩:=wy
 cases e with
 | none=>simp [Yi]
 | some x=>
  obtain ⟨k,o⟩:=x
  have:=(h.key _ rfl).1
  simp only [Yi,outB,Qp,Qe,Je]
  dsimp only at this
  omega
structure UpAt (E:Nat->Addr) (n₀ Bq Bw wd:Nat) (state kb:BA) (v1:Option Addr) (v2 v3:Nat) (wy:Wy) (W:World):Prop where
 env:Env E W
 low:18<=n₀
 q:W.heap[Bq]? =some (.cells #[.int .i64 (wd:Int),.string state,.string kb] 248)
 way:W.heap[Bw]? =some (.cells #[.slice v1 v2 v3,.bool wy.2.isSome,.string (wyK wy),.int .u64 ((wyO wy).1:Int),.int .u8 ((wyO wy).2:Int)] 258)
 st:VAt n₀ W (.slice v1 v2 v3) (wy.1.map encS)
def Jg7 (n₀ Bq Bw:Nat) (W W':World):Prop:=Below n₀ W W'/\(∀cs T,W.heap[Bq]? =some (.cells cs T)->W'.heap[Bq]? =some (.cells cs T))/\(∀cs T,W.heap[Bw]? =some (.cells cs T)->W'.heap[Bw]? =some (.cells cs T))
theorem UpAt.keep {E:Nat->Addr} {n₀ Bq Bw wd:Nat} {state kb:BA} {v1:Option Addr} {v2 v3:Nat} {wy:Wy} {W W':World} (h:UpAt E n₀ Bq Bw wd state kb v1 v2 v3 wy W) (k:Jg7 n₀ Bq Bw W W'):UpAt E n₀ Bq Bw wd state kb v1 v2 v3 wy W':=
 ⟨h.env.tch (Tch.of_below k.1) (λ_ hj=>Qm h.low hj),h.low,k.2.1 _ _ h.q,k.2.2 _ _ h.way,h.st.tch (Tch.of_below k.1) (λ_ hj=>hj)⟩
theorem UpAt.next {E:Nat->Addr} {n₀ Bq Bw wd:Nat} {state kb:BA} {v1:Option Addr} {v2 v3:Nat} {wy:Wy} {W W':World} (h:UpAt E n₀ Bq Bw wd state kb v1 v2 v3 wy W) (k:Tch NoB W W'):UpAt E n₀ Bq Bw wd state kb v1 v2 v3 wy W':=
 ⟨h.env.tch k (λ_ hj=>hj.elim),h.low,(k.block _ (Jb h.q) (λe=>e)).trans h.q,(k.block _ (Jb h.way) (λe=>e)).trans h.way,h.st.tch k (λ_ hj=>hj.elim)⟩
theorem UpAt.step {E:Nat->Addr} {n₀ Bq Bw wd:Nat} {state kb:BA} {v1:Option Addr} {v2 v3:Nat} {wy:Wy} {W:World} (h:UpAt E n₀ Bq Bw wd state kb v1 v2 v3 wy W) (hne:0<wy.1.length):∃gi oi,v1=some ⟨gi,oi,none⟩/\v2=wy.1.length:=by
 rcases h.st with ⟨e,e2⟩ | ⟨gi,oi,c,e,_⟩
 ·have:wy.1=[]:=by simpa using e2
  rw [this] at hne
  simp at hne
 ·simp only [Qy,List.length_map] at e
  exact ⟨gi,oi,e.1,e.2.1⟩
theorem UpAt.len {E:Nat->Addr} {n₀ Bq Bw wd:Nat} {state kb:BA} {v1:Option Addr} {v2 v3:Nat} {wy:Wy} {W:World} (h:UpAt E n₀ Bq Bw wd state kb v1 v2 v3 wy W):v2=wy.1.length:=by
 obtain ⟨a,c,e⟩:=h.st.shape
 simp only [Qy,List.length_map] at e
 exact e.2.1
theorem UpAt.cells {E:Nat->Addr} {n₀ Bq Bw wd:Nat} {state kb:BA} {gi oi v2 v3:Nat} {wy:Wy} {W:World} (h:UpAt E n₀ Bq Bw wd state kb (some ⟨gi,oi,none⟩) v2 v3 wy W) (j:Nat) (hj:j<wy.1.length):W.cell? ⟨gi,oi+j * 2,none⟩=some (.int .i64 (wy.1[j].1:Int))/\W.cell? ⟨gi,oi+j * 2+1,none⟩=some (.string wy.1[j].2):=by
 rcases h.st with ⟨e,e2⟩ | ⟨gi',oi',c,e,_,_,hc⟩
 ·cases e
 ·simp only [Qy,Qh,Addr.mk.injEq] at e
  obtain ⟨⟨rfl,rfl,_⟩,_,_⟩:=e
  have:=hc j (by simpa using hj)
  simpa [encS] using this
def Jg3 (v:Value):Nat:=match v with
 | .int _ z=>(z+1).toNat
 | _=>0
theorem JmY (E:Nat->Addr) (n:Nat) (hn:2<=n) (l Bq Bw n₀:Nat) (wd:Nat) (hw1:1<=wd) (hw:wd<=32) (state kb:BA) (v1:Option Addr) (v2 v3:Nat) (wy:Wy) (hok:WyOk wd wy) (J Jx:List BA->World->Prop)
  (hJ:∀pre W W',J pre W->Tch NoB W W'->J pre W')
  (hY:∀pre x W,J pre W->(upsT (dgW wd) wy)[pre.length]? =some x->YieldAt Fence.wide (n - 1) prog l #[.string x,.nilIface] W λe W'=>
   (e=.returned (.bool true)/\J (pre++[x]) W'/\Jg7 n₀ Bq Bw W W')\/(e=.returned (.bool false)/\Jx (pre++[x]) W'))
  (W:World) (hU:UpAt E n₀ Bq Bw wd state kb v1 v2 v3 wy W) (h0:J [] W):
  CallsIn Fence.wide n prog 341 #[.func (.yield l) #[] #[],.pointer (some ⟨Bq,0,none⟩),.pointer (some ⟨Bw,0,none⟩)] W λe W'=>(∃v,e=.returned v)/\
   ((∃ys,ys=upsT (dgW wd) wy/\J ys W')\/(∃pre,pre <+:upsT (dgW wd) wy/\Jx pre W')):=by
 have HOK:Hid _:=hok
 have HEND:Hid (∀V,UpAt E n₀ Bq Bw wd state kb v1 v2 v3 wy V->Calls prog 342 _ V _):=λV hV=>Jmu E wd hw state kb v1 v2 v3 wy hok V hV.env
 have hv2:=hU.len
 have q0:W.cell? ⟨Bq,0,none⟩=some (.int .i64 (wd:Int)):=Ja hU.q
 have q1:W.cell? ⟨Bq,1,none⟩=some (.string state):=Ja hU.q
 have q2:W.cell? ⟨Bq,2,none⟩=some (.string kb):=Ja hU.q
 have a0:W.cell? ⟨Bw,0,none⟩=some (.slice v1 v2 v3):=Ja hU.way
 have a1:W.cell? ⟨Bw,1,none⟩=some (.bool wy.2.isSome):=Ja hU.way
 have a2:W.cell? ⟨Bw,2,none⟩=some (.string (wyK wy)):=Ja hU.way
 have a3:W.cell? ⟨Bw,3,none⟩=some (.int .u64 ((wyO wy).1:Int)):=Ja hU.way
 have a4:W.cell? ⟨Bw,4,none⟩=some (.int .u8 ((wyO wy).2:Int)):=Ja hU.way
 have HU:Hid _:=hU
 obtain ⟨X,hX⟩:∃X:Nat->BA,X=λp=>⟨(Zn (dgW wd) (XI wy) (Yi wy.2) wy.1 (wy.1.length - p)).toArray⟩:=⟨_,rfl⟩
 have HX0:Hid (⟨(Yi wy.2).toArray⟩=X 0):=by show _=X 0;rw [hX];dsimp only;rw [Nat.sub_zero,JdY]
 have HXG:Hid (∀p,p<=wy.1.length->(upsT (dgW wd) wy)[p]? =some (X p)):=λp hp=>by rw [hX];exact JkT (dgW wd) wy p hp
 have HAB:Hid (∀p j (hj:j<wy.1.length),p+j+1=wy.1.length->∀V,Env E V->Calls prog 343 #[qV wd state kb,.string (X p),.agg #[.int .i64 (wy.1[j].1:Int),.string wy.1[j].2],.string (wyK wy)] V λe w'=>e=.returned (.tuple #[.string (X (p+1)),.nilIface])/\Tch NoB V w'):=λp j hj hpj V hE=>by
  have hkl:=Jed hok
  rw [if_neg (λe=>by rw [e] at hj;simp at hj)] at hkl
  have hxl:(X p).size<=1000:=by rw [hX];dsimp only;rw [Jw];exact JdZ wd hw _ _ (JbW hw hok) _ hok.steps _ (by omega)
  have:=Jjq E wd hw1 hw state kb (X p) hxl wy.1[j] (hok.steps _ (Qx hj)) (XI wy) hkl V hE
  rw [<-JhB] at this
  refine this.mono λe w' h=>⟨?_,h.2⟩
  rw [h.1,hX]
  dsimp only
  rw [show wy.1.length - (p+1)=j by omega,show wy.1.length - p=j+1 by omega,JcJ _ _ _ _ _ hj]
 clear hX
 have HV2:Hid _:=hv2
 have hlen:=hok.len
 have hv2b:v2<=264:=by omega
 clear hU hok hv2 hlen
 generalize hwk:wyK wy=wk at *
 have HWK:Hid _:=hwk
 clear hwk
 by_cases hz:v2=0
 ·have HZ:Hid (v2=0):=hz
  clear hz
  refine callsIn_of_wp func341 rfl trivial ?_ rfl
  simp only [ntmps341,List.size_toArray,Qp,Qv,Nat.reduceAdd,Nat.reduceSub,Array.replicate_succ,Array.replicate_zero,List.push_toArray,List.append_toArray,List.nil_append,List.cons_append]
  gi_wp2
  refine ⟨trivial,λ_=>by omega,(callsIn_wide.2 (HEND.o W HU.o)).mono ?_⟩
  rintro _ W1 ⟨rfl,ht1⟩
  have HT1:Hid _:=ht1
  have a0:W1.cell? ⟨Bw,0,none⟩=some (.slice v1 v2 v3):=Ja (HU.o.next ht1).way
  clear ht1 HEND q0 q1 q2 a1 a2 a3 a4
  have hJ1:=hJ [] W W1 h0 HT1.o
  have HU1:Hid (UpAt E n₀ Bq Bw wd state kb v1 v2 v3 wy W1):=HU.o.next HT1.o
  have HJ:Hid _:=hJ
  have HY:Hid _:=hY
  have HJ1:Hid (J [] W1):=hJ1
  clear HU HT1 hJ hY hJ1 h0
  rw [HX0.o]
  gi_wp2
  gi_loopw [4,5,6] (λt e i wr=>∃p,p<=v2/\t=.string (X p)/\e=.nilIface/\i=.int .i64 ((v2:Int) - 1 - (p:Int))/\Hid (UpAt E n₀ Bq Bw wd state kb v1 v2 v3 wy wr)/\Hid (J ((upsT (dgW wd) wy).take p) wr))
   (λt e i wr=>Jg3 i)
  case atStart=>
   exact ⟨0,Nat.zero_le _,rfl,rfl,by simp,HU1.o,HJ1.o⟩
  case round=>
   obtain ⟨p,hp,rfl,rfl,rfl,HUr,HJr⟩:=hrel
   have hul:=Zs (dgW wd) wy
   have hxg:=HXG.o p (by rw [<-HV2.o];exact hp)
   have htl:((upsT (dgW wd) wy).take p).length=p:=by rw [QB,hul,<-HV2.o];omega
   have htk:(upsT (dgW wd) wy).take p++[X p]=(upsT (dgW wd) wy).take (p+1):=by rw [List.take_add_one,hxg];rfl
   obtain ⟨fn,tmps,assign,body,hy,hR⟩:=HY.o _ (X p) wr HJr.o (by rw [htl];exact hxg)
   rw [htk] at hR
   have HTK:Hid ((upsT (dgW wd) wy).length=v2+1):=(by rw [hul,HV2.o]:(upsT (dgW wd) wy).length=v2+1)
   clear hul hxg htl htk
   gi_wp2
   refine ⟨λ_=>by omega,hR.mono ?_⟩
   clear hR hy
   rintro e W3 (⟨rfl,hJ3,hk3⟩ | ⟨rfl,hJx3⟩)
   ·have HU3:Hid (UpAt E n₀ Bq Bw wd state kb v1 v2 v3 wy W3):=HUr.o.keep hk3
    have HJ3:Hid (J _ W3):=hJ3
    clear hk3 hJ3 HUr HJr
    by_cases hpl:p<v2
    ·exact absurd hpl (by have:=HZ.o;omega)
    ·have hne:¬(0:Int)<=(v2:Int) - 1 - (p:Int):=by omega
     have hpe:p=v2:=by omega
     have HPE:Hid (p=v2):=hpe
     clear hpl hp hpe
     gi_wp2
     refine bodyPost_end (v:=.tuple #[]) (results_none results341 _ _ _) rfl ?_
     refine ⟨⟨_,rfl⟩,.inl ⟨_,?_,HJ3.o⟩⟩
     exact List.take_of_length_le (by rw [HTK.o,HPE.o];exact Ql _)
   ·gi_wp2
    refine bodyPost_end (v:=.tuple #[]) (results_none results341 _ _ _) rfl ?_
    exact ⟨⟨_,rfl⟩,.inr ⟨_,List.take_prefix _ _,hJx3⟩⟩
 ·obtain ⟨gi,oi,rfl,hv2'⟩:=HU.o.step (by rw [<-HV2.o];omega)
  clear hv2' hz
  refine callsIn_of_wp func341 rfl trivial ?_ rfl
  simp only [ntmps341,List.size_toArray,Qp,Qv,Nat.reduceAdd,Nat.reduceSub,Array.replicate_succ,Array.replicate_zero,List.push_toArray,List.append_toArray,List.nil_append,List.cons_append]
  gi_wp2
  refine ⟨trivial,λ_=>by omega,(callsIn_wide.2 (HEND.o W HU.o)).mono ?_⟩
  rintro _ W1 ⟨rfl,ht1⟩
  have HT1:Hid _:=ht1
  have a0:W1.cell? ⟨Bw,0,none⟩=some (.slice (some ⟨gi,oi,none⟩) v2 v3):=Ja (HU.o.next ht1).way
  clear ht1 HEND q0 q1 q2 a1 a2 a3 a4
  have hJ1:=hJ [] W W1 h0 HT1.o
  have HU1:Hid (UpAt E n₀ Bq Bw wd state kb (some ⟨gi,oi,none⟩) v2 v3 wy W1):=HU.o.next HT1.o
  have HJ:Hid _:=hJ
  have HY:Hid _:=hY
  have HJ1:Hid (J [] W1):=hJ1
  clear HU HT1 hJ hY hJ1 h0
  rw [HX0.o]
  gi_wp2
  gi_loopw [4,5,6] (λt e i wr=>∃p,p<=v2/\t=.string (X p)/\e=.nilIface/\i=.int .i64 ((v2:Int) - 1 - (p:Int))/\Hid (UpAt E n₀ Bq Bw wd state kb (some ⟨gi,oi,none⟩) v2 v3 wy wr)/\Hid (J ((upsT (dgW wd) wy).take p) wr))
   (λt e i wr=>Jg3 i)
  case atStart=>
   exact ⟨0,Nat.zero_le _,rfl,rfl,by simp,HU1.o,HJ1.o⟩
  case round=>
   obtain ⟨p,hp,rfl,rfl,rfl,HUr,HJr⟩:=hrel
   have hul:=Zs (dgW wd) wy
   have hxg:=HXG.o p (by rw [<-HV2.o];exact hp)
   have htl:((upsT (dgW wd) wy).take p).length=p:=by rw [QB,hul,<-HV2.o];omega
   have htk:(upsT (dgW wd) wy).take p++[X p]=(upsT (dgW wd) wy).take (p+1):=by rw [List.take_add_one,hxg];rfl
   obtain ⟨fn,tmps,assign,body,hy,hR⟩:=HY.o _ (X p) wr HJr.o (by rw [htl];exact hxg)
   rw [htk] at hR
   have HTK:Hid ((upsT (dgW wd) wy).length=v2+1):=(by rw [hul,HV2.o]:(upsT (dgW wd) wy).length=v2+1)
   clear hul hxg htl htk
   gi_wp2
   refine ⟨λ_=>by omega,hR.mono ?_⟩
   clear hR hy
   rintro e W3 (⟨rfl,hJ3,hk3⟩ | ⟨rfl,hJx3⟩)
   ·have HU3:Hid (UpAt E n₀ Bq Bw wd state kb (some ⟨gi,oi,none⟩) v2 v3 wy W3):=HUr.o.keep hk3
    have HJ3:Hid (J _ W3):=hJ3
    clear hk3 hJ3 HUr HJr
    by_cases hpl:p<v2
    ·obtain ⟨j,hj⟩:∃j,p+j+1=v2:=⟨v2 - 1 - p,by omega⟩
     have ei:(v2:Int) - 1 - (p:Int)=(j:Int):=by omega
     rw [ei]
     have hjl:j<wy.1.length:=by rw [<-HV2.o];omega
     have HC:Hid (∀V,Tch NoB W3 V->(V.cell? ⟨Bq,0,none⟩=some (.int .i64 (wd:Int))/\V.cell? ⟨Bq,1,none⟩=some (.string state)/\V.cell? ⟨Bq,2,none⟩=some (.string kb)/\V.cell? ⟨Bw,0,none⟩=some (.slice (some ⟨gi,oi,none⟩) v2 v3)/\V.cell? ⟨Bw,2,none⟩=some (.string wk)/\V.cell? ⟨gi,oi+j * 2,none⟩=some (.int .i64 (wy.1[j].1:Int))/\V.cell? ⟨gi,oi+j * 2+1,none⟩=some (.string wy.1[j].2))):=λV hT=>by
      have hV:=HU3.o.next hT
      exact ⟨Ja hV.q,Ja hV.q,Ja hV.q,Ja hV.way,(by rw [<-HWK.o];exact Ja hV.way),(hV.cells j hjl).1,(hV.cells j hjl).2⟩
     have HABj:Hid (∀V,Tch NoB W3 V->Calls prog 343 _ V _):=λV hT=>HAB.o p j hjl (by rw [<-HV2.o];exact hj) V (HU3.o.next hT).env
     have HPJ:Hid _:=hj
     have hj0:(0:Int)<=(j:Int):=by omega
     have hj1:(j:Int)<(v2:Int):=by omega
     obtain ⟨sb,so,hsj⟩:∃sb so,wy.1[j]=(sb,so):=⟨_,_,rfl⟩
     rw [hsj] at HC HABj
     dsimp only at HC HABj
     clear hsj hjl
     obtain ⟨b0,b1,b2,b3,b4,b5,b6⟩:=HC.o W3 (Tch.refl _ _)
     clear hj ei hpl hp
     gi_wp2
     refine wpIn_wide.2 ?_
     go_region_held3 (λV=>V.cell? ⟨Bq,0,none⟩=some (.int .i64 (wd:Int))/\V.cell? ⟨Bq,1,none⟩=some (.string state)/\V.cell? ⟨Bq,2,none⟩=some (.string kb)/\V.cell? ⟨Bw,0,none⟩=some (.slice (some ⟨gi,oi,none⟩) v2 v3)/\V.cell? ⟨Bw,2,none⟩=some (.string wk)/\V.cell? ⟨gi,oi+j * 2,none⟩=some (.int .i64 (sb:Int))/\V.cell? ⟨gi,oi+j * 2+1,none⟩=some (.string so)) (go_keep) ((go_at_call 343;refine (HABj.o _ (Tch.drewN _ _ 1)).mono ?_;rintro _ w4 ⟨rfl,ht4⟩;have HT4:Hid (Tch NoB W3 w4):=(Tch.drewN NoB W3 1).go ht4;obtain ⟨d0,d1,d2,d3,d4,d5,d6⟩:=HC.o _ HT4.o;clear ht4))
     all_goals
      gi_wp2
      go_roundw
     case rel=>
      refine ⟨p+1,by have:=HPJ.o;omega,rfl,rfl,?_,HU3.o.next HT4.o,HJ.o _ _ _ HJ3.o HT4.o⟩
      have:=HPJ.o
      congr 1
      omega
     case measure=>
      have:=HPJ.o
      simp only [Jg3]
      omega
    ·have hne:¬(0:Int)<=(v2:Int) - 1 - (p:Int):=by omega
     have hpe:p=v2:=by omega
     have HPE:Hid (p=v2):=hpe
     clear hpl hp hpe
     gi_wp2
     refine bodyPost_end (v:=.tuple #[]) (results_none results341 _ _ _) rfl ?_
     refine ⟨⟨_,rfl⟩,.inl ⟨_,?_,HJ3.o⟩⟩
     exact List.take_of_length_le (by rw [HTK.o,HPE.o];exact Ql _)
   ·gi_wp2
    refine bodyPost_end (v:=.tuple #[]) (results_none results341 _ _ _) rfl ?_
    exact ⟨⟨_,rfl⟩,.inr ⟨_,List.take_prefix _ _,hJx3⟩⟩
theorem Ji4 (E:Nat->Addr) (n:Nat) (hn:2<=n) (Bq Bw n₀:Nat) (wd:Nat) (hw1:1<=wd) (hw:wd<=32) (state kb:BA) (v1:Option Addr) (v2 v3:Nat) (wy:Wy) (hok:WyOk wd wy) (w:World) (hU:UpAt E n₀ Bq Bw wd state kb v1 v2 v3 wy w):
  SeqStopsK Fence.wide n prog 341 #[.pointer (some ⟨Bq,0,none⟩),.pointer (some ⟨Bw,0,none⟩)] (λx:BA=> #[.string x,.nilIface]) (Jg7 n₀ Bq Bw) (λys=>ys=upsT (dgW wd) wy) (λpre=>pre <+:upsT (dgW wd) wy) (upsT (dgW wd) wy).length w:=λl J Jx W hW hJ _ hY h0=>
 JmY E n hn l Bq Bw n₀ wd hw1 hw state kb v1 v2 v3 wy hok J Jx (λpre W1 W2 h k=>hJ pre W1 W2 none h ⟨k.os,k.tape,k.output,k.size,λj hj _=>k.block j hj (λe=>e)⟩ (λr e=>by cases e)) (λpre x W hJ hx=>hY pre x W hJ (Qo.1 hx).1) W (hU.next ((Tch.of_below hW).mono (λ_ hj=>.inr hj))) h0
