import Derived.Test.YtighkdnooglfjaaGreatDoorSxTree9
import Derived.Test.YtighkdnooglfjaaGreatDoorSxTotal
namespace Go.Proofs.YtighkdnooglfjaaGreatDoor
open Tryz
set_option maxRecDepth 100000
set_option maxHeartbeats 1000000
open Go.RowKit

theorem Tch.go {S:Nat->Prop} {a b c:World} (h:Tch S a b) (k:Tch NoB b c):Tch S a c:=h.trans k noE
theorem Tch.dr {S:Nat->Prop} {a b:World} (h:Tch S a b) (n:Nat):Tch S a (b.drewN n):=h.go (Tch.drewN _ _ _)
theorem TrOk.pair {wd:Nat} {n one:Tr} {b a:Nat} (h1:TrOk wd n) (h2:TrOk wd one) (hb:b<8 * (wd+1)):TrOk wd (Tr.pair n one b a):=by
 unfold Tr.pair
 split
 ·exact ⟨hb,h2,h1⟩
 ·exact ⟨hb,h1,h2⟩
theorem TrOk.graft {wd:Nat} {t:Tr} {k:Key} {o:Nat×Nat} {d:Nat} (h:TrOk wd t) (hl:TrOk wd (.leaf k o)) (hd:d<8 * (wd+1)):TrOk wd (t.graft k o d):=by
 induction t with
 | leaf k' o'=>exact TrOk.pair h hl hd
 | br b l r ihl ihr=>
  unfold Tr.graft
  split
  ·exact TrOk.pair h hl hd
  ·split
   ·exact ⟨h.1,ihl h.2.1,h.2.2⟩
   ·exact ⟨h.1,h.2.1,ihr h.2.2⟩
theorem TrOk.cut {wd:Nat} {t:Tr} {k:Key} (h:TrOk wd t):StOk wd (t.cut k):=by
 induction t with
 | leaf k' o'=>exact trivial
 | br b l r ihl ihr=>
  unfold Tr.cut
  split
  ·have:=ihl h.2.1
   split
   ·exact h.2.2
   ·rename_i l' hl';rw [hl'] at this;exact ⟨h.1,this,h.2.2⟩
  ·have:=ihr h.2.2
   split
   ·exact h.2.1
   ·rename_i l' hl';rw [hl'] at this;exact ⟨h.1,h.2.1,this⟩
theorem TrOk.nearO {wd:Nat} {t:Tr} {k:Key} (h:TrOk wd t):Jy (t.near k).2:=by
 induction t with
 | leaf k' o=>exact h.2.2
 | br b l r ihl ihr=>
  unfold Tr.near
  split
  ·exact ihl h.2.1
  ·exact ihr h.2.2
theorem StOk.with {wd:Nat} {st st':Option Tr} {c:BA×Int} {o:Nat×Nat} (h:StOk wd st) (hc:Jo wd c) (ho:Jy o) (e:YO st (Jd c) o=.ok st'):StOk wd st':=by
 have hkl:(Jd c).length=wd+1:=Yg hc
 have hlf:TrOk wd (.leaf (Jd c) o):=Jby hc ho
 cases st with
 | none=>cases e;exact hlf
 | some t=>
  unfold YO at e
  simp only at e
  split at e
  ·cases e
  ·rename_i hne
   cases e
   have hnl:(t.near (Jd c)).1.length=wd+1:=TrOk.near h
   have:=(Jjl (t.near (Jd c)).1 (Jd c) (by omega) hne).1
   exact TrOk.graft h hlf (by omega)
theorem StOk.without {wd:Nat} {st st':Option Tr} {k:Key} {o:Nat×Nat} (h:StOk wd st) (e:JR st k=.ok (st',o)):StOk wd st'/\Jy o:=by
 cases st with
 | none=>cases e
 | some t=>
  unfold JR at e
  simp only at e
  split at e
  ·cases e
   exact ⟨TrOk.cut h,TrOk.nearO h⟩
  ·cases e
structure Yk (w:World) (N wd:Nat) (q:Option Nat) (id:BA):Prop where
 s:w.heap[N]? =some (.cells #[.int .i64 (wd:Int),Jj q] 146)
 i:w.heap[N+1]? =some (.cells #[.string id] 9)
theorem Yk.next {w w':World} {N wd:Nat} {q:Option Nat} {id:BA} (h:Yk w N wd q id) (k:Tch NoB w w'):Yk w' N wd q id:=
 ⟨(k.block _ (Jb h.s) (λh=>h)).trans h.s,(k.block _ (Jb h.i) (λh=>h)).trans h.i⟩
theorem Yk.put {w W:World} {N wd:Nat} {q:Option Nat} {id:BA} (h:Yk W N wd q id) (hT:Tch NoB w W) (width':Int) (q':Option Nat) (v':Option Addr) (hv:Jj q'=.pointer v'):
  Tch (λk=>k=N) w ((W.setCell ⟨N,0,none⟩ (.int .i64 width')).setCell ⟨N,1,none⟩ (.pointer v'))/\
  ((W.setCell ⟨N,0,none⟩ (.int .i64 width')).setCell ⟨N,1,none⟩ (.pointer v')).heap[N]? =some (.cells #[.int .i64 width',Jj q'] 146)/\
  ((W.setCell ⟨N,0,none⟩ (.int .i64 width')).setCell ⟨N,1,none⟩ (.pointer v')).heap[N+1]? =some (.cells #[.string id] 9)/\
  ∀d F q' st',StAt d F W q' st'->StAt d F ((W.setCell ⟨N,0,none⟩ (.int .i64 width')).setCell ⟨N,1,none⟩ (.pointer v')) q' st':=by
 rw [set2 W N _ _ _ _ _ h.s,hv]
 have t1:=Tch.setRow W N #[.int .i64 width',.pointer v']
 exact ⟨(hT.mono (S':=λk=>k=N) noE).trans t1 (λj hj=>.inl hj),Qi _ _ _ _ _ _ h.s,(t1.block _ (Jb h.i) (by omega)).trans h.i,λd F q' st' hs=>hs.row h.s (by decide)⟩
def Jms (E:Nat->Addr) (wd:Nat) (F:Nat->Prop) (N:Nat) (id:BA) (r:Except Er (Option Tr)) (e:Ending) (w':World):Prop:=match r with
 | .ok st'=>∃q',e=.returned .nilIface/\Yk w' N wd q' id/\StAt (dgW wd) F w' q' st'
 | .error _=>e=.returned (eV E 2)/\Yk w' N 0 none id
theorem Jfi (E:Nat->Addr) (wd:Nat) (hw1:1<=wd) (hw:wd<=32) (F:Nat->Prop) (N:Nat) (q:Option Nat) (st:Option Tr) (id:BA) (i:Nat) (hc:Jo wd (id,(i:Int))) (o:Nat×Nat) (ho:Jy o) (w:World) (hE:Env E w) (hF:∀j,w.heap.size<=j->F j) (hB:Yk w N wd q id) (hs:StAt (dgW wd) F w q st) (hok:StOk wd st):
  Calls prog 190 #[.int .i64 (i:Int),.agg #[.int .u64 (o.1:Int),.int .u8 (o.2:Int)],.pointer (some ⟨N,0,none⟩),.pointer (some ⟨N+1,0,none⟩)] w λe w'=>Tch (λk=>k=N) w w'/\Jms E wd F N id (YO st (Jd (id,(i:Int))) o) e w':=by
 have HW:Hid (∀W,Tch NoB w W->Calls prog 191 #[JC wd q,.agg #[.string id,.int .i64 (i:Int)],.agg #[.int .u64 (o.1:Int),.int .u8 (o.2:Int)]] W λe w'=>Tch NoB W w'/\JiW E wd F (YO st (Jd (id,(i:Int))) o) e w'):=λW hT=>
  Jkt E wd hw1 hw F q st (id,(i:Int)) hc o ho W (hE.tch hT noE) (λj hj=>hF j (Qm hT.size hj)) (hs.next hT) hok
 have HBX:Hid (Yk w N wd q id):=hB
 obtain ⟨rv,hrv⟩:∃rv,Jj q=.pointer rv:=⟨_,rfl⟩
 have hNb:N+1<w.heap.size:=(Jb hB.i)
 have hNs:N<w.heap.size:=by omega
 have a0:w.cell? ⟨N,0,none⟩=some (.int .i64 (wd:Int)):=Ja hB.s
 have a1:w.cell? ⟨N,1,none⟩=some (.pointer rv):=by rw [<-hrv];exact Ja hB.s
 have a2:w.cell? ⟨N+1,0,none⟩=some (.string id):=Ja hB.i
 have HRV:Hid (Jj q=.pointer rv):=hrv
 unfold JC at HW
 rw [hrv] at HW
 generalize hR:YO st (Jd (id,(i:Int))) o=R at *
 clear hE hF hB hs hok hrv hc ho
 obtain ⟨oa,oo⟩:=o
 dsimp only at HW ⊢
 have HTA:Hid (∀k,Tch NoB w ((w.alloc (.cells #[.int .u64 (oa:Int),.int .u8 (oo:Int)] 80)).drewN k)):=λk=>(Tch.alloc _ _ _).dr k
 go_enter func190,ntmps190
 go_wp2_with fail
 refine (HW.o _ (HTA.o 0)).mono ?_
 have HR:Hid (_=R):=hR
 clear hR HW a0 a1 a2
 cases R with
 | ok st'=>
  rintro _ w2 ⟨ht2,q2,rfl,hs2⟩
  have hT:Tch NoB w w2:=(HTA.o 0).go ht2
  have b2:=HBX.o.next hT
  have HB2:Hid (Yk w2 N wd q id):=b2
  have c0:w2.cell? ⟨N,0,none⟩=some (.int .i64 (wd:Int)):=Ja b2.s
  have c1:w2.cell? ⟨N,1,none⟩=some (.pointer rv):=by rw [<-HRV.o];exact Ja b2.s
  have fN:∀j,w2.frozen? ⟨N,j,none⟩=false:=λj=>Qg _ _ _ _ _ b2.s
  have HT:Hid (Tch NoB w w2):=hT
  have HS2:Hid (StAt (dgW wd) F w2 q2 st'):=hs2
  clear hT ht2 hs2 b2 HTA
  unfold JC
  obtain ⟨v2,hv2⟩:∃v,Jj q2=.pointer v:=⟨_,rfl⟩
  rw [hv2]
  have HV2:Hid (Jj q2=.pointer v2):=hv2
  clear hv2
  go_wp2
  go_ret
  obtain ⟨p1,p2,p3,p4⟩:=HB2.o.put HT.o wd q2 v2 HV2.o
  exact ⟨p1,q2,rfl,⟨p2,p3⟩,p4 _ _ _ _ HS2.o⟩
 | error er=>
  rintro _ w2 ⟨ht2,rfl⟩
  have hT:Tch NoB w w2:=(HTA.o 0).go ht2
  have b2:=HBX.o.next hT
  have HB2:Hid (Yk w2 N wd q id):=b2
  have c0:w2.cell? ⟨N,0,none⟩=some (.int .i64 (wd:Int)):=Ja b2.s
  have c1:w2.cell? ⟨N,1,none⟩=some (.pointer rv):=by rw [<-HRV.o];exact Ja b2.s
  have fN:∀j,w2.frozen? ⟨N,j,none⟩=false:=λj=>Qg _ _ _ _ _ b2.s
  have HT:Hid (Tch NoB w w2):=hT
  clear hT ht2 b2 HTA
  go_wp2
  go_ret
  obtain ⟨p1,p2,p3,p4⟩:=HB2.o.put HT.o 0 none none rfl
  exact ⟨p1,rfl,p2,p3⟩

def erG:Er->Nat
 | .form=>7
 | .tip=>0
 | .input=>1
 | .exist=>2
 | .sum=>3
 | .root=>4
 | .range=>5
theorem JiH {st:Option Tr} {k:Key} {o:Nat×Nat} {er:Er} (h:YO st k o=.error er):er=.exist:=by
 unfold YO at h
 split at h
 ·cases h
 ·split at h
  ·cases h;rfl
  ·cases h
theorem Jew {st:Option Tr} {k:Key} {er:Er} (h:JR st k=.error er):er=.input:=by
 unfold JR at h
 split at h
 ·cases h;rfl
 ·split at h
  ·cases h
  ·cases h;rfl
theorem Jhs (fv:Value) (what:BA) (w:World):Calls prog 189 #[.string what,.slice none 0 0,fv] w λe w'=>e=.returned .nilIface/\w=w':=by
 go_enter func189,ntmps189
 go_wp2
 go_loopw [12] (λi wr=>i=.int .i64 0/\w=wr) (λi _=>0)
 case atStart=>exact ⟨rfl,rfl⟩
 case round=>
  obtain ⟨rfl,rfl⟩:=hrel
  go_wp2
  go_ret
  exact ⟨rfl,rfl⟩
theorem Jdg (id:BA) (i:Nat) (outs:List (Nat×Nat)) (h:i<outs.length) (st:Option Tr):JV id i (outs.drop i) st=match YO st (Jd (id,(i:Int))) outs[i] with
  | .error e=>.error e
  | .ok st1=>JV id (i+1) (outs.drop (i+1)) st1:=by
 rw [List.drop_eq_getElem_cons h]
 rfl
theorem XC {S:Nat->Prop} {w W:World} {g:Nat} {a b:Value} (h:W.heap[g]? =some (.cells #[a,b] 146)) (hT:Tch S w W) (hg:w.heap.size<=g) (v0 v1:Value):
  ((W.setCell ⟨g,0,none⟩ v0).setCell ⟨g,1,none⟩ v1).heap[g]? =some (.cells #[v0,v1] 146)/\Tch S w ((W.setCell ⟨g,0,none⟩ v0).setCell ⟨g,1,none⟩ v1)/\
  (∀d F q' st',StAt d F W q' st'->StAt d F ((W.setCell ⟨g,0,none⟩ v0).setCell ⟨g,1,none⟩ v1) q' st')/\∀E k v,Jl E k W v->Jl E k ((W.setCell ⟨g,0,none⟩ v0).setCell ⟨g,1,none⟩ v1) v:=by
 rw [set2 W g _ _ _ _ _ h]
 have t1:=Tch.setRow W g #[v0,v1]
 refine ⟨Qi _ _ _ _ _ _ h,hT.trans t1 (λj hj=>.inr (by omega)),λd F q' st' hs=>hs.row h (by decide),λE k v he=>he.tch t1 ?_⟩
 rintro p s u hp rfl
 rw [h] at hp
 injection hp with hp
 injection hp with _ h2
 exact absurd h2 (by decide)
structure JdR (wd:Nat) (F:Nat->Prop) (id:BA) (outs:List (Nat×Nat)) (R:Except Er (Option Tr)) (w0:World) (N:Nat) (i:Nat) (w:World) (q:Option Nat) (st:Option Tr):Prop where
 box:Yk w N wd q id
 at_:StAt (dgW wd) F w q st
 ok:StOk wd st
 eq:JV id i (outs.drop i) st=R
 tch:Tch (λk=>k=N) w0 w
def JiM (E:Nat->Addr) (id:BA) (R:Except Er (Option Tr)) (w0:World) (N:Nat) (v:Value) (w:World):Prop:=v=eV E 2/\R=.error .exist/\Yk w N 0 none id/\Tch (λk=>k=N) w0 w
theorem Jdh (E:Nat->Addr) (wd:Nat) (hw1:1<=wd) (hw:wd<=32) (F:Nat->Prop) (id:BA) (hid:id.size=wd) (outs:List (Nat×Nat)) (ho:∀o∈outs,Jy o) (h3:outs.length<=3) (R:Except Er (Option Tr)) (w0:World) (hE:Env E w0) (hF:∀j,w0.heap.size<=j->F j) (N:Nat) (hN:18<=N) (g off:Nat) (hg:g<N) (hz:g<w0.heap.size)
  (hr:∀i (h:i<outs.length),w0.cell? ⟨g,off+i * 2,none⟩=some (.int .u64 ((outs[i].1:Nat):Int))/\w0.cell? ⟨g,off+i * 2+1,none⟩=some (.int .u8 ((outs[i].2:Nat):Int))):
  ZC 190 #[.pointer (some ⟨N,0,none⟩),.pointer (some ⟨N+1,0,none⟩)] g off outs.length (λi=>(outs.map encO).getD i zO) (λi w=>∃q st,JdR wd F id outs R w0 N i w q st) (JiM E id R w0 N):=by
 have hx:∀i (h:i<outs.length),(outs.map encO).getD i zO=encO outs[i]:=λi h=>by simp [List.getD_eq_getElem?_getD,h]
 refine ⟨λ_ _=>rfl,?_,?_,?_⟩
 ·rintro i w hi ⟨q,st,I⟩
  rw [hx i hi]
  have hc:∀o,w.cell? ⟨g,o,none⟩=w0.cell? ⟨g,o,none⟩:=λo=>I.tch.cell (p:=⟨g,o,none⟩) hz (by show ¬g=N;omega)
  rw [hc,hc]
  exact hr i hi
 ·rintro i w o ⟨q,st,I⟩
  have ha:=Tch.alloc NoB w o
  exact ⟨q,st,I.box.next ha,I.at_.next ha,I.ok,I.eq,I.tch.go ha⟩
 ·rintro i w hi ⟨q,st,I⟩
  rw [hx i hi]
  have hco:Jo wd (id,(i:Int)):=⟨hid,by omega,by show (i:Int)<3;omega⟩
  have hoo:Jy outs[i]:=ho _ (Qx hi)
  refine (Jfi E wd hw1 hw F N q st id i hco outs[i] hoo w (hE.tch I.tch (λj hj=>by subst hj;exact hN)) (λj hj=>hF j (Qm I.tch.size hj)) I.box I.at_ I.ok).mono ?_
  rintro e w' ⟨ht,hr⟩
  have e1:=I.eq
  rw [Jdg id i outs hi] at e1
  have hT:Tch (λk=>k=N) w0 w':=I.tch.trans ht (λj hj=>.inl hj)
  cases hres:YO st (Jd (id,(i:Int))) outs[i] with
  | ok st'=>
   rw [hres] at hr e1
   obtain ⟨q',rfl,hb,hs⟩:=hr
   exact .inl ⟨rfl,q',st',hb,hs,I.ok.with hco hoo hres,e1,hT⟩
  | error er=>
   rw [hres] at hr e1
   obtain ⟨rfl,hb⟩:=hr
   have:=JiH hres
   subst this
   exact .inr ⟨_,_,rfl,rfl,e1.symm,hb,hT⟩
def JlE (E:Nat->Addr) (wd:Nat) (F:Nat->Prop) (r:Except Er (Option Tr)) (e:Ending) (w':World):Prop:=match r with
 | .ok st'=>∃q',e=.returned (.tuple #[JC wd q',.nilIface])/\StAt (dgW wd) F w' q' st'/\StOk wd st'
 | .error er=>∃v,e=.returned (.tuple #[JC 0 none,v])/\Jl E (erG er) w' v/\er=.exist
theorem JbX (E:Nat->Addr) (wd:Nat) (hw1:1<=wd) (hw:wd<=32) (F:Nat->Prop) (q:Option Nat) (st:Option Tr) (id:BA) (hid:id.size=wd) (v:Value) (outs:List (Nat×Nat)) (ho:∀o∈outs,Jy o) (h3:outs.length<=3) (w:World) (hE:Env E w) (hF:∀j,w.heap.size<=j->F j) (hv:Jt w.heap.size w v outs) (hs:StAt (dgW wd) F w q st) (hok:StOk wd st):
  Calls prog 126 #[JC wd q,.string id,v] w λe w'=>Tch NoB w w'/\JlE E wd F (JV id 0 outs st) e w':=by
 obtain ⟨rv,hrv⟩:∃rv,Jj q=.pointer rv:=⟨_,rfl⟩
 obtain ⟨W,hW⟩:∃W,W=((w.alloc (.cells #[.int .i64 (wd:Int),.pointer rv] 146)).alloc (.cells #[.string id] 9)).alloc (.cells #[.int .i64 0,.pointer none] 146):=⟨_,rfl⟩
 have hA:Tch NoB w W:=by rw [hW];exact Tch.allocs3 _ _ _ _ _
 have hbx:Yk W w.heap.size wd q id:=by rw [hW,hrv.symm];exact ⟨Js _ _ _ _,Jp _ _ _ _⟩
 have hro:W.heap[w.heap.size+1+1]? =some (.cells #[.int .i64 0,.pointer none] 146):=by rw [hW];exact Jm _ _ _ _
 generalize hR:JV id 0 outs st=R
 have hEW:=hE.tch hA noE
 have hi0:JdR wd F id outs R W w.heap.size 0 W q st:=⟨hbx,hs.next hA,hok,hR,Tch.refl _ _⟩
 have HEA:Hid (∀what:BA,what.size<=1000->Calls prog 189 #[.string what,v,.func (.func 190) #[] #[.pointer (some ⟨w.heap.size,0,none⟩),.pointer (some ⟨w.heap.size+1,0,none⟩)]] W λe w'=>ToE (λi w'=>∃q st,JdR wd F id outs R W w.heap.size i w' q st) (JiM E id R W w.heap.size) outs.length e w'):=λwhat hwh=>by
  rcases hv with ⟨rfl,rfl⟩ | ⟨gi,oi,c,rfl,h1,h2,h3'⟩
  ·refine (Jhs _ _ _).mono ?_
   rintro _ _ ⟨rfl,rfl⟩
   exact .inl ⟨rfl,q,st,hi0⟩
  ·refine Jjg _ _ _ _ _ _ _ _ (λi hi=>?_) _ _ (Jdh E wd hw1 hw F id hid outs ho h3 R W hEW (λj hj=>hF j (Qm hA.size hj)) w.heap.size hE.size gi oi h1 (Qk h2 hA.size) (λi hi=>?_)) h3 hwh W ⟨q,st,hi0⟩
   ·simp only [Qn,List.getElem?_map,Qd hi];exact ⟨_,_,rfl⟩
   ·have hc:∀o,W.cell? ⟨gi,o,none⟩=w.cell? ⟨gi,o,none⟩:=λo=>hA.cell (p:=⟨gi,o,none⟩) h2 (λh=>h)
    rw [hc,hc];exact h3' i hi
 obtain ⟨ia,ic,hvs⟩:=hv.shape
 have HRV:Hid (Jj q=.pointer rv):=hrv
 have HRO:Hid (W.heap[w.heap.size+1+1]? =_):=hro
 have HA:Hid (Tch NoB w W):=hA
 have hmf:∀(fn:Fn) (first cap:Array Value) (w:World),(Instr.makeFunc fn first cap).run prog w=.ok (.func fn first cap) w:=λ_ _ _ _=>rfl
 have HW:Hid (W=_):=hW
 subst hvs
 unfold JC
 rw [hrv]
 clear hE hF hv hs hok hrv hro hA hi0 hEW hbx hW ho h3 hid hR
 go_enter func126,ntmps126
 go_wp2_with fail
 rw [<-HW.o]
 refine (HEA.o _ (by decide)).mono ?_
 rintro e w2 (⟨rfl,q2,st2,I⟩ | ⟨p,sx,vx,w1,rfl,hp,⟨rfl,hR,hb,ht⟩,hbl⟩)
 ·have hsR:=(Jb HRO.o)
  have hr2:w2.heap[w.heap.size+1+1]? =some (.cells #[.int .i64 0,.pointer none] 146):=(I.tch.block _ hsR (by omega)).trans HRO.o
  obtain ⟨v2,hv2⟩:∃v,Jj q2=.pointer v:=⟨_,rfl⟩
  have c0:w2.cell? ⟨w.heap.size,0,none⟩=some (.int .i64 (wd:Int)):=Ja I.box.s
  have c1:w2.cell? ⟨w.heap.size,1,none⟩=some (.pointer v2):=by rw [<-hv2];exact Ja I.box.s
  have r0:w2.cell? ⟨w.heap.size+1+1,0,none⟩=some (.int .i64 0):=Ja hr2
  have r1:w2.cell? ⟨w.heap.size+1+1,1,none⟩=some (.pointer none):=Ja hr2
  have fR:∀j,w2.frozen? ⟨w.heap.size+1+1,j,none⟩=false:=λj=>Qg _ _ _ _ _ hr2
  have HR2:Hid (w2.heap[w.heap.size+1+1]? =_):=hr2
  have HI:Hid (JdR wd F id outs R W w.heap.size outs.length w2 q2 st2):=I
  have HV2:Hid (Jj q2=.pointer v2):=hv2
  have hz2:w.heap.size+1+1<w2.heap.size:=(Jb hr2)
  clear I hr2 hv2 HEA hsR
  go_wp2
  obtain ⟨p1,p2,p3,_⟩:=XC HR2.o ((HA.o.trans HI.o.tch (λj hj=>.inr (by omega))):Tch NoB w w2) (by omega) (.int .i64 (wd:Int)) (.pointer v2)
  refine QJ (v:=.tuple #[.agg #[.int .i64 (wd:Int),.pointer v2],.nilIface]) (Ji results126 _ _ (w.heap.size+1+1) _ _ (0,0) _ rfl p1 underlying146 rfl (by kernel_rfl)) rfl ⟨p2,?_⟩
  have e1:=HI.o.eq
  rw [List.drop_length] at e1
  rw [<-e1]
  exact ⟨q2,by rw [JC,HV2.o],p3 _ _ _ _ HI.o.at_,HI.o.ok⟩
 ·have hsR:=(Jb HRO.o)
  have hr1:w1.heap[w.heap.size+1+1]? =some (.cells #[.int .i64 0,.pointer none] 146):=(ht.block _ hsR (by omega)).trans HRO.o
  have hz1:=(Jb hr1)
  have hr2:w2.heap[w.heap.size+1+1]? =some (.cells #[.int .i64 0,.pointer none] 146):=(hbl.block _ hz1).trans hr1
  have hs2:w2.heap[w.heap.size]? =some (.cells #[.int .i64 0,.pointer none] 146):=(hbl.block _ (Jb hb.s)).trans hb.s
  have hz2:w.heap.size+1+1<w2.heap.size:=(Jb hr2)
  have c0:w2.cell? ⟨w.heap.size,0,none⟩=some (.int .i64 0):=Ja hs2
  have c1:w2.cell? ⟨w.heap.size,1,none⟩=some (.pointer none):=Ja hs2
  have r0:w2.cell? ⟨w.heap.size+1+1,0,none⟩=some (.int .i64 0):=Ja hr2
  have r1:w2.cell? ⟨w.heap.size+1+1,1,none⟩=some (.pointer none):=Ja hr2
  have fR:∀j,w2.frozen? ⟨w.heap.size+1+1,j,none⟩=false:=λj=>Qg _ _ _ _ _ hr2
  have HR2:Hid (w2.heap[w.heap.size+1+1]? =_):=hr2
  have HT2:Hid (Tch (λk=>k=w.heap.size) W w2):=ht.trans (Tch.of_below hbl) (λj hj=>.inr (Qm ht.size hj))
  have HP:Hid (w2.heap[p]? =_):=hp
  have HR:Hid (R=_):=hR
  clear hr1 hr2 hs2 hbl ht hb hp hR HEA hsR hz1
  go_wp2
  obtain ⟨p1,p2,p3,p4⟩:=XC HR2.o ((HA.o.trans HT2.o (λj hj=>.inr (by omega))):Tch NoB w w2) (by omega) (.int .i64 0) (.pointer none)
  refine QJ (v:=.tuple #[.agg #[.int .i64 0,.pointer none],.iface 235 (.pointer (some ⟨p,0,none⟩))]) (Ji results126 _ _ (w.heap.size+1+1) _ _ (0,0) _ rfl p1 underlying146 rfl (by kernel_rfl)) rfl ⟨p2,?_⟩
  rw [HR.o]
  exact ⟨_,rfl,p4 _ _ _ (.wrap p _ _ HP.o .base),rfl⟩

structure YI (w:World) (N wd:Nat) (q:Option Nat) (M G n:Nat) (sp:List VV):Prop where
 s:w.heap[N]? =some (.cells #[.int .i64 (wd:Int),Jj q] 146)
 m:w.heap[M]? =some (.cells #[.slice (some ⟨G,0,none⟩) n n] 22)
 g:w.heap[G]? =some (.cells (vvA sp) 80)
 len:sp.length=n
theorem YI.next {w w':World} {N wd:Nat} {q:Option Nat} {M G n:Nat} {sp:List VV} (h:YI w N wd q M G n sp) (k:Tch NoB w w'):YI w' N wd q M G n sp:=
 ⟨(k.block _ (Jb h.s) (λh=>h)).trans h.s,(k.block _ (Jb h.m) (λh=>h)).trans h.m,(k.block _ (Jb h.g) (λh=>h)).trans h.g,h.len⟩
theorem YI.cells {w:World} {N wd:Nat} {q:Option Nat} {M G n:Nat} {sp:List VV} (h:YI w N wd q M G n sp) (rv:Option Addr) (hrv:Jj q=.pointer rv) (i:Nat) (hi:i<n):w.cell? ⟨N,0,none⟩=some (.int .i64 (wd:Int))/\w.cell? ⟨N,1,none⟩=some (.pointer rv)/\w.cell? ⟨M,0,none⟩=some (.slice (some ⟨G,0,none⟩) n n)/\
  (∃x0 y0,w.cell? ⟨G,i * 2,none⟩=some x0/\w.cell? ⟨G,i * 2+1,none⟩=some y0)/\(∀j,w.frozen? ⟨N,j,none⟩=false)/\(∀j,w.frozen? ⟨G,j,none⟩=false):=by
 refine ⟨Ja h.s,?_,Ja h.m,?_,λj=>Qg _ _ _ _ _ h.s,λj=>Qg _ _ _ _ _ h.g⟩
 ·rw [<-hrv];exact Ja h.s
 ·obtain ⟨e0,e1⟩:=Yq sp i (by rw [h.len];exact hi)
  exact ⟨_,_,(Ja h.g).trans e0,(Ja h.g).trans e1⟩
theorem YI.apart {w:World} {N wd:Nat} {q:Option Nat} {M G n:Nat} {sp:List VV} (h:YI w N wd q M G n sp):N ≠ G/\M ≠ G/\N ≠ M:=by
 have h1:=h.s
 have h2:=h.m
 have h3:=h.g
 refine ⟨?_,?_,?_⟩
 ·rintro rfl;rw [h1] at h3;simp at h3
 ·rintro rfl;rw [h2] at h3;simp at h3
 ·rintro rfl;rw [h1] at h2;simp at h2
theorem YI.put {w W:World} {N wd:Nat} {q:Option Nat} {M G n:Nat} {sp:List VV} (h:YI W N wd q M G n sp) (hT:Tch NoB w W) (i:Nat) (hi:i<n) (width':Nat) (q':Option Nat) (v':Option Addr) (hv:Jj q'=.pointer v') (a o:Value):
  Tch (λk=>k=N\/k=G) w ((((W.setCell ⟨N,0,none⟩ (.int .i64 (width':Int))).setCell ⟨N,1,none⟩ (.pointer v')).setCell ⟨G,i * 2,none⟩ a).setCell ⟨G,i * 2+1,none⟩ o)/\
  YI ((((W.setCell ⟨N,0,none⟩ (.int .i64 (width':Int))).setCell ⟨N,1,none⟩ (.pointer v')).setCell ⟨G,i * 2,none⟩ a).setCell ⟨G,i * 2+1,none⟩ o) N width' q' M G n (sp.set i (a,o))/\
  ∀d F q' st',StAt d F W q' st'->StAt d F ((((W.setCell ⟨N,0,none⟩ (.int .i64 (width':Int))).setCell ⟨N,1,none⟩ (.pointer v')).setCell ⟨G,i * 2,none⟩ a).setCell ⟨G,i * 2+1,none⟩ o) q' st':=by
 obtain ⟨hNG,hMG,hNM⟩:=h.apart
 rw [set2 W N _ _ _ _ _ h.s]
 have t1:=Tch.setRow W N #[.int .i64 (width':Int),.pointer v']
 have g1:(W.setRow N #[.int .i64 (width':Int),.pointer v']).heap[G]? =some (.cells (vvA sp) 80):=(t1.block _ (Jb h.g) (by omega)).trans h.g
 have m1:(W.setRow N #[.int .i64 (width':Int),.pointer v']).heap[M]? =some (.cells #[.slice (some ⟨G,0,none⟩) n n] 22):=(t1.block _ (Jb h.m) (by omega)).trans h.m
 have s1:(W.setRow N #[.int .i64 (width':Int),.pointer v']).heap[N]? =some (.cells #[.int .i64 (width':Int),.pointer v'] 146):=Qi _ _ _ _ _ _ h.s
 have k1:∀d F q' st',StAt d F W q' st'->StAt d F (W.setRow N #[.int .i64 (width':Int),.pointer v']) q' st':=λd F q' st' hs=>hs.row h.s (by decide)
 have T1:Tch (λk=>k=N\/k=G) w (W.setRow N #[.int .i64 (width':Int),.pointer v']):=(hT.mono noE).trans t1 (λj hj=>.inl (.inl hj))
 generalize W.setRow N #[.int .i64 (width':Int),.pointer v']=W1 at *
 rw [Qj W1 G (i * 2) _ _ (0,0) _ g1,Qj _ G (i * 2+1) _ _ (0,0) _ (Qi _ _ _ _ _ _ g1),QI,Jg9 sp i a o (by rw [h.len];exact hi)]
 have t2:=Tch.setRow W1 G (vvA (sp.set i (a,o)))
 refine ⟨T1.trans t2 (λj hj=>.inl (.inr hj)),⟨?_,(t2.block _ (Jb m1) (by omega)).trans m1,Qi _ _ _ _ _ _ g1,by rw [List.length_set];exact h.len⟩,λd F q' st' hs=>(k1 _ _ _ _ hs).row g1 (by decide)⟩
 rw [hv]
 exact (t2.block _ (Jb s1) (by omega)).trans s1
def SpTo (E:Nat->Addr) (wd:Nat) (F:Nat->Prop) (N M G n i:Nat) (sp:List VV) (r:Except Er (Option Tr×(Nat×Nat))) (e:Ending) (w':World):Prop:=match r with
 | .ok (st',o)=>∃q',e=.returned .nilIface/\YI w' N wd q' M G n (sp.set i (encO o))/\StAt (dgW wd) F w' q' st'
 | .error _=>e=.returned (eV E 1)/\YI w' N 0 none M G n (sp.set i zO)
theorem Jik (E:Nat->Addr) (wd:Nat) (hw1:1<=wd) (hw:wd<=32) (F:Nat->Prop) (N:Nat) (q:Option Nat) (st:Option Tr) (M G n:Nat) (sp:List VV) (i:Nat) (hi:i<n) (c:BA×Int) (hc:Jo wd c) (w:World) (hE:Env E w) (hF:∀j,w.heap.size<=j->F j) (hB:YI w N wd q M G n sp) (hs:StAt (dgW wd) F w q st) (hok:StOk wd st):
  Calls prog 283 #[.int .i64 (i:Int),.agg #[.string c.1,.int .i64 c.2],.pointer (some ⟨N,0,none⟩),.pointer (some ⟨M,0,none⟩)] w λe w'=>Tch (λk=>k=N\/k=G) w w'/\SpTo E wd F N M G n i sp (JR st (Jd c)) e w':=by
 have HW:Hid (∀W,Tch NoB w W->Calls prog 284 #[JC wd q,.agg #[.string c.1,.int .i64 c.2]] W λe w'=>Tch NoB W w'/\WoTo E wd F (JR st (Jd c)) e w'):=λW hT=>
  JfL E wd hw1 hw F q st c hc W (hE.tch hT noE) (λj hj=>hF j (Qm hT.size hj)) (hs.next hT) hok
 have HBX:Hid (YI w N wd q M G n sp):=hB
 obtain ⟨rv,hrv⟩:∃rv,Jj q=.pointer rv:=⟨_,rfl⟩
 have hNs:N<w.heap.size:=(Jb hB.s)
 have hMs:M<w.heap.size:=(Jb hB.m)
 have hGs:G<w.heap.size:=(Jb hB.g)
 have a0:w.cell? ⟨N,0,none⟩=some (.int .i64 (wd:Int)):=Ja hB.s
 have a1:w.cell? ⟨N,1,none⟩=some (.pointer rv):=by rw [<-hrv];exact Ja hB.s
 have a2:w.cell? ⟨M,0,none⟩=some (.slice (some ⟨G,0,none⟩) n n):=Ja hB.m
 obtain ⟨hNG,hMG,hNM⟩:=hB.apart
 have hGN:=hNG.symm
 have hGM:=hMG.symm
 have hMN:=hNM.symm
 have hii:(i:Int)<(n:Int):=by omega
 have hi0:(0:Int)<=(i:Int):=by omega
 have HRV:Hid (Jj q=.pointer rv):=hrv
 unfold JC at HW
 rw [hrv] at HW
 generalize hR:JR st (Jd c)=R at *
 clear hE hF hB hs hok hrv hc
 obtain ⟨cs,cn⟩:=c
 dsimp only at HW ⊢
 have HTA:Hid (∀k,Tch NoB w ((w.alloc (.cells #[.string cs,.int .i64 cn] 49)).drewN k)):=λk=>(Tch.alloc _ _ _).dr k
 go_enter func283,ntmps283
 go_wp2_with fail
 cases R with
 | ok r=>
  obtain ⟨st',o⟩:=r
  go_region_with (go_at_call 284;refine (HW.o _ (HTA.o 1)).mono ?_;rintro _ w2 ⟨ht2,q2,rfl,hs2⟩;have hT:Tch NoB w w2:=(HTA.o 1).go ht2;obtain ⟨b0,b1,b2,⟨x0,y0,b3,b4⟩,fN,fG⟩:=(HBX.o.next hT).cells rv HRV.o i hi;obtain ⟨v2,hv2⟩:∃v,Jj q2=.pointer v:=⟨_,rfl⟩;have HV2:Hid (Jj q2=.pointer v2):=hv2;unfold JC;rw [hv2];have HT:Hid (Tch NoB w w2):=hT;have HS2:Hid (StAt _ _ _ _ _):=hs2;clear hv2 hT ht2 hs2)
  all_goals
   go_wp2
   go_ret
   obtain ⟨p1,p2,p3⟩:=(HBX.o.next HT.o).put HT.o i hi wd q2 v2 HV2.o (.int .u64 (o.1:Int)) (.int .u8 (o.2:Int))
   exact ⟨p1,q2,rfl,p2,p3 _ _ _ _ HS2.o⟩
 | error er=>
  go_region_with (go_at_call 284;refine (HW.o _ (HTA.o 1)).mono ?_;rintro _ w2 ⟨ht2,rfl⟩;have hT:Tch NoB w w2:=(HTA.o 1).go ht2;obtain ⟨b0,b1,b2,⟨x0,y0,b3,b4⟩,fN,fG⟩:=(HBX.o.next hT).cells rv HRV.o i hi;have HT:Hid (Tch NoB w w2):=hT;clear hT ht2)
  all_goals
   go_wp2
   go_ret
   obtain ⟨p1,p2,p3⟩:=(HBX.o.next HT.o).put HT.o i hi 0 none none rfl (.int .u64 0) (.int .u8 0)
   exact ⟨p1,rfl,p2⟩
