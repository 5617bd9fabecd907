import Derived.Test.YtighkdnooglfjaaGreatDoorPcTreeA
import Derived.Test.YtighkdnooglfjaaGreatDoorPcKHeld
namespace Go.Proofs.YtighkdnooglfjaaGreatDoor
open Tryz
set_option maxRecDepth 100000
set_option maxHeartbeats 1000000
open Go.RowKit

theorem Tch.go {S:Nat->Prop} {a b c:World} (h:Tch S a b) (k:Tch NoB b c):Tch S a c:=h.trans k noE
theorem Tch.dr {S:Nat->Prop} {a b:World} (h:Tch S a b) (n:Nat):Tch S a (b.drewN n):=h.go (Td _ _ _)
theorem TrOk.pair {wd:Nat} {n one:Tr} {b a:Nat} (h1:TrOk wd n) (h2:TrOk wd one) (hb:b<8 * (wd+1)):TrOk wd (Tr.pair n one b a):=by
 unfold Tr.pair
 split
 ·exact ⟨hb,h2,h1⟩
 ·exact ⟨hb,h1,h2⟩
theorem TrOk.graft {wd:Nat} {t:Tr} {k:Key} {o:Nat×Nat} {d:Nat} (h:TrOk wd t) (hl:TrOk wd (.leaf k o)) (hd:d<8 * (wd+1)):TrOk wd (t.graft k o d):=by
 induction t using Tr.ri with
 | leaf k' o'=>exact TrOk.pair h hl hd
 | br b l r ihl ihr=>
  unfold Tr.graft
  split
  ·exact TrOk.pair h hl hd
  ·split
   ·exact ⟨h.1,ihl h.2.1,h.2.2⟩
   ·exact ⟨h.1,h.2.1,ihr h.2.2⟩
theorem TrOk.cut {wd:Nat} {t:Tr} {k:Key} (h:TrOk wd t):StOk wd (t.cut k):=by
 induction t using Tr.ri with
 | leaf k' o'=>exact trivial
 | br b l r ihl ihr=>
  unfold Tr.cut
  split
  ·have:=ihl h.2.1
   split
   ·exact h.2.2
   ·rename_i l' hl';rw [hl'] at this;exact ⟨h.1,this,h.2.2⟩
  ·have:=ihr h.2.2
   split
   ·exact h.2.1
   ·rename_i l' hl';rw [hl'] at this;exact ⟨h.1,h.2.1,this⟩
theorem TrOk.nearO {wd:Nat} {t:Tr} {k:Key} (h:TrOk wd t):Jq (t.near k).2:=by
 induction t using Tr.ri with
 | leaf k' o=>exact h.2.2
 | br b l r ihl ihr=>
  unfold Tr.near
  split
  ·exact ihl h.2.1
  ·exact ihr h.2.2
theorem StOk.with {wd:Nat} {st st':Option Tr} {c:BA×Int} {o:Nat×Nat} (h:StOk wd st) (hc:Jr wd c) (ho:Jq o) (e:XZ st (Jd c) o=.ok st'):StOk wd st':=by
 have hkl:(Jd c).length=wd+1:=XH hc
 have hlf:TrOk wd (.leaf (Jd c) o):=Jb3 hc ho
 cases st with
 | none=>cases e;exact hlf
 | some t=>
  unfold XZ at e
  simp only at e
  split at e
  ·cases e
  ·rename_i hne
   cases e
   have hnl:(t.near (Jd c)).1.length=wd+1:=TrOk.near h
   have:=(JgB (t.near (Jd c)).1 (Jd c) (by omega) hne).1
   exact TrOk.graft h hlf (by omega)
theorem StOk.without {wd:Nat} {st st':Option Tr} {k:Key} {o:Nat×Nat} (h:StOk wd st) (e:JL st k=.ok (st',o)):StOk wd st'/\Jq o:=by
 cases st with
 | none=>cases e
 | some t=>
  unfold JL at e
  simp only at e
  split at e
  ·cases e
   exact ⟨TrOk.cut h,TrOk.nearO h⟩
  ·cases e
structure XK (w:World) (N wd:Nat) (q:Option Nat) (id:BA):Prop where
 s:w.heap[N]? =some (.cells #[.int .i64 (wd:Int),Jh q] 146)
 i:w.heap[N+1]? =some (.cells #[.string id] 9)
theorem XK.next {w w':World} {N wd:Nat} {q:Option Nat} {id:BA} (h:XK w N wd q id) (k:Tch NoB w w'):XK w' N wd q id:=
 ⟨(k.block _ (Jb h.s) (λh=>h)).trans h.s,(k.block _ (Jb h.i) (λh=>h)).trans h.i⟩
theorem XK.put {w W:World} {N wd:Nat} {q:Option Nat} {id:BA} (h:XK W N wd q id) (hT:Tch NoB w W) (width':Int) (q':Option Nat) (v':Option Addr) (hv:Jh q'=.pointer v'):
  Tch (λk=>k=N) w ((W.setCell ⟨N,0,none⟩ (.int .i64 width')).setCell ⟨N,1,none⟩ (.pointer v'))/\
  ((W.setCell ⟨N,0,none⟩ (.int .i64 width')).setCell ⟨N,1,none⟩ (.pointer v')).heap[N]? =some (.cells #[.int .i64 width',Jh q'] 146)/\
  ((W.setCell ⟨N,0,none⟩ (.int .i64 width')).setCell ⟨N,1,none⟩ (.pointer v')).heap[N+1]? =some (.cells #[.string id] 9)/\
  ∀d F q' st',StAt d F W q' st'->StAt d F ((W.setCell ⟨N,0,none⟩ (.int .i64 width')).setCell ⟨N,1,none⟩ (.pointer v')) q' st':=by
 rw [set2 W N _ _ _ _ _ h.s,hv]
 have t1:=Ts W N #[.int .i64 width',.pointer v']
 exact ⟨(hT.mono (S':=λk=>k=N) noE).trans t1 (λj hj=>.inl hj),Qi _ _ _ _ _ _ h.s,(t1.block _ (Jb h.i) (by omega)).trans h.i,λd F q' st' hs=>hs.row h.s (by decide)⟩
def Ji5 (E:Nat->Addr) (wd:Nat) (F:Nat->Prop) (N:Nat) (id:BA) (r:Except Er (Option Tr)) (e:Ending) (w':World):Prop:=match r with
 | .ok st'=>∃q',e=.returned .nilIface/\XK w' N wd q' id/\StAt (dgW wd) F w' q' st'
 | .error _=>e=.returned (eV E 2)/\XK w' N 0 none id
theorem JdH (E:Nat->Addr) (wd:Nat) (hw1:1<=wd) (hw:wd<=32) (F:Nat->Prop) (N:Nat) (q:Option Nat) (st:Option Tr) (id:BA) (i:Nat) (hc:Jr wd (id,(i:Int))) (o:Nat×Nat) (ho:Jq o) (w:World) (hE:Env E w) (hF:∀j,w.heap.size<=j->F j) (hB:XK w N wd q id) (hs:StAt (dgW wd) F w q st) (hok:StOk wd st):
  Calls prog 190 #[.int .i64 (i:Int),.agg #[.int .u64 (o.1:Int),.int .u8 (o.2:Int)],.pointer (some ⟨N,0,none⟩),.pointer (some ⟨N+1,0,none⟩)] w λe w'=>Tch (λk=>k=N) w w'/\Ji5 E wd F N id (XZ st (Jd (id,(i:Int))) o) e w':=by
 have HW:Hid (∀W,Tch NoB w W->Calls prog 191 #[Jw wd q,.agg #[.string id,.int .i64 (i:Int)],.agg #[.int .u64 (o.1:Int),.int .u8 (o.2:Int)]] W λe w'=>Tch NoB W w'/\Jgl E wd F (XZ st (Jd (id,(i:Int))) o) e w'):=λW hT=>
  Jhz E wd hw1 hw F q st (id,(i:Int)) hc o ho W (hE.tch hT noE) (λj hj=>hF j (Qm hT.size hj)) (hs.next hT) hok
 have HBX:Hid (XK w N wd q id):=hB
 obtain ⟨rv,hrv⟩:∃rv,Jh q=.pointer rv:=⟨_,rfl⟩
 have hNb:N+1<w.heap.size:=(Jb hB.i)
 have hNs:N<w.heap.size:=by omega
 have a0:w.cell? ⟨N,0,none⟩=some (.int .i64 (wd:Int)):=Ja hB.s
 have a1:w.cell? ⟨N,1,none⟩=some (.pointer rv):=by rw [<-hrv];exact Ja hB.s
 have a2:w.cell? ⟨N+1,0,none⟩=some (.string id):=Ja hB.i
 have HRV:Hid (Jh q=.pointer rv):=hrv
 unfold Jw at HW
 rw [hrv] at HW
 generalize hR:XZ st (Jd (id,(i:Int))) o=R at *
 clear hE hF hB hs hok hrv hc ho
 obtain ⟨oa,oo⟩:=o
 dsimp only at HW ⊢
 have HTA:Hid (∀k,Tch NoB w ((w.alloc (.cells #[.int .u64 (oa:Int),.int .u8 (oo:Int)] 80)).drewN k)):=λk=>(Ta _ _ _).dr k
 go_enter func190,ntmps190
 go_wp2_with fail
 refine (HW.o _ (HTA.o 0)).mono ?_
 have HR:Hid (_=R):=hR
 clear hR HW a0 a1 a2
 cases R with
 | ok st'=>
  rintro _ w2 ⟨ht2,q2,rfl,hs2⟩
  have hT:Tch NoB w w2:=(HTA.o 0).go ht2
  have b2:=HBX.o.next hT
  have HB2:Hid (XK w2 N wd q id):=b2
  have c0:w2.cell? ⟨N,0,none⟩=some (.int .i64 (wd:Int)):=Ja b2.s
  have c1:w2.cell? ⟨N,1,none⟩=some (.pointer rv):=by rw [<-HRV.o];exact Ja b2.s
  have fN:∀j,w2.frozen? ⟨N,j,none⟩=false:=λj=>Qg _ _ _ _ _ b2.s
  have HT:Hid (Tch NoB w w2):=hT
  have HS2:Hid (StAt (dgW wd) F w2 q2 st'):=hs2
  clear hT ht2 hs2 b2 HTA
  unfold Jw
  obtain ⟨v2,hv2⟩:∃v,Jh q2=.pointer v:=⟨_,rfl⟩
  rw [hv2]
  have HV2:Hid (Jh q2=.pointer v2):=hv2
  clear hv2
  go_wp2
  go_ret
  obtain ⟨p1,p2,p3,p4⟩:=HB2.o.put HT.o wd q2 v2 HV2.o
  exact ⟨p1,q2,rfl,⟨p2,p3⟩,p4 _ _ _ _ HS2.o⟩
 | error er=>
  rintro _ w2 ⟨ht2,rfl⟩
  have hT:Tch NoB w w2:=(HTA.o 0).go ht2
  have b2:=HBX.o.next hT
  have HB2:Hid (XK w2 N wd q id):=b2
  have c0:w2.cell? ⟨N,0,none⟩=some (.int .i64 (wd:Int)):=Ja b2.s
  have c1:w2.cell? ⟨N,1,none⟩=some (.pointer rv):=by rw [<-HRV.o];exact Ja b2.s
  have fN:∀j,w2.frozen? ⟨N,j,none⟩=false:=λj=>Qg _ _ _ _ _ b2.s
  have HT:Hid (Tch NoB w w2):=hT
  clear hT ht2 b2 HTA
  go_wp2
  go_ret
  obtain ⟨p1,p2,p3,p4⟩:=HB2.o.put HT.o 0 none none rfl
  exact ⟨p1,rfl,p2,p3⟩

def erG:Er->Nat
 | 0=>7
 | 1=>0
 | 2=>1
 | 3=>2
 | 4=>3
 | 5=>4
 | 6=>5
theorem Jf6 {st:Option Tr} {k:Key} {o:Nat×Nat} {er:Er} (h:XZ st k o=.error er):er=.exist:=by
 unfold XZ at h
 split at h
 ·cases h
 ·split at h
  ·cases h;rfl
  ·cases h
theorem JcZ {st:Option Tr} {k:Key} {er:Er} (h:JL st k=.error er):er=.input:=by
 unfold JL at h
 split at h
 ·cases h;rfl
 ·split at h
  ·cases h
  ·cases h;rfl
theorem Je9 (fv:Value) (what:BA) (w:World):Calls prog 189 #[.string what,.slice none 0 0,fv] w λe w'=>e=.returned .nilIface/\w=w':=by
 go_enter func189,ntmps189
 go_wp2
 go_loopw [12] (λi wr=>i=.int .i64 0/\w=wr) (λi _=>0)
 case atStart=>exact ⟨rfl,rfl⟩
 case round=>
  obtain ⟨rfl,rfl⟩:=hrel
  go_wp2
  go_ret
  exact ⟨rfl,rfl⟩
theorem JbU (id:BA) (i:Nat) (outs:List (Nat×Nat)) (h:i<outs.length) (st:Option Tr):JG id i (outs.drop i) st=match XZ st (Jd (id,(i:Int))) outs[i] with
  | .error e=>.error e
  | .ok st1=>JG id (i+1) (outs.drop (i+1)) st1:=by
 rw [List.drop_eq_getElem_cons h]
 rfl
theorem Xh {S:Nat->Prop} {w W:World} {g:Nat} {a b:Value} (h:W.heap[g]? =some (.cells #[a,b] 146)) (hT:Tch S w W) (hg:w.heap.size<=g) (v0 v1:Value):
  ((W.setCell ⟨g,0,none⟩ v0).setCell ⟨g,1,none⟩ v1).heap[g]? =some (.cells #[v0,v1] 146)/\Tch S w ((W.setCell ⟨g,0,none⟩ v0).setCell ⟨g,1,none⟩ v1)/\
  (∀d F q' st',StAt d F W q' st'->StAt d F ((W.setCell ⟨g,0,none⟩ v0).setCell ⟨g,1,none⟩ v1) q' st')/\∀E k v,Jj E k W v->Jj E k ((W.setCell ⟨g,0,none⟩ v0).setCell ⟨g,1,none⟩ v1) v:=by
 rw [set2 W g _ _ _ _ _ h]
 have t1:=Ts W g #[v0,v1]
 refine ⟨Qi _ _ _ _ _ _ h,hT.trans t1 (λj hj=>.inr (by omega)),λd F q' st' hs=>hs.row h (by decide),λE k v he=>he.tch t1 ?_⟩
 rintro p s u hp rfl
 rw [h] at hp
 injection hp with hp
 injection hp with _ h2
 exact absurd h2 (by decide)
structure Jcr (wd:Nat) (F:Nat->Prop) (id:BA) (outs:List (Nat×Nat)) (R:Except Er (Option Tr)) (w0:World) (N:Nat) (i:Nat) (w:World) (q:Option Nat) (st:Option Tr):Prop where
 box:XK w N wd q id
 at_:StAt (dgW wd) F w q st
 ok:StOk wd st
 eq:JG id i (outs.drop i) st=R
 tch:Tch (λk=>k=N) w0 w
def Jf9 (E:Nat->Addr) (id:BA) (R:Except Er (Option Tr)) (w0:World) (N:Nat) (v:Value) (w:World):Prop:=v=eV E 2/\R=.error .exist/\XK w N 0 none id/\Tch (λk=>k=N) w0 w
theorem JbV (E:Nat->Addr) (wd:Nat) (hw1:1<=wd) (hw:wd<=32) (F:Nat->Prop) (id:BA) (hid:id.size=wd) (outs:List (Nat×Nat)) (ho:∀o∈outs,Jq o) (h3:outs.length<=3) (R:Except Er (Option Tr)) (w0:World) (hE:Env E w0) (hF:∀j,w0.heap.size<=j->F j) (N:Nat) (hN:18<=N) (g off:Nat) (hg:g<N) (hz:g<w0.heap.size)
  (hr:∀i (h:i<outs.length),w0.cell? ⟨g,off+i * 2,none⟩=some (.int .u64 ((outs[i].1:Nat):Int))/\w0.cell? ⟨g,off+i * 2+1,none⟩=some (.int .u8 ((outs[i].2:Nat):Int))):
  Ja8 190 #[.pointer (some ⟨N,0,none⟩),.pointer (some ⟨N+1,0,none⟩)] g off outs.length (λi=>(outs.map encO).getD i zO) (λi w=>∃q st,Jcr wd F id outs R w0 N i w q st) (Jf9 E id R w0 N):=by
 have hx:∀i (h:i<outs.length),(outs.map encO).getD i zO=encO outs[i]:=λi h=>by simp [List.getD_eq_getElem?_getD,h]
 refine ⟨λ_ _=>rfl,?_,?_,?_⟩
 ·rintro i w hi ⟨q,st,I⟩
  rw [hx i hi]
  have hc:∀o,w.cell? ⟨g,o,none⟩=w0.cell? ⟨g,o,none⟩:=λo=>I.tch.cell (p:=⟨g,o,none⟩) hz (by show ¬g=N;omega)
  rw [hc,hc]
  exact hr i hi
 ·rintro i w o ⟨q,st,I⟩
  have ha:=Ta NoB w o
  exact ⟨q,st,I.box.next ha,I.at_.next ha,I.ok,I.eq,I.tch.go ha⟩
 ·rintro i w hi ⟨q,st,I⟩
  rw [hx i hi]
  have hco:Jr wd (id,(i:Int)):=⟨hid,by omega,by show (i:Int)<3;omega⟩
  have hoo:Jq outs[i]:=ho _ (Qx hi)
  refine (JdH E wd hw1 hw F N q st id i hco outs[i] hoo w (hE.tch I.tch (λj hj=>by subst hj;exact hN)) (λj hj=>hF j (Qm I.tch.size hj)) I.box I.at_ I.ok).mono ?_
  rintro e w' ⟨ht,hr⟩
  have e1:=I.eq
  rw [JbU id i outs hi] at e1
  have hT:Tch (λk=>k=N) w0 w':=I.tch.trans ht (λj hj=>.inl hj)
  cases hres:XZ st (Jd (id,(i:Int))) outs[i] with
  | ok st'=>
   rw [hres] at hr e1
   obtain ⟨q',rfl,hb,hs⟩:=hr
   exact .inl ⟨rfl,q',st',hb,hs,I.ok.with hco hoo hres,e1,hT⟩
  | error er=>
   rw [hres] at hr e1
   obtain ⟨rfl,hb⟩:=hr
   have:=Jf6 hres
   subst this
   exact .inr ⟨_,_,rfl,rfl,e1.symm,hb,hT⟩
def Jij (E:Nat->Addr) (wd:Nat) (F:Nat->Prop) (r:Except Er (Option Tr)) (e:Ending) (w':World):Prop:=match r with
 | .ok st'=>∃q',e=.returned (.tuple #[Jw wd q',.nilIface])/\StAt (dgW wd) F w' q' st'/\StOk wd st'
 | .error er=>∃v,e=.returned (.tuple #[Jw 0 none,v])/\Jj E (erG er) w' v/\er=.exist
theorem JaU (E:Nat->Addr) (wd:Nat) (hw1:1<=wd) (hw:wd<=32) (F:Nat->Prop) (q:Option Nat) (st:Option Tr) (id:BA) (hid:id.size=wd) (v:Value) (outs:List (Nat×Nat)) (ho:∀o∈outs,Jq o) (h3:outs.length<=3) (w:World) (hE:Env E w) (hF:∀j,w.heap.size<=j->F j) (hv:Jl w.heap.size w v outs) (hs:StAt (dgW wd) F w q st) (hok:StOk wd st):
  Calls prog 126 #[Jw wd q,.string id,v] w λe w'=>Tch NoB w w'/\Jij E wd F (JG id 0 outs st) e w':=by
 obtain ⟨rv,hrv⟩:∃rv,Jh q=.pointer rv:=⟨_,rfl⟩
 obtain ⟨W,hW⟩:∃W,W=((w.alloc (.cells #[.int .i64 (wd:Int),.pointer rv] 146)).alloc (.cells #[.string id] 9)).alloc (.cells #[.int .i64 0,.pointer none] 146):=⟨_,rfl⟩
 have hA:Tch NoB w W:=by rw [hW];exact Tch.allocs3 _ _ _ _ _
 have hbx:XK W w.heap.size wd q id:=by rw [hW,hrv.symm];exact ⟨JI _ _ _ _,JE _ _ _ _⟩
 have hro:W.heap[w.heap.size+1+1]? =some (.cells #[.int .i64 0,.pointer none] 146):=by rw [hW];exact JF _ _ _ _
 generalize hR:JG id 0 outs st=R
 have hEW:=hE.tch hA noE
 have hi0:Jcr wd F id outs R W w.heap.size 0 W q st:=⟨hbx,hs.next hA,hok,hR,Te _ _⟩
 have HEA:Hid (∀what:BA,what.size<=1000->Calls prog 189 #[.string what,v,.func (.func 190) #[] #[.pointer (some ⟨w.heap.size,0,none⟩),.pointer (some ⟨w.heap.size+1,0,none⟩)]] W λe w'=>ToE (λi w'=>∃q st,Jcr wd F id outs R W w.heap.size i w' q st) (Jf9 E id R W w.heap.size) outs.length e w'):=λwhat hwh=>by
  rcases hv with ⟨rfl,rfl⟩ | ⟨gi,oi,c,rfl,h1,h2,h3'⟩
  ·refine (Je9 _ _ _).mono ?_
   rintro _ _ ⟨rfl,rfl⟩
   exact .inl ⟨rfl,q,st,hi0⟩
  ·refine Jjc _ _ _ _ _ _ _ _ (λi hi=>?_) _ _ (JbV E wd hw1 hw F id hid outs ho h3 R W hEW (λj hj=>hF j (Qm hA.size hj)) w.heap.size hE.size gi oi h1 (Qk h2 hA.size) (λi hi=>?_)) h3 hwh W ⟨q,st,hi0⟩
   ·simp only [Qn,List.getElem?_map,Qd hi];exact ⟨_,_,rfl⟩
   ·have hc:∀o,W.cell? ⟨gi,o,none⟩=w.cell? ⟨gi,o,none⟩:=λo=>hA.cell (p:=⟨gi,o,none⟩) h2 (λh=>h)
    rw [hc,hc];exact h3' i hi
 obtain ⟨ia,ic,hvs⟩:=hv.shape
 have HRV:Hid (Jh q=.pointer rv):=hrv
 have HRO:Hid (W.heap[w.heap.size+1+1]? =_):=hro
 have HA:Hid (Tch NoB w W):=hA
 have hmf:∀(fn:Fn) (first cap:Array Value) (w:World),(Instr.makeFunc fn first cap).run prog w=.ok (.func fn first cap) w:=λ_ _ _ _=>rfl
 have HW:Hid (W=_):=hW
 subst hvs
 unfold Jw
 rw [hrv]
 clear hE hF hv hs hok hrv hro hA hi0 hEW hbx hW ho h3 hid hR
 go_enter func126,ntmps126
 go_wp2_with fail
 rw [<-HW.o]
 refine (HEA.o _ (by decide)).mono ?_
 rintro e w2 (⟨rfl,q2,st2,I⟩ | ⟨p,sx,vx,w1,rfl,hp,⟨rfl,hR,hb,ht⟩,hbl⟩)
 ·have hsR:=(Jb HRO.o)
  have hr2:w2.heap[w.heap.size+1+1]? =some (.cells #[.int .i64 0,.pointer none] 146):=(I.tch.block _ hsR (by omega)).trans HRO.o
  obtain ⟨v2,hv2⟩:∃v,Jh q2=.pointer v:=⟨_,rfl⟩
  have c0:w2.cell? ⟨w.heap.size,0,none⟩=some (.int .i64 (wd:Int)):=Ja I.box.s
  have c1:w2.cell? ⟨w.heap.size,1,none⟩=some (.pointer v2):=by rw [<-hv2];exact Ja I.box.s
  have r0:w2.cell? ⟨w.heap.size+1+1,0,none⟩=some (.int .i64 0):=Ja hr2
  have r1:w2.cell? ⟨w.heap.size+1+1,1,none⟩=some (.pointer none):=Ja hr2
  have fR:∀j,w2.frozen? ⟨w.heap.size+1+1,j,none⟩=false:=λj=>Qg _ _ _ _ _ hr2
  have HR2:Hid (w2.heap[w.heap.size+1+1]? =_):=hr2
  have HI:Hid (Jcr wd F id outs R W w.heap.size outs.length w2 q2 st2):=I
  have HV2:Hid (Jh q2=.pointer v2):=hv2
  have hz2:w.heap.size+1+1<w2.heap.size:=(Jb hr2)
  clear I hr2 hv2 HEA hsR
  go_wp2
  obtain ⟨p1,p2,p3,_⟩:=Xh HR2.o ((HA.o.trans HI.o.tch (λj hj=>.inr (by omega))):Tch NoB w w2) (by omega) (.int .i64 (wd:Int)) (.pointer v2)
  refine QJ (v:=.tuple #[.agg #[.int .i64 (wd:Int),.pointer v2],.nilIface]) (Jn results126 _ _ (w.heap.size+1+1) _ _ (0,0) _ rfl p1 underlying146 rfl (by kernel_rfl)) rfl ⟨p2,?_⟩
  have e1:=HI.o.eq
  rw [List.drop_length] at e1
  rw [<-e1]
  exact ⟨q2,by rw [Jw,HV2.o],p3 _ _ _ _ HI.o.at_,HI.o.ok⟩
 ·have hsR:=(Jb HRO.o)
  have hr1:w1.heap[w.heap.size+1+1]? =some (.cells #[.int .i64 0,.pointer none] 146):=(ht.block _ hsR (by omega)).trans HRO.o
  have hz1:=(Jb hr1)
  have hr2:w2.heap[w.heap.size+1+1]? =some (.cells #[.int .i64 0,.pointer none] 146):=(hbl.block _ hz1).trans hr1
  have hs2:w2.heap[w.heap.size]? =some (.cells #[.int .i64 0,.pointer none] 146):=(hbl.block _ (Jb hb.s)).trans hb.s
  have hz2:w.heap.size+1+1<w2.heap.size:=(Jb hr2)
  have c0:w2.cell? ⟨w.heap.size,0,none⟩=some (.int .i64 0):=Ja hs2
  have c1:w2.cell? ⟨w.heap.size,1,none⟩=some (.pointer none):=Ja hs2
  have r0:w2.cell? ⟨w.heap.size+1+1,0,none⟩=some (.int .i64 0):=Ja hr2
  have r1:w2.cell? ⟨w.heap.size+1+1,1,none⟩=some (.pointer none):=Ja hr2
  have fR:∀j,w2.frozen? ⟨w.heap.size+1+1,j,none⟩=false:=λj=>Qg _ _ _ _ _ hr2
  have HR2:Hid (w2.heap[w.heap.size+1+1]? =_):=hr2
  have HT2:Hid (Tch (λk=>k=w.heap.size) W w2):=ht.trans (Tch.of_below hbl) (λj hj=>.inr (Qm ht.size hj))
  have HP:Hid (w2.heap[p]? =_):=hp
  have HR:Hid (R=_):=hR
  clear hr1 hr2 hs2 hbl ht hb hp hR HEA hsR hz1
  go_wp2
  obtain ⟨p1,p2,p3,p4⟩:=Xh HR2.o ((HA.o.trans HT2.o (λj hj=>.inr (by omega))):Tch NoB w w2) (by omega) (.int .i64 0) (.pointer none)
  refine QJ (v:=.tuple #[.agg #[.int .i64 0,.pointer none],.iface 235 (.pointer (some ⟨p,0,none⟩))]) (Jn results126 _ _ (w.heap.size+1+1) _ _ (0,0) _ rfl p1 underlying146 rfl (by kernel_rfl)) rfl ⟨p2,?_⟩
  rw [HR.o]
  exact ⟨_,rfl,p4 _ _ _ (.wrap p _ _ HP.o .base),rfl⟩
