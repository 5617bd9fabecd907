import Derived.Test.YtighkdnooglfjaaGreatDoorBxTree7
namespace Go.Proofs.YtighkdnooglfjaaGreatDoor
open Tryz
set_option maxRecDepth 100000
set_option maxHeartbeats 1000000
open Go.RowKit

theorem Tch.go {S:Nat->Prop} {a b c:World} (h:Tch S a b) (k:Tch NoB b c):Tch S a c:=h.trans k noE
theorem Tch.dr {S:Nat->Prop} {a b:World} (h:Tch S a b) (n:Nat):Tch S a (b.drewN n):=h.go (Td _ _ _)
theorem TrOk.pair {wj:Nat} {n one:Tr} {b a:Nat} (h1:TrOk wj n) (h2:TrOk wj one) (hb:b<8 * (wj+1)):TrOk wj (Tr.pair n one b a):=by
 unfold Tr.pair
 split
 ·exact ⟨hb,h2,h1⟩
 ·exact ⟨hb,h1,h2⟩
theorem TrOk.graft {wj:Nat} {t:Tr} {k:Key} {o:Nat×Nat} {d:Nat} (h:TrOk wj t) (hl:TrOk wj (.leaf k o)) (hd:d<8 * (wj+1)):TrOk wj (t.graft k o d):=by
 induction t with
 | leaf k' o'=>exact TrOk.pair h hl hd
 | br b l r ihl ihr=>
  unfold Tr.graft
  split
  ·exact TrOk.pair h hl hd
  ·split
   ·exact ⟨h.1,ihl h.2.1,h.2.2⟩
   ·exact ⟨h.1,h.2.1,ihr h.2.2⟩
theorem TrOk.cut {wj:Nat} {t:Tr} {k:Key} (h:TrOk wj t):StOk wj (t.cut k):=by
 induction t with
 | leaf k' o'=>exact trivial
 | br b l r ihl ihr=>
  unfold Tr.cut
  split
  ·have:=ihl h.2.1
   split
   ·exact h.2.2
   ·rename_i l' hl';rw [hl'] at this;exact ⟨h.1,this,h.2.2⟩
  ·have:=ihr h.2.2
   split
   ·exact h.2.1
   ·rename_i l' hl';rw [hl'] at this;exact ⟨h.1,h.2.1,this⟩
theorem TrOk.nearO {wj:Nat} {t:Tr} {k:Key} (h:TrOk wj t):JC (t.near k).2:=by
 induction t with
 | leaf k' o=>exact h.2.2
 | br b l r ihl ihr=>
  unfold Tr.near
  split
  ·exact ihl h.2.1
  ·exact ihr h.2.2
theorem StOk.with {wj:Nat} {st st':Option Tr} {c:BA×Int} {o:Nat×Nat} (h:StOk wj st) (hc:Jo wj c) (ho:JC o) (e:YB st (Jd c) o=.ok st'):StOk wj st':=by
 have hkl:(Jd c).length=wj+1:=JY hc
 have hlf:TrOk wj (.leaf (Jd c) o):=Jdt hc ho
 cases st with
 | none=>cases e;exact hlf
 | some t=>
  unfold YB at e
  simp only at e
  split at e
  ·cases e
  ·rename_i hne
   cases e
   have hnl:(t.near (Jd c)).1.length=wj+1:=TrOk.near h
   have:=(JgM (t.near (Jd c)).1 (Jd c) (by omega) hne).1
   exact TrOk.graft h hlf (by omega)
theorem StOk.without {wj:Nat} {st st':Option Tr} {k:Key} {o:Nat×Nat} (h:StOk wj st) (e:JM st k=.ok (st',o)):StOk wj st'/\JC o:=by
 cases st with
 | none=>cases e
 | some t=>
  unfold JM at e
  simp only at e
  split at e
  ·cases e
   exact ⟨TrOk.cut h,TrOk.nearO h⟩
  ·cases e
structure Ye (w:World) (N wj:Nat) (q:Option Nat) (id:BA):Prop where
 s:w.heap[N]? =some (.cells #[.int .i64 (wj:Int),Jl q] 146)
 i:w.heap[N+1]? =some (.cells #[.string id] 9)
theorem Ye.next {w w':World} {N wj:Nat} {q:Option Nat} {id:BA} (h:Ye w N wj q id) (k:Tch NoB w w'):Ye w' N wj q id:=
 ⟨(k.block _ (Jb h.s) (λh=>h)).trans h.s,(k.block _ (Jb h.i) (λh=>h)).trans h.i⟩
theorem Ye.put {w W:World} {N wj:Nat} {q:Option Nat} {id:BA} (h:Ye W N wj q id) (hT:Tch NoB w W) (width':Int) (q':Option Nat) (v':Option Addr) (hv:Jl q'=.pointer v'):
  Tch (λk=>k=N) w ((W.setCell ⟨N,0,none⟩ (.int .i64 width')).setCell ⟨N,1,none⟩ (.pointer v'))/\
  ((W.setCell ⟨N,0,none⟩ (.int .i64 width')).setCell ⟨N,1,none⟩ (.pointer v')).heap[N]? =some (.cells #[.int .i64 width',Jl q'] 146)/\
  ((W.setCell ⟨N,0,none⟩ (.int .i64 width')).setCell ⟨N,1,none⟩ (.pointer v')).heap[N+1]? =some (.cells #[.string id] 9)/\
  ∀d F q' st',StAt d F W q' st'->StAt d F ((W.setCell ⟨N,0,none⟩ (.int .i64 width')).setCell ⟨N,1,none⟩ (.pointer v')) q' st':=by
 rw [set2 W N _ _ _ _ _ h.s,hv]
 have t1:=Ts W N #[.int .i64 width',.pointer v']
 exact ⟨(hT.mono (S':=λk=>k=N) noE).trans t1 (λj hj=>.inl hj),Qi _ _ _ _ _ _ h.s,(t1.block _ (Jb h.i) (by omega)).trans h.i,λd F q' st' hs=>hs.row h.s (by decide)⟩
def Jmq (E:Nat->Addr) (wj:Nat) (F:Nat->Prop) (N:Nat) (id:BA) (r:Except Er (Option Tr)) (e:Ending) (w':World):Prop:=match r with
 | .ok st'=>∃q',e=.returned .nilIface/\Ye w' N wj q' id/\StAt (dgW wj) F w' q' st'
 | .error _=>e=.returned (eV E 2)/\Ye w' N 0 none id
theorem Jfs (E:Nat->Addr) (wj:Nat) (hw1:1<=wj) (hw:wj<=32) (F:Nat->Prop) (N:Nat) (q:Option Nat) (st:Option Tr) (id:BA) (i:Nat) (hc:Jo wj (id,(i:Int))) (o:Nat×Nat) (ho:JC o) (w:World) (hE:Env E w) (hF:∀j,w.heap.size<=j->F j) (hB:Ye w N wj q id) (hs:StAt (dgW wj) F w q st) (hok:StOk wj st):
  Calls prog 190 #[.int .i64 (i:Int),.agg #[.int .u64 (o.1:Int),.int .u8 (o.2:Int)],.pointer (some ⟨N,0,none⟩),.pointer (some ⟨N+1,0,none⟩)] w λe w'=>Tch (λk=>k=N) w w'/\Jmq E wj F N id (YB st (Jd (id,(i:Int))) o) e w':=by
 have HW:Hid (∀W,Tch NoB w W->Calls prog 191 #[JE wj q,.agg #[.string id,.int .i64 (i:Int)],.agg #[.int .u64 (o.1:Int),.int .u8 (o.2:Int)]] W λe w'=>Tch NoB W w'/\Jit E wj F (YB st (Jd (id,(i:Int))) o) e w'):=λW hT=>
  Jkc E wj hw1 hw F q st (id,(i:Int)) hc o ho W (hE.tch hT noE) (λj hj=>hF j (Qm hT.size hj)) (hs.next hT) hok
 have HBX:Hid (Ye w N wj q id):=hB
 obtain ⟨rv,hrv⟩:∃rv,Jl q=.pointer rv:=⟨_,rfl⟩
 have hNb:N+1<w.heap.size:=(Jb hB.i)
 have hNs:N<w.heap.size:=by omega
 have a0:w.cell? ⟨N,0,none⟩=some (.int .i64 (wj:Int)):=Ja hB.s
 have a1:w.cell? ⟨N,1,none⟩=some (.pointer rv):=by rw [<-hrv];exact Ja hB.s
 have a2:w.cell? ⟨N+1,0,none⟩=some (.string id):=Ja hB.i
 have HRV:Hid (Jl q=.pointer rv):=hrv
 unfold JE at HW
 rw [hrv] at HW
 generalize hR:YB st (Jd (id,(i:Int))) o=R at *
 clear hE hF hB hs hok hrv hc ho
 obtain ⟨oa,oo⟩:=o
 dsimp only at HW ⊢
 have HTA:Hid (∀k,Tch NoB w ((w.alloc (.cells #[.int .u64 (oa:Int),.int .u8 (oo:Int)] 80)).drewN k)):=λk=>(Ta _ _ _).dr k
 go_enter func190,ntmps190
 go_wp2_with fail
 refine (HW.o _ (HTA.o 0)).mono ?_
 have HR:Hid (_=R):=hR
 clear hR HW a0 a1 a2
 cases R with
 | ok st'=>
  rintro _ w2 ⟨ht2,q2,rfl,hs2⟩
  have hT:Tch NoB w w2:=(HTA.o 0).go ht2
  have b2:=HBX.o.next hT
  have HB2:Hid (Ye w2 N wj q id):=b2
  have c0:w2.cell? ⟨N,0,none⟩=some (.int .i64 (wj:Int)):=Ja b2.s
  have c1:w2.cell? ⟨N,1,none⟩=some (.pointer rv):=by rw [<-HRV.o];exact Ja b2.s
  have fN:∀j,w2.frozen? ⟨N,j,none⟩=false:=λj=>Qg _ _ _ _ _ b2.s
  have HT:Hid (Tch NoB w w2):=hT
  have HS2:Hid (StAt (dgW wj) F w2 q2 st'):=hs2
  clear hT ht2 hs2 b2 HTA
  unfold JE
  obtain ⟨v2,hv2⟩:∃v,Jl q2=.pointer v:=⟨_,rfl⟩
  rw [hv2]
  have HV2:Hid (Jl q2=.pointer v2):=hv2
  clear hv2
  go_wp2
  go_ret
  obtain ⟨p1,p2,p3,p4⟩:=HB2.o.put HT.o wj q2 v2 HV2.o
  exact ⟨p1,q2,rfl,⟨p2,p3⟩,p4 _ _ _ _ HS2.o⟩
 | error er=>
  rintro _ w2 ⟨ht2,rfl⟩
  have hT:Tch NoB w w2:=(HTA.o 0).go ht2
  have b2:=HBX.o.next hT
  have HB2:Hid (Ye w2 N wj q id):=b2
  have c0:w2.cell? ⟨N,0,none⟩=some (.int .i64 (wj:Int)):=Ja b2.s
  have c1:w2.cell? ⟨N,1,none⟩=some (.pointer rv):=by rw [<-HRV.o];exact Ja b2.s
  have fN:∀j,w2.frozen? ⟨N,j,none⟩=false:=λj=>Qg _ _ _ _ _ b2.s
  have HT:Hid (Tch NoB w w2):=hT
  clear hT ht2 b2 HTA
  go_wp2
  go_ret
  obtain ⟨p1,p2,p3,p4⟩:=HB2.o.put HT.o 0 none none rfl
  exact ⟨p1,rfl,p2,p3⟩

theorem Jdo (x y:Nat) (w:World):(callFunc 340 #[.int .u64 (x:Int),.int .u64 (y:Int),.int .u64 0]).run prog w =
  .ok (.value (.tuple #[.int .u64 (((x+y) % 18446744073709551616:Nat):Int),.int .u64 (((x+y) / 18446744073709551616:Nat):Int)])) w:=by
 rw [run_callFunc_extern func340 (by kernel_rfl) (by kernel_rfl) (by kernel_rfl) (e:=add64Entry) (by kernel_rfl),run_add64 x y 0 (by omega) (by omega) (by omega) (by omega)]
 simp only [Result.andThen]
 congr 5 <;> omega
theorem Jgs (l:List (Nat×Nat)) (k:Nat) (h:k<l.length):Jn l (k+1)=Jn l k+l[k].1:=by
 unfold Jn;rw [QR h];simp only [List.map_append,List.sum_append,List.map_cons,List.map_nil,List.sum_cons,List.sum_nil];omega
theorem Jj2 (l:List (Nat×Nat)) (k:Nat):Jn l k<=Jn l l.length:=by
 unfold Jn
 rw [List.take_length]
 conv=>rhs;rw [<-List.take_append_drop k l]
 simp only [List.map_append,List.sum_append]
 omega
theorem JeH (x y:Nat) (h:x+y<18446744073709551616) (w:World):(callFunc 340 #[.int .u64 (x:Int),.int .u64 (y:Int),.int .u64 0]).run prog w =
  .ok (.value (.tuple #[.int .u64 ((x+y:Nat):Int),.int .u64 0])) w:=by
 rw [Jdo,Nat.mod_eq_of_lt h,Nat.div_eq_of_lt h];rfl
theorem Jhc (x y:Nat) (hx:x<18446744073709551616) (hy:y<18446744073709551616) (h:18446744073709551616<=x+y):∃z:Int,∀w:World,(callFunc 340 #[.int .u64 (x:Int),.int .u64 (y:Int),.int .u64 0]).run prog w =
  .ok (.value (.tuple #[.int .u64 z,.int .u64 1])) w:=by
 refine ⟨(((x+y) % 18446744073709551616:Nat):Int),λw=>?_⟩
 rw [Jdo,show (x+y) / 18446744073709551616=1 by omega]
 rfl
theorem Jic (E:Nat->Addr) (gi oi c:Nat) (l:List (Nat×Nat)) (hc:l.length<1000000) (hsm:∀x∈l,x.1<18446744073709551616) (w:World) (hE:Env E w) (hgi:gi<w.heap.size) (h1:∀i (h:i<l.length),w.cell? ⟨gi,oi+i * 2,none⟩=some (.int .u64 ((l[i].1:Nat):Int))/\w.cell? ⟨gi,oi+i * 2+1,none⟩=some (.int .u8 ((l[i].2:Nat):Int))):
  Calls prog 285 #[.slice (some ⟨gi,oi,none⟩) l.length c] w λe w'=>Tch NoB w w'/\((Jn l l.length<18446744073709551616/\e=.returned (.tuple #[.int .u64 ((Jn l l.length:Nat):Int),.nilIface]))\/(18446744073709551616<=Jn l l.length/\e=.returned (.tuple #[.int .u64 0,eV E 3]))):=by
 have HSM:Hid _:=hsm
 have HE:Hid (Env E w):=hE
 have H1:Hid _:=h1
 have HQ:Hid (Jn l l.length<18446744073709551616\/18446744073709551616<=Jn l l.length):=Nat.lt_or_ge _ _
 clear hsm hE h1
 go_enter func285,ntmps285
 go_wp2
 go_loopw [4,10] (λs i wr=>∃k:Nat,k<=l.length/\s=.int .u64 ((Jn l k:Nat):Int)/\i=.int .i64 k/\Hid (Jn l k<18446744073709551616)/\Hid (Tch NoB w wr)) (λ_ i _=>l.length - (intOf i).toNat)
 case atStart=>exact ⟨0,by omega,rfl,rfl,(by decide:(0:Nat)<18446744073709551616),Te _ w⟩
 case round=>
  obtain ⟨k,hk,rfl,rfl,hS,hT⟩:=hrel
  by_cases hlt:k<l.length
  ·obtain ⟨f0,f1⟩:=H1.o k hlt
   have c0:=(hT.out.cell (p:=⟨gi,oi+k * 2,none⟩) hgi (λh=>h)).trans f0
   have c1:=(hT.out.cell (p:=⟨gi,oi+k * 2+1,none⟩) hgi (λh=>h)).trans f1
   have hlti:(k:Int)<(l.length:Int):=by omega
   have hy:Hid (l[k].1<18446744073709551616):=HSM.o _ (Qx hlt)
   have HN:Hid (Jn l (k+1)=Jn l k+l[k].1):=Jgs l k hlt
   have HFK:Hid (Jn l k+l[k].1<18446744073709551616\/18446744073709551616<=Jn l k+l[k].1):=Nat.lt_or_ge _ _
   clear f0 f1
   generalize l[k].1=y at *
   generalize (l[k].2)=z at *
   rcases HFK.o with hs | hs
   ·have ha:=JeH (Jn l k) y hs
    have HSL:Hid _:=hs
    clear hs HFK
    generalize Jn l k=S at *
    go_wp2
    go_roundw
    case rel=>exact ⟨k+1,by omega,by rw [HN.o,Int.natCast_add],by go_num,by rw [HN.o];exact HSL,hT.out.trans (Ta NoB _ _) noE⟩
    case measure=>simp [intOf];omega
   ·obtain ⟨zz,ha⟩:=Jhc (Jn l k) y hS.out hy.out hs
    have HSL:Hid (18446744073709551616<=Jn l (k+1)):=(by rw [HN.o];exact hs:18446744073709551616<=Jn l (k+1))
    have hsum:=(HE.o.tch (hT.out.trans (Ta NoB _ (.cells #[.int .u64 (y:Int),.int .u8 (z:Int)] 80)) noE) noE).sum
    clear hs HFK
    generalize Jn l k=S at *
    have TL:Hid (Tch NoB w _):=hT.out.trans (Ta NoB wr (.cells #[.int .u64 (y:Int),.int .u8 (z:Int)] 80)) noE
    go_wp2
    go_region
    all_goals go_wp2
    all_goals go_ret2
    all_goals exact ⟨TL.out.trans (Td NoB _ 1) noE,.inr ⟨Qm HSL.o (Jj2 l (k+1)),rfl⟩⟩
  ·have HK:Hid (k=l.length):=(by omega:k=l.length)
   have hge:¬(k:Int)<(l.length:Int):=by omega
   generalize hSS:Jn l k=S at *
   have HSS:Hid _:=hSS
   clear hSS
   go_wp2
   go_ret2
   have e:Jn l l.length=S:=by rw [<-HK.o];exact HSS.o
   exact ⟨hT.out,.inl ⟨by rw [e];exact hS.out,by rw [e];rfl⟩⟩
theorem Jib (w:World):
  Calls prog 285 #[.slice none 0 0] w λe w'=>e=.returned (.tuple #[.int .u64 0,.nilIface])/\w=w':=by
 go_enter func285,ntmps285
 go_wp2
 go_loopw [4,10] (λs i wr=>s=.int .u64 0/\i=.int .i64 0/\wr=w) (λ_ _ _=>0)
 case atStart=>exact ⟨rfl,rfl,rfl⟩
 case round=>
  obtain ⟨rfl,rfl,rfl⟩:=hrel
  go_wp2
  go_ret2
  exact ⟨rfl,rfl⟩
theorem JdX (E:Nat->Addr) (B:Nat) (v:Value) (l:List (Nat×Nat)) (hc:l.length<1000000) (hsm:∀x∈l,x.1<18446744073709551616) (w:World) (hE:Env E w) (h:Jr B w v l):
  Calls prog 285 #[v] w λe w'=>Tch NoB w w'/\((Jn l l.length<18446744073709551616/\e=.returned (.tuple #[.int .u64 ((Jn l l.length:Nat):Int),.nilIface]))\/(18446744073709551616<=Jn l l.length/\e=.returned (.tuple #[.int .u64 0,eV E 3]))):=by
 rcases h with ⟨rfl,rfl⟩ | ⟨gi,oi,c,rfl,_,h2,h3⟩
 ·refine (Jib w).mono ?_
  rintro _ _ ⟨rfl,rfl⟩
  exact ⟨Te _ _,.inl ⟨by decide,rfl⟩⟩
 ·exact Jic E gi oi c l hc hsm w hE h2 h3

theorem Jdb (E:Nat->Addr) (B:Nat) (v1 v2:Value) (l1 l2:List (Nat×Nat)) (hc1:l1.length<1000000) (hc2:l2.length<1000000) (hs1:∀x∈l1,x.1<18446744073709551616) (hs2:∀x∈l2,x.1<18446744073709551616) (w:World) (hE:Env E w) (h1:Jr B w v1 l1) (h2:Jr B w v2 l2):
  Calls Tryz.prog 208 #[v1,v2] w λe w'=>Tch NoB w w'/\((¬Xb l1 l2/\e=.returned .nilIface)\/(Xb l1 l2/\∃v,e=.returned v/\Jm E 3 w' v)):=by
 obtain ⟨ia1,ic1,hv1⟩:=h1.shape
 obtain ⟨ia2,ic2,hv2⟩:=h2.shape
 have HT1:Hid (Calls _ _ _ _ _):=JdX E B v1 l1 hc1 hs1 w hE h1
 have HT2:Hid (∀W,Tch NoB w W->Calls _ _ _ _ _):=λW hW=>JdX E B v2 l2 hc2 hs2 W (hE.tch hW noE) (h2.tch hW noE)
 have HE:Hid (Env E w):=hE
 clear hE h1 h2 hs1 hs2
 subst hv1 hv2
 go_enter Tryz.func208,Tryz.ntmps208
 go_wp2_with fail
 refine HT1.o.mono ?_
 rintro _ w1 ⟨ht1,⟨ha,rfl⟩ | ⟨ha,rfl⟩⟩
 ·have K1:Hid _:=ht1
  have HA:Hid (_<_):=ha
  clear ht1 ha HT1
  generalize hS1:Jn l1 l1.length=S1 at *
  have HS1:Hid (_=S1):=hS1
  clear hS1
  go_wp2_with fail
  refine (HT2.o w1 K1.out).mono ?_
  rintro _ w2 ⟨ht2,⟨hb,rfl⟩ | ⟨hb,rfl⟩⟩
  ·have K2:Hid (Tch _ w w2):=K1.out.trans ht2 noE
   have HB:Hid (_<_):=hb
   clear ht2 hb HT2
   generalize hS2:Jn l2 l2.length=S2 at *
   have HS2:Hid (_=S2):=hS2
   clear hS2
   have hsum:=(HE.o.tch K2.out noE).sum
   by_cases hlt:S1<S2
   ·have hlti:(S1:Int)<(S2:Int):=by omega
    go_wp2_with fail
    refine (XA _ _ _ _).mono ?_
    rintro _ _ ⟨rfl,rfl⟩
    go_wp2
    go_ret
    exact ⟨K2.out.trans (Ta NoB _ _) noE,.inr ⟨.inr (.inr (by rw [HS1.o,HS2.o];exact hlt)),_,rfl,.wrap _ _ _ (Qf _ _) .base⟩⟩
   ·have hlti:¬(S1:Int)<(S2:Int):=by omega
    go_wp2
    go_ret
    have q1:=HA.o
    have q2:=HB.o
    exact ⟨K2.out,.inl ⟨by unfold Xb;rw [HS1.o,HS2.o];omega,rfl⟩⟩
  ·have K2:Hid (Tch _ w w2):=K1.out.trans ht2 noE
   have HB:Hid (_<=_):=hb
   clear ht2 hb HT2
   go_wp2_with fail
   refine (XA _ _ _ _).mono ?_
   rintro _ _ ⟨rfl,rfl⟩
   go_wp2
   go_ret
   exact ⟨K2.out.trans (Ta NoB _ _) noE,.inr ⟨.inr (.inl HB.o),_,rfl,.wrap _ _ _ (Qf _ _) .base⟩⟩
 ·have K1:Hid _:=ht1
  have HA:Hid (_<=_):=ha
  clear ht1 ha HT1 HT2
  go_wp2_with fail
  refine (XA _ _ _ _).mono ?_
  rintro _ _ ⟨rfl,rfl⟩
  go_wp2
  go_ret
  exact ⟨K1.out.trans (Ta NoB _ _) noE,.inr ⟨.inl HA.o,_,rfl,.wrap _ _ _ (Qf _ _) .base⟩⟩

def erG:Er->Nat
 | .form=>7
 | .tip=>0
 | .input=>1
 | .exist=>2
 | .sum=>3
 | .root=>4
 | .range=>5
theorem Jih {st:Option Tr} {k:Key} {o:Nat×Nat} {er:Er} (h:YB st k o=.error er):er=.exist:=by
 unfold YB at h
 split at h
 ·cases h
 ·split at h
  ·cases h;rfl
  ·cases h
theorem JeB {st:Option Tr} {k:Key} {er:Er} (h:JM st k=.error er):er=.input:=by
 unfold JM at h
 split at h
 ·cases h;rfl
 ·split at h
  ·cases h
  ·cases h;rfl
theorem Jhq (fv:Value) (what:BA) (w:World):Calls prog 189 #[.string what,.slice none 0 0,fv] w λe w'=>e=.returned .nilIface/\w=w':=by
 go_enter func189,ntmps189
 go_wp2
 go_loopw [12] (λi wr=>i=.int .i64 0/\w=wr) (λi _=>0)
 case atStart=>exact ⟨rfl,rfl⟩
 case round=>
  obtain ⟨rfl,rfl⟩:=hrel
  go_wp2
  go_ret
  exact ⟨rfl,rfl⟩
theorem Jdj (id:BA) (i:Nat) (outs:List (Nat×Nat)) (h:i<outs.length) (st:Option Tr):Jv id i (outs.drop i) st=match YB st (Jd (id,(i:Int))) outs[i] with
  | .error e=>.error e
  | .ok st1=>Jv id (i+1) (outs.drop (i+1)) st1:=by
 rw [List.drop_eq_getElem_cons h]
 rfl
theorem Xp {S:Nat->Prop} {w W:World} {g:Nat} {a b:Value} (h:W.heap[g]? =some (.cells #[a,b] 146)) (hT:Tch S w W) (hg:w.heap.size<=g) (v0 v1:Value):
  ((W.setCell ⟨g,0,none⟩ v0).setCell ⟨g,1,none⟩ v1).heap[g]? =some (.cells #[v0,v1] 146)/\Tch S w ((W.setCell ⟨g,0,none⟩ v0).setCell ⟨g,1,none⟩ v1)/\
  (∀d F q' st',StAt d F W q' st'->StAt d F ((W.setCell ⟨g,0,none⟩ v0).setCell ⟨g,1,none⟩ v1) q' st')/\∀E k v,Jm E k W v->Jm E k ((W.setCell ⟨g,0,none⟩ v0).setCell ⟨g,1,none⟩ v1) v:=by
 rw [set2 W g _ _ _ _ _ h]
 have t1:=Ts W g #[v0,v1]
 refine ⟨Qi _ _ _ _ _ _ h,hT.trans t1 (λj hj=>.inr (by omega)),λd F q' st' hs=>hs.row h (by decide),λE k v he=>he.tch t1 ?_⟩
 rintro p s u hp rfl
 rw [h] at hp
 injection hp with hp
 injection hp with _ h2
 exact absurd h2 (by decide)
structure JfJ (wj:Nat) (F:Nat->Prop) (id:BA) (outs:List (Nat×Nat)) (R:Except Er (Option Tr)) (w0:World) (N:Nat) (i:Nat) (w:World) (q:Option Nat) (st:Option Tr):Prop where
 box:Ye w N wj q id
 at_:StAt (dgW wj) F w q st
 ok:StOk wj st
 eq:Jv id i (outs.drop i) st=R
 tch:Tch (λk=>k=N) w0 w
def Jik (E:Nat->Addr) (id:BA) (R:Except Er (Option Tr)) (w0:World) (N:Nat) (v:Value) (w:World):Prop:=v=eV E 2/\R=.error .exist/\Ye w N 0 none id/\Tch (λk=>k=N) w0 w
theorem Jdk (E:Nat->Addr) (wj:Nat) (hw1:1<=wj) (hw:wj<=32) (F:Nat->Prop) (id:BA) (hid:id.size=wj) (outs:List (Nat×Nat)) (ho:∀o∈outs,JC o) (h3:outs.length<=3) (R:Except Er (Option Tr)) (w0:World) (hE:Env E w0) (hF:∀j,w0.heap.size<=j->F j) (N:Nat) (hN:18<=N) (g off:Nat) (hg:g<N) (hz:g<w0.heap.size)
  (hr:∀i (h:i<outs.length),w0.cell? ⟨g,off+i * 2,none⟩=some (.int .u64 ((outs[i].1:Nat):Int))/\w0.cell? ⟨g,off+i * 2+1,none⟩=some (.int .u8 ((outs[i].2:Nat):Int))):
  Jce 190 #[.pointer (some ⟨N,0,none⟩),.pointer (some ⟨N+1,0,none⟩)] g off outs.length (λi=>(outs.map encO).getD i zO) (λi w=>∃q st,JfJ wj F id outs R w0 N i w q st) (Jik E id R w0 N):=by
 have hx:∀i (h:i<outs.length),(outs.map encO).getD i zO=encO outs[i]:=λi h=>by simp [List.getD_eq_getElem?_getD,h]
 refine ⟨λ_ _=>rfl,?_,?_,?_⟩
 ·rintro i w hi ⟨q,st,I⟩
  rw [hx i hi]
  have hc:∀o,w.cell? ⟨g,o,none⟩=w0.cell? ⟨g,o,none⟩:=λo=>I.tch.cell (p:=⟨g,o,none⟩) hz (by show ¬g=N;omega)
  rw [hc,hc]
  exact hr i hi
 ·rintro i w o ⟨q,st,I⟩
  have ha:=Ta NoB w o
  exact ⟨q,st,I.box.next ha,I.at_.next ha,I.ok,I.eq,I.tch.go ha⟩
 ·rintro i w hi ⟨q,st,I⟩
  rw [hx i hi]
  have hco:Jo wj (id,(i:Int)):=⟨hid,by omega,by show (i:Int)<3;omega⟩
  have hoo:JC outs[i]:=ho _ (Qx hi)
  refine (Jfs E wj hw1 hw F N q st id i hco outs[i] hoo w (hE.tch I.tch (λj hj=>by subst hj;exact hN)) (λj hj=>hF j (Qm I.tch.size hj)) I.box I.at_ I.ok).mono ?_
  rintro e w' ⟨ht,hr⟩
  have e1:=I.eq
  rw [Jdj id i outs hi] at e1
  have hT:Tch (λk=>k=N) w0 w':=I.tch.trans ht (λj hj=>.inl hj)
  cases hres:YB st (Jd (id,(i:Int))) outs[i] with
  | ok st'=>
   rw [hres] at hr e1
   obtain ⟨q',rfl,hb,hs⟩:=hr
   exact .inl ⟨rfl,q',st',hb,hs,I.ok.with hco hoo hres,e1,hT⟩
  | error er=>
   rw [hres] at hr e1
   obtain ⟨rfl,hb⟩:=hr
   have:=Jih hres
   subst this
   exact .inr ⟨_,_,rfl,rfl,e1.symm,hb,hT⟩
def Jlo (E:Nat->Addr) (wj:Nat) (F:Nat->Prop) (r:Except Er (Option Tr)) (e:Ending) (w':World):Prop:=match r with
 | .ok st'=>∃q',e=.returned (.tuple #[JE wj q',.nilIface])/\StAt (dgW wj) F w' q' st'/\StOk wj st'
 | .error er=>∃v,e=.returned (.tuple #[JE 0 none,v])/\Jm E (erG er) w' v/\er=.exist
theorem JbU (E:Nat->Addr) (wj:Nat) (hw1:1<=wj) (hw:wj<=32) (F:Nat->Prop) (q:Option Nat) (st:Option Tr) (id:BA) (hid:id.size=wj) (v:Value) (outs:List (Nat×Nat)) (ho:∀o∈outs,JC o) (h3:outs.length<=3) (w:World) (hE:Env E w) (hF:∀j,w.heap.size<=j->F j) (hv:Jr w.heap.size w v outs) (hs:StAt (dgW wj) F w q st) (hok:StOk wj st):
  Calls prog 126 #[JE wj q,.string id,v] w λe w'=>Tch NoB w w'/\Jlo E wj F (Jv id 0 outs st) e w':=by
 obtain ⟨rv,hrv⟩:∃rv,Jl q=.pointer rv:=⟨_,rfl⟩
 obtain ⟨W,hW⟩:∃W,W=((w.alloc (.cells #[.int .i64 (wj:Int),.pointer rv] 146)).alloc (.cells #[.string id] 9)).alloc (.cells #[.int .i64 0,.pointer none] 146):=⟨_,rfl⟩
 have hA:Tch NoB w W:=by rw [hW];exact Tch.allocs3 _ _ _ _ _
 have hbx:Ye W w.heap.size wj q id:=by rw [hW,hrv.symm];exact ⟨JO _ _ _ _,JI _ _ _ _⟩
 have hro:W.heap[w.heap.size+1+1]? =some (.cells #[.int .i64 0,.pointer none] 146):=by rw [hW];exact JK _ _ _ _
 generalize hR:Jv id 0 outs st=R
 have hEW:=hE.tch hA noE
 have hi0:JfJ wj F id outs R W w.heap.size 0 W q st:=⟨hbx,hs.next hA,hok,hR,Te _ _⟩
 have HEA:Hid (∀what:BA,what.size<=1000->Calls prog 189 #[.string what,v,.func (.func 190) #[] #[.pointer (some ⟨w.heap.size,0,none⟩),.pointer (some ⟨w.heap.size+1,0,none⟩)]] W λe w'=>ToE (λi w'=>∃q st,JfJ wj F id outs R W w.heap.size i w' q st) (Jik E id R W w.heap.size) outs.length e w'):=λwhat hwh=>by
  rcases hv with ⟨rfl,rfl⟩ | ⟨gi,oi,c,rfl,h1,h2,h3'⟩
  ·refine (Jhq _ _ _).mono ?_
   rintro _ _ ⟨rfl,rfl⟩
   exact .inl ⟨rfl,q,st,hi0⟩
  ·refine Jmw _ _ _ _ _ _ _ _ (λi hi=>?_) _ _ (Jdk E wj hw1 hw F id hid outs ho h3 R W hEW (λj hj=>hF j (Qm hA.size hj)) w.heap.size hE.size gi oi h1 (Qk h2 hA.size) (λi hi=>?_)) h3 hwh W ⟨q,st,hi0⟩
   ·simp only [Qn,List.getElem?_map,Qd hi];exact ⟨_,_,rfl⟩
   ·have hc:∀o,W.cell? ⟨gi,o,none⟩=w.cell? ⟨gi,o,none⟩:=λo=>hA.cell (p:=⟨gi,o,none⟩) h2 (λh=>h)
    rw [hc,hc];exact h3' i hi
 obtain ⟨ia,ic,hvs⟩:=hv.shape
 have HRV:Hid _:=hrv
 have HRO:Hid _:=hro
 have HA:Hid _:=hA
 have hmf:∀(fn:Fn) (first cap:Array Value) (w:World),(Instr.makeFunc fn first cap).run prog w=.ok (.func fn first cap) w:=λ_ _ _ _=>rfl
 have HW:Hid (W=_):=hW
 subst hvs
 unfold JE
 rw [hrv]
 clear hE hF hv hs hok hrv hro hA hi0 hEW hbx hW ho h3 hid hR
 go_enter func126,ntmps126
 go_wp2_with fail
 rw [<-HW.o]
 refine (HEA.o _ (by decide)).mono ?_
 rintro e w2 (⟨rfl,q2,st2,I⟩ | ⟨p,sx,vx,w1,rfl,hp,⟨rfl,hR,hb,ht⟩,hbl⟩)
 ·have hsR:=(Jb HRO.o)
  have hr2:w2.heap[w.heap.size+1+1]? =some (.cells #[.int .i64 0,.pointer none] 146):=(I.tch.block _ hsR (by omega)).trans HRO.o
  obtain ⟨v2,hv2⟩:∃v,Jl q2=.pointer v:=⟨_,rfl⟩
  have c0:w2.cell? ⟨w.heap.size,0,none⟩=some (.int .i64 (wj:Int)):=Ja I.box.s
  have c1:w2.cell? ⟨w.heap.size,1,none⟩=some (.pointer v2):=by rw [<-hv2];exact Ja I.box.s
  have r0:w2.cell? ⟨w.heap.size+1+1,0,none⟩=some (.int .i64 0):=Ja hr2
  have r1:w2.cell? ⟨w.heap.size+1+1,1,none⟩=some (.pointer none):=Ja hr2
  have fR:∀j,w2.frozen? ⟨w.heap.size+1+1,j,none⟩=false:=λj=>Qg _ _ _ _ _ hr2
  have HR2:Hid _:=hr2
  have HI:Hid _:=I
  have HV2:Hid _:=hv2
  have hz2:w.heap.size+1+1<w2.heap.size:=(Jb hr2)
  clear I hr2 hv2 HEA hsR
  go_wp2
  obtain ⟨p1,p2,p3,_⟩:=Xp HR2.o ((HA.o.trans HI.o.tch (λj hj=>.inr (by omega))):Tch NoB w w2) (by omega) (.int .i64 (wj:Int)) (.pointer v2)
  refine QK (v:=.tuple #[.agg #[.int .i64 (wj:Int),.pointer v2],.nilIface]) (Jg results126 _ _ (w.heap.size+1+1) _ _ (0,0) _ rfl p1 underlying146 rfl (by kernel_rfl)) rfl ⟨p2,?_⟩
  have e1:=HI.o.eq
  rw [List.drop_length] at e1
  rw [<-e1]
  exact ⟨q2,by rw [JE,HV2.o],p3 _ _ _ _ HI.o.at_,HI.o.ok⟩
 ·have hsR:=(Jb HRO.o)
  have hr1:w1.heap[w.heap.size+1+1]? =some (.cells #[.int .i64 0,.pointer none] 146):=(ht.block _ hsR (by omega)).trans HRO.o
  have hz1:=(Jb hr1)
  have hr2:w2.heap[w.heap.size+1+1]? =some (.cells #[.int .i64 0,.pointer none] 146):=(hbl.block _ hz1).trans hr1
  have hs2:w2.heap[w.heap.size]? =some (.cells #[.int .i64 0,.pointer none] 146):=(hbl.block _ (Jb hb.s)).trans hb.s
  have hz2:w.heap.size+1+1<w2.heap.size:=(Jb hr2)
  have c0:w2.cell? ⟨w.heap.size,0,none⟩=some (.int .i64 0):=Ja hs2
  have c1:w2.cell? ⟨w.heap.size,1,none⟩=some (.pointer none):=Ja hs2
  have r0:w2.cell? ⟨w.heap.size+1+1,0,none⟩=some (.int .i64 0):=Ja hr2
  have r1:w2.cell? ⟨w.heap.size+1+1,1,none⟩=some (.pointer none):=Ja hr2
  have fR:∀j,w2.frozen? ⟨w.heap.size+1+1,j,none⟩=false:=λj=>Qg _ _ _ _ _ hr2
  have HR2:Hid _:=hr2
  have HT2:Hid (Tch (λk=>k=w.heap.size) W w2):=ht.trans (Tch.of_below hbl) (λj hj=>.inr (Qm ht.size hj))
  have HP:Hid _:=hp
  have HR:Hid (R=_):=hR
  clear hr1 hr2 hs2 hbl ht hb hp hR HEA hsR hz1
  go_wp2
  obtain ⟨p1,p2,p3,p4⟩:=Xp HR2.o ((HA.o.trans HT2.o (λj hj=>.inr (by omega))):Tch NoB w w2) (by omega) (.int .i64 0) (.pointer none)
  refine QK (v:=.tuple #[.agg #[.int .i64 0,.pointer none],.iface 235 (.pointer (some ⟨p,0,none⟩))]) (Jg results126 _ _ (w.heap.size+1+1) _ _ (0,0) _ rfl p1 underlying146 rfl (by kernel_rfl)) rfl ⟨p2,?_⟩
  rw [HR.o]
  exact ⟨_,rfl,p4 _ _ _ (.wrap p _ _ HP.o .base),rfl⟩

structure YF (w:World) (N wj:Nat) (q:Option Nat) (M G n:Nat) (sp:List VV):Prop where
 s:w.heap[N]? =some (.cells #[.int .i64 (wj:Int),Jl q] 146)
 m:w.heap[M]? =some (.cells #[.slice (some ⟨G,0,none⟩) n n] 22)
 g:w.heap[G]? =some (.cells (vvA sp) 80)
 len:sp.length=n
theorem YF.next {w w':World} {N wj:Nat} {q:Option Nat} {M G n:Nat} {sp:List VV} (h:YF w N wj q M G n sp) (k:Tch NoB w w'):YF w' N wj q M G n sp:=
 ⟨(k.block _ (Jb h.s) (λh=>h)).trans h.s,(k.block _ (Jb h.m) (λh=>h)).trans h.m,(k.block _ (Jb h.g) (λh=>h)).trans h.g,h.len⟩
theorem YF.cells {w:World} {N wj:Nat} {q:Option Nat} {M G n:Nat} {sp:List VV} (h:YF w N wj q M G n sp) (rv:Option Addr) (hrv:Jl q=.pointer rv) (i:Nat) (hi:i<n):w.cell? ⟨N,0,none⟩=some (.int .i64 (wj:Int))/\w.cell? ⟨N,1,none⟩=some (.pointer rv)/\w.cell? ⟨M,0,none⟩=some (.slice (some ⟨G,0,none⟩) n n)/\
  (∃x0 y0,w.cell? ⟨G,i * 2,none⟩=some x0/\w.cell? ⟨G,i * 2+1,none⟩=some y0)/\(∀j,w.frozen? ⟨N,j,none⟩=false)/\(∀j,w.frozen? ⟨G,j,none⟩=false):=by
 refine ⟨Ja h.s,?_,Ja h.m,?_,λj=>Qg _ _ _ _ _ h.s,λj=>Qg _ _ _ _ _ h.g⟩
 ·rw [<-hrv];exact Ja h.s
 ·obtain ⟨e0,e1⟩:=YI sp i (by rw [h.len];exact hi)
  exact ⟨_,_,(Ja h.g).trans e0,(Ja h.g).trans e1⟩
theorem YF.apart {w:World} {N wj:Nat} {q:Option Nat} {M G n:Nat} {sp:List VV} (h:YF w N wj q M G n sp):N ≠ G/\M ≠ G/\N ≠ M:=by
 have h1:=h.s
 have h2:=h.m
 have h3:=h.g
 refine ⟨?_,?_,?_⟩
 ·rintro rfl;rw [h1] at h3;simp at h3
 ·rintro rfl;rw [h2] at h3;simp at h3
 ·rintro rfl;rw [h1] at h2;simp at h2
theorem YF.put {w W:World} {N wj:Nat} {q:Option Nat} {M G n:Nat} {sp:List VV} (h:YF W N wj q M G n sp) (hT:Tch NoB w W) (i:Nat) (hi:i<n) (width':Nat) (q':Option Nat) (v':Option Addr) (hv:Jl q'=.pointer v') (a o:Value):
  Tch (λk=>k=N\/k=G) w ((((W.setCell ⟨N,0,none⟩ (.int .i64 (width':Int))).setCell ⟨N,1,none⟩ (.pointer v')).setCell ⟨G,i * 2,none⟩ a).setCell ⟨G,i * 2+1,none⟩ o)/\
  YF ((((W.setCell ⟨N,0,none⟩ (.int .i64 (width':Int))).setCell ⟨N,1,none⟩ (.pointer v')).setCell ⟨G,i * 2,none⟩ a).setCell ⟨G,i * 2+1,none⟩ o) N width' q' M G n (sp.set i (a,o))/\
  ∀d F q' st',StAt d F W q' st'->StAt d F ((((W.setCell ⟨N,0,none⟩ (.int .i64 (width':Int))).setCell ⟨N,1,none⟩ (.pointer v')).setCell ⟨G,i * 2,none⟩ a).setCell ⟨G,i * 2+1,none⟩ o) q' st':=by
 obtain ⟨hNG,hMG,hNM⟩:=h.apart
 rw [set2 W N _ _ _ _ _ h.s]
 have t1:=Ts W N #[.int .i64 (width':Int),.pointer v']
 have g1:(W.setRow N #[.int .i64 (width':Int),.pointer v']).heap[G]? =some (.cells (vvA sp) 80):=(t1.block _ (Jb h.g) (by omega)).trans h.g
 have m1:(W.setRow N #[.int .i64 (width':Int),.pointer v']).heap[M]? =some (.cells #[.slice (some ⟨G,0,none⟩) n n] 22):=(t1.block _ (Jb h.m) (by omega)).trans h.m
 have s1:(W.setRow N #[.int .i64 (width':Int),.pointer v']).heap[N]? =some (.cells #[.int .i64 (width':Int),.pointer v'] 146):=Qi _ _ _ _ _ _ h.s
 have k1:∀d F q' st',StAt d F W q' st'->StAt d F (W.setRow N #[.int .i64 (width':Int),.pointer v']) q' st':=λd F q' st' hs=>hs.row h.s (by decide)
 have T1:Tch (λk=>k=N\/k=G) w (W.setRow N #[.int .i64 (width':Int),.pointer v']):=(hT.mono noE).trans t1 (λj hj=>.inl (.inl hj))
 generalize W.setRow N #[.int .i64 (width':Int),.pointer v']=W1 at *
 rw [Qj W1 G (i * 2) _ _ (0,0) _ g1,Qj _ G (i * 2+1) _ _ (0,0) _ (Qi _ _ _ _ _ _ g1),QI,JeA sp i a o (by rw [h.len];exact hi)]
 have t2:=Ts W1 G (vvA (sp.set i (a,o)))
 refine ⟨T1.trans t2 (λj hj=>.inl (.inr hj)),⟨?_,(t2.block _ (Jb m1) (by omega)).trans m1,Qi _ _ _ _ _ _ g1,by rw [List.length_set];exact h.len⟩,λd F q' st' hs=>(k1 _ _ _ _ hs).row g1 (by decide)⟩
 rw [hv]
 exact (t2.block _ (Jb s1) (by omega)).trans s1
def SpTo (E:Nat->Addr) (wj:Nat) (F:Nat->Prop) (N M G n i:Nat) (sp:List VV) (r:Except Er (Option Tr×(Nat×Nat))) (e:Ending) (w':World):Prop:=match r with
 | .ok (st',o)=>∃q',e=.returned .nilIface/\YF w' N wj q' M G n (sp.set i (encO o))/\StAt (dgW wj) F w' q' st'
 | .error _=>e=.returned (eV E 1)/\YF w' N 0 none M G n (sp.set i zO)
theorem Jh1 (E:Nat->Addr) (wj:Nat) (hw1:1<=wj) (hw:wj<=32) (F:Nat->Prop) (N:Nat) (q:Option Nat) (st:Option Tr) (M G n:Nat) (sp:List VV) (i:Nat) (hi:i<n) (c:BA×Int) (hc:Jo wj c) (w:World) (hE:Env E w) (hF:∀j,w.heap.size<=j->F j) (hB:YF w N wj q M G n sp) (hs:StAt (dgW wj) F w q st) (hok:StOk wj st):
  Calls prog 283 #[.int .i64 (i:Int),.agg #[.string c.1,.int .i64 c.2],.pointer (some ⟨N,0,none⟩),.pointer (some ⟨M,0,none⟩)] w λe w'=>Tch (λk=>k=N\/k=G) w w'/\SpTo E wj F N M G n i sp (JM st (Jd c)) e w':=by
 have HW:Hid (∀W,Tch NoB w W->Calls prog 284 #[JE wj q,.agg #[.string c.1,.int .i64 c.2]] W λe w'=>Tch NoB W w'/\WoTo E wj F (JM st (Jd c)) e w'):=λW hT=>
  JfG E wj hw1 hw F q st c hc W (hE.tch hT noE) (λj hj=>hF j (Qm hT.size hj)) (hs.next hT) hok
 have HBX:Hid _:=hB
 obtain ⟨rv,hrv⟩:∃rv,Jl q=.pointer rv:=⟨_,rfl⟩
 have hNs:N<w.heap.size:=(Jb hB.s)
 have hMs:M<w.heap.size:=(Jb hB.m)
 have hGs:G<w.heap.size:=(Jb hB.g)
 have a0:w.cell? ⟨N,0,none⟩=some (.int .i64 (wj:Int)):=Ja hB.s
 have a1:w.cell? ⟨N,1,none⟩=some (.pointer rv):=by rw [<-hrv];exact Ja hB.s
 have a2:w.cell? ⟨M,0,none⟩=some (.slice (some ⟨G,0,none⟩) n n):=Ja hB.m
 obtain ⟨hNG,hMG,hNM⟩:=hB.apart
 have hGN:=hNG.symm
 have hGM:=hMG.symm
 have hMN:=hNM.symm
 have hii:(i:Int)<(n:Int):=by omega
 have hi0:(0:Int)<=(i:Int):=by omega
 have HRV:Hid _:=hrv
 unfold JE at HW
 rw [hrv] at HW
 generalize hR:JM st (Jd c)=R at *
 clear hE hF hB hs hok hrv hc
 obtain ⟨cs,cn⟩:=c
 dsimp only at HW ⊢
 have HTA:Hid (∀k,Tch NoB w ((w.alloc (.cells #[.string cs,.int .i64 cn] 49)).drewN k)):=λk=>(Ta _ _ _).dr k
 go_enter func283,ntmps283
 go_wp2_with fail
 cases R with
 | ok r=>
  obtain ⟨st',o⟩:=r
  go_region_with (go_at_call 284;refine (HW.o _ (HTA.o 1)).mono ?_;rintro _ w2 ⟨ht2,q2,rfl,hs2⟩;have hT:Tch NoB w w2:=(HTA.o 1).go ht2;obtain ⟨b0,b1,b2,⟨x0,y0,b3,b4⟩,fN,fG⟩:=(HBX.o.next hT).cells rv HRV.o i hi;obtain ⟨v2,hv2⟩:∃v,Jl q2=.pointer v:=⟨_,rfl⟩;have HV2:Hid _:=hv2;unfold JE;rw [hv2];have HT:Hid _:=hT;have HS2:Hid _:=hs2;clear hv2 hT ht2 hs2)
  all_goals
   go_wp2
   go_ret
   obtain ⟨p1,p2,p3⟩:=(HBX.o.next HT.o).put HT.o i hi wj q2 v2 HV2.o (.int .u64 (o.1:Int)) (.int .u8 (o.2:Int))
   exact ⟨p1,q2,rfl,p2,p3 _ _ _ _ HS2.o⟩
 | error er=>
  go_region_with (go_at_call 284;refine (HW.o _ (HTA.o 1)).mono ?_;rintro _ w2 ⟨ht2,rfl⟩;have hT:Tch NoB w w2:=(HTA.o 1).go ht2;obtain ⟨b0,b1,b2,⟨x0,y0,b3,b4⟩,fN,fG⟩:=(HBX.o.next hT).cells rv HRV.o i hi;have HT:Hid _:=hT;clear hT ht2)
  all_goals
   go_wp2
   go_ret
   obtain ⟨p1,p2,p3⟩:=(HBX.o.next HT.o).put HT.o i hi 0 none none rfl (.int .u64 0) (.int .u8 0)
   exact ⟨p1,rfl,p2⟩

theorem Jhp (fv:Value) (what:BA) (w:World):Calls prog 280 #[.string what,.slice none 0 0,fv] w λe w'=>e=.returned .nilIface/\w=w':=by
 go_enter func280,ntmps280
 go_wp2
 go_loopw [12] (λi wr=>i=.int .i64 0/\w=wr) (λi _=>0)
 case atStart=>exact ⟨rfl,rfl⟩
 case round=>
  obtain ⟨rfl,rfl⟩:=hrel
  go_wp2
  go_ret
  exact ⟨rfl,rfl⟩
theorem YX {P:Program} {fn:Func} {p t t2:Tmp} {ty:TypeId} (h:fn.results= #[.cell p ty,.tmp t,.tmp t2]) (tmps:Array Value) (w:World) (g:Nat) (T:TypeId) (cs:Array Value) (fr:Nat×Nat) (d:TypeDesc)
  (hp:tmps.getD p undef=.pointer (some ⟨g,0,none⟩)) (hg:w.heap[g]? =some (.cells cs T fr))
  (hu:P.underlying ty=some d) (hd:(match d with | .struct _ | .array _ _=>true | _=>false)=true) (hi:(P.info? ty).map (·.size)=some cs.size):
  (results fn tmps).run P w=.ok (.tuple #[.agg cs,tmps.getD t undef,tmps.getD t2 undef]) w:=by
 have hp':tmps[p]?.getD undef=.pointer (some ⟨g,0,none⟩):=by simpa using hp
 simp [results,h,hp',asAddr,run_loadVar_row w g T ty cs fr d hg hu hd hi]
theorem Jr.of_row {w:World} {B G c:Nat} {pre:List (Nat×Nat)} (h:w.heap[G]? =some (.cells (vvA (pre.map encO)) 80)) (hB:G<B):Jr B w (.slice (some ⟨G,0,none⟩) pre.length c) pre:=by
 refine .inr ⟨G,0,c,rfl,hB,(Jb h),λi hi=>?_⟩
 obtain ⟨e0,e1⟩:=YI (pre.map encO) i (by simpa using hi)
 rw [List.getElem_map] at e0 e1
 rw [Nat.zero_add]
 exact ⟨(Ja h).trans e0,(Ja h).trans e1⟩
theorem JbD {W:World} {g:Nat} {a b:Value} (h:W.heap[g]? =some (.cells #[a,b] 146)) (v0 v1:Value):Tch (λk=>k=g) W ((W.setCell ⟨g,0,none⟩ v0).setCell ⟨g,1,none⟩ v1):=by
 rw [set2 W g _ _ _ _ _ h]
 exact Ts W g #[v0,v1]
def JcU (pre:List (Nat×Nat)) (r:Except Er (Option Tr×List (Nat×Nat))):Except Er (Option Tr×List (Nat×Nat)):=match r with
 | .error e=>.error e
 | .ok (st,os)=>.ok (st,pre++os)
theorem Jfv (coins:List (BA×Int)) (i:Nat) (h:i<coins.length) (st:Option Tr) (pre:List (Nat×Nat)):JcU pre (JU (coins.drop i) st)=match JM st (Jd coins[i]) with
  | .error e=>.error e
  | .ok (st1,o)=>JcU (pre++[o]) (JU (coins.drop (i+1)) st1):=by
 rw [List.drop_eq_getElem_cons h]
 show JcU pre (match JM st (Jd coins[i]) with | .error e=>.error e | .ok (st1,o)=>match JU (coins.drop (i+1)) st1 with | .error e=>.error e | .ok (st2,os)=>.ok (st2,o :: os))=_
 cases JM st (Jd coins[i]) with
 | error e=>rfl
 | ok r=>
  obtain ⟨st1,o⟩:=r
  simp only
  cases JU (coins.drop (i+1)) st1 with
  | error e=>rfl
  | ok r=>obtain ⟨st2,os⟩:=r;simp [JcU]
structure JgF (wj:Nat) (F:Nat->Prop) (coins:List (BA×Int)) (R:Except Er (Option Tr×List (Nat×Nat))) (w0:World) (N M G:Nat) (i:Nat) (w:World) (q:Option Nat) (st:Option Tr) (pre:List (Nat×Nat)):Prop where
 box:YF w N wj q M G coins.length (pre.map encO++List.replicate (coins.length - i) zO)
 len:pre.length=i
 outs:∀o∈pre,JC o
 at_:StAt (dgW wj) F w q st
 ok:StOk wj st
 eq:JcU pre (JU (coins.drop i) st)=R
 tch:Tch (λk=>k=N\/k=G) w0 w
def Jlp (E:Nat->Addr) (n:Nat) (R:Except Er (Option Tr×List (Nat×Nat))) (w0:World) (N M G:Nat) (v:Value) (w:World):Prop:=v=eV E 1/\R=.error .input/\(∃sp,YF w N 0 none M G n sp)/\Tch (λk=>k=N\/k=G) w0 w
theorem Jfw (E:Nat->Addr) (wj:Nat) (hw1:1<=wj) (hw:wj<=32) (F:Nat->Prop) (coins:List (BA×Int)) (hco:∀c∈coins,Jo wj c) (R:Except Er (Option Tr×List (Nat×Nat))) (w0:World) (hE:Env E w0) (hF:∀j,w0.heap.size<=j->F j) (N M G:Nat) (hN:18<=N) (hG:N<=G) (g off:Nat) (hg:g<N) (hz:g<w0.heap.size)
  (hr:∀i (h:i<coins.length),w0.cell? ⟨g,off+i * 2,none⟩=some (.string coins[i].1)/\w0.cell? ⟨g,off+i * 2+1,none⟩=some (.int .i64 coins[i].2)):
  Jce 283 #[.pointer (some ⟨N,0,none⟩),.pointer (some ⟨M,0,none⟩)] g off coins.length (λi=>(coins.map encC).getD i zC) (λi w=>∃q st pre,JgF wj F coins R w0 N M G i w q st pre) (Jlp E coins.length R w0 N M G):=by
 have hx:∀i (h:i<coins.length),(coins.map encC).getD i zC=encC coins[i]:=λi h=>by simp [List.getD_eq_getElem?_getD,h]
 refine ⟨λ_ _=>rfl,?_,?_,?_⟩
 ·rintro i w hi ⟨q,st,pre,I⟩
  rw [hx i hi]
  have hc:∀o,w.cell? ⟨g,o,none⟩=w0.cell? ⟨g,o,none⟩:=λo=>I.tch.cell (p:=⟨g,o,none⟩) hz (by show ¬(g=N\/g=G);omega)
  rw [hc,hc]
  exact hr i hi
 ·rintro i w o ⟨q,st,pre,I⟩
  have ha:=Ta NoB w o
  exact ⟨q,st,pre,I.box.next ha,I.len,I.outs,I.at_.next ha,I.ok,I.eq,I.tch.go ha⟩
 ·rintro i w hi ⟨q,st,pre,I⟩
  rw [hx i hi]
  have hcc:Jo wj coins[i]:=hco _ (Qx hi)
  refine (Jh1 E wj hw1 hw F N q st M G coins.length _ i hi coins[i] hcc w (hE.tch I.tch (λj hj=>by omega)) (λj hj=>hF j (Qm I.tch.size hj)) I.box I.at_ I.ok).mono ?_
  rintro e w' ⟨ht,hr⟩
  have e1:=I.eq
  rw [Jfv coins i hi] at e1
  have hT:Tch (λk=>k=N\/k=G) w0 w':=I.tch.trans ht (λj hj=>.inl hj)
  cases hres:JM st (Jd coins[i]) with
  | ok r=>
   obtain ⟨st',o⟩:=r
   rw [hres] at hr e1
   obtain ⟨q',rfl,hb,hs⟩:=hr
   obtain ⟨k1,k2⟩:=I.ok.without hres
   refine .inl ⟨rfl,q',st',pre++[o],?_,by simp [I.len],λx hx=>?_,hs,k1,e1,hT⟩
   ·have:(pre.map encO++List.replicate (coins.length - i) zO).set i (encO o)=(pre++[o]).map encO++List.replicate (coins.length - (i+1)) zO:=by
     have hl:=I.len
     rw [List.set_append_right _ _ (by simp;omega),QM,hl,Nat.sub_self,show coins.length - i=(coins.length - (i+1))+1 by omega,List.replicate_succ]
     simp
    rw [<-this];exact hb
   ·rcases QE.1 hx with h | h
    ·exact I.outs x h
    ·rw [Qt.1 h];exact k2
  | error er=>
   rw [hres] at hr e1
   obtain ⟨rfl,hb⟩:=hr
   have:=JeB hres
   subst this
   exact .inr ⟨_,_,rfl,rfl,e1.symm,⟨_,hb⟩,hT⟩
theorem JmC (n:Nat) (h:n<=3) (w:World):(Instr.makeSlice 22 (.int .i64 (n:Int)) (.int .i64 (n:Int))).run prog w=.ok (.slice (some ⟨w.heap.size,0,none⟩) n n) (w.alloc (.cells (vvA (List.replicate n zO)) 80)):=by
 obtain rfl | rfl | rfl | rfl:n=0\/n=1\/n=2\/n=3:=by omega
 all_goals kernel_rfl
def Jlq (E:Nat->Addr) (wj:Nat) (F:Nat->Prop) (r:Except Er (Option Tr×List (Nat×Nat))) (e:Ending) (w':World):Prop:=match r with
 | .ok (st',os)=>∃q' G c,e=.returned (.tuple #[JE wj q',.slice (some ⟨G,0,none⟩) os.length c,.nilIface])/\StAt (dgW wj) F w' q' st'/\StOk wj st'/\w'.heap[G]? =some (.cells (vvA (os.map encO)) 80)/\(∀o∈os,JC o)/\os.length<=3
 | .error er=>∃x v,e=.returned (.tuple #[JE 0 none,x,v])/\Jm E (erG er) w' v/\er=.input
theorem Jh2 (E:Nat->Addr) (wj:Nat) (hw1:1<=wj) (hw:wj<=32) (F:Nat->Prop) (q:Option Nat) (st:Option Tr) (v:Value) (coins:List (BA×Int)) (hco:∀c∈coins,Jo wj c) (h3:coins.length<=3) (w:World) (hE:Env E w) (hF:∀j,w.heap.size<=j->F j) (hv:Jz w.heap.size w v coins) (hs:StAt (dgW wj) F w q st) (hok:StOk wj st):
  Calls prog 207 #[JE wj q,v] w λe w'=>Tch NoB w w'/\Jlq E wj F (JU coins st) e w':=by
 obtain ⟨rv,hrv⟩:∃rv,Jl q=.pointer rv:=⟨_,rfl⟩
 obtain ⟨n,hn⟩:∃n,n=coins.length:=⟨_,rfl⟩
 obtain ⟨W0,hW0⟩:∃W,W=((w.alloc (.cells #[.int .i64 (wj:Int),.pointer rv] 146)).alloc (.cells #[.int .i64 0,.pointer none] 146)).alloc (.cells (vvA (List.replicate n zO)) 80):=⟨_,rfl⟩
 obtain ⟨W,hW⟩:∃W,W=W0.alloc (.cells #[.slice (some ⟨w.heap.size+2,0,none⟩) n n] 22):=⟨_,rfl⟩
 have hz0:W0.heap.size=w.heap.size+3:=by rw [hW0];simp
 have hA0:Tch NoB w W0:=by rw [hW0];exact Tch.allocs3 _ _ _ _ _
 have hA1:Tch NoB W0 W:=by rw [hW];exact Ta _ _ _
 have hA:Tch NoB w W:=hA0.go hA1
 have f0:W0.heap[w.heap.size]? =some (.cells #[.int .i64 (wj:Int),.pointer rv] 146):=by rw [hW0];exact JO _ _ _ _
 have f1:W0.heap[w.heap.size+1]? =some (.cells #[.int .i64 0,.pointer none] 146):=by rw [hW0];exact JI _ _ _ _
 have f2:W0.heap[w.heap.size+2]? =some (.cells (vvA (List.replicate n zO)) 80):=by rw [hW0];exact JK _ _ _ _
 have hbx:YF W w.heap.size wj q (w.heap.size+3) (w.heap.size+2) coins.length (List.replicate (coins.length - 0) zO):=by
  rw [<-hn,Nat.sub_zero]
  refine ⟨?_,?_,?_,by simp⟩
  ·rw [hrv];exact (hA1.block _ (by omega) (λh=>h)).trans f0
  ·rw [hW,<-hz0];exact Qf _ _
  ·exact (hA1.block _ (by omega) (λh=>h)).trans f2
 have hro:W.heap[w.heap.size+1]? =some (.cells #[.int .i64 0,.pointer none] 146):=(hA1.block _ (by omega) (λh=>h)).trans f1
 generalize hR:JU coins st=R
 have hEW:=hE.tch hA noE
 have hi0:JgF wj F coins R W w.heap.size (w.heap.size+3) (w.heap.size+2) 0 W q st []:=⟨hbx,rfl,(λ_ h=>by cases h),hs.next hA,hok,by rw [List.drop_zero,hR];cases R with | error e=>rfl | ok r=>rfl,Te _ _⟩
 have HEA:Hid (∀what:BA,what.size<=1000->Calls prog 280 #[.string what,v,.func (.func 283) #[] #[.pointer (some ⟨w.heap.size,0,none⟩),.pointer (some ⟨w.heap.size+3,0,none⟩)]] W λe w'=>ToE (λi w'=>∃q st pre,JgF wj F coins R W w.heap.size (w.heap.size+3) (w.heap.size+2) i w' q st pre) (Jlp E coins.length R W w.heap.size (w.heap.size+3) (w.heap.size+2)) coins.length e w'):=λwhat hwh=>by
  rcases hv with ⟨rfl,rfl⟩ | ⟨gi,oi,c,rfl,h1,h2,h3'⟩
  ·refine (Jhp _ _ _).mono ?_
   rintro _ _ ⟨rfl,rfl⟩
   exact .inl ⟨rfl,q,st,[],hi0⟩
  ·refine Jmv _ _ _ _ _ _ _ _ (λi hi=>?_) _ _ (Jfw E wj hw1 hw F coins hco R W hEW (λj hj=>hF j (Qm hA.size hj)) w.heap.size (w.heap.size+3) (w.heap.size+2) hE.size (by omega) gi oi h1 (Qk h2 hA.size) (λi hi=>?_)) h3 hwh W ⟨q,st,[],hi0⟩
   ·simp only [Qn,List.getElem?_map,Qd hi];exact ⟨_,_,rfl⟩
   ·have hc:∀o,W.cell? ⟨gi,o,none⟩=w.cell? ⟨gi,o,none⟩:=λo=>hA.cell (p:=⟨gi,o,none⟩) h2 (λh=>h)
    rw [hc,hc];exact h3' i hi
 obtain ⟨ia,ic,hvs⟩:=hv.shape
 have HRV:Hid _:=hrv
 have HRO:Hid _:=hro
 have HA:Hid _:=hA
 have hmf:∀(fn:Fn) (first cap:Array Value) (w:World),(Instr.makeFunc fn first cap).run prog w=.ok (.func fn first cap) w:=λ_ _ _ _=>rfl
 have HMK:Hid (∀w,(Instr.makeSlice 22 (.int .i64 (n:Int)) (.int .i64 (n:Int))).run prog w=.ok (.slice (some ⟨w.heap.size,0,none⟩) n n) (w.alloc (.cells (vvA (List.replicate n zO)) 80))):=λw=>JmC n (by omega) w
 have HW:Hid (W=(((w.alloc (.cells #[.int .i64 (wj:Int),.pointer rv] 146)).alloc (.cells #[.int .i64 0,.pointer none] 146)).alloc (.cells (vvA (List.replicate n zO)) 80)).alloc (.cells #[.slice (some ⟨w.heap.size+2,0,none⟩) n n] 22)):=by rw [hW0] at hW;exact hW
 have HN:Hid _:=hn
 subst hvs
 unfold JE
 rw [hrv]
 rw [<-hn] at HEA ⊢
 have hn3:n<=3:=by omega
 clear hE hF hv hs hok hrv hro hA hi0 hEW hbx hW hW0 hco h3 hR hA0 hA1 f0 f1 f2 hz0 hn
 have hmk:=HMK.o
 go_enter func207,ntmps207
 go_wp2_with fail
 rw [<-HW.o]
 refine (HEA.o _ (by decide)).mono ?_
 rintro e w2 (⟨rfl,q2,st2,pre,I⟩ | ⟨p,sx,vx,w1,rfl,hp,⟨rfl,hR,⟨sp,hb⟩,ht⟩,hbl⟩)
 ·have hsR:=(Jb HRO.o)
  have hr2:w2.heap[w.heap.size+1]? =some (.cells #[.int .i64 0,.pointer none] 146):=(I.tch.block _ hsR (by omega)).trans HRO.o
  obtain ⟨v2,hv2⟩:∃v,Jl q2=.pointer v:=⟨_,rfl⟩
  have c0:w2.cell? ⟨w.heap.size,0,none⟩=some (.int .i64 (wj:Int)):=Ja I.box.s
  have c1:w2.cell? ⟨w.heap.size,1,none⟩=some (.pointer v2):=by rw [<-hv2];exact Ja I.box.s
  have c2:w2.cell? ⟨w.heap.size+1+1+1,0,none⟩=some (.slice (some ⟨w.heap.size+2,0,none⟩) n n):=by rw [HN.o];exact Ja I.box.m
  have r0:w2.cell? ⟨w.heap.size+1,0,none⟩=some (.int .i64 0):=Ja hr2
  have r1:w2.cell? ⟨w.heap.size+1,1,none⟩=some (.pointer none):=Ja hr2
  have fR:∀j,w2.frozen? ⟨w.heap.size+1,j,none⟩=false:=λj=>Qg _ _ _ _ _ hr2
  have HR2:Hid _:=hr2
  have HI:Hid (JgF wj F coins R W w.heap.size (w.heap.size+3) (w.heap.size+2) coins.length w2 q2 st2 pre):=by rw [<-HN.o];exact I
  have HV2:Hid _:=hv2
  have hz2:w.heap.size+3<w2.heap.size:=(Jb I.box.m)
  clear I hr2 hv2 HEA hsR hmk
  go_wp2
  go_region
  all_goals
   go_wp2
   obtain ⟨p1,p2,p3,_⟩:=Xp HR2.o ((HA.o.trans HI.o.tch (λj hj=>.inr (by omega))):Tch NoB w w2) (by omega) (.int .i64 (wj:Int)) (.pointer v2)
   refine QK (v:=.tuple #[.agg #[.int .i64 (wj:Int),.pointer v2],.slice (some ⟨w.heap.size+2,0,none⟩) n n,.nilIface]) (YX results207 _ _ (w.heap.size+1) _ _ (0,0) _ rfl p1 underlying146 rfl (by kernel_rfl)) rfl ⟨p2.dr 1,?_⟩
   have e1:=HI.o.eq
   rw [List.drop_length] at e1
   rw [<-e1]
   have hpl:pre.length=n:=by rw [HN.o];exact HI.o.len
   have hb:=HI.o.box
   rw [Nat.sub_self,List.replicate_zero,QC] at hb
   refine ⟨q2,w.heap.size+2,n,?_,(p3 _ _ _ _ HI.o.at_).next (Td _ _ 1),HI.o.ok,?_,?_,?_⟩
   ·simp only [QC];rw [JE,HV2.o,hpl]
   ·have hg:=((JbD HR2.o (.int .i64 (wj:Int)) (.pointer v2)).dr 1).block (w.heap.size+2) (by omega) (by omega)
    simp only [QC]
    exact hg.trans hb.g
   ·simp only [QC];exact HI.o.outs
   ·simp only [QC];omega
 ·have hsR:=(Jb HRO.o)
  have hr1:w1.heap[w.heap.size+1]? =some (.cells #[.int .i64 0,.pointer none] 146):=(ht.block _ hsR (by omega)).trans HRO.o
  have hz1:=(Jb hr1)
  have hr2:w2.heap[w.heap.size+1]? =some (.cells #[.int .i64 0,.pointer none] 146):=(hbl.block _ hz1).trans hr1
  have hs2:w2.heap[w.heap.size]? =some (.cells #[.int .i64 0,.pointer none] 146):=(hbl.block _ (Jb hb.s)).trans hb.s
  have hm2:w2.heap[w.heap.size+3]? =some (.cells #[.slice (some ⟨w.heap.size+2,0,none⟩) n n] 22):=(hbl.block _ (Jb hb.m)).trans hb.m
  have c0:w2.cell? ⟨w.heap.size,0,none⟩=some (.int .i64 0):=Ja hs2
  have c1:w2.cell? ⟨w.heap.size,1,none⟩=some (.pointer none):=Ja hs2
  have c2:w2.cell? ⟨w.heap.size+1+1+1,0,none⟩=some (.slice (some ⟨w.heap.size+2,0,none⟩) n n):=Ja hm2
  have r0:w2.cell? ⟨w.heap.size+1,0,none⟩=some (.int .i64 0):=Ja hr2
  have r1:w2.cell? ⟨w.heap.size+1,1,none⟩=some (.pointer none):=Ja hr2
  have fR:∀j,w2.frozen? ⟨w.heap.size+1,j,none⟩=false:=λj=>Qg _ _ _ _ _ hr2
  have HR2:Hid _:=hr2
  have HT2:Hid (Tch (λk=>k=w.heap.size\/k=w.heap.size+2) W w2):=ht.trans (Tch.of_below hbl) (λj hj=>.inr (Qm ht.size hj))
  have HP:Hid _:=hp
  have HR:Hid (R=_):=hR
  have hz2:w.heap.size+3<w2.heap.size:=(Jb hm2)
  clear hr1 hr2 hs2 hbl ht hb hp hR HEA hsR hz1 hm2 hmk
  go_wp2
  go_region
  all_goals
   go_wp2
   obtain ⟨p1,p2,p3,p4⟩:=Xp HR2.o ((HA.o.trans HT2.o (λj hj=>.inr (by omega))):Tch NoB w w2) (by omega) (.int .i64 0) (.pointer none)
   refine QK (v:=.tuple #[.agg #[.int .i64 0,.pointer none],.slice (some ⟨w.heap.size+2,0,none⟩) n n,.iface 235 (.pointer (some ⟨p,0,none⟩))]) (YX results207 _ _ (w.heap.size+1) _ _ (0,0) _ rfl p1 underlying146 rfl (by kernel_rfl)) rfl ⟨p2.dr 1,?_⟩
   rw [HR.o]
   exact ⟨_,_,rfl,Jm.tch (p4 _ _ _ (.wrap p _ _ HP.o .base)) (Td NoB _ 1) (λ_ _ _ _ h=>h),rfl⟩

theorem txB?_ok {wj:Nat} {t:TxL} (h:TxOk wj t):txB? wj t=some (txB t):=by
 unfold txB?
 rw [(Jlx wj t h).wr []]
 rfl
theorem Jd2 (dg:List UInt8->BA) (st:Option Tr) (t:TxL):JD dg st t=match JU t.1 st with
  | .error e=>.error e
  | .ok (st1,os)=>match Jv (dg (84 :: txB t)) 0 t.2 st1 with
   | .error e=>.error e
   | .ok st2=>if Xb os t.2 then .error .sum else .ok st2:=rfl
structure ZC (W:World) (N wj:Nat) (q:Option Nat) (x:Sl×Sl):Prop where
 s:W.heap[N]? =some (.cells #[.int .i64 (wj:Int),Jl q] 146)
 t:W.heap[N+1]? =some (.cells #[.slice x.1.1 x.1.2.1 x.1.2.2,.slice x.2.1 x.2.2.1 x.2.2.2] 98)
 r:W.heap[N+1+1]? =some (.cells #[.int .i64 0,.pointer none] 146)
theorem ZC.next {w w':World} {N wj:Nat} {q:Option Nat} {x:Sl×Sl} (h:ZC w N wj q x) (k:Tch NoB w w'):ZC w' N wj q x:=
 ⟨(k.block _ (Jb h.s) (λh=>h)).trans h.s,(k.block _ (Jb h.t) (λh=>h)).trans h.t,(k.block _ (Jb h.r) (λh=>h)).trans h.r⟩
theorem ZC.put {W:World} {N wj:Nat} {q:Option Nat} {x:Sl×Sl} (h:ZC W N wj q x) (width':Nat) (q':Option Nat) (v':Option Addr) (hv:Jl q'=.pointer v'):ZC ((W.setCell ⟨N,0,none⟩ (.int .i64 (width':Int))).setCell ⟨N,1,none⟩ (.pointer v')) N width' q' x:=by
 have k:=JbD h.s (.int .i64 (width':Int)) (.pointer v')
 refine ⟨?_,(k.block _ (Jb h.t) (by omega)).trans h.t,(k.block _ (Jb h.r) (by omega)).trans h.r⟩
 rw [set2 W N _ _ _ _ _ h.s,hv]
 exact Qi _ _ _ _ _ _ h.s
theorem ZC.cells {W:World} {N wj:Nat} {q:Option Nat} {x:Sl×Sl} (h:ZC W N wj q x) (rv:Option Addr) (hrv:Jl q=.pointer rv):(W.cell? ⟨N,0,none⟩=some (.int .i64 (wj:Int))/\W.cell? ⟨N,1,none⟩=some (.pointer rv))/\(W.cell? ⟨N+1,0,none⟩=some (.slice x.1.1 x.1.2.1 x.1.2.2)/\W.cell? ⟨N+1,1,none⟩=some (.slice x.2.1 x.2.2.1 x.2.2.2))/\
  (W.cell? ⟨N+1+1,0,none⟩=some (.int .i64 0)/\W.cell? ⟨N+1+1,1,none⟩=some (.pointer none))/\(∀j,W.frozen? ⟨N,j,none⟩=false)/\(∀j,W.frozen? ⟨N+1+1,j,none⟩=false)/\N+1+1<W.heap.size:=by
 refine ⟨⟨Ja h.s,?_⟩,⟨Ja h.t,Ja h.t⟩,⟨Ja h.r,Ja h.r⟩,λj=>Qg _ _ _ _ _ h.s,λj=>Qg _ _ _ _ _ h.r,(Jb h.r)⟩
 rw [<-hrv];exact Ja h.s
theorem ZC.both {w W:World} {N wj:Nat} {q:Option Nat} {x:Sl×Sl} (h:ZC W N wj q x) (hT:Tch NoB w W) (hN:w.heap.size<=N) (width':Nat) (q':Option Nat) (v':Option Addr) (hv:Jl q'=.pointer v'):
  ZC ((W.setCell ⟨N,0,none⟩ (.int .i64 (width':Int))).setCell ⟨N,1,none⟩ (.pointer v')) N width' q' x/\Tch NoB w ((W.setCell ⟨N,0,none⟩ (.int .i64 (width':Int))).setCell ⟨N,1,none⟩ (.pointer v'))/\
  (∀d F q' st',StAt d F W q' st'->StAt d F ((W.setCell ⟨N,0,none⟩ (.int .i64 (width':Int))).setCell ⟨N,1,none⟩ (.pointer v')) q' st')/\(∀E k v,Jm E k W v->Jm E k ((W.setCell ⟨N,0,none⟩ (.int .i64 (width':Int))).setCell ⟨N,1,none⟩ (.pointer v')) v)/\
  ∀(G:Nat) (c:Array Value),W.heap[G]? =some (.cells c 80)->((W.setCell ⟨N,0,none⟩ (.int .i64 (width':Int))).setCell ⟨N,1,none⟩ (.pointer v')).heap[G]? =some (.cells c 80):=by
 obtain ⟨_,p2,p3,p4⟩:=Xp h.s hT hN (.int .i64 (width':Int)) (.pointer v')
 refine ⟨h.put width' q' v' hv,p2,p3,p4,λG c hg=>?_⟩
 refine ((JbD h.s _ _).block G (Jb hg) ?_).trans hg
 rintro rfl
 rw [h.s] at hg
 simp at hg
def ApTo (E:Nat->Addr) (wj:Nat) (F:Nat->Prop) (r:Except Er (Option Tr)) (e:Ending) (w':World):Prop:=match r with
 | .ok st'=>∃q',e=.returned (.tuple #[JE wj q',.nilIface])/\StAt (dgW wj) F w' q' st'/\StOk wj st'
 | .error er=>∃(u:Nat) (q':Option Nat) (t:TypeId) (v:Value),e=.returned (.tuple #[JE u q',.iface t v])/\Jm E (erG er) w' (.iface t v)
theorem Jd3 (E:Nat->Addr) (wj:Nat) (hw1:1<=wj) (hw:wj<=32) (F:Nat->Prop) (q:Option Nat) (st:Option Tr) (x:Sl×Sl) (t:TxL) (ht:TxOk wj t) (w:World) (hE:Env E w) (hF:∀j,w.heap.size<=j->F j) (h1:Jz w.heap.size w (.slice x.1.1 x.1.2.1 x.1.2.2) t.1) (h2:Jr w.heap.size w (.slice x.2.1 x.2.2.1 x.2.2.2) t.2) (hs:StAt (dgW wj) F w q st) (hok:StOk wj st):
  Calls prog 137 #[.int .i64 (wj:Int),JE wj q,.agg #[.slice x.1.1 x.1.2.1 x.1.2.2,.slice x.2.1 x.2.2.1 x.2.2.2]] w λe w'=>Tch NoB w w'/\ApTo E wj F (JD (dgW wj) st t) e w':=by
 have hm:=ht.made
 have hi3:=ht.ins
 have HID:Hid (∀W,Tch NoB w W->Calls prog 206 #[.int .i64 (wj:Int),.agg #[.slice x.1.1 x.1.2.1 x.1.2.2,.slice x.2.1 x.2.2.1 x.2.2.2]] W λe w'=>e=.returned (.tuple #[.string (dgW wj (84 :: txB t)),.nilIface])/\Tch NoB W w'):=λW hT=>by
  refine (Jj5 E wj hw1 hw x t W (hE.tch hT noE) ((h1.tch hT noE).up hT.size) ((h2.tch hT noE).up hT.size) (by omega) (by omega) (λo ho=>(ht.outs o ho).2)).mono ?_
  rintro e w' ⟨k1,k2⟩
  rw [txB?_ok ht] at k2
  exact ⟨k2,k1⟩
 have HSP:Hid (∀W,Tch NoB w W->Calls prog 207 #[JE wj q,.slice x.1.1 x.1.2.1 x.1.2.2] W λe w'=>Tch NoB W w'/\Jlq E wj F (JU t.1 st) e w'):=λW hT=>
  Jh2 E wj hw1 hw F q st _ t.1 ht.coins hi3 W (hE.tch hT noE) (λj hj=>hF j (Qm hT.size hj)) ((h1.tch hT noE).up hT.size) (hs.next hT) hok
 have HRC:Hid (∀W q1 st1,Tch NoB w W->StAt (dgW wj) F W q1 st1->StOk wj st1->Calls prog 126 #[JE wj q1,.string (dgW wj (84 :: txB t)),.slice x.2.1 x.2.2.1 x.2.2.2] W λe w'=>Tch NoB W w'/\Jlo E wj F (Jv (dgW wj (84 :: txB t)) 0 t.2 st1) e w'):=λW q1 st1 hT k1 k2=>
  JbU E wj hw1 hw F q1 st1 _ (Jq wj hw _) _ t.2 ht.outs hm W (hE.tch hT noE) (λj hj=>hF j (Qm hT.size hj)) ((h2.tch hT noE).up hT.size) k1 k2
 have HCS:Hid (∀W G c os,Tch NoB w W->W.heap[G]? =some (.cells (vvA (os.map encO)) 80)->(∀o∈os,JC o)->os.length<=3->Calls prog 208 #[.slice (some ⟨G,0,none⟩) os.length c,.slice x.2.1 x.2.2.1 x.2.2.2] W λe w'=>Tch NoB W w'/\((¬Xb os t.2/\e=.returned .nilIface)\/(Xb os t.2/\∃v,e=.returned v/\Jm E 3 w' v))):=λW G c os hT hr ho h3=>
  Jdb E W.heap.size _ _ os t.2 (by omega) (by omega) (λo h=>(ho o h).1) (λo h=>(ht.outs o h).1) W (hE.tch hT noE) (Jr.of_row hr (Jb hr)) ((h2.tch hT noE).up hT.size)
 obtain ⟨rv,hrv⟩:∃rv,Jl q=.pointer rv:=⟨_,rfl⟩
 obtain ⟨W,hW⟩:∃W,W=((w.alloc (.cells #[.int .i64 (wj:Int),.pointer rv] 146)).alloc (.cells #[.slice x.1.1 x.1.2.1 x.1.2.2,.slice x.2.1 x.2.2.1 x.2.2.2] 98)).alloc (.cells #[.int .i64 0,.pointer none] 146):=⟨_,rfl⟩
 have hA:Tch NoB w W:=by rw [hW];exact Tch.allocs3 _ _ _ _ _
 have hbx:ZC W w.heap.size wj q x:=by rw [hW,hrv.symm];exact ⟨JO _ _ _ _,JI _ _ _ _,JK _ _ _ _⟩
 have HAP:Hid (JD (dgW wj) st t=match JU t.1 st with
  | .error e=>.error e
  | .ok (st1,os)=>match Jv (dgW wj (84 :: txB t)) 0 t.2 st1 with
   | .error e=>.error e
   | .ok st2=>if Xb os t.2 then .error .sum else .ok st2):=Jd2 (dgW wj) st t
 generalize JD (dgW wj) st t=AP at *
 generalize dgW wj (84 :: txB t)=id at *
 have HS:Hid (StAt (dgW wj) F W q st):=hs.next hA
 have HBX:Hid _:=hbx
 have HRV:Hid _:=hrv
 have HA:Hid _:=hA
 have HW:Hid (W=_):=hW
 obtain ⟨⟨a0,a1⟩,⟨a2,a3⟩,⟨a4,a5⟩,fN,fR,hz⟩:=hbx.cells rv hrv
 obtain ⟨⟨x1,x2,x3⟩,y1,y2,y3⟩:=x
 dsimp only at HID HSP HRC HCS a2 a3 ⊢
 unfold JE at HSP ⊢
 rw [hrv] at HSP ⊢
 clear hE hF h1 h2 hs hok hrv hA hbx ht hm hi3
 go_enter func137,ntmps137
 go_wp2_with fail
 rw [<-HW.o]
 refine (HID.o _ HA.o).mono ?_
 rintro _ w2 ⟨rfl,ht2⟩
 have b2:=HBX.o.next ht2
 have HB2:Hid _:=b2
 have HT2:Hid (Tch NoB w w2):=HA.o.go ht2
 have HS2:Hid (StAt (dgW wj) F w2 q st):=HS.o.next ht2
 clear a0 a1 a2 a3 a4 a5 fN fR hz
 obtain ⟨⟨a0,a1⟩,⟨a2,a3⟩,⟨a4,a5⟩,fN,fR,hz⟩:=b2.cells rv HRV.o
 clear b2 ht2 HBX HA HS HW HID
 go_wp2_with fail
 refine (HSP.o _ HT2.o).mono ?_
 clear HSP
 generalize JU t.1 st=SP at *
 cases SP with
 | error er=>
  rintro _ w3 ⟨ht3,xx,v,rfl,hv,hei⟩
  obtain ⟨tv,uv,rfl⟩:=hv.iface
  have b3:=HB2.o.next ht3
  have HB3:Hid _:=b3
  have HT3:Hid (Tch NoB w w3):=HT2.o.go ht3
  have HV:Hid _:=hv
  clear a0 a1 a2 a3 a4 a5 fN fR hz
  obtain ⟨⟨a0,a1⟩,⟨a2,a3⟩,⟨a4,a5⟩,fN,fR,hz⟩:=b3.cells rv HRV.o
  clear b3 ht3 HB2 HT2 hv HRC HCS HS2
  go_wp2
  obtain ⟨k1,k2,k3,k4,_⟩:=HB3.o.both HT3.o (Ql _) 0 none none rfl
  obtain ⟨p1,p2,p3,p4⟩:=Xp k1.r k2 (by omega) (.int .i64 0) (.pointer none)
  refine QK (v:=.tuple #[.agg #[.int .i64 0,.pointer none],.iface tv uv]) (Jg results137 _ _ (w.heap.size+1+1) _ _ (0,0) _ rfl p1 underlying146 rfl (by kernel_rfl)) rfl ⟨p2,?_⟩
  rw [HAP.o]
  exact ⟨0,none,_,_,rfl,p4 _ _ _ (k4 _ _ _ HV.o)⟩
 | ok r=>
  obtain ⟨st1,os⟩:=r
  rintro _ w3 ⟨ht3,q1,G,gc,rfl,hs1,hk1,hg,ho,h3⟩
  have b3:=HB2.o.next ht3
  have HB3:Hid _:=b3
  have HT3:Hid (Tch NoB w w3):=HT2.o.go ht3
  have HS3:Hid _:=hs1
  have HK1:Hid _:=hk1
  have HG:Hid _:=hg
  have HO:Hid ((∀o∈os,JC o)/\os.length<=3):=⟨ho,h3⟩
  clear a0 a1 a2 a3 a4 a5 fN fR hz
  obtain ⟨⟨a0,a1⟩,⟨a2,a3⟩,⟨a4,a5⟩,fN,fR,hz⟩:=b3.cells rv HRV.o
  clear b3 ht3 HB2 HT2 hs1 hk1 hg ho h3 HS2
  unfold JE
  obtain ⟨v1,hv1⟩:∃v,Jl q1=.pointer v:=⟨_,rfl⟩
  rw [hv1]
  have HV1:Hid _:=hv1
  clear hv1
  go_wp2_with fail
  obtain ⟨k1,k2,k3,k4,k5⟩:=HB3.o.both HT3.o (Ql _) wj q1 v1 HV1.o
  have HS4:=k3 _ _ _ _ HS3.o
  have HG4:=k5 _ _ HG.o
  clear k3 k4 k5 a0 a1 a2 a3 a4 a5 fN fR hz
  obtain ⟨w4,hw4⟩:∃w4,w4=((w3.setCell ⟨w.heap.size,0,none⟩ (.int .i64 (wj:Int))).setCell ⟨w.heap.size,1,none⟩ (.pointer v1)):=⟨_,rfl⟩
  rw [<-hw4] at k1 k2 HS4 HG4 ⊢
  clear hw4 HS3 HG HB3 HT3
  have HCA:=HRC.o w4 q1 st1 k2 HS4 HK1.o
  unfold JE at HCA
  rw [HV1.o] at HCA
  have HB4:Hid _:=k1
  have HT4:Hid _:=k2
  have HG4':Hid (w4.heap[G]? =some (.cells (vvA (os.map encO)) 80)):=HG4
  refine HCA.mono ?_
  clear HCA k1 k2 HS4 HG4 HRC HK1
  have HAP':Hid (AP=match Jv id 0 t.2 st1 with
   | .error e=>.error e
   | .ok st2=>if Xb os t.2 then .error .sum else .ok st2):=HAP.o
  clear HAP
  generalize Jv id 0 t.2 st1=RC at *
  cases RC with
  | error er=>
   rintro _ w5 ⟨ht5,v,rfl,hv,hei⟩
   obtain ⟨tv,uv,rfl⟩:=hv.iface
   have b5:=HB4.o.next ht5
   have HB5:Hid _:=b5
   have HT5:Hid (Tch NoB w w5):=HT4.o.go ht5
   have HV:Hid _:=hv
   obtain ⟨⟨a0,a1⟩,⟨a2,a3⟩,⟨a4,a5⟩,fN,fR,hz⟩:=b5.cells v1 HV1.o
   clear b5 ht5 HB4 HT4 hv HCS
   go_wp2
   obtain ⟨k1,k2,k3,k4,_⟩:=HB5.o.both HT5.o (Ql _) 0 none none rfl
   obtain ⟨p1,p2,p3,p4⟩:=Xp k1.r k2 (by omega) (.int .i64 0) (.pointer none)
   refine QK (v:=.tuple #[.agg #[.int .i64 0,.pointer none],.iface tv uv]) (Jg results137 _ _ (w.heap.size+1+1) _ _ (0,0) _ rfl p1 underlying146 rfl (by kernel_rfl)) rfl ⟨p2,?_⟩
   rw [HAP'.out]
   exact ⟨0,none,_,_,rfl,p4 _ _ _ (k4 _ _ _ HV.o)⟩
  | ok st2=>
   rintro _ w5 ⟨ht5,q2,rfl,hs2,hk2⟩
   have b5:=HB4.o.next ht5
   have HB5:Hid _:=b5
   have HT5:Hid (Tch NoB w w5):=HT4.o.go ht5
   have HS5:Hid _:=hs2
   have HK2:Hid _:=hk2
   have HG5:Hid (w5.heap[G]? =some (.cells (vvA (os.map encO)) 80)):=(ht5.block _ (Jb HG4'.out) (λh=>h)).trans HG4'.out
   obtain ⟨⟨a0,a1⟩,⟨a2,a3⟩,⟨a4,a5⟩,fN,fR,hz⟩:=b5.cells v1 HV1.o
   clear b5 ht5 HB4 HT4 HG4' hs2 hk2
   unfold JE
   obtain ⟨v2,hv2⟩:∃v,Jl q2=.pointer v:=⟨_,rfl⟩
   rw [hv2]
   have HV2:Hid _:=hv2
   clear hv2
   go_wp2_with fail
   obtain ⟨k1,k2,k3,k4,k5⟩:=HB5.o.both HT5.o (Ql _) wj q2 v2 HV2.o
   have HS6:=k3 _ _ _ _ HS5.o
   have HG6:=k5 _ _ HG5.o
   clear k3 k4 k5 a0 a1 a2 a3 a4 a5 fN fR hz
   obtain ⟨w6,hw6⟩:∃w6,w6=((w5.setCell ⟨w.heap.size,0,none⟩ (.int .i64 (wj:Int))).setCell ⟨w.heap.size,1,none⟩ (.pointer v2)):=⟨_,rfl⟩
   rw [<-hw6] at k1 k2 HS6 HG6 ⊢
   clear hw6 HS5 HG5 HB5 HT5
   have HB6:Hid _:=k1
   have HT6:Hid (∀k,Tch NoB w (w6.drewN k)):=λk=>k2.dr k
   have HS6':Hid (StAt (dgW wj) F w6 q2 st2):=HS6
   obtain ⟨⟨a0,a1⟩,⟨a2,a3⟩,⟨a4,a5⟩,fN,fR,hz⟩:=k1.cells v2 HV2.o
   have HCA:Hid (Calls prog 208 #[.slice (some ⟨G,0,none⟩) os.length gc,.slice y1 y2 y3] (w6.drewN 1) λe w'=>∃ev,e=.returned ev/\Tch NoB w6 w'/\((¬Xb os t.2/\ev=.nilIface)\/(Xb os t.2/\Jm E 3 w' ev))):=(HCS.o (w6.drewN 1) G gc os (k2.dr 1) HG6 HO.o.1 HO.o.2).mono λe w' h=>by
    obtain ⟨h1,⟨h2,rfl⟩ | ⟨h2,v,rfl,h3⟩⟩:=h
    ·exact ⟨_,rfl,(Td NoB w6 1).go h1,.inl ⟨h2,rfl⟩⟩
    ·exact ⟨_,rfl,(Td NoB w6 1).go h1,.inr ⟨h2,h3⟩⟩
   clear k1 k2 HS6 HG6 HCS
   go_region_with (go_at_call 208;refine HCA.o.mono ?_;rintro _ w7 ⟨ev,rfl,ht7,hev⟩;have b7:=HB6.o.next ht7;have HB7:Hid _:=b7;have HT7:Hid (Tch NoB w w7):=(HT6.o 0).go ht7;have HS7:Hid (StAt (dgW wj) F w7 q2 st2):=HS6'.out.next ht7;have HEV:Hid (_\/_):=hev;obtain ⟨⟨c0,c1⟩,⟨c2,c3⟩,⟨c4,c5⟩,gN,gR,hz7⟩:=b7.cells v2 HV2.o;clear b7 ht7 hev)
   all_goals
    go_wp2
    obtain ⟨p1,p2,p3,p4⟩:=Xp HB7.o.r HT7.o (by omega) (.int .i64 (wj:Int)) (.pointer v2)
    refine QK (v:=.tuple #[.agg #[.int .i64 (wj:Int),.pointer v2],ev]) (Jg results137 _ _ (w.heap.size+1+1) _ _ (0,0) _ rfl p1 underlying146 rfl (by kernel_rfl)) rfl ⟨p2,?_⟩
    rw [HAP'.out]
    rcases HEV.o with ⟨hb,rfl⟩ | ⟨hb,he⟩
    ·rw [if_neg hb]
     exact ⟨q2,by rw [JE,HV2.o],p3 _ _ _ _ HS7.o,HK2.o⟩
    ·rw [if_pos hb]
     obtain ⟨tv,uv,rfl⟩:=he.iface
     exact ⟨wj,q2,tv,uv,by rw [JE,HV2.o],p4 _ _ _ he⟩

theorem Jhr (fv:Value) (what:BA) (w:World):Calls prog 135 #[.string what,.slice none 0 0,fv] w λe w'=>e=.returned .nilIface/\w=w':=by
 go_enter func135,ntmps135
 go_wp2
 go_loopw [12] (λi wr=>i=.int .i64 0/\w=wr) (λi _=>0)
 case atStart=>exact ⟨rfl,rfl⟩
 case round=>
  obtain ⟨rfl,rfl⟩:=hrel
  go_wp2
  go_ret
  exact ⟨rfl,rfl⟩
structure ZD (w:World) (N wj width':Nat) (q:Option Nat):Prop where
 i:w.heap[N]? =some (.cells #[.int .i64 (wj:Int)] 3)
 s:w.heap[N+1]? =some (.cells #[.int .i64 (width':Int),Jl q] 146)
theorem ZD.next {w w':World} {N wj width':Nat} {q:Option Nat} (h:ZD w N wj width' q) (k:Tch NoB w w'):ZD w' N wj width' q:=
 ⟨(k.block _ (Jb h.i) (λh=>h)).trans h.i,(k.block _ (Jb h.s) (λh=>h)).trans h.s⟩
theorem ZD.put {w W:World} {N wj width0:Nat} {q:Option Nat} (h:ZD W N wj width0 q) (hT:Tch NoB w W) (width':Nat) (q':Option Nat) (v':Option Addr) (hv:Jl q'=.pointer v'):
  Tch (λk=>k=N+1) w ((W.setCell ⟨N+1,0,none⟩ (.int .i64 (width':Int))).setCell ⟨N+1,1,none⟩ (.pointer v'))/\
  ZD ((W.setCell ⟨N+1,0,none⟩ (.int .i64 (width':Int))).setCell ⟨N+1,1,none⟩ (.pointer v')) N wj width' q'/\
  (∀d F q' st',StAt d F W q' st'->StAt d F ((W.setCell ⟨N+1,0,none⟩ (.int .i64 (width':Int))).setCell ⟨N+1,1,none⟩ (.pointer v')) q' st')/\∀E k v,Jm E k W v->Jm E k ((W.setCell ⟨N+1,0,none⟩ (.int .i64 (width':Int))).setCell ⟨N+1,1,none⟩ (.pointer v')) v:=by
 rw [set2 W (N+1) _ _ _ _ _ h.s]
 have t1:=Ts W (N+1) #[.int .i64 (width':Int),.pointer v']
 refine ⟨(hT.mono (S':=λk=>k=N+1) noE).trans t1 (λj hj=>.inl hj),⟨(t1.block _ (Jb h.i) (by omega)).trans h.i,?_⟩,λd F q' st' hs=>hs.row h.s (by decide),λE k v he=>he.tch t1 ?_⟩
 ·rw [hv];exact Qi _ _ _ _ _ _ h.s
 ·rintro p s u hp rfl
  rw [h.s] at hp
  injection hp with hp
  injection hp with _ h2
  exact absurd h2 (by decide)
def AyTo (E:Nat->Addr) (wj:Nat) (F:Nat->Prop) (N:Nat) (r:Except Er (Option Tr)) (e:Ending) (w':World):Prop:=match r with
 | .ok st'=>∃q',e=.returned .nilIface/\ZD w' N wj wj q'/\StAt (dgW wj) F w' q' st'/\StOk wj st'
 | .error er=>∃(u:Nat) (q':Option Nat) (t:TypeId) (v:Value),e=.returned (.iface t v)/\ZD w' N wj u q'/\Jm E (erG er) w' (.iface t v)
theorem Jhd (E:Nat->Addr) (wj:Nat) (hw1:1<=wj) (hw:wj<=32) (F:Nat->Prop) (N:Nat) (q:Option Nat) (st:Option Tr) (i:Nat) (x:Sl×Sl) (t:TxL) (ht:TxOk wj t) (w:World) (hE:Env E w) (hF:∀j,w.heap.size<=j->F j) (hB:ZD w N wj wj q) (h1:Jz w.heap.size w (.slice x.1.1 x.1.2.1 x.1.2.2) t.1) (h2:Jr w.heap.size w (.slice x.2.1 x.2.2.1 x.2.2.2) t.2) (hs:StAt (dgW wj) F w q st) (hok:StOk wj st):
  Calls prog 136 #[.int .i64 (i:Int),.agg #[.slice x.1.1 x.1.2.1 x.1.2.2,.slice x.2.1 x.2.2.1 x.2.2.2],.pointer (some ⟨N,0,none⟩),.pointer (some ⟨N+1,0,none⟩)] w λe w'=>Tch (λk=>k=N+1) w w'/\AyTo E wj F N (JD (dgW wj) st t) e w':=by
 have HW:Hid (∀W,Tch NoB w W->Calls prog 137 #[.int .i64 (wj:Int),JE wj q,.agg #[.slice x.1.1 x.1.2.1 x.1.2.2,.slice x.2.1 x.2.2.1 x.2.2.2]] W λe w'=>Tch NoB W w'/\ApTo E wj F (JD (dgW wj) st t) e w'):=λW hT=>
  Jd3 E wj hw1 hw F q st x t ht W (hE.tch hT noE) (λj hj=>hF j (Qm hT.size hj)) ((h1.tch hT noE).up hT.size) ((h2.tch hT noE).up hT.size) (hs.next hT) hok
 have HBX:Hid _:=hB
 obtain ⟨rv,hrv⟩:∃rv,Jl q=.pointer rv:=⟨_,rfl⟩
 have hNb:N+1<w.heap.size:=(Jb hB.s)
 have hNs:N<w.heap.size:=by omega
 have a0:w.cell? ⟨N+1,0,none⟩=some (.int .i64 (wj:Int)):=Ja hB.s
 have a1:w.cell? ⟨N+1,1,none⟩=some (.pointer rv):=by rw [<-hrv];exact Ja hB.s
 have a2:w.cell? ⟨N,0,none⟩=some (.int .i64 (wj:Int)):=Ja hB.i
 have HRV:Hid _:=hrv
 unfold JE at HW
 rw [hrv] at HW
 generalize JD (dgW wj) st t=R at *
 clear hE hF hB hs hok hrv ht h1 h2
 obtain ⟨⟨x1,x2,x3⟩,y1,y2,y3⟩:=x
 dsimp only at HW ⊢
 have HTA:Hid (∀k,Tch NoB w ((w.alloc (.cells #[.slice x1 x2 x3,.slice y1 y2 y3] 98)).drewN k)):=λk=>(Ta _ _ _).dr k
 go_enter func136,ntmps136
 go_wp2_with fail
 refine (HW.o _ (HTA.o 0)).mono ?_
 clear HW a0 a1 a2
 cases R with
 | ok st'=>
  rintro _ w2 ⟨ht2,q2,rfl,hs2,hk2⟩
  have hT:Tch NoB w w2:=(HTA.o 0).go ht2
  have b2:=HBX.o.next hT
  have HB2:Hid _:=b2
  have c0:w2.cell? ⟨N+1,0,none⟩=some (.int .i64 (wj:Int)):=Ja b2.s
  have c1:w2.cell? ⟨N+1,1,none⟩=some (.pointer rv):=by rw [<-HRV.o];exact Ja b2.s
  have fN:∀j,w2.frozen? ⟨N+1,j,none⟩=false:=λj=>Qg _ _ _ _ _ b2.s
  have HT:Hid _:=hT
  have HS2:Hid _:=hs2
  have HK2:Hid _:=hk2
  clear hT ht2 hs2 b2 HTA hk2
  unfold JE
  obtain ⟨v2,hv2⟩:∃v,Jl q2=.pointer v:=⟨_,rfl⟩
  rw [hv2]
  have HV2:Hid _:=hv2
  clear hv2
  go_wp2
  go_ret
  obtain ⟨p1,p2,p3,_⟩:=HB2.o.put HT.o wj q2 v2 HV2.o
  exact ⟨p1,q2,rfl,p2,p3 _ _ _ _ HS2.o,HK2.o⟩
 | error er=>
  rintro _ w2 ⟨ht2,u2,q2,t2,e2,rfl,hv⟩
  have hT:Tch NoB w w2:=(HTA.o 0).go ht2
  have b2:=HBX.o.next hT
  have HB2:Hid _:=b2
  have c0:w2.cell? ⟨N+1,0,none⟩=some (.int .i64 (wj:Int)):=Ja b2.s
  have c1:w2.cell? ⟨N+1,1,none⟩=some (.pointer rv):=by rw [<-HRV.o];exact Ja b2.s
  have fN:∀j,w2.frozen? ⟨N+1,j,none⟩=false:=λj=>Qg _ _ _ _ _ b2.s
  have HT:Hid _:=hT
  have HV:Hid _:=hv
  clear hT ht2 b2 HTA hv
  unfold JE
  obtain ⟨v2,hv2⟩:∃v,Jl q2=.pointer v:=⟨_,rfl⟩
  rw [hv2]
  have HV2:Hid _:=hv2
  clear hv2
  go_wp2
  go_ret
  obtain ⟨p1,p2,_,p4⟩:=HB2.o.put HT.o u2 q2 v2 HV2.o
  exact ⟨p1,u2,q2,t2,e2,rfl,p2,p4 _ _ _ HV.o⟩
theorem JeJ (dg:List UInt8->BA) (ts:List TxL) (i:Nat) (h:i<ts.length) (st:Option Tr):JA dg st (ts.drop i)=match JD dg st ts[i] with
  | .error e=>.error e
  | .ok st1=>JA dg st1 (ts.drop (i+1)):=by
 rw [List.drop_eq_getElem_cons h]
 rfl
def TxIn (B:Nat) (w:World) (l:List (Sl×Sl)) (ts:List TxL):Prop:=l.length=ts.length/\∀(j:Nat) x t,l[j]? =some x->ts[j]? =some t->Jz B w (.slice x.1.1 x.1.2.1 x.1.2.2) t.1/\Jr B w (.slice x.2.1 x.2.2.1 x.2.2.2) t.2
structure JgD (wj:Nat) (F:Nat->Prop) (ts:List TxL) (R:Except Er (Option Tr)) (w0:World) (N:Nat) (i:Nat) (w:World) (q:Option Nat) (st:Option Tr):Prop where
 box:ZD w N wj wj q
 at_:StAt (dgW wj) F w q st
 ok:StOk wj st
 eq:JA (dgW wj) st (ts.drop i)=R
 tch:Tch (λk=>k=N+1) w0 w
def Jlj (E:Nat->Addr) (wj:Nat) (R:Except Er (Option Tr)) (w0:World) (N:Nat) (v:Value) (w:World):Prop:=∃(er:Er) (u:Nat) (q:Option Nat),R=.error er/\Jm E (erG er) w v/\ZD w N wj u q/\Tch (λk=>k=N+1) w0 w
theorem JeK (E:Nat->Addr) (wj:Nat) (hw1:1<=wj) (hw:wj<=32) (F:Nat->Prop) (l:List (Sl×Sl)) (ts:List TxL) (hts:∀t∈ts,TxOk wj t) (R:Except Er (Option Tr)) (w0:World) (hE:Env E w0) (hF:∀j,w0.heap.size<=j->F j) (N:Nat) (hN:18<=N) (hN0:N<=w0.heap.size) (hin:TxIn N w0 l ts) (g off:Nat) (hg:g<N) (hz:g<w0.heap.size)
  (hr:∀i (h:i<l.length),w0.cell? ⟨g,off+i * 2,none⟩=some (.slice l[i].1.1 l[i].1.2.1 l[i].1.2.2)/\w0.cell? ⟨g,off+i * 2+1,none⟩=some (.slice l[i].2.1 l[i].2.2.1 l[i].2.2.2)):
  Jce 136 #[.pointer (some ⟨N,0,none⟩),.pointer (some ⟨N+1,0,none⟩)] g off l.length (λi=>(l.map encT).getD i zT) (λi w=>∃q st,JgD wj F ts R w0 N i w q st) (Jlj E wj R w0 N):=by
 have hx:∀i (h:i<l.length),(l.map encT).getD i zT=encT l[i]:=λi h=>by simp [List.getD_eq_getElem?_getD,h]
 refine ⟨λ_ _=>rfl,?_,?_,?_⟩
 ·rintro i w hi ⟨q,st,I⟩
  rw [hx i hi]
  have hc:∀o,w.cell? ⟨g,o,none⟩=w0.cell? ⟨g,o,none⟩:=λo=>I.tch.cell (p:=⟨g,o,none⟩) hz (by show ¬g=N+1;omega)
  rw [hc,hc]
  exact hr i hi
 ·rintro i w o ⟨q,st,I⟩
  have ha:=Ta NoB w o
  exact ⟨q,st,I.box.next ha,I.at_.next ha,I.ok,I.eq,I.tch.go ha⟩
 ·rintro i w hi ⟨q,st,I⟩
  rw [hx i hi]
  have hi':i<ts.length:=by rw [<-hin.1];exact hi
  obtain ⟨k1,k2⟩:=hin.2 i l[i] ts[i] (Qd hi) (Qd hi')
  have hNw:N<=w.heap.size:=Qm hN0 I.tch.size
  refine (Jhd E wj hw1 hw F N q st i l[i] ts[i] (hts _ (Qx hi')) w (hE.tch I.tch (λj hj=>by omega)) (λj hj=>hF j (Qm I.tch.size hj)) I.box ((k1.tch I.tch (λj hj=>by omega)).up hNw) ((k2.tch I.tch (λj hj=>by omega)).up hNw) I.at_ I.ok).mono ?_
  rintro e w' ⟨ht,hr⟩
  have e1:=I.eq
  rw [JeJ (dgW wj) ts i hi'] at e1
  have hT:Tch (λk=>k=N+1) w0 w':=I.tch.trans ht (λj hj=>.inl hj)
  cases hres:JD (dgW wj) st ts[i] with
  | ok st'=>
   rw [hres] at hr e1
   obtain ⟨q',rfl,hb,hs,hk⟩:=hr
   exact .inl ⟨rfl,q',st',hb,hs,hk,e1,hT⟩
  | error er=>
   rw [hres] at hr e1
   obtain ⟨u,q',t',v',rfl,hb,hv⟩:=hr
   exact .inr ⟨t',v',rfl,er,u,q',e1.symm,hv,hb,hT⟩
theorem Jdp (E:Nat->Addr) (wj:Nat) (hw1:1<=wj) (hw:wj<=32) (F:Nat->Prop) (q:Option Nat) (st:Option Tr) (v:Value) (l:List (Sl×Sl)) (ts:List TxL) (hts:∀t∈ts,TxOk wj t) (h3:ts.length<=3) (w:World) (hE:Env E w) (hF:∀j,w.heap.size<=j->F j) (hv:JR w.heap.size w v l) (hin:TxIn w.heap.size w l ts) (hs:StAt (dgW wj) F w q st) (hok:StOk wj st):
  Calls prog 81 #[.int .i64 (wj:Int),JE wj q,v] w λe w'=>Tch NoB w w'/\ApTo E wj F (JA (dgW wj) st ts) e w':=by
 obtain ⟨rv,hrv⟩:∃rv,Jl q=.pointer rv:=⟨_,rfl⟩
 obtain ⟨W,hW⟩:∃W,W=((w.alloc (.cells #[.int .i64 (wj:Int)] 3)).alloc (.cells #[.int .i64 (wj:Int),.pointer rv] 146)).alloc (.cells #[.int .i64 0,.pointer none] 146):=⟨_,rfl⟩
 have hA:Tch NoB w W:=by rw [hW];exact Tch.allocs3 _ _ _ _ _
 have hbx:ZD W w.heap.size wj wj q:=by rw [hW,hrv.symm];exact ⟨JO _ _ _ _,JI _ _ _ _⟩
 have hro:W.heap[w.heap.size+1+1]? =some (.cells #[.int .i64 0,.pointer none] 146):=by rw [hW];exact JK _ _ _ _
 generalize hR:JA (dgW wj) st ts=R
 have hEW:=hE.tch hA noE
 have hi0:JgD wj F ts R W w.heap.size 0 W q st:=⟨hbx,hs.next hA,hok,hR,Te _ _⟩
 have hinW:TxIn w.heap.size W l ts:=⟨hin.1,λj x t k1 k2=>⟨(hin.2 j x t k1 k2).1.tch hA noE,(hin.2 j x t k1 k2).2.tch hA noE⟩⟩
 have HEA:Hid (∀what:BA,what.size<=1000->Calls prog 135 #[.string what,v,.func (.func 136) #[] #[.pointer (some ⟨w.heap.size,0,none⟩),.pointer (some ⟨w.heap.size+1,0,none⟩)]] W λe w'=>ToE (λi w'=>∃q st,JgD wj F ts R W w.heap.size i w' q st) (Jlj E wj R W w.heap.size) l.length e w'):=λwhat hwh=>by
  rcases hv with ⟨rfl,rfl⟩ | ⟨gi,oi,c,rfl,h1,h2,h3'⟩
  ·refine (Jhr _ _ _).mono ?_
   rintro _ _ ⟨rfl,rfl⟩
   exact .inl ⟨rfl,q,st,hi0⟩
  ·refine Jmx _ _ _ _ _ _ _ _ (λi hi=>?_) _ _ (JeK E wj hw1 hw F l ts hts R W hEW (λj hj=>hF j (Qm hA.size hj)) w.heap.size hE.size hA.size hinW gi oi h1 (Qk h2 hA.size) (λi hi=>?_)) (by rw [hin.1];exact h3) hwh W ⟨q,st,hi0⟩
   ·simp only [Qn,List.getElem?_map,Qd hi];exact ⟨_,_,rfl⟩
   ·have hc:∀o,W.cell? ⟨gi,o,none⟩=w.cell? ⟨gi,o,none⟩:=λo=>hA.cell (p:=⟨gi,o,none⟩) h2 (λh=>h)
    rw [hc,hc];exact h3' i hi
 obtain ⟨ia,ic,hvs⟩:=hv.shape
 have HRV:Hid _:=hrv
 have HRO:Hid _:=hro
 have HA:Hid _:=hA
 have hmf:∀(fn:Fn) (first cap:Array Value) (w:World),(Instr.makeFunc fn first cap).run prog w=.ok (.func fn first cap) w:=λ_ _ _ _=>rfl
 have HW:Hid (W=_):=hW
 have HLL:Hid (l.length=ts.length):=hin.1
 subst hvs
 unfold JE
 rw [hrv]
 clear hE hF hv hs hok hrv hro hA hi0 hEW hbx hW hts h3 hR hin hinW
 go_enter func81,ntmps81
 go_wp2_with fail
 rw [<-HW.o]
 refine (HEA.o _ (by decide)).mono ?_
 rintro e w2 (⟨rfl,q2,st2,I⟩ | ⟨p,sx,vx,w1,rfl,hp,⟨er,u2,q2,hR,hv,hb,ht⟩,hbl⟩)
 ·have hsR:=(Jb HRO.o)
  have hr2:w2.heap[w.heap.size+1+1]? =some (.cells #[.int .i64 0,.pointer none] 146):=(I.tch.block _ hsR (by omega)).trans HRO.o
  obtain ⟨v2,hv2⟩:∃v,Jl q2=.pointer v:=⟨_,rfl⟩
  have c0:w2.cell? ⟨w.heap.size+1,0,none⟩=some (.int .i64 (wj:Int)):=Ja I.box.s
  have c1:w2.cell? ⟨w.heap.size+1,1,none⟩=some (.pointer v2):=by rw [<-hv2];exact Ja I.box.s
  have r0:w2.cell? ⟨w.heap.size+1+1,0,none⟩=some (.int .i64 0):=Ja hr2
  have r1:w2.cell? ⟨w.heap.size+1+1,1,none⟩=some (.pointer none):=Ja hr2
  have fR:∀j,w2.frozen? ⟨w.heap.size+1+1,j,none⟩=false:=λj=>Qg _ _ _ _ _ hr2
  have HR2:Hid _:=hr2
  have HI:Hid (JgD wj F ts R W w.heap.size ts.length w2 q2 st2):=by rw [<-HLL.o];exact I
  have HV2:Hid _:=hv2
  have hz2:w.heap.size+1+1<w2.heap.size:=(Jb hr2)
  clear I hr2 hv2 HEA hsR
  go_wp2
  obtain ⟨p1,p2,p3,_⟩:=Xp HR2.o ((HA.o.trans HI.o.tch (λj hj=>.inr (by omega))):Tch NoB w w2) (by omega) (.int .i64 (wj:Int)) (.pointer v2)
  refine QK (v:=.tuple #[.agg #[.int .i64 (wj:Int),.pointer v2],.nilIface]) (Jg results81 _ _ (w.heap.size+1+1) _ _ (0,0) _ rfl p1 underlying146 rfl (by kernel_rfl)) rfl ⟨p2,?_⟩
  have e1:=HI.o.eq
  rw [List.drop_length] at e1
  rw [<-e1]
  exact ⟨q2,by rw [JE,HV2.o],p3 _ _ _ _ HI.o.at_,HI.o.ok⟩
 ·have hsR:=(Jb HRO.o)
  have hr1:w1.heap[w.heap.size+1+1]? =some (.cells #[.int .i64 0,.pointer none] 146):=(ht.block _ hsR (by omega)).trans HRO.o
  have hz1:=(Jb hr1)
  have hr2:w2.heap[w.heap.size+1+1]? =some (.cells #[.int .i64 0,.pointer none] 146):=(hbl.block _ hz1).trans hr1
  obtain ⟨v2,hv2⟩:∃v,Jl q2=.pointer v:=⟨_,rfl⟩
  have hs2:w2.heap[w.heap.size+1]? =some (.cells #[.int .i64 (u2:Int),Jl q2] 146):=(hbl.block _ (Jb hb.s)).trans hb.s
  have hz2:w.heap.size+1+1<w2.heap.size:=(Jb hr2)
  have c0:w2.cell? ⟨w.heap.size+1,0,none⟩=some (.int .i64 (u2:Int)):=Ja hs2
  have c1:w2.cell? ⟨w.heap.size+1,1,none⟩=some (.pointer v2):=by rw [<-hv2];exact Ja hs2
  have r0:w2.cell? ⟨w.heap.size+1+1,0,none⟩=some (.int .i64 0):=Ja hr2
  have r1:w2.cell? ⟨w.heap.size+1+1,1,none⟩=some (.pointer none):=Ja hr2
  have fR:∀j,w2.frozen? ⟨w.heap.size+1+1,j,none⟩=false:=λj=>Qg _ _ _ _ _ hr2
  have HR2:Hid _:=hr2
  have HT2:Hid (Tch (λk=>k=w.heap.size+1) W w2):=ht.trans (Tch.of_below hbl) (λj hj=>.inr (Qm ht.size hj))
  have HP:Hid (Jm E (erG er) w2 (.iface 235 (.pointer (some ⟨p,0,none⟩)))):=.wrap p _ _ hp (hv.later hbl)
  have HR:Hid (R=_):=hR
  have HV2:Hid _:=hv2
  clear hr1 hr2 hs2 hbl ht hb hp hR HEA hsR hz1 hv hv2
  go_wp2
  obtain ⟨p1,p2,p3,p4⟩:=Xp HR2.o ((HA.o.trans HT2.o (λj hj=>.inr (by omega))):Tch NoB w w2) (by omega) (.int .i64 (u2:Int)) (.pointer v2)
  refine QK (v:=.tuple #[.agg #[.int .i64 (u2:Int),.pointer v2],.iface 235 (.pointer (some ⟨p,0,none⟩))]) (Jg results81 _ _ (w.heap.size+1+1) _ _ (0,0) _ rfl p1 underlying146 rfl (by kernel_rfl)) rfl ⟨p2,?_⟩
  rw [HR.o]
  exact ⟨u2,q2,_,_,by rw [JE,HV2.o],p4 _ _ _ HP.o⟩
