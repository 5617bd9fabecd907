import Derived.Test.YtighkdnooglfjaaGreatDoorBxIds2
namespace Go.Proofs.YtighkdnooglfjaaGreatDoor
open Tryz
set_option maxRecDepth 100000
set_option maxHeartbeats 1000000
open Go.RowKit

def stO (o:Nat×Nat) (st:Option PS):(Nat×Nat)×Option PS:=(((JG o.1 8 st).1,(JG o.2 1 (JG o.1 8 st).2).1),(JG o.2 1 (JG o.1 8 st).2).2)
def Zn (wj:Nat) (k:List UInt8) (st:Option PS):List UInt8×Option PS:=
 ((Jj k (wj+1) st).1,match (Jj k (wj+1) st).2 with
  | none=>none
  | some p=>if 3<=((Jj k (wj+1) st).1.getD wj 0).toNat then none else some p)
def YY (wj:Nat) (b:Int) (st:Option PS):Nat×Option PS:=((JG (Jw b) 2 st).1,if 8 * (wj+1)<=(JG (Jw b) 2 st).1 then none else (JG (Jw b) 2 st).2)
def XH (wj:Nat) (k:BA) (o:Nat×Nat) (st:Option PS):(List UInt8×(Nat×Nat))×Option PS:=(((Zn wj k.data.toList st).1,(stO o (Zn wj k.data.toList st).2).1),(stO o (Zn wj k.data.toList st).2).2)
def stBr (wj:Nat) (b:Int) (x y:BA) (st:Option PS):(Nat×List UInt8×List UInt8)×Option PS:=
 (((YY wj b st).1,(Jj x.data.toList wj (YY wj b st).2).1,(Jj y.data.toList wj (Jj x.data.toList wj (YY wj b st).2).2).1),(Jj y.data.toList wj (Jj x.data.toList wj (YY wj b st).2).2).2)
theorem Jew (s:List UInt8) (k:Nat) (st:Option PS) (p:PS) (h:(Jj s k st).2=some p):(Jj s k st).1.length=k:=by
 cases st with
 | none=>cases h
 | some q=>
  cases hq:q.txt s k with
  | none=>rw [Yp hq] at h;cases h
  | some r=>
   obtain ⟨t,p1⟩:=r
   rw [JW hq]
   cases q with
   | rd a c=>
    simp only [PS.txt] at hq
    split at hq
    ·cases hq;simp;omega
    ·cases hq
   | wr d=>
    simp only [PS.txt] at hq
    split at hq
    ·cases hq;assumption
    ·cases hq
theorem Jh5 (wj:Nat) (k:List UInt8) (st:Option PS):JN (Zn wj k st).2<=JN st+(wj+1):=by
 have:=Yc k (wj+1) st
 unfold Zn
 dsimp only
 cases h:(Jj k (wj+1) st).2 with
 | none=>simp [JN]
 | some p=>
  rw [h] at this
  dsimp only
  split
  ·simp [JN]
  ·exact this
theorem Jh3 (wj:Nat) (b:Int) (st:Option PS):JN (YY wj b st).2<=JN st+2:=by
 have:=Jal (Jw b) 2 st
 unfold YY
 dsimp only
 split
 ·simp [JN]
 ·exact this
theorem JjU {wj:Nat} {k:List UInt8} {st:Option PS} (h:stWr st):stWr (Zn wj k st).2:=by
 have h1:=XS (s:=k) (k:=wj+1) h
 unfold Zn
 dsimp only
 cases h2:(Jj k (wj+1) st).2 with
 | none=>exact Zo
 | some p=>
  rw [h2] at h1
  dsimp only
  split
  ·exact Zo
  ·exact h1
theorem JjS {wj:Nat} {b:Int} {st:Option PS} (h:stWr st):stWr (YY wj b st).2:=by
 unfold YY
 dsimp only
 split
 ·exact Zo
 ·exact ZZ h
theorem Jmh {o:Nat×Nat} {st:Option PS} (h:stWr st):stWr (stO o st).2:=ZZ (ZZ h)
theorem Jh6 {wj:Nat} {k:BA} {o:Nat×Nat} {st:Option PS} (h:stWr st):stWr (XH wj k o st).2:=Jmh (JjU h)
theorem Jla {wj:Nat} {b:Int} {x y:BA} {st:Option PS} (h:stWr st):stWr (stBr wj b x y st).2:=XS (XS (JjS h))
theorem StTo.alloc {E:Nat->Addr} {w w2:World} {b:Nat} {g:Option Nat} {wj:Int} {st:Option PS} (h:StTo E w w2 b g wj st) (o:Obj):StTo E w (w2.alloc o) b g wj st:=by
 obtain ⟨g',h1,h2,h3⟩:=h
 exact ⟨g',h1.next (Ta _ _ _),h2,h3.trans (Ta NoB _ _) noE⟩
theorem set3 (w:World) (g:Nat) (t:TypeId) (a b c v0 v1 v2:Value) (h:w.heap[g]? =some (.cells #[a,b,c] t (0,0))):
  ((w.setCell ⟨g,0,none⟩ v0).setCell ⟨g,1,none⟩ v1).setCell ⟨g,2,none⟩ v2=w.setRow g #[v0,v1,v2]:=by
 rw [Qj w g 0 _ t (0,0) v0 h,Qj _ g 1 _ t (0,0) v1 (Qi _ _ _ _ _ _ h),QI,
  Qj _ g 2 _ t (0,0) v2 (Qi _ _ _ _ _ _ h),QI]
 refine congrArg (w.setRow g) ?_
 simp

theorem Jl7 (E:Nat->Addr) (b:Nat) (hb12:18<=b) (g:Option Nat) (wj:Int) (a o:Nat) (ho:o<256) (st:Option PS) (w:World) (hE:Env E w) (hp:Jh E w b g wj st) (hd:JN st<=90000000):
  Calls prog 205 #[.pointer (some ⟨b,0,none⟩),.agg #[.int .u64 (a:Int),.int .u8 (o:Int)]] w λe w'=>e=.returned (.agg #[.int .u64 ((stO (a,o) st).1.1:Int),.int .u8 ((stO (a,o) st).1.2:Int)])/\StTo E w w' b g wj (stO (a,o) st).2:=by
 have hlt:=hp.lt
 have HR0:=Run.start hb12 hE hp (Tch.allocs NoB w (.cells #[.int .u64 (a:Int),.int .u8 (o:Int)] 80) (.cells #[.int .u64 0,.int .u8 0] 80))
 have hl0:=Jal a 8 st
 have hm:=Jba o 1 (JG a 8 st).2
 have hwo:IntKind.u64.wrap (o:Int)=(o:Int):=JF _ (by omega) (by omega)
 have RUN:Hid _:=HR0
 clear hE hp HR0
 go_enter func205,ntmps205
 go_wp2_with fail
 refine (Zj E b g wj a 8 st _ RUN.out.env RUN.out.port (by omega) (by omega)).mono ?_
 rintro _ w1 ⟨rfl,h⟩
 obtain ⟨g1,R1⟩:=RUN.out.step h
 have bx1:=(R1.box (k:=w.heap.size) (Ql _) (heap_alloc2_old _ _ _)).1
 have c1:w1.cell? ⟨w.heap.size,1,none⟩=some (.int .u8 (o:Int)):=Ja bx1
 have RUN1:Hid _:=R1
 clear R1 bx1 h
 go_wp2_with fail
 refine (Zj E b g1 wj o 1 _ _ RUN1.out.env RUN1.out.port (by omega) (by omega)).mono ?_
 rintro _ w2 ⟨rfl,h⟩
 obtain ⟨g2,R2⟩:=RUN1.out.step h
 have rR:=(R2.box (k:=w.heap.size+1) (by omega) (heap_alloc2_new _ _ _)).1
 have e0:w2.cell? ⟨w.heap.size+1,0,none⟩=some (.int .u64 0):=Ja rR
 have e1:w2.cell? ⟨w.heap.size+1,1,none⟩=some (.int .u8 0):=Ja rR
 have fR:∀j,w2.frozen? ⟨w.heap.size+1,j,none⟩=false:=λj=>Qg _ _ _ _ _ rR
 have hw8:IntKind.u8.wrap ((JG o 1 (JG a 8 st).2).1:Int)=((JG o 1 (JG a 8 st).2).1:Int):=Jbi _ (by omega) (by omega)
 have RUN2:Hid _:=R2
 have RR:Hid (_=_):=rR
 clear R2 rR h
 go_wp2
 rw [set2 _ _ _ _ _ _ _ RR.out]
 exact QK (v:=.agg #[.int .u64 ((stO (a,o) st).1.1:Int),.int .u8 ((stO (a,o) st).1.2:Int)]) (Qq results205 _ _ (w.heap.size+1) _ _ (0,0) _ rfl (Qi _ _ _ _ _ _ RR.out) underlying80 rfl (by kernel_rfl)) rfl ⟨rfl,RUN2.out.done (k:=w.heap.size+1) (by omega) (heap_alloc2_new _ _ _) (by decide)⟩

theorem Jh.err {E:Nat->Addr} {w:World} {b:Nat} {g:Option Nat} {wj:Int} {st:Option PS} (h:Jh E w b g wj st):(st=none/\∃t u,w.cell? ⟨b,2,none⟩=some (.iface t u))\/((∃p,st=some p)/\w.cell? ⟨b,2,none⟩=some .nilIface):=by
 cases st with
 | some p=>exact .inr ⟨⟨p,rfl⟩,Jc.errCell h⟩
 | none=>obtain ⟨p,t,u,h1,_⟩:=h;exact .inl ⟨rfl,t,u,h1.errCell⟩
theorem JlR (E:Nat->Addr) (b:Nat) (hb12:18<=b) (g:Option Nat) (wj:Nat) (hw:wj<=1000) (k:BA) (st:Option PS) (w:World) (hE:Env E w) (hp:Jh E w b g wj st) (hd:JN st<=90000000):
  Calls prog 294 #[.pointer (some ⟨b,0,none⟩),.string k] w λe w'=>e=.returned (.string ⟨(Zn wj k.data.toList st).1.toArray⟩)/\StTo E w w' b g wj (Zn wj k.data.toList st).2:=by
 have cw:=hp.width
 have hlt:=hp.lt
 have HC:Hid (Calls prog 209 _ w _):=Jey E b g wj k (wj+1) st w hE hp (by omega)
 have HE:Hid (Env E w):=hE
 have HP:Hid _:=hp
 have HK:Hid (Zn wj k.data.toList st=((Jj k.data.toList (wj+1) st).1,match (Jj k.data.toList (wj+1) st).2 with
  | none=>none
  | some p=>if 3<=((Jj k.data.toList (wj+1) st).1.getD wj 0).toNat then none else some p)):=rfl
 have HL:Hid (∀p,(Jj k.data.toList (wj+1) st).2=some p->(Jj k.data.toList (wj+1) st).1.length=wj+1):=λp h=>Jew _ _ _ p h
 have hww:IntKind.i64.wrap ((wj:Int)+1)=(wj:Int)+1:=Js _ (by omega) (by omega)
 clear hE hp
 go_enter func294,ntmps294
 go_wp2_with fail
 refine HC.o.mono ?_
 rintro _ w1 ⟨rfl,g1,hp1,hm1,ht1⟩
 have hev:=hp1.err
 have cw1:=hp1.width
 have HE1:Hid (Env E w1):=HE.o.tch ht1 (Jbb hb12 HP.o)
 have HP1:Hid _:=hp1
 have HM1:Hid _:=hm1
 have HT1:Hid _:=ht1
 clear hp1 hm1 ht1 HC
 rcases hev with ⟨hn,t,u,ce⟩ | ⟨⟨p,hs⟩,ce⟩
 ·have HN:Hid (_=none):=hn
  clear hn
  go_wp2
  go_ret
  refine ⟨by rw [HK.o];rfl,g1,?_,HM1.o,HT1.o⟩
  rw [HK.o,HN.o]
  have:=HP1.o
  rw [HN.o] at this
  exact this
 ·have hln:=HL.o p hs
  have HS:Hid _:=hs
  clear hs
  have hsz:(⟨(Jj k.data.toList (wj+1) st).1.toArray⟩:BA).size=wj+1:=by rw [Jk];exact hln
  have hix:wj<(⟨(Jj k.data.toList (wj+1) st).1.toArray⟩:BA).size:=by omega
  have HB:Hid ((⟨(Jj k.data.toList (wj+1) st).1.toArray⟩:BA)[wj].toNat=((Jj k.data.toList (wj+1) st).1.getD wj 0).toNat):=by
   show UInt8.toNat _=_
   congr 1
   simp [List.getD_eq_getElem?_getD,show wj<(Jj k.data.toList (wj+1) st).1.length by omega]
   rfl
  generalize hTB:(⟨(Jj k.data.toList (wj+1) st).1.toArray⟩:BA)=tb at *
  have HTB:Hid (_=tb):=hTB
  clear hTB hln
  by_cases h3:3<=tb[wj].toNat
  ·have h3i:(3:Int)<=(tb[wj].toNat:Int):=by omega
   go_wp2_with fail
   refine (Jaj E b g1 wj _ _ w1 HE1.o HP1.o).mono ?_
   rintro _ w2 ⟨rfl,hs2⟩
   have HS2:Hid _:=hs2
   clear hs2
   go_wp2
   go_ret
   refine ⟨by rw [HK.o,HTB.o];rfl,?_⟩
   rw [HK.o]
   dsimp only
   rw [HS.o]
   dsimp only
   rw [if_pos (by rw [<-HB.o];exact h3)]
   exact StTo.trans HM1.o HT1.o HS2.o
  ·have h3i:¬(3:Int)<=(tb[wj].toNat:Int):=by omega
   go_wp2
   go_ret
   refine ⟨by rw [HK.o,HTB.o];rfl,g1,?_,HM1.o,HT1.o⟩
   rw [HK.o]
   dsimp only
   have:=HP1.o
   rw [HS.o] at this ⊢
   dsimp only
   rw [if_neg (by rw [<-HB.o];exact h3)]
   exact this
theorem JlG (E:Nat->Addr) (b:Nat) (hb12:18<=b) (g:Option Nat) (wj:Nat) (hw:wj<=1000) (k:Int) (st:Option PS) (w:World) (hE:Env E w) (hp:Jh E w b g wj st) (hd:JN st<=90000000):
  Calls prog 292 #[.pointer (some ⟨b,0,none⟩),.int .i64 k] w λe w'=>e=.returned (.int .i64 ((YY wj k st).1:Int))/\StTo E w w' b g wj (YY wj k st).2:=by
 have hx:=Jcn k
 have HE:Hid (Env E w):=hE
 have HP:Hid _:=hp
 have HK:Hid (YY wj k st=((JG (Jw k) 2 st).1,if 8 * (wj+1)<=(JG (Jw k) 2 st).1 then none else (JG (Jw k) 2 st).2)):=rfl
 clear hE hp
 go_enter func292,ntmps292
 go_wp2_with fail
 refine (Zj E b g wj (Jw k) 2 st w HE.o HP.o (by omega) (by omega)).mono ?_
 rintro _ w1 ⟨rfl,g1,hp1,hm1,ht1⟩
 have cw1:=hp1.width
 have hm:=Jba (Jw k) 2 st
 have HE1:Hid (Env E w1):=HE.o.tch ht1 (Jbb hb12 HP.o)
 have HP1:Hid _:=hp1
 have HM1:Hid _:=hm1
 have HT1:Hid _:=ht1
 clear hp1 hm1 ht1
 generalize (JG (Jw k) 2 st).1=m at *
 have hwm:IntKind.i64.wrap (m:Int)=(m:Int):=Js _ (by omega) (by omega)
 have hww:IntKind.i64.wrap ((wj:Int)+1)=(wj:Int)+1:=Js _ (by omega) (by omega)
 have hw8:IntKind.i64.wrap (8 * ((wj:Int)+1))=8 * ((wj:Int)+1):=Js _ (by omega) (by omega)
 have hwu:IntKind.u64.wrap (8 * ((wj:Int)+1))=8 * ((wj:Int)+1):=JF _ (by omega) (by omega)
 by_cases h3:8 * (wj+1)<=m
 ·have h3i:8 * ((wj:Int)+1)<=(m:Int):=by omega
  go_wp2_with (first | (go_at_call 200;refine (Jaj E b g1 wj _ _ w1 HE1.o HP1.o).mono ?_;rintro _ w2 ⟨rfl,hs2⟩;have HS2:Hid _:=hs2;clear hs2) | go_in)
  go_ret
  refine ⟨by rw [HK.o];rfl,?_⟩
  rw [HK.o,if_pos h3]
  exact StTo.trans HM1.o HT1.o HS2.o
 ·have h3i:¬8 * ((wj:Int)+1)<=(m:Int):=by omega
  go_wp2
  go_ret
  refine ⟨by rw [HK.o];rfl,g1,?_,HM1.o,HT1.o⟩
  rw [HK.o,if_neg h3]
  exact HP1.o
theorem JkF (E:Nat->Addr) (b:Nat) (hb12:18<=b) (g:Option Nat) (wj:Nat) (hw:wj<=1000) (k:BA) (a o:Nat) (ho:o<256) (st:Option PS) (w:World) (hE:Env E w) (hp:Jh E w b g wj st) (hd:JN st<=80000000):
  Calls prog 222 #[.pointer (some ⟨b,0,none⟩),.agg #[.string k,.int .u64 (a:Int),.int .u8 (o:Int)]] w λe w'=>e=.returned (.agg #[.string ⟨(XH wj k (a,o) st).1.1.toArray⟩,.int .u64 ((XH wj k (a,o) st).1.2.1:Int),.int .u8 ((XH wj k (a,o) st).1.2.2:Int)])/\StTo E w w' b g wj (XH wj k (a,o) st).2:=by
 have hlt:=hp.lt
 have HR0:=Run.start hb12 hE hp (Tch.allocs NoB w (.cells #[.string k,.int .u64 (a:Int),.int .u8 (o:Int)] 256) (.cells #[.string ⟨#[]⟩,.int .u64 0,.int .u8 0] 256))
 have hl0:=Jh5 wj k.data.toList st
 have RUN:Hid _:=HR0
 clear hE hp HR0
 go_enter func222,ntmps222
 go_wp2_with fail
 refine (JlR E b hb12 g wj hw k st _ RUN.out.env RUN.out.port (by omega)).mono ?_
 rintro _ w1 ⟨rfl,h⟩
 obtain ⟨g1,R1⟩:=RUN.out.step h
 have bx1:=(R1.box (k:=w.heap.size) (Ql _) (heap_alloc2_old _ _ _)).1
 have c1:w1.cell? ⟨w.heap.size,1,none⟩=some (.int .u64 (a:Int)):=Ja bx1
 have c2:w1.cell? ⟨w.heap.size,2,none⟩=some (.int .u8 (o:Int)):=Ja bx1
 have RUN1:Hid _:=R1
 clear R1 bx1 h
 go_wp2_with fail
 refine (Jl7 E b hb12 g1 wj a o ho _ _ RUN1.out.env RUN1.out.port (by omega)).mono ?_
 rintro _ w2 ⟨rfl,h⟩
 obtain ⟨g2,R2⟩:=RUN1.out.step h
 have rR:=(R2.box (k:=w.heap.size+1) (by omega) (heap_alloc2_new _ _ _)).1
 have e0:w2.cell? ⟨w.heap.size+1,0,none⟩=some (.string ⟨#[]⟩):=Ja rR
 have e1:w2.cell? ⟨w.heap.size+1,1,none⟩=some (.int .u64 0):=Ja rR
 have e2:w2.cell? ⟨w.heap.size+1,2,none⟩=some (.int .u8 0):=Ja rR
 have fR:∀j,w2.frozen? ⟨w.heap.size+1,j,none⟩=false:=λj=>Qg _ _ _ _ _ rR
 have RUN2:Hid _:=R2
 have hsz2:w.heap.size+1<w2.heap.size:=(Jb rR)
 have RR:Hid (_=_):=rR
 clear R2 rR h
 go_wp2
 rw [set3 _ _ _ _ _ _ _ _ _ RR.out]
 exact QK (v:=.agg #[.string ⟨(XH wj k (a,o) st).1.1.toArray⟩,.int .u64 ((XH wj k (a,o) st).1.2.1:Int),.int .u8 ((XH wj k (a,o) st).1.2.2:Int)]) (Qq results222 _ _ (w.heap.size+1) _ _ (0,0) _ rfl ((Below.heap_alloc _ _ _ (by simpa using hsz2)).trans (Qi _ _ _ _ _ _ RR.out)) underlying256 rfl (by kernel_rfl)) rfl ⟨rfl,(RUN2.out.done (k:=w.heap.size+1) (by omega) (heap_alloc2_new _ _ _) (by decide)).alloc _⟩
theorem Jhf (E:Nat->Addr) (b:Nat) (hb12:18<=b) (g:Option Nat) (wj:Nat) (hw:wj<=1000) (k:Int) (x y:BA) (st:Option PS) (w:World) (hE:Env E w) (hp:Jh E w b g wj st) (hd:JN st<=80000000):
  Calls prog 308 #[.pointer (some ⟨b,0,none⟩),.agg #[.int .i64 k,.string x,.string y]] w λe w'=>e=.returned (.agg #[.int .i64 ((stBr wj k x y st).1.1:Int),.string ⟨(stBr wj k x y st).1.2.1.toArray⟩,.string ⟨(stBr wj k x y st).1.2.2.toArray⟩])/\StTo E w w' b g wj (stBr wj k x y st).2:=by
 have hlt:=hp.lt
 have HR0:=Run.start hb12 hE hp (Tch.allocs NoB w (.cells #[.int .i64 k,.string x,.string y] 279) (.cells #[.int .i64 0,.string ⟨#[]⟩,.string ⟨#[]⟩] 279))
 have hl0:=Jh3 wj k st
 have hl1:=Yc x.data.toList wj (YY wj k st).2
 have RUN:Hid _:=HR0
 clear hE hp HR0
 go_enter func308,ntmps308
 go_wp2_with fail
 refine (JlG E b hb12 g wj hw k st _ RUN.out.env RUN.out.port (by omega)).mono ?_
 rintro _ w1 ⟨rfl,h⟩
 obtain ⟨g1,R1⟩:=RUN.out.step h
 have bx1:=(R1.box (k:=w.heap.size) (Ql _) (heap_alloc2_old _ _ _)).1
 have c1:w1.cell? ⟨w.heap.size,1,none⟩=some (.string x):=Ja bx1
 have RUN1:Hid _:=R1
 clear R1 bx1 h
 go_wp2_with fail
 refine (YJ E b g1 wj x _ _ RUN1.out.env RUN1.out.port (by omega)).mono ?_
 rintro _ w2 ⟨rfl,h⟩
 obtain ⟨g2,R2⟩:=RUN1.out.step h
 have bx2:=(R2.box (k:=w.heap.size) (Ql _) (heap_alloc2_old _ _ _)).1
 have c2:w2.cell? ⟨w.heap.size,2,none⟩=some (.string y):=Ja bx2
 have RUN2:Hid _:=R2
 clear R2 bx2 h
 go_wp2_with fail
 refine (YJ E b g2 wj y _ _ RUN2.out.env RUN2.out.port (by omega)).mono ?_
 rintro _ w3 ⟨rfl,h⟩
 obtain ⟨g3,R3⟩:=RUN2.out.step h
 have rR:=(R3.box (k:=w.heap.size+1) (by omega) (heap_alloc2_new _ _ _)).1
 have e0:w3.cell? ⟨w.heap.size+1,0,none⟩=some (.int .i64 0):=Ja rR
 have e1:w3.cell? ⟨w.heap.size+1,1,none⟩=some (.string ⟨#[]⟩):=Ja rR
 have e2:w3.cell? ⟨w.heap.size+1,2,none⟩=some (.string ⟨#[]⟩):=Ja rR
 have fR:∀j,w3.frozen? ⟨w.heap.size+1,j,none⟩=false:=λj=>Qg _ _ _ _ _ rR
 have RUN3:Hid _:=R3
 have RR:Hid (_=_):=rR
 clear R3 rR h
 go_wp2
 rw [set3 _ _ _ _ _ _ _ _ _ RR.out]
 exact QK (v:=.agg #[.int .i64 ((stBr wj k x y st).1.1:Int),.string ⟨(stBr wj k x y st).1.2.1.toArray⟩,.string ⟨(stBr wj k x y st).1.2.2.toArray⟩]) (Qq results308 _ _ (w.heap.size+1) _ _ (0,0) _ rfl (Qi _ _ _ _ _ _ RR.out) underlying279 rfl (by kernel_rfl)) rfl ⟨rfl,RUN3.out.done (k:=w.heap.size+1) (by omega) (heap_alloc2_new _ _ _) (by decide)⟩

abbrev JbH:=BA×BA×(Nat×Nat)×Int×BA×BA
def Jlz:JbH:=(⟨#[]⟩,⟨#[]⟩,(0,0),0,⟨#[]⟩,⟨#[]⟩)
def ZG (n:JbH):Array Value:= #[.string n.1,.string n.2.1,.int .u64 (n.2.2.1.1:Int),.int .u8 (n.2.2.1.2:Int),.int .i64 n.2.2.2.1,.string n.2.2.2.2.1,.string n.2.2.2.2.2]
def XO (wj:Nat) (n:JbH) (st:Option PS):JbH×Option PS:=
 if (Jj n.1.data.toList 1 st).1=[69] then ((⟨#[69]⟩,⟨#[]⟩,(0,0),0,⟨#[]⟩,⟨#[]⟩),(Jj n.1.data.toList 1 st).2)
 else if (Jj n.1.data.toList 1 st).1=[76] then ((⟨#[76]⟩,⟨(XH wj n.2.1 n.2.2.1 (Jj n.1.data.toList 1 st).2).1.1.toArray⟩,(XH wj n.2.1 n.2.2.1 (Jj n.1.data.toList 1 st).2).1.2,0,⟨#[]⟩,⟨#[]⟩),(XH wj n.2.1 n.2.2.1 (Jj n.1.data.toList 1 st).2).2)
 else if (Jj n.1.data.toList 1 st).1=[78] then ((⟨#[78]⟩,⟨#[]⟩,(0,0),((stBr wj n.2.2.2.1 n.2.2.2.2.1 n.2.2.2.2.2 (Jj n.1.data.toList 1 st).2).1.1:Int),⟨(stBr wj n.2.2.2.1 n.2.2.2.2.1 n.2.2.2.2.2 (Jj n.1.data.toList 1 st).2).1.2.1.toArray⟩,⟨(stBr wj n.2.2.2.1 n.2.2.2.2.1 n.2.2.2.2.2 (Jj n.1.data.toList 1 st).2).1.2.2.toArray⟩),(stBr wj n.2.2.2.1 n.2.2.2.2.1 n.2.2.2.2.2 (Jj n.1.data.toList 1 st).2).2)
 else (Jlz,none)
theorem Jh8 {wj:Nat} {n:JbH} {st:Option PS} (h:stWr st):stWr (XO wj n st).2:=by
 unfold XO
 split
 ·exact XS h
 ·split
  ·exact Jh6 (XS h)
  ·split
   ·exact Jla (XS h)
   ·exact Zo
theorem set7 (w:World) (g:Nat) (t:TypeId) (a b c d e f h v0 v1 v2 v3 v4 v5 v6:Value) (hr:w.heap[g]? =some (.cells #[a,b,c,d,e,f,h] t (0,0))):
  ((((((w.setCell ⟨g,0,none⟩ v0).setCell ⟨g,1,none⟩ v1).setCell ⟨g,2,none⟩ v2).setCell ⟨g,3,none⟩ v3).setCell ⟨g,4,none⟩ v4).setCell ⟨g,5,none⟩ v5).setCell ⟨g,6,none⟩ v6=w.setRow g #[v0,v1,v2,v3,v4,v5,v6]:=by
 rw [Qj w g 0 _ t (0,0) v0 hr,Qj _ g 1 _ t (0,0) v1 (Qi _ _ _ _ _ _ hr),QI,
  Qj _ g 2 _ t (0,0) v2 (Qi _ _ _ _ _ _ hr),QI,Qj _ g 3 _ t (0,0) v3 (Qi _ _ _ _ _ _ hr),QI,
  Qj _ g 4 _ t (0,0) v4 (Qi _ _ _ _ _ _ hr),QI,Qj _ g 5 _ t (0,0) v5 (Qi _ _ _ _ _ _ hr),QI,
  Qj _ g 6 _ t (0,0) v6 (Qi _ _ _ _ _ _ hr),QI]
 refine congrArg (w.setRow g) ?_
 simp
theorem JaU (k:BA) (a o:Int) (w:World):Calls prog 307 #[.agg #[.string k,.int .u64 a,.int .u8 o]] w λe w'=>e=.returned (.agg #[.string ⟨#[76]⟩,.string k,.int .u64 a,.int .u8 o,.int .i64 0,.string ⟨#[]⟩,.string ⟨#[]⟩])/\Tch NoB w w':=by
 go_enter func307,ntmps307
 go_wp2
 exact QK (v:=.agg #[.string ⟨#[76]⟩,.string k,.int .u64 a,.int .u8 o,.int .i64 0,.string ⟨#[]⟩,.string ⟨#[]⟩]) (Qq results307 _ _ (w.heap.size+1) _ _ (0,0) _ rfl (heap_alloc2_new _ _ _) underlying281 rfl (by kernel_rfl)) rfl ⟨rfl,Tch.allocs _ _ _ _⟩
theorem ZI (k:Int) (x y:BA) (w:World):Calls prog 309 #[.agg #[.int .i64 k,.string x,.string y]] w λe w'=>e=.returned (.agg #[.string ⟨#[78]⟩,.string ⟨#[]⟩,.int .u64 0,.int .u8 0,.int .i64 k,.string x,.string y])/\Tch NoB w w':=by
 go_enter func309,ntmps309
 go_wp2
 exact QK (v:=.agg #[.string ⟨#[78]⟩,.string ⟨#[]⟩,.int .u64 0,.int .u8 0,.int .i64 k,.string x,.string y]) (Qq results309 _ _ (w.heap.size+1) _ _ (0,0) _ rfl (heap_alloc2_new _ _ _) underlying281 rfl (by kernel_rfl)) rfl ⟨rfl,Tch.allocs _ _ _ _⟩
theorem Run.next {E:Nat->Addr} {w0 wA w w':World} {b:Nat} {g g':Option Nat} {wj:Int} {st:Option PS} (h:Run E w0 wA w b g g' wj st) (k:Tch NoB w w'):Run E w0 wA w' b g g' wj st:=
 ⟨h.port.next k,h.moved,h.tch.trans k noE,h.env.tch k noE,h.k12,h.low,h.own,h.new⟩
theorem JkU (E:Nat->Addr) (b:Nat) (hb12:18<=b) (g:Option Nat) (wj:Nat) (hw:wj<=1000) (n:JbH) (ho:n.2.2.1.2<256) (st:Option PS) (w:World) (hE:Env E w) (hp:Jh E w b g wj st) (hd:JN st<=70000000):
  Calls prog 240 #[.pointer (some ⟨b,0,none⟩),.agg (ZG n)] w λe w'=>e=.returned (.agg (ZG (XO wj n st).1))/\StTo E w w' b g wj (XO wj n st).2:=by
 have hlt:=hp.lt
 obtain ⟨l,k,⟨a,o⟩,bt,x,y⟩:=n
 dsimp only at ho
 have HC:Hid (ZG (l,k,(a,o),bt,x,y)= #[.string l,.string k,.int .u64 (a:Int),.int .u8 (o:Int),.int .i64 bt,.string x,.string y]):=rfl
 rw [HC.o]
 have HR0:=Run.start hb12 hE hp (Tch.allocs NoB w (.cells #[.string l,.string k,.int .u64 (a:Int),.int .u8 (o:Int),.int .i64 bt,.string x,.string y] 281) (.cells #[.string ⟨#[]⟩,.string ⟨#[]⟩,.int .u64 0,.int .u8 0,.int .i64 0,.string ⟨#[]⟩,.string ⟨#[]⟩] 281))
 have hl0:=Yc l.data.toList 1 st
 have RUN:Hid _:=HR0
 clear hE hp HR0
 go_enter func240,ntmps240
 go_wp2_with fail
 refine (Jey E b g wj l 1 st _ RUN.out.env RUN.out.port (by omega)).mono ?_
 rintro _ w1 ⟨rfl,h⟩
 obtain ⟨g1,R1⟩:=RUN.out.step h
 have bx1:=(R1.box (k:=w.heap.size) (Ql _) (heap_alloc2_old _ _ _)).1
 have rR:=(R1.box (k:=w.heap.size+1) (by omega) (heap_alloc2_new _ _ _)).1
 have hsz1:w.heap.size+1<w1.heap.size:=(Jb rR)
 have c1:w1.cell? ⟨w.heap.size,1,none⟩=some (.string k):=Ja bx1
 have c2:w1.cell? ⟨w.heap.size,2,none⟩=some (.int .u64 (a:Int)):=Ja bx1
 have c3:w1.cell? ⟨w.heap.size,3,none⟩=some (.int .u8 (o:Int)):=Ja bx1
 have c4:w1.cell? ⟨w.heap.size,4,none⟩=some (.int .i64 bt):=Ja bx1
 have c5:w1.cell? ⟨w.heap.size,5,none⟩=some (.string x):=Ja bx1
 have c6:w1.cell? ⟨w.heap.size,6,none⟩=some (.string y):=Ja bx1
 have RUN1:Hid _:=R1
 have RR1:Hid (_=_):=rR
 clear R1 bx1 h rR
 have hn0:∀c:UInt8,(Jj l.data.toList 1 st).1 ≠ [c]->((⟨(Jj l.data.toList 1 st).1.toArray⟩:BA).toList == [c])=false:=λc h=>by
  rw [ByteArray.toList_eq]
  simpa using h
 have HN0:Hid _:=hn0
 clear hn0
 by_cases h0:(Jj l.data.toList 1 st).1=[69]
 ·have hb:(⟨(Jj l.data.toList 1 st).1.toArray⟩:BA)=⟨#[69]⟩:=by rw [h0]
  have HS:Hid (XO wj (l,k,(a,o),bt,x,y) st=((⟨#[69]⟩,⟨#[]⟩,(0,0),0,⟨#[]⟩,⟨#[]⟩),(Jj l.data.toList 1 st).2)):=if_pos h0
  rw [hb]
  clear hb h0
  have e0:w1.cell? ⟨w.heap.size+1,0,none⟩=some (.string ⟨#[]⟩):=Ja RR1.out
  have e1:w1.cell? ⟨w.heap.size+1,1,none⟩=some (.string ⟨#[]⟩):=Ja RR1.out
  have e2:w1.cell? ⟨w.heap.size+1,2,none⟩=some (.int .u64 0):=Ja RR1.out
  have e3:w1.cell? ⟨w.heap.size+1,3,none⟩=some (.int .u8 0):=Ja RR1.out
  have e4:w1.cell? ⟨w.heap.size+1,4,none⟩=some (.int .i64 0):=Ja RR1.out
  have e5:w1.cell? ⟨w.heap.size+1,5,none⟩=some (.string ⟨#[]⟩):=Ja RR1.out
  have e6:w1.cell? ⟨w.heap.size+1,6,none⟩=some (.string ⟨#[]⟩):=Ja RR1.out
  have fR:∀j,w1.frozen? ⟨w.heap.size+1,j,none⟩=false:=λj=>Qg _ _ _ _ _ RR1.out
  go_wp2
  rw [set7 _ _ _ _ _ _ _ _ _ _ _ _ _ _ _ _ _ RR1.out]
  refine QK (v:=.agg (ZG (⟨#[69]⟩,⟨#[]⟩,(0,0),0,⟨#[]⟩,⟨#[]⟩))) (Qq results240 _ _ (w.heap.size+1) _ _ (0,0) _ rfl (Qi _ _ _ _ _ _ RR1.out) underlying281 rfl (by kernel_rfl)) rfl ⟨by rw [HS.o],?_⟩
  rw [HS.o]
  exact RUN1.out.done (k:=w.heap.size+1) (by omega) (heap_alloc2_new _ _ _) (by decide)
 ·by_cases h1:(Jj l.data.toList 1 st).1=[76]
  ·have hb:(⟨(Jj l.data.toList 1 st).1.toArray⟩:BA)=⟨#[76]⟩:=by rw [h1]
   have HS:Hid (XO wj (l,k,(a,o),bt,x,y) st=((⟨#[76]⟩,⟨(XH wj k (a,o) (Jj l.data.toList 1 st).2).1.1.toArray⟩,(XH wj k (a,o) (Jj l.data.toList 1 st).2).1.2,0,⟨#[]⟩,⟨#[]⟩),(XH wj k (a,o) (Jj l.data.toList 1 st).2).2)):=(if_neg h0).trans (if_pos h1)
   rw [hb]
   clear hb h0 h1
   go_wp2_with fail
   refine (JkF E b hb12 g1 wj hw k a o ho _ _ RUN1.out.env RUN1.out.port (by omega)).mono ?_
   rintro _ w2 ⟨rfl,h⟩
   obtain ⟨g2,R2⟩:=RUN1.out.step h
   have RUN2:Hid _:=R2
   clear R2 h
   go_wp2_with fail
   refine (JaU _ _ _ _).mono ?_
   rintro _ w3 ⟨rfl,h⟩
   have R3:=RUN2.out.next h
   have rR:=(R3.box (k:=w.heap.size+1) (by omega) (heap_alloc2_new _ _ _)).1
   have e0:w3.cell? ⟨w.heap.size+1,0,none⟩=some (.string ⟨#[]⟩):=Ja rR
   have e1:w3.cell? ⟨w.heap.size+1,1,none⟩=some (.string ⟨#[]⟩):=Ja rR
   have e2:w3.cell? ⟨w.heap.size+1,2,none⟩=some (.int .u64 0):=Ja rR
   have e3:w3.cell? ⟨w.heap.size+1,3,none⟩=some (.int .u8 0):=Ja rR
   have e4:w3.cell? ⟨w.heap.size+1,4,none⟩=some (.int .i64 0):=Ja rR
   have e5:w3.cell? ⟨w.heap.size+1,5,none⟩=some (.string ⟨#[]⟩):=Ja rR
   have e6:w3.cell? ⟨w.heap.size+1,6,none⟩=some (.string ⟨#[]⟩):=Ja rR
   have fR:∀j,w3.frozen? ⟨w.heap.size+1,j,none⟩=false:=λj=>Qg _ _ _ _ _ rR
   have RUN3:Hid _:=R3
   have RR3:Hid (_=_):=rR
   clear R3 rR h
   go_wp2
   rw [set7 _ _ _ _ _ _ _ _ _ _ _ _ _ _ _ _ _ RR3.out]
   refine QK (v:=.agg #[.string ⟨#[76]⟩,.string _,.int .u64 _,.int .u8 _,.int .i64 0,.string ⟨#[]⟩,.string ⟨#[]⟩]) (Qq results240 _ _ (w.heap.size+1) _ _ (0,0) _ rfl (Qi _ _ _ _ _ _ RR3.out) underlying281 rfl (by kernel_rfl)) rfl ⟨by rw [HS.o];rfl,?_⟩
   rw [HS.o]
   exact RUN3.out.done (k:=w.heap.size+1) (by omega) (heap_alloc2_new _ _ _) (by decide)
  ·by_cases h2:(Jj l.data.toList 1 st).1=[78]
   ·have hb:(⟨(Jj l.data.toList 1 st).1.toArray⟩:BA)=⟨#[78]⟩:=by rw [h2]
    have HS:Hid (XO wj (l,k,(a,o),bt,x,y) st=((⟨#[78]⟩,⟨#[]⟩,(0,0),((stBr wj bt x y (Jj l.data.toList 1 st).2).1.1:Int),⟨(stBr wj bt x y (Jj l.data.toList 1 st).2).1.2.1.toArray⟩,⟨(stBr wj bt x y (Jj l.data.toList 1 st).2).1.2.2.toArray⟩),(stBr wj bt x y (Jj l.data.toList 1 st).2).2)):=(if_neg h0).trans ((if_neg h1).trans (if_pos h2))
    rw [hb]
    clear hb h0 h1 h2
    go_wp2_with fail
    refine (Jhf E b hb12 g1 wj hw bt x y _ _ RUN1.out.env RUN1.out.port (by omega)).mono ?_
    rintro _ w2 ⟨rfl,h⟩
    obtain ⟨g2,R2⟩:=RUN1.out.step h
    have RUN2:Hid _:=R2
    clear R2 h
    go_wp2_with fail
    refine (ZI _ _ _ _).mono ?_
    rintro _ w3 ⟨rfl,h⟩
    have R3:=RUN2.out.next h
    have rR:=(R3.box (k:=w.heap.size+1) (by omega) (heap_alloc2_new _ _ _)).1
    have e0:w3.cell? ⟨w.heap.size+1,0,none⟩=some (.string ⟨#[]⟩):=Ja rR
    have e1:w3.cell? ⟨w.heap.size+1,1,none⟩=some (.string ⟨#[]⟩):=Ja rR
    have e2:w3.cell? ⟨w.heap.size+1,2,none⟩=some (.int .u64 0):=Ja rR
    have e3:w3.cell? ⟨w.heap.size+1,3,none⟩=some (.int .u8 0):=Ja rR
    have e4:w3.cell? ⟨w.heap.size+1,4,none⟩=some (.int .i64 0):=Ja rR
    have e5:w3.cell? ⟨w.heap.size+1,5,none⟩=some (.string ⟨#[]⟩):=Ja rR
    have e6:w3.cell? ⟨w.heap.size+1,6,none⟩=some (.string ⟨#[]⟩):=Ja rR
    have fR:∀j,w3.frozen? ⟨w.heap.size+1,j,none⟩=false:=λj=>Qg _ _ _ _ _ rR
    have RUN3:Hid _:=R3
    have RR3:Hid (_=_):=rR
    clear R3 rR h
    go_wp2
    rw [set7 _ _ _ _ _ _ _ _ _ _ _ _ _ _ _ _ _ RR3.out]
    refine QK (v:=.agg #[.string ⟨#[78]⟩,.string ⟨#[]⟩,.int .u64 0,.int .u8 0,.int .i64 _,.string _,.string _]) (Qq results240 _ _ (w.heap.size+1) _ _ (0,0) _ rfl (Qi _ _ _ _ _ _ RR3.out) underlying281 rfl (by kernel_rfl)) rfl ⟨by rw [HS.o];rfl,?_⟩
    rw [HS.o]
    exact RUN3.out.done (k:=w.heap.size+1) (by omega) (heap_alloc2_new _ _ _) (by decide)
   ·have HS:Hid (XO wj (l,k,(a,o),bt,x,y) st=(Jlz,none)):=(if_neg h0).trans ((if_neg h1).trans (if_neg h2))
    have b0:=HN0.o 69 h0
    have b1:=HN0.o 76 h1
    have b2:=HN0.o 78 h2
    clear h0 h1 h2 HN0
    generalize (⟨(Jj l.data.toList 1 st).1.toArray⟩:BA)=tb at *
    go_wp2_with fail
    refine (Jaj E b g1 wj _ _ _ RUN1.out.env RUN1.out.port).mono ?_
    rintro _ w2 ⟨rfl,h⟩
    obtain ⟨g2,R2⟩:=RUN1.out.step h
    have rR:=(R2.box (k:=w.heap.size+1) (by omega) (heap_alloc2_new _ _ _)).1
    have e0:w2.cell? ⟨w.heap.size+1,0,none⟩=some (.string ⟨#[]⟩):=Ja rR
    have e1:w2.cell? ⟨w.heap.size+1,1,none⟩=some (.string ⟨#[]⟩):=Ja rR
    have e2:w2.cell? ⟨w.heap.size+1,2,none⟩=some (.int .u64 0):=Ja rR
    have e3:w2.cell? ⟨w.heap.size+1,3,none⟩=some (.int .u8 0):=Ja rR
    have e4:w2.cell? ⟨w.heap.size+1,4,none⟩=some (.int .i64 0):=Ja rR
    have e5:w2.cell? ⟨w.heap.size+1,5,none⟩=some (.string ⟨#[]⟩):=Ja rR
    have e6:w2.cell? ⟨w.heap.size+1,6,none⟩=some (.string ⟨#[]⟩):=Ja rR
    have fR:∀j,w2.frozen? ⟨w.heap.size+1,j,none⟩=false:=λj=>Qg _ _ _ _ _ rR
    have RUN2:Hid _:=R2
    have RR2:Hid (_=_):=rR
    clear R2 rR h
    go_wp2
    rw [set7 _ _ _ _ _ _ _ _ _ _ _ _ _ _ _ _ _ RR2.out]
    refine QK (v:=.agg #[.string ⟨#[]⟩,.string ⟨#[]⟩,.int .u64 0,.int .u8 0,.int .i64 0,.string ⟨#[]⟩,.string ⟨#[]⟩]) (Qq results240 _ _ (w.heap.size+1) _ _ (0,0) _ rfl (Qi _ _ _ _ _ _ RR2.out) underlying281 rfl (by kernel_rfl)) rfl ⟨by rw [HS.o];rfl,?_⟩
    rw [HS.o]
    exact RUN2.out.done (k:=w.heap.size+1) (by omega) (heap_alloc2_new _ _ _) (by decide)

theorem Jej (E:Nat->Addr) (wj:Nat) (hw:wj<=1000) (n:JbH) (ho:n.2.2.1.2<256) (w:World) (hE:Env E w):
  Calls prog 154 #[.agg (ZG n),.int .i64 (wj:Int)] w λe w'=>Tch NoB w w'/\RetS E (ZH (XO wj n (some (.wr []))).2) e w':=by
 have hs:=hE.size
 have HE:Hid (Env E w):=hE
 clear hE
 have HC:Hid (∀W b,18<=b->Env E W->Jh E W b none wj (some (.wr []))->_):=λW b h12 hE hp=>JkU E b h12 none wj hw n ho (some (.wr [])) W hE hp (by show 0<=_;omega)
 obtain ⟨l,k,⟨a,o⟩,bt,x,y⟩:=n
 dsimp only at ho
 have HV:Hid (ZG (l,k,(a,o),bt,x,y)= #[.string l,.string k,.int .u64 (a:Int),.int .u8 (o:Int),.int .i64 bt,.string x,.string y]):=rfl
 rw [HV.o] at HC ⊢
 go_enter func154,ntmps154
 go_wp2_with fail
 refine (Xc _ _).mono ?_
 rintro _ w1 ⟨rfl,hp1,ht1⟩
 have tA:Tch NoB w (w.alloc (.cells #[.string l,.string k,.int .u64 (a:Int),.int .u8 (o:Int),.int .i64 bt,.string x,.string y] 281)):=Ta _ _ _
 have hb:(w.alloc (.cells #[.string l,.string k,.int .u64 (a:Int),.int .u8 (o:Int),.int .i64 bt,.string x,.string y] 281)).heap.size=w.heap.size+1:=by simp
 rw [hb] at hp1
 rw [hb]
 have r0:w1.heap[w.heap.size]? =some (.cells #[.string l,.string k,.int .u64 (a:Int),.int .u8 (o:Int),.int .i64 bt,.string x,.string y] 281):=(ht1.block _ (by omega) (λh=>h)).trans (Qf _ _)
 have d0:w1.cell? ⟨w.heap.size,0,none⟩=some (.string l):=Ja r0
 have d1:w1.cell? ⟨w.heap.size,1,none⟩=some (.string k):=Ja r0
 have d2:w1.cell? ⟨w.heap.size,2,none⟩=some (.int .u64 (a:Int)):=Ja r0
 have d3:w1.cell? ⟨w.heap.size,3,none⟩=some (.int .u8 (o:Int)):=Ja r0
 have d4:w1.cell? ⟨w.heap.size,4,none⟩=some (.int .i64 bt):=Ja r0
 have d5:w1.cell? ⟨w.heap.size,5,none⟩=some (.string x):=Ja r0
 have d6:w1.cell? ⟨w.heap.size,6,none⟩=some (.string y):=Ja r0
 have HT1:Hid (Tch NoB w w1.drew):=(tA.trans ht1 noE).trans (Td NoB w1 1) noE
 have HC1:Hid (Calls prog 240 _ w1.drew _):=HC.o w1.drew (w.heap.size+1) (by omega) (HE.o.tch HT1.o noE) (Jh.next (E:=E) (st:=some (.wr [])) hp1 (Td _ w1 1))
 clear hp1 ht1 tA r0 hb HC
 go_wp2_with fail
 go_region_with (go_at_call 240;refine HC1.o.mono ?_;rintro _ w2 ⟨rfl,g2,hp2,hm2,ht2⟩;have HP2:Hid _:=hp2;have HT2:Hid _:=ht2;clear hp2 hm2 ht2)
 all_goals
  have HR:Hid (Calls prog 79 _ w2 _):=Zq E (w.heap.size+1) g2 wj _ (Jh8 JcX) w2 HP2.o
  have HT3:Hid (Tch NoB w w2):=Xo (b:=w.heap.size+1) (by omega) HT1.o HT2.o
  clear HP2 HT1 HT2 d0 d1 d2 d3 d4 d5 d6 HC1
  go_wp2_with fail
  refine HR.o.mono ?_
  rintro _ w3 ⟨ht3,hr⟩
  have HR3:Hid _:=hr
  have HT4:Hid _:=ht3
  clear ht3 HR
  rcases hr.cases with ⟨d,hd,rfl⟩ | ⟨hn,t,u,rfl,he⟩
  all_goals
   clear hr
   go_wp2
   go_ret2
   exact ⟨HT3.o.trans HT4.o noE,HR3.o⟩
