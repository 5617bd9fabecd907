import Derived.Test.YtighkdnooglfjaaGreatDoorOxIds2
namespace Go.Proofs.YtighkdnooglfjaaGreatDoor
open Tryz
set_option maxRecDepth 100000
set_option maxHeartbeats 1000000
open Go.RowKit

def stO (o:Nat×Nat) (st:Option PS):(Nat×Nat)×Option PS:=(((JG o.1 8 st).1,(JG o.2 1 (JG o.1 8 st).2).1),(JG o.2 1 (JG o.1 8 st).2).2)
def YF (wd:Nat) (k:List UInt8) (st:Option PS):List UInt8×Option PS:=
 ((Ji k (wd+1) st).1,match (Ji k (wd+1) st).2 with
  | none=>none
  | some p=>if 3<=((Ji k (wd+1) st).1.getD wd 0).toNat then none else some p)
def Yl (wd:Nat) (b:Int) (st:Option PS):Nat×Option PS:=((JG (JE b) 2 st).1,if 8 * (wd+1)<=(JG (JE b) 2 st).1 then none else (JG (JE b) 2 st).2)
def JL (wd:Nat) (k:BA) (o:Nat×Nat) (st:Option PS):(List UInt8×(Nat×Nat))×Option PS:=(((YF wd k.data.toList st).1,(stO o (YF wd k.data.toList st).2).1),(stO o (YF wd k.data.toList st).2).2)
def stBr (wd:Nat) (b:Int) (x y:BA) (st:Option PS):(Nat×List UInt8×List UInt8)×Option PS:=
 (((Yl wd b st).1,(Ji x.data.toList wd (Yl wd b st).2).1,(Ji y.data.toList wd (Ji x.data.toList wd (Yl wd b st).2).2).1),(Ji y.data.toList wd (Ji x.data.toList wd (Yl wd b st).2).2).2)
theorem JeM (s:List UInt8) (k:Nat) (st:Option PS) (p:PS) (h:(Ji s k st).2=some p):(Ji s k st).1.length=k:=by
 cases st with
 | none=>cases h
 | some q=>
  cases hq:q.txt s k with
  | none=>rw [XX hq] at h;cases h
  | some r=>
   obtain ⟨t,p1⟩:=r
   rw [JM hq]
   cases q with
   | rd a c=>
    simp only [PS.txt] at hq
    split at hq
    ·cases hq;simp;omega
    ·cases hq
   | wr d=>
    simp only [PS.txt] at hq
    split at hq
    ·cases hq;assumption
    ·cases hq
theorem JiQ (wd:Nat) (k:List UInt8) (st:Option PS):JO (YF wd k st).2<=JO st+(wd+1):=by
 have:=Yd k (wd+1) st
 unfold YF
 dsimp only
 cases h:(Ji k (wd+1) st).2 with
 | none=>simp [JO]
 | some p=>
  rw [h] at this
  dsimp only
  split
  ·simp [JO]
  ·exact this
theorem Jd8 (wd:Nat) (b:Int) (st:Option PS):JO (Yl wd b st).2<=JO st+2:=by
 have:=JaC (JE b) 2 st
 unfold Yl
 dsimp only
 split
 ·simp [JO]
 ·exact this
theorem JkF {wd:Nat} {k:List UInt8} {st:Option PS} (h:stWr st):stWr (YF wd k st).2:=by
 have h1:=XT (s:=k) (k:=wd+1) h
 unfold YF
 dsimp only
 cases h2:(Ji k (wd+1) st).2 with
 | none=>exact ZG
 | some p=>
  rw [h2] at h1
  dsimp only
  split
  ·exact ZG
  ·exact h1
theorem JkD {wd:Nat} {b:Int} {st:Option PS} (h:stWr st):stWr (Yl wd b st).2:=by
 unfold Yl
 dsimp only
 split
 ·exact ZG
 ·exact Jas h
theorem JmQ {o:Nat×Nat} {st:Option PS} (h:stWr st):stWr (stO o st).2:=Jas (Jas h)
theorem JiR {wd:Nat} {k:BA} {o:Nat×Nat} {st:Option PS} (h:stWr st):stWr (JL wd k o st).2:=JmQ (JkF h)
theorem JlP {wd:Nat} {b:Int} {x y:BA} {st:Option PS} (h:stWr st):stWr (stBr wd b x y st).2:=XT (XT (JkD h))
theorem StTo.alloc {E:Nat->Addr} {w w2:World} {b:Nat} {g:Option Nat} {wd:Int} {st:Option PS} (h:StTo E w w2 b g wd st) (o:Obj):StTo E w (w2.alloc o) b g wd st:=by
 obtain ⟨g',h1,h2,h3⟩:=h
 exact ⟨g',h1.next (Tch.alloc _ _ _),h2,h3.trans (Tch.alloc NoB _ _) noE⟩
theorem set3 (w:World) (g:Nat) (t:TypeId) (a b c v0 v1 v2:Value) (h:w.heap[g]? =some (.cells #[a,b,c] t (0,0))):
  ((w.setCell ⟨g,0,none⟩ v0).setCell ⟨g,1,none⟩ v1).setCell ⟨g,2,none⟩ v2=w.setRow g #[v0,v1,v2]:=by
 rw [Qj w g 0 _ t (0,0) v0 h,Qj _ g 1 _ t (0,0) v1 (Qi _ _ _ _ _ _ h),QI,
  Qj _ g 2 _ t (0,0) v2 (Qi _ _ _ _ _ _ h),QI]
 refine congrArg (w.setRow g) ?_
 simp

theorem JmK (E:Nat->Addr) (b:Nat) (hb12:18<=b) (g:Option Nat) (wd:Int) (a o:Nat) (ho:o<256) (st:Option PS) (w:World) (hE:Env E w) (hp:Jh E w b g wd st) (hd:JO st<=90000000):
  Calls prog 205 #[.pointer (some ⟨b,0,none⟩),.agg #[.int .u64 (a:Int),.int .u8 (o:Int)]] w λe w'=>e=.returned (.agg #[.int .u64 ((stO (a,o) st).1.1:Int),.int .u8 ((stO (a,o) st).1.2:Int)])/\StTo E w w' b g wd (stO (a,o) st).2:=by
 have hlt:=hp.lt
 have HR0:=Run.start hb12 hE hp (Tch.allocs NoB w (.cells #[.int .u64 (a:Int),.int .u8 (o:Int)] 80) (.cells #[.int .u64 0,.int .u8 0] 80))
 have hl0:=JaC a 8 st
 have hm:=Jbo o 1 (JG a 8 st).2
 have hwo:IntKind.u64.wrap (o:Int)=(o:Int):=JB _ (by omega) (by omega)
 have RUN:Hid _:=HR0
 clear hE hp HR0
 go_enter func205,ntmps205
 go_wp2_with fail
 refine (ZC E b g wd a 8 st _ RUN.out.env RUN.out.port (by omega) (by omega)).mono ?_
 rintro _ w1 ⟨rfl,h⟩
 obtain ⟨g1,R1⟩:=RUN.out.step h
 have bx1:=(R1.box (k:=w.heap.size) (Ql _) (heap_alloc2_old _ _ _)).1
 have c1:w1.cell? ⟨w.heap.size,1,none⟩=some (.int .u8 (o:Int)):=Ja bx1
 have RUN1:Hid _:=R1
 clear R1 bx1 h
 go_wp2_with fail
 refine (ZC E b g1 wd o 1 _ _ RUN1.out.env RUN1.out.port (by omega) (by omega)).mono ?_
 rintro _ w2 ⟨rfl,h⟩
 obtain ⟨g2,R2⟩:=RUN1.out.step h
 have rR:=(R2.box (k:=w.heap.size+1) (by omega) (heap_alloc2_new _ _ _)).1
 have e0:w2.cell? ⟨w.heap.size+1,0,none⟩=some (.int .u64 0):=Ja rR
 have e1:w2.cell? ⟨w.heap.size+1,1,none⟩=some (.int .u8 0):=Ja rR
 have fR:∀j,w2.frozen? ⟨w.heap.size+1,j,none⟩=false:=λj=>Qg _ _ _ _ _ rR
 have hw8:IntKind.u8.wrap ((JG o 1 (JG a 8 st).2).1:Int)=((JG o 1 (JG a 8 st).2).1:Int):=Jbt _ (by omega) (by omega)
 have RUN2:Hid _:=R2
 have RR:Hid (_=_):=rR
 clear R2 rR h
 go_wp2
 rw [set2 _ _ _ _ _ _ _ RR.out]
 exact QJ (v:=.agg #[.int .u64 ((stO (a,o) st).1.1:Int),.int .u8 ((stO (a,o) st).1.2:Int)]) (Qq results205 _ _ (w.heap.size+1) _ _ (0,0) _ rfl (Qi _ _ _ _ _ _ RR.out) underlying80 rfl (by kernel_rfl)) rfl ⟨rfl,RUN2.out.done (k:=w.heap.size+1) (by omega) (heap_alloc2_new _ _ _) (by decide)⟩

theorem Jh.err {E:Nat->Addr} {w:World} {b:Nat} {g:Option Nat} {wd:Int} {st:Option PS} (h:Jh E w b g wd st):(st=none/\∃t u,w.cell? ⟨b,2,none⟩=some (.iface t u))\/((∃p,st=some p)/\w.cell? ⟨b,2,none⟩=some .nilIface):=by
 cases st with
 | some p=>exact .inr ⟨⟨p,rfl⟩,Jc.errCell h⟩
 | none=>obtain ⟨p,t,u,h1,_⟩:=h;exact .inl ⟨rfl,t,u,h1.errCell⟩
theorem JmD (E:Nat->Addr) (b:Nat) (hb12:18<=b) (g:Option Nat) (wd:Nat) (hw:wd<=1000) (k:BA) (st:Option PS) (w:World) (hE:Env E w) (hp:Jh E w b g wd st) (hd:JO st<=90000000):
  Calls prog 294 #[.pointer (some ⟨b,0,none⟩),.string k] w λe w'=>e=.returned (.string ⟨(YF wd k.data.toList st).1.toArray⟩)/\StTo E w w' b g wd (YF wd k.data.toList st).2:=by
 have cw:=hp.width
 have hlt:=hp.lt
 have HC:Hid (Calls prog 209 _ w _):=JeR E b g wd k (wd+1) st w hE hp (by omega)
 have HE:Hid (Env E w):=hE
 have HP:Hid _:=hp
 have HK:Hid (YF wd k.data.toList st=((Ji k.data.toList (wd+1) st).1,match (Ji k.data.toList (wd+1) st).2 with
  | none=>none
  | some p=>if 3<=((Ji k.data.toList (wd+1) st).1.getD wd 0).toNat then none else some p)):=rfl
 have HL:Hid (∀p,(Ji k.data.toList (wd+1) st).2=some p->(Ji k.data.toList (wd+1) st).1.length=wd+1):=λp h=>JeM _ _ _ p h
 have hww:IntKind.i64.wrap ((wd:Int)+1)=(wd:Int)+1:=JD _ (by omega) (by omega)
 clear hE hp
 go_enter func294,ntmps294
 go_wp2_with fail
 refine HC.o.mono ?_
 rintro _ w1 ⟨rfl,g1,hp1,hm1,ht1⟩
 have hev:=hp1.err
 have cw1:=hp1.width
 have HE1:Hid (Env E w1):=HE.o.tch ht1 (Jbp hb12 HP.o)
 have HP1:Hid _:=hp1
 have HM1:Hid _:=hm1
 have HT1:Hid _:=ht1
 clear hp1 hm1 ht1 HC
 rcases hev with ⟨hn,t,u,ce⟩ | ⟨⟨p,hs⟩,ce⟩
 ·have HN:Hid (_=none):=hn
  clear hn
  go_wp2
  go_ret
  refine ⟨by rw [HK.o];rfl,g1,?_,HM1.o,HT1.o⟩
  rw [HK.o,HN.o]
  have:=HP1.o
  rw [HN.o] at this
  exact this
 ·have hln:=HL.o p hs
  have HS:Hid _:=hs
  clear hs
  have hsz:(⟨(Ji k.data.toList (wd+1) st).1.toArray⟩:BA).size=wd+1:=by rw [Jw];exact hln
  have hix:wd<(⟨(Ji k.data.toList (wd+1) st).1.toArray⟩:BA).size:=by omega
  have HB:Hid ((⟨(Ji k.data.toList (wd+1) st).1.toArray⟩:BA)[wd].toNat=((Ji k.data.toList (wd+1) st).1.getD wd 0).toNat):=by
   show UInt8.toNat _=_
   congr 1
   simp [List.getD_eq_getElem?_getD,show wd<(Ji k.data.toList (wd+1) st).1.length by omega]
   rfl
  generalize hTB:(⟨(Ji k.data.toList (wd+1) st).1.toArray⟩:BA)=tb at *
  have HTB:Hid (_=tb):=hTB
  clear hTB hln
  by_cases h3:3<=tb[wd].toNat
  ·have h3i:(3:Int)<=(tb[wd].toNat:Int):=by omega
   go_wp2_with fail
   refine (ZE E b g1 wd _ _ w1 HE1.o HP1.o).mono ?_
   rintro _ w2 ⟨rfl,hs2⟩
   have HS2:Hid _:=hs2
   clear hs2
   go_wp2
   go_ret
   refine ⟨by rw [HK.o,HTB.o];rfl,?_⟩
   rw [HK.o]
   dsimp only
   rw [HS.o]
   dsimp only
   rw [if_pos (by rw [<-HB.o];exact h3)]
   exact StTo.trans HM1.o HT1.o HS2.o
  ·have h3i:¬(3:Int)<=(tb[wd].toNat:Int):=by omega
   go_wp2
   go_ret
   refine ⟨by rw [HK.o,HTB.o];rfl,g1,?_,HM1.o,HT1.o⟩
   rw [HK.o]
   dsimp only
   have:=HP1.o
   rw [HS.o] at this ⊢
   dsimp only
   rw [if_neg (by rw [<-HB.o];exact h3)]
   exact this
theorem JjA (E:Nat->Addr) (b:Nat) (hb12:18<=b) (g:Option Nat) (wd:Nat) (hw:wd<=1000) (k:Int) (st:Option PS) (w:World) (hE:Env E w) (hp:Jh E w b g wd st) (hd:JO st<=90000000):
  Calls prog 292 #[.pointer (some ⟨b,0,none⟩),.int .i64 k] w λe w'=>e=.returned (.int .i64 ((Yl wd k st).1:Int))/\StTo E w w' b g wd (Yl wd k st).2:=by
 have hx:=Jcx k
 have HE:Hid (Env E w):=hE
 have HP:Hid _:=hp
 have HK:Hid (Yl wd k st=((JG (JE k) 2 st).1,if 8 * (wd+1)<=(JG (JE k) 2 st).1 then none else (JG (JE k) 2 st).2)):=rfl
 clear hE hp
 go_enter func292,ntmps292
 go_wp2_with fail
 refine (ZC E b g wd (JE k) 2 st w HE.o HP.o (by omega) (by omega)).mono ?_
 rintro _ w1 ⟨rfl,g1,hp1,hm1,ht1⟩
 have cw1:=hp1.width
 have hm:=Jbo (JE k) 2 st
 have HE1:Hid (Env E w1):=HE.o.tch ht1 (Jbp hb12 HP.o)
 have HP1:Hid _:=hp1
 have HM1:Hid _:=hm1
 have HT1:Hid _:=ht1
 clear hp1 hm1 ht1
 generalize (JG (JE k) 2 st).1=m at *
 have hwm:IntKind.i64.wrap (m:Int)=(m:Int):=JD _ (by omega) (by omega)
 have hww:IntKind.i64.wrap ((wd:Int)+1)=(wd:Int)+1:=JD _ (by omega) (by omega)
 have hw8:IntKind.i64.wrap (8 * ((wd:Int)+1))=8 * ((wd:Int)+1):=JD _ (by omega) (by omega)
 have hwu:IntKind.u64.wrap (8 * ((wd:Int)+1))=8 * ((wd:Int)+1):=JB _ (by omega) (by omega)
 by_cases h3:8 * (wd+1)<=m
 ·have h3i:8 * ((wd:Int)+1)<=(m:Int):=by omega
  go_wp2_with (first | (go_at_call 200;refine (ZE E b g1 wd _ _ w1 HE1.o HP1.o).mono ?_;rintro _ w2 ⟨rfl,hs2⟩;have HS2:Hid _:=hs2;clear hs2) | go_in)
  go_ret
  refine ⟨by rw [HK.o];rfl,?_⟩
  rw [HK.o,if_pos h3]
  exact StTo.trans HM1.o HT1.o HS2.o
 ·have h3i:¬8 * ((wd:Int)+1)<=(m:Int):=by omega
  go_wp2
  go_ret
  refine ⟨by rw [HK.o];rfl,g1,?_,HM1.o,HT1.o⟩
  rw [HK.o,if_neg h3]
  exact HP1.o
theorem Jhm (E:Nat->Addr) (b:Nat) (hb12:18<=b) (g:Option Nat) (wd:Nat) (hw:wd<=1000) (k:BA) (a o:Nat) (ho:o<256) (st:Option PS) (w:World) (hE:Env E w) (hp:Jh E w b g wd st) (hd:JO st<=80000000):
  Calls prog 222 #[.pointer (some ⟨b,0,none⟩),.agg #[.string k,.int .u64 (a:Int),.int .u8 (o:Int)]] w λe w'=>e=.returned (.agg #[.string ⟨(JL wd k (a,o) st).1.1.toArray⟩,.int .u64 ((JL wd k (a,o) st).1.2.1:Int),.int .u8 ((JL wd k (a,o) st).1.2.2:Int)])/\StTo E w w' b g wd (JL wd k (a,o) st).2:=by
 have hlt:=hp.lt
 have HR0:=Run.start hb12 hE hp (Tch.allocs NoB w (.cells #[.string k,.int .u64 (a:Int),.int .u8 (o:Int)] 256) (.cells #[.string ⟨#[]⟩,.int .u64 0,.int .u8 0] 256))
 have hl0:=JiQ wd k.data.toList st
 have RUN:Hid _:=HR0
 clear hE hp HR0
 go_enter func222,ntmps222
 go_wp2_with fail
 refine (JmD E b hb12 g wd hw k st _ RUN.out.env RUN.out.port (by omega)).mono ?_
 rintro _ w1 ⟨rfl,h⟩
 obtain ⟨g1,R1⟩:=RUN.out.step h
 have bx1:=(R1.box (k:=w.heap.size) (Ql _) (heap_alloc2_old _ _ _)).1
 have c1:w1.cell? ⟨w.heap.size,1,none⟩=some (.int .u64 (a:Int)):=Ja bx1
 have c2:w1.cell? ⟨w.heap.size,2,none⟩=some (.int .u8 (o:Int)):=Ja bx1
 have RUN1:Hid _:=R1
 clear R1 bx1 h
 go_wp2_with fail
 refine (JmK E b hb12 g1 wd a o ho _ _ RUN1.out.env RUN1.out.port (by omega)).mono ?_
 rintro _ w2 ⟨rfl,h⟩
 obtain ⟨g2,R2⟩:=RUN1.out.step h
 have rR:=(R2.box (k:=w.heap.size+1) (by omega) (heap_alloc2_new _ _ _)).1
 have e0:w2.cell? ⟨w.heap.size+1,0,none⟩=some (.string ⟨#[]⟩):=Ja rR
 have e1:w2.cell? ⟨w.heap.size+1,1,none⟩=some (.int .u64 0):=Ja rR
 have e2:w2.cell? ⟨w.heap.size+1,2,none⟩=some (.int .u8 0):=Ja rR
 have fR:∀j,w2.frozen? ⟨w.heap.size+1,j,none⟩=false:=λj=>Qg _ _ _ _ _ rR
 have RUN2:Hid _:=R2
 have hsz2:w.heap.size+1<w2.heap.size:=(Jb rR)
 have RR:Hid (_=_):=rR
 clear R2 rR h
 go_wp2
 rw [set3 _ _ _ _ _ _ _ _ _ RR.out]
 exact QJ (v:=.agg #[.string ⟨(JL wd k (a,o) st).1.1.toArray⟩,.int .u64 ((JL wd k (a,o) st).1.2.1:Int),.int .u8 ((JL wd k (a,o) st).1.2.2:Int)]) (Qq results222 _ _ (w.heap.size+1) _ _ (0,0) _ rfl ((Below.heap_alloc _ _ _ (by simpa using hsz2)).trans (Qi _ _ _ _ _ _ RR.out)) underlying256 rfl (by kernel_rfl)) rfl ⟨rfl,(RUN2.out.done (k:=w.heap.size+1) (by omega) (heap_alloc2_new _ _ _) (by decide)).alloc _⟩
theorem JhH (E:Nat->Addr) (b:Nat) (hb12:18<=b) (g:Option Nat) (wd:Nat) (hw:wd<=1000) (k:Int) (x y:BA) (st:Option PS) (w:World) (hE:Env E w) (hp:Jh E w b g wd st) (hd:JO st<=80000000):
  Calls prog 308 #[.pointer (some ⟨b,0,none⟩),.agg #[.int .i64 k,.string x,.string y]] w λe w'=>e=.returned (.agg #[.int .i64 ((stBr wd k x y st).1.1:Int),.string ⟨(stBr wd k x y st).1.2.1.toArray⟩,.string ⟨(stBr wd k x y st).1.2.2.toArray⟩])/\StTo E w w' b g wd (stBr wd k x y st).2:=by
 have hlt:=hp.lt
 have HR0:=Run.start hb12 hE hp (Tch.allocs NoB w (.cells #[.int .i64 k,.string x,.string y] 279) (.cells #[.int .i64 0,.string ⟨#[]⟩,.string ⟨#[]⟩] 279))
 have hl0:=Jd8 wd k st
 have hl1:=Yd x.data.toList wd (Yl wd k st).2
 have RUN:Hid _:=HR0
 clear hE hp HR0
 go_enter func308,ntmps308
 go_wp2_with fail
 refine (JjA E b hb12 g wd hw k st _ RUN.out.env RUN.out.port (by omega)).mono ?_
 rintro _ w1 ⟨rfl,h⟩
 obtain ⟨g1,R1⟩:=RUN.out.step h
 have bx1:=(R1.box (k:=w.heap.size) (Ql _) (heap_alloc2_old _ _ _)).1
 have c1:w1.cell? ⟨w.heap.size,1,none⟩=some (.string x):=Ja bx1
 have RUN1:Hid _:=R1
 clear R1 bx1 h
 go_wp2_with fail
 refine (Yu E b g1 wd x _ _ RUN1.out.env RUN1.out.port (by omega)).mono ?_
 rintro _ w2 ⟨rfl,h⟩
 obtain ⟨g2,R2⟩:=RUN1.out.step h
 have bx2:=(R2.box (k:=w.heap.size) (Ql _) (heap_alloc2_old _ _ _)).1
 have c2:w2.cell? ⟨w.heap.size,2,none⟩=some (.string y):=Ja bx2
 have RUN2:Hid _:=R2
 clear R2 bx2 h
 go_wp2_with fail
 refine (Yu E b g2 wd y _ _ RUN2.out.env RUN2.out.port (by omega)).mono ?_
 rintro _ w3 ⟨rfl,h⟩
 obtain ⟨g3,R3⟩:=RUN2.out.step h
 have rR:=(R3.box (k:=w.heap.size+1) (by omega) (heap_alloc2_new _ _ _)).1
 have e0:w3.cell? ⟨w.heap.size+1,0,none⟩=some (.int .i64 0):=Ja rR
 have e1:w3.cell? ⟨w.heap.size+1,1,none⟩=some (.string ⟨#[]⟩):=Ja rR
 have e2:w3.cell? ⟨w.heap.size+1,2,none⟩=some (.string ⟨#[]⟩):=Ja rR
 have fR:∀j,w3.frozen? ⟨w.heap.size+1,j,none⟩=false:=λj=>Qg _ _ _ _ _ rR
 have RUN3:Hid _:=R3
 have RR:Hid (_=_):=rR
 clear R3 rR h
 go_wp2
 rw [set3 _ _ _ _ _ _ _ _ _ RR.out]
 exact QJ (v:=.agg #[.int .i64 ((stBr wd k x y st).1.1:Int),.string ⟨(stBr wd k x y st).1.2.1.toArray⟩,.string ⟨(stBr wd k x y st).1.2.2.toArray⟩]) (Qq results308 _ _ (w.heap.size+1) _ _ (0,0) _ rfl (Qi _ _ _ _ _ _ RR.out) underlying279 rfl (by kernel_rfl)) rfl ⟨rfl,RUN3.out.done (k:=w.heap.size+1) (by omega) (heap_alloc2_new _ _ _) (by decide)⟩

abbrev JbR:=BA×BA×(Nat×Nat)×Int×BA×BA
def Jmg:JbR:=(⟨#[]⟩,⟨#[]⟩,(0,0),0,⟨#[]⟩,⟨#[]⟩)
def Jab (n:JbR):Array Value:= #[.string n.1,.string n.2.1,.int .u64 (n.2.2.1.1:Int),.int .u8 (n.2.2.1.2:Int),.int .i64 n.2.2.2.1,.string n.2.2.2.2.1,.string n.2.2.2.2.2]
def XP (wd:Nat) (n:JbR) (st:Option PS):JbR×Option PS:=
 if (Ji n.1.data.toList 1 st).1=[69] then ((⟨#[69]⟩,⟨#[]⟩,(0,0),0,⟨#[]⟩,⟨#[]⟩),(Ji n.1.data.toList 1 st).2)
 else if (Ji n.1.data.toList 1 st).1=[76] then ((⟨#[76]⟩,⟨(JL wd n.2.1 n.2.2.1 (Ji n.1.data.toList 1 st).2).1.1.toArray⟩,(JL wd n.2.1 n.2.2.1 (Ji n.1.data.toList 1 st).2).1.2,0,⟨#[]⟩,⟨#[]⟩),(JL wd n.2.1 n.2.2.1 (Ji n.1.data.toList 1 st).2).2)
 else if (Ji n.1.data.toList 1 st).1=[78] then ((⟨#[78]⟩,⟨#[]⟩,(0,0),((stBr wd n.2.2.2.1 n.2.2.2.2.1 n.2.2.2.2.2 (Ji n.1.data.toList 1 st).2).1.1:Int),⟨(stBr wd n.2.2.2.1 n.2.2.2.2.1 n.2.2.2.2.2 (Ji n.1.data.toList 1 st).2).1.2.1.toArray⟩,⟨(stBr wd n.2.2.2.1 n.2.2.2.2.1 n.2.2.2.2.2 (Ji n.1.data.toList 1 st).2).1.2.2.toArray⟩),(stBr wd n.2.2.2.1 n.2.2.2.2.1 n.2.2.2.2.2 (Ji n.1.data.toList 1 st).2).2)
 else (Jmg,none)
theorem JiT {wd:Nat} {n:JbR} {st:Option PS} (h:stWr st):stWr (XP wd n st).2:=by
 unfold XP
 split
 ·exact XT h
 ·split
  ·exact JiR (XT h)
  ·split
   ·exact JlP (XT h)
   ·exact ZG
theorem set7 (w:World) (g:Nat) (t:TypeId) (a b c d e f h v0 v1 v2 v3 v4 v5 v6:Value) (hr:w.heap[g]? =some (.cells #[a,b,c,d,e,f,h] t (0,0))):
  ((((((w.setCell ⟨g,0,none⟩ v0).setCell ⟨g,1,none⟩ v1).setCell ⟨g,2,none⟩ v2).setCell ⟨g,3,none⟩ v3).setCell ⟨g,4,none⟩ v4).setCell ⟨g,5,none⟩ v5).setCell ⟨g,6,none⟩ v6=w.setRow g #[v0,v1,v2,v3,v4,v5,v6]:=by
 rw [Qj w g 0 _ t (0,0) v0 hr,Qj _ g 1 _ t (0,0) v1 (Qi _ _ _ _ _ _ hr),QI,
  Qj _ g 2 _ t (0,0) v2 (Qi _ _ _ _ _ _ hr),QI,Qj _ g 3 _ t (0,0) v3 (Qi _ _ _ _ _ _ hr),QI,
  Qj _ g 4 _ t (0,0) v4 (Qi _ _ _ _ _ _ hr),QI,Qj _ g 5 _ t (0,0) v5 (Qi _ _ _ _ _ _ hr),QI,
  Qj _ g 6 _ t (0,0) v6 (Qi _ _ _ _ _ _ hr),QI]
 refine congrArg (w.setRow g) ?_
 simp
theorem ZO (k:BA) (a o:Int) (w:World):Calls prog 307 #[.agg #[.string k,.int .u64 a,.int .u8 o]] w λe w'=>e=.returned (.agg #[.string ⟨#[76]⟩,.string k,.int .u64 a,.int .u8 o,.int .i64 0,.string ⟨#[]⟩,.string ⟨#[]⟩])/\Tch NoB w w':=by
 go_enter func307,ntmps307
 go_wp2
 exact QJ (v:=.agg #[.string ⟨#[76]⟩,.string k,.int .u64 a,.int .u8 o,.int .i64 0,.string ⟨#[]⟩,.string ⟨#[]⟩]) (Qq results307 _ _ (w.heap.size+1) _ _ (0,0) _ rfl (heap_alloc2_new _ _ _) underlying281 rfl (by kernel_rfl)) rfl ⟨rfl,Tch.allocs _ _ _ _⟩
theorem YZ (k:Int) (x y:BA) (w:World):Calls prog 309 #[.agg #[.int .i64 k,.string x,.string y]] w λe w'=>e=.returned (.agg #[.string ⟨#[78]⟩,.string ⟨#[]⟩,.int .u64 0,.int .u8 0,.int .i64 k,.string x,.string y])/\Tch NoB w w':=by
 go_enter func309,ntmps309
 go_wp2
 exact QJ (v:=.agg #[.string ⟨#[78]⟩,.string ⟨#[]⟩,.int .u64 0,.int .u8 0,.int .i64 k,.string x,.string y]) (Qq results309 _ _ (w.heap.size+1) _ _ (0,0) _ rfl (heap_alloc2_new _ _ _) underlying281 rfl (by kernel_rfl)) rfl ⟨rfl,Tch.allocs _ _ _ _⟩
theorem Run.next {E:Nat->Addr} {w0 wA w w':World} {b:Nat} {g g':Option Nat} {wd:Int} {st:Option PS} (h:Run E w0 wA w b g g' wd st) (k:Tch NoB w w'):Run E w0 wA w' b g g' wd st:=
 ⟨h.port.next k,h.moved,h.tch.trans k noE,h.env.tch k noE,h.k12,h.low,h.own,h.new⟩
theorem JlA (E:Nat->Addr) (b:Nat) (hb12:18<=b) (g:Option Nat) (wd:Nat) (hw:wd<=1000) (n:JbR) (ho:n.2.2.1.2<256) (st:Option PS) (w:World) (hE:Env E w) (hp:Jh E w b g wd st) (hd:JO st<=70000000):
  Calls prog 240 #[.pointer (some ⟨b,0,none⟩),.agg (Jab n)] w λe w'=>e=.returned (.agg (Jab (XP wd n st).1))/\StTo E w w' b g wd (XP wd n st).2:=by
 have hlt:=hp.lt
 obtain ⟨l,k,⟨a,o⟩,bt,x,y⟩:=n
 dsimp only at ho
 have HC:Hid (Jab (l,k,(a,o),bt,x,y)= #[.string l,.string k,.int .u64 (a:Int),.int .u8 (o:Int),.int .i64 bt,.string x,.string y]):=rfl
 rw [HC.o]
 have HR0:=Run.start hb12 hE hp (Tch.allocs NoB w (.cells #[.string l,.string k,.int .u64 (a:Int),.int .u8 (o:Int),.int .i64 bt,.string x,.string y] 281) (.cells #[.string ⟨#[]⟩,.string ⟨#[]⟩,.int .u64 0,.int .u8 0,.int .i64 0,.string ⟨#[]⟩,.string ⟨#[]⟩] 281))
 have hl0:=Yd l.data.toList 1 st
 have RUN:Hid _:=HR0
 clear hE hp HR0
 go_enter func240,ntmps240
 go_wp2_with fail
 refine (JeR E b g wd l 1 st _ RUN.out.env RUN.out.port (by omega)).mono ?_
 rintro _ w1 ⟨rfl,h⟩
 obtain ⟨g1,R1⟩:=RUN.out.step h
 have bx1:=(R1.box (k:=w.heap.size) (Ql _) (heap_alloc2_old _ _ _)).1
 have rR:=(R1.box (k:=w.heap.size+1) (by omega) (heap_alloc2_new _ _ _)).1
 have hsz1:w.heap.size+1<w1.heap.size:=(Jb rR)
 have c1:w1.cell? ⟨w.heap.size,1,none⟩=some (.string k):=Ja bx1
 have c2:w1.cell? ⟨w.heap.size,2,none⟩=some (.int .u64 (a:Int)):=Ja bx1
 have c3:w1.cell? ⟨w.heap.size,3,none⟩=some (.int .u8 (o:Int)):=Ja bx1
 have c4:w1.cell? ⟨w.heap.size,4,none⟩=some (.int .i64 bt):=Ja bx1
 have c5:w1.cell? ⟨w.heap.size,5,none⟩=some (.string x):=Ja bx1
 have c6:w1.cell? ⟨w.heap.size,6,none⟩=some (.string y):=Ja bx1
 have RUN1:Hid _:=R1
 have RR1:Hid (_=_):=rR
 clear R1 bx1 h rR
 have hn0:∀c:UInt8,(Ji l.data.toList 1 st).1 ≠ [c]->((⟨(Ji l.data.toList 1 st).1.toArray⟩:BA).toList == [c])=false:=λc h=>by
  rw [ByteArray.toList_eq]
  simpa using h
 have HN0:Hid _:=hn0
 clear hn0
 by_cases h0:(Ji l.data.toList 1 st).1=[69]
 ·have hb:(⟨(Ji l.data.toList 1 st).1.toArray⟩:BA)=⟨#[69]⟩:=by rw [h0]
  have HS:Hid (XP wd (l,k,(a,o),bt,x,y) st=((⟨#[69]⟩,⟨#[]⟩,(0,0),0,⟨#[]⟩,⟨#[]⟩),(Ji l.data.toList 1 st).2)):=if_pos h0
  rw [hb]
  clear hb h0
  have e0:w1.cell? ⟨w.heap.size+1,0,none⟩=some (.string ⟨#[]⟩):=Ja RR1.out
  have e1:w1.cell? ⟨w.heap.size+1,1,none⟩=some (.string ⟨#[]⟩):=Ja RR1.out
  have e2:w1.cell? ⟨w.heap.size+1,2,none⟩=some (.int .u64 0):=Ja RR1.out
  have e3:w1.cell? ⟨w.heap.size+1,3,none⟩=some (.int .u8 0):=Ja RR1.out
  have e4:w1.cell? ⟨w.heap.size+1,4,none⟩=some (.int .i64 0):=Ja RR1.out
  have e5:w1.cell? ⟨w.heap.size+1,5,none⟩=some (.string ⟨#[]⟩):=Ja RR1.out
  have e6:w1.cell? ⟨w.heap.size+1,6,none⟩=some (.string ⟨#[]⟩):=Ja RR1.out
  have fR:∀j,w1.frozen? ⟨w.heap.size+1,j,none⟩=false:=λj=>Qg _ _ _ _ _ RR1.out
  go_wp2
  rw [set7 _ _ _ _ _ _ _ _ _ _ _ _ _ _ _ _ _ RR1.out]
  refine QJ (v:=.agg (Jab (⟨#[69]⟩,⟨#[]⟩,(0,0),0,⟨#[]⟩,⟨#[]⟩))) (Qq results240 _ _ (w.heap.size+1) _ _ (0,0) _ rfl (Qi _ _ _ _ _ _ RR1.out) underlying281 rfl (by kernel_rfl)) rfl ⟨by rw [HS.o],?_⟩
  rw [HS.o]
  exact RUN1.out.done (k:=w.heap.size+1) (by omega) (heap_alloc2_new _ _ _) (by decide)
 ·by_cases h1:(Ji l.data.toList 1 st).1=[76]
  ·have hb:(⟨(Ji l.data.toList 1 st).1.toArray⟩:BA)=⟨#[76]⟩:=by rw [h1]
   have HS:Hid (XP wd (l,k,(a,o),bt,x,y) st=((⟨#[76]⟩,⟨(JL wd k (a,o) (Ji l.data.toList 1 st).2).1.1.toArray⟩,(JL wd k (a,o) (Ji l.data.toList 1 st).2).1.2,0,⟨#[]⟩,⟨#[]⟩),(JL wd k (a,o) (Ji l.data.toList 1 st).2).2)):=(if_neg h0).trans (if_pos h1)
   rw [hb]
   clear hb h0 h1
   go_wp2_with fail
   refine (Jhm E b hb12 g1 wd hw k a o ho _ _ RUN1.out.env RUN1.out.port (by omega)).mono ?_
   rintro _ w2 ⟨rfl,h⟩
   obtain ⟨g2,R2⟩:=RUN1.out.step h
   have RUN2:Hid _:=R2
   clear R2 h
   go_wp2_with fail
   refine (ZO _ _ _ _).mono ?_
   rintro _ w3 ⟨rfl,h⟩
   have R3:=RUN2.out.next h
   have rR:=(R3.box (k:=w.heap.size+1) (by omega) (heap_alloc2_new _ _ _)).1
   have e0:w3.cell? ⟨w.heap.size+1,0,none⟩=some (.string ⟨#[]⟩):=Ja rR
   have e1:w3.cell? ⟨w.heap.size+1,1,none⟩=some (.string ⟨#[]⟩):=Ja rR
   have e2:w3.cell? ⟨w.heap.size+1,2,none⟩=some (.int .u64 0):=Ja rR
   have e3:w3.cell? ⟨w.heap.size+1,3,none⟩=some (.int .u8 0):=Ja rR
   have e4:w3.cell? ⟨w.heap.size+1,4,none⟩=some (.int .i64 0):=Ja rR
   have e5:w3.cell? ⟨w.heap.size+1,5,none⟩=some (.string ⟨#[]⟩):=Ja rR
   have e6:w3.cell? ⟨w.heap.size+1,6,none⟩=some (.string ⟨#[]⟩):=Ja rR
   have fR:∀j,w3.frozen? ⟨w.heap.size+1,j,none⟩=false:=λj=>Qg _ _ _ _ _ rR
   have RUN3:Hid _:=R3
   have RR3:Hid (_=_):=rR
   clear R3 rR h
   go_wp2
   rw [set7 _ _ _ _ _ _ _ _ _ _ _ _ _ _ _ _ _ RR3.out]
   refine QJ (v:=.agg #[.string ⟨#[76]⟩,.string _,.int .u64 _,.int .u8 _,.int .i64 0,.string ⟨#[]⟩,.string ⟨#[]⟩]) (Qq results240 _ _ (w.heap.size+1) _ _ (0,0) _ rfl (Qi _ _ _ _ _ _ RR3.out) underlying281 rfl (by kernel_rfl)) rfl ⟨by rw [HS.o];rfl,?_⟩
   rw [HS.o]
   exact RUN3.out.done (k:=w.heap.size+1) (by omega) (heap_alloc2_new _ _ _) (by decide)
  ·by_cases h2:(Ji l.data.toList 1 st).1=[78]
   ·have hb:(⟨(Ji l.data.toList 1 st).1.toArray⟩:BA)=⟨#[78]⟩:=by rw [h2]
    have HS:Hid (XP wd (l,k,(a,o),bt,x,y) st=((⟨#[78]⟩,⟨#[]⟩,(0,0),((stBr wd bt x y (Ji l.data.toList 1 st).2).1.1:Int),⟨(stBr wd bt x y (Ji l.data.toList 1 st).2).1.2.1.toArray⟩,⟨(stBr wd bt x y (Ji l.data.toList 1 st).2).1.2.2.toArray⟩),(stBr wd bt x y (Ji l.data.toList 1 st).2).2)):=(if_neg h0).trans ((if_neg h1).trans (if_pos h2))
    rw [hb]
    clear hb h0 h1 h2
    go_wp2_with fail
    refine (JhH E b hb12 g1 wd hw bt x y _ _ RUN1.out.env RUN1.out.port (by omega)).mono ?_
    rintro _ w2 ⟨rfl,h⟩
    obtain ⟨g2,R2⟩:=RUN1.out.step h
    have RUN2:Hid _:=R2
    clear R2 h
    go_wp2_with fail
    refine (YZ _ _ _ _).mono ?_
    rintro _ w3 ⟨rfl,h⟩
    have R3:=RUN2.out.next h
    have rR:=(R3.box (k:=w.heap.size+1) (by omega) (heap_alloc2_new _ _ _)).1
    have e0:w3.cell? ⟨w.heap.size+1,0,none⟩=some (.string ⟨#[]⟩):=Ja rR
    have e1:w3.cell? ⟨w.heap.size+1,1,none⟩=some (.string ⟨#[]⟩):=Ja rR
    have e2:w3.cell? ⟨w.heap.size+1,2,none⟩=some (.int .u64 0):=Ja rR
    have e3:w3.cell? ⟨w.heap.size+1,3,none⟩=some (.int .u8 0):=Ja rR
    have e4:w3.cell? ⟨w.heap.size+1,4,none⟩=some (.int .i64 0):=Ja rR
    have e5:w3.cell? ⟨w.heap.size+1,5,none⟩=some (.string ⟨#[]⟩):=Ja rR
    have e6:w3.cell? ⟨w.heap.size+1,6,none⟩=some (.string ⟨#[]⟩):=Ja rR
    have fR:∀j,w3.frozen? ⟨w.heap.size+1,j,none⟩=false:=λj=>Qg _ _ _ _ _ rR
    have RUN3:Hid _:=R3
    have RR3:Hid (_=_):=rR
    clear R3 rR h
    go_wp2
    rw [set7 _ _ _ _ _ _ _ _ _ _ _ _ _ _ _ _ _ RR3.out]
    refine QJ (v:=.agg #[.string ⟨#[78]⟩,.string ⟨#[]⟩,.int .u64 0,.int .u8 0,.int .i64 _,.string _,.string _]) (Qq results240 _ _ (w.heap.size+1) _ _ (0,0) _ rfl (Qi _ _ _ _ _ _ RR3.out) underlying281 rfl (by kernel_rfl)) rfl ⟨by rw [HS.o];rfl,?_⟩
    rw [HS.o]
    exact RUN3.out.done (k:=w.heap.size+1) (by omega) (heap_alloc2_new _ _ _) (by decide)
   ·have HS:Hid (XP wd (l,k,(a,o),bt,x,y) st=(Jmg,none)):=(if_neg h0).trans ((if_neg h1).trans (if_neg h2))
    have b0:=HN0.o 69 h0
    have b1:=HN0.o 76 h1
    have b2:=HN0.o 78 h2
    clear h0 h1 h2 HN0
    generalize (⟨(Ji l.data.toList 1 st).1.toArray⟩:BA)=tb at *
    go_wp2_with fail
    refine (ZE E b g1 wd _ _ _ RUN1.out.env RUN1.out.port).mono ?_
    rintro _ w2 ⟨rfl,h⟩
    obtain ⟨g2,R2⟩:=RUN1.out.step h
    have rR:=(R2.box (k:=w.heap.size+1) (by omega) (heap_alloc2_new _ _ _)).1
    have e0:w2.cell? ⟨w.heap.size+1,0,none⟩=some (.string ⟨#[]⟩):=Ja rR
    have e1:w2.cell? ⟨w.heap.size+1,1,none⟩=some (.string ⟨#[]⟩):=Ja rR
    have e2:w2.cell? ⟨w.heap.size+1,2,none⟩=some (.int .u64 0):=Ja rR
    have e3:w2.cell? ⟨w.heap.size+1,3,none⟩=some (.int .u8 0):=Ja rR
    have e4:w2.cell? ⟨w.heap.size+1,4,none⟩=some (.int .i64 0):=Ja rR
    have e5:w2.cell? ⟨w.heap.size+1,5,none⟩=some (.string ⟨#[]⟩):=Ja rR
    have e6:w2.cell? ⟨w.heap.size+1,6,none⟩=some (.string ⟨#[]⟩):=Ja rR
    have fR:∀j,w2.frozen? ⟨w.heap.size+1,j,none⟩=false:=λj=>Qg _ _ _ _ _ rR
    have RUN2:Hid _:=R2
    have RR2:Hid (_=_):=rR
    clear R2 rR h
    go_wp2
    rw [set7 _ _ _ _ _ _ _ _ _ _ _ _ _ _ _ _ _ RR2.out]
    refine QJ (v:=.agg #[.string ⟨#[]⟩,.string ⟨#[]⟩,.int .u64 0,.int .u8 0,.int .i64 0,.string ⟨#[]⟩,.string ⟨#[]⟩]) (Qq results240 _ _ (w.heap.size+1) _ _ (0,0) _ rfl (Qi _ _ _ _ _ _ RR2.out) underlying281 rfl (by kernel_rfl)) rfl ⟨by rw [HS.o];rfl,?_⟩
    rw [HS.o]
    exact RUN2.out.done (k:=w.heap.size+1) (by omega) (heap_alloc2_new _ _ _) (by decide)

theorem ZP (E:Nat->Addr) (wd:Nat) (hw:wd<=1000) (n:JbR) (ho:n.2.2.1.2<256) (w:World) (hE:Env E w):
  Calls prog 154 #[.agg (Jab n),.int .i64 (wd:Int)] w λe w'=>Tch NoB w w'/\RetS E (Jae (XP wd n (some (.wr []))).2) e w':=by
 have hs:=hE.size
 have HE:Hid (Env E w):=hE
 clear hE
 have HC:Hid (∀W b,18<=b->Env E W->Jh E W b none wd (some (.wr []))->_):=λW b h12 hE hp=>JlA E b h12 none wd hw n ho (some (.wr [])) W hE hp (by show 0<=_;omega)
 obtain ⟨l,k,⟨a,o⟩,bt,x,y⟩:=n
 dsimp only at ho
 have HV:Hid (Jab (l,k,(a,o),bt,x,y)= #[.string l,.string k,.int .u64 (a:Int),.int .u8 (o:Int),.int .i64 bt,.string x,.string y]):=rfl
 rw [HV.o] at HC ⊢
 go_enter func154,ntmps154
 go_wp2_with fail
 refine (JV _ _).mono ?_
 rintro _ w1 ⟨rfl,hp1,ht1⟩
 have tA:Tch NoB w (w.alloc (.cells #[.string l,.string k,.int .u64 (a:Int),.int .u8 (o:Int),.int .i64 bt,.string x,.string y] 281)):=Tch.alloc _ _ _
 have hb:(w.alloc (.cells #[.string l,.string k,.int .u64 (a:Int),.int .u8 (o:Int),.int .i64 bt,.string x,.string y] 281)).heap.size=w.heap.size+1:=by simp
 rw [hb] at hp1
 rw [hb]
 have r0:w1.heap[w.heap.size]? =some (.cells #[.string l,.string k,.int .u64 (a:Int),.int .u8 (o:Int),.int .i64 bt,.string x,.string y] 281):=(ht1.block _ (by omega) (λh=>h)).trans (Qf _ _)
 have d0:w1.cell? ⟨w.heap.size,0,none⟩=some (.string l):=Ja r0
 have d1:w1.cell? ⟨w.heap.size,1,none⟩=some (.string k):=Ja r0
 have d2:w1.cell? ⟨w.heap.size,2,none⟩=some (.int .u64 (a:Int)):=Ja r0
 have d3:w1.cell? ⟨w.heap.size,3,none⟩=some (.int .u8 (o:Int)):=Ja r0
 have d4:w1.cell? ⟨w.heap.size,4,none⟩=some (.int .i64 bt):=Ja r0
 have d5:w1.cell? ⟨w.heap.size,5,none⟩=some (.string x):=Ja r0
 have d6:w1.cell? ⟨w.heap.size,6,none⟩=some (.string y):=Ja r0
 have HT1:Hid (Tch NoB w w1.drew):=(tA.trans ht1 noE).trans (Tch.drewN NoB w1 1) noE
 have HC1:Hid (Calls prog 240 _ w1.drew _):=HC.o w1.drew (w.heap.size+1) (by omega) (HE.o.tch HT1.o noE) (Jh.next (E:=E) (st:=some (.wr [])) hp1 (Tch.drewN _ w1 1))
 clear hp1 ht1 tA r0 hb HC
 go_wp2_with fail
 go_region_with (go_at_call 240;refine HC1.o.mono ?_;rintro _ w2 ⟨rfl,g2,hp2,hm2,ht2⟩;have HP2:Hid _:=hp2;have HT2:Hid _:=ht2;clear hp2 hm2 ht2)
 all_goals
  have HR:Hid (Calls prog 79 _ w2 _):=ZJ E (w.heap.size+1) g2 wd _ (JiT Jc1) w2 HP2.o
  have HT3:Hid (Tch NoB w w2):=Xv (b:=w.heap.size+1) (by omega) HT1.o HT2.o
  clear HP2 HT1 HT2 d0 d1 d2 d3 d4 d5 d6 HC1
  go_wp2_with fail
  refine HR.o.mono ?_
  rintro _ w3 ⟨ht3,hr⟩
  have HR3:Hid _:=hr
  have HT4:Hid _:=ht3
  clear ht3 HR
  rcases hr.cases with ⟨d,hd,rfl⟩ | ⟨hn,t,u,rfl,he⟩
  all_goals
   clear hr
   go_wp2
   go_ret2
   exact ⟨HT3.o.trans HT4.o noE,HR3.o⟩
