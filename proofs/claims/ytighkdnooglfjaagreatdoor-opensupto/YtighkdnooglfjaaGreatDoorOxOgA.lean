import Derived.Test.YtighkdnooglfjaaGreatDoorOxChS
namespace Go.Proofs.YtighkdnooglfjaaGreatDoor
open Tryz
set_option maxRecDepth 100000
set_option maxHeartbeats 1000000
open Go.RowKit

theorem Jdq (a:Addr) (w:World):(method 641 170 (.pointer (some a)) "trove/wire.place").run prog w=.ok (383,.pointer (some a)) w:=by kernel_rfl
theorem Jdr (a:Addr) (w:World):(method 641 170 (.pointer (some a)) "trove/wire.since").run prog w=.ok (384,.pointer (some a)) w:=by kernel_rfl
theorem JlW {a b:BA} (h:¬a=b):(a.toList == b.toList)=false:=by
 have h2:¬a.data.toList=b.data.toList:=λe=>h (by cases a;cases b;simp only at e;rw [Array.toList_inj] at e;rw [e])
 rw [ByteArray.toList_eq,ByteArray.toList_eq]
 simp only [beq_eq_false_iff_ne,ne_eq]
 exact h2
abbrev RS:=List UInt8×List UInt8×Bool
def RS.len (s:RS):Nat:=s.1.length+s.2.1.length
def RA (E:Nat->Addr) (w:World) (b:Nat) (wd:Int) (s:RS):Prop:=
 if s.2.2=true then Jc w b none wd .nilIface (.rd s.1 s.2.1) else ∃t u,Jc w b none wd (.iface t u) (.rd s.1 s.2.1)/\Jn E 7 w (.iface t u)
def raN (n:Nat) (s:RS):Nat×RS:=if s.2.2=true/\n<=s.2.1.length then (numL (s.2.1.take n),(s.1++s.2.1.take n,s.2.1.drop n,true)) else (0,(s.1,s.2.1,false))
def raT (n:Nat) (s:RS):List UInt8×RS:=if s.2.2=true/\n<=s.2.1.length then (s.2.1.take n,(s.1++s.2.1.take n,s.2.1.drop n,true)) else ([],(s.1,s.2.1,false))
theorem Jhp (n:Nat) (s:RS):(raN n s).2.len=s.len:=by
 unfold raN RS.len
 split
 ·simp only [Qe,QB,List.length_drop];omega
 ·rfl
theorem JeF (n:Nat) (s:RS):(raT n s).2.len=s.len:=by
 unfold raT RS.len
 split
 ·simp only [Qe,QB,List.length_drop];omega
 ·rfl
theorem RA.port {E:Nat->Addr} {w:World} {b:Nat} {wd:Int} {s:RS} (h:RA E w b wd s):∃e,Jc w b none wd e (.rd s.1 s.2.1):=by
 unfold RA at h
 split at h
 ·exact ⟨_,h⟩
 ·obtain ⟨t,u,h,_⟩:=h;exact ⟨_,h⟩
theorem RA.tch {E:Nat->Addr} {S:Nat->Prop} {w w':World} {b:Nat} {wd:Int} {s:RS} (h:RA E w b wd s) (k:Tch S w w') (hb:¬S b) (hs:∀p s u,w.heap[p]? =some (.cells #[.string s,u] 237)->¬S p):RA E w' b wd s:=by
 unfold RA at h ⊢
 split at h
 ·rename_i e;rw [if_pos e];exact h.tch k hb (λ_ h=>by cases h)
 ·rename_i e;rw [if_neg e];obtain ⟨t,u,h,h2⟩:=h;exact ⟨t,u,h.tch k hb (λ_ h=>by cases h),h2.tch k hs⟩
theorem RA.next {E:Nat->Addr} {w w':World} {b:Nat} {wd:Int} {s:RS} (h:RA E w b wd s) (k:Tch NoB w w'):RA E w' b wd s:=h.tch k (λh=>h) (λ_ _ _ _ h=>h)
theorem Jiq (E:Nat->Addr) (b:Nat) (wd:Int) (x:Nat) (n:Nat) (s:RS) (w:World) (hE:Env E w) (hp:RA E w b wd s) (h8:n<=8) (hd:s.len<=10000000000000):
  Calls prog 138 #[.pointer (some ⟨b,0,none⟩),.int .u64 (x:Int),.int .i64 (n:Int)] w λe w'=>e=.returned (.int .u64 ((raN n s).1:Int))/\RA E w' b wd (raN n s).2/\Tch (λk=>k=b) w w':=by
 obtain ⟨q,r,ok⟩:=s
 cases ok with
 | false=>
  obtain ⟨t,u,h1,h2⟩:=hp
  refine (Zc b none wd _ _ _ t u w h1).mono ?_
  rintro e w' ⟨rfl,rfl⟩
  refine ⟨by simp [raN],?_,Tch.refl _ _⟩
  have e:(raN n (q,r,false)).2=(q,r,false):=by simp [raN]
  rw [e]
  exact ⟨t,u,h1,h2⟩
 | true=>
  have hp':Jc w b none wd .nilIface (.rd q r):=hp
  by_cases hn:n<=r.length
  ·have e:raN n (q,r,true)=(numL (r.take n),(q++r.take n,r.drop n,true)):=by simp [raN,hn]
   rw [e]
   exact YR b wd x q r n w hp' hd hn h8
  ·have e:raN n (q,r,true)=(0,(q,r,false)):=by simp [raN,hn]
   rw [e]
   exact (Jbh E b wd x q r n w hE hp' hd (by omega)).mono λe w' ⟨k1,k2,k3⟩=>⟨k1,⟨_,_,k2,.base⟩,k3⟩
theorem JeQ (E:Nat->Addr) (b:Nat) (wd:Int) (x:Value) (n:Nat) (s:RS) (w:World) (hE:Env E w) (hp:RA E w b wd s) (hd:s.len<=10000000000000):
  Calls prog 209 #[.pointer (some ⟨b,0,none⟩),x,.int .i64 (n:Int)] w λe w'=>e=.returned (.string ⟨(raT n s).1.toArray⟩)/\RA E w' b wd (raT n s).2/\Tch (λk=>k=b) w w':=by
 obtain ⟨q,r,ok⟩:=s
 cases ok with
 | false=>
  obtain ⟨t,u,h1,h2⟩:=hp
  refine (Jc9 b none wd _ _ _ t u w h1).mono ?_
  rintro e w' ⟨rfl,rfl⟩
  refine ⟨by simp [raT],?_,Tch.refl _ _⟩
  have e:(raT n (q,r,false)).2=(q,r,false):=by simp [raT]
  rw [e]
  exact ⟨t,u,h1,h2⟩
 | true=>
  have hp':Jc w b none wd .nilIface (.rd q r):=hp
  by_cases hn:n<=r.length
  ·have e:raT n (q,r,true)=(r.take n,(q++r.take n,r.drop n,true)):=by simp [raT,hn]
   rw [e]
   exact Jdb b wd x q r n w hp' hd hn
  ·have e:raT n (q,r,true)=([],(q,r,false)):=by simp [raT,hn]
   rw [e]
   exact (Jda E b wd x q r n w hE hp' hd (by omega)).mono λe w' ⟨k1,k2,k3⟩=>⟨k1,⟨_,_,k2,.base⟩,k3⟩
def raS (s:RS):List UInt8×RS:=raT (raN 2 s).1 (raN 2 s).2
theorem Jho (s:RS):(raN 2 s).1<65536:=by
 unfold raN
 split
 ·have:=Jbg (s.2.1.take 2)
  rename_i h
  rw [QB,Nat.min_eq_left h.2] at this
  exact this
 ·show (0:Nat)<65536;omega
theorem JkB (E:Nat->Addr) (b:Nat) (hK:18<=b) (wd:Int) (s:RS) (w:World) (hE:Env E w) (hp:RA E w b wd s) (hd:s.len<=10000000000000):
  Calls prog 210 #[.pointer (some ⟨b,0,none⟩),.string ⟨#[]⟩] w λe w'=>e=.returned (.string ⟨(raS s).1.toArray⟩)/\RA E w' b wd (raS s).2/\Tch (λk=>k=b) w w':=by
 have HN:Hid (Calls prog 138 #[.pointer (some ⟨b,0,none⟩),.int .u64 0,.int .i64 2] w λe w'=>e=.returned (.int .u64 ((raN 2 s).1:Int))/\RA E w' b wd (raN 2 s).2/\Tch (λk=>k=b) w w'):=Jiq E b wd 0 2 s w hE hp (by omega) hd
 have HT:Hid (∀w1,Tch (λk=>k=b) w w1->RA E w1 b wd (raN 2 s).2->Calls prog 209 #[.pointer (some ⟨b,0,none⟩),.string ⟨#[]⟩,.int .i64 ((raN 2 s).1:Int)] w1 λe w'=>e=.returned (.string ⟨(raS s).1.toArray⟩)/\RA E w' b wd (raS s).2/\Tch (λk=>k=b) w1 w'):=λw1 h1 h2=>
  JeQ E b wd _ _ _ w1 (hE.tch h1 (λj hj=>by rw [hj];exact hK)) h2 (by rw [Jhp];exact hd)
 have h2:IntKind.i64.wrap ((raN 2 s).1:Int)=((raN 2 s).1:Int):=JD _ (by omega) (by have:=Jho s;omega)
 clear hp hE hd
 generalize (raN 2 s).1=n at *
 generalize (raN 2 s).2=s1 at *
 generalize (⟨(raS s).1.toArray⟩:BA)=z at *
 generalize (raS s).2=s2 at *
 go_enter func210,ntmps210
 go_wp2_with fail
 refine HN.o.mono ?_
 rintro _ w1 ⟨rfl,hr1,ht1⟩
 have HR1:Hid (RA _ _ _ _ _):=hr1
 have HT1:Hid (Tch _ w w1):=ht1
 clear hr1 ht1 HN
 go_wp2_with fail
 refine (HT.o w1 HT1.o HR1.o).mono ?_
 rintro _ w2 ⟨rfl,hr2,ht2⟩
 have HR2:Hid (RA _ _ _ _ _):=hr2
 have HT2:Hid (Tch (λk=>k=b) w w2):=HT1.o.trans ht2 (λ_ h=>.inl h)
 clear hr2 ht2 HT HR1
 go_wp2
 go_ret
 exact ⟨rfl,HR2.o,HT2.o⟩
theorem Jku (b:Nat) (wd:Int) (e:Value) (q r:List UInt8) (w:World) (hp:Jc w b none wd e (.rd q r)):
  Calls prog 383 #[.pointer (some ⟨b,0,none⟩)] w λe w'=>e=.returned (.int .i64 (q.length:Int))/\w=w':=by
 have c4:w.cell? ⟨b,4,none⟩=some (.int .i64 (q.length:Int)):=Ja hp.2
 clear hp
 go_enter func383,ntmps383
 go_wp2
 go_ret
 exact ⟨rfl,rfl⟩
def raM (k:Nat) (s:RS):RS:=if (raT 4 s).1=(dgW 4 (s.1.drop k)).data.toList then (raT 4 s).2 else ((raT 4 s).2.1,(raT 4 s).2.2.1,false)
theorem RA.refused (E:Nat->Addr) (b:Nat) (wd:Int) (s:RS) (x:BA) (w:World) (hE:Env E w) (hp:RA E w b wd s):
  Calls prog 200 #[.pointer (some ⟨b,0,none⟩),.string x] w λe w'=>e=.returned (.tuple #[])/\RA E w' b wd (s.1,s.2.1,false)/\Tch (λk=>k=b) w w':=by
 obtain ⟨q,r,ok⟩:=s
 cases ok with
 | false=>
  obtain ⟨t,u,h1,h2⟩:=hp
  refine (ZT b none wd _ _ t u w h1).mono ?_
  rintro e w' ⟨rfl,rfl⟩
  exact ⟨rfl,⟨t,u,h1,h2⟩,Tch.refl _ _⟩
 | true=>
  refine (JaT E b none wd x (.rd q r) w hE hp).mono ?_
  rintro e w' ⟨rfl,h1,h2,h3⟩
  exact ⟨rfl,⟨_,_,h1,h2⟩,h3⟩
theorem JmS (E:Nat->Addr) (b:Nat) (hK:18<=b) (wd:Int) (k:Nat) (s:RS) (hk:k<=s.1.length) (hl:(s.1.drop k).length<=1000000) (w:World) (hE:Env E w) (hp:RA E w b wd s) (hd:s.len<=10000000000000):
  Calls prog 211 #[.pointer (some ⟨b,0,none⟩),.int .i64 (k:Int)] w λe w'=>e=.returned (.tuple #[])/\RA E w' b wd (raM k s)/\Tch (λk=>k=b) w w':=by
 obtain ⟨er,hpo⟩:=hp.port
 have c0:w.cell? ⟨b,0,none⟩=some (.iface 170 (.pointer (some ⟨b,0,none⟩))):=Ja hpo.2
 have hm:=Jdr ⟨b,0,none⟩
 obtain ⟨dz,hdz⟩:∃dz:BA,dz=⟨(s.1.drop k).toArray⟩:=⟨_,rfl⟩
 obtain ⟨sm,hsm⟩:∃sm:BA,sm=dgW 4 (s.1.drop k):=⟨_,rfl⟩
 have HSI:Hid (Calls prog 384 #[.pointer (some ⟨b,0,none⟩),.int .i64 (k:Int)] w λe w'=>e=.returned (.string dz)/\Tch NoB w w'):=by
  rw [hdz]
  exact (JfH b wd er s.1 s.2.1 k w hpo hk).mono λe w' ⟨h1,n,h2⟩=>⟨h1,by rw [h2];exact Tch.drewN _ _ _⟩
 have HOF:Hid (∀w1,Tch NoB w w1->Calls prog 130 #[.int .i64 4,.string dz] w1 λe w'=>e=.returned (.string sm)/\Tch NoB w1 w'):=λw1 hT=>by
  rw [hdz,hsm]
  exact ZQ E 4 ⟨(s.1.drop k).toArray⟩ w1 (hE.tch hT noE) (by omega) (by omega) (by rw [Jw];omega)
 have HT:Hid (∀w1,Tch NoB w w1->Calls prog 209 #[.pointer (some ⟨b,0,none⟩),.string sm,.int .i64 4] w1 λe w'=>e=.returned (.string ⟨(raT 4 s).1.toArray⟩)/\RA E w' b wd (raT 4 s).2/\Tch (λk=>k=b) w w'):=λw1 hT=>
  (JeQ E b wd _ 4 s w1 (hE.tch hT noE) (hp.next hT) hd).mono λe w' ⟨k1,k2,k3⟩=>⟨k1,k2,(hT.mono noE).trans k3 (λ_ h=>.inl h)⟩
 have HRF:Hid (∀w1,Tch (λk=>k=b) w w1->RA E w1 b wd (raT 4 s).2->∀x,Calls prog 200 #[.pointer (some ⟨b,0,none⟩),.string x] w1 λe w'=>e=.returned (.tuple #[])/\RA E w' b wd ((raT 4 s).2.1,(raT 4 s).2.2.1,false)/\Tch (λk=>k=b) w1 w'):=λw1 h1 h2 x=>
  RA.refused E b wd _ x w1 (hE.tch h1 (λj hj=>by rw [hj];exact hK)) h2
 have HM:Hid (((⟨(raT 4 s).1.toArray⟩:BA)=sm->raM k s=(raT 4 s).2)/\(¬(⟨(raT 4 s).1.toArray⟩:BA)=sm->raM k s=((raT 4 s).2.1,(raT 4 s).2.2.1,false))):=by
  have hx:(⟨(raT 4 s).1.toArray⟩:BA)=sm↔(raT 4 s).1=(dgW 4 (s.1.drop k)).data.toList:=by
   rw [hsm]
   constructor
   ·intro h;rw [<-h]
   ·intro h;rw [h]
  exact ⟨λh=>by unfold raM;rw [if_pos (hx.1 h)],λh=>by unfold raM;rw [if_neg (λe=>h (hx.2 e))]⟩
 clear hE hp hpo hsm hdz hd hl hk
 generalize (⟨(raT 4 s).1.toArray⟩:BA)=tx at *
 go_enter func211,ntmps211
 go_wp2_with fail
 refine HSI.o.mono ?_
 rintro _ w1 ⟨rfl,ht1⟩
 have HT1:Hid (Tch _ w w1):=ht1
 clear ht1 HSI
 go_wp2_with fail
 refine (HOF.o w1 HT1.o).mono ?_
 rintro _ w2 ⟨rfl,ht2⟩
 have HT2:Hid (Tch NoB w w2):=HT1.o.go ht2
 clear ht2 HOF HT1
 go_wp2_with fail
 refine (HT.o w2 HT2.o).mono ?_
 rintro _ w3 ⟨rfl,hr3,ht3⟩
 have HR3:Hid (RA _ _ _ _ _):=hr3
 have HT3:Hid (Tch (λk=>k=b) w w3):=ht3
 clear hr3 ht3 HT HT2
 by_cases hE:tx=sm
 ·have HE:Hid (raM k s=_):=HM.o.1 hE
  subst hE
  clear HM
  go_wp2
  refine bodyPost_end (v:=.tuple #[]) (results_none results211 _ _ _) rfl ⟨rfl,by rw [HE.o];exact HR3.o,HT3.o⟩
 ·have HE:Hid (raM k s=_):=HM.o.2 hE
  have hE2:(tx.toList == sm.toList)=false:=JlW hE
  clear HM
  go_wp2_with fail
  refine (HRF.o w3 HT3.o HR3.o _).mono ?_
  rintro _ w4 ⟨rfl,hr4,ht4⟩
  have HR4:Hid (RA _ _ _ _ _):=hr4
  have HT4:Hid (Tch (λk=>k=b) w w4):=HT3.o.trans ht4 (λ_ h=>.inl h)
  clear hr4 ht4 HRF HR3 HT3
  go_wp2
  refine bodyPost_end (v:=.tuple #[]) (results_none results211 _ _ _) rfl ⟨rfl,by rw [HE.o];exact HR4.o,HT4.o⟩

theorem Jmb {w:World} {cb wd fl r base:Nat} {bs:List BV} {lv:Value} (h:Ju w cb wd fl r bs lv) (lg:List UInt8) (hl:JW base w lv lg):
  Calls prog 60 #[.pointer (some ⟨cb,0,none⟩)] w λe w'=>e=.returned (.string ⟨lg.toArray⟩)/\Tch NoB w w':=by
 have c3:w.cell? ⟨cb,3,none⟩=some lv:=Ja h.row
 have hst0:=Xw (P:=prog) (w:=w) (l:=lg) hl.bs 52 9 5 underlying52 underlying5 underlying9
 obtain ⟨a,c,rfl⟩:=hl.bs.shape
 clear hl h
 generalize (⟨lg.toArray⟩:BA)=r at *
 generalize (bc lg).length=n at *
 go_enter func60,ntmps60
 go_wp2
 go_ret
 exact ⟨rfl,Tch.refl _ _⟩
theorem fLog {w:World} {lb cb:Nat} (hl:w.cell? ⟨lb,0,none⟩=some (.pointer (some ⟨cb,0,none⟩))) (s:BA) (h:Calls prog 60 #[.pointer (some ⟨cb,0,none⟩)] w λe w'=>e=.returned (.string s)/\Tch NoB w w'):
  Calls prog 31 #[.pointer (some ⟨lb,0,none⟩)] w λe w'=>e=.returned (.string s)/\Tch NoB w w':=by
 have H:Hid (Calls _ _ _ _ _):=h
 clear h
 go_enter func31,ntmps31
 go_wp2_with fail
 refine H.out.mono ?_
 rintro _ w1 ⟨rfl,ht⟩
 have HT:Hid (Tch _ w w1):=ht
 clear ht H
 go_wp2
 go_ret
 exact ⟨rfl,HT.o⟩
theorem Je5 (n k:Nat) (h:n<2 ^ (8 * k)):numL (beL n k k)=n:=by rw [Jau n k h k (Ql _),Nat.sub_self];simp
theorem JjO (b:Nat) (wd:Int) (n:Nat) (hn:n<2 ^ 31) (w:World) (hp:Jc w b none wd .nilIface (.rd [] (beL n 4 4))):
  Calls prog 157 #[.pointer (some ⟨b,0,none⟩),.int .i64 0] w λe w'=>e=.returned (.int .i64 (n:Int))/\Jc w' b none wd .nilIface (.rd (beL n 4 4) [])/\Tch (λk=>k=b) w w':=by
 have hb:(beL n 4 4).length=4:=Je _ _ _
 have HN:Hid (Calls prog 138 #[.pointer (some ⟨b,0,none⟩),.int .u64 0,.int .i64 4] w λe w'=>e=.returned (.int .u64 (n:Int))/\Jc w' b none wd .nilIface (.rd (beL n 4 4) [])/\Tch (λk=>k=b) w w'):=by
  have:=YR b wd 0 [] (beL n 4 4) 4 w hp (by rw [hb];simp) (by omega) (by omega)
  rw [List.take_of_length_le (by omega),List.drop_eq_nil_of_le (by omega),Je5 n 4 (by omega),List.nil_append] at this
  exact this
 have hu:IntKind.u64.wrap (0:Int)=0:=rfl
 have hi:IntKind.i64.wrap (n:Int)=(n:Int):=by simp [IntKind.wrap,IntKind.bits,IntKind.signed];omega
 clear hp hb
 go_enter func157,ntmps157
 go_wp2_with fail
 refine HN.o.mono ?_
 rintro _ w1 ⟨rfl,h⟩
 have H:Hid (Jc _ _ _ _ _ _/\Tch _ _ _):=h
 clear h HN
 go_wp2
 go_ret
 exact ⟨rfl,H.out⟩
theorem Jdu {w:World} {cb wd:Nat} (hc:w.cell? ⟨cb,0,none⟩=some (.int .i64 (wd:Int))) (n:Nat) (hn:n<2 ^ 31) (Q:World->World->Prop) (h:∀W,Tch NoB w W->Calls prog 56 #[.pointer (some ⟨cb,0,none⟩),.int .i64 (n:Int)] W λe w'=>e=.returned .nilIface/\Q W w'):
  Calls prog 161 #[.pointer (some ⟨cb,0,none⟩),.string ⟨(beL n 4 4).toArray⟩] w λe w'=>e=.returned .nilIface/\∃W,Tch NoB w W/\Q W w':=by
 have HNR:Hid (Calls prog 85 #[.int .i64 (wd:Int),.string ⟨(beL n 4 4).toArray⟩] w λe w'=>e=.returned (.pointer (some ⟨w.heap.size,0,none⟩))/\Jc w' w.heap.size none (wd:Int) .nilIface (.rd [] (beL n 4 4))/\Tch NoB w w'):=Xk wd ⟨(beL n 4 4).toArray⟩ w
 have HFL:Hid (∀W,Jc W w.heap.size none (wd:Int) .nilIface (.rd [] (beL n 4 4))->Calls prog 157 #[.pointer (some ⟨w.heap.size,0,none⟩),.int .i64 0] W λe w'=>e=.returned (.int .i64 (n:Int))/\Jc w' w.heap.size none (wd:Int) .nilIface (.rd (beL n 4 4) [])/\Tch (λk=>k=w.heap.size) W w'):=λW hp=>JjO w.heap.size wd n hn W hp
 have HDN:Hid (∀W,Jc W w.heap.size none (wd:Int) .nilIface (.rd (beL n 4 4) [])->Calls prog 88 #[.pointer (some ⟨w.heap.size,0,none⟩)] W λe w'=>e=.returned .nilIface/\Tch NoB W w'):=λW hp=>Jap w.heap.size wd (beL n 4 4) W hp
 have HP:Hid (∀W,Tch NoB w W->Calls prog 56 #[.pointer (some ⟨cb,0,none⟩),.int .i64 (n:Int)] W λe w'=>e=.returned .nilIface/\Q W w'):=h
 clear h hn
 generalize (⟨(beL n 4 4).toArray⟩:BA)=s at *
 generalize beL n 4 4=bl at *
 go_enter func161,ntmps161
 go_wp2_with fail
 refine HNR.o.mono ?_
 rintro _ w1 ⟨rfl,hp1,ht1⟩
 have HP1:Hid (Jc _ _ _ _ _ _):=hp1
 have HT1:Hid (Tch NoB w w1):=ht1
 clear hp1 ht1 HNR hc
 go_wp2_with fail
 refine (HFL.o w1 HP1.o).mono ?_
 rintro _ w2 ⟨rfl,hp2,ht2⟩
 have HP2:Hid (Jc _ _ _ _ _ _):=hp2
 have HT2:Hid (Tch NoB w w2):=HT1.o.trans ht2 (λj hj=>.inr (by omega))
 clear hp2 ht2 HFL HP1 HT1
 go_wp2_with fail
 refine (HDN.o w2 HP2.o).mono ?_
 rintro _ w3 ⟨rfl,ht3⟩
 have HT3:Hid (Tch NoB w w3):=HT2.o.go ht3
 clear ht3 HDN HP2 HT2
 go_wp2_with fail
 refine (HP.o w3 HT3.o).mono ?_
 rintro _ w4 ⟨rfl,hq⟩
 have HQ:Hid (Q w3 w4):=hq
 clear hq HP
 go_wp2
 go_ret
 exact ⟨rfl,w3,HT3.o,HQ.o⟩

inductive Ev where
 | blk (t:List UInt8)
 | flo (n:Nat)
def Ev.letter:Ev->List UInt8
 | .blk _=>[66]
 | .flo _=>[80]
def Ev.content:Ev->List UInt8
 | .blk t=>t
 | .flo n=>beL n 4 4
def Ev.B (e:Ev):List UInt8:=recB e.letter e.content
def Ev.isB:Ev->Bool
 | .blk _=>true
 | .flo _=>false
def blks (evs:List Ev):Nat:=evs.countP Ev.isB
def flos (evs:List Ev):Nat:=evs.countP λe=> !e.isB
theorem JdF (evs:List Ev) (e:Ev):blks (evs++[e])=blks evs+(if e.isB=true then 1 else 0):=by unfold blks;rw [List.countP_append,List.countP_singleton]
theorem Zz (evs:List Ev) (e:Ev):flos (evs++[e])=flos evs+(if e.isB=true then 0 else 1):=by
 unfold flos
 rw [List.countP_append,List.countP_singleton]
 cases e.isB <;> rfl
theorem Zj (evs:List Ev):evs.length=blks evs+flos evs:=by
 unfold blks flos
 rw [List.length_eq_countP_add_countP Ev.isB]
 congr 1
 apply List.countP_congr
 intro e _
 simp
def logB (g:List UInt8) (evs:List Ev):List UInt8:=recB [71] g++evs.flatMap Ev.B
theorem ZB (g:List UInt8) (evs:List Ev) (e:Ev):logB g (evs++[e])=logB g evs++e.B:=by unfold logB;rw [List.flatMap_append,Qs];simp
inductive Hist (wd:Nat) (c0:BA×Option Tr):List Ev->Ch->Nat->Prop where
 | nil:Hist wd c0 [] [c0] 0
 | blk {evs:List Ev} {ch ch':Ch} {fl:Nat} (t:List UInt8):Hist wd c0 evs ch fl->Xt (dgW wd) wd ch t=.ok ch'->t.length<65536->Hist wd c0 (evs++[.blk t]) ch' fl
 | flo {evs:List Ev} {ch:Ch} {fl:Nat} (n:Nat):Hist wd c0 evs ch fl->fl<=n->n<ch.length->n<2 ^ 31->Hist wd c0 (evs++[.flo n]) ch n
theorem Zr {d:List UInt8->BA} {wd:Nat} {ch ch':Ch} {t:List UInt8} (h:Xt d wd ch t=.ok ch'):∃x,ch'=ch++[x]:=by
 unfold Xt at h
 split at h
 ·split at h
  ·split at h
   ·cases h
   ·split at h
    ·cases h
    ·split at h
     ·cases h
     ·cases h;exact ⟨_,rfl⟩
  ·cases h
 ·cases h
theorem Hist.len {wd:Nat} {c0:BA×Option Tr} {evs:List Ev} {ch:Ch} {fl:Nat} (h:Hist wd c0 evs ch fl):ch.length=blks evs+1:=by
 induction h with
 | nil=>rfl
 | blk t _ h2 _ ih=>
  obtain ⟨x,rfl⟩:=Zr h2
  rw [JdF,Qe,ih]
  rfl
 | flo n _ _ _ _ ih=>rw [JdF,ih];rfl
theorem Hist.pos {wd:Nat} {c0:BA×Option Tr} {evs:List Ev} {ch:Ch} {fl:Nat} (h:Hist wd c0 evs ch fl):fl<ch.length:=by
 induction h with
 | nil=>simp
 | blk t _ h2 _ ih=>
  obtain ⟨x,rfl⟩:=Zr h2
  rw [Qe]
  omega
 | flo n _ _ h2 _ _=>exact h2
theorem Hist.small {wd:Nat} {c0:BA×Option Tr} {evs:List Ev} {ch:Ch} {fl:Nat} (h:Hist wd c0 evs ch fl):∀e∈evs,e.content.length<65536:=by
 induction h with
 | nil=>intro e he;simp at he
 | blk t _ _ h3 ih=>
  intro e he
  rcases QE.1 he with he | he
  ·exact ih e he
  ·rw [Qt] at he;subst he;exact h3
 | flo n _ _ _ _ ih=>
  intro e he
  rcases QE.1 he with he | he
  ·exact ih e he
  ·rw [Qt] at he;subst he;show (beL n 4 4).length<65536;rw [Je];omega
def Jja (wd:Nat) (c0:BA×Option Tr) (evs:List Ev) (e:Ev) (ch:Ch) (fl:Nat):Prop:=∃ch0 fl0,Hist wd c0 evs ch0 fl0/\ch0 <+:ch/\(match e with
  | .blk t=>Xt (dgW wd) wd ch0 t=.ok ch/\fl=fl0
  | .flo n=>ch=ch0/\fl=n/\fl0<=n/\n<ch.length/\n<2 ^ 31)
theorem Hist.back_aux {wd:Nat} {c0:BA×Option Tr} {l:List Ev} {ch:Ch} {fl:Nat} (h:Hist wd c0 l ch fl):∀(evs:List Ev) (e:Ev),evs++[e]=l->Jja wd c0 evs e ch fl:=by
 cases h with
 | nil=>intro evs e hx;simp at hx
 | @blk evs' ch0 _ fl0 t h1 h2 h3=>
  intro evs e hx
  obtain ⟨rfl,he⟩:=List.append_inj' hx rfl
  simp only [QH,and_true] at he
  subst he
  obtain ⟨x,rfl⟩:=Zr h2
  exact ⟨ch0,_,h1,List.prefix_append _ _,h2,rfl⟩
 | @flo evs' _ fl0 n h1 h2 h3 h4=>
  intro evs e hx
  obtain ⟨rfl,he⟩:=List.append_inj' hx rfl
  simp only [QH,and_true] at he
  subst he
  exact ⟨_,fl0,h1,List.prefix_refl _,rfl,rfl,h2,h3,h4⟩
theorem Hist.back {wd:Nat} {c0:BA×Option Tr} {evs:List Ev} {e:Ev} {ch:Ch} {fl:Nat} (h:Hist wd c0 (evs++[e]) ch fl):Jja wd c0 evs e ch fl:=h.back_aux evs e rfl
theorem Hist.nil_aux {wd:Nat} {c0:BA×Option Tr} {l:List Ev} {ch:Ch} {fl:Nat} (h:Hist wd c0 l ch fl):l=[]->ch=[c0]/\fl=0:=by
 cases h with
 | nil=>intro _;exact ⟨rfl,rfl⟩
 | blk t _ _ _=>intro hx;simp at hx
 | flo n _ _ _ _=>intro hx;simp at hx
theorem Hist.take {wd:Nat} {c0:BA×Option Tr} {evs:List Ev} {ch:Ch} {fl:Nat} (h:Hist wd c0 evs ch fl):∀k,k<=evs.length->∃ch0 fl0,Hist wd c0 (evs.take k) ch0 fl0/\ch0 <+:ch:=by
 induction h with
 | nil=>intro k hk;exact ⟨_,_,by rw [List.take_nil];exact .nil,List.prefix_refl _⟩
 | @blk evs ch ch' fl t h1 h2 h3 ih=>
  intro k hk
  by_cases hk2:k<=evs.length
  ·obtain ⟨ch0,fl0,k1,k2⟩:=ih k hk2
   obtain ⟨x,rfl⟩:=Zr h2
   rw [List.take_append_of_le_length hk2]
   exact ⟨ch0,fl0,k1,k2.trans (List.prefix_append _ _)⟩
  ·rw [List.take_of_length_le (by rw [Qe] at hk ⊢;simp only [Qp,Qv] at hk ⊢;omega)]
   exact ⟨_,_,.blk t h1 h2 h3,List.prefix_refl _⟩
 | @flo evs ch fl n h1 h2 h3 h4 ih=>
  intro k hk
  by_cases hk2:k<=evs.length
  ·obtain ⟨ch0,fl0,k1,k2⟩:=ih k hk2
   rw [List.take_append_of_le_length hk2]
   exact ⟨ch0,fl0,k1,k2⟩
  ·rw [List.take_of_length_le (by rw [Qe] at hk ⊢;simp only [Qp,Qv] at hk ⊢;omega)]
   exact ⟨_,_,.flo n h1 h2 h3 h4,List.prefix_refl _⟩
def floE:List Ev->Nat
 | evs=>evs.foldl (λf e=>match e with | .blk _=>f | .flo n=>n) 0
theorem JdN (evs:List Ev) (e:Ev):floE (evs++[e])=match e with | .blk _=>floE evs | .flo n=>n:=by unfold floE;rw [List.foldl_append];rfl
theorem Hist.fl {wd:Nat} {c0:BA×Option Tr} {evs:List Ev} {ch:Ch} {fl:Nat} (h:Hist wd c0 evs ch fl):fl=floE evs:=by
 induction h with
 | nil=>rfl
 | blk t _ _ _ ih=>rw [JdN];exact ih
 | flo n _ _ _ _ _=>rw [JdN]
theorem Hist.same {wd:Nat} {c0:BA×Option Tr} {evs:List Ev} {ch ch':Ch} {fl fl':Nat} (h:Hist wd c0 evs ch fl):Hist wd c0 evs ch' fl'->ch=ch'/\fl=fl':=by
 induction h generalizing ch' fl' with
 | nil=>intro h;obtain ⟨h1,h2⟩:=h.nil_aux rfl;exact ⟨h1.symm,h2.symm⟩
 | blk t h1 h2 h3 ih=>
  intro h
  obtain ⟨ch0,fl0,k1,_,k2,k3⟩:=h.back
  obtain ⟨rfl,rfl⟩:=ih k1
  rw [h2] at k2
  cases k2
  exact ⟨rfl,k3.symm⟩
 | flo n h1 h2 h3 h4 ih=>
  intro h
  obtain ⟨ch0,fl0,k1,_,k2,k3,_⟩:=h.back
  obtain ⟨rfl,rfl⟩:=ih k1
  exact ⟨k2.symm,k3.symm⟩
def endE (g:List UInt8) (evs:List Ev) (k:Nat):Nat:=(logB g (evs.take k)).length
theorem JhW (g:List UInt8) (evs:List Ev) (k:Nat) (hk:k<evs.length):endE g evs (k+1)=endE g evs k+(evs[k].B).length:=by
 unfold endE
 rw [List.take_succ_eq_append_getElem hk,ZB,Qe]
theorem JaN (g:List UInt8) (evs:List Ev) (k:Nat):logB g evs=logB g (evs.take k)++(evs.drop k).flatMap Ev.B:=by
 unfold logB
 rw [Qs,<-List.flatMap_append,List.take_append_drop]
theorem Jlk (g:List UInt8) (evs:List Ev) (k n:Nat) (hk:k<=evs.length) (h1:endE g evs k<=n) (h2:k<evs.length->n<endE g evs (k+1)) (h3:n<=(logB g evs).length):
  ∃part,(logB g evs).take n=logB g (evs.take k)++part/\(part=[]\/∃h:k<evs.length,part <+:evs[k].B/\part.length<(evs[k].B).length)/\n=endE g evs k+part.length:=by
 have hs:=JaN g evs k
 unfold endE at h1
 refine ⟨((evs.drop k).flatMap Ev.B).take (n - (logB g (evs.take k)).length),?_,?_,?_⟩
 ·rw [hs,List.take_append,List.take_of_length_le h1]
 ·by_cases hlt:k<evs.length
  ·refine .inr ⟨hlt,?_⟩
   have h4:=h2 hlt
   rw [JhW g evs k hlt] at h4
   unfold endE at h4
   rw [List.drop_eq_getElem_cons hlt,QG,List.take_append_of_le_length (by omega)]
   exact ⟨List.take_prefix _ _,by rw [QB];omega⟩
  ·left
   rw [List.drop_eq_nil_of_le (by omega)]
   simp
 ·have h5:=congrArg List.length hs
  rw [Qe] at h5
  rw [QB]
  unfold endE
  omega

theorem JjM:∀(l:List (Nat×Nat)),(l.flatMap outB).length=9 * l.length
 | []=>rfl
 | o :: r=>by
  rw [QG,Qe,JjM r,Qp]
  have:(outB o).length=9:=by unfold outB;rw [Qe,Je,Je]
  omega
theorem JaU (wd:Nat) (outs:List (Nat×Nat)) (h3:outs.length<=3):(Jg wd outs).length<=100:=by
 unfold Jg JX
 rw [Qe,Je,Qe,Je,JjM]
 omega
theorem JkJ (E:Nat->Addr) (b:Nat) (hb12:18<=b) (wd:Nat) (hw:wd<=32) (outs:List (Nat×Nat)) (ho:∀o∈outs,Jv o) (h1:1<=outs.length) (h3:outs.length<=3) (w:World) (hE:Env E w) (hp:Jc w b none 0 .nilIface (.rd [] (Jg wd outs))):
  Calls prog 198 #[.pointer (some ⟨b,0,none⟩),.agg #[.int .i64 0,.slice none 0 0]] w λe w'=>∃gp,e=.returned (.agg #[.int .i64 (wd:Int),.slice (some ⟨gp,0,none⟩) outs.length outs.length])/\Jo w'.heap.size w' (.slice (some ⟨gp,0,none⟩) outs.length outs.length) outs/\Jc w' b none 0 .nilIface (.rd (Jg wd outs) [])/\Tch (λk=>k=b) w w':=by
 have hbl:=hp.lt
 obtain ⟨W,hW⟩:∃(W:World),W=(w.alloc (.cells #[.int .i64 0,.slice none 0 0] 333)).alloc (.cells #[.int .i64 0,.slice none 0 0] 333):=⟨_,rfl⟩
 have tW:Tch NoB w W:=by rw [hW];exact Tch.allocs _ _ _ _
 have hbx0:W.heap[w.heap.size]? =some (.cells #[.int .i64 0,.slice none 0 0] 333):=by rw [hW];exact heap_alloc2_old _ _ _
 have hbx1:W.heap[w.heap.size+1]? =some (.cells #[.int .i64 0,.slice none 0 0] 333):=by rw [hW];exact heap_alloc2_new _ _ _
 have hsl:=JaU wd outs h3
 have hpW:=hp.tch tW (λh=>h) (λ_ h=>by cases h)
 have hEW:=hE.tch tW noE
 have HN:Hid (Calls prog 138 #[.pointer (some ⟨b,0,none⟩),.int .u64 0,.int .i64 1] W λe w'=>e=.returned (.int .u64 (wd:Int))/\Jc w' b none 0 .nilIface (.rd (beL wd 1 1) (JX outs))/\Tch (λk=>k=b) W w'):=by
  have hb:(beL wd 1 1).length=1:=Je _ _ _
  have:=YR b 0 0 [] (Jg wd outs) 1 W hpW (by simp only [Qv];omega) (by unfold Jg;rw [Qe];omega) (by omega)
  unfold Jg at this
  rw [List.take_left' hb,List.drop_left' hb,Je5 wd 1 (by omega),List.nil_append] at this
  exact this
 have HF:Hid (∀V,Tch (λk=>k=b) W V->Jc V b none 0 .nilIface (.rd (beL wd 1 1) (JX outs))->Calls prog 188 #[.pointer (some ⟨b,0,none⟩),.slice none 0 0] V λe w'=>∃gp,e=.returned (.slice (some ⟨gp,0,none⟩) outs.length outs.length)/\V.heap.size<=gp/\w'.heap[gp]? =some (.cells (vvA (outs.map encO)) 80)/\Jc w' b none 0 .nilIface (.rd (Jg wd outs) [])/\Tch (λk=>k=b) V w'):=λV hT hpV=>by
  have hr:=(Jbn 1 3 outs ho h1 h3 (by omega)).rd (beL wd 1 1) []
  rw [QC] at hr
  have:=Zu E b hb12 none 0 (.slice none 0 0) [] (.rd (beL wd 1 1) (JX outs)) V (hEW.tch hT (λj hj=>by rw [hj];exact hb12)) hpV (.inl ⟨rfl,rfl⟩) (by simp) (λ_ _ _=>rfl) (λx hx=>by cases hx) (by
   unfold Jg at hsl
   rw [Qe] at hsl
   simp only [PS.len]
   omega)
  rw [hr] at this
  refine this.mono λe w' k=>?_
  obtain ⟨gp,k1,k2,k3,g',k4,_,k6,k7⟩:=k
  have hg:g'=none:=k4.1
  subst hg
  exact ⟨gp,k1,k2,k3,k4,k7.mono (λj hj=>by rcases hj with h | h;exact .inl h;cases h)⟩
 have HBX:Hid (∀V,Tch (λk=>k=b) W V->V.heap[w.heap.size]? =some (.cells #[.int .i64 0,.slice none 0 0] 333)/\V.heap[w.heap.size+1]? =some (.cells #[.int .i64 0,.slice none 0 0] 333)):=λV hT=>⟨(hT.block _ (Jb hbx0) (by omega)).trans hbx0,(hT.block _ (Jb hbx1) (by omega)).trans hbx1⟩
 have hu:IntKind.u64.wrap (0:Int)=0:=rfl
 have hi:IntKind.i64.wrap (wd:Int)=(wd:Int):=JD _ (by omega) (by omega)
 have b0:W.cell? ⟨w.heap.size,0,none⟩=some (.int .i64 0):=Ja hbx0
 have hz:w.heap.size+1<W.heap.size:=(Jb hbx1)
 have HTW:Hid (Tch NoB w W):=tW
 have HW:Hid (W=_):=hW
 have HZ:Hid (w.heap.size+1<W.heap.size):=hz
 clear hE hp tW hbx0 hbx1 hW hpW hEW ho h1 h3 hsl hz
 generalize Jg wd outs=sb at *
 generalize beL wd 1 1=pb at *
 generalize JX outs=lo at *
 go_enter func198,ntmps198
 go_upto_region 1 with fail
 rw [<-HW.o]
 go_wp2_with fail
 refine HN.o.mono ?_
 rintro _ w1 ⟨rfl,hp1,ht1⟩
 have HP1:Hid (Jc _ _ _ _ _ _):=hp1
 have HT1:Hid (Tch (λk=>k=b) W w1):=ht1
 have c1:w1.cell? ⟨w.heap.size,1,none⟩=some (.slice none 0 0):=Ja (HBX.o w1 ht1).1
 clear hp1 ht1 HN b0
 go_wp2_with fail
 refine (HF.o w1 HT1.o HP1.o).mono ?_
 rintro _ w4 ⟨gp,rfl,hgp,hrow,hp4,ht4⟩
 have HT4:Hid (Tch (λk=>k=b) W w4):=HT1.o.trans ht4 (λ_ h=>.inl h)
 have HP4:Hid (Jc _ _ _ _ _ _):=hp4
 have HG:Hid (w4.heap[gp]? =some (.cells (vvA (outs.map encO)) 80)/\w.heap.size+1<gp):=⟨hrow,by have:=HZ.o;have:=HT1.o.size;omega⟩
 have rR:=(HBX.o w4 HT4.o).2
 have e0:w4.cell? ⟨w.heap.size+1,0,none⟩=some (.int .i64 0):=Ja rR
 have e1:w4.cell? ⟨w.heap.size+1,1,none⟩=some (.slice none 0 0):=Ja rR
 have fR:∀j,w4.frozen? ⟨w.heap.size+1,j,none⟩=false:=λj=>Qg _ _ _ _ _ rR
 have RR:Hid (_=_):=rR
 clear hgp hrow hp4 ht4 rR HF HP1 HT1 c1
 go_wp2
 rw [Jhu _ _ _ _ _ _ _ RR.out]
 have tS:=Tch.setRow w4 (w.heap.size+1) #[.int .i64 (wd:Int),.slice (some ⟨gp,0,none⟩) outs.length outs.length]
 refine QJ (v:=.agg #[.int .i64 (wd:Int),.slice (some ⟨gp,0,none⟩) outs.length outs.length]) (Qq results198 _ _ (w.heap.size+1) _ _ (0,0) _ rfl (Qi _ _ _ _ _ _ RR.out) underlying333 rfl (by kernel_rfl)) rfl ⟨gp,rfl,?_,HP4.o.tch tS (by omega) (λ_ h=>by cases h),((HTW.o.mono noE).trans HT4.o (λ_ h=>.inl h)).trans tS (λj hj=>.inr (by omega))⟩
 have hg2:=(tS.block gp (Jb HG.o.1) (by have:=HG.o.2;omega)).trans HG.o.1
 exact Jo.of_row hg2 (Jb hg2)
theorem Jjz (E:Nat->Addr) (wd:Nat) (hw1:1<=wd) (hw:wd<=32) (outs:List (Nat×Nat)) (ho:∀o∈outs,Jv o) (h1:1<=outs.length) (h3:outs.length<=3) (w:World) (hE:Env E w) (base:Nat) (hbase:base<=w.heap.size) (st:Option Tr) (hrec:JH (dgW wd (71 :: JX outs)) 0 outs none=.ok st):
  Calls prog 160 #[.agg #[.string ⟨#[71]⟩,.string ⟨(Jg wd outs).toArray⟩]] w λe w'=>∃W,Tch NoB w W/\JdA wd base outs st W e w':=by
 obtain ⟨W,hW⟩:∃(W:World),W=w.alloc (.cells #[.string ⟨#[71]⟩,.string ⟨(Jg wd outs).toArray⟩] 195):=⟨_,rfl⟩
 have tW:Tch NoB w W:=by rw [hW];exact Tch.alloc _ _ _
 have hbx:W.heap[w.heap.size]? =some (.cells #[.string ⟨#[71]⟩,.string ⟨(Jg wd outs).toArray⟩] 195):=by rw [hW];exact Qf _ _
 have c0:W.cell? ⟨w.heap.size,0,none⟩=some (.string ⟨#[71]⟩):=Ja hbx
 have c1:W.cell? ⟨w.heap.size,1,none⟩=some (.string ⟨(Jg wd outs).toArray⟩):=Ja hbx
 have hK:18<=W.heap.size:=Qm hE.size tW.size
 have HEN:Hid (∀V,Tch NoB W V->Env E V):=λV hT=>(hE.tch tW noE).tch hT noE
 have HNR:Hid (Calls prog 85 #[.int .i64 0,.string ⟨(Jg wd outs).toArray⟩] W λe w'=>e=.returned (.pointer (some ⟨W.heap.size,0,none⟩))/\Jc w' W.heap.size none 0 .nilIface (.rd [] (Jg wd outs))/\Tch NoB W w'):=Xk 0 ⟨(Jg wd outs).toArray⟩ W
 have HST:Hid (∀V,Tch NoB W V->Jc V W.heap.size none 0 .nilIface (.rd [] (Jg wd outs))->Calls prog 198 #[.pointer (some ⟨W.heap.size,0,none⟩),.agg #[.int .i64 0,.slice none 0 0]] V λe w'=>∃gp,e=.returned (.agg #[.int .i64 (wd:Int),.slice (some ⟨gp,0,none⟩) outs.length outs.length])/\Jo w'.heap.size w' (.slice (some ⟨gp,0,none⟩) outs.length outs.length) outs/\Jc w' W.heap.size none 0 .nilIface (.rd (Jg wd outs) [])/\Tch (λk=>k=W.heap.size) V w'):=λV hT hp=>JkJ E W.heap.size hK wd hw outs ho h1 h3 V (HEN.o V hT) hp
 have HDN:Hid (∀V,Jc V W.heap.size none 0 .nilIface (.rd (Jg wd outs) [])->Calls prog 88 #[.pointer (some ⟨W.heap.size,0,none⟩)] V λe w'=>e=.returned .nilIface/\Tch NoB V w'):=λV hp=>Jap W.heap.size 0 (Jg wd outs) V hp
 have HNW:Hid (∀V v,Tch NoB W V->Jo V.heap.size V v outs->Calls prog 72 #[.int .i64 (wd:Int),v] V λe w'=>JdA wd base outs st V e w'):=λV v hT hv=>JdG E wd hw1 hw v outs ho h1 h3 V (HEN.o V hT) hv base (Qm hbase (Qm tW.size hT.size)) st hrec
 have HTW:Hid (Tch NoB w W):=tW
 have HW:Hid (W=_):=hW
 clear hE hrec tW hbx hW hK ho h1 h3 hbase
 generalize (⟨(Jg wd outs).toArray⟩:BA)=cs at *
 generalize Jg wd outs=sb at *
 go_enter func160,ntmps160
 go_upto_region 1 with fail
 rw [<-HW.o]
 go_wp2_with fail
 refine HNR.o.mono ?_
 rintro _ w1 ⟨rfl,hp1,ht1⟩
 have HP1:Hid (Jc _ _ _ _ _ _):=hp1
 have HT1:Hid (Tch NoB W w1):=ht1
 clear hp1 ht1 HNR c0 c1
 go_wp2_with fail
 refine (HST.o w1 HT1.o HP1.o).mono ?_
 rintro _ w2 ⟨gp,rfl,ho2,hp2,ht2⟩
 have HP2:Hid (Jc _ _ _ _ _ _):=hp2
 have HT2:Hid (Tch NoB W w2):=HT1.o.trans ht2 (λj hj=>.inr (by omega))
 obtain ⟨w3,hw3⟩:∃(w3:World),w3=w2.alloc (.cells #[.int .i64 (wd:Int),.slice (some ⟨gp,0,none⟩) outs.length outs.length] 333):=⟨_,rfl⟩
 have t3:Tch NoB w2 w3:=by rw [hw3];exact Tch.alloc _ _ _
 have hr3:w3.heap[w2.heap.size]? =some (.cells #[.int .i64 (wd:Int),.slice (some ⟨gp,0,none⟩) outs.length outs.length] 333):=by rw [hw3];exact Qf _ _
 have HW3:Hid (w3=_):=hw3
 have HT3:Hid (Tch NoB W w3):=HT2.o.go t3
 have HP3:Hid (Jc w3 _ _ _ _ _):=hp2.tch t3 (λh=>h) (λ_ h=>by cases h)
 have HC3:Hid (∀V,Tch NoB w3 V->V.cell? ⟨w2.heap.size,0,none⟩=some (.int .i64 (wd:Int))/\V.cell? ⟨w2.heap.size,1,none⟩=some (.slice (some ⟨gp,0,none⟩) outs.length outs.length)/\Jo V.heap.size V (.slice (some ⟨gp,0,none⟩) outs.length outs.length) outs):=λV hT=>by
  have h:=(hT.block _ (Jb hr3) (λh=>h)).trans hr3
  exact ⟨Ja h,Ja h,(ho2.tch (t3.go hT) noE).up (t3.go hT).size⟩
 clear ho2 hp2 ht2 hw3 t3 hr3 HST HP1 HT1 HP2 HT2
 go_upto_region 5 with fail
 rw [<-HW3.o]
 go_wp2_with fail
 refine (HDN.o w3 HP3.o).mono ?_
 rintro _ w4 ⟨rfl,ht4⟩
 have HT4:Hid (Tch NoB W w4):=HT3.o.go ht4
 obtain ⟨d0,d1,d2⟩:=HC3.o w4 ht4
 have HO4:Hid (Jo _ _ _ _):=d2
 clear ht4 d2 HDN HP3 HC3 HT3
 go_wp2_with fail
 refine (HNW.o w4 _ HT4.o HO4.o).mono ?_
 rintro e w5 hn
 obtain ⟨hT5,cb,r,q,lv,rfl,hrest⟩:=hn
 have HR5:Hid (Tch NoB w4 w5/\_):=⟨hT5,hrest⟩
 have HTE:Hid (Tch NoB w w4):=HTW.o.go HT4.o
 clear hT5 hrest HNW HO4 d0 d1
 go_wp2
 go_ret2
 exact ⟨w4,HTE.o,HR5.o.1,cb,r,q,lv,rfl,HR5.o.2⟩
theorem JgI (ct:BA) (w:World) (Q:World->Ending->World->Prop) (hQ:∀W e w',Q W e w'->∃cb,e=.returned (.tuple #[.pointer (some ⟨cb,0,none⟩),.nilIface])) (h:∀W,Tch NoB w W->Calls prog 160 #[.agg #[.string ⟨#[71]⟩,.string ct]] W λe w'=>Q W e w'):
  Calls prog 100 #[.pointer none,.agg #[.string ⟨#[71]⟩,.string ct]] w λe w'=>∃W,Tch NoB w W/\Q W e w':=by
 have H:Hid (∀W,Tch NoB w W->Calls prog 160 #[.agg #[.string ⟨#[71]⟩,.string ct]] W λe w'=>Q W e w'):=h
 clear h
 go_enter func100,ntmps100
 go_wp2_with fail
 refine (H.out _ (Tch.alloc _ _ _)).mono ?_
 intro e w1 hq
 obtain ⟨cb,rfl⟩:=hQ _ _ _ hq
 have HQ1:Hid (Q _ _ w1):=hq
 clear hq H hQ
 go_wp2
 go_ret2
 exact ⟨_,Tch.alloc _ _ _,HQ1.o⟩
theorem JgF (cb:Nat) (ct:BA) (w:World) (Q:World->World->Prop) (h:∀W,Tch NoB w W->Calls prog 46 #[.pointer (some ⟨cb,0,none⟩),.string ct] W λe w'=>e=.returned .nilIface/\Q W w'):
  Calls prog 100 #[.pointer (some ⟨cb,0,none⟩),.agg #[.string ⟨#[66]⟩,.string ct]] w λe w'=>e=.returned (.tuple #[.pointer (some ⟨cb,0,none⟩),.nilIface])/\∃W,Tch NoB w W/\Q W w':=by
 have H:Hid (∀W,Tch NoB w W->Calls prog 46 #[.pointer (some ⟨cb,0,none⟩),.string ct] W λe w'=>e=.returned .nilIface/\Q W w'):=h
 clear h
 go_enter func100,ntmps100
 go_wp2_with fail
 refine (H.out _ (Tch.alloc _ _ _)).mono ?_
 rintro _ w1 ⟨rfl,hq⟩
 have HQ1:Hid (Q _ w1):=hq
 clear hq H
 go_wp2
 go_ret2
 exact ⟨rfl,_,Tch.alloc _ _ _,HQ1.o⟩
theorem JgH (cb:Nat) (ct:BA) (w:World) (Q:World->World->Prop) (h:∀W,Tch NoB w W->Calls prog 161 #[.pointer (some ⟨cb,0,none⟩),.string ct] W λe w'=>e=.returned .nilIface/\Q W w'):
  Calls prog 100 #[.pointer (some ⟨cb,0,none⟩),.agg #[.string ⟨#[80]⟩,.string ct]] w λe w'=>e=.returned (.tuple #[.pointer (some ⟨cb,0,none⟩),.nilIface])/\∃W,Tch NoB w W/\Q W w':=by
 have H:Hid (∀W,Tch NoB w W->Calls prog 161 #[.pointer (some ⟨cb,0,none⟩),.string ct] W λe w'=>e=.returned .nilIface/\Q W w'):=h
 clear h
 go_enter func100,ntmps100
 go_wp2_with fail
 refine (H.out _ (Tch.alloc _ _ _)).mono ?_
 rintro _ w1 ⟨rfl,hq⟩
 have HQ1:Hid (Q _ w1):=hq
 clear hq H
 go_wp2
 go_ret2
 exact ⟨rfl,_,Tch.alloc _ _ _,HQ1.o⟩

def raR (s:RS):List UInt8×List UInt8×RS:=((raT 1 s).1,(raS (raT 1 s).2).1,raM s.1.length (raS (raT 1 s).2).2)
theorem Jhq (n:Nat) (s:RS):∃x,(raT n s).2.1=s.1++x/\x.length<=n:=by
 unfold raT
 split
 ·exact ⟨_,rfl,by rw [QB];omega⟩
 ·exact ⟨[],by simp,by simp⟩
theorem JlF (n:Nat) (s:RS):∃x,(raN n s).2.1=s.1++x/\x.length<=n:=by
 unfold raN
 split
 ·exact ⟨_,rfl,by rw [QB];omega⟩
 ·exact ⟨[],by simp,by simp⟩
theorem JlI (s:RS):∃x,(raS s).2.1=s.1++x/\x.length<=65538:=by
 obtain ⟨x,h1,h2⟩:=JlF 2 s
 obtain ⟨y,h3,h4⟩:=Jhq (raN 2 s).1 (raN 2 s).2
 have:=Jho s
 exact ⟨x++y,by unfold raS;rw [h3,h1,Qs],by rw [Qe];omega⟩
theorem JlH (s:RS):(raS s).2.len=s.len:=by unfold raS;rw [JeF,Jhp]
theorem JiG (E:Nat->Addr) (b:Nat) (hK:18<=b) (wd:Int) (s:RS) (w:World) (hE:Env E w) (hp:RA E w b wd s) (hd:s.len<=10000000000000):
  Calls prog 141 #[.pointer (some ⟨b,0,none⟩),.agg #[.string ⟨#[]⟩,.string ⟨#[]⟩]] w λe w'=>e=.returned (.agg #[.string ⟨(raR s).1.toArray⟩,.string ⟨(raR s).2.1.toArray⟩])/\RA E w' b wd (raR s).2.2/\Tch (λk=>k=b) w w':=by
 obtain ⟨W,hW⟩:∃(W:World),W=(w.alloc (.cells #[.string ⟨#[]⟩,.string ⟨#[]⟩] 195)).alloc (.cells #[.string ⟨#[]⟩,.string ⟨#[]⟩] 195):=⟨_,rfl⟩
 have tW:Tch NoB w W:=by rw [hW];exact Tch.allocs _ _ _ _
 have hbx0:W.heap[w.heap.size]? =some (.cells #[.string ⟨#[]⟩,.string ⟨#[]⟩] 195):=by rw [hW];exact heap_alloc2_old _ _ _
 have hbx1:W.heap[w.heap.size+1]? =some (.cells #[.string ⟨#[]⟩,.string ⟨#[]⟩] 195):=by rw [hW];exact heap_alloc2_new _ _ _
 obtain ⟨er,hpo⟩:=(hp.next tW).port
 have hbl:b<w.heap.size:=by obtain ⟨_,h⟩:=hp.port;exact h.lt
 have c0:W.cell? ⟨b,0,none⟩=some (.iface 170 (.pointer (some ⟨b,0,none⟩))):=Ja hpo.2
 have hm:=Jdq ⟨b,0,none⟩
 have hEW:=hE.tch tW noE
 have HEN:Hid (∀V,Tch (λk=>k=b) W V->Env E V):=λV hT=>hEW.tch hT (λj hj=>by rw [hj];exact hK)
 have HPL:Hid (Calls prog 383 #[.pointer (some ⟨b,0,none⟩)] W λe w'=>e=.returned (.int .i64 (s.1.length:Int))/\W=w'):=Jku b wd er s.1 s.2.1 W hpo
 have HTX:Hid (Calls prog 209 #[.pointer (some ⟨b,0,none⟩),.string ⟨#[]⟩,.int .i64 1] W λe w'=>e=.returned (.string ⟨(raT 1 s).1.toArray⟩)/\RA E w' b wd (raT 1 s).2/\Tch (λk=>k=b) W w'):=JeQ E b wd _ 1 s W hEW (hp.next tW) hd
 have HSZ:Hid (∀V,Tch (λk=>k=b) W V->RA E V b wd (raT 1 s).2->Calls prog 210 #[.pointer (some ⟨b,0,none⟩),.string ⟨#[]⟩] V λe w'=>e=.returned (.string ⟨(raS (raT 1 s).2).1.toArray⟩)/\RA E w' b wd (raS (raT 1 s).2).2/\Tch (λk=>k=b) V w'):=λV hT hr=>JkB E b hK wd _ V (HEN.o V hT) hr (by rw [JeF];exact hd)
 have HSM:Hid (∀V,Tch (λk=>k=b) W V->RA E V b wd (raS (raT 1 s).2).2->Calls prog 211 #[.pointer (some ⟨b,0,none⟩),.int .i64 (s.1.length:Int)] V λe w'=>e=.returned (.tuple #[])/\RA E w' b wd (raR s).2.2/\Tch (λk=>k=b) V w'):=λV hT hr=>by
  obtain ⟨x,h1,h2⟩:=Jhq 1 s
  obtain ⟨y,h3,h4⟩:=JlI (raT 1 s).2
  have e:(raS (raT 1 s).2).2.1=s.1++(x++y):=by rw [h3,h1,Qs]
  exact JmS E b hK wd s.1.length _ (by rw [e,Qe];omega) (by rw [e,List.drop_left,Qe];omega) V (HEN.o V hT) hr (by rw [JlH,JeF];exact hd)
 have HBX:Hid (∀V,Tch (λk=>k=b) W V->V.heap[w.heap.size]? =some (.cells #[.string ⟨#[]⟩,.string ⟨#[]⟩] 195)/\V.heap[w.heap.size+1]? =some (.cells #[.string ⟨#[]⟩,.string ⟨#[]⟩] 195)):=λV hT=>⟨(hT.block _ (Jb hbx0) (by omega)).trans hbx0,(hT.block _ (Jb hbx1) (by omega)).trans hbx1⟩
 have e1:((raR s).1,(raR s).2.1)=((raT 1 s).1,(raS (raT 1 s).2).1):=rfl
 have HE1:Hid ((raR s).1=(raT 1 s).1/\(raR s).2.1=(raS (raT 1 s).2).1):=⟨rfl,rfl⟩
 have HTW:Hid (Tch NoB w W):=tW
 have HW:Hid (W=_):=hW
 have b0:W.cell? ⟨w.heap.size,0,none⟩=some (.string ⟨#[]⟩):=Ja hbx0
 rw [HE1.o.1,HE1.o.2]
 clear hE hEW hp hpo hd tW hbx0 hbx1 hW e1 HE1
 generalize (⟨(raT 1 s).1.toArray⟩:BA)=lt at *
 generalize (⟨(raS (raT 1 s).2).1.toArray⟩:BA)=ct at *
 generalize (raT 1 s).2=s1 at *
 generalize (raS s1).2=s2 at *
 generalize (raR s).2.2=s3 at *
 generalize s.1.length=pl at *
 go_enter func141,ntmps141
 go_upto_region 1 with fail
 rw [<-HW.o]
 go_wp2_with fail
 refine HPL.o.mono ?_
 rintro _ _ ⟨rfl,rfl⟩
 go_wp2_with fail
 refine HTX.o.mono ?_
 rintro _ w1 ⟨rfl,hr1,ht1⟩
 have HR1:Hid (RA _ _ _ _ _):=hr1
 have HT1:Hid (Tch (λk=>k=b) W w1):=ht1
 have c1:w1.cell? ⟨w.heap.size,1,none⟩=some (.string ⟨#[]⟩):=Ja (HBX.o w1 ht1).1
 clear hr1 ht1 HTX HPL c0 b0
 go_wp2_with fail
 refine (HSZ.o w1 HT1.o HR1.o).mono ?_
 rintro _ w2 ⟨rfl,hr2,ht2⟩
 have HR2:Hid (RA _ _ _ _ _):=hr2
 have HT2:Hid (Tch (λk=>k=b) W w2):=HT1.o.trans ht2 (λ_ h=>.inl h)
 clear hr2 ht2 HSZ HR1 HT1 c1
 go_wp2_with fail
 refine (HSM.o w2 HT2.o HR2.o).mono ?_
 rintro _ w4 ⟨rfl,hr4,ht4⟩
 have HR4:Hid (RA _ _ _ _ _):=hr4
 have HT4:Hid (Tch (λk=>k=b) W w4):=HT2.o.trans ht4 (λ_ h=>.inl h)
 have rR:=(HBX.o w4 HT4.o).2
 have e0:w4.cell? ⟨w.heap.size+1,0,none⟩=some (.string ⟨#[]⟩):=Ja rR
 have e1:w4.cell? ⟨w.heap.size+1,1,none⟩=some (.string ⟨#[]⟩):=Ja rR
 have fR:∀j,w4.frozen? ⟨w.heap.size+1,j,none⟩=false:=λj=>Qg _ _ _ _ _ rR
 have RR:Hid (_=_):=rR
 clear hr4 ht4 HSM HR2 HT2 rR
 go_wp2
 rw [Jhu _ _ _ _ _ _ _ RR.out]
 have hne:¬w.heap.size+1=b:=by omega
 have tS:=Tch.setRow w4 (w.heap.size+1) #[.string lt,.string ct]
 refine QJ (v:=.agg #[.string lt,.string ct]) (Qq results141 _ _ (w.heap.size+1) _ _ (0,0) _ rfl (Qi _ _ _ _ _ _ RR.out) underlying195 rfl (by kernel_rfl)) rfl ⟨rfl,HR4.o.tch tS (λe=>hne e.symm) (λp s u hpl e=>?_),((HTW.o.mono noE).trans HT4.o (λ_ h=>.inl h)).trans tS (λj hj=>.inr (by omega))⟩
 rw [e,RR.out] at hpl
 simp at hpl
attribute [local irreducible] dgW raT raN
theorem JiD (q lt ct rest:List UInt8) (hl:lt.length=1) (hc:ct.length<65536):raR (q,recB lt ct++rest,true)=(lt,ct,(q++recB lt ct,rest,true)):=by
 have hs:(dgW 4 (recA lt ct)).data.toList.length=4:=by simpa using Jr 4 (by omega) (recA lt ct)
 have hb:(beL ct.length 2 2).length=2:=Je _ _ _
 have hn:numL (beL ct.length 2 2)=ct.length:=by rw [Jau ct.length 2 (by omega) 2 (Ql _)];simp
 have e0:recB lt ct++rest=lt++(beL ct.length 2 2++(ct++((dgW 4 (recA lt ct)).data.toList++rest))):=by unfold recB;simp only [recA,Qs]
 have t1:raT 1 (q,recB lt ct++rest,true)=(lt,(q++lt,beL ct.length 2 2++(ct++((dgW 4 (recA lt ct)).data.toList++rest)),true)):=by
  rw [e0]
  unfold raT
  dsimp only
  rw [if_pos ⟨rfl,by rw [Qe];omega⟩,<-hl,List.take_left,List.drop_left]
 have t2:raN 2 (q++lt,beL ct.length 2 2++(ct++((dgW 4 (recA lt ct)).data.toList++rest)),true)=(ct.length,(q++lt++beL ct.length 2 2,ct++((dgW 4 (recA lt ct)).data.toList++rest),true)):=by
  unfold raN
  dsimp only
  have ht:(beL ct.length 2 2++(ct++((dgW 4 (recA lt ct)).data.toList++rest))).take 2=beL ct.length 2 2:=List.take_left' hb
  have hd:(beL ct.length 2 2++(ct++((dgW 4 (recA lt ct)).data.toList++rest))).drop 2=ct++((dgW 4 (recA lt ct)).data.toList++rest):=List.drop_left' hb
  rw [if_pos ⟨rfl,by rw [Qe];omega⟩,ht,hd,hn]
 have t3:raS (q++lt,beL ct.length 2 2++(ct++((dgW 4 (recA lt ct)).data.toList++rest)),true)=(ct,(q++lt++beL ct.length 2 2++ct,(dgW 4 (recA lt ct)).data.toList++rest,true)):=by
  unfold raS
  rw [t2]
  unfold raT
  dsimp only
  rw [if_pos ⟨rfl,by rw [Qe];omega⟩,List.take_left,List.drop_left]
 have t4:raT 4 (q++lt++beL ct.length 2 2++ct,(dgW 4 (recA lt ct)).data.toList++rest,true)=((dgW 4 (recA lt ct)).data.toList,(q++lt++beL ct.length 2 2++ct++(dgW 4 (recA lt ct)).data.toList,rest,true)):=by
  unfold raT
  dsimp only
  have ht:((dgW 4 (recA lt ct)).data.toList++rest).take 4=(dgW 4 (recA lt ct)).data.toList:=List.take_left' hs
  have hd:((dgW 4 (recA lt ct)).data.toList++rest).drop 4=rest:=List.drop_left' hs
  rw [if_pos ⟨rfl,by rw [Qe];omega⟩,ht,hd]
 have e:(q++lt++beL ct.length 2 2++ct).drop q.length=recA lt ct:=by
  rw [show q++lt++beL ct.length 2 2++ct=q++recA lt ct by simp only [recA,Qs],List.drop_left]
 have hB:q++lt++beL ct.length 2 2++ct++(dgW 4 (recA lt ct)).data.toList=q++recB lt ct:=by simp only [recB,recA,Qs]
 have t5:raM q.length (q++lt++beL ct.length 2 2++ct,(dgW 4 (recA lt ct)).data.toList++rest,true)=(q++recB lt ct,rest,true):=by
  unfold raM
  rw [t4]
  refine (if_pos ?_).trans ?_
  ·exact congrArg (λz=>(dgW 4 z).data.toList) e.symm
  ·exact congrArg (λz=>(z,rest,true)) hB
 have e1:(raR (q,recB lt ct++rest,true))=((raT 1 (q,recB lt ct++rest,true)).1,(raS (raT 1 (q,recB lt ct++rest,true)).2).1,raM q.length (raS (raT 1 (q,recB lt ct++rest,true)).2).2):=rfl
 rw [e1,t1]
 show (lt,(raS (q++lt,beL ct.length 2 2++(ct++((dgW 4 (recA lt ct)).data.toList++rest)),true)).1,raM q.length (raS (q++lt,beL ct.length 2 2++(ct++((dgW 4 (recA lt ct)).data.toList++rest)),true)).2)=_
 rw [t3]
 show (lt,ct,raM q.length (q++lt++beL ct.length 2 2++ct,(dgW 4 (recA lt ct)).data.toList++rest,true))=_
 rw [t5]
theorem JeE (n:Nat) (q r:List UInt8):raT n (q,r,false)=([],(q,r,false)):=by simp [raT]
theorem JlE (n:Nat) (q r:List UInt8):raN n (q,r,false)=(0,(q,r,false)):=by simp [raN]
theorem JeD (k:Nat) (q r:List UInt8):(raM k (q,r,false)).2.2=false:=by
 unfold raM
 split <;> simp [JeE]
theorem JlG (q r:List UInt8):(raS (q,r,false)).2=(q,r,false):=by unfold raS;rw [JlE,JeE]
theorem JcO (q r lt ct:List UInt8) (hl:lt.length=1) (hc:ct.length<65536) (hp:r <+:recB lt ct) (hne:r.length<(recB lt ct).length):(raR (q,r,true)).2.2.2.2=false:=by
 have hs:(dgW 4 (recA lt ct)).data.toList.length=4:=by simpa using Jr 4 (by omega) (recA lt ct)
 have hb:(beL ct.length 2 2).length=2:=Je _ _ _
 have hn:numL (beL ct.length 2 2)=ct.length:=by rw [Jau ct.length 2 (by omega) 2 (Ql _)];simp
 obtain ⟨z,hz⟩:=hp
 have hR:recB lt ct=lt++(beL ct.length 2 2++(ct++(dgW 4 (recA lt ct)).data.toList)):=by unfold recB;simp only [recA,Qs]
 have hlen:(recB lt ct).length=7+ct.length:=by rw [hR];simp only [Qe];omega
 show (raM q.length (raS (raT 1 (q,r,true)).2).2).2.2=false
 by_cases h1:1<=r.length
 ·obtain ⟨r1,hr1⟩:∃r1,r=lt++r1:=⟨r.drop 1,by
   have:r.take 1=lt:=by
    have h:=congrArg (List.take 1) hz
    rw [List.take_append_of_le_length h1,hR,List.take_left' hl] at h
    exact h
   rw [<-this,List.take_append_drop]⟩
  subst hr1
  rw [Qs,hR,List.append_cancel_left_eq] at hz
  have t1:raT 1 (q,lt++r1,true)=(lt,(q++lt,r1,true)):=by
   unfold raT;dsimp only
   rw [if_pos ⟨rfl,h1⟩,<-hl,List.take_left,List.drop_left]
  rw [t1]
  dsimp only
  rw [Qe] at hne h1
  by_cases h2:2<=r1.length
  ·obtain ⟨r2,hr2⟩:∃r2,r1=beL ct.length 2 2++r2:=⟨r1.drop 2,by
    have:r1.take 2=beL ct.length 2 2:=by
     have h:=congrArg (List.take 2) hz
     rw [List.take_append_of_le_length h2,List.take_left' hb] at h
     exact h
    rw [<-this,List.take_append_drop]⟩
   subst hr2
   rw [Qs,List.append_cancel_left_eq] at hz
   have t2:raN 2 (q++lt,beL ct.length 2 2++r2,true)=(ct.length,(q++lt++beL ct.length 2 2,r2,true)):=by
    unfold raN;dsimp only
    have ht:(beL ct.length 2 2++r2).take 2=beL ct.length 2 2:=List.take_left' hb
    have hd:(beL ct.length 2 2++r2).drop 2=r2:=List.drop_left' hb
    rw [if_pos ⟨rfl,h2⟩,ht,hd,hn]
   unfold raS
   rw [t2]
   dsimp only
   rw [Qe] at hne h2
   by_cases h3:ct.length<=r2.length
   ·have t3:raT ct.length (q++lt++beL ct.length 2 2,r2,true)=(r2.take ct.length,(q++lt++beL ct.length 2 2++r2.take ct.length,r2.drop ct.length,true)):=by
     unfold raT;dsimp only
     rw [if_pos ⟨rfl,h3⟩]
    rw [t3]
    dsimp only
    unfold raM
    have t4:raT 4 (q++lt++beL ct.length 2 2++r2.take ct.length,r2.drop ct.length,true)=([],(q++lt++beL ct.length 2 2++r2.take ct.length,r2.drop ct.length,false)):=by
     unfold raT;dsimp only
     rw [if_neg (λe=>by have:=e.2;rw [List.length_drop] at this;omega)]
    rw [t4]
    split <;> rfl
   ·have t3:raT ct.length (q++lt++beL ct.length 2 2,r2,true)=([],(q++lt++beL ct.length 2 2,r2,false)):=by
     unfold raT;dsimp only
     rw [if_neg (λe=>h3 e.2)]
    rw [t3]
    exact JeD _ _ _
  ·have t2:raN 2 (q++lt,r1,true)=(0,(q++lt,r1,false)):=by
    unfold raN;dsimp only
    rw [if_neg (λe=>h2 e.2)]
   unfold raS
   rw [t2,JeE]
   exact JeD _ _ _
 ·have t1:raT 1 (q,r,true)=([],(q,r,false)):=by
   unfold raT;dsimp only
   rw [if_neg (λe=>h1 e.2)]
  rw [t1,JlG]
  exact JeD _ _ _
