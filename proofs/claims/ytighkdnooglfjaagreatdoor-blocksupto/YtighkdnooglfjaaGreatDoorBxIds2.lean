import Derived.Test.YtighkdnooglfjaaGreatDoorBxHdr2
namespace Go.Proofs.YtighkdnooglfjaaGreatDoor
open Tryz
set_option maxRecDepth 100000
set_option maxHeartbeats 1000000
open Go.RowKit

def RetS (E:Nat->Addr) (r:Option (List UInt8)) (e:Ending) (w':World):Prop:=match r with
 | some d=>e=.returned (.tuple #[.string ⟨d.toArray⟩,.nilIface])
 | none=>∃t u,e=.returned (.tuple #[.string ⟨#[]⟩,.iface t u])/\Jm E 7 w' (.iface t u)
theorem RetS.cases {E:Nat->Addr} {r:Option (List UInt8)} {e:Ending} {w':World} (h:RetS E r e w'):(∃d,r=some d/\e=.returned (.tuple #[.string ⟨d.toArray⟩,.nilIface]))\/(r=none/\∃t u,e=.returned (.tuple #[.string ⟨#[]⟩,.iface t u])/\Jm E 7 w' (.iface t u)):=by
 cases r with
 | none=>exact .inr ⟨rfl,h⟩
 | some d=>exact .inl ⟨d,rfl,h⟩
def ZH:Option PS->Option (List UInt8)
 | some (.wr d)=>some d
 | _=>none
def stWr (st:Option PS):Prop:=∀p,st=some p->∃d,p=.wr d
theorem ZZ {x k:Nat} {st:Option PS} (h:stWr st):stWr (JG x k st).2:=by
 intro p hp
 cases st with
 | none=>cases hp
 | some q=>
  obtain ⟨d,rfl⟩:=h q rfl
  cases hq:(PS.wr d).num x k with
  | none=>rw [JaH hq] at hp;cases hp
  | some r=>
   obtain ⟨m,p1⟩:=r
   rw [Xu hq] at hp
   cases hp
   simp only [PS.num] at hq
   split at hq
   ·cases hq;exact ⟨_,rfl⟩
   ·cases hq
theorem XS {s:List UInt8} {k:Nat} {st:Option PS} (h:stWr st):stWr (Jj s k st).2:=by
 intro p hp
 cases st with
 | none=>cases hp
 | some q=>
  obtain ⟨d,rfl⟩:=h q rfl
  cases hq:(PS.wr d).txt s k with
  | none=>rw [Yp hq] at hp;cases hp
  | some r=>
   obtain ⟨m,p1⟩:=r
   rw [JW hq] at hp
   cases hp
   simp only [PS.txt] at hq
   split at hq
   ·cases hq;exact ⟨_,rfl⟩
   ·cases hq
theorem JcX:stWr (some (.wr [])):=λp hp=>by cases hp;exact ⟨_,rfl⟩
theorem Zo:stWr none:=λp hp=>by cases hp
theorem Jh4 {wj:Nat} {c:BA×Int} {st:Option PS} (h:stWr st):stWr (Yo wj c st).2:=by
 unfold Yo
 dsimp only
 split
 ·exact Zo
 ·exact ZZ (XS h)
theorem JjT {wj:Nat} {h:HdL} {st:Option PS} (hw:stWr st):stWr (YZ wj h st).2:=XS (XS (XS (ZZ hw)))
theorem Zq (E:Nat->Addr) (b:Nat) (g:Option Nat) (wj:Int) (st:Option PS) (hw:stWr st) (w:World) (hp:Jh E w b g wj st):
  Calls prog 79 #[.pointer (some ⟨b,0,none⟩)] w λe w'=>Tch NoB w w'/\RetS E (ZH st) e w':=by
 refine (Jaa E b g wj st hw w hp).mono ?_
 rintro e w' ⟨h1,h2⟩
 refine ⟨h1,?_⟩
 cases st with
 | none=>exact h2
 | some p=>obtain ⟨d,rfl⟩:=hw p rfl;exact h2
theorem Xo {w w1 w2:World} {b:Nat} (hb:w.heap.size<=b) (h1:Tch NoB w w1) (h2:Tch (λk=>k=b\/some k=none) w1 w2):Tch NoB w w2:=
 h1.trans h2 (λj hj=>by
  rcases hj with rfl | hj
  ·exact .inr hb
  ·cases hj)
theorem Jby (E:Nat->Addr) (wj:Nat) (s:BA) (w:World) (hE:Env E w) (h1:1<=wj) (h32:wj<=32) (hs:s.size<=1000000000):
  Calls prog 130 #[.int .i64 (wj:Int),.string s] w λe w'=>e=.returned (.string (dgW wj s.data.toList))/\Tch NoB w w':=
 (Jjg wj s w h1 h32 (by omega) (Qk (by decide) hE.size) hE.table).mono λe w' ⟨k1,k2⟩=>⟨k1,(Tch.of_below k2).mono (λj hj=>.inr hj)⟩
theorem Jb8 (a:List UInt8) (d:List UInt8) (h:d.length<=1000000) (ha:a.length<=100):∃s:BA,s.size<=1000100/\s.data.toList=a++d/\∀W,(Op.stringOp .add (⟨a.toArray⟩:BA) ⟨d.toArray⟩).run prog W=.ok (.string s) W:=
 ⟨_,by rw [ByteArray.size_append];show a.toArray.size+d.toArray.size<=1000100;simp;omega,by simp,λW=>run_string_add_sum (P:=prog) W _ _ (by show a.toArray.size+d.toArray.size<=_;simp;omega)⟩

theorem Jf0 (E:Nat->Addr) (wj:Nat) (hw:wj<=1000) (c:BA×Int) (w:World) (hE:Env E w):
  Calls prog 145 #[.int .i64 (wj:Int),.agg #[.string c.1,.int .i64 c.2]] w λe w'=>Tch NoB w w'/\RetS E (ZH (Yo wj c (some (.wr []))).2) e w':=by
 have hs:=hE.size
 have HE:Hid (Env E w):=hE
 clear hE
 obtain ⟨s,N⟩:=c
 dsimp only
 go_enter func145,ntmps145
 go_wp2_with fail
 refine (Xc _ _).mono ?_
 rintro _ w1 ⟨rfl,hp1,ht1⟩
 have tA:Tch NoB w (w.alloc (.cells #[.string s,.int .i64 N] 49)):=Ta _ _ _
 have hb:(w.alloc (.cells #[.string s,.int .i64 N] 49)).heap.size=w.heap.size+1:=by simp
 rw [hb] at hp1
 rw [hb]
 have r0:w1.heap[w.heap.size]? =some (.cells #[.string s,.int .i64 N] 49):=(ht1.block _ (by omega) (λh=>h)).trans (Qf _ _)
 have d0:w1.cell? ⟨w.heap.size,0,none⟩=some (.string s):=Ja r0
 have d1:w1.cell? ⟨w.heap.size,1,none⟩=some (.int .i64 N):=Ja r0
 have HE1:Hid (Env E w1):=(HE.o.tch tA noE).tch ht1 noE
 have HP1:Hid (Jh E w1 (w.heap.size+1) none wj (some (.wr []))):=hp1
 have HT1:Hid (Tch NoB w w1):=tA.trans ht1 noE
 clear hp1 ht1 tA r0 hb
 have HC:Hid (∀k,Calls prog 203 _ (w1.drewN k) _):=λk=>JgK E (w.heap.size+1) (by omega) none wj (s,N) (some (.wr [])) (w1.drewN k) (HE1.o.tch (Td NoB w1 k) noE) (HP1.o.next (Td _ w1 k)) (by show 0+_<=_;omega)
 go_wp2_with fail
 go_region_with (go_at_call 203;refine (HC.o 1).mono ?_;rintro _ w2 ⟨rfl,g2,hp2,hm2,ht2⟩;have HP2:Hid _:=hp2;have HT2:Hid _:=ht2;clear hp2 hm2 ht2)
 all_goals
  have HR:Hid (Calls prog 79 _ w2 _):=Zq E (w.heap.size+1) g2 wj _ (Jh4 JcX) w2 HP2.o
  have HT3:Hid (Tch NoB w w2):=Xo (b:=w.heap.size+1) (by omega) (HT1.o.trans (Td NoB w1 1) noE) HT2.o
  clear HP1 HP2 HT1 HT2 d0 d1 HC HE1
  go_wp2_with fail
  refine HR.o.mono ?_
  rintro _ w3 ⟨ht3,hr⟩
  have HR3:Hid _:=hr
  have HT4:Hid _:=ht3
  clear ht3 HR
  rcases hr.cases with ⟨d,hd,rfl⟩ | ⟨hn,t,u,rfl,he⟩
  all_goals
   clear hr
   go_wp2
   go_ret2
   exact ⟨HT3.o.trans HT4.o noE,HR3.o⟩
theorem ZF (E:Nat->Addr) (wj:Nat) (hw:wj<=1000) (n:Nat) (s1 s2 s3:BA) (w:World) (hE:Env E w):
  Calls prog 84 #[.int .i64 (wj:Int),.agg #[.int .u64 (n:Int),.string s1,.string s2,.string s3]] w λe w'=>Tch NoB w w'/\RetS E (ZH (YZ wj (n,s1,s2,s3) (some (.wr []))).2) e w':=by
 have hs:=hE.size
 have HE:Hid (Env E w):=hE
 clear hE
 go_enter func84,ntmps84
 go_wp2_with fail
 refine (Xc _ _).mono ?_
 rintro _ w1 ⟨rfl,hp1,ht1⟩
 have tA:Tch NoB w (w.alloc (.cells #[.int .u64 (n:Int),.string s1,.string s2,.string s3] 167)):=Ta _ _ _
 have hb:(w.alloc (.cells #[.int .u64 (n:Int),.string s1,.string s2,.string s3] 167)).heap.size=w.heap.size+1:=by simp
 rw [hb] at hp1
 rw [hb]
 have r0:w1.heap[w.heap.size]? =some (.cells #[.int .u64 (n:Int),.string s1,.string s2,.string s3] 167):=(ht1.block _ (by omega) (λh=>h)).trans (Qf _ _)
 have d0:w1.cell? ⟨w.heap.size,0,none⟩=some (.int .u64 (n:Int)):=Ja r0
 have d1:w1.cell? ⟨w.heap.size,1,none⟩=some (.string s1):=Ja r0
 have d2:w1.cell? ⟨w.heap.size,2,none⟩=some (.string s2):=Ja r0
 have d3:w1.cell? ⟨w.heap.size,3,none⟩=some (.string s3):=Ja r0
 have HE1:Hid (Env E w1):=(HE.o.tch tA noE).tch ht1 noE
 have HP1:Hid (Jh E w1 (w.heap.size+1) none wj (some (.wr []))):=hp1
 have HT1:Hid (Tch NoB w w1):=tA.trans ht1 noE
 clear hp1 ht1 tA r0 hb
 have HC:Hid (∀k,Calls prog 86 _ (w1.drewN k) _):=λk=>Jhy E (w.heap.size+1) (by omega) none wj n s1 s2 s3 (some (.wr [])) (w1.drewN k) (HE1.o.tch (Td NoB w1 k) noE) (HP1.o.next (Td _ w1 k)) (by show 0+_<=_;omega)
 go_wp2_with fail
 go_region_with (go_at_call 86;refine (HC.o 1).mono ?_;rintro _ w2 ⟨rfl,g2,hp2,hm2,ht2⟩;have HP2:Hid _:=hp2;have HT2:Hid _:=ht2;clear hp2 hm2 ht2)
 all_goals
  have HR:Hid (Calls prog 79 _ w2 _):=Zq E (w.heap.size+1) g2 wj _ (JjT JcX) w2 HP2.o
  have HT3:Hid (Tch NoB w w2):=Xo (b:=w.heap.size+1) (by omega) (HT1.o.trans (Td NoB w1 1) noE) HT2.o
  clear HP1 HP2 HT1 HT2 d0 d1 d2 d3 HC HE1
  go_wp2_with fail
  refine HR.o.mono ?_
  rintro _ w3 ⟨ht3,hr⟩
  have HR3:Hid _:=hr
  have HT4:Hid _:=ht3
  clear ht3 HR
  rcases hr.cases with ⟨d,hd,rfl⟩ | ⟨hn,t,u,rfl,he⟩
  all_goals
   clear hr
   go_wp2
   go_ret2
   exact ⟨HT3.o.trans HT4.o noE,HR3.o⟩
theorem Xz (d:List UInt8) (v:Value):(PS.wr d).takes v:=λ_ _ h=>by cases h
theorem Jfz {α:Type} {r:Option (α×PS)} (h:∀a p,r=some (a,p)->∃d,p=.wr d):stWr (r.map (·.2)):=λp hp=>by
 cases r with
 | none=>cases hp
 | some q=>obtain ⟨a,p'⟩:=q;cases hp;exact h a p' rfl
theorem Jcb {d:List UInt8} {p:PS} (h:(PS.wr d).like p):∃d',p=.wr d':=by
 cases p with
 | rd q r=>cases h
 | wr d'=>exact ⟨d',rfl⟩
def outsB? (l:List (Nat×Nat)):Option (List UInt8):=ZH (((PS.wr []).listO 1 3 l).map (·.2))
def txB? (wj:Nat) (t:TxL):Option (List UInt8):=ZH (((PS.wr []).tx wj t).map (·.2))
def RetD (E:Nat->Addr) (r:Option BA) (e:Ending) (w':World):Prop:=match r with
 | some d=>e=.returned (.tuple #[.string d,.nilIface])
 | none=>∃t u,e=.returned (.tuple #[.string ⟨#[]⟩,.iface t u])/\Jm E 7 w' (.iface t u)

theorem JbK (E:Nat->Addr) (wj:Nat) (hw1:1<=wj) (hw:wj<=32) (v:Value) (l:List (Nat×Nat)) (w:World) (hE:Env E w) (h1:Jr w.heap.size w v l) (hl1:l.length<1000000) (ho:∀x∈l,x.2<256):
  Calls prog 125 #[.int .i64 (wj:Int),v] w λe w'=>Tch NoB w w'/\RetD E ((outsB? l).map λd=>dgW wj (71 :: d)) e w':=by
 have hs:=hE.size
 have HE:Hid (Env E w):=hE
 have H1:Hid (Jr _ _ _ _):=h1
 have HO:Hid (∀x∈l,x.2<256):=ho
 obtain ⟨ia,ic,hvs⟩:=h1.shape
 have hlen:∀d,outsB? l=some d->d.length<=100:=λd hd=>by
  unfold outsB? at hd
  cases hq:(PS.wr []).listO 1 3 l with
  | none=>rw [hq] at hd;cases hd
  | some r=>
   obtain ⟨ys,p2⟩:=r
   obtain ⟨k1,_,k2,k3⟩:=ZP h1 (Xz _ _) hq
   obtain ⟨d',rfl⟩:=Jcb k1
   rw [hq] at hd
   cases hd
   simp only [PS.len,Qv] at k3
   omega
 clear hE h1 ho
 subst hvs
 go_enter func125,ntmps125
 go_wp2_with fail
 refine (Xc _ _).mono ?_
 rintro _ w1 ⟨rfl,hp1,ht1⟩
 have HC:Hid (Calls prog 188 _ w1 _):=Jap E w.heap.size hs none wj _ l (.wr []) w1 (HE.o.tch ht1 noE) hp1 (H1.o.tch ht1 noE) hl1 (Xz _ _) HO.o (by show 0<=_;omega)
 have HT1:Hid _:=ht1
 clear hp1 ht1
 go_wp2_with fail
 refine HC.o.mono ?_
 intro e w2 h
 obtain ⟨x1,x2,x3,rfl⟩:=h.shape
 obtain ⟨g2,hp2,ht2⟩:∃g2,Jh E w2 w.heap.size g2 wj (((PS.wr []).listO 1 3 l).map (·.2))/\Tch (λk=>k=w.heap.size\/some k=none) w1 w2:=by
  cases hq:(PS.wr []).listO 1 3 l with
  | none=>
   rw [hq] at h
   obtain ⟨_,g',p',vv,k1,k2,_,k4⟩:=h
   obtain ⟨t,u,rfl⟩:=k2.iface
   exact ⟨g',⟨p',t,u,k1,k2⟩,k4⟩
  | some r=>
   obtain ⟨ys,p2⟩:=r
   rw [hq] at h
   obtain ⟨_,_,_,_,g',k1,_,_,k4⟩:=h
   exact ⟨g',k1,k4⟩
 have hwr:stWr (((PS.wr []).listO 1 3 l).map (·.2)):=Jfz λa p hq=>by
  obtain ⟨k1,_⟩:=ZP H1.o (Xz [] _) hq
  exact Jcb k1
 have HR:Hid (Calls prog 79 _ w2 _):=Zq E w.heap.size g2 wj _ hwr w2 hp2
 have HT3:Hid (Tch NoB w w2):=Xo (Ql _) HT1.o ht2
 clear h HC HT1 ht2 hp2 hwr
 go_wp2_with fail
 refine HR.o.mono ?_
 rintro _ w3 ⟨ht3,hr⟩
 have HT4:Hid (Tch NoB w w3):=HT3.o.trans ht3 noE
 clear ht3 HR
 rcases hr.cases with ⟨d,hd,rfl⟩ | ⟨hn,t,u,rfl,he⟩
 ·have HD:Hid (outsB? l=some d):=hd
  obtain ⟨s1,hs1,hs2,ha1⟩:=Jb8 [71] d (by have:=hlen d hd;omega) (by decide)
  have HOF:Hid (Calls prog 130 _ w3 _):=Jby E wj s1 w3 (HE.o.tch HT4.o noE) hw1 hw (by omega)
  have HS2:Hid (_=_):=hs2
  clear hr hd hlen hs2
  go_wp2_with fail
  refine HOF.o.mono ?_
  rintro _ w4 ⟨rfl,ht4⟩
  have HT5:Hid (Tch _ _ _):=ht4
  clear ht4 HOF
  go_wp2
  go_ret2
  refine ⟨HT4.o.trans HT5.o noE,?_⟩
  rw [HD.o,HS2.o]
  rfl
 ·have HN:Hid (outsB? l=none):=hn
  have HEE:Hid _:=he
  clear hr hn he hlen
  go_wp2
  go_ret2
  refine ⟨HT4.o,?_⟩
  rw [HN.o]
  exact ⟨t,u,rfl,HEE.o⟩

theorem Jle {b wj:Nat} {w:World} {x:Sl×Sl} {t:TxL} (hw:wj<=32) (hI:Jam b w (.wr []) x t) (d:List UInt8) (hd:txB? wj t=some d):d.length<=200:=by
 unfold txB? at hd
 cases hq:(PS.wr []).tx wj t with
 | none=>rw [hq] at hd;cases hd
 | some r=>
  obtain ⟨t',p2⟩:=r
  obtain ⟨k1,k2,_⟩:=JfE hw hI hq
  obtain ⟨d',rfl⟩:=Jcb k1
  rw [hq] at hd
  cases hd
  simpa [PS.len] using k2
theorem Jj5 (E:Nat->Addr) (wj:Nat) (hw1:1<=wj) (hw:wj<=32) (x:Sl×Sl) (t:TxL) (w:World) (hE:Env E w) (h1:Jz w.heap.size w (.slice x.1.1 x.1.2.1 x.1.2.2) t.1) (h2:Jr w.heap.size w (.slice x.2.1 x.2.2.1 x.2.2.2) t.2) (hl1:t.1.length<1000000) (hl2:t.2.length<1000000) (ho:∀x∈t.2,x.2<256):
  Calls prog 206 #[.int .i64 (wj:Int),.agg #[.slice x.1.1 x.1.2.1 x.1.2.2,.slice x.2.1 x.2.2.1 x.2.2.2]] w λe w'=>Tch NoB w w'/\RetD E ((txB? wj t).map λd=>dgW wj (84 :: d)) e w':=by
 have hs:=hE.size
 have HE:Hid (Env E w):=hE
 obtain ⟨⟨a1,n1,c1⟩,a2,n2,c2⟩:=x
 dsimp only at h1 h2 ⊢
 have HI:Hid (∀wA,Tch NoB w wA->Jam (w.heap.size+1) wA (.wr []) ((a1,n1,c1),(a2,n2,c2)) t):=λwA hT=>⟨(h1.tch hT noE).up (by omega),(h2.tch hT noE).up (by omega),hl1,hl2,Xz _ _,Xz _ _,ho⟩
 clear hE h1 h2 ho
 go_enter func206,ntmps206
 go_wp2_with fail
 refine (Xc _ _).mono ?_
 rintro _ w1 ⟨rfl,hp1,ht1⟩
 have tA:Tch NoB w (w.alloc (.cells #[.slice a1 n1 c1,.slice a2 n2 c2] 98)):=Ta _ _ _
 have hb:(w.alloc (.cells #[.slice a1 n1 c1,.slice a2 n2 c2] 98)).heap.size=w.heap.size+1:=by simp
 rw [hb] at hp1
 rw [hb]
 have r0:w1.heap[w.heap.size]? =some (.cells #[.slice a1 n1 c1,.slice a2 n2 c2] 98):=(ht1.block _ (by omega) (λh=>h)).trans (Qf _ _)
 have d0:w1.cell? ⟨w.heap.size,0,none⟩=some (.slice a1 n1 c1):=Ja r0
 have d1:w1.cell? ⟨w.heap.size,1,none⟩=some (.slice a2 n2 c2):=Ja r0
 have HT1:Hid (Tch NoB w w1.drew):=(tA.trans ht1 noE).trans (Td NoB w1 1) noE
 have HC:Hid (Calls prog 134 _ w1.drew _):=Jj6 E (w.heap.size+1) (by omega) none wj hw ((a1,n1,c1),(a2,n2,c2)) t (.wr []) w1.drew (HE.o.tch HT1.o noE) (hp1.tch (Td NoB w1 1) (λh=>h) (λ_ _ h=>h)) (HI.o _ HT1.o) (by show 0<=_;omega)
 have hlen:∀d,txB? wj t=some d->d.length<=200:=Jle hw (HI.o _ HT1.o)
 have HWR:Hid (stWr (((PS.wr []).tx wj t).map (·.2))):=Jfz λa p hq=>Jcb (Jg7 hq)
 clear hp1 ht1 tA r0 hb
 go_wp2_with fail
 go_region_with (go_at_call 134;refine HC.o.mono ?_;rintro _ w2 ⟨⟨⟨y1,y2,y3⟩,z1,z2,z3⟩,g2,rfl,hp2,hm2,ht2,_⟩;have HP2:Hid _:=hp2;have HT2:Hid _:=ht2;clear hp2 hm2 ht2)
 all_goals
  have HR:Hid (Calls prog 79 _ w2 _):=Zq E (w.heap.size+1) g2 wj _ HWR.o w2 HP2.o
  have HT3:Hid (Tch NoB w w2):=Xo (b:=w.heap.size+1) (by omega) HT1.o HT2.o
  clear HP2 HT1 HT2 d0 d1 HC HI
  go_wp2_with fail
  refine HR.o.mono ?_
  rintro _ w3 ⟨ht3,hr⟩
  have HT4:Hid (Tch NoB w w3):=HT3.o.trans ht3 noE
  clear ht3 HR
  rcases hr.cases with ⟨d,hd,rfl⟩ | ⟨hn,t',u,rfl,he⟩
  ·have HD:Hid (txB? wj t=some d):=hd
   obtain ⟨s1,hs1,hs2,ha1⟩:=Jb8 [84] d (by have:=hlen d hd;omega) (by decide)
   have HOF:Hid (Calls prog 130 _ w3 _):=Jby E wj s1 w3 (HE.o.tch HT4.o noE) hw1 hw (by omega)
   have HS2:Hid (_=_):=hs2
   clear hr hd hlen hs2
   go_wp2_with fail
   refine HOF.o.mono ?_
   rintro _ w4 ⟨rfl,ht4⟩
   have HT5:Hid (Tch _ _ _):=ht4
   clear ht4 HOF
   go_wp2
   go_ret2
   refine ⟨HT4.o.trans HT5.o noE,?_⟩
   rw [HD.o,HS2.o]
   rfl
  ·have HN:Hid (txB? wj t=none):=hn
   have HEE:Hid _:=he
   clear hr hn he hlen
   go_wp2
   go_ret2
   refine ⟨HT4.o,?_⟩
   rw [HN.o]
   exact ⟨t',u,rfl,HEE.o⟩
