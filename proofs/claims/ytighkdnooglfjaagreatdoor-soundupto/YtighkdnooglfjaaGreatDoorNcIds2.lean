import Derived.Test.YtighkdnooglfjaaGreatDoorNcTxS
import Derived.Test.YtighkdnooglfjaaGreatDoorNcDgW
namespace Go.Proofs.YtighkdnooglfjaaGreatDoor
open Tryz
set_option maxRecDepth 100000
set_option maxHeartbeats 1000000
open Go.RowKit

def RetS (E:Nat->Addr) (r:Option (List UInt8)) (e:Ending) (w':World):Prop:=match r with
 | some d=>e=.returned (.tuple #[.string ⟨d.toArray⟩,.nilIface])
 | none=>∃t u,e=.returned (.tuple #[.string ⟨#[]⟩,.iface t u])/\Jl E 7 w' (.iface t u)
theorem RetS.cases {E:Nat->Addr} {r:Option (List UInt8)} {e:Ending} {w':World} (h:RetS E r e w'):(∃d,r=some d/\e=.returned (.tuple #[.string ⟨d.toArray⟩,.nilIface]))\/(r=none/\∃t u,e=.returned (.tuple #[.string ⟨#[]⟩,.iface t u])/\Jl E 7 w' (.iface t u)):=by
 cases r with
 | none=>exact .inr ⟨rfl,h⟩
 | some d=>exact .inl ⟨d,rfl,h⟩
def ZT:Option PS->Option (List UInt8)
 | some (⟨.inr d⟩)=>some d
 | _=>none
def stWr (st:Option PS):Prop:=∀p,st=some p->∃d,p=.wr d
theorem Jai {x k:Nat} {st:Option PS} (h:stWr st):stWr (Jz x k st).2:=by
 intro p hp
 cases st with
 | none=>cases hp
 | some q=>
  obtain ⟨d,rfl⟩:=h q rfl
  cases hq:(PS.wr d).num x k with
  | none=>rw [YV hq] at hp;cases hp
  | some r=>
   obtain ⟨m,p1⟩:=r
   rw [JL hq] at hp
   cases hp
   simp only [PS.num] at hq
   split at hq
   ·cases hq;exact ⟨_,rfl⟩
   ·cases hq
theorem XU {s:List UInt8} {k:Nat} {st:Option PS} (h:stWr st):stWr (Ji s k st).2:=by
 intro p hp
 cases st with
 | none=>cases hp
 | some q=>
  obtain ⟨d,rfl⟩:=h q rfl
  cases hq:(PS.wr d).txt s k with
  | none=>rw [XF hq] at hp;cases hp
  | some r=>
   obtain ⟨m,p1⟩:=r
   rw [JF hq] at hp
   cases hp
   simp only [PS.txt] at hq
   split at hq
   ·cases hq;exact ⟨_,rfl⟩
   ·cases hq
theorem JcH:stWr (some (.wr [])):=λp hp=>by cases hp;exact ⟨_,rfl⟩
theorem Zv:stWr none:=λp hp=>by cases hp
theorem Jif {wd:Nat} {c:BA×Int} {st:Option PS} (h:stWr st):stWr (Yq wd c st).2:=by
 unfold Yq
 dsimp only
 split
 ·exact Zv
 ·exact Jai (XU h)
theorem JjY {wd:Nat} {h:HdL} {st:Option PS} (hw:stWr st):stWr (Zf wd h st).2:=XU (XU (XU (Jai hw)))
theorem Zy (E:Nat->Addr) (b:Nat) (g:Option Nat) (wd:Int) (st:Option PS) (hw:stWr st) (w:World) (hp:Je E w b g wd st):
  Calls prog 79 #[.pointer (some ⟨b,0,none⟩)] w λe w'=>Tch NoB w w'/\RetS E (ZT st) e w':=by
 refine (Jak E b g wd st hw w hp).mono ?_
 rintro e w' ⟨h1,h2⟩
 refine ⟨h1,?_⟩
 cases st with
 | none=>exact h2
 | some p=>obtain ⟨d,rfl⟩:=hw p rfl;exact h2
theorem Xz {w w1 w2:World} {b:Nat} (hb:w.heap.size<=b) (h1:Tch NoB w w1) (h2:Tch (λk=>k=b\/some k=none) w1 w2):Tch NoB w w2:=
 h1.trans h2 (λj hj=>by
  rcases hj with rfl | hj
  ·exact .inr hb
  ·cases hj)
theorem ZG (E:Nat->Addr) (wd:Nat) (s:BA) (w:World) (hE:Env E w) (h1:1<=wd) (h32:wd<=32) (hs:s.size<=1000000000):
  Calls prog 130 #[.int .i64 (wd:Int),.string s] w λe w'=>e=.returned (.string (dgW wd s.data.toList))/\Tch NoB w w':=
 (JjF wd s w h1 h32 (by omega) (Qk (by decide) hE.size) hE.table).mono λe w' ⟨k1,k2⟩=>⟨k1,(Tch.of_below k2).mono (λj hj=>.inr hj)⟩
theorem JbY (a:List UInt8) (d:List UInt8) (h:d.length<=1000000) (ha:a.length<=100):∃s:BA,s.size<=1000100/\s.data.toList=a++d/\∀W,(Op.stringOp .add (⟨a.toArray⟩:BA) ⟨d.toArray⟩).run prog W=.ok (.string s) W:=
 ⟨_,by rw [ByteArray.size_append];show a.toArray.size+d.toArray.size<=1000100;simp;omega,by simp,λW=>run_string_add_sum (P:=prog) W _ _ (by show a.toArray.size+d.toArray.size<=_;simp;omega)⟩

theorem Jf1 (E:Nat->Addr) (wd:Nat) (hw:wd<=1000) (c:BA×Int) (w:World) (hE:Env E w):
  Calls prog 145 #[.int .i64 (wd:Int),.agg #[.string c.1,.int .i64 c.2]] w λe w'=>Tch NoB w w'/\RetS E (ZT (Yq wd c (some (.wr []))).2) e w':=by
 have hs:=hE.size
 have HE:Hid _:=hE
 obtain ⟨s,N⟩:=c
 dsimp only
 go_enter func145,ntmps145
 go_wp2_with fail
 refine (Xb _ _).mono ?_
 rintro _ w1 ⟨rfl,hp1,ht1⟩
 have tA:Tch NoB w (w.alloc (.cells #[.string s,.int .i64 N] 49)):=Ta _ _ _
 have hb:(w.alloc (.cells #[.string s,.int .i64 N] 49)).heap.size=w.heap.size+1:=by simp
 rw [hb] at hp1
 rw [hb]
 have r0:=(ht1.block _ (by omega) (λh=>h)).trans (Qf _ _)
 obtain ⟨d0,d1⟩:=rows r0
 have HE1:Hid (Env E w1):=(HE.tch tA noE).tch ht1 noE
 have HP1:Hid (Je E w1 (w.heap.size+1) none wd (some (.wr []))):=hp1
 have HT1:Hid _:=tA.trans ht1 noE
 have HC:Hid (∀k,Calls prog 203 _ (w1.drewN k) _):=λk=>JgN E (w.heap.size+1) (by omega) none wd (s,N) (some (.wr [])) (w1.drewN k) (HE1.o.tch (Td NoB w1 k) noE) (HP1.o.next (Td _ w1 k)) (by show 0+_<=_;omega)
 go_wp2_with fail
 go_region_with (go_at_call 203;refine (HC 1).mono ?_;rintro _ w2 ⟨rfl,g2,(HP2:Hid _),hm2,(HT2:Hid _)⟩;clear hm2)
 all_goals
  have HR:Hid (Calls prog 79 _ w2 _):=Zy E (w.heap.size+1) g2 wd _ (Jif JcH) w2 HP2.o
  have HT3:Hid _:=Xz (b:=w.heap.size+1) (by omega) (HT1.trans (Td NoB w1 1) noE) HT2.o
  go_wp2_with fail
  refine HR.o.mono ?_
  rintro _ w3 ⟨ht3,hr⟩
  have HR3:Hid _:=hr
  have HT4:Hid _:=ht3
  rcases hr.cases with ⟨d,hd,rfl⟩ | ⟨hn,t,u,rfl,he⟩
  all_goals
   go_wp2
   go_ret2
   exact ⟨HT3.trans HT4 noE,HR3⟩
theorem ZN (E:Nat->Addr) (wd:Nat) (hw:wd<=1000) (n:Nat) (s1 s2 s3:BA) (w:World) (hE:Env E w):
  Calls prog 84 #[.int .i64 (wd:Int),.agg #[.int .u64 (n:Int),.string s1,.string s2,.string s3]] w λe w'=>Tch NoB w w'/\RetS E (ZT (Zf wd (n,s1,s2,s3) (some (.wr []))).2) e w':=by
 have hs:=hE.size
 have HE:Hid _:=hE
 go_enter func84,ntmps84
 go_wp2_with fail
 refine (Xb _ _).mono ?_
 rintro _ w1 ⟨rfl,hp1,ht1⟩
 have tA:Tch NoB w (w.alloc (.cells #[.int .u64 (n:Int),.string s1,.string s2,.string s3] 167)):=Ta _ _ _
 have hb:(w.alloc (.cells #[.int .u64 (n:Int),.string s1,.string s2,.string s3] 167)).heap.size=w.heap.size+1:=by simp
 rw [hb] at hp1
 rw [hb]
 have r0:=(ht1.block _ (by omega) (λh=>h)).trans (Qf _ _)
 obtain ⟨d0,d1,d2,d3⟩:=rows r0
 have HE1:Hid (Env E w1):=(HE.tch tA noE).tch ht1 noE
 have HP1:Hid (Je E w1 (w.heap.size+1) none wd (some (.wr []))):=hp1
 have HT1:Hid _:=tA.trans ht1 noE
 have HC:Hid (∀k,Calls prog 86 _ (w1.drewN k) _):=λk=>Jhz E (w.heap.size+1) (by omega) none wd n s1 s2 s3 (some (.wr [])) (w1.drewN k) (HE1.o.tch (Td NoB w1 k) noE) (HP1.o.next (Td _ w1 k)) (by show 0+_<=_;omega)
 go_wp2_with fail
 go_region_with (go_at_call 86;refine (HC 1).mono ?_;rintro _ w2 ⟨rfl,g2,(HP2:Hid _),hm2,(HT2:Hid _)⟩;clear hm2)
 all_goals
  have HR:Hid (Calls prog 79 _ w2 _):=Zy E (w.heap.size+1) g2 wd _ (JjY JcH) w2 HP2.o
  have HT3:Hid _:=Xz (b:=w.heap.size+1) (by omega) (HT1.trans (Td NoB w1 1) noE) HT2.o
  go_wp2_with fail
  refine HR.o.mono ?_
  rintro _ w3 ⟨ht3,hr⟩
  have HR3:Hid _:=hr
  have HT4:Hid _:=ht3
  rcases hr.cases with ⟨d,hd,rfl⟩ | ⟨hn,t,u,rfl,he⟩
  all_goals
   go_wp2
   go_ret2
   exact ⟨HT3.trans HT4 noE,HR3⟩
theorem Yh (d:List UInt8) (v:Value):(PS.wr d).takes v:=λ_ _ h=>by cases h
theorem Jft {α:Type} {r:Option (α×PS)} (h:∀a p,r=some (a,p)->∃d,p=.wr d):stWr (r.map (·.2)):=λp hp=>by
 cases r with
 | none=>cases hp
 | some q=>obtain ⟨a,p'⟩:=q;cases hp;exact h a p' rfl
theorem Jb2 {d:List UInt8} {p:PS} (h:(PS.wr d).like p):∃d',p=.wr d':=by
 cases p using PS.on with
 | rd q r=>cases h
 | wr d'=>exact ⟨d',rfl⟩
def outsB? (l:List (Nat×Nat)):Option (List UInt8):=ZT (((PS.wr []).listO 1 3 l).map (·.2))
def txB? (wd:Nat) (t:TxL):Option (List UInt8):=ZT (((PS.wr []).tx wd t).map (·.2))
def RetD (E:Nat->Addr) (r:Option BA) (e:Ending) (w':World):Prop:=match r with
 | some d=>e=.returned (.tuple #[.string d,.nilIface])
 | none=>∃t u,e=.returned (.tuple #[.string ⟨#[]⟩,.iface t u])/\Jl E 7 w' (.iface t u)

theorem JeS (E:Nat->Addr) (wd:Nat) (hw1:1<=wd) (hw:wd<=32) (v:Value) (l:List (Nat×Nat)) (w:World) (hE:Env E w) (h1:Jo w.heap.size w v l) (hl1:l.length<1000000) (ho:∀x∈l,x.2<256):
  Calls prog 125 #[.int .i64 (wd:Int),v] w λe w'=>Tch NoB w w'/\RetD E ((outsB? l).map λd=>dgW wd (71 :: d)) e w':=by
 have hs:=hE.size
 have HE:Hid (Env E w):=hE
 have H1:Hid (Jo _ _ _ _):=h1
 have HO:Hid (∀x∈l,x.2<256):=ho
 obtain ⟨ia,ic,hvs⟩:=h1.shape
 have hlen:∀d,outsB? l=some d->d.length<=100:=λd hd=>by
  unfold outsB? at hd
  cases hq:(PS.wr []).listO 1 3 l with
  | none=>rw [hq] at hd;cases hd
  | some r=>
   obtain ⟨ys,p2⟩:=r
   obtain ⟨k1,_,k2,k3⟩:=Jaa h1 (Yh _ _) hq
   obtain ⟨d',rfl⟩:=Jb2 k1
   rw [hq] at hd
   cases hd
   simp only [PS.len,Qv] at k3
   omega
 subst hvs
 go_enter func125,ntmps125
 go_wp2_with fail
 refine (Xb _ _).mono ?_
 rintro _ w1 ⟨rfl,hp1,ht1⟩
 have HC:Hid (Calls prog 188 _ w1 _):=JaA E w.heap.size hs none wd _ l (.wr []) w1 (HE.o.tch ht1 noE) hp1 (H1.o.tch ht1 noE) hl1 (Yh _ _) HO.o (by show 0<=_;omega)
 have HT1:Hid _:=ht1
 go_wp2_with fail
 refine HC.mono ?_
 intro e w2 h
 obtain ⟨x1,x2,x3,rfl⟩:=h.shape
 obtain ⟨g2,hp2,ht2⟩:∃g2,Je E w2 w.heap.size g2 wd (((PS.wr []).listO 1 3 l).map (·.2))/\Tch (λk=>k=w.heap.size\/some k=none) w1 w2:=by
  cases hq:(PS.wr []).listO 1 3 l with
  | none=>
   rw [hq] at h
   obtain ⟨_,g',p',vv,k1,k2,_,k4⟩:=h
   obtain ⟨t,u,rfl⟩:=k2.iface
   exact ⟨g',⟨p',t,u,k1,k2⟩,k4⟩
  | some r=>
   obtain ⟨ys,p2⟩:=r
   rw [hq] at h
   obtain ⟨_,_,_,_,g',k1,_,_,k4⟩:=h
   exact ⟨g',k1,k4⟩
 have hwr:stWr (((PS.wr []).listO 1 3 l).map (·.2)):=Jft λa p hq=>by
  obtain ⟨k1,_⟩:=Jaa H1.o (Yh [] _) hq
  exact Jb2 k1
 have HR:Hid (Calls prog 79 _ w2 _):=Zy E w.heap.size g2 wd _ hwr w2 hp2
 have HT3:Hid _:=Xz (Ql _) HT1 ht2
 go_wp2_with fail
 refine HR.o.mono ?_
 rintro _ w3 ⟨ht3,hr⟩
 have HT4:Hid _:=HT3.trans ht3 noE
 rcases hr.cases with ⟨d,hd,rfl⟩ | ⟨hn,t,u,rfl,(HEE:Hid _)⟩
 ·have HD:Hid (outsB? l=some d):=hd
  obtain ⟨s1,hs1,hs2,ha1⟩:=JbY [71] d (by have:=hlen d hd;omega) (by decide)
  have HOF:Hid (Calls prog 130 _ w3 _):=ZG E wd s1 w3 (HE.tch HT4 noE) hw1 hw (by omega)
  have HS2:Hid _:=hs2
  clear hr hd hlen hs2
  go_wp2_with fail
  refine HOF.o.mono ?_
  rintro _ w4 ⟨rfl,ht4⟩
  have HT5:Hid _:=ht4
  go_wp2
  go_ret2
  refine ⟨HT4.trans HT5 noE,?_⟩
  rw [HD.o,HS2.o]
  rfl
 ·have HN:Hid (outsB? l=none):=hn
  clear hr hn hlen
  go_wp2
  go_ret2
  refine ⟨HT4,?_⟩
  rw [HN.o]
  exact ⟨t,u,rfl,HEE⟩

theorem Jld {b wd:Nat} {w:World} {x:Sl×Sl} {t:TxL} (hw:wd<=32) (hI:Jax b w (.wr []) x t) (d:List UInt8) (hd:txB? wd t=some d):d.length<=200:=by
 unfold txB? at hd
 cases hq:(PS.wr []).tx wd t with
 | none=>rw [hq] at hd;cases hd
 | some r=>
  obtain ⟨t',p2⟩:=r
  obtain ⟨k1,k2,_⟩:=JfC hw hI hq
  obtain ⟨d',rfl⟩:=Jb2 k1
  rw [hq] at hd
  cases hd
  simpa [PS.len] using k2
theorem Jkc (E:Nat->Addr) (wd:Nat) (hw1:1<=wd) (hw:wd<=32) (x:Sl×Sl) (t:TxL) (w:World) (hE:Env E w) (h1:Jy w.heap.size w (.slice x.1.1 x.1.2.1 x.1.2.2) t.1) (h2:Jo w.heap.size w (.slice x.2.1 x.2.2.1 x.2.2.2) t.2) (hl1:t.1.length<1000000) (hl2:t.2.length<1000000) (ho:∀x∈t.2,x.2<256):
  Calls prog 206 #[.int .i64 (wd:Int),.agg #[.slice x.1.1 x.1.2.1 x.1.2.2,.slice x.2.1 x.2.2.1 x.2.2.2]] w λe w'=>Tch NoB w w'/\RetD E ((txB? wd t).map λd=>dgW wd (84 :: d)) e w':=by
 have hs:=hE.size
 have HE:Hid _:=hE
 obtain ⟨⟨a1,n1,c1⟩,a2,n2,c2⟩:=x
 dsimp only at h1 h2 ⊢
 have HI:Hid (∀wA,Tch NoB w wA->Jax (w.heap.size+1) wA (.wr []) ((a1,n1,c1),(a2,n2,c2)) t):=λwA hT=>⟨(h1.tch hT noE).up (by omega),(h2.tch hT noE).up (by omega),hl1,hl2,Yh _ _,Yh _ _,ho⟩
 go_enter func206,ntmps206
 go_wp2_with fail
 refine (Xb _ _).mono ?_
 rintro _ w1 ⟨rfl,hp1,ht1⟩
 have tA:Tch NoB w (w.alloc (.cells #[.slice a1 n1 c1,.slice a2 n2 c2] 98)):=Ta _ _ _
 have hb:(w.alloc (.cells #[.slice a1 n1 c1,.slice a2 n2 c2] 98)).heap.size=w.heap.size+1:=by simp
 rw [hb] at hp1
 rw [hb]
 have r0:=(ht1.block _ (by omega) (λh=>h)).trans (Qf _ _)
 obtain ⟨d0,d1⟩:=rows r0
 have HT1:Hid _:=(tA.trans ht1 noE).trans (Td NoB w1 1) noE
 have HC:Hid (Calls prog 134 _ w1.drew _):=Jkd E (w.heap.size+1) (by omega) none wd hw ((a1,n1,c1),(a2,n2,c2)) t (.wr []) w1.drew (HE.tch HT1 noE) (hp1.tch (Td NoB w1 1) (λh=>h) (λ_ _ h=>h)) (HI _ HT1) (by show 0<=_;omega)
 have hlen:=Jld hw (HI _ HT1)
 have HWR:Hid (stWr (((PS.wr []).tx wd t).map (·.2))):=Jft λa p hq=>Jb2 (Jg6 hq)
 go_wp2_with fail
 go_region_with (go_at_call 134;refine HC.o.mono ?_;rintro _ w2 ⟨⟨⟨y1,y2,y3⟩,z1,z2,z3⟩,g2,rfl,hp2,hm2,ht2,_⟩;have HP2:Hid (Je _ _ _ _ _ _):=hp2;have HT2:Hid (Tch _ _ w2):=ht2)
 all_goals
  have HR:Hid (Calls prog 79 _ w2 _):=Zy E (w.heap.size+1) g2 wd _ HWR w2 HP2.o
  have HT3:Hid _:=Xz (b:=w.heap.size+1) (by omega) HT1 HT2.o
  go_wp2_with fail
  refine HR.mono ?_
  rintro _ w3 ⟨ht3,hr⟩
  have HT4:Hid _:=HT3.trans ht3 noE
  rcases hr.cases with ⟨d,hd,rfl⟩ | ⟨hn,t',u,rfl,(HEE:Hid _)⟩
  ·have HD:Hid (txB? wd t=some d):=hd
   obtain ⟨s1,hs1,hs2,ha1⟩:=JbY [84] d (by have:=hlen d hd;omega) (by decide)
   have HOF:Hid (Calls prog 130 _ w3 _):=ZG E wd s1 w3 (HE.tch HT4 noE) hw1 hw (by omega)
   have HS2:Hid _:=hs2
   clear hr hd hlen hs2
   go_wp2_with fail
   refine HOF.o.mono ?_
   rintro _ w4 ⟨rfl,ht4⟩
   have HT5:Hid _:=ht4
   go_wp2
   go_ret2
   refine ⟨HT4.trans HT5 noE,?_⟩
   rw [HD.o,HS2.o]
   rfl
  ·have HN:Hid (txB? wd t=none):=hn
   clear hr hn hlen
   go_wp2
   go_ret2
   refine ⟨HT4,?_⟩
   rw [HN.o]
   exact ⟨t',u,rfl,HEE⟩

def stO (o:Nat×Nat) (st:Option PS):(Nat×Nat)×Option PS:=(((Jz o.1 8 st).1,(Jz o.2 1 (Jz o.1 8 st).2).1),(Jz o.2 1 (Jz o.1 8 st).2).2)
def Yk (wd:Nat) (k:List UInt8) (st:Option PS):List UInt8×Option PS:=
 ((Ji k (wd+1) st).1,match (Ji k (wd+1) st).2 with
  | none=>none
  | some p=>if 3<=((Ji k (wd+1) st).1.getD wd 0).toNat then none else some p)
def Yd (wd:Nat) (b:Int) (st:Option PS):Nat×Option PS:=((Jz (JC b) 2 st).1,if 8 * (wd+1)<=(Jz (JC b) 2 st).1 then none else (Jz (JC b) 2 st).2)
def Jt (wd:Nat) (k:BA) (o:Nat×Nat) (st:Option PS):(List UInt8×(Nat×Nat))×Option PS:=(((Yk wd k.data.toList st).1,(stO o (Yk wd k.data.toList st).2).1),(stO o (Yk wd k.data.toList st).2).2)
def stBr (wd:Nat) (b:Int) (x y:BA) (st:Option PS):(Nat×List UInt8×List UInt8)×Option PS:=
 (((Yd wd b st).1,(Ji x.data.toList wd (Yd wd b st).2).1,(Ji y.data.toList wd (Ji x.data.toList wd (Yd wd b st).2).2).1),(Ji y.data.toList wd (Ji x.data.toList wd (Yd wd b st).2).2).2)
theorem Jeg (s:List UInt8) (k:Nat) (st:Option PS) (p:PS) (h:(Ji s k st).2=some p):(Ji s k st).1.length=k:=by
 cases st with
 | none=>cases h
 | some q=>
  cases hq:q.txt s k with
  | none=>rw [XF hq] at h;cases h
  | some r=>
   obtain ⟨t,p1⟩:=r
   rw [JF hq]
   cases q using PS.on with
   | rd a c=>
    simp only [PS.txt] at hq
    split at hq
    ·cases hq;simp;omega
    ·cases hq
   | wr d=>
    simp only [PS.txt] at hq
    split at hq
    ·cases hq;assumption
    ·cases hq
theorem Jig (wd:Nat) (k:List UInt8) (st:Option PS):JK (Yk wd k st).2<=JK st+(wd+1):=by
 have:=XZ k (wd+1) st
 unfold Yk
 dsimp only
 cases h:(Ji k (wd+1) st).2 with
 | none=>simp [JK]
 | some p=>
  rw [h] at this
  dsimp only
  split
  ·simp [JK]
  ·exact this
theorem JdA (wd:Nat) (b:Int) (st:Option PS):JK (Yd wd b st).2<=JK st+2:=by
 have:=Jaw (JC b) 2 st
 unfold Yd
 dsimp only
 split
 ·simp [JK]
 ·exact this
theorem JjZ {wd:Nat} {k:List UInt8} {st:Option PS} (h:stWr st):stWr (Yk wd k st).2:=by
 have h1:=XU (s:=k) (k:=wd+1) h
 unfold Yk
 dsimp only
 cases h2:(Ji k (wd+1) st).2 with
 | none=>exact Zv
 | some p=>
  rw [h2] at h1
  dsimp only
  split
  ·exact Zv
  ·exact h1
theorem JjX {wd:Nat} {b:Int} {st:Option PS} (h:stWr st):stWr (Yd wd b st).2:=by
 unfold Yd
 dsimp only
 split
 ·exact Zv
 ·exact Jai h
theorem Jl2 {o:Nat×Nat} {st:Option PS} (h:stWr st):stWr (stO o st).2:=Jai (Jai h)
theorem Jih {wd:Nat} {k:BA} {o:Nat×Nat} {st:Option PS} (h:stWr st):stWr (Jt wd k o st).2:=Jl2 (JjZ h)
theorem Jk4 {wd:Nat} {b:Int} {x y:BA} {st:Option PS} (h:stWr st):stWr (stBr wd b x y st).2:=XU (XU (JjX h))
theorem StTo.alloc {E:Nat->Addr} {w w2:World} {b:Nat} {g:Option Nat} {wd:Int} {st:Option PS} (h:StTo E w w2 b g wd st) (o:Obj):StTo E w (w2.alloc o) b g wd st:=by
 obtain ⟨g',h1,h2,h3⟩:=h
 exact ⟨g',h1.next (Ta _ _ _),h2,h3.trans (Ta NoB _ _) noE⟩
theorem set3 (w:World) (g:Nat) (t:TypeId) (a b c v0 v1 v2:Value) (h:w.heap[g]? =some (.cells #[a,b,c] t (0,0))):
  ((w.setCell ⟨g,0,none⟩ v0).setCell ⟨g,1,none⟩ v1).setCell ⟨g,2,none⟩ v2=w.setRow g #[v0,v1,v2]:=by
 rw [Qj w g 0 _ t (0,0) v0 h,Qj _ g 1 _ t (0,0) v1 (Qi _ _ _ _ _ _ h),QI,
  Qj _ g 2 _ t (0,0) v2 (Qi _ _ _ _ _ _ h),QI]
 refine congrArg (w.setRow g) ?_
 simp

theorem JlW (E:Nat->Addr) (b:Nat) (hb12:18<=b) (g:Option Nat) (wd:Int) (a o:Nat) (ho:o<256) (st:Option PS) (w:World) (hE:Env E w) (hp:Je E w b g wd st) (hd:JK st<=90000000):
  Calls prog 205 #[.pointer (some ⟨b,0,none⟩),.agg #[.int .u64 (a:Int),.int .u8 (o:Int)]] w λe w'=>e=.returned (.agg #[.int .u64 ((stO (a,o) st).1.1:Int),.int .u8 ((stO (a,o) st).1.2:Int)])/\StTo E w w' b g wd (stO (a,o) st).2:=by
 have hlt:=hp.lt
 have HR0:=Run.start hb12 hE hp (Tch.allocs NoB w (.cells #[.int .u64 (a:Int),.int .u8 (o:Int)] 80) (.cells #[.int .u64 0,.int .u8 0] 80))
 have hl0:=Jaw a 8 st
 have hm:=Jbc o 1 (Jz a 8 st).2
 have hwo:IntKind.u64.wrap (o:Int)=(o:Int):=JB _ (by omega) (by omega)
 have RUN:Hid _:=HR0
 go_enter func205,ntmps205
 go_wp2_with fail
 refine (Zq E b g wd a 8 st _ RUN.env RUN.port (by omega) (by omega)).mono ?_
 rintro _ w1 ⟨rfl,h⟩
 obtain ⟨g1,(RUN1:Hid _)⟩:=RUN.step h
 have bx1:=(RUN1.box (k:=w.heap.size) (Ql _) (heap_alloc2_old _ _ _)).1
 obtain ⟨-,c1⟩:=rows bx1
 clear bx1 h
 go_wp2_with fail
 refine (Zq E b g1 wd o 1 _ _ RUN1.env RUN1.port (by omega) (by omega)).mono ?_
 rintro _ w2 ⟨rfl,h⟩
 obtain ⟨g2,(RUN2:Hid _)⟩:=RUN1.step h
 have rR:=(RUN2.box (k:=w.heap.size+1) (by omega) (heap_alloc2_new _ _ _)).1
 obtain ⟨e0,e1⟩:=rows rR
 have fR:∀j,w2.frozen? ⟨w.heap.size+1,j,none⟩=false:=λj=>Qg _ _ _ _ _ rR
 have hw8:IntKind.u8.wrap ((Jz o 1 (Jz a 8 st).2).1:Int)=((Jz o 1 (Jz a 8 st).2).1:Int):=Jbi _ (by omega) (by omega)
 have RR:Hid _:=rR
 clear rR h
 go_wp2
 rw [set2 _ _ _ _ _ _ _ RR.out]
 exact QJ (v:=.agg #[.int .u64 ((stO (a,o) st).1.1:Int),.int .u8 ((stO (a,o) st).1.2:Int)]) (Qq results205 _ _ (w.heap.size+1) _ _ (0,0) _ rfl (Qi _ _ _ _ _ _ RR) underlying80 rfl (by kernel_rfl)) rfl ⟨rfl,RUN2.done (k:=w.heap.size+1) (by omega) (heap_alloc2_new _ _ _) (by decide)⟩

theorem Je.err {E:Nat->Addr} {w:World} {b:Nat} {g:Option Nat} {wd:Int} {st:Option PS} (h:Je E w b g wd st):(st=none/\∃t u,w.cell? ⟨b,2,none⟩=some (.iface t u))\/((∃p,st=some p)/\w.cell? ⟨b,2,none⟩=some .nilIface):=by
 cases st with
 | some p=>exact .inr ⟨⟨p,rfl⟩,Jc.errCell h⟩
 | none=>obtain ⟨p,t,u,h1,_⟩:=h;exact .inl ⟨rfl,t,u,h1.errCell⟩
theorem JlP (E:Nat->Addr) (b:Nat) (hb12:18<=b) (g:Option Nat) (wd:Nat) (hw:wd<=1000) (k:BA) (st:Option PS) (w:World) (hE:Env E w) (hp:Je E w b g wd st) (hd:JK st<=90000000):
  Calls prog 294 #[.pointer (some ⟨b,0,none⟩),.string k] w λe w'=>e=.returned (.string ⟨(Yk wd k.data.toList st).1.toArray⟩)/\StTo E w w' b g wd (Yk wd k.data.toList st).2:=by
 have cw:=hp.width
 have hlt:=hp.lt
 have HC:Hid (Calls prog 209 _ w _):=Jej E b g wd k (wd+1) st w hE hp (by omega)
 have HE:Hid _:=hE
 have HP:Hid _:=hp
 have HK:Hid (Yk wd k.data.toList st=((Ji k.data.toList (wd+1) st).1,match (Ji k.data.toList (wd+1) st).2 with
  | none=>none
  | some p=>if 3<=((Ji k.data.toList (wd+1) st).1.getD wd 0).toNat then none else some p)):=rfl
 have HL:Hid (∀p,(Ji k.data.toList (wd+1) st).2=some p->_):=λp h=>Jeg _ _ _ p h
 have hww:IntKind.i64.wrap ((wd:Int)+1)=(wd:Int)+1:=JI _ (by omega) (by omega)
 go_enter func294,ntmps294
 go_wp2_with fail
 refine HC.o.mono ?_
 rintro _ w1 ⟨rfl,g1,hp1,hm1,ht1⟩
 have hev:=hp1.err
 have cw1:=hp1.width
 have HE1:Hid _:=HE.tch ht1 (Jbe hb12 HP)
 have HP1:Hid _:=hp1
 have HM1:Hid _:=hm1
 have HT1:Hid _:=ht1
 rcases hev with ⟨hn,t,u,ce⟩ | ⟨⟨p,(HS:Hid _)⟩,ce⟩
 ·have HN:Hid _:=hn
  go_wp2
  go_ret
  refine ⟨by rw [HK.o];rfl,g1,?_,HM1,HT1⟩
  rw [HK.o,HN.o]
  have:=HP1.o
  rw [HN.o] at this
  exact this
 ·have hln:=HL p HS
  have hsz:(⟨(Ji k.data.toList (wd+1) st).1.toArray⟩:BA).size=wd+1:=by rw [Js];exact hln
  have hix:wd<(⟨(Ji k.data.toList (wd+1) st).1.toArray⟩:BA).size:=by omega
  have HB:Hid ((⟨(Ji k.data.toList (wd+1) st).1.toArray⟩:BA)[wd].toNat=((Ji k.data.toList (wd+1) st).1.getD wd 0).toNat):=by
   show UInt8.toNat _=_
   congr 1
   simp [List.getD_eq_getElem?_getD,show wd<(Ji k.data.toList (wd+1) st).1.length by omega]
   rfl
  generalize hTB:(⟨(Ji k.data.toList (wd+1) st).1.toArray⟩:BA)=tb at *
  have HTB:Hid _:=hTB
  by_cases h3:3<=tb[wd].toNat
  ·have h3i:(3:Int)<=(tb[wd].toNat:Int):=by omega
   go_wp2_with fail
   refine (Zs E b g1 wd _ _ w1 HE1 HP1).mono ?_
   rintro _ w2 ⟨rfl,(HS2:Hid _)⟩
   go_wp2
   go_ret
   refine ⟨by rw [HK.o,HTB.o];rfl,?_⟩
   rw [HK.o]
   dsimp only
   rw [HS.o]
   dsimp only
   rw [if_pos (by rw [<-HB.o];exact h3)]
   exact StTo.trans HM1 HT1 HS2.o
  ·have h3i:¬(3:Int)<=(tb[wd].toNat:Int):=by omega
   go_wp2
   go_ret
   refine ⟨by rw [HK.o,HTB.o];rfl,g1,?_,HM1,HT1⟩
   rw [HK.o]
   dsimp only
   have:=HP1.o
   rw [HS.o] at this ⊢
   dsimp only
   rw [if_neg (by rw [<-HB.o];exact h3)]
   exact this
theorem Ji0 (E:Nat->Addr) (b:Nat) (hb12:18<=b) (g:Option Nat) (wd:Nat) (hw:wd<=1000) (k:Int) (st:Option PS) (w:World) (hE:Env E w) (hp:Je E w b g wd st) (hd:JK st<=90000000):
  Calls prog 292 #[.pointer (some ⟨b,0,none⟩),.int .i64 k] w λe w'=>e=.returned (.int .i64 ((Yd wd k st).1:Int))/\StTo E w w' b g wd (Yd wd k st).2:=by
 have hx:=Jca k
 have HE:Hid _:=hE
 have HP:Hid _:=hp
 have HK:Hid (Yd wd k st=((Jz (JC k) 2 st).1,if 8 * (wd+1)<=(Jz (JC k) 2 st).1 then none else (Jz (JC k) 2 st).2)):=rfl
 go_enter func292,ntmps292
 go_wp2_with fail
 refine (Zq E b g wd (JC k) 2 st w HE HP (by omega) (by omega)).mono ?_
 rintro _ w1 ⟨rfl,g1,hp1,(HM1:Hid _),(HT1:Hid _)⟩
 have cw1:=hp1.width
 have hm:=Jbc (JC k) 2 st
 have HE1:Hid _:=HE.tch HT1 (Jbe hb12 HP)
 have HP1:Hid _:=hp1
 clear hp1
 generalize (Jz (JC k) 2 st).1=m at *
 have hwm:IntKind.i64.wrap (m:Int)=(m:Int):=JI _ (by omega) (by omega)
 have hww:IntKind.i64.wrap ((wd:Int)+1)=(wd:Int)+1:=JI _ (by omega) (by omega)
 have hw8:IntKind.i64.wrap (8 * ((wd:Int)+1))=8 * ((wd:Int)+1):=JI _ (by omega) (by omega)
 have hwu:IntKind.u64.wrap (8 * ((wd:Int)+1))=8 * ((wd:Int)+1):=JB _ (by omega) (by omega)
 by_cases h3:8 * (wd+1)<=m
 ·have h3i:8 * ((wd:Int)+1)<=(m:Int):=by omega
  go_wp2_with (first | (go_at_call 200;refine (Zs E b g1 wd _ _ w1 HE1 HP1).mono ?_;rintro _ w2 ⟨rfl,(HS2:Hid _)⟩) | go_in)
  go_ret
  refine ⟨by rw [HK.o];rfl,?_⟩
  rw [HK.o,if_pos h3]
  exact StTo.trans HM1 HT1 HS2.o
 ·have h3i:¬8 * ((wd:Int)+1)<=(m:Int):=by omega
  go_wp2
  go_ret
  refine ⟨by rw [HK.o];rfl,g1,?_,HM1,HT1⟩
  rw [HK.o,if_neg h3]
  exact HP1.o
theorem JgT (E:Nat->Addr) (b:Nat) (hb12:18<=b) (g:Option Nat) (wd:Nat) (hw:wd<=1000) (k:BA) (a o:Nat) (ho:o<256) (st:Option PS) (w:World) (hE:Env E w) (hp:Je E w b g wd st) (hd:JK st<=80000000):
  Calls prog 222 #[.pointer (some ⟨b,0,none⟩),.agg #[.string k,.int .u64 (a:Int),.int .u8 (o:Int)]] w λe w'=>e=.returned (.agg #[.string ⟨(Jt wd k (a,o) st).1.1.toArray⟩,.int .u64 ((Jt wd k (a,o) st).1.2.1:Int),.int .u8 ((Jt wd k (a,o) st).1.2.2:Int)])/\StTo E w w' b g wd (Jt wd k (a,o) st).2:=by
 have hlt:=hp.lt
 have HR0:=Run.start hb12 hE hp (Tch.allocs NoB w (.cells #[.string k,.int .u64 (a:Int),.int .u8 (o:Int)] 256) (.cells #[.string ⟨#[]⟩,.int .u64 0,.int .u8 0] 256))
 have hl0:=Jig wd k.data.toList st
 have RUN:Hid _:=HR0
 go_enter func222,ntmps222
 go_wp2_with fail
 refine (JlP E b hb12 g wd hw k st _ RUN.env RUN.port (by omega)).mono ?_
 rintro _ w1 ⟨rfl,h⟩
 obtain ⟨g1,(RUN1:Hid _)⟩:=RUN.step h
 have bx1:=(RUN1.box (k:=w.heap.size) (Ql _) (heap_alloc2_old _ _ _)).1
 obtain ⟨-,c1,c2⟩:=rows bx1
 clear bx1 h
 go_wp2_with fail
 refine (JlW E b hb12 g1 wd a o ho _ _ RUN1.env RUN1.port (by omega)).mono ?_
 rintro _ w2 ⟨rfl,h⟩
 obtain ⟨g2,(RUN2:Hid _)⟩:=RUN1.step h
 have rR:=(RUN2.box (k:=w.heap.size+1) (by omega) (heap_alloc2_new _ _ _)).1
 obtain ⟨e0,e1,e2⟩:=rows rR
 have fR:∀j,w2.frozen? ⟨w.heap.size+1,j,none⟩=false:=λj=>Qg _ _ _ _ _ rR
 have hsz2:=(Jb rR)
 have RR:Hid _:=rR
 clear rR h
 go_wp2
 rw [set3 _ _ _ _ _ _ _ _ _ RR.out]
 exact QJ (v:=.agg #[.string ⟨(Jt wd k (a,o) st).1.1.toArray⟩,.int .u64 ((Jt wd k (a,o) st).1.2.1:Int),.int .u8 ((Jt wd k (a,o) st).1.2.2:Int)]) (Qq results222 _ _ (w.heap.size+1) _ _ (0,0) _ rfl ((Below.heap_alloc _ _ _ (by simpa using hsz2)).trans (Qi _ _ _ _ _ _ RR)) underlying256 rfl (by kernel_rfl)) rfl ⟨rfl,(RUN2.done (k:=w.heap.size+1) (by omega) (heap_alloc2_new _ _ _) (by decide)).alloc _⟩
theorem Jhe (E:Nat->Addr) (b:Nat) (hb12:18<=b) (g:Option Nat) (wd:Nat) (hw:wd<=1000) (k:Int) (x y:BA) (st:Option PS) (w:World) (hE:Env E w) (hp:Je E w b g wd st) (hd:JK st<=80000000):
  Calls prog 308 #[.pointer (some ⟨b,0,none⟩),.agg #[.int .i64 k,.string x,.string y]] w λe w'=>e=.returned (.agg #[.int .i64 ((stBr wd k x y st).1.1:Int),.string ⟨(stBr wd k x y st).1.2.1.toArray⟩,.string ⟨(stBr wd k x y st).1.2.2.toArray⟩])/\StTo E w w' b g wd (stBr wd k x y st).2:=by
 have hlt:=hp.lt
 have HR0:=Run.start hb12 hE hp (Tch.allocs NoB w (.cells #[.int .i64 k,.string x,.string y] 279) (.cells #[.int .i64 0,.string ⟨#[]⟩,.string ⟨#[]⟩] 279))
 have hl0:=JdA wd k st
 have hl1:=XZ x.data.toList wd (Yd wd k st).2
 have RUN:Hid _:=HR0
 go_enter func308,ntmps308
 go_wp2_with fail
 refine (Ji0 E b hb12 g wd hw k st _ RUN.env RUN.port (by omega)).mono ?_
 rintro _ w1 ⟨rfl,h⟩
 obtain ⟨g1,(RUN1:Hid _)⟩:=RUN.step h
 have bx1:=(RUN1.box (k:=w.heap.size) (Ql _) (heap_alloc2_old _ _ _)).1
 obtain ⟨-,c1⟩:=rows bx1
 clear bx1 h
 go_wp2_with fail
 refine (Yn E b g1 wd x _ _ RUN1.env RUN1.port (by omega)).mono ?_
 rintro _ w2 ⟨rfl,h⟩
 obtain ⟨g2,(RUN2:Hid _)⟩:=RUN1.step h
 have bx2:=(RUN2.box (k:=w.heap.size) (Ql _) (heap_alloc2_old _ _ _)).1
 obtain ⟨-, -,c2⟩:=rows bx2
 clear bx2 h
 go_wp2_with fail
 refine (Yn E b g2 wd y _ _ RUN2.env RUN2.port (by omega)).mono ?_
 rintro _ w3 ⟨rfl,h⟩
 obtain ⟨g3,(RUN3:Hid _)⟩:=RUN2.step h
 have rR:=(RUN3.box (k:=w.heap.size+1) (by omega) (heap_alloc2_new _ _ _)).1
 obtain ⟨e0,e1,e2⟩:=rows rR
 have fR:∀j,w3.frozen? ⟨w.heap.size+1,j,none⟩=false:=λj=>Qg _ _ _ _ _ rR
 have RR:Hid _:=rR
 clear rR h
 go_wp2
 rw [set3 _ _ _ _ _ _ _ _ _ RR.out]
 exact QJ (v:=.agg #[.int .i64 ((stBr wd k x y st).1.1:Int),.string ⟨(stBr wd k x y st).1.2.1.toArray⟩,.string ⟨(stBr wd k x y st).1.2.2.toArray⟩]) (Qq results308 _ _ (w.heap.size+1) _ _ (0,0) _ rfl (Qi _ _ _ _ _ _ RR) underlying279 rfl (by kernel_rfl)) rfl ⟨rfl,RUN3.done (k:=w.heap.size+1) (by omega) (heap_alloc2_new _ _ _) (by decide)⟩

abbrev JbB:=BA×BA×(Nat×Nat)×Int×BA×BA
def Jlu:JbB:=(⟨#[]⟩,⟨#[]⟩,(0,0),0,⟨#[]⟩,⟨#[]⟩)
def ZP (n:JbB):Array Value:= #[.string n.1,.string n.2.1,.int .u64 (n.2.2.1.1:Int),.int .u8 (n.2.2.1.2:Int),.int .i64 n.2.2.2.1,.string n.2.2.2.2.1,.string n.2.2.2.2.2]
def XO (wd:Nat) (n:JbB) (st:Option PS):JbB×Option PS:=
 if (Ji n.1.data.toList 1 st).1=[69] then ((⟨#[69]⟩,⟨#[]⟩,(0,0),0,⟨#[]⟩,⟨#[]⟩),(Ji n.1.data.toList 1 st).2)
 else if (Ji n.1.data.toList 1 st).1=[76] then ((⟨#[76]⟩,⟨(Jt wd n.2.1 n.2.2.1 (Ji n.1.data.toList 1 st).2).1.1.toArray⟩,(Jt wd n.2.1 n.2.2.1 (Ji n.1.data.toList 1 st).2).1.2,0,⟨#[]⟩,⟨#[]⟩),(Jt wd n.2.1 n.2.2.1 (Ji n.1.data.toList 1 st).2).2)
 else if (Ji n.1.data.toList 1 st).1=[78] then ((⟨#[78]⟩,⟨#[]⟩,(0,0),((stBr wd n.2.2.2.1 n.2.2.2.2.1 n.2.2.2.2.2 (Ji n.1.data.toList 1 st).2).1.1:Int),⟨(stBr wd n.2.2.2.1 n.2.2.2.2.1 n.2.2.2.2.2 (Ji n.1.data.toList 1 st).2).1.2.1.toArray⟩,⟨(stBr wd n.2.2.2.1 n.2.2.2.2.1 n.2.2.2.2.2 (Ji n.1.data.toList 1 st).2).1.2.2.toArray⟩),(stBr wd n.2.2.2.1 n.2.2.2.2.1 n.2.2.2.2.2 (Ji n.1.data.toList 1 st).2).2)
 else (Jlu,none)
theorem Jij {wd:Nat} {n:JbB} {st:Option PS} (h:stWr st):stWr (XO wd n st).2:=by
 unfold XO
 split
 ·exact XU h
 ·split
  ·exact Jih (XU h)
  ·split
   ·exact Jk4 (XU h)
   ·exact Zv
theorem set7 (w:World) (g:Nat) (t:TypeId) (a b c d e f h v0 v1 v2 v3 v4 v5 v6:Value) (hr:w.heap[g]? =some (.cells #[a,b,c,d,e,f,h] t (0,0))):
  ((((((w.setCell ⟨g,0,none⟩ v0).setCell ⟨g,1,none⟩ v1).setCell ⟨g,2,none⟩ v2).setCell ⟨g,3,none⟩ v3).setCell ⟨g,4,none⟩ v4).setCell ⟨g,5,none⟩ v5).setCell ⟨g,6,none⟩ v6=w.setRow g #[v0,v1,v2,v3,v4,v5,v6]:=by
 rw [Qj w g 0 _ t (0,0) v0 hr,Qj _ g 1 _ t (0,0) v1 (Qi _ _ _ _ _ _ hr),QI,
  Qj _ g 2 _ t (0,0) v2 (Qi _ _ _ _ _ _ hr),QI,Qj _ g 3 _ t (0,0) v3 (Qi _ _ _ _ _ _ hr),QI,
  Qj _ g 4 _ t (0,0) v4 (Qi _ _ _ _ _ _ hr),QI,Qj _ g 5 _ t (0,0) v5 (Qi _ _ _ _ _ _ hr),QI,
  Qj _ g 6 _ t (0,0) v6 (Qi _ _ _ _ _ _ hr),QI]
 refine congrArg (w.setRow g) ?_
 simp
theorem ZD (k:BA) (a o:Int) (w:World):Calls prog 307 #[.agg #[.string k,.int .u64 a,.int .u8 o]] w λe w'=>e=.returned (.agg #[.string ⟨#[76]⟩,.string k,.int .u64 a,.int .u8 o,.int .i64 0,.string ⟨#[]⟩,.string ⟨#[]⟩])/\Tch NoB w w':=by
 go_enter func307,ntmps307
 go_wp2
 exact QJ (v:=.agg #[.string ⟨#[76]⟩,.string k,.int .u64 a,.int .u8 o,.int .i64 0,.string ⟨#[]⟩,.string ⟨#[]⟩]) (Qq results307 _ _ (w.heap.size+1) _ _ (0,0) _ rfl (heap_alloc2_new _ _ _) underlying281 rfl (by kernel_rfl)) rfl ⟨rfl,Tch.allocs _ _ _ _⟩
theorem YQ (k:Int) (x y:BA) (w:World):Calls prog 309 #[.agg #[.int .i64 k,.string x,.string y]] w λe w'=>e=.returned (.agg #[.string ⟨#[78]⟩,.string ⟨#[]⟩,.int .u64 0,.int .u8 0,.int .i64 k,.string x,.string y])/\Tch NoB w w':=by
 go_enter func309,ntmps309
 go_wp2
 exact QJ (v:=.agg #[.string ⟨#[78]⟩,.string ⟨#[]⟩,.int .u64 0,.int .u8 0,.int .i64 k,.string x,.string y]) (Qq results309 _ _ (w.heap.size+1) _ _ (0,0) _ rfl (heap_alloc2_new _ _ _) underlying281 rfl (by kernel_rfl)) rfl ⟨rfl,Tch.allocs _ _ _ _⟩
theorem Run.next {E:Nat->Addr} {w0 wA w w':World} {b:Nat} {g g':Option Nat} {wd:Int} {st:Option PS} (h:Run E w0 wA w b g g' wd st) (k:Tch NoB w w'):Run E w0 wA w' b g g' wd st:=
 ⟨h.port.next k,h.moved,h.tch.trans k noE,h.env.tch k noE,h.k12,h.low,h.own,h.new⟩
theorem JkV (E:Nat->Addr) (b:Nat) (hb12:18<=b) (g:Option Nat) (wd:Nat) (hw:wd<=1000) (n:JbB) (ho:n.2.2.1.2<256) (st:Option PS) (w:World) (hE:Env E w) (hp:Je E w b g wd st) (hd:JK st<=70000000):
  Calls prog 240 #[.pointer (some ⟨b,0,none⟩),.agg (ZP n)] w λe w'=>e=.returned (.agg (ZP (XO wd n st).1))/\StTo E w w' b g wd (XO wd n st).2:=by
 have hlt:=hp.lt
 obtain ⟨l,k,⟨a,o⟩,bt,x,y⟩:=n
 dsimp only at ho
 have HC:Hid (ZP (l,k,(a,o),bt,x,y)= #[.string l,.string k,.int .u64 (a:Int),.int .u8 (o:Int),.int .i64 bt,.string x,.string y]):=rfl
 rw [HC.o]
 have HR0:=Run.start hb12 hE hp (Tch.allocs NoB w (.cells #[.string l,.string k,.int .u64 (a:Int),.int .u8 (o:Int),.int .i64 bt,.string x,.string y] 281) (.cells #[.string ⟨#[]⟩,.string ⟨#[]⟩,.int .u64 0,.int .u8 0,.int .i64 0,.string ⟨#[]⟩,.string ⟨#[]⟩] 281))
 have hl0:=XZ l.data.toList 1 st
 have RUN:Hid _:=HR0
 go_enter func240,ntmps240
 go_wp2_with fail
 refine (Jej E b g wd l 1 st _ RUN.env RUN.port (by omega)).mono ?_
 rintro _ w1 ⟨rfl,h⟩
 obtain ⟨g1,(RUN1:Hid _)⟩:=RUN.step h
 have bx1:=(RUN1.box (k:=w.heap.size) (Ql _) (heap_alloc2_old _ _ _)).1
 have rR:=(RUN1.box (k:=w.heap.size+1) (by omega) (heap_alloc2_new _ _ _)).1
 have hsz1:=(Jb rR)
 obtain ⟨-,c1,c2,c3,c4,c5,c6⟩:=rows bx1
 have RR1:Hid _:=rR
 clear bx1 h rR
 have hn0:∀c:UInt8,(Ji l.data.toList 1 st).1 ≠ [c]->((⟨(Ji l.data.toList 1 st).1.toArray⟩:BA).toList == [c])=false:=λc h=>by
  rw [ByteArray.toList_eq]
  simpa using h
 have HN0:Hid _:=hn0
 by_cases h0:(Ji l.data.toList 1 st).1=[69]
 ·have hb:(⟨(Ji l.data.toList 1 st).1.toArray⟩:BA)=⟨#[69]⟩:=by rw [h0]
  have HS:Hid (XO wd (l,k,(a,o),bt,x,y) st=((⟨#[69]⟩,⟨#[]⟩,(0,0),0,⟨#[]⟩,⟨#[]⟩),(Ji l.data.toList 1 st).2)):=if_pos h0
  rw [hb]
  obtain ⟨e0,e1,e2,e3,e4,e5,e6⟩:=rows RR1.out
  have fR:∀j,w1.frozen? ⟨w.heap.size+1,j,none⟩=false:=λj=>Qg _ _ _ _ _ RR1.out
  go_wp2
  rw [set7 _ _ _ _ _ _ _ _ _ _ _ _ _ _ _ _ _ RR1.out]
  refine QJ (v:=.agg (ZP (⟨#[69]⟩,⟨#[]⟩,(0,0),0,⟨#[]⟩,⟨#[]⟩))) (Qq results240 _ _ (w.heap.size+1) _ _ (0,0) _ rfl (Qi _ _ _ _ _ _ RR1) underlying281 rfl (by kernel_rfl)) rfl ⟨by rw [HS.o],?_⟩
  rw [HS.o]
  exact RUN1.done (k:=w.heap.size+1) (by omega) (heap_alloc2_new _ _ _) (by decide)
 ·by_cases h1:(Ji l.data.toList 1 st).1=[76]
  ·have hb:(⟨(Ji l.data.toList 1 st).1.toArray⟩:BA)=⟨#[76]⟩:=by rw [h1]
   have HS:Hid (XO wd (l,k,(a,o),bt,x,y) st=((⟨#[76]⟩,⟨(Jt wd k (a,o) (Ji l.data.toList 1 st).2).1.1.toArray⟩,(Jt wd k (a,o) (Ji l.data.toList 1 st).2).1.2,0,⟨#[]⟩,⟨#[]⟩),(Jt wd k (a,o) (Ji l.data.toList 1 st).2).2)):=(if_neg h0).trans (if_pos h1)
   rw [hb]
   go_wp2_with fail
   refine (JgT E b hb12 g1 wd hw k a o ho _ _ RUN1.env RUN1.port (by omega)).mono ?_
   rintro _ w2 ⟨rfl,h⟩
   obtain ⟨g2,(RUN2:Hid _)⟩:=RUN1.step h
   clear h
   go_wp2_with fail
   refine (ZD _ _ _ _).mono ?_
   rintro _ w3 ⟨rfl,h⟩
   have R3:=RUN2.out.next h
   have rR:=(R3.box (k:=w.heap.size+1) (by omega) (heap_alloc2_new _ _ _)).1
   obtain ⟨e0,e1,e2,e3,e4,e5,e6⟩:=rows rR
   have fR:∀j,w3.frozen? ⟨w.heap.size+1,j,none⟩=false:=λj=>Qg _ _ _ _ _ rR
   have RUN3:Hid _:=R3
   have RR3:Hid _:=rR
   go_wp2
   rw [set7 _ _ _ _ _ _ _ _ _ _ _ _ _ _ _ _ _ RR3.out]
   refine QJ (v:=.agg #[.string ⟨#[76]⟩,.string _,.int .u64 _,.int .u8 _,.int .i64 0,.string ⟨#[]⟩,.string ⟨#[]⟩]) (Qq results240 _ _ (w.heap.size+1) _ _ (0,0) _ rfl (Qi _ _ _ _ _ _ RR3) underlying281 rfl (by kernel_rfl)) rfl ⟨by rw [HS.o];rfl,?_⟩
   rw [HS.o]
   exact RUN3.done (k:=w.heap.size+1) (by omega) (heap_alloc2_new _ _ _) (by decide)
  ·by_cases h2:(Ji l.data.toList 1 st).1=[78]
   ·have hb:(⟨(Ji l.data.toList 1 st).1.toArray⟩:BA)=⟨#[78]⟩:=by rw [h2]
    have HS:Hid (XO wd (l,k,(a,o),bt,x,y) st=((⟨#[78]⟩,⟨#[]⟩,(0,0),((stBr wd bt x y (Ji l.data.toList 1 st).2).1.1:Int),⟨(stBr wd bt x y (Ji l.data.toList 1 st).2).1.2.1.toArray⟩,⟨(stBr wd bt x y (Ji l.data.toList 1 st).2).1.2.2.toArray⟩),(stBr wd bt x y (Ji l.data.toList 1 st).2).2)):=(if_neg h0).trans ((if_neg h1).trans (if_pos h2))
    rw [hb]
    go_wp2_with fail
    refine (Jhe E b hb12 g1 wd hw bt x y _ _ RUN1.env RUN1.port (by omega)).mono ?_
    rintro _ w2 ⟨rfl,h⟩
    obtain ⟨g2,(RUN2:Hid _)⟩:=RUN1.step h
    clear h
    go_wp2_with fail
    refine (YQ _ _ _ _).mono ?_
    rintro _ w3 ⟨rfl,h⟩
    have R3:=RUN2.out.next h
    have rR:=(R3.box (k:=w.heap.size+1) (by omega) (heap_alloc2_new _ _ _)).1
    obtain ⟨e0,e1,e2,e3,e4,e5,e6⟩:=rows rR
    have fR:∀j,w3.frozen? ⟨w.heap.size+1,j,none⟩=false:=λj=>Qg _ _ _ _ _ rR
    have RUN3:Hid _:=R3
    have RR3:Hid _:=rR
    go_wp2
    rw [set7 _ _ _ _ _ _ _ _ _ _ _ _ _ _ _ _ _ RR3.out]
    refine QJ (v:=.agg #[.string ⟨#[78]⟩,.string ⟨#[]⟩,.int .u64 0,.int .u8 0,.int .i64 _,.string _,.string _]) (Qq results240 _ _ (w.heap.size+1) _ _ (0,0) _ rfl (Qi _ _ _ _ _ _ RR3) underlying281 rfl (by kernel_rfl)) rfl ⟨by rw [HS.o];rfl,?_⟩
    rw [HS.o]
    exact RUN3.done (k:=w.heap.size+1) (by omega) (heap_alloc2_new _ _ _) (by decide)
   ·have HS:Hid (XO wd (l,k,(a,o),bt,x,y) st=(Jlu,none)):=(if_neg h0).trans ((if_neg h1).trans (if_neg h2))
    have b0:=HN0 69 h0
    have b1:=HN0 76 h1
    have b2:=HN0 78 h2
    generalize (⟨(Ji l.data.toList 1 st).1.toArray⟩:BA)=tb at *
    go_wp2_with fail
    refine (Zs E b g1 wd _ _ _ RUN1.env RUN1.port).mono ?_
    rintro _ w2 ⟨rfl,h⟩
    obtain ⟨g2,(RUN2:Hid _)⟩:=RUN1.step h
    have rR:=(RUN2.box (k:=w.heap.size+1) (by omega) (heap_alloc2_new _ _ _)).1
    obtain ⟨e0,e1,e2,e3,e4,e5,e6⟩:=rows rR
    have fR:∀j,w2.frozen? ⟨w.heap.size+1,j,none⟩=false:=λj=>Qg _ _ _ _ _ rR
    have RR2:Hid _:=rR
    clear rR h
    go_wp2
    rw [set7 _ _ _ _ _ _ _ _ _ _ _ _ _ _ _ _ _ RR2.out]
    refine QJ (v:=.agg #[.string ⟨#[]⟩,.string ⟨#[]⟩,.int .u64 0,.int .u8 0,.int .i64 0,.string ⟨#[]⟩,.string ⟨#[]⟩]) (Qq results240 _ _ (w.heap.size+1) _ _ (0,0) _ rfl (Qi _ _ _ _ _ _ RR2) underlying281 rfl (by kernel_rfl)) rfl ⟨by rw [HS.o];rfl,?_⟩
    rw [HS.o]
    exact RUN2.done (k:=w.heap.size+1) (by omega) (heap_alloc2_new _ _ _) (by decide)

theorem ZE (E:Nat->Addr) (wd:Nat) (hw:wd<=1000) (n:JbB) (ho:n.2.2.1.2<256) (w:World) (hE:Env E w):
  Calls prog 154 #[.agg (ZP n),.int .i64 (wd:Int)] w λe w'=>Tch NoB w w'/\RetS E (ZT (XO wd n (some (.wr []))).2) e w':=by
 have hs:=hE.size
 have HE:Hid _:=hE
 have HC:Hid (∀W b,18<=b->Env E W->Je E W b none wd (some (.wr []))->_):=λW b h12 hE hp=>JkV E b h12 none wd hw n ho (some (.wr [])) W hE hp (by show 0<=_;omega)
 obtain ⟨l,k,⟨a,o⟩,bt,x,y⟩:=n
 dsimp only at ho
 have HV:Hid (ZP (l,k,(a,o),bt,x,y)= #[.string l,.string k,.int .u64 (a:Int),.int .u8 (o:Int),.int .i64 bt,.string x,.string y]):=rfl
 rw [HV.o] at HC ⊢
 go_enter func154,ntmps154
 go_wp2_with fail
 refine (Xb _ _).mono ?_
 rintro _ w1 ⟨rfl,hp1,ht1⟩
 have tA:Tch NoB w (w.alloc (.cells #[.string l,.string k,.int .u64 (a:Int),.int .u8 (o:Int),.int .i64 bt,.string x,.string y] 281)):=Ta _ _ _
 have hb:(w.alloc (.cells #[.string l,.string k,.int .u64 (a:Int),.int .u8 (o:Int),.int .i64 bt,.string x,.string y] 281)).heap.size=w.heap.size+1:=by simp
 rw [hb] at hp1
 rw [hb]
 have r0:=(ht1.block _ (by omega) (λh=>h)).trans (Qf _ _)
 obtain ⟨d0,d1,d2,d3,d4,d5,d6⟩:=rows r0
 have HT1:Hid _:=(tA.trans ht1 noE).trans (Td NoB w1 1) noE
 have HC1:Hid (Calls prog 240 _ w1.drew _):=HC w1.drew (w.heap.size+1) (by omega) (HE.tch HT1 noE) (Je.next (E:=E) (st:=some (.wr [])) hp1 (Td _ w1 1))
 go_wp2_with fail
 go_region_with (go_at_call 240;refine HC1.o.mono ?_;rintro _ w2 ⟨rfl,g2,hp2,hm2,ht2⟩;have HP2:Hid (Je _ _ _ _ _ _):=hp2;have HT2:Hid (Tch _ _ w2):=ht2)
 all_goals
  have HR:Hid (Calls prog 79 _ w2 _):=Zy E (w.heap.size+1) g2 wd _ (Jij JcH) w2 HP2.o
  have HT3:Hid _:=Xz (b:=w.heap.size+1) (by omega) HT1 HT2.o
  go_wp2_with fail
  refine HR.o.mono ?_
  rintro _ w3 ⟨ht3,hr⟩
  have HR3:Hid _:=hr
  have HT4:Hid _:=ht3
  rcases hr.cases with ⟨d,hd,rfl⟩ | ⟨hn,t,u,rfl,he⟩
  all_goals
   go_wp2
   go_ret2
   exact ⟨HT3.trans HT4 noE,HR3⟩

theorem Jea {k:IntKind} {a b:Int} (h:a=b):Ending.returned (.int k a)=.returned (.int k b):=by rw [h]
theorem bget (t:BA) (m:Nat) (h:m<t.size):t[m]=t.data.getD m 0:=by
 have h':m<t.data.size:=h
 simp only [Array.getD]
 rw [dif_pos h']
 rfl
theorem Jkq (n:Nat) (h:n<256):bits .and .i64 (n:Int) 1=((n % 2:Nat):Int):=by
 have:∀m:Fin 256,bits .and .i64 ((m.val:Nat):Int) 1=((m.val % 2:Nat):Int):=by decide +kernel
 exact this ⟨n,h⟩
theorem Xw (k:List UInt8) (i:Nat) (hi:i<8 * k.length) (hl:k.length<=1000000) (w:World):
  Calls prog 288 #[.string ⟨k.toArray⟩,.int .i64 (i:Int)] w λe w'=>e=.returned (.int .i64 (bt k i:Int))/\w'=w:=by
 have hsz:=Js k
 have hix:i / 8<(⟨k.toArray⟩:BA).size:=by omega
 have HB:Hid ((⟨k.toArray⟩:BA)[i / 8].toNat=(k.getD (i / 8) 0).toNat):=by
  show UInt8.toNat _=_
  congr 1
  simp [List.getD_eq_getElem?_getD,show i / 8<k.length by omega]
  rfl
 have hlt:=UInt8.toNat_lt (⟨k.toArray⟩:BA)[i / 8]
 have HBT:Hid (bt k i=(k.getD (i / 8) 0).toNat / 2 ^ (7 - i % 8) % 2):=rfl
 generalize (⟨k.toArray⟩:BA)=tb at *
 have hq:((i:Int) / 8).toNat=i / 8:=by omega
 go_enter func288,ntmps288
 go_wp2
 go_ret
 refine ⟨Jea ?_,rfl⟩
 have e1:((tb[i / 8].toNat:Int) / 2 ^ (7 - i % 8))=((tb[i / 8].toNat / 2 ^ (7 - i % 8):Nat):Int):=by simp
 have hle:tb[i / 8].toNat / 2 ^ (7 - i % 8)<=tb[i / 8].toNat:=Nat.div_le_self _ _
 rw [e1]
 have e2:wrap64 ((tb[i / 8].toNat / 2 ^ (7 - i % 8):Nat):Int)=((tb[i / 8].toNat / 2 ^ (7 - i % 8):Nat):Int):=by
  have h0:(0:Int)<=((tb[i / 8].toNat / 2 ^ (7 - i % 8):Nat):Int):=Int.natCast_nonneg _
  have h1:((tb[i / 8].toNat / 2 ^ (7 - i % 8):Nat):Int)<256:=by omega
  generalize ((tb[i / 8].toNat / 2 ^ (7 - i % 8):Nat):Int)=z at *
  unfold wrap64
  omega
 rw [e2,Jkq _ (by omega),HBT.o,HB.o]
theorem JlT (x:UInt8) (w:World):
  Calls prog 334 #[.int .u8 (x.toNat:Int)] w λe w'=>e=.returned (.int .i64 (lz8 x:Int))/\w'=w:=by
 have h:=UInt8.toNat_lt x
 obtain ⟨n,hn⟩:∃n,n=x.toNat:=⟨_,rfl⟩
 have hx:x=UInt8.ofNat n:=by rw [hn];simp
 have HX:Hid (x=UInt8.ofNat n):=hx
 rw [<-hn] at h ⊢
 clear hn hx
 go_enter func334,ntmps334
 go_wp2
 go_ret
 refine ⟨Jea ?_,rfl⟩
 rw [HX.o,bget]
 have h':n<256:=h
 clear HX h
 rename_i hz
 clear hz
 revert n
 decide +kernel
