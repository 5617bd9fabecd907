import Derived.Test.YtighkdnooglfjaaGreatDoorOcTxS
namespace Go.Proofs.YtighkdnooglfjaaGreatDoor
open Tryz
set_option maxRecDepth 100000
set_option maxHeartbeats 1000000
open Go.RowKit

def RetS (E:Nat->Addr) (r:Option (List UInt8)) (e:Ending) (w':World):Prop:=match r with
 | some d=>e=.returned (.tuple #[.string ⟨d.toArray⟩,.nilIface])
 | none=>∃t u,e=.returned (.tuple #[.string ⟨#[]⟩,.iface t u])/\Jl E 7 w' (.iface t u)
theorem RetS.cases {E:Nat->Addr} {r:Option (List UInt8)} {e:Ending} {w':World} (h:RetS E r e w'):(∃d,r=some d/\e=.returned (.tuple #[.string ⟨d.toArray⟩,.nilIface]))\/(r=none/\∃t u,e=.returned (.tuple #[.string ⟨#[]⟩,.iface t u])/\Jl E 7 w' (.iface t u)):=by
 cases r with
 | none=>exact .inr ⟨rfl,h⟩
 | some d=>exact .inl ⟨d,rfl,h⟩
def Jad:Option PS->Option (List UInt8)
 | some (⟨.inr d⟩)=>some d
 | _=>none
def stWr (st:Option PS):Prop:=∀p,st=some p->∃d,p=.wr d
theorem Jaq {x k:Nat} {st:Option PS} (h:stWr st):stWr (JF x k st).2:=by
 intro p hp
 cases st with
 | none=>cases hp
 | some q=>
  obtain ⟨d,rfl⟩:=h q rfl
  cases hq:(PS.wr d).num x k with
  | none=>rw [ZV hq] at hp;cases hp
  | some r=>
   obtain ⟨m,p1⟩:=r
   rw [JS hq] at hp
   cases hp
   simp only [PS.num] at hq
   split at hq
   ·cases hq;exact ⟨_,rfl⟩
   ·cases hq
theorem XT {s:List UInt8} {k:Nat} {st:Option PS} (h:stWr st):stWr (Jj s k st).2:=by
 intro p hp
 cases st with
 | none=>cases hp
 | some q=>
  obtain ⟨d,rfl⟩:=h q rfl
  cases hq:(PS.wr d).txt s k with
  | none=>rw [XX hq] at hp;cases hp
  | some r=>
   obtain ⟨m,p1⟩:=r
   rw [JL hq] at hp
   cases hp
   simp only [PS.txt] at hq
   split at hq
   ·cases hq;exact ⟨_,rfl⟩
   ·cases hq
theorem JcY:stWr (some (.wr [])):=λp hp=>by cases hp;exact ⟨_,rfl⟩
theorem ZH:stWr none:=λp hp=>by cases hp
theorem JiG {wd:Nat} {c:BA×Int} {st:Option PS} (h:stWr st):stWr (Yv wd c st).2:=by
 unfold Yv
 dsimp only
 split
 ·exact ZH
 ·exact Jaq (XT h)
theorem Jkx {wd:Nat} {h:HdL} {st:Option PS} (hw:stWr st):stWr (Zp wd h st).2:=XT (XT (XT (Jaq hw)))
theorem ZK (E:Nat->Addr) (b:Nat) (g:Option Nat) (wd:Int) (st:Option PS) (hw:stWr st) (w:World) (hp:Jh E w b g wd st):
  Calls prog 79 #[.pointer (some ⟨b,0,none⟩)] w λe w'=>Tch NoB w w'/\RetS E (Jad st) e w':=by
 refine (ZL E b g wd st hw w hp).mono ?_
 rintro e w' ⟨h1,h2⟩
 refine ⟨h1,?_⟩
 cases st with
 | none=>exact h2
 | some p=>obtain ⟨d,rfl⟩:=hw p rfl;exact h2
theorem Xt {w w1 w2:World} {b:Nat} (hb:w.heap.size<=b) (h1:Tch NoB w w1) (h2:Tch (λk=>k=b\/some k=none) w1 w2):Tch NoB w w2:=
 h1.trans h2 (λj hj=>by
  rcases hj with rfl | hj
  ·exact .inr hb
  ·cases hj)
theorem ZQ (E:Nat->Addr) (wd:Nat) (s:BA) (w:World) (hE:Env E w) (h1:1<=wd) (h32:wd<=32) (hs:s.size<=1000000000):
  Calls prog 130 #[.int .i64 (wd:Int),.string s] w λe w'=>e=.returned (.string (dgW wd s.data.toList))/\Tch NoB w w':=
 (Jka wd s w h1 h32 (by omega) (Qk (by decide) hE.size) hE.table).mono λe w' ⟨k1,k2⟩=>⟨k1,(Tch.of_below k2).mono (λj hj=>.inr hj)⟩
theorem Jcg (a:List UInt8) (d:List UInt8) (h:d.length<=1000000) (ha:a.length<=100):∃s:BA,s.size<=1000100/\s.data.toList=a++d/\∀W,(Op.stringOp .add (⟨a.toArray⟩:BA) ⟨d.toArray⟩).run prog W=.ok (.string s) W:=
 ⟨_,by rw [ByteArray.size_append];show a.toArray.size+d.toArray.size<=1000100;simp;omega,by simp,λW=>run_string_add_sum (P:=prog) W _ _ (by show a.toArray.size+d.toArray.size<=_;simp;omega)⟩

theorem Jgr (E:Nat->Addr) (wd:Nat) (hw:wd<=1000) (c:BA×Int) (w:World) (hE:Env E w):
  Calls prog 145 #[.int .i64 (wd:Int),.agg #[.string c.1,.int .i64 c.2]] w λe w'=>Tch NoB w w'/\RetS E (Jad (Yv wd c (some (.wr []))).2) e w':=by
 have hs:=hE.size
 have HE:Hid _:=hE
 obtain ⟨s,N⟩:=c
 dsimp only
 go_enter func145,ntmps145
 go_wp2_with fail
 refine (JV _ _).mono ?_
 rintro _ w1 ⟨rfl,hp1,ht1⟩
 have tA:Tch NoB w (w.alloc (.cells #[.string s,.int .i64 N] 49)):=Ta _ _ _
 have hb:(w.alloc (.cells #[.string s,.int .i64 N] 49)).heap.size=w.heap.size+1:=by simp
 rw [hb] at hp1
 rw [hb]
 have r0:=(ht1.block _ (by omega) (λh=>h)).trans (Qf _ _)
 obtain ⟨d0,d1⟩:=rows r0
 have HE1:Hid (Env E w1):=(HE.tch tA noE).tch ht1 noE
 have HP1:Hid (Jh E w1 (w.heap.size+1) none wd (some (.wr []))):=hp1
 have HT1:Hid _:=tA.trans ht1 noE
 have HC:Hid (∀k,Calls prog 203 _ (w1.drewN k) _):=λk=>Jhd E (w.heap.size+1) (by omega) none wd (s,N) (some (.wr [])) (w1.drewN k) (HE1.o.tch (Td NoB w1 k) noE) (HP1.o.next (Td _ w1 k)) (by show 0+_<=_;omega)
 go_wp2_with fail
 go_region_with (go_at_call 203;refine (HC 1).mono ?_;rintro _ w2 ⟨rfl,g2,(HP2:Hid _),hm2,(HT2:Hid _)⟩;clear hm2)
 all_goals
  have HR:Hid (Calls prog 79 _ w2 _):=ZK E (w.heap.size+1) g2 wd _ (JiG JcY) w2 HP2.o
  have HT3:Hid _:=Xt (b:=w.heap.size+1) (by omega) (HT1.trans (Td NoB w1 1) noE) HT2.o
  go_wp2_with fail
  refine HR.o.mono ?_
  rintro _ w3 ⟨ht3,hr⟩
  have HR3:Hid _:=hr
  have HT4:Hid _:=ht3
  rcases hr.cases with ⟨d,hd,rfl⟩ | ⟨hn,t,u,rfl,he⟩
  all_goals
   go_wp2
   go_ret2
   exact ⟨HT3.trans HT4 noE,HR3⟩
theorem ZZ (E:Nat->Addr) (wd:Nat) (hw:wd<=1000) (n:Nat) (s1 s2 s3:BA) (w:World) (hE:Env E w):
  Calls prog 84 #[.int .i64 (wd:Int),.agg #[.int .u64 (n:Int),.string s1,.string s2,.string s3]] w λe w'=>Tch NoB w w'/\RetS E (Jad (Zp wd (n,s1,s2,s3) (some (.wr []))).2) e w':=by
 have hs:=hE.size
 have HE:Hid _:=hE
 go_enter func84,ntmps84
 go_wp2_with fail
 refine (JV _ _).mono ?_
 rintro _ w1 ⟨rfl,hp1,ht1⟩
 have tA:Tch NoB w (w.alloc (.cells #[.int .u64 (n:Int),.string s1,.string s2,.string s3] 167)):=Ta _ _ _
 have hb:(w.alloc (.cells #[.int .u64 (n:Int),.string s1,.string s2,.string s3] 167)).heap.size=w.heap.size+1:=by simp
 rw [hb] at hp1
 rw [hb]
 have r0:=(ht1.block _ (by omega) (λh=>h)).trans (Qf _ _)
 obtain ⟨d0,d1,d2,d3⟩:=rows r0
 have HE1:Hid (Env E w1):=(HE.tch tA noE).tch ht1 noE
 have HP1:Hid (Jh E w1 (w.heap.size+1) none wd (some (.wr []))):=hp1
 have HT1:Hid _:=tA.trans ht1 noE
 have HC:Hid (∀k,Calls prog 86 _ (w1.drewN k) _):=λk=>Jh1 E (w.heap.size+1) (by omega) none wd n s1 s2 s3 (some (.wr [])) (w1.drewN k) (HE1.o.tch (Td NoB w1 k) noE) (HP1.o.next (Td _ w1 k)) (by show 0+_<=_;omega)
 go_wp2_with fail
 go_region_with (go_at_call 86;refine (HC 1).mono ?_;rintro _ w2 ⟨rfl,g2,(HP2:Hid _),hm2,(HT2:Hid _)⟩;clear hm2)
 all_goals
  have HR:Hid (Calls prog 79 _ w2 _):=ZK E (w.heap.size+1) g2 wd _ (Jkx JcY) w2 HP2.o
  have HT3:Hid _:=Xt (b:=w.heap.size+1) (by omega) (HT1.trans (Td NoB w1 1) noE) HT2.o
  go_wp2_with fail
  refine HR.o.mono ?_
  rintro _ w3 ⟨ht3,hr⟩
  have HR3:Hid _:=hr
  have HT4:Hid _:=ht3
  rcases hr.cases with ⟨d,hd,rfl⟩ | ⟨hn,t,u,rfl,he⟩
  all_goals
   go_wp2
   go_ret2
   exact ⟨HT3.trans HT4 noE,HR3⟩
theorem Ym (d:List UInt8) (v:Value):(PS.wr d).takes v:=λ_ _ h=>by cases h
theorem JfV {α:Type} {r:Option (α×PS)} (h:∀a p,r=some (a,p)->∃d,p=.wr d):stWr (r.map (·.2)):=λp hp=>by
 cases r with
 | none=>cases hp
 | some q=>obtain ⟨a,p'⟩:=q;cases hp;exact h a p' rfl
theorem Jcl {d:List UInt8} {p:PS} (h:(PS.wr d).like p):∃d',p=.wr d':=by
 cases p using PS.on with
 | rd q r=>cases h
 | wr d'=>exact ⟨d',rfl⟩
def outsB? (l:List (Nat×Nat)):Option (List UInt8):=Jad (((PS.wr []).listO 1 3 l).map (·.2))
def txB? (wd:Nat) (t:TxL):Option (List UInt8):=Jad (((PS.wr []).tx wd t).map (·.2))
def RetD (E:Nat->Addr) (r:Option BA) (e:Ending) (w':World):Prop:=match r with
 | some d=>e=.returned (.tuple #[.string d,.nilIface])
 | none=>∃t u,e=.returned (.tuple #[.string ⟨#[]⟩,.iface t u])/\Jl E 7 w' (.iface t u)

theorem Jfl (E:Nat->Addr) (wd:Nat) (hw1:1<=wd) (hw:wd<=32) (v:Value) (l:List (Nat×Nat)) (w:World) (hE:Env E w) (h1:Jo w.heap.size w v l) (hl1:l.length<1000000) (ho:∀x∈l,x.2<256):
  Calls prog 125 #[.int .i64 (wd:Int),v] w λe w'=>Tch NoB w w'/\RetD E ((outsB? l).map λd=>dgW wd (71 :: d)) e w':=by
 have hs:=hE.size
 have HE:Hid (Env E w):=hE
 have H1:Hid (Jo _ _ _ _):=h1
 have HO:Hid (∀x∈l,x.2<256):=ho
 obtain ⟨ia,ic,hvs⟩:=h1.shape
 have hlen:∀d,outsB? l=some d->d.length<=100:=λd hd=>by
  unfold outsB? at hd
  cases hq:(PS.wr []).listO 1 3 l with
  | none=>rw [hq] at hd;cases hd
  | some r=>
   obtain ⟨ys,p2⟩:=r
   obtain ⟨k1,_,k2,k3⟩:=Jaj h1 (Ym _ _) hq
   obtain ⟨d',rfl⟩:=Jcl k1
   rw [hq] at hd
   cases hd
   simp only [PS.len,Qv] at k3
   omega
 subst hvs
 go_enter func125,ntmps125
 go_wp2_with fail
 refine (JV _ _).mono ?_
 rintro _ w1 ⟨rfl,hp1,ht1⟩
 have HC:Hid (Calls prog 188 _ w1 _):=Zu E w.heap.size hs none wd _ l (.wr []) w1 (HE.o.tch ht1 noE) hp1 (H1.o.tch ht1 noE) hl1 (Ym _ _) HO.o (by show 0<=_;omega)
 have HT1:Hid _:=ht1
 go_wp2_with fail
 refine HC.mono ?_
 intro e w2 h
 obtain ⟨x1,x2,x3,rfl⟩:=h.shape
 obtain ⟨g2,hp2,ht2⟩:∃g2,Jh E w2 w.heap.size g2 wd (((PS.wr []).listO 1 3 l).map (·.2))/\Tch (λk=>k=w.heap.size\/some k=none) w1 w2:=by
  cases hq:(PS.wr []).listO 1 3 l with
  | none=>
   rw [hq] at h
   obtain ⟨_,g',p',vv,k1,k2,_,k4⟩:=h
   obtain ⟨t,u,rfl⟩:=k2.iface
   exact ⟨g',⟨p',t,u,k1,k2⟩,k4⟩
  | some r=>
   obtain ⟨ys,p2⟩:=r
   rw [hq] at h
   obtain ⟨_,_,_,_,g',k1,_,_,k4⟩:=h
   exact ⟨g',k1,k4⟩
 have hwr:stWr (((PS.wr []).listO 1 3 l).map (·.2)):=JfV λa p hq=>by
  obtain ⟨k1,_⟩:=Jaj H1.o (Ym [] _) hq
  exact Jcl k1
 have HR:Hid (Calls prog 79 _ w2 _):=ZK E w.heap.size g2 wd _ hwr w2 hp2
 have HT3:Hid _:=Xt (Ql _) HT1 ht2
 go_wp2_with fail
 refine HR.o.mono ?_
 rintro _ w3 ⟨ht3,hr⟩
 have HT4:Hid _:=HT3.trans ht3 noE
 rcases hr.cases with ⟨d,hd,rfl⟩ | ⟨hn,t,u,rfl,(HEE:Hid _)⟩
 ·have HD:Hid (outsB? l=some d):=hd
  obtain ⟨s1,hs1,hs2,ha1⟩:=Jcg [71] d (by have:=hlen d hd;omega) (by decide)
  have HOF:Hid (Calls prog 130 _ w3 _):=ZQ E wd s1 w3 (HE.tch HT4 noE) hw1 hw (by omega)
  have HS2:Hid _:=hs2
  clear hr hd hlen hs2
  go_wp2_with fail
  refine HOF.o.mono ?_
  rintro _ w4 ⟨rfl,ht4⟩
  have HT5:Hid _:=ht4
  go_wp2
  go_ret2
  refine ⟨HT4.trans HT5 noE,?_⟩
  rw [HD.o,HS2.o]
  rfl
 ·have HN:Hid (outsB? l=none):=hn
  clear hr hn hlen
  go_wp2
  go_ret2
  refine ⟨HT4,?_⟩
  rw [HN.o]
  exact ⟨t,u,rfl,HEE⟩

theorem JlS {b wd:Nat} {w:World} {x:Sl×Sl} {t:TxL} (hw:wd<=32) (hI:JaB b w (.wr []) x t) (d:List UInt8) (hd:txB? wd t=some d):d.length<=200:=by
 unfold txB? at hd
 cases hq:(PS.wr []).tx wd t with
 | none=>rw [hq] at hd;cases hd
 | some r=>
  obtain ⟨t',p2⟩:=r
  obtain ⟨k1,k2,_⟩:=Jf1 hw hI hq
  obtain ⟨d',rfl⟩:=Jcl k1
  rw [hq] at hd
  cases hd
  simpa [PS.len] using k2
theorem JkJ (E:Nat->Addr) (wd:Nat) (hw1:1<=wd) (hw:wd<=32) (x:Sl×Sl) (t:TxL) (w:World) (hE:Env E w) (h1:JB w.heap.size w (.slice x.1.1 x.1.2.1 x.1.2.2) t.1) (h2:Jo w.heap.size w (.slice x.2.1 x.2.2.1 x.2.2.2) t.2) (hl1:t.1.length<1000000) (hl2:t.2.length<1000000) (ho:∀x∈t.2,x.2<256):
  Calls prog 206 #[.int .i64 (wd:Int),.agg #[.slice x.1.1 x.1.2.1 x.1.2.2,.slice x.2.1 x.2.2.1 x.2.2.2]] w λe w'=>Tch NoB w w'/\RetD E ((txB? wd t).map λd=>dgW wd (84 :: d)) e w':=by
 have hs:=hE.size
 have HE:Hid _:=hE
 obtain ⟨⟨a1,n1,c1⟩,a2,n2,c2⟩:=x
 dsimp only at h1 h2 ⊢
 have HI:Hid (∀wA,Tch NoB w wA->JaB (w.heap.size+1) wA (.wr []) ((a1,n1,c1),(a2,n2,c2)) t):=λwA hT=>⟨(h1.tch hT noE).up (by omega),(h2.tch hT noE).up (by omega),hl1,hl2,Ym _ _,Ym _ _,ho⟩
 go_enter func206,ntmps206
 go_wp2_with fail
 refine (JV _ _).mono ?_
 rintro _ w1 ⟨rfl,hp1,ht1⟩
 have tA:Tch NoB w (w.alloc (.cells #[.slice a1 n1 c1,.slice a2 n2 c2] 98)):=Ta _ _ _
 have hb:(w.alloc (.cells #[.slice a1 n1 c1,.slice a2 n2 c2] 98)).heap.size=w.heap.size+1:=by simp
 rw [hb] at hp1
 rw [hb]
 have r0:=(ht1.block _ (by omega) (λh=>h)).trans (Qf _ _)
 obtain ⟨d0,d1⟩:=rows r0
 have HT1:Hid _:=(tA.trans ht1 noE).trans (Td NoB w1 1) noE
 have HC:Hid (Calls prog 134 _ w1.drew _):=JkK E (w.heap.size+1) (by omega) none wd hw ((a1,n1,c1),(a2,n2,c2)) t (.wr []) w1.drew (HE.tch HT1 noE) (hp1.tch (Td NoB w1 1) (λh=>h) (λ_ _ h=>h)) (HI _ HT1) (by show 0<=_;omega)
 have hlen:=JlS hw (HI _ HT1)
 have HWR:Hid (stWr (((PS.wr []).tx wd t).map (·.2))):=JfV λa p hq=>Jcl (Jhv hq)
 go_wp2_with fail
 go_region_with (go_at_call 134;refine HC.o.mono ?_;rintro _ w2 ⟨⟨⟨y1,y2,y3⟩,z1,z2,z3⟩,g2,rfl,hp2,hm2,ht2,_⟩;have HP2:Hid (Jh _ _ _ _ _ _):=hp2;have HT2:Hid (Tch _ _ w2):=ht2)
 all_goals
  have HR:Hid (Calls prog 79 _ w2 _):=ZK E (w.heap.size+1) g2 wd _ HWR w2 HP2.o
  have HT3:Hid _:=Xt (b:=w.heap.size+1) (by omega) HT1 HT2.o
  go_wp2_with fail
  refine HR.mono ?_
  rintro _ w3 ⟨ht3,hr⟩
  have HT4:Hid _:=HT3.trans ht3 noE
  rcases hr.cases with ⟨d,hd,rfl⟩ | ⟨hn,t',u,rfl,(HEE:Hid _)⟩
  ·have HD:Hid (txB? wd t=some d):=hd
   obtain ⟨s1,hs1,hs2,ha1⟩:=Jcg [84] d (by have:=hlen d hd;omega) (by decide)
   have HOF:Hid (Calls prog 130 _ w3 _):=ZQ E wd s1 w3 (HE.tch HT4 noE) hw1 hw (by omega)
   have HS2:Hid _:=hs2
   clear hr hd hlen hs2
   go_wp2_with fail
   refine HOF.o.mono ?_
   rintro _ w4 ⟨rfl,ht4⟩
   have HT5:Hid _:=ht4
   go_wp2
   go_ret2
   refine ⟨HT4.trans HT5 noE,?_⟩
   rw [HD.o,HS2.o]
   rfl
  ·have HN:Hid (txB? wd t=none):=hn
   clear hr hn hlen
   go_wp2
   go_ret2
   refine ⟨HT4,?_⟩
   rw [HN.o]
   exact ⟨t',u,rfl,HEE⟩

def stO (o:Nat×Nat) (st:Option PS):(Nat×Nat)×Option PS:=(((JF o.1 8 st).1,(JF o.2 1 (JF o.1 8 st).2).1),(JF o.2 1 (JF o.1 8 st).2).2)
def YD (wd:Nat) (k:List UInt8) (st:Option PS):List UInt8×Option PS:=
 ((Jj k (wd+1) st).1,match (Jj k (wd+1) st).2 with
  | none=>none
  | some p=>if 3<=((Jj k (wd+1) st).1.getD wd 0).toNat then none else some p)
def Yi (wd:Nat) (b:Int) (st:Option PS):Nat×Option PS:=((JF (JD b) 2 st).1,if 8 * (wd+1)<=(JF (JD b) 2 st).1 then none else (JF (JD b) 2 st).2)
def JK (wd:Nat) (k:BA) (o:Nat×Nat) (st:Option PS):(List UInt8×(Nat×Nat))×Option PS:=(((YD wd k.data.toList st).1,(stO o (YD wd k.data.toList st).2).1),(stO o (YD wd k.data.toList st).2).2)
def stBr (wd:Nat) (b:Int) (x y:BA) (st:Option PS):(Nat×List UInt8×List UInt8)×Option PS:=
 (((Yi wd b st).1,(Jj x.data.toList wd (Yi wd b st).2).1,(Jj y.data.toList wd (Jj x.data.toList wd (Yi wd b st).2).2).1),(Jj y.data.toList wd (Jj x.data.toList wd (Yi wd b st).2).2).2)
theorem JeJ (s:List UInt8) (k:Nat) (st:Option PS) (p:PS) (h:(Jj s k st).2=some p):(Jj s k st).1.length=k:=by
 cases st with
 | none=>cases h
 | some q=>
  cases hq:q.txt s k with
  | none=>rw [XX hq] at h;cases h
  | some r=>
   obtain ⟨t,p1⟩:=r
   rw [JL hq]
   cases q using PS.on with
   | rd a c=>
    simp only [PS.txt] at hq
    split at hq
    ·cases hq;simp;omega
    ·cases hq
   | wr d=>
    simp only [PS.txt] at hq
    split at hq
    ·cases hq;assumption
    ·cases hq
theorem JiH (wd:Nat) (k:List UInt8) (st:Option PS):JN (YD wd k st).2<=JN st+(wd+1):=by
 have:=Yc k (wd+1) st
 unfold YD
 dsimp only
 cases h:(Jj k (wd+1) st).2 with
 | none=>simp [JN]
 | some p=>
  rw [h] at this
  dsimp only
  split
  ·simp [JN]
  ·exact this
theorem Jd5 (wd:Nat) (b:Int) (st:Option PS):JN (Yi wd b st).2<=JN st+2:=by
 have:=JaA (JD b) 2 st
 unfold Yi
 dsimp only
 split
 ·simp [JN]
 ·exact this
theorem Jky {wd:Nat} {k:List UInt8} {st:Option PS} (h:stWr st):stWr (YD wd k st).2:=by
 have h1:=XT (s:=k) (k:=wd+1) h
 unfold YD
 dsimp only
 cases h2:(Jj k (wd+1) st).2 with
 | none=>exact ZH
 | some p=>
  rw [h2] at h1
  dsimp only
  split
  ·exact ZH
  ·exact h1
theorem Jkw {wd:Nat} {b:Int} {st:Option PS} (h:stWr st):stWr (Yi wd b st).2:=by
 unfold Yi
 dsimp only
 split
 ·exact ZH
 ·exact Jaq h
theorem JmL {o:Nat×Nat} {st:Option PS} (h:stWr st):stWr (stO o st).2:=Jaq (Jaq h)
theorem JiI {wd:Nat} {k:BA} {o:Nat×Nat} {st:Option PS} (h:stWr st):stWr (JK wd k o st).2:=JmL (Jky h)
theorem JlJ {wd:Nat} {b:Int} {x y:BA} {st:Option PS} (h:stWr st):stWr (stBr wd b x y st).2:=XT (XT (Jkw h))
theorem StTo.alloc {E:Nat->Addr} {w w2:World} {b:Nat} {g:Option Nat} {wd:Int} {st:Option PS} (h:StTo E w w2 b g wd st) (o:Obj):StTo E w (w2.alloc o) b g wd st:=by
 obtain ⟨g',h1,h2,h3⟩:=h
 exact ⟨g',h1.next (Ta _ _ _),h2,h3.trans (Ta NoB _ _) noE⟩
theorem set3 (w:World) (g:Nat) (t:TypeId) (a b c v0 v1 v2:Value) (h:w.heap[g]? =some (.cells #[a,b,c] t (0,0))):
  ((w.setCell ⟨g,0,none⟩ v0).setCell ⟨g,1,none⟩ v1).setCell ⟨g,2,none⟩ v2=w.setRow g #[v0,v1,v2]:=by
 rw [Qj w g 0 _ t (0,0) v0 h,Qj _ g 1 _ t (0,0) v1 (Qi _ _ _ _ _ _ h),QI,
  Qj _ g 2 _ t (0,0) v2 (Qi _ _ _ _ _ _ h),QI]
 refine congrArg (w.setRow g) ?_
 simp

theorem JmF (E:Nat->Addr) (b:Nat) (hb12:18<=b) (g:Option Nat) (wd:Int) (a o:Nat) (ho:o<256) (st:Option PS) (w:World) (hE:Env E w) (hp:Jh E w b g wd st) (hd:JN st<=90000000):
  Calls prog 205 #[.pointer (some ⟨b,0,none⟩),.agg #[.int .u64 (a:Int),.int .u8 (o:Int)]] w λe w'=>e=.returned (.agg #[.int .u64 ((stO (a,o) st).1.1:Int),.int .u8 ((stO (a,o) st).1.2:Int)])/\StTo E w w' b g wd (stO (a,o) st).2:=by
 have hlt:=hp.lt
 have HR0:=Run.start hb12 hE hp (Tch.allocs NoB w (.cells #[.int .u64 (a:Int),.int .u8 (o:Int)] 80) (.cells #[.int .u64 0,.int .u8 0] 80))
 have hl0:=JaA a 8 st
 have hm:=Jbl o 1 (JF a 8 st).2
 have hwo:IntKind.u64.wrap (o:Int)=(o:Int):=JA _ (by omega) (by omega)
 have RUN:Hid _:=HR0
 go_enter func205,ntmps205
 go_wp2_with fail
 refine (ZD E b g wd a 8 st _ RUN.env RUN.port (by omega) (by omega)).mono ?_
 rintro _ w1 ⟨rfl,h⟩
 obtain ⟨g1,(RUN1:Hid _)⟩:=RUN.step h
 have bx1:=(RUN1.box (k:=w.heap.size) (Ql _) (heap_alloc2_old _ _ _)).1
 obtain ⟨-,c1⟩:=rows bx1
 clear bx1 h
 go_wp2_with fail
 refine (ZD E b g1 wd o 1 _ _ RUN1.env RUN1.port (by omega) (by omega)).mono ?_
 rintro _ w2 ⟨rfl,h⟩
 obtain ⟨g2,(RUN2:Hid _)⟩:=RUN1.step h
 have rR:=(RUN2.box (k:=w.heap.size+1) (by omega) (heap_alloc2_new _ _ _)).1
 obtain ⟨e0,e1⟩:=rows rR
 have fR:∀j,w2.frozen? ⟨w.heap.size+1,j,none⟩=false:=λj=>Qg _ _ _ _ _ rR
 have hw8:IntKind.u8.wrap ((JF o 1 (JF a 8 st).2).1:Int)=((JF o 1 (JF a 8 st).2).1:Int):=Jbq _ (by omega) (by omega)
 have RR:Hid _:=rR
 clear rR h
 go_wp2
 rw [set2 _ _ _ _ _ _ _ RR.out]
 exact QJ (v:=.agg #[.int .u64 ((stO (a,o) st).1.1:Int),.int .u8 ((stO (a,o) st).1.2:Int)]) (Qq results205 _ _ (w.heap.size+1) _ _ (0,0) _ rfl (Qi _ _ _ _ _ _ RR) underlying80 rfl (by kernel_rfl)) rfl ⟨rfl,RUN2.done (k:=w.heap.size+1) (by omega) (heap_alloc2_new _ _ _) (by decide)⟩

theorem Jh.err {E:Nat->Addr} {w:World} {b:Nat} {g:Option Nat} {wd:Int} {st:Option PS} (h:Jh E w b g wd st):(st=none/\∃t u,w.cell? ⟨b,2,none⟩=some (.iface t u))\/((∃p,st=some p)/\w.cell? ⟨b,2,none⟩=some .nilIface):=by
 cases st with
 | some p=>exact .inr ⟨⟨p,rfl⟩,Jc.errCell h⟩
 | none=>obtain ⟨p,t,u,h1,_⟩:=h;exact .inl ⟨rfl,t,u,h1.errCell⟩
theorem Jmy (E:Nat->Addr) (b:Nat) (hb12:18<=b) (g:Option Nat) (wd:Nat) (hw:wd<=1000) (k:BA) (st:Option PS) (w:World) (hE:Env E w) (hp:Jh E w b g wd st) (hd:JN st<=90000000):
  Calls prog 294 #[.pointer (some ⟨b,0,none⟩),.string k] w λe w'=>e=.returned (.string ⟨(YD wd k.data.toList st).1.toArray⟩)/\StTo E w w' b g wd (YD wd k.data.toList st).2:=by
 have cw:=hp.width
 have hlt:=hp.lt
 have HC:Hid (Calls prog 209 _ w _):=JeO E b g wd k (wd+1) st w hE hp (by omega)
 have HE:Hid _:=hE
 have HP:Hid _:=hp
 have HK:Hid (YD wd k.data.toList st=((Jj k.data.toList (wd+1) st).1,match (Jj k.data.toList (wd+1) st).2 with
  | none=>none
  | some p=>if 3<=((Jj k.data.toList (wd+1) st).1.getD wd 0).toNat then none else some p)):=rfl
 have HL:Hid (∀p,(Jj k.data.toList (wd+1) st).2=some p->_):=λp h=>JeJ _ _ _ p h
 have hww:IntKind.i64.wrap ((wd:Int)+1)=(wd:Int)+1:=JC _ (by omega) (by omega)
 go_enter func294,ntmps294
 go_wp2_with fail
 refine HC.o.mono ?_
 rintro _ w1 ⟨rfl,g1,hp1,hm1,ht1⟩
 have hev:=hp1.err
 have cw1:=hp1.width
 have HE1:Hid _:=HE.tch ht1 (Jbm hb12 HP)
 have HP1:Hid _:=hp1
 have HM1:Hid _:=hm1
 have HT1:Hid _:=ht1
 rcases hev with ⟨hn,t,u,ce⟩ | ⟨⟨p,(HS:Hid _)⟩,ce⟩
 ·have HN:Hid _:=hn
  go_wp2
  go_ret
  refine ⟨by rw [HK.o];rfl,g1,?_,HM1,HT1⟩
  rw [HK.o,HN.o]
  have:=HP1.o
  rw [HN.o] at this
  exact this
 ·have hln:=HL p HS
  have hsz:(⟨(Jj k.data.toList (wd+1) st).1.toArray⟩:BA).size=wd+1:=by rw [Ju];exact hln
  have hix:wd<(⟨(Jj k.data.toList (wd+1) st).1.toArray⟩:BA).size:=by omega
  have HB:Hid ((⟨(Jj k.data.toList (wd+1) st).1.toArray⟩:BA)[wd].toNat=((Jj k.data.toList (wd+1) st).1.getD wd 0).toNat):=by
   show UInt8.toNat _=_
   congr 1
   simp [List.getD_eq_getElem?_getD,show wd<(Jj k.data.toList (wd+1) st).1.length by omega]
   rfl
  generalize hTB:(⟨(Jj k.data.toList (wd+1) st).1.toArray⟩:BA)=tb at *
  have HTB:Hid _:=hTB
  by_cases h3:3<=tb[wd].toNat
  ·have h3i:(3:Int)<=(tb[wd].toNat:Int):=by omega
   go_wp2_with fail
   refine (ZG E b g1 wd _ _ w1 HE1 HP1).mono ?_
   rintro _ w2 ⟨rfl,(HS2:Hid _)⟩
   go_wp2
   go_ret
   refine ⟨by rw [HK.o,HTB.o];rfl,?_⟩
   rw [HK.o]
   dsimp only
   rw [HS.o]
   dsimp only
   rw [if_pos (by rw [<-HB.o];exact h3)]
   exact StTo.trans HM1 HT1 HS2.o
  ·have h3i:¬(3:Int)<=(tb[wd].toNat:Int):=by omega
   go_wp2
   go_ret
   refine ⟨by rw [HK.o,HTB.o];rfl,g1,?_,HM1,HT1⟩
   rw [HK.o]
   dsimp only
   have:=HP1.o
   rw [HS.o] at this ⊢
   dsimp only
   rw [if_neg (by rw [<-HB.o];exact h3)]
   exact this
theorem Jjs (E:Nat->Addr) (b:Nat) (hb12:18<=b) (g:Option Nat) (wd:Nat) (hw:wd<=1000) (k:Int) (st:Option PS) (w:World) (hE:Env E w) (hp:Jh E w b g wd st) (hd:JN st<=90000000):
  Calls prog 292 #[.pointer (some ⟨b,0,none⟩),.int .i64 k] w λe w'=>e=.returned (.int .i64 ((Yi wd k st).1:Int))/\StTo E w w' b g wd (Yi wd k st).2:=by
 have hx:=Jcu k
 have HE:Hid _:=hE
 have HP:Hid _:=hp
 have HK:Hid (Yi wd k st=((JF (JD k) 2 st).1,if 8 * (wd+1)<=(JF (JD k) 2 st).1 then none else (JF (JD k) 2 st).2)):=rfl
 go_enter func292,ntmps292
 go_wp2_with fail
 refine (ZD E b g wd (JD k) 2 st w HE HP (by omega) (by omega)).mono ?_
 rintro _ w1 ⟨rfl,g1,hp1,(HM1:Hid _),(HT1:Hid _)⟩
 have cw1:=hp1.width
 have hm:=Jbl (JD k) 2 st
 have HE1:Hid _:=HE.tch HT1 (Jbm hb12 HP)
 have HP1:Hid _:=hp1
 clear hp1
 generalize (JF (JD k) 2 st).1=m at *
 have hwm:IntKind.i64.wrap (m:Int)=(m:Int):=JC _ (by omega) (by omega)
 have hww:IntKind.i64.wrap ((wd:Int)+1)=(wd:Int)+1:=JC _ (by omega) (by omega)
 have hw8:IntKind.i64.wrap (8 * ((wd:Int)+1))=8 * ((wd:Int)+1):=JC _ (by omega) (by omega)
 have hwu:IntKind.u64.wrap (8 * ((wd:Int)+1))=8 * ((wd:Int)+1):=JA _ (by omega) (by omega)
 by_cases h3:8 * (wd+1)<=m
 ·have h3i:8 * ((wd:Int)+1)<=(m:Int):=by omega
  go_wp2_with (first | (go_at_call 200;refine (ZG E b g1 wd _ _ w1 HE1 HP1).mono ?_;rintro _ w2 ⟨rfl,(HS2:Hid _)⟩) | go_in)
  go_ret
  refine ⟨by rw [HK.o];rfl,?_⟩
  rw [HK.o,if_pos h3]
  exact StTo.trans HM1 HT1 HS2.o
 ·have h3i:¬8 * ((wd:Int)+1)<=(m:Int):=by omega
  go_wp2
  go_ret
  refine ⟨by rw [HK.o];rfl,g1,?_,HM1,HT1⟩
  rw [HK.o,if_neg h3]
  exact HP1.o
theorem Jhj (E:Nat->Addr) (b:Nat) (hb12:18<=b) (g:Option Nat) (wd:Nat) (hw:wd<=1000) (k:BA) (a o:Nat) (ho:o<256) (st:Option PS) (w:World) (hE:Env E w) (hp:Jh E w b g wd st) (hd:JN st<=80000000):
  Calls prog 222 #[.pointer (some ⟨b,0,none⟩),.agg #[.string k,.int .u64 (a:Int),.int .u8 (o:Int)]] w λe w'=>e=.returned (.agg #[.string ⟨(JK wd k (a,o) st).1.1.toArray⟩,.int .u64 ((JK wd k (a,o) st).1.2.1:Int),.int .u8 ((JK wd k (a,o) st).1.2.2:Int)])/\StTo E w w' b g wd (JK wd k (a,o) st).2:=by
 have hlt:=hp.lt
 have HR0:=Run.start hb12 hE hp (Tch.allocs NoB w (.cells #[.string k,.int .u64 (a:Int),.int .u8 (o:Int)] 256) (.cells #[.string ⟨#[]⟩,.int .u64 0,.int .u8 0] 256))
 have hl0:=JiH wd k.data.toList st
 have RUN:Hid _:=HR0
 go_enter func222,ntmps222
 go_wp2_with fail
 refine (Jmy E b hb12 g wd hw k st _ RUN.env RUN.port (by omega)).mono ?_
 rintro _ w1 ⟨rfl,h⟩
 obtain ⟨g1,(RUN1:Hid _)⟩:=RUN.step h
 have bx1:=(RUN1.box (k:=w.heap.size) (Ql _) (heap_alloc2_old _ _ _)).1
 obtain ⟨-,c1,c2⟩:=rows bx1
 clear bx1 h
 go_wp2_with fail
 refine (JmF E b hb12 g1 wd a o ho _ _ RUN1.env RUN1.port (by omega)).mono ?_
 rintro _ w2 ⟨rfl,h⟩
 obtain ⟨g2,(RUN2:Hid _)⟩:=RUN1.step h
 have rR:=(RUN2.box (k:=w.heap.size+1) (by omega) (heap_alloc2_new _ _ _)).1
 obtain ⟨e0,e1,e2⟩:=rows rR
 have fR:∀j,w2.frozen? ⟨w.heap.size+1,j,none⟩=false:=λj=>Qg _ _ _ _ _ rR
 have hsz2:=(Jb rR)
 have RR:Hid _:=rR
 clear rR h
 go_wp2
 rw [set3 _ _ _ _ _ _ _ _ _ RR.out]
 exact QJ (v:=.agg #[.string ⟨(JK wd k (a,o) st).1.1.toArray⟩,.int .u64 ((JK wd k (a,o) st).1.2.1:Int),.int .u8 ((JK wd k (a,o) st).1.2.2:Int)]) (Qq results222 _ _ (w.heap.size+1) _ _ (0,0) _ rfl ((Below.heap_alloc _ _ _ (by simpa using hsz2)).trans (Qi _ _ _ _ _ _ RR)) underlying256 rfl (by kernel_rfl)) rfl ⟨rfl,(RUN2.done (k:=w.heap.size+1) (by omega) (heap_alloc2_new _ _ _) (by decide)).alloc _⟩
theorem JhE (E:Nat->Addr) (b:Nat) (hb12:18<=b) (g:Option Nat) (wd:Nat) (hw:wd<=1000) (k:Int) (x y:BA) (st:Option PS) (w:World) (hE:Env E w) (hp:Jh E w b g wd st) (hd:JN st<=80000000):
  Calls prog 308 #[.pointer (some ⟨b,0,none⟩),.agg #[.int .i64 k,.string x,.string y]] w λe w'=>e=.returned (.agg #[.int .i64 ((stBr wd k x y st).1.1:Int),.string ⟨(stBr wd k x y st).1.2.1.toArray⟩,.string ⟨(stBr wd k x y st).1.2.2.toArray⟩])/\StTo E w w' b g wd (stBr wd k x y st).2:=by
 have hlt:=hp.lt
 have HR0:=Run.start hb12 hE hp (Tch.allocs NoB w (.cells #[.int .i64 k,.string x,.string y] 279) (.cells #[.int .i64 0,.string ⟨#[]⟩,.string ⟨#[]⟩] 279))
 have hl0:=Jd5 wd k st
 have hl1:=Yc x.data.toList wd (Yi wd k st).2
 have RUN:Hid _:=HR0
 go_enter func308,ntmps308
 go_wp2_with fail
 refine (Jjs E b hb12 g wd hw k st _ RUN.env RUN.port (by omega)).mono ?_
 rintro _ w1 ⟨rfl,h⟩
 obtain ⟨g1,(RUN1:Hid _)⟩:=RUN.step h
 have bx1:=(RUN1.box (k:=w.heap.size) (Ql _) (heap_alloc2_old _ _ _)).1
 obtain ⟨-,c1⟩:=rows bx1
 clear bx1 h
 go_wp2_with fail
 refine (Ys E b g1 wd x _ _ RUN1.env RUN1.port (by omega)).mono ?_
 rintro _ w2 ⟨rfl,h⟩
 obtain ⟨g2,(RUN2:Hid _)⟩:=RUN1.step h
 have bx2:=(RUN2.box (k:=w.heap.size) (Ql _) (heap_alloc2_old _ _ _)).1
 obtain ⟨-, -,c2⟩:=rows bx2
 clear bx2 h
 go_wp2_with fail
 refine (Ys E b g2 wd y _ _ RUN2.env RUN2.port (by omega)).mono ?_
 rintro _ w3 ⟨rfl,h⟩
 obtain ⟨g3,(RUN3:Hid _)⟩:=RUN2.step h
 have rR:=(RUN3.box (k:=w.heap.size+1) (by omega) (heap_alloc2_new _ _ _)).1
 obtain ⟨e0,e1,e2⟩:=rows rR
 have fR:∀j,w3.frozen? ⟨w.heap.size+1,j,none⟩=false:=λj=>Qg _ _ _ _ _ rR
 have RR:Hid _:=rR
 clear rR h
 go_wp2
 rw [set3 _ _ _ _ _ _ _ _ _ RR.out]
 exact QJ (v:=.agg #[.int .i64 ((stBr wd k x y st).1.1:Int),.string ⟨(stBr wd k x y st).1.2.1.toArray⟩,.string ⟨(stBr wd k x y st).1.2.2.toArray⟩]) (Qq results308 _ _ (w.heap.size+1) _ _ (0,0) _ rfl (Qi _ _ _ _ _ _ RR) underlying279 rfl (by kernel_rfl)) rfl ⟨rfl,RUN3.done (k:=w.heap.size+1) (by omega) (heap_alloc2_new _ _ _) (by decide)⟩
