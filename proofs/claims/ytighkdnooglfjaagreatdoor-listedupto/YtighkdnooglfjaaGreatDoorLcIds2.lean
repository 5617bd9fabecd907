import Derived.Test.YtighkdnooglfjaaGreatDoorLcTxS
namespace Go.Proofs.YtighkdnooglfjaaGreatDoor
open Tryz
set_option maxRecDepth 100000
set_option maxHeartbeats 1000000
open Go.RowKit

variable {b k wj:Nat}{E:Nat->Addr}{o:Nat×Nat}{g:Option Nat}{st:Option PS}{w w2:World}
def RetS(E:Nat->Addr)(r:Option (List UInt8))(e:Ending)(w':World):Prop:=match r with
 | some d=>e=.returned (.tuple #[.string ⟨d.toArray⟩,.nilIface])
 | none=>∃t u,e=.returned (.tuple #[.string ⟨#[]⟩,.iface t u])/\Jp E 7 w' (.iface t u)
theorem RetS.cases{r:Option (List UInt8)}{e:Ending}{w':World}(h:RetS E r e w'):(∃d,r=some d/\e=.returned (.tuple #[.string ⟨d.toArray⟩,.nilIface]))\/(r=none/\∃t u,e=.returned (.tuple #[.string ⟨#[]⟩,.iface t u])/\Jp E 7 w' (.iface t u)):=by
 cases r with
 | none=>exact .inr ⟨rfl,h⟩
 | some d=>exact .inl ⟨d,rfl,h⟩
def ZV:Option PS->Option (List UInt8)
 | some (⟨.inr d⟩)=>some d
 | _=>none
def stWr(st:Option PS):Prop:=∀p,st=some p->∃d,p=.wr d
theorem JaI{x:Nat}(h:stWr st):stWr (JQ x k st).2:=by
 intro p hp
 cases st with
 | none=>cases hp
 | some q=>
  obtain⟨d,rfl⟩:=h q rfl
  cases hq:(PS.wr d).num x k with
  | none=>rw[Jbk hq]at hp;cases hp
  | some r=>
   obtain⟨m,p1⟩:=r;rw[XQ hq]at hp
   cases hp
   simp only[PS.num]at hq
   split at hq
   ·cases hq;exact⟨_,rfl⟩
   ·cases hq
theorem Yl{s:List UInt8}(h:stWr st):stWr (Jl s k st).2:=by
 intro p hp
 cases st with
 | none=>cases hp
 | some q=>
  obtain⟨d,rfl⟩:=h q rfl
  cases hq:(PS.wr d).txt s k with
  | none=>rw[YM hq]at hp;cases hp
  | some r=>
   obtain⟨m,p1⟩:=r;rw[Xg hq]at hp
   cases hp
   simp only[PS.txt]at hq
   split at hq
   ·cases hq;exact⟨_,rfl⟩
   ·cases hq
theorem JdF:stWr (some (.wr [])):=λp hp=>by cases hp;exact⟨_,rfl⟩
theorem ZW:stWr none:=λp hp=>by cases hp
theorem JjS{c:BA×Int}(h:stWr st):stWr (YK wj c st).2:=by
 unfold YK;dsimp only
 split
 ·exact ZW
 ·exact JaI (Yl h)
theorem JlI{h:HdL}(hw:stWr st):stWr (ZD wj h st).2:=Yl (Yl (Yl (JaI hw)))
theorem Zl(E:Nat->Addr)(b:Nat)(g:Option Nat)(wj:Int)(st:Option PS)(hw:stWr st)(w:World)(hp:Ji E w b g wj st):
  Calls prog 79 #[.pointer (some ⟨b,0,none⟩)] w λe w'=>Tch NoB w w'/\RetS E (ZV st) e w':=by
 refine(JaL E b g wj st hw w hp).mono ?_;rintro e w'⟨h1,h2⟩;refine⟨h1,?_⟩
 cases st with
 | none=>exact h2
 | some p=>obtain⟨d,rfl⟩:=hw p rfl;exact h2
theorem XH{w1:World}(hb:w.heap.size<=b)(h1:Tch NoB w w1)(h2:Tch (λk=>k=b\/some k=none) w1 w2):Tch NoB w w2:=
 h1.trans h2 (λj hj=>by
  rcases hj with rfl|hj
  ·exact .inr hb
  ·cases hj)
theorem Jbg(E:Nat->Addr)(wj:Nat)(s:BA)(w:World)(hE:Env E w)(h1:1<=wj)(h32:wj<=32)(hs:s.size<=1000000000):
  Calls prog 130 #[.int .i64 (wj:Int),.string s] w λe w'=>e=.returned (.string (dgW wj s.data.toList))/\Tch NoB w w':=
 (Jll wj s w h1 h32 (by omega) (Qk (by decide) hE.size) hE.table).mono λe w' ⟨k1,k2⟩=>⟨k1,(Tch.of_below k2).mono (λj hj=>.inr hj)⟩
theorem JcH(a:List UInt8)(d:List UInt8)(h:d.length<=1000000)(ha:a.length<=100):∃s:BA,s.size<=1000100/\s.data.toList=a++d/\∀W,(Op.stringOp .add (⟨a.toArray⟩:BA) ⟨d.toArray⟩).run prog W=.ok (.string s) W:=
 ⟨_,by rw[ByteArray.size_append];show a.toArray.size+d.toArray.size<=1000100;simp;omega,by simp,λW=>run_string_add_sum (P:=prog) W _ _ (by show a.toArray.size+d.toArray.size<=_;simp;omega)⟩

theorem Jhr(E:Nat->Addr)(wj:Nat)(hw:wj<=1000)(c:BA×Int)(w:World)(hE:Env E w):
  Calls prog 145 #[.int .i64 (wj:Int),.agg #[.string c.1,.int .i64 c.2]] w λe w'=>Tch NoB w w'/\RetS E (ZV (YK wj c (some (.wr []))).2) e w':=by
 have hs:=hE.size;have HE:Hid _:=hE;obtain⟨s,N⟩:=c;dsimp only;go_enter func145,ntmps145;go_wp2_with fail;refine(Xf _ _).mono ?_;rintro _ w1⟨rfl,hp1,ht1⟩;have tA:Tch NoB w (w.alloc (.cells #[.string s,.int .i64 N] 49)):=Ta _ _ _;have hb:(w.alloc (.cells #[.string s,.int .i64 N] 49)).heap.size=w.heap.size+1:=by simp
 rw[hb]at hp1;rw[hb];have r0:=(ht1.block _ (by omega) (λh=>h)).trans (Qf _ _);obtain⟨d0,d1⟩:=rows r0;have HE1:Hid (Env E w1):=(HE.tch tA noE).tch ht1 noE;have HP1:Hid (Ji E w1 (w.heap.size+1) none wj (some (.wr []))):=hp1;have HT1:Hid _:=tA.trans ht1 noE;have HC:Hid (∀k,Calls prog 203 _ (w1.drewN k) _):=λk=>Jii E (w.heap.size+1) (by omega) none wj (s,N) (some (.wr [])) (w1.drewN k) (HE1.o.tch (Td NoB w1 k) noE) (HP1.o.next (Td _ w1 k)) (by show 0+_<=_;omega);go_wp2_with fail;go_region_with (go_at_call 203;refine(HC 1).mono ?_;rintro _ w2⟨rfl,g2,(HP2:Hid _),hm2,(HT2:Hid _)⟩;clear hm2)
 all_goals
  have HR:Hid (Calls prog 79 _ w2 _):=Zl E (w.heap.size+1) g2 wj _ (JjS JdF) w2 HP2.o;have HT3:Hid _:=XH (b:=w.heap.size+1) (by omega) (HT1.trans (Td NoB w1 1) noE) HT2.o;go_wp2_with fail;refine HR.o.mono ?_;rintro _ w3⟨ht3,hr⟩;have HR3:Hid _:=hr;have HT4:Hid _:=ht3
  rcases hr.cases with⟨d,hd,rfl⟩|⟨hn,t,u,rfl,he⟩
  all_goals go_wp2;go_ret2;exact⟨HT3.trans HT4 noE,HR3⟩
theorem Jap(E:Nat->Addr)(wj:Nat)(hw:wj<=1000)(n:Nat)(s1 s2 s3:BA)(w:World)(hE:Env E w):
  Calls prog 84 #[.int .i64 (wj:Int),.agg #[.int .u64 (n:Int),.string s1,.string s2,.string s3]] w λe w'=>Tch NoB w w'/\RetS E (ZV (ZD wj (n,s1,s2,s3) (some (.wr []))).2) e w':=by
 have hs:=hE.size;have HE:Hid _:=hE;go_enter func84,ntmps84;go_wp2_with fail;refine(Xf _ _).mono ?_;rintro _ w1⟨rfl,hp1,ht1⟩;have tA:Tch NoB w (w.alloc (.cells #[.int .u64 (n:Int),.string s1,.string s2,.string s3] 167)):=Ta _ _ _;have hb:(w.alloc (.cells #[.int .u64 (n:Int),.string s1,.string s2,.string s3] 167)).heap.size=w.heap.size+1:=by simp
 rw[hb]at hp1;rw[hb];have r0:=(ht1.block _ (by omega) (λh=>h)).trans (Qf _ _);obtain⟨d0,d1,d2,d3⟩:=rows r0;have HE1:Hid (Env E w1):=(HE.tch tA noE).tch ht1 noE;have HP1:Hid (Ji E w1 (w.heap.size+1) none wj (some (.wr []))):=hp1;have HT1:Hid _:=tA.trans ht1 noE;have HC:Hid (∀k,Calls prog 86 _ (w1.drewN k) _):=λk=>Jjb E (w.heap.size+1) (by omega) none wj n s1 s2 s3 (some (.wr [])) (w1.drewN k) (HE1.o.tch (Td NoB w1 k) noE) (HP1.o.next (Td _ w1 k)) (by show 0+_<=_;omega);go_wp2_with fail;go_region_with (go_at_call 86;refine(HC 1).mono ?_;rintro _ w2⟨rfl,g2,(HP2:Hid _),hm2,(HT2:Hid _)⟩;clear hm2)
 all_goals
  have HR:Hid (Calls prog 79 _ w2 _):=Zl E (w.heap.size+1) g2 wj _ (JlI JdF) w2 HP2.o;have HT3:Hid _:=XH (b:=w.heap.size+1) (by omega) (HT1.trans (Td NoB w1 1) noE) HT2.o;go_wp2_with fail;refine HR.o.mono ?_;rintro _ w3⟨ht3,hr⟩;have HR3:Hid _:=hr;have HT4:Hid _:=ht3
  rcases hr.cases with⟨d,hd,rfl⟩|⟨hn,t,u,rfl,he⟩
  all_goals go_wp2;go_ret2;exact⟨HT3.trans HT4 noE,HR3⟩
theorem YE(d:List UInt8)(v:Value):(PS.wr d).takes v:=λ_ _ h=>by cases h
theorem JgX{α:Type}{r:Option (α×PS)}(h:∀a p,r=some (a,p)->∃d,p=.wr d):stWr (r.map (·.2)):=λp hp=>by
 cases r with
 | none=>cases hp
 | some q=>obtain⟨a,p'⟩:=q;cases hp;exact h a p' rfl
theorem JcN{d:List UInt8}{p:PS}(h:(PS.wr d).like p):∃d',p=.wr d':=by
 cases p using PS.on with
 | rd q r=>cases h
 | wr d'=>exact⟨d',rfl⟩
def outsB?(l:List (Nat×Nat)):Option (List UInt8):=ZV (((PS.wr []).listO 1 3 l).map (·.2))
def txB?(wj:Nat)(t:TxL):Option (List UInt8):=ZV (((PS.wr []).tx wj t).map (·.2))
def RetD(E:Nat->Addr)(r:Option BA)(e:Ending)(w':World):Prop:=match r with
 | some d=>e=.returned (.tuple #[.string d,.nilIface])
 | none=>∃t u,e=.returned (.tuple #[.string ⟨#[]⟩,.iface t u])/\Jp E 7 w' (.iface t u)

theorem Jgb(E:Nat->Addr)(wj:Nat)(hw1:1<=wj)(hw:wj<=32)(v:Value)(l:List (Nat×Nat))(w:World)(hE:Env E w)(h1:Jq w.heap.size w v l)(hl1:l.length<1000000)(ho:∀x∈l,x.2<256):
  Calls prog 125 #[.int .i64 (wj:Int),v] w λe w'=>Tch NoB w w'/\RetD E ((outsB? l).map λd=>dgW wj (71::d)) e w':=by
 have hs:=hE.size;have HE:Hid (Env E w):=hE;have H1:Hid (Jq _ _ _ _):=h1;have HO:Hid (∀x∈l,x.2<256):=ho;obtain⟨ia,ic,hvs⟩:=h1.shape;have hlen:∀d,outsB? l=some d->d.length<=100:=λd hd=>by
  unfold outsB? at hd
  cases hq:(PS.wr []).listO 1 3 l with
  | none=>rw[hq]at hd;cases hd
  | some r=>
   obtain⟨ys,p2⟩:=r;obtain⟨k1,_,k2,k3⟩:=Jay h1 (YE _ _) hq;obtain⟨d',rfl⟩:=JcN k1;rw[hq]at hd
   cases hd
   simp only[PS.len,Qv]at k3;omega
 subst hvs;go_enter func125,ntmps125;go_wp2_with fail;refine(Xf _ _).mono ?_;rintro _ w1⟨rfl,hp1,ht1⟩;have HC:Hid (Calls prog 188 _ w1 _):=Ja1 E w.heap.size hs none wj _ l (.wr []) w1 (HE.o.tch ht1 noE) hp1 (H1.o.tch ht1 noE) hl1 (YE _ _) HO.o (by show 0<=_;omega);have HT1:Hid _:=ht1;go_wp2_with fail;refine HC.mono ?_;intro e w2 h;obtain⟨x1,x2,x3,rfl⟩:=h.shape;obtain⟨g2,hp2,ht2⟩:∃g2,Ji E w2 w.heap.size g2 wj (((PS.wr []).listO 1 3 l).map (·.2))/\Tch (λk=>k=w.heap.size\/some k=none) w1 w2:=by
  cases hq:(PS.wr []).listO 1 3 l with
  | none=>
   rw[hq]at h;obtain⟨_,g',p',vv,k1,k2,_,k4⟩:=h;obtain⟨t,u,rfl⟩:=k2.iface;exact⟨g',⟨p',t,u,k1,k2⟩,k4⟩
  | some r=>
   obtain⟨ys,p2⟩:=r;rw[hq]at h;obtain⟨_,_,_,_,g',k1,_,_,k4⟩:=h;exact⟨g',k1,k4⟩
 have hwr:stWr (((PS.wr []).listO 1 3 l).map (·.2)):=JgX λa p hq=>by
  obtain⟨k1,_⟩:=Jay H1.o (YE [] _) hq;exact JcN k1
 have HR:Hid (Calls prog 79 _ w2 _):=Zl E w.heap.size g2 wj _ hwr w2 hp2;have HT3:Hid _:=XH (Ql _) HT1 ht2;go_wp2_with fail;refine HR.o.mono ?_;rintro _ w3⟨ht3,hr⟩;have HT4:Hid _:=HT3.trans ht3 noE
 rcases hr.cases with⟨d,hd,rfl⟩|⟨hn,t,u,rfl,(HEE:Hid _)⟩
 ·have HD:Hid (outsB? l=some d):=hd;obtain⟨s1,hs1,hs2,ha1⟩:=JcH [71] d (by have:=hlen d hd;omega) (by decide);have HOF:Hid (Calls prog 130 _ w3 _):=Jbg E wj s1 w3 (HE.tch HT4 noE) hw1 hw (by omega);have HS2:Hid _:=hs2;clear hr hd hlen hs2;go_wp2_with fail;refine HOF.o.mono ?_;rintro _ w4⟨rfl,ht4⟩;have HT5:Hid _:=ht4;go_wp2;go_ret2;refine⟨HT4.trans HT5 noE,?_⟩;rw[HD.o,HS2.o];rfl
 ·have HN:Hid (outsB? l=none):=hn;clear hr hn hlen;go_wp2;go_ret2;refine⟨HT4,?_⟩;rw[HN.o];exact⟨t,u,rfl,HEE⟩

theorem JmZ{x:Sl×Sl}{t:TxL}(hw:wj<=32)(hI:JaZ b w (.wr []) x t)(d:List UInt8)(hd:txB? wj t=some d):d.length<=200:=by
 unfold txB? at hd
 cases hq:(PS.wr []).tx wj t with
 | none=>rw[hq]at hd;cases hd
 | some r=>
  obtain⟨t',p2⟩:=r;obtain⟨k1,k2,_⟩:=Jg3 hw hI hq;obtain⟨d',rfl⟩:=JcN k1;rw[hq]at hd
  cases hd
  simpa [PS.len]using k2
theorem JlU(E:Nat->Addr)(wj:Nat)(hw1:1<=wj)(hw:wj<=32)(x:Sl×Sl)(t:TxL)(w:World)(hE:Env E w)(h1:JD w.heap.size w (.slice x.1.1 x.1.2.1 x.1.2.2) t.1)(h2:Jq w.heap.size w (.slice x.2.1 x.2.2.1 x.2.2.2) t.2)(hl1:t.1.length<1000000)(hl2:t.2.length<1000000)(ho:∀x∈t.2,x.2<256):
  Calls prog 206 #[.int .i64 (wj:Int),.agg #[.slice x.1.1 x.1.2.1 x.1.2.2,.slice x.2.1 x.2.2.1 x.2.2.2]] w λe w'=>Tch NoB w w'/\RetD E ((txB? wj t).map λd=>dgW wj (84::d)) e w':=by
 have hs:=hE.size;have HE:Hid _:=hE;obtain⟨⟨a1,n1,c1⟩,a2,n2,c2⟩:=x;dsimp only at h1 h2 ⊢;have HI:Hid (∀wA,Tch NoB w wA->JaZ (w.heap.size+1) wA (.wr []) ((a1,n1,c1),(a2,n2,c2)) t):=λwA hT=>⟨(h1.tch hT noE).up (by omega),(h2.tch hT noE).up (by omega),hl1,hl2,YE _ _,YE _ _,ho⟩
 go_enter func206,ntmps206;go_wp2_with fail;refine(Xf _ _).mono ?_;rintro _ w1⟨rfl,hp1,ht1⟩;have tA:Tch NoB w (w.alloc (.cells #[.slice a1 n1 c1,.slice a2 n2 c2] 98)):=Ta _ _ _;have hb:(w.alloc (.cells #[.slice a1 n1 c1,.slice a2 n2 c2] 98)).heap.size=w.heap.size+1:=by simp
 rw[hb]at hp1;rw[hb];have r0:=(ht1.block _ (by omega) (λh=>h)).trans (Qf _ _);obtain⟨d0,d1⟩:=rows r0;have HT1:Hid _:=(tA.trans ht1 noE).trans (Td NoB w1 1) noE;have HC:Hid (Calls prog 134 _ w1.drew _):=JlV E (w.heap.size+1) (by omega) none wj hw ((a1,n1,c1),(a2,n2,c2)) t (.wr []) w1.drew (HE.tch HT1 noE) (hp1.tch (Td NoB w1 1) (λh=>h) (λ_ _ h=>h)) (HI _ HT1) (by show 0<=_;omega);have hlen:=JmZ hw (HI _ HT1);have HWR:Hid (stWr (((PS.wr []).tx wj t).map (·.2))):=JgX λa p hq=>JcN (JiC hq);go_wp2_with fail;go_region_with (go_at_call 134;refine HC.o.mono ?_;rintro _ w2⟨⟨⟨y1,y2,y3⟩,z1,z2,z3⟩,g2,rfl,hp2,hm2,ht2,_⟩;have HP2:Hid (Ji _ _ _ _ _ _):=hp2;have HT2:Hid (Tch _ _ w2):=ht2)
 all_goals
  have HR:Hid (Calls prog 79 _ w2 _):=Zl E (w.heap.size+1) g2 wj _ HWR w2 HP2.o;have HT3:Hid _:=XH (b:=w.heap.size+1) (by omega) HT1 HT2.o;go_wp2_with fail;refine HR.mono ?_;rintro _ w3⟨ht3,hr⟩;have HT4:Hid _:=HT3.trans ht3 noE
  rcases hr.cases with⟨d,hd,rfl⟩|⟨hn,t',u,rfl,(HEE:Hid _)⟩
  ·have HD:Hid (txB? wj t=some d):=hd;obtain⟨s1,hs1,hs2,ha1⟩:=JcH [84] d (by have:=hlen d hd;omega) (by decide);have HOF:Hid (Calls prog 130 _ w3 _):=Jbg E wj s1 w3 (HE.tch HT4 noE) hw1 hw (by omega);have HS2:Hid _:=hs2;clear hr hd hlen hs2;go_wp2_with fail;refine HOF.o.mono ?_;rintro _ w4⟨rfl,ht4⟩;have HT5:Hid _:=ht4;go_wp2;go_ret2;refine⟨HT4.trans HT5 noE,?_⟩;rw[HD.o,HS2.o];rfl
  ·have HN:Hid (txB? wj t=none):=hn;clear hr hn hlen;go_wp2;go_ret2;refine⟨HT4,?_⟩;rw[HN.o];exact⟨t',u,rfl,HEE⟩

def stO(o:Nat×Nat)(st:Option PS):(Nat×Nat)×Option PS:=(((JQ o.1 8 st).1,(JQ o.2 1 (JQ o.1 8 st).2).1),(JQ o.2 1 (JQ o.1 8 st).2).2)
def Zv(wj:Nat)(k:List UInt8)(st:Option PS):List UInt8×Option PS:=
 ((Jl k (wj+1) st).1,match (Jl k (wj+1) st).2 with
  | none=>none
  | some p=>if 3<=((Jl k (wj+1) st).1.getD wj 0).toNat then none else some p)
def Zc(wj:Nat)(b:Int)(st:Option PS):Nat×Option PS:=((JQ (JE b) 2 st).1,if 8*(wj+1)<=(JQ (JE b) 2 st).1 then none else (JQ (JE b) 2 st).2)
def XV(wj:Nat)(k:BA)(o:Nat×Nat)(st:Option PS):(List UInt8×(Nat×Nat))×Option PS:=(((Zv wj k.data.toList st).1,(stO o (Zv wj k.data.toList st).2).1),(stO o (Zv wj k.data.toList st).2).2)
def stBr(wj:Nat)(b:Int)(x y:BA)(st:Option PS):(Nat×List UInt8×List UInt8)×Option PS:=
 (((Zc wj b st).1,(Jl x.data.toList wj (Zc wj b st).2).1,(Jl y.data.toList wj (Jl x.data.toList wj (Zc wj b st).2).2).1),(Jl y.data.toList wj (Jl x.data.toList wj (Zc wj b st).2).2).2)
theorem Jfw(s:List UInt8)(k:Nat)(st:Option PS)(p:PS)(h:(Jl s k st).2=some p):(Jl s k st).1.length=k:=by
 cases st with
 | none=>cases h
 | some q=>
  cases hq:q.txt s k with
  | none=>rw[YM hq]at h;cases h
  | some r=>
   obtain⟨t,p1⟩:=r;rw[Xg hq]
   cases q using PS.on with
   | rd a c=>
    simp only[PS.txt]at hq
    split at hq
    ·cases hq;simp;omega
    ·cases hq
   | wr d=>
    simp only[PS.txt]at hq
    split at hq
    ·cases hq;assumption
    ·cases hq
theorem JjT(wj:Nat)(k:List UInt8)(st:Option PS):Xb (Zv wj k st).2<=Xb st+(wj+1):=by
 have:=Yx k (wj+1) st;unfold Zv;dsimp only
 cases h:(Jl k (wj+1) st).2 with
 | none=>simp[Xb]
 | some p=>
  rw[h]at this;dsimp only
  split
  ·simp[Xb]
  ·exact this
theorem JjR(wj:Nat)(b:Int)(st:Option PS):Xb (Zc wj b st).2<=Xb st+2:=by
 have:=JaY (JE b) 2 st;unfold Zc;dsimp only
 split
 ·simp[Xb]
 ·exact this
theorem JlJ{k:List UInt8}(h:stWr st):stWr (Zv wj k st).2:=by
 have h1:=Yl (s:=k) (k:=wj+1) h;unfold Zv;dsimp only
 cases h2:(Jl k (wj+1) st).2 with
 | none=>exact ZW
 | some p=>
  rw[h2]at h1;dsimp only
  split
  ·exact ZW
  ·exact h1
theorem JlH{b:Int}(h:stWr st):stWr (Zc wj b st).2:=by
 unfold Zc;dsimp only
 split
 ·exact ZW
 ·exact JaI h
theorem JnY(h:stWr st):stWr (stO o st).2:=JaI (JaI h)
theorem JjU{k:BA}(h:stWr st):stWr (XV wj k o st).2:=JnY (JlJ h)
theorem JmU{b:Int}{x y:BA}(h:stWr st):stWr (stBr wj b x y st).2:=Yl (Yl (JlH h))
theorem StTo.alloc{wj:Int}(h:StTo E w w2 b g wj st)(o:Obj):StTo E w (w2.alloc o) b g wj st:=by
 obtain⟨g',h1,h2,h3⟩:=h;exact⟨g',h1.next (Ta _ _ _),h2,h3.trans (Ta NoB _ _) noE⟩
theorem set3(w:World)(g:Nat)(t:TypeId)(a b c v0 v1 v2:Value)(h:w.heap[g]? =some (.cells #[a,b,c] t (0,0))):
  ((w.setCell ⟨g,0,none⟩ v0).setCell ⟨g,1,none⟩ v1).setCell ⟨g,2,none⟩ v2=w.setRow g #[v0,v1,v2]:=by
 rw[Qj w g 0 _ t (0,0) v0 h,Qj _ g 1 _ t (0,0) v1 (Qi _ _ _ _ _ _ h),QI,
  Qj _ g 2 _ t (0,0) v2 (Qi _ _ _ _ _ _ h),QI]
 refine congrArg (w.setRow g) ?_;simp

theorem JnP(E:Nat->Addr)(b:Nat)(hb12:18<=b)(g:Option Nat)(wj:Int)(a o:Nat)(ho:o<256)(st:Option PS)(w:World)(hE:Env E w)(hp:Ji E w b g wj st)(hd:Xb st<=90000000):
  Calls prog 205 #[.pointer (some ⟨b,0,none⟩),.agg #[.int .u64 (a:Int),.int .u8 (o:Int)]] w λe w'=>e=.returned (.agg #[.int .u64 ((stO (a,o) st).1.1:Int),.int .u8 ((stO (a,o) st).1.2:Int)])/\StTo E w w' b g wj (stO (a,o) st).2:=by
 have hlt:=hp.lt;have HR0:=Run.start hb12 hE hp (Tch.allocs NoB w (.cells #[.int .u64 (a:Int),.int .u8 (o:Int)] 80) (.cells #[.int .u64 0,.int .u8 0] 80));have hl0:=JaY a 8 st;have hm:=JbN o 1 (JQ a 8 st).2;have hwo:IntKind.u64.wrap (o:Int)=(o:Int):=JI _ (by omega) (by omega);have RUN:Hid _:=HR0;go_enter func205,ntmps205;go_wp2_with fail;refine(ZS E b g wj a 8 st _ RUN.env RUN.port (by omega) (by omega)).mono ?_;rintro _ w1⟨rfl,h⟩;obtain⟨g1,(RUN1:Hid _)⟩:=RUN.step h;have bx1:=(RUN1.box (k:=w.heap.size) (Ql _) (heap_alloc2_old _ _ _)).1;obtain⟨-,c1⟩:=rows bx1;clear bx1 h;go_wp2_with fail;refine(ZS E b g1 wj o 1 _ _ RUN1.env RUN1.port (by omega) (by omega)).mono ?_;rintro _ w2⟨rfl,h⟩;obtain⟨g2,(RUN2:Hid _)⟩:=RUN1.step h;have rR:=(RUN2.box (k:=w.heap.size+1) (by omega) (heap_alloc2_new _ _ _)).1;obtain⟨e0,e1⟩:=rows rR;have fR:∀j,w2.frozen? ⟨w.heap.size+1,j,none⟩=false:=λj=>Qg _ _ _ _ _ rR;have hw8:IntKind.u8.wrap ((JQ o 1 (JQ a 8 st).2).1:Int)=((JQ o 1 (JQ a 8 st).2).1:Int):=JbT _ (by omega) (by omega);have RR:Hid _:=rR;clear rR h;go_wp2;rw[set2 _ _ _ _ _ _ _ RR.out];exact QJ (v:=.agg #[.int .u64 ((stO (a,o) st).1.1:Int),.int .u8 ((stO (a,o) st).1.2:Int)]) (Qq results205 _ _ (w.heap.size+1) _ _ (0,0) _ rfl (Qi _ _ _ _ _ _ RR) underlying80 rfl (by kernel_rfl)) rfl ⟨rfl,RUN2.done (k:=w.heap.size+1) (by omega) (heap_alloc2_new _ _ _) (by decide)⟩

theorem Ji.err{wj:Int}(h:Ji E w b g wj st):(st=none/\∃t u,w.cell? ⟨b,2,none⟩=some (.iface t u))\/((∃p,st=some p)/\w.cell? ⟨b,2,none⟩=some .nilIface):=by
 cases st with
 | some p=>exact .inr ⟨⟨p,rfl⟩,Jc.errCell h⟩
 | none=>obtain⟨p,t,u,h1,_⟩:=h;exact .inl ⟨rfl,t,u,h1.errCell⟩
theorem JnF(E:Nat->Addr)(b:Nat)(hb12:18<=b)(g:Option Nat)(wj:Nat)(hw:wj<=1000)(k:BA)(st:Option PS)(w:World)(hE:Env E w)(hp:Ji E w b g wj st)(hd:Xb st<=90000000):
  Calls prog 294 #[.pointer (some ⟨b,0,none⟩),.string k] w λe w'=>e=.returned (.string ⟨(Zv wj k.data.toList st).1.toArray⟩)/\StTo E w w' b g wj (Zv wj k.data.toList st).2:=by
 have cw:=hp.width;have hlt:=hp.lt;have HC:Hid (Calls prog 209 _ w _):=JfB E b g wj k (wj+1) st w hE hp (by omega);have HE:Hid _:=hE;have HP:Hid _:=hp;have HK:Hid (Zv wj k.data.toList st=((Jl k.data.toList (wj+1) st).1,match (Jl k.data.toList (wj+1) st).2 with
  | none=>none
  | some p=>if 3<=((Jl k.data.toList (wj+1) st).1.getD wj 0).toNat then none else some p)):=rfl
 have HL:Hid (∀p,(Jl k.data.toList (wj+1) st).2=some p->_):=λp h=>Jfw _ _ _ p h;have hww:IntKind.i64.wrap ((wj:Int)+1)=(wj:Int)+1:=Xe _ (by omega) (by omega);go_enter func294,ntmps294;go_wp2_with fail;refine HC.o.mono ?_;rintro _ w1⟨rfl,g1,hp1,hm1,ht1⟩;have hev:=hp1.err;have cw1:=hp1.width;have HE1:Hid _:=HE.tch ht1 (JbO hb12 HP);have HP1:Hid _:=hp1;have HM1:Hid _:=hm1;have HT1:Hid _:=ht1
 rcases hev with⟨hn,t,u,ce⟩|⟨⟨p,(HS:Hid _)⟩,ce⟩
 ·have HN:Hid _:=hn;go_wp2;go_ret;refine⟨by rw[HK.o];rfl,g1,?_,HM1,HT1⟩;rw[HK.o,HN.o];have:=HP1.o;rw[HN.o]at this;exact this
 ·have hln:=HL p HS;have hsz:(⟨(Jl k.data.toList (wj+1) st).1.toArray⟩:BA).size=wj+1:=by rw[JA];exact hln
  have hix:wj<(⟨(Jl k.data.toList (wj+1) st).1.toArray⟩:BA).size:=by omega
  have HB:Hid ((⟨(Jl k.data.toList (wj+1) st).1.toArray⟩:BA)[wj].toNat=((Jl k.data.toList (wj+1) st).1.getD wj 0).toNat):=by
   show UInt8.toNat _=_
   congr 1
   simp[List.getD_eq_getElem?_getD,show wj<(Jl k.data.toList (wj+1) st).1.length by omega];rfl
  generalize hTB:(⟨(Jl k.data.toList (wj+1) st).1.toArray⟩:BA)=tb at *;have HTB:Hid _:=hTB
  by_cases h3:3<=tb[wj].toNat
  ·have h3i:(3:Int)<=(tb[wj].toNat:Int):=(by omega);go_wp2_with fail;refine(JaU E b g1 wj _ _ w1 HE1 HP1).mono ?_;rintro _ w2⟨rfl,(HS2:Hid _)⟩;go_wp2;go_ret;refine⟨by rw[HK.o,HTB.o];rfl,?_⟩;rw[HK.o];dsimp only;rw[HS.o];dsimp only;rw[if_pos (by rw[<-HB.o];exact h3)];exact StTo.trans HM1 HT1 HS2.o
  ·have h3i:¬(3:Int)<=(tb[wj].toNat:Int):=(by omega);go_wp2;go_ret;refine⟨by rw[HK.o,HTB.o];rfl,g1,?_,HM1,HT1⟩;rw[HK.o];dsimp only;have:=HP1.o;rw[HS.o]at this ⊢;dsimp only;rw[if_neg (by rw[<-HB.o];exact h3)];exact this
theorem Jnp(E:Nat->Addr)(b:Nat)(hb12:18<=b)(g:Option Nat)(wj:Nat)(hw:wj<=1000)(k:Int)(st:Option PS)(w:World)(hE:Env E w)(hp:Ji E w b g wj st)(hd:Xb st<=90000000):
  Calls prog 292 #[.pointer (some ⟨b,0,none⟩),.int .i64 k] w λe w'=>e=.returned (.int .i64 ((Zc wj k st).1:Int))/\StTo E w w' b g wj (Zc wj k st).2:=by
 have hx:=Jc1 k;have HE:Hid _:=hE;have HP:Hid _:=hp;have HK:Hid (Zc wj k st=((JQ (JE k) 2 st).1,if 8*(wj+1)<=(JQ (JE k) 2 st).1 then none else (JQ (JE k) 2 st).2)):=rfl;go_enter func292,ntmps292;go_wp2_with fail;refine(ZS E b g wj (JE k) 2 st w HE HP (by omega) (by omega)).mono ?_;rintro _ w1⟨rfl,g1,hp1,(HM1:Hid _),(HT1:Hid _)⟩;have cw1:=hp1.width;have hm:=JbN (JE k) 2 st;have HE1:Hid _:=HE.tch HT1 (JbO hb12 HP);have HP1:Hid _:=hp1;clear hp1;generalize (JQ (JE k) 2 st).1=m at *;have hwm:IntKind.i64.wrap (m:Int)=(m:Int):=Xe _ (by omega) (by omega);have hww:IntKind.i64.wrap ((wj:Int)+1)=(wj:Int)+1:=Xe _ (by omega) (by omega);have hw8:IntKind.i64.wrap (8*((wj:Int)+1))=8*((wj:Int)+1):=Xe _ (by omega) (by omega);have hwu:IntKind.u64.wrap (8*((wj:Int)+1))=8*((wj:Int)+1):=JI _ (by omega) (by omega)
 by_cases h3:8*(wj+1)<=m
 ·have h3i:8*((wj:Int)+1)<=(m:Int):=by omega
  go_wp2_with (first|(go_at_call 200;refine(JaU E b g1 wj _ _ w1 HE1 HP1).mono ?_;rintro _ w2⟨rfl,(HS2:Hid _)⟩)|go_in);go_ret;refine⟨by rw[HK.o];rfl,?_⟩;rw[HK.o,if_pos h3];exact StTo.trans HM1 HT1 HS2.o
 ·have h3i:¬8*((wj:Int)+1)<=(m:Int):=by omega
  go_wp2;go_ret;refine⟨by rw[HK.o];rfl,g1,?_,HM1,HT1⟩;rw[HK.o,if_neg h3];exact HP1.o
theorem Jmu(E:Nat->Addr)(b:Nat)(hb12:18<=b)(g:Option Nat)(wj:Nat)(hw:wj<=1000)(k:BA)(a o:Nat)(ho:o<256)(st:Option PS)(w:World)(hE:Env E w)(hp:Ji E w b g wj st)(hd:Xb st<=80000000):
  Calls prog 222 #[.pointer (some ⟨b,0,none⟩),.agg #[.string k,.int .u64 (a:Int),.int .u8 (o:Int)]] w λe w'=>e=.returned (.agg #[.string ⟨(XV wj k (a,o) st).1.1.toArray⟩,.int .u64 ((XV wj k (a,o) st).1.2.1:Int),.int .u8 ((XV wj k (a,o) st).1.2.2:Int)])/\StTo E w w' b g wj (XV wj k (a,o) st).2:=by
 have hlt:=hp.lt;have HR0:=Run.start hb12 hE hp (Tch.allocs NoB w (.cells #[.string k,.int .u64 (a:Int),.int .u8 (o:Int)] 256) (.cells #[.string ⟨#[]⟩,.int .u64 0,.int .u8 0] 256));have hl0:=JjT wj k.data.toList st;have RUN:Hid _:=HR0;go_enter func222,ntmps222;go_wp2_with fail;refine(JnF E b hb12 g wj hw k st _ RUN.env RUN.port (by omega)).mono ?_;rintro _ w1⟨rfl,h⟩;obtain⟨g1,(RUN1:Hid _)⟩:=RUN.step h;have bx1:=(RUN1.box (k:=w.heap.size) (Ql _) (heap_alloc2_old _ _ _)).1;obtain⟨-,c1,c2⟩:=rows bx1;clear bx1 h;go_wp2_with fail;refine(JnP E b hb12 g1 wj a o ho _ _ RUN1.env RUN1.port (by omega)).mono ?_;rintro _ w2⟨rfl,h⟩;obtain⟨g2,(RUN2:Hid _)⟩:=RUN1.step h;have rR:=(RUN2.box (k:=w.heap.size+1) (by omega) (heap_alloc2_new _ _ _)).1;obtain⟨e0,e1,e2⟩:=rows rR;have fR:∀j,w2.frozen? ⟨w.heap.size+1,j,none⟩=false:=λj=>Qg _ _ _ _ _ rR;have hsz2:=(Jb rR)
 have RR:Hid _:=rR;clear rR h;go_wp2;rw[set3 _ _ _ _ _ _ _ _ _ RR.out];exact QJ (v:=.agg #[.string ⟨(XV wj k (a,o) st).1.1.toArray⟩,.int .u64 ((XV wj k (a,o) st).1.2.1:Int),.int .u8 ((XV wj k (a,o) st).1.2.2:Int)]) (Qq results222 _ _ (w.heap.size+1) _ _ (0,0) _ rfl ((Below.heap_alloc _ _ _ (by simpa using hsz2)).trans (Qi _ _ _ _ _ _ RR)) underlying256 rfl (by kernel_rfl)) rfl ⟨rfl,(RUN2.done (k:=w.heap.size+1) (by omega) (heap_alloc2_new _ _ _) (by decide)).alloc _⟩
theorem JiO(E:Nat->Addr)(b:Nat)(hb12:18<=b)(g:Option Nat)(wj:Nat)(hw:wj<=1000)(k:Int)(x y:BA)(st:Option PS)(w:World)(hE:Env E w)(hp:Ji E w b g wj st)(hd:Xb st<=80000000):
  Calls prog 308 #[.pointer (some ⟨b,0,none⟩),.agg #[.int .i64 k,.string x,.string y]] w λe w'=>e=.returned (.agg #[.int .i64 ((stBr wj k x y st).1.1:Int),.string ⟨(stBr wj k x y st).1.2.1.toArray⟩,.string ⟨(stBr wj k x y st).1.2.2.toArray⟩])/\StTo E w w' b g wj (stBr wj k x y st).2:=by
 have hlt:=hp.lt;have HR0:=Run.start hb12 hE hp (Tch.allocs NoB w (.cells #[.int .i64 k,.string x,.string y] 279) (.cells #[.int .i64 0,.string ⟨#[]⟩,.string ⟨#[]⟩] 279));have hl0:=JjR wj k st;have hl1:=Yx x.data.toList wj (Zc wj k st).2;have RUN:Hid _:=HR0;go_enter func308,ntmps308;go_wp2_with fail;refine(Jnp E b hb12 g wj hw k st _ RUN.env RUN.port (by omega)).mono ?_;rintro _ w1⟨rfl,h⟩;obtain⟨g1,(RUN1:Hid _)⟩:=RUN.step h;have bx1:=(RUN1.box (k:=w.heap.size) (Ql _) (heap_alloc2_old _ _ _)).1;obtain⟨-,c1⟩:=rows bx1;clear bx1 h;go_wp2_with fail;refine(Zi E b g1 wj x _ _ RUN1.env RUN1.port (by omega)).mono ?_;rintro _ w2⟨rfl,h⟩;obtain⟨g2,(RUN2:Hid _)⟩:=RUN1.step h;have bx2:=(RUN2.box (k:=w.heap.size) (Ql _) (heap_alloc2_old _ _ _)).1;obtain⟨-, -,c2⟩:=rows bx2;clear bx2 h;go_wp2_with fail;refine(Zi E b g2 wj y _ _ RUN2.env RUN2.port (by omega)).mono ?_;rintro _ w3⟨rfl,h⟩;obtain⟨g3,(RUN3:Hid _)⟩:=RUN2.step h;have rR:=(RUN3.box (k:=w.heap.size+1) (by omega) (heap_alloc2_new _ _ _)).1;obtain⟨e0,e1,e2⟩:=rows rR;have fR:∀j,w3.frozen? ⟨w.heap.size+1,j,none⟩=false:=λj=>Qg _ _ _ _ _ rR;have RR:Hid _:=rR;clear rR h;go_wp2;rw[set3 _ _ _ _ _ _ _ _ _ RR.out];exact QJ (v:=.agg #[.int .i64 ((stBr wj k x y st).1.1:Int),.string ⟨(stBr wj k x y st).1.2.1.toArray⟩,.string ⟨(stBr wj k x y st).1.2.2.toArray⟩]) (Qq results308 _ _ (w.heap.size+1) _ _ (0,0) _ rfl (Qi _ _ _ _ _ _ RR) underlying279 rfl (by kernel_rfl)) rfl ⟨rfl,RUN3.done (k:=w.heap.size+1) (by omega) (heap_alloc2_new _ _ _) (by decide)⟩
