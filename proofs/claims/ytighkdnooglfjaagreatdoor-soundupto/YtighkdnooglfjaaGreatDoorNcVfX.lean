import Derived.Test.YtighkdnooglfjaaGreatDoorNcVfF
namespace Go.Proofs.YtighkdnooglfjaaGreatDoor
open Go.Proofs.Tryz
set_option maxRecDepth 100000
set_option maxHeartbeats 4000000
open Go.RowKit

def chk (wd:Nat) (key:Key) (state:BA) (s:List UInt8):Option Wy:=match (PS.rd [] s).way wd [] false ⟨#[]⟩ (0,0) with
 | some (wy,⟨.inl (_,[])⟩)=>if (∀x∈wy.1,bt key x.1=bt (JV wy) x.1)/\dgW wd ((wy.nodes (dgW wd)).headD [])=state then some wy else none
 | _=>none
def Jma (wd:Nat) (key:Key) (r:Option Wy) (e:Ending) (w':World):Prop:=match r with
 | some wy=>∃(x:Int) (y z g cap:Nat),XE (wy.said key)=.agg #[.int .i64 x,.int .u64 (y:Int),.int .u8 (z:Int)]/\e=.returned (.tuple #[.agg #[.int .i64 x,.int .u64 (y:Int),.int .u8 (z:Int),.slice (some ⟨g,0,none⟩) (wy.1.length+1) cap],.nilIface])/\g<w'.heap.size/\∀(j:Nat) t,(wy.nodes (dgW wd))[j]? =some t->w'.cell? ⟨g,j,none⟩=some (.string ⟨t.toArray⟩)
 | none=>∃t u,e=.returned (.tuple #[.agg #[.int .i64 0,.int .u64 0,.int .u8 0,.slice none 0 0],.iface t u])
theorem Jh3 (E:Nat->Addr) (b wd:Nat) (st:Option PS) (hrd:∀p,st=some p->∃q r,p=.rd q r) (hne:∀q,st ≠ some (.rd q [])) (W:World) (hE:Env E W) (g:Option Nat) (hp:Je E W b g (wd:Int) st):
  Calls prog 88 #[.pointer (some ⟨b,0,none⟩)] W λe w'=>Tch NoB W w'/\∃t u,e=.returned (.iface t u):=by
 cases st with
 | none=>
  refine (Jae E b (wd:Int) none (λp h=>by cases h) W hE g hp).mono ?_
  rintro e w' ⟨ht,t,u,he,_⟩
  exact ⟨ht,t,u,he⟩
 | some p=>
  obtain ⟨q,r,rfl⟩:=hrd p rfl
  cases r with
  | nil=>exact absurd rfl (hne q)
  | cons a r=>
   refine (Jae E b (wd:Int) (some (.rd q (a :: r))) (λp h=>⟨q,a :: r,(Option.some.inj h).symm⟩) W hE g hp).mono ?_
   rintro e w' ⟨ht,t,u,he,_⟩
   exact ⟨ht,t,u,he⟩
theorem Jbn (E:Nat->Addr) (wd:Nat) (hw1:1<=wd) (hw:wd<=32) (state:BA) (key:Key) (hk:key.length=wd+1) (s:BA) (hs:s.size<=2000000) (w:World) (hE:Env E w) (hA:Ast w):
  Calls prog 144 #[qV wd state ⟨key.toArray⟩,.string s] w λe w'=>Tch NoB w w'/\Jma wd key (chk wd key state s.data.toList) e w':=by
 have hsz:=hE.size
 obtain ⟨C,hC⟩:∃C,C=chk wd key state s.data.toList:=⟨_,rfl⟩
 obtain ⟨R,hR⟩:∃R,R=(PS.rd [] s.data.toList).way wd [] false ⟨#[]⟩ (0,0):=⟨_,rfl⟩
 obtain ⟨kb,hkb⟩:∃kb:BA,kb=⟨key.toArray⟩:=⟨_,rfl⟩
 rw [<-hC,<-hkb]
 unfold chk at hC
 rw [<-hR] at hC
 have hrd:∀wy p,R=some (wy,p)->WyOk wd wy/\∃q r,p=.rd q r:=λwy p h=>JfG (hR.symm.trans h)
 have hno:(∀wy q,R ≠ some (wy,.rd q []))->C=none:=λh=>by
  rw [hC]
  split
  ·exact absurd rfl (h _ _)
  ·rfl
 have hlen:(s.data.toList).length<=2000000:=by rw [QA];exact hs
 have HWAY:Hid (∀W b,Tch NoB w W->18<=b->Jc W b none (wd:Int) .nilIface (.rd [] s.data.toList)->Calls prog 146 #[.pointer (some ⟨b,0,none⟩),.agg #[.slice none 0 0,.bool false,.string ⟨#[]⟩,.int .u64 0,.int .u8 0]] W λe w'=>∃v1 v2 v3 m k a o g',e=.returned (wV v1 v2 v3 m k a o)/\Je E w' b g' (wd:Int) (R.map (·.2))/\Tch (λk=>k=b) W w'/\∀wy p,R=some (wy,p)->VAt w'.heap.size w' (.slice v1 v2 v3) (wy.1.map encS)/\m=wy.2.isSome/\k=wyK wy/\a=(wyO wy).1/\o=(wyO wy).2):=λW b hT hb hp=>by
  refine (JgB E b hb none wd hw none 0 0 [] false ⟨#[]⟩ 0 0 (by decide) (.rd [] s.data.toList) W (hE.tch hT noE) hp (.inl ⟨rfl,rfl⟩) (JaT.nil _ _) (by simp) (by simp) (by simp [PS.takes]) (by simp only [PS.len,Qv];omega)).mono ?_
  rintro e w' ⟨x1,x2,x3,m,k,a,o,g',rfl,h1,_,h3,h4⟩
  rw [<-hR] at h1 h4
  exact ⟨x1,x2,x3,m,k,a,o,g',rfl,h1,h3.mono (λj hj=>.inl (by rcases hj with h | h;exact h;cases h)),λwy p h=>(h4 wy p h).is⟩
 have HDN:Hid (∀W b g',Tch NoB w W->Je E W b g' (wd:Int) (R.map (·.2))->Calls prog 88 #[.pointer (some ⟨b,0,none⟩)] W λe w'=>Tch NoB W w'/\((C=none/\∃t u,e=.returned (.iface t u))\/(∃wy q,R=some (wy,.rd q []))/\e=.returned .nilIface)):=λW b g' hT hp=>by
  by_cases hg:∃wy q,R=some (wy,.rd q [])
  ·obtain ⟨wy,q,hq⟩:=hg
   rw [hq] at hp
   have hp:Jc W b g' (wd:Int) .nilIface (.rd q []):=hp
   obtain rfl:g'=none:=hp.1
   exact (Jbb b (wd:Int) q W hp).mono λe w' k=>⟨k.2,.inr ⟨⟨wy,q,hq⟩,k.1⟩⟩
  ·refine (Jh3 E b wd (R.map (·.2)) (λp h=>?_) (λq h=>?_) W (hE.tch hT noE) g' hp).mono λe w' k=>⟨k.1,.inl ⟨hno λwy q h=>hg ⟨wy,q,h⟩,k.2⟩⟩
   all_goals
    cases hR':R with
    | none=>rw [hR'] at h;cases h
    | some x=>
     obtain ⟨wy,p2⟩:=x
     rw [hR'] at h
     cases h
     first | exact (hrd wy _ hR').2 | exact absurd ⟨wy,q,hR'⟩ hg
 have HE:Hid (Env E w):=hE
 have HRT:Hid (∀W3,Tch NoB w W3->W3.cell? ⟨4,0,none⟩=some (eV E 4)):=λW hT=>(hE.tch hT noE).root
 have HAS:Hid (Ast w):=hA
 have HC:Hid (∀wy q,R=some (wy,.rd q [])->WyOk wd wy/\C=if (∀x∈wy.1,bt key x.1=bt (JV wy) x.1)/\dgW wd ((wy.nodes (dgW wd)).headD [])=state then some wy else none):=λwy q h=>⟨(hrd wy _ h).1,by rw [hC,h]⟩
 have HKB:Hid (kb=_):=hkb
 have HSZ:Hid (18<=w.heap.size):=hsz
 clear hE hrd hno hlen hR hs hA hC hkb
 obtain ⟨W,hW⟩:∃W,W=(w.alloc (.cells #[.int .i64 (wd:Int),.string state,.string kb] 248)).alloc (.cells #[.int .i64 0,.int .u64 0,.int .u8 0,.slice none 0 0] 252):=⟨_,rfl⟩
 have tA:Tch NoB w W:=by rw [hW];exact Tch.allocs _ _ _ _
 have hr0:W.heap[w.heap.size]? =some (.cells #[.int .i64 (wd:Int),.string state,.string kb] 248):=by rw [hW];exact heap_alloc2_old _ _ _
 have hr1:W.heap[w.heap.size+1]? =some (.cells #[.int .i64 0,.int .u64 0,.int .u8 0,.slice none 0 0] 252):=by rw [hW];exact heap_alloc2_new _ _ _
 have HWZ:Hid (W.heap.size=w.heap.size+2):=by show _=_;rw [hW];simp
 have HRR:Hid (∀V,Tch NoB W V->V.heap[w.heap.size+1]? =some (.cells #[.int .i64 0,.int .u64 0,.int .u8 0,.slice none 0 0] 252)):=λV hT=>(hT.block _ (Jb hr1) (λh=>h)).trans hr1
 have HCC:Hid (∀V,Tch NoB W V->rowP V w.heap.size [.int .i64 (wd:Int),.string state,.string kb]):=λV hT=>rows ((hT.block _ (Jb hr0) (λh=>h)).trans hr0)
 have HA:Hid (Tch _ w W):=tA
 have HW:Hid (W=_):=hW
 obtain ⟨a0,a1,a2⟩:=HCC.o W (Te _ _)
 clear tA hr0 hr1 hW hsz
 go_enter func144,ntmps144
 go_upto_region 1 with fail
 rw [<-HW.o]
 go_wp2_with fail
 refine (XA _ _ _).mono ?_
 rintro _ w1 ⟨rfl,hp1,ht1⟩
 have HT1:Hid (Tch NoB W w1):=ht1
 have HP1:Hid (Jc w1 W.heap.size none (wd:Int) .nilIface (.rd [] s.data.toList)):=hp1
 clear ht1 hp1 a0 a1 a2
 go_wp2_with fail
 refine (HWAY.o w1 W.heap.size (HA.o.go HT1.o) (by have:=HSZ.o;have:=HWZ.o;omega) HP1.o).mono ?_
 rintro _ w2 ⟨v1,v2,v3,mm,wk,oa,oo,g',rfl,hp2,ht2,hi2⟩
 obtain ⟨W3,hW3⟩:∃W3,W3=w2.alloc (.cells #[.slice v1 v2 v3,.bool mm,.string wk,.int .u64 (oa:Int),.int .u8 (oo:Int)] 258):=⟨_,rfl⟩
 have t3:Tch NoB w2 W3:=by rw [hW3];exact Ta _ _ _
 have hr3:W3.heap[w2.heap.size]? =some (.cells #[.slice v1 v2 v3,.bool mm,.string wk,.int .u64 (oa:Int),.int .u8 (oo:Int)] 258):=by rw [hW3];exact Qf _ _
 have HWC:Hid (∀V,Tch NoB W3 V->rowP V w2.heap.size [.slice v1 v2 v3,.bool mm,.string wk,.int .u64 (oa:Int),.int .u8 (oo:Int)]):=λV hT=>rows ((hT.block _ (Jb hr3) (λh=>h)).trans hr3)
 have HT3:Hid (Tch NoB W W3):=(HT1.o.trans ht2 (λj hj=>.inr (Nat.le_of_eq hj.symm))).go t3
 have HP3:Hid (Je E W3 W.heap.size g' (wd:Int) (R.map (·.2))):=hp2.next t3
 have HV3:Hid (∀wy p,R=some (wy,p)->(∀V,Tch NoB W3 V->VAt V.heap.size V (.slice v1 v2 v3) (wy.1.map encS))/\wV v1 v2 v3 mm wk oa oo=wV v1 v2 v3 wy.2.isSome (wyK wy) (wyO wy).1 (wyO wy).2):=λwy p h=>by
  obtain ⟨k1,rfl,rfl,rfl,rfl⟩:=hi2 wy p h
  exact ⟨λV hT=>(k1.tch (t3.go hT) noE).up (t3.go hT).size,rfl⟩
 have HW3:Hid (W3=_):=hW3
 clear hp2 ht2 t3 hW3 HWAY HP1 HT1 hi2 hr3
 go_upto_region 3 with fail
 rw [<-HW3.o]
 go_wp2_with fail
 refine (HDN.o W3 W.heap.size g' (HA.o.go HT3.o) HP3.o).mono ?_
 rintro _ w4 ⟨ht4,⟨rfl,t,u,rfl⟩ | ⟨⟨wy,q,hq⟩,rfl⟩⟩
 ·have HTN:Hid (Tch NoB W w4):=HT3.o.go ht4
  clear ht4
  go_wp2_with fail
  refine (Xl _ _ _ _).mono ?_
  rintro _ w8 ⟨rfl,hw8⟩
  have HTX:Hid (Tch NoB W w8):=HTN.o.go (by rw [hw8];exact Ta _ _ _)
  have hr8:=HRR.o w8 HTX.o
  obtain ⟨r0,r1,r2,r3⟩:=rows hr8
  have fR:∀j,w8.frozen? ⟨w.heap.size+1,j,none⟩=false:=λj=>Qg _ _ _ _ _ hr8
  have R8:Hid (w8.heap[w.heap.size+1]? =_):=hr8
  clear hw8 hr8
  go_wp2
  rw [set4 _ _ _ _ _ _ _ _ _ _ _ R8.o]
  refine QJ (v:=.tuple #[.agg #[.int .i64 0,.int .u64 0,.int .u8 0,.slice none 0 0],_]) (Jh results144 _ _ (w.heap.size+1) _ _ (0,0) _ rfl (Qi _ _ _ _ _ _ R8.o) underlying252 rfl (by kernel_rfl)) rfl ?_
  exact ⟨(HA.o.go HTX.o).trans (Ts _ _ _) (λj hj=>.inr (by omega)),_,_,rfl⟩
 ·obtain ⟨hok,hcy⟩:=HC.o wy q hq
  obtain ⟨hv3,hwv⟩:=HV3.o wy _ hq
  have HT4:Hid (Tch NoB W3 w4):=ht4
  obtain ⟨b0,b1,b2⟩:=HCC.o w4 (HT3.o.go ht4)
  obtain ⟨d0,d1,d2,d3,d4⟩:=HWC.o w4 ht4
  have HCB:Hid (∀V,Tch NoB W3 V->Calls prog 213 #[qV wd state kb,wV v1 v2 v3 mm wk oa oo] V λe w'=>Tch NoB V w'/\((C=none/\∃t u,e=.returned (.iface t u))\/(∀x∈wy.1,bt key x.1=bt (JV wy) x.1)/\e=.returned .nilIface)):=λV hT=>by
   have hT2:=HA.o.go (HT3.o.go hT)
   rw [hwv,HKB.o]
   refine (Jay E wd hw state key hk wy hok v1 v2 v3 _ _ _ V (HE.o.tch hT2 noE) (hv3 V hT) (λ_=>HAS.o.tch hT2 (λh=>h))).mono ?_
   rintro e w' ⟨ht,⟨h,rfl⟩ | ⟨⟨x,hx,hn⟩,h⟩⟩
   ·exact ⟨ht,.inr ⟨h,rfl⟩⟩
   ·exact ⟨ht,.inl ⟨by rw [hcy,if_neg (λk=>hn (k.1 x hx))],h⟩⟩
  have hnl:(wy.nodes (dgW wd)).length=wy.1.length+1:=by simp [Wy.nodes,Xh]
  obtain ⟨t0,hh0,ht0⟩:∃t0,(wy.nodes (dgW wd))[0]? =some t0/\(wy.nodes (dgW wd)).headD []=t0:=by
   cases hn:wy.nodes (dgW wd) with
   | nil=>rw [hn] at hnl;simp at hnl
   | cons a l=>exact ⟨a,rfl,rfl⟩
  have ht0l:t0.length<=1000:=by
   have h1:=YT (dgW wd) (JV wy) (JT wy.2) wy.1 0 (Nat.zero_le _)
   have h2:(wy.nodes (dgW wd))[0]? =some (YF (dgW wd) (JV wy) (JT wy.2) wy.1 0):=h1
   rw [hh0] at h2
   cases h2
   exact Jar wd hw _ _ (Za hw hok) _ hok.steps 0 (Nat.zero_le _)
  rw [ht0] at hcy
  have HND:Hid (∀V,Tch NoB W3 V->Calls prog 214 #[qV wd state kb,wV v1 v2 v3 mm wk oa oo] V λe w'=>Tch NoB V w'/\∃(g n cap:Nat),e=.returned (.tuple #[.slice (some ⟨g,0,none⟩) (n+1) cap,.nilIface])/\n<=1000/\n=wy.1.length/\g<w'.heap.size/\∀(j:Nat) t,(wy.nodes (dgW wd))[j]? =some t->w'.cell? ⟨g,j,none⟩=some (.string ⟨t.toArray⟩)):=λV hT=>by
   rw [hwv]
   refine (callsIn_wide.1 (Je6 E wd hw1 hw state _ v1 v2 v3 wy hok V (HE.o.tch (HA.o.go (HT3.o.go hT)) noE) (hv3 V hT))).mono ?_
   rintro e w' ⟨g,cap,rfl,_,hgl,hc,hB⟩
   refine ⟨(Tch.of_below hB).mono (λ_ hj=>.inr hj),g,wy.1.length,cap,by rw [hnl],by have:=hok.len;omega,rfl,hgl,λj t ht=>?_⟩
   obtain ⟨hj,rfl⟩:=Qo.1 ht
   exact hc j hj
  obtain ⟨dg,hdg⟩:∃dg,dg=dgW wd t0:=⟨_,rfl⟩
  obtain ⟨tb,htb⟩:∃tb:BA,tb=⟨t0.toArray⟩:=⟨_,rfl⟩
  rw [<-hdg] at hcy
  have HOF:Hid (∀V,Tch NoB W3 V->Calls prog 130 #[.int .i64 (wd:Int),.string tb] V λe w'=>e=.returned (.string dg)/\Tch NoB V w'):=λV hT=>by
   have:=ZG E wd ⟨t0.toArray⟩ V (HE.o.tch (HA.o.go (HT3.o.go hT)) noE) hw1 hw (by rw [Js];omega)
   rw [JcM,<-hdg,<-htb] at this
   exact this
  have HSB:Hid (∀V,Calls prog 215 #[qV wd state kb,wV v1 v2 v3 mm wk oa oo] V λe w'=>e=.returned (XE (wy.said key))/\Tch NoB V w'):=λV=>by
   have:=JcB wd state ⟨key.toArray⟩ v1 v2 v3 wy.2.isSome (wyK wy) (wyO wy).1 (wyO wy).2 V
   rw [hwv,HKB.o]
   rw [show (((wyO wy).1,(wyO wy).2):Nat×Nat)=wyO wy from rfl,JgZ] at this
   exact this
  have HH0:Hid ((wy.nodes (dgW wd))[0]? =some t0):=hh0
  have HCY:Hid (C=_):=hcy
  have HTB:Hid (tb=_):=htb
  clear ht4 HDN HP3 hq hok hv3 hwv hnl ht0 ht0l hh0 hcy hdg htb HC HV3 HKB HE HAS
  go_wp2_with fail
  refine (HCB.o w4 HT4.o).mono ?_
  rintro _ w5 ⟨ht5,⟨rfl,t,u,rfl⟩ | ⟨hbits,rfl⟩⟩
  ·have HTX:Hid (Tch NoB W w5):=HT3.o.go (HT4.o.go ht5)
   have hr8:=HRR.o w5 HTX.o
   obtain ⟨r0,r1,r2,r3⟩:=rows hr8
   have fR:∀j,w5.frozen? ⟨w.heap.size+1,j,none⟩=false:=λj=>Qg _ _ _ _ _ hr8
   have R8:Hid (w5.heap[w.heap.size+1]? =_):=hr8
   clear ht5 hr8 b0 b1 b2 d0 d1 d2 d3 d4
   go_wp2
   rw [set4 _ _ _ _ _ _ _ _ _ _ _ R8.o]
   refine QJ (v:=.tuple #[.agg #[.int .i64 0,.int .u64 0,.int .u8 0,.slice none 0 0],_]) (Jh results144 _ _ (w.heap.size+1) _ _ (0,0) _ rfl (Qi _ _ _ _ _ _ R8.o) underlying252 rfl (by kernel_rfl)) rfl ?_
   exact ⟨(HA.o.go HTX.o).trans (Ts _ _ _) (λj hj=>.inr (by omega)),_,_,rfl⟩
  ·have HBT:Hid (∀x∈wy.1,bt key x.1=bt (JV wy) x.1):=hbits
   have HT5:Hid (Tch NoB W3 w5):=HT4.o.go ht5
   clear ht5 HT4 HCB b0 b1 b2 d0 d1 d2 d3 d4 hbits
   obtain ⟨b0,b1,b2⟩:=HCC.o w5 (HT3.o.go HT5.o)
   obtain ⟨d0,d1,d2,d3,d4⟩:=HWC.o w5 HT5.o
   go_wp2_with fail
   refine (HND.o w5 HT5.o).mono ?_
   rintro _ w6 ⟨ht6,gn,nn,cap,rfl,hn6,hnw,hgn,hca⟩
   have HNW:Hid (nn=wy.1.length):=hnw
   have HCA:Hid (∀V,Tch NoB w6 V->gn<V.heap.size/\∀(j:Nat) t,(wy.nodes (dgW wd))[j]? =some t->V.cell? ⟨gn,j,none⟩=some (.string ⟨t.toArray⟩)):=λV hT=>⟨Qk hgn hT.size,λj t ht=>(hT.cell (p:=⟨gn,j,none⟩) hgn (λh=>h)).trans (hca j t ht)⟩
   have HT6:Hid (Tch NoB W3 w6):=HT5.o.go ht6
   clear ht6 HT5 HND b0 b1 b2 d0 d1 d2 d3 d4 hnw hgn hca
   obtain ⟨b0,b1,b2⟩:=HCC.o w6 (HT3.o.go HT6.o)
   have hc6:w6.cell? ⟨gn,0,none⟩=some (.string tb):=by rw [HTB.o];exact (HCA.o w6 (Te _ _)).2 0 t0 HH0.o
   have hi0:(0:Int)<((nn+1:Nat):Int):=by omega
   go_upto_region 12 with fail
   go_cut [53] (λvb wx=>(∃bb:Bool,vb=.bool bb/\Hid (bb=false↔dg.toList=state.toList))/\Hid (Tch NoB w6 wx))
   case first=>
    go_region_with (go_at_call 130;refine (HOF.o _ (HT6.o.go (Td _ _ 1))).mono ?_;rintro _ w7 ⟨rfl,ht7⟩;have HT7:Hid (Tch NoB w6 w7):=(Td NoB w6 1).go ht7;obtain ⟨e0,e1,e2⟩:=HCC.o _ (HT3.o.go (HT6.o.go HT7.o));clear ht7)
    all_goals
     go_wp2
     go_meet
     exact ⟨⟨_,rfl,by show _↔_;simp⟩,HT7⟩
   case rest=>
   obtain ⟨⟨bb,rfl,HBB⟩,HTC⟩:=hcut
   obtain ⟨wA,hwA⟩:∃wA,wA=wc:=⟨wc,rfl⟩
   subst hwA
   have HTA:Hid (Tch NoB W3 wA):=HT6.o.go HTC.o
   have HCA2:Hid (∀V,Tch NoB wA V->_):=λV (hT:Tch NoB wA V)=>HCA.o V (HTC.o.go hT)
   clear HCA b0 b1 b2 HOF hc6 HT6 HTC
   cases bb with
   | true=>
    have hcn:C=none:=by
     rw [HCY.o]
     exact if_neg (λh=>absurd (HBB.o.2 (by rw [h.2])) (by decide))
    subst hcn
    have hrt:=HRT.o wA (HA.o.go (HT3.o.go HTA.o))
    unfold eV at hrt
    have HTN:Hid (Tch NoB W wA):=HT3.o.go HTA.o
    clear HTA
    go_wp2_with fail
    refine (Xl _ _ _ _).mono ?_
    rintro _ w8 ⟨rfl,hw8⟩
    have HTX:Hid (Tch NoB W w8):=HTN.o.go (by rw [hw8];exact Ta _ _ _)
    have hr8:=HRR.o w8 HTX.o
    obtain ⟨r0,r1,r2,r3⟩:=rows hr8
    have fR:∀j,w8.frozen? ⟨w.heap.size+1,j,none⟩=false:=λj=>Qg _ _ _ _ _ hr8
    have R8:Hid (w8.heap[w.heap.size+1]? =_):=hr8
    clear hw8 hr8
    go_wp2
    rw [set4 _ _ _ _ _ _ _ _ _ _ _ R8.o]
    refine QJ (v:=.tuple #[.agg #[.int .i64 0,.int .u64 0,.int .u8 0,.slice none 0 0],_]) (Jh results144 _ _ (w.heap.size+1) _ _ (0,0) _ rfl (Qi _ _ _ _ _ _ R8.o) underlying252 rfl (by kernel_rfl)) rfl ?_
    exact ⟨(HA.o.go HTX.o).trans (Ts _ _ _) (λj hj=>.inr (by omega)),_,_,rfl⟩
   | false=>
    obtain ⟨b0,b1,b2⟩:=HCC.o wA (HT3.o.go HTA.o)
    obtain ⟨d0,d1,d2,d3,d4⟩:=HWC.o wA HTA.o
    have hcs:C=some wy:=by
     rw [HCY.o]
     exact if_pos ⟨HBT.o,Zz (HBB.o.1 rfl)⟩
    subst hcs
    obtain ⟨x,y,z,hsv,_⟩:=Zu (wy.said key)
    rw [hsv] at HSB
    have HSV:Hid (XE _=_):=hsv
    clear hsv
    go_wp2_with fail
    refine (HSB.o wA).mono ?_
    rintro _ w8 ⟨rfl,ht8⟩
    have HT8:Hid (Tch NoB W w8):=(HT3.o.go HTA.o).go ht8
    have HC8:Hid (_/\_):=HCA2.o w8 ht8
    have hr8:=HRR.o w8 HT8.o
    obtain ⟨r0,r1,r2,r3⟩:=rows hr8
    have hgn:gn ≠ w.heap.size+1:=λe=>by
     have:=HC8.o.2 0 t0 HH0.o
     rw [e,r0] at this
     cases this
    have HGN:Hid (gn ≠ w.heap.size+1):=hgn
    have fR:∀j,w8.frozen? ⟨w.heap.size+1,j,none⟩=false:=λj=>Qg _ _ _ _ _ hr8
    have R8:Hid (w8.heap[w.heap.size+1]? =_):=hr8
    clear ht8 hr8 HSB b0 b1 b2 d0 d1 d2 d3 d4 HTA hgn
    go_wp2
    rw [set4 _ _ _ _ _ _ _ _ _ _ _ R8.o]
    refine QJ (v:=.tuple #[.agg #[.int .i64 x,.int .u64 (y:Int),.int .u8 (z:Int),.slice (some ⟨gn,0,none⟩) (nn+1) cap],.nilIface]) (Jh results144 _ _ (w.heap.size+1) _ _ (0,0) _ rfl (Qi _ _ _ _ _ _ R8.o) underlying252 rfl (by kernel_rfl)) rfl ?_
    refine ⟨(HA.o.go HT8.o).trans (Ts _ _ _) (λj hj=>.inr (by omega)),x,y,z,gn,cap,HSV.o,by rw [HNW.o],by rw [setRow_size];exact HC8.o.1,λj t ht=>?_⟩
    exact ((Ts w8 (w.heap.size+1) _).cell (p:=⟨gn,j,none⟩) HC8.o.1 HGN.o).trans (HC8.o.2 j t ht)

theorem JbR (E:Nat->Addr) (wd:Nat) (hw1:1<=wd) (hw:wd<=32) (h:HdL) (hh:HdOk wd h) (c:BA×Int) (hc:Jk wd c) (pf:BA) (P:Int->Nat->Nat->Value->Prop) (w:World) (hE:Env E w)
  (hck:∀W,Tch NoB w W->Calls prog 144 #[qV wd h.2.2.2 ⟨(Jd c).toArray⟩,.string pf] W λe w'=>Tch NoB W w'/\∃(x:Int) (y z:Nat) (ga:Option Addr) (gl gc:Nat) (ev:Value),P x y z ev/\e=.returned (.tuple #[.agg #[.int .i64 x,.int .u64 (y:Int),.int .u8 (z:Int),.slice ga gl gc],ev])):
  Calls prog 91 #[.int .i64 (wd:Int),.string ⟨(hdrB h).toArray⟩,.agg #[.string c.1,.int .i64 c.2],.string pf] w λe w'=>Tch NoB w w'/\∃(x:Int) (y z:Nat) (ev:Value),P x y z ev/\e=.returned (.tuple #[.agg #[.int .i64 x,.int .u64 (y:Int),.int .u8 (z:Int)],ev]):=by
 have HASK:Hid (∀W,Tch NoB w W->Calls prog 143 _ W _):=λW hT=>Jb7 E wd hw1 hw h hh c hc W (hE.tch hT noE)
 have HCK:Hid (∀W,Tch NoB w W->_):=hck
 clear hE hh hc hck
 generalize h.2.2.2=st at *
 generalize (⟨(hdrB h).toArray⟩:BA)=hb at *
 obtain ⟨s,N⟩:=c
 dsimp only at HASK HCK ⊢
 generalize (⟨(Jd (s,N)).toArray⟩:BA)=kb at *
 obtain ⟨W,hW⟩:∃W,W=(w.alloc (.cells #[.string s,.int .i64 N] 49)).alloc (.cells #[.int .i64 0,.int .u64 0,.int .u8 0] 179):=⟨_,rfl⟩
 have tA:Tch NoB w W:=by rw [hW];exact Tch.allocs _ _ _ _
 have hr0:W.heap[w.heap.size]? =some (.cells #[.string s,.int .i64 N] 49):=by rw [hW];exact heap_alloc2_old _ _ _
 have hr1:W.heap[w.heap.size+1]? =some (.cells #[.int .i64 0,.int .u64 0,.int .u8 0] 179):=by rw [hW];exact heap_alloc2_new _ _ _
 have a0:W.cell? ⟨w.heap.size,0,none⟩=some (.string s):=Ja hr0
 have a1:W.cell? ⟨w.heap.size,1,none⟩=some (.int .i64 N):=Ja hr0
 have HRR:Hid (∀V,Tch NoB W V->V.heap[w.heap.size+1]? =some (.cells #[.int .i64 0,.int .u64 0,.int .u8 0] 179)):=λV hT=>(hT.block _ (Jb hr1) (λh=>h)).trans hr1
 have HA:Hid (Tch _ w W):=tA
 have HW:Hid (W=_):=hW
 clear tA hr0 hr1 hW
 go_enter func91,ntmps91
 go_upto_region 1 with fail
 rw [<-HW.o]
 go_wp2_with fail
 refine (HASK.o W HA.o).mono ?_
 rintro _ w1 ⟨rfl,ht1⟩
 obtain ⟨W2,hW2⟩:∃W2,W2=w1.alloc (.cells #[.int .i64 (wd:Int),.string st,.string kb] 248):=⟨_,rfl⟩
 have t2:Tch NoB w1 W2:=by rw [hW2];exact Ta _ _ _
 have hr2:W2.heap[w1.heap.size]? =some (.cells #[.int .i64 (wd:Int),.string st,.string kb] 248):=by rw [hW2];exact Qf _ _
 have b0:W2.cell? ⟨w1.heap.size,0,none⟩=some (.int .i64 (wd:Int)):=Ja hr2
 have b1:W2.cell? ⟨w1.heap.size,1,none⟩=some (.string st):=Ja hr2
 have b2:W2.cell? ⟨w1.heap.size,2,none⟩=some (.string kb):=Ja hr2
 have HT2:Hid (Tch NoB W W2):=ht1.go t2
 have HW2:Hid (W2=_):=hW2
 clear ht1 t2 hr2 hW2 a0 a1 HASK
 go_upto_region 2 with fail
 rw [<-HW2.o]
 go_wp2_with fail
 refine (HCK.o W2 (HA.o.go HT2.o)).mono ?_
 rintro _ w3 ⟨ht3,x,y,z,ga,gl,gc,ev,hsv,rfl⟩
 obtain ⟨W4,hW4⟩:∃W4,W4=w3.alloc (.cells #[.int .i64 x,.int .u64 (y:Int),.int .u8 (z:Int),.slice ga gl gc] 252):=⟨_,rfl⟩
 have t4:Tch NoB w3 W4:=by rw [hW4];exact Ta _ _ _
 have hr4:W4.heap[w3.heap.size]? =some (.cells #[.int .i64 x,.int .u64 (y:Int),.int .u8 (z:Int),.slice ga gl gc] 252):=by rw [hW4];exact Qf _ _
 have HT4:Hid (Tch NoB W W4):=(HT2.o.go ht3).go t4
 have d0:W4.cell? ⟨w3.heap.size,0,none⟩=some (.int .i64 x):=Ja hr4
 have d1:W4.cell? ⟨w3.heap.size,1,none⟩=some (.int .u64 (y:Int)):=Ja hr4
 have d2:W4.cell? ⟨w3.heap.size,2,none⟩=some (.int .u8 (z:Int)):=Ja hr4
 have hs4:=HRR.o W4 HT4.o
 have e0:W4.cell? ⟨w.heap.size+1,0,none⟩=some (.int .i64 0):=Ja hs4
 have e1:W4.cell? ⟨w.heap.size+1,1,none⟩=some (.int .u64 0):=Ja hs4
 have e2:W4.cell? ⟨w.heap.size+1,2,none⟩=some (.int .u8 0):=Ja hs4
 have fR:∀j,W4.frozen? ⟨w.heap.size+1,j,none⟩=false:=λj=>Qg _ _ _ _ _ hs4
 have R4:Hid (W4.heap[w.heap.size+1]? =_):=hs4
 have HSV:Hid (P x y z ev):=hsv
 have HW4:Hid (W4=_):=hW4
 clear ht3 hsv hW4 hr4 t4 hs4 HCK b0 b1 b2
 go_upto_region 5 with fail
 rw [<-HW4.o]
 go_wp2
 rw [set3 _ _ _ _ _ _ _ _ _ R4.o]
 refine QJ (v:=.tuple #[.agg #[.int .i64 x,.int .u64 (y:Int),.int .u8 (z:Int)],ev]) (Jh results91 _ _ (w.heap.size+1) _ _ (0,0) _ rfl (Qi _ _ _ _ _ _ R4.o) underlying179 rfl (by kernel_rfl)) rfl ?_
 exact ⟨(HA.o.go HT4.o).trans (Ts _ _ _) (λj hj=>.inr (by omega)),x,y,z,ev,HSV.o,rfl⟩
theorem JfT {w:World} (wd:Int) (hb pf:BA) (c:BA×Int) (h:∀W,Tch NoB w W->Calls prog 91 #[.int .i64 (wd:Int),.string hb,.agg #[.string c.1,.int .i64 c.2],.string pf] W λe w'=>Tch NoB W w'/\∃(x:Int) (y z:Nat) (t:TypeId) (u:Value),e=.returned (.tuple #[.agg #[.int .i64 x,.int .u64 (y:Int),.int .u8 (z:Int)],.iface t u])):
  Calls prog 47 #[.int .i64 (wd:Int),.string hb,.agg #[.string c.1,.int .i64 c.2],.string pf] w λe w'=>Tch NoB w w'/\e=.returned (.tuple #[.int .i64 0,.agg #[.int .u64 0,.int .u8 0]]):=by
 obtain ⟨s,N⟩:=c
 have H:Hid (∀W,Tch NoB w W->Calls _ _ _ W _):=h
 clear h
 dsimp only at H ⊢
 obtain ⟨W,hW⟩:∃W,W=(w.alloc (.cells #[.string s,.int .i64 N] 49)).alloc (.cells #[.int .u64 0,.int .u8 0] 80):=⟨_,rfl⟩
 have tA:Tch NoB w W:=by rw [hW];exact Tch.allocs _ _ _ _
 have hr0:W.heap[w.heap.size]? =some (.cells #[.string s,.int .i64 N] 49):=by rw [hW];exact heap_alloc2_old _ _ _
 have hr1:W.heap[w.heap.size+1]? =some (.cells #[.int .u64 0,.int .u8 0] 80):=by rw [hW];exact heap_alloc2_new _ _ _
 have a0:W.cell? ⟨w.heap.size,0,none⟩=some (.string s):=Ja hr0
 have a1:W.cell? ⟨w.heap.size,1,none⟩=some (.int .i64 N):=Ja hr0
 have HRR:Hid (∀V,Tch NoB W V->V.heap[w.heap.size+1]? =some (.cells #[.int .u64 0,.int .u8 0] 80)):=λV hT=>(hT.block _ (Jb hr1) (λh=>h)).trans hr1
 have HA:Hid (Tch _ w W):=tA
 have HW:Hid (W=_):=hW
 clear tA hr0 hr1 hW
 go_enter func47,ntmps47
 go_upto_region 1 with fail
 rw [<-HW.o]
 go_wp2_with fail
 refine (H.out W HA.o).mono ?_
 rintro _ w1 ⟨ht1,x,y,z,t,u,rfl⟩
 obtain ⟨W2,hW2⟩:∃W2,W2=w1.alloc (.cells #[.int .i64 x,.int .u64 (y:Int),.int .u8 (z:Int)] 179):=⟨_,rfl⟩
 have t2:Tch NoB w1 W2:=by rw [hW2];exact Ta _ _ _
 have hr2:W2.heap[w1.heap.size]? =some (.cells #[.int .i64 x,.int .u64 (y:Int),.int .u8 (z:Int)] 179):=by rw [hW2];exact Qf _ _
 have b0:W2.cell? ⟨w1.heap.size,0,none⟩=some (.int .i64 x):=Ja hr2
 have b1:W2.cell? ⟨w1.heap.size,1,none⟩=some (.int .u64 (y:Int)):=Ja hr2
 have b2:W2.cell? ⟨w1.heap.size,2,none⟩=some (.int .u8 (z:Int)):=Ja hr2
 have HT2:Hid (Tch NoB W W2):=ht1.go t2
 have hs2:=HRR.o W2 HT2.o
 have e0:W2.cell? ⟨w.heap.size+1,0,none⟩=some (.int .u64 0):=Ja hs2
 have e1:W2.cell? ⟨w.heap.size+1,1,none⟩=some (.int .u8 0):=Ja hs2
 have fR:∀j,W2.frozen? ⟨w.heap.size+1,j,none⟩=false:=λj=>Qg _ _ _ _ _ hs2
 have hlt:w1.heap.size ≠ w.heap.size+1:=λe=>by rw [e,hs2] at hr2;simp at hr2
 have R2:Hid (W2.heap[w.heap.size+1]? =_):=hs2
 have HW2:Hid (W2=_):=hW2
 clear ht1 t2 hr2 hs2 hW2 a0 a1 H b0 b1 b2
 go_upto_region 2 with fail
 rw [<-HW2.o]
 go_wp2
 rw [set2 _ _ _ _ _ _ _ R2.o]
 refine QJ (v:=.tuple #[.int .i64 0,.agg #[.int .u64 0,.int .u8 0]]) (Zt results47 _ _ (w.heap.size+1) _ _ (0,0) _ rfl (Qi _ _ _ _ _ _ R2.o) underlying80 rfl (by kernel_rfl)) rfl ?_
 exact ⟨(HA.o.go HT2.o).trans (Ts W2 (w.heap.size+1) _) (λj hj=>.inr (by omega)),rfl⟩
def Xp (r:Option Wy) (k:Key):Int×(Nat×Nat):=match r with
 | none=>(0,(0,0))
 | some wy=>match wy.said k with
  | some o=>(1,o)
  | none=>(2,(0,0))
theorem JgA (E:Nat->Addr) (wd:Nat) (hw1:1<=wd) (hw:wd<=32) (h:HdL) (hh:HdOk wd h) (c:BA×Int) (hc:Jk wd c) (s:BA) (hs:s.size<=2000000) (w:World) (hE:Env E w) (hA:Ast w):
  Calls prog 47 #[.int .i64 (wd:Int),.string ⟨(hdrB h).toArray⟩,.agg #[.string c.1,.int .i64 c.2],.string s] w λe w'=>Tch NoB w w'/\e=.returned (.tuple #[.int .i64 (Xp (chk wd (Jd c) h.2.2.2 s.data.toList) (Jd c)).1,.agg #[.int .u64 ((Xp (chk wd (Jd c) h.2.2.2 s.data.toList) (Jd c)).2.1:Int),.int .u8 ((Xp (chk wd (Jd c) h.2.2.2 s.data.toList) (Jd c)).2.2:Int)]]):=by
 have H:=λW (hT:Tch NoB w W)=>Jbn E wd hw1 hw h.2.2.2 (Jd c) (YJ hc) s hs W (hE.tch hT noE) (hA.tch hT (λh=>h))
 cases hr:chk wd (Jd c) h.2.2.2 s.data.toList with
 | none=>
  rw [hr] at H
  refine JfT wd _ s c (λW hT=>?_)
  refine (JbR E wd hw1 hw h hh c hc s (λ_ _ _ ev=>∃t u,ev=.iface t u) W (hE.tch hT noE) (λV hT2=>?_)).mono ?_
  ·refine (H V (hT.go hT2)).mono ?_
   rintro e w' ⟨ht,t,u,he⟩
   exact ⟨ht,0,0,0,none,0,0,.iface t u,⟨t,u,rfl⟩,he⟩
  ·rintro e w' ⟨ht,x,y,z,ev,⟨t,u,rfl⟩,he⟩
   exact ⟨ht,x,y,z,t,u,he⟩
 | some wy=>
  rw [hr] at H
  refine (Jcd wd _ s c (wy.said (Jd c)) (λW hT=>?_)).mono ?_
  ·refine (JbR E wd hw1 hw h hh c hc s (λx y z ev=>XE (wy.said (Jd c))=.agg #[.int .i64 x,.int .u64 (y:Int),.int .u8 (z:Int)]/\ev=.nilIface) W (hE.tch hT noE) (λV hT2=>?_)).mono ?_
   ·refine (H V (hT.go hT2)).mono ?_
    rintro e w' ⟨ht,x,y,z,g,cap,hsv,he,_⟩
    exact ⟨ht,x,y,z,_,_,_,.nilIface,⟨hsv,rfl⟩,he⟩
   ·rintro e w' ⟨ht,x,y,z,ev,⟨hsv,rfl⟩,he⟩
    exact ⟨ht,x,y,z,hsv,he⟩
  ·rintro e w' ⟨ht,x,y,z,hsv,rfl⟩
   refine ⟨ht,?_⟩
   unfold Xp
   dsimp only
   cases hs:wy.said (Jd c) with
   | none=>
    rw [hs] at hsv
    simp only [XE,Value.agg.injEq,Array.mk.injEq,QH,Value.int.injEq,true_and,and_true] at hsv
    obtain ⟨rfl,hy,hz⟩:=hsv
    rw [<-hy,<-hz]
    rfl
   | some o=>
    rw [hs] at hsv
    simp only [XE,Value.agg.injEq,Array.mk.injEq,QH,Value.int.injEq,true_and,and_true] at hsv
    obtain ⟨rfl,hy,hz⟩:=hsv
    rw [<-hy,<-hz]
