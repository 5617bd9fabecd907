import Derived.Test.YtighkdnooglfjaaGreatDoorOcChM
namespace Go.Proofs.YtighkdnooglfjaaGreatDoor
open Go.Proofs.Tryz
set_option maxRecDepth 100000
set_option maxHeartbeats 1000000
open Go.RowKit

abbrev wV (v1:Option Addr) (v2 v3:Nat) (m:Bool) (k:BA) (a o:Nat):Value:=.agg #[.slice v1 v2 v3,.bool m,.string k,.int .u64 (a:Int),.int .u8 (o:Int)]
theorem Jf8 {a b:BA} (h:a.toList=b.toList):a=b:=by
 rw [ByteArray.toList_eq,ByteArray.toList_eq] at h
 exact Jmj (by simpa using h)
theorem JgH (wd:Nat) (state kb:BA) (v1:Option Addr) (v2 v3:Nat) (m:Bool) (k:BA) (a o:Nat) (w:World):
  Calls prog 215 #[qV wd state kb,wV v1 v2 v3 m k a o] w λe w'=>e=.returned (YN (if m=true/\k=kb then some (a,o) else none))/\Tch NoB w w':=by
 cases m with
 | false=>
  rw [if_neg (by simp)]
  go_enter func215,ntmps215
  go_wp2
  exact QJ (v:=YN none) (Qq results215 _ _ (w.heap.size+1+1) _ _ (0,0) _ rfl (Jy _ _ _ _) underlying179 rfl (by kernel_rfl)) rfl ⟨rfl,Tch.allocs3 _ _ _ _ _⟩
 | true=>
  by_cases hk:k=kb
  ·rw [if_pos ⟨rfl,hk⟩]
   have hd:(k.toList == kb.toList)=true:=by rw [hk];simp
   have hd2:decide (k=kb)=true:=by simp [hk]
   go_enter func215,ntmps215
   go_wp2
   exact QJ (v:=YN (some (a,o))) (Qq results215 _ _ (w.heap.size+1+1) _ _ (0,0) _ rfl (Jy _ _ _ _) underlying179 rfl (by kernel_rfl)) rfl ⟨rfl,Tch.allocs3 _ _ _ _ _⟩
  ·rw [if_neg (λh=>hk h.2)]
   have hd:¬k.toList=kb.toList:=λh=>hk (Jf8 h)
   have hd3:(k.toList == kb.toList)=false:=by simp [hd]
   have hd2:decide (k.toList=kb.toList)=false:=by simp [hd]
   go_enter func215,ntmps215
   go_wp2
   exact QJ (v:=YN none) (Qq results215 _ _ (w.heap.size+1+1) _ _ (0,0) _ rfl (Jy _ _ _ _) underlying179 rfl (by kernel_rfl)) rfl ⟨rfl,Tch.allocs3 _ _ _ _ _⟩
theorem Jmo (E:Nat->Addr) (wd:Nat) (hw:wd<=32) (state kb:BA) (v1:Option Addr) (v2 v3:Nat) (wy:Wy) (hok:WyOk wd wy) (w:World) (hE:Env E w):
  Calls prog 342 #[qV wd state kb,wV v1 v2 v3 wy.2.isSome (wyK wy) (wyO wy).1 (wyO wy).2] w λe w'=>e=.returned (.tuple #[.string ⟨(Yf wy.2).toArray⟩,.nilIface])/\Tch NoB w w':=by
 obtain ⟨st,en⟩:=wy
 cases en with
 | none=>
  show Calls _ _ #[_,wV v1 v2 v3 false ⟨#[]⟩ 0 0] _ _
  go_enter func342,ntmps342
  go_wp2
  go_ret2
  exact ⟨rfl,Tch.allocs _ _ _ _⟩
 | some x=>
  obtain ⟨k,a,o⟩:=x
  show Calls _ _ #[_,wV v1 v2 v3 true ⟨k.toArray⟩ a o] _ _
  have hkey:=hok.key (k,a,o) rfl
  have htx:=JdQ wd k (a,o) hkey
  have HTX:Hid (∀W,Tch NoB w W->Calls prog 154 #[.agg #[.string ⟨#[76]⟩,.string ⟨k.toArray⟩,.int .u64 (a:Int),.int .u8 (o:Int),.int .i64 0,.string ⟨#[]⟩,.string ⟨#[]⟩],.int .i64 (wd:Int)] W λe w'=>Tch NoB W w'/\e=.returned (.tuple #[.string ⟨(76 :: (k++outB (a,o))).toArray⟩,.nilIface])):=λW hT=>by
   have:=ZP E wd (by omega) (⟨#[76]⟩,⟨k.toArray⟩,(a,o),0,⟨#[]⟩,⟨#[]⟩) hkey.2.2.2 W (hE.tch hT noE)
   rw [htx] at this
   exact this
  show Calls _ _ _ _ λe w'=>e=.returned (.tuple #[.string ⟨(76 :: (k++outB (a,o))).toArray⟩,.nilIface])/\_
  generalize (⟨(76 :: (k++outB (a,o))).toArray⟩:BA)=txt at *
  generalize (⟨k.toArray⟩:BA)=kk at *
  obtain ⟨W,(HW:Hid _)⟩:∃W,W=(w.alloc (.cells #[.int .i64 (wd:Int),.string state,.string kb] 248)).alloc (.cells #[.slice v1 v2 v3,.bool true,.string kk,.int .u64 (a:Int),.int .u8 (o:Int)] 258):=⟨_,rfl⟩
  have hA:Tch NoB w W:=by rw [HW];exact Tch.allocs _ _ _ _
  have hr0:W.heap[w.heap.size]? =some (.cells #[.int .i64 (wd:Int),.string state,.string kb] 248):=by rw [HW];exact heap_alloc2_old _ _ _
  have hr1:W.heap[w.heap.size+1]? =some (.cells #[.slice v1 v2 v3,.bool true,.string kk,.int .u64 (a:Int),.int .u8 (o:Int)] 258):=by rw [HW];exact heap_alloc2_new _ _ _
  have HC:Hid (∀V,Tch NoB W V->V.cell? ⟨w.heap.size,0,none⟩=some (.int .i64 (wd:Int))):=λV hT=>Ja ((hT.block _ (Jb hr0) (λh=>h)).trans hr0)
  have c0:=HC W (Te _ _)
  obtain ⟨-,d1,d2,d3,d4⟩:=rows hr1
  have HA:Hid _:=hA
  clear hA hr0 hr1
  go_enter func342,ntmps342
  go_upto_region 1 with fail
  rw [<-HW.o]
  go_wp2_with fail
  go_region_with (first
   | (go_at_call 307;refine (ZO _ _ _ _).mono ?_;rintro _ w1 ⟨rfl,ht1⟩;have HT1:Hid _:=(Td NoB W 1).go ht1;have c1:=HC _ HT1.o)
   | (go_at_call 154;refine (HTX _ (HA.go HT1)).mono ?_;rintro _ w2 ⟨ht2,rfl⟩;have HT2:Hid _:=(HA.go HT1).go ht2))
  all_goals
   go_wp2
   go_ret2
   exact ⟨rfl,HT2⟩
theorem Jji (E:Nat->Addr) (wd:Nat) (hw1:1<=wd) (hw:wd<=32) (state kb txt:BA) (htx:txt.size<=1000) (s:Stp) (hs:Jaf wd s) (key:Key) (hk:key.length=wd+1) (w:World) (hE:Env E w):
  Calls prog 343 #[qV wd state kb,.string txt,.agg #[.int .i64 (s.1:Int),.string s.2],.string ⟨key.toArray⟩] w λe w'=>e=.returned (.tuple #[.string ⟨(78 :: (beL s.1 2 2++(if bt key s.1=0 then (dgW wd txt.data.toList).data.toList++s.2.data.toList else s.2.data.toList++(dgW wd txt.data.toList).data.toList))).toArray⟩,.nilIface])/\Tch NoB w w':=by
 obtain ⟨b,oth⟩:=s
 obtain ⟨hb,ho⟩:=hs
 dsimp only at hb ho ⊢
 have HB:Hid (∀W,_):=λW=>XB key b (by omega) (by omega) W
 have HOF:Hid (∀W,Tch NoB w W->_):=λW hT=>ZQ E wd txt W (hE.tch hT noE) hw1 hw (by omega)
 have hds:(dgW wd txt.data.toList).size=wd:=Jq wd hw _
 generalize dgW wd txt.data.toList=dg at *
 have HTX:Hid (∀(x y:BA),x.size=wd->y.size=wd->∀W,Tch NoB w W->Calls prog 154 #[.agg #[.string ⟨#[78]⟩,.string ⟨#[]⟩,.int .u64 0,.int .u8 0,.int .i64 (b:Int),.string x,.string y],.int .i64 (wd:Int)] W λe w'=>Tch NoB W w'/\e=.returned (.tuple #[.string ⟨(78 :: (beL b 2 2++(x.data.toList++y.data.toList))).toArray⟩,.nilIface])):=λx y hx hy W hT=>by
  have:=ZP E wd (by omega) (⟨#[78]⟩,⟨#[]⟩,(0,0),(b:Int),x,y) (show (0:Nat)<256 by decide) W (hE.tch hT noE)
  rw [Jhc wd b x y (by omega) hb hx hy] at this
  exact this
 have hb2:=YH key b
 have hif:(if bt key b=0 then dg.data.toList++oth.data.toList else oth.data.toList++dg.data.toList)=(if bt key b=0 then dg else oth).data.toList++(if bt key b=0 then oth else dg).data.toList:=by split <;> rfl
 rw [hif]
 obtain ⟨x,(HX:Hid _)⟩:∃x,x=(if bt key b=0 then dg else oth):=⟨_,rfl⟩
 obtain ⟨y,(HY:Hid _)⟩:∃y,y=(if bt key b=0 then oth else dg):=⟨_,rfl⟩
 rw [<-HX,<-HY]
 have hxs:x.size=wd:=by rw [HX];split <;> assumption
 have hys:y.size=wd:=by rw [HY];split <;> assumption
 have HT:=HTX x y hxs hys
 have HTT:Hid _:=HT
 generalize (⟨(78 :: (beL b 2 2++(x.data.toList++y.data.toList))).toArray⟩:BA)=res at *
 generalize (⟨key.toArray⟩:BA)=kk at *
 generalize bt key b=bb at *
 obtain ⟨W,(HW:Hid _)⟩:∃W,W=((w.alloc (.cells #[.int .i64 (wd:Int),.string state,.string kb] 248)).alloc (.cells #[.int .i64 (b:Int),.string oth] 366)).alloc (.cells #[.string oth,.string oth] 277):=⟨_,rfl⟩
 have hA:Tch NoB w W:=by rw [HW];exact Tch.allocs3 _ _ _ _ _
 have hr0:W.heap[w.heap.size]? =some (.cells #[.int .i64 (wd:Int),.string state,.string kb] 248):=by rw [HW];exact JP _ _ _ _
 have hr1:W.heap[w.heap.size+1]? =some (.cells #[.int .i64 (b:Int),.string oth] 366):=by rw [HW];exact JM _ _ _ _
 have hr2:W.heap[w.heap.size+1+1]? =some (.cells #[.string oth,.string oth] 277):=by rw [HW];exact Jy _ _ _ _
 have HRR:Hid (∀V,Tch NoB W V->V.heap[w.heap.size]? =some (.cells #[.int .i64 (wd:Int),.string state,.string kb] 248)/\V.heap[w.heap.size+1]? =some (.cells #[.int .i64 (b:Int),.string oth] 366)/\V.heap[w.heap.size+1+1]? =some (.cells #[.string oth,.string oth] 277)):=λV hT=>⟨(hT.block _ (Jb hr0) (λh=>h)).trans hr0,(hT.block _ (Jb hr1) (λh=>h)).trans hr1,(hT.block _ (Jb hr2) (λh=>h)).trans hr2⟩
 have HC:Hid (∀V,Tch NoB W V->V.cell? ⟨w.heap.size,0,none⟩=some (.int .i64 (wd:Int))/\V.cell? ⟨w.heap.size+1,0,none⟩=some (.int .i64 (b:Int))/\V.cell? ⟨w.heap.size+1+1,0,none⟩=some (.string oth)/\V.cell? ⟨w.heap.size+1+1,1,none⟩=some (.string oth)/\(∀j,V.frozen? ⟨w.heap.size+1+1,j,none⟩=false)):=λV hT=>by
  obtain ⟨q0,q1,q2⟩:=HRR V hT
  exact ⟨Ja q0,Ja q1,Ja q2,Ja q2,λj=>Qg _ _ _ _ _ q2⟩
 have hwz:W.heap.size=w.heap.size+3:=by rw [HW];simp
 have HWZ:Hid _:=hwz
 have HA:Hid _:=hA
 clear hA hr0 hr1 hr2 hwz
 obtain ⟨a0,a1,a2,a3,a4⟩:=HC W (Te _ _)
 go_enter func343,ntmps343
 go_upto_region 2 with fail
 rw [<-HW.o]
 go_cut [] (λwx=>∃V,wx=V.setRow (w.heap.size+1+1) #[.string x,.string y]/\Hid (Tch NoB W V))
 case first=>
  obtain rfl | rfl:bb=0\/bb=1:=by omega
  ·go_region_with (first
    | (go_at_call 288;refine (HB _).mono ?_;rintro _ _ ⟨rfl,rfl⟩)
    | (go_at_call 130;refine (HOF _ (HA.go (Td _ _ 1))).mono ?_;rintro _ w2 ⟨rfl,ht2⟩;have HT2:Hid _:=(Td NoB W 1).go ht2;obtain ⟨b0,b1,b2,b3,b4⟩:=HC _ HT2.o))
   all_goals go_wp2
   all_goals go_meet
   all_goals exact ⟨w2,(Qj w2 _ 0 _ _ (0,0) _ (HRR w2 HT2).2.2).trans (by rw [HX.o,HY.o];rfl),HT2⟩
  ·go_region_with (first
    | (go_at_call 288;refine (HB _).mono ?_;rintro _ _ ⟨rfl,rfl⟩)
    | (go_at_call 130;refine (HOF _ (HA.go (Td _ _ 1))).mono ?_;rintro _ w2 ⟨rfl,ht2⟩;have HT2:Hid _:=(Td NoB W 1).go ht2;obtain ⟨b0,b1,b2,b3,b4⟩:=HC _ HT2.o;clear ht2))
   all_goals go_wp2
   all_goals go_meet
   all_goals exact ⟨w2,(Qj w2 _ 1 _ _ (0,0) _ (HRR w2 HT2).2.2).trans (by rw [HX.o,HY.o];rfl),HT2⟩
 case rest=>
 obtain ⟨V,hV,HTV⟩:=hcut
 obtain ⟨wA,hwA⟩:∃wA,wA=wc:=⟨wc,rfl⟩
 subst hwA
 have tA:Tch NoB w wA:=by rw [hV];exact (HA.go HTV).trans (Ts _ _ _) (λj hj=>.inr (by omega))
 obtain ⟨q0,q1,q2⟩:=HRR V HTV.o
 have p0:wA.heap[w.heap.size]? =some (.cells #[.int .i64 (wd:Int),.string state,.string kb] 248):=by rw [hV];exact (setRow_other _ _ _ _ (by omega)).trans q0
 have p1:wA.heap[w.heap.size+1]? =some (.cells #[.int .i64 (b:Int),.string oth] 366):=by rw [hV];exact (setRow_other _ _ _ _ (by omega)).trans q1
 have p2:wA.heap[w.heap.size+1+1]? =some (.cells #[.string x,.string y] 277):=by rw [hV];exact Qi _ _ _ _ _ _ q2
 have HCA:Hid (∀U,Tch NoB wA U->U.cell? ⟨w.heap.size,0,none⟩=some (.int .i64 (wd:Int))/\U.cell? ⟨w.heap.size+1,0,none⟩=some (.int .i64 (b:Int))/\U.cell? ⟨w.heap.size+1+1,0,none⟩=some (.string x)/\U.cell? ⟨w.heap.size+1+1,1,none⟩=some (.string y)):=λU hT=>⟨Ja ((hT.block _ (Jb p0) (λh=>h)).trans p0),Ja ((hT.block _ (Jb p1) (λh=>h)).trans p1),Ja ((hT.block _ (Jb p2) (λh=>h)).trans p2),Ja ((hT.block _ (Jb p2) (λh=>h)).trans p2)⟩
 obtain ⟨c0,c1,c2,c3⟩:=HCA wA (Te _ _)
 have HTA:Hid _:=tA
 clear tA q0 q1 q2 p0 p1 p2 hV HTV HC HRR HB HOF HX HY a0 a1 a2 a3 a4 HA HW hb2
 go_upto_region 3 with fail
 go_region_held3 (λU=>U.cell? ⟨w.heap.size,0,none⟩=some (.int .i64 (wd:Int))/\U.cell? ⟨w.heap.size+1,0,none⟩=some (.int .i64 (b:Int))/\U.cell? ⟨w.heap.size+1+1,0,none⟩=some (.string x)/\U.cell? ⟨w.heap.size+1+1,1,none⟩=some (.string y)) (go_keep) ((first
  | (go_at_call 309;refine (YY _ _ _ _).mono ?_;rintro _ w3 ⟨rfl,ht3⟩;have HT3:Hid _:=(Td NoB wA 1).go ht3;obtain ⟨e0,e1,e2,e3⟩:=HCA _ HT3.o;clear ht3)
  | (go_at_call 154;refine (HTT _ (HTA.go HT3)).mono ?_;rintro _ w4 ⟨ht4,rfl⟩;have HT4:Hid _:=(HTA.go HT3).go ht4;obtain ⟨g0,g1,g2,g3⟩:=HCA _ (HT3.go ht4);clear ht4)))
 all_goals
  go_wp2
  go_ret2
  exact ⟨rfl,HT4⟩

def Ast (w:World):Prop:=∃t u,w.cell? ⟨11,0,none⟩=some (.iface t u)
theorem Ast.tch {S:Nat->Prop} {w w':World} (h:Ast w) (k:Tch S w w') (hs:¬S 11):Ast w':=by
 obtain ⟨t,u,h⟩:=h
 exact ⟨t,u,(k.cell (Qr _ _ h) hs).trans h⟩
theorem JkY (N wd:Nat) (state:BA) (key kk:Key) (hk1:key.length<=1000000) (hk2:kk.length<=1000000) (b:Nat) (hb:b<8 * key.length) (hb':b<8 * kk.length) (oth:BA) (i:Int) (v1:Option Addr) (v2 v3:Nat) (m:Bool) (a o:Nat) (w:World)
  (r0:w.heap[N]? =some (.cells #[.int .i64 (wd:Int),.string state,.string ⟨key.toArray⟩] 248)) (r1:w.heap[N+1]? =some (.cells #[.slice v1 v2 v3,.bool m,.string ⟨kk.toArray⟩,.int .u64 (a:Int),.int .u8 (o:Int)] 258)) (hA:bt key b ≠ bt kk b->Ast w):
  Calls prog 287 #[.int .i64 i,.agg #[.int .i64 (b:Int),.string oth],.pointer (some ⟨N,0,none⟩),.pointer (some ⟨N+1,0,none⟩)] w λe w'=>Tch NoB w w'/\((bt key b=bt kk b/\e=.returned .nilIface)\/(bt key b ≠ bt kk b/\∃t u,e=.returned (.iface t u))):=by
 have HB1:Hid (∀W,_):=λW=>XB key b hb hk1 W
 have HB2:Hid (∀W,_):=λW=>XB kk b hb' hk2 W
 obtain ⟨W,(HW:Hid _)⟩:∃W,W=w.alloc (.cells #[.int .i64 (b:Int),.string oth] 366):=⟨_,rfl⟩
 have tA:Tch NoB w W:=by rw [HW];exact Ta _ _ _
 have q0:=(tA.block _ (Jb r0) (λh=>h)).trans r0
 have q1:=(tA.block _ (Jb r1) (λh=>h)).trans r1
 have q2:W.heap[w.heap.size]? =some (.cells #[.int .i64 (b:Int),.string oth] 366):=by rw [HW];exact Qf _ _
 obtain ⟨-, -,c0⟩:=rows q0
 obtain ⟨-, -,c1⟩:=rows q1
 obtain ⟨c2, -⟩:=rows q2
 have HA:Hid (bt key b ≠ bt kk b->Ast W):=λh=>(hA h).tch tA (λh=>h)
 have HT:Hid _:=tA
 clear tA q0 q1 q2 r0 r1 hA
 generalize (⟨key.toArray⟩:BA)=k1 at *
 generalize (⟨kk.toArray⟩:BA)=k2 at *
 generalize bt key b=x at *
 generalize bt kk b=y at *
 by_cases hxy:x=y
 ·subst hxy
  go_enter func287,ntmps287
  go_upto_region 1 with fail
  rw [<-HW.o]
  go_quiet (first | (go_at_call_of 288 (Value.string k1);exact Calls.quiet_of_same (HB1 _)) | (go_at_call_of 288 (Value.string k2);exact Calls.quiet_of_same (HB2 _)))
  go_wp2
  go_ret
  exact ⟨HT.go (Td _ _ _),.inl ⟨trivial,rfl⟩⟩
 ·have hne:¬(x:Int)=(y:Int):=by omega
  obtain ⟨t,u,hcell⟩:=HA hxy
  have HXY:Hid _:=hxy
  go_enter func287,ntmps287
  go_upto_region 1 with fail
  rw [<-HW.o]
  go_quiet (first | (go_at_call_of 288 (Value.string k1);exact Calls.quiet_of_same (HB1 _)) | (go_at_call_of 288 (Value.string k2);exact Calls.quiet_of_same (HB2 _)))
  go_wp2
  go_ret
  exact ⟨HT.go (Td _ _ _),.inr ⟨HXY,_,_,rfl⟩⟩
structure Ji4 (w0:World) (key:Key) (wy:Wy) (i:Nat) (w:World):Prop where
 tch:Tch NoB w0 w
 eq:∀(j:Nat) s,j<i->wy.1[j]? =some s->bt key s.1=bt (XK wy) s.1
def Ji3 (w0:World) (key:Key) (wy:Wy) (v:Value) (w:World):Prop:=Tch NoB w0 w/\(∃s∈wy.1,bt key s.1 ≠ bt (XK wy) s.1)/\∃t u,v=.iface t u
theorem Jhy (wy:Wy):wyK wy=⟨(XK wy).toArray⟩:=by
 obtain ⟨l,e⟩:=wy
 cases e <;> rfl
theorem Jea {wd:Nat} {wy:Wy} (h:WyOk wd wy):(XK wy).length=(if wy.1=[] then (XK wy).length else wd+1):=by
 split
 ·rfl
 ·rename_i hn
  obtain ⟨l,e⟩:=wy
  cases e with
  | none=>exact absurd (h.bare rfl) hn
  | some x=>exact (h.key x rfl).1
theorem Jga (wd:Nat) (hw:wd<=32) (state:BA) (key:Key) (hk:key.length=wd+1) (wy:Wy) (hok:WyOk wd wy) (w0:World) (N:Nat) (g off:Nat) (hz:g<w0.heap.size) (v1:Option Addr) (v2 v3:Nat) (m:Bool) (a o:Nat)
  (r0:w0.heap[N]? =some (.cells #[.int .i64 (wd:Int),.string state,.string ⟨key.toArray⟩] 248)) (r1:w0.heap[N+1]? =some (.cells #[.slice v1 v2 v3,.bool m,.string (wyK wy),.int .u64 (a:Int),.int .u8 (o:Int)] 258))
  (hA:(∃s∈wy.1,bt key s.1 ≠ bt (XK wy) s.1)->Ast w0)
  (hr:∀i (h:i<wy.1.length),w0.cell? ⟨g,off+i * 2,none⟩=some (.int .i64 ((wy.1[i].1:Nat):Int))/\w0.cell? ⟨g,off+i * 2+1,none⟩=some (.string wy.1[i].2)):
  JbP 287 #[.pointer (some ⟨N,0,none⟩),.pointer (some ⟨N+1,0,none⟩)] g off wy.1.length (λi=>(wy.1.map encS).getD i zS) (Ji4 w0 key wy) (Ji3 w0 key wy):=by
 have hx:∀i (h:i<wy.1.length),(wy.1.map encS).getD i zS=encS wy.1[i]:=λi h=>by simp [List.getD_eq_getElem?_getD,h]
 refine ⟨λ_ _=>rfl,?_,?_,?_⟩
 ·rintro i w hi I
  rw [hx i hi]
  have hc:∀o,w.cell? ⟨g,o,none⟩=w0.cell? ⟨g,o,none⟩:=λo=>I.tch.cell (p:=⟨g,o,none⟩) hz (λh=>h)
  rw [hc,hc]
  exact hr i hi
 ·rintro i w o I
  exact ⟨I.tch.go (Ta _ _ _),I.eq⟩
 ·rintro i w hi I
  rw [hx i hi]
  have hs:=hok.steps wy.1[i] (Qx hi)
  have hl:=Jea hok
  rw [if_neg (λe=>by rw [e] at hi;simp at hi)] at hl
  rw [Jhy] at r1
  refine (JkY N wd state key (XK wy) (by omega) (by omega) wy.1[i].1 (by have:=hs.1;omega) (by have:=hs.1;omega) wy.1[i].2 (i:Int) v1 v2 v3 m a o w ((I.tch.block _ (Jb r0) (λh=>h)).trans r0) ((I.tch.block _ (Jb r1) (λh=>h)).trans r1) (λh=>(hA ⟨_,Qx hi,h⟩).tch I.tch (λh=>h))).mono ?_
  rintro e w' ⟨ht,⟨he,rfl⟩ | ⟨he,t,u,rfl⟩⟩
  ·refine .inl ⟨rfl,I.tch.go ht,λj s hj hs2=>?_⟩
   by_cases hji:j=i
   ·subst hji
    rw [Qd hi] at hs2
    cases hs2
    exact he
   ·exact I.eq j s (by omega) hs2
  ·exact .inr ⟨t,u,rfl,I.tch.go ht,⟨_,Qx hi,he⟩,t,u,rfl⟩
theorem JhM (fv:Value) (what:BA) (w:World):Calls prog 286 #[.string what,.slice none 0 0,fv] w λe w'=>e=.returned .nilIface/\w=w':=by
 go_enter func286,ntmps286
 go_wp2
 go_loopw [12] (λi wr=>i=.int .i64 0/\w=wr) (λi _=>0)
 case atStart=>exact ⟨rfl,rfl⟩
 case round=>
  obtain ⟨rfl,rfl⟩:=hrel
  go_wp2
  go_ret
  exact ⟨rfl,rfl⟩
theorem Jdg (E:Nat->Addr) (wd:Nat) (hw:wd<=32) (state:BA) (key:Key) (hk:key.length=wd+1) (wy:Wy) (hok:WyOk wd wy) (v1:Option Addr) (v2 v3:Nat) (m:Bool) (a o:Nat) (w:World) (hE:Env E w) (hv:VAt w.heap.size w (.slice v1 v2 v3) (wy.1.map encS)) (hA:(∃s∈wy.1,bt key s.1 ≠ bt (XK wy) s.1)->Ast w):
  Calls prog 213 #[qV wd state ⟨key.toArray⟩,wV v1 v2 v3 m (wyK wy) a o] w λe w'=>Tch NoB w w'/\(((∀s∈wy.1,bt key s.1=bt (XK wy) s.1)/\e=.returned .nilIface)\/((∃s∈wy.1,bt key s.1 ≠ bt (XK wy) s.1)/\∃t u,e=.returned (.iface t u))):=by
 obtain ⟨W,(HW:Hid _)⟩:∃W,W=(w.alloc (.cells #[.int .i64 (wd:Int),.string state,.string ⟨key.toArray⟩] 248)).alloc (.cells #[.slice v1 v2 v3,.bool m,.string (wyK wy),.int .u64 (a:Int),.int .u8 (o:Int)] 258):=⟨_,rfl⟩
 have tA:=ha2 HW
 have r0:=hno HW
 have r1:=hnn HW
 have hEW:=hE.tch tA noE
 have HEA:Hid (∀what:BA,what.size<=1000->Calls prog 286 #[.string what,.slice v1 v2 v3,.func (.func 287) #[] #[.pointer (some ⟨w.heap.size,0,none⟩),.pointer (some ⟨w.heap.size+1,0,none⟩)]] W λe w'=>ToE (Ji4 W key wy) (Ji3 W key wy) wy.1.length e w'):=λwhat hwh=>by
  rcases hv with ⟨e1,e2⟩ | ⟨gi,oi,c,e1,h1,h2,h3'⟩
  ·have hnil:wy.1=[]:=by simpa using e2
   rw [e1]
   refine (JhM _ _ _).mono ?_
   rintro _ _ ⟨rfl,rfl⟩
   exact .inl ⟨rfl,Te _ _,λj s hj=>by rw [hnil] at hj;simp at hj⟩
  ·rw [e1,QL]
   refine Jm4 _ _ _ _ _ _ _ _ (λi hi=>?_) _ _ (Jga wd hw state key hk wy hok W w.heap.size gi oi (Qk h2 tA.size) v1 v2 v3 m a o r0 r1 (λh=>(hA h).tch tA (λh=>h)) (λi hi=>?_)) (by have:=hok.len;omega) (λv V hb i hi=>JcB (hEW.tch hb.1 noE) i (by have:=hok.len;omega)) hwh W ⟨Te _ _,λj s hj=>absurd hj (Nat.not_lt_zero _)⟩
   ·simp only [Qn,List.getElem?_map,Qd hi];exact ⟨_,_,rfl⟩
   ·have hc:∀o,_:=λo=>tA.cell (p:=⟨gi,o,none⟩) h2 (λh=>h)
    have:=h3' i (by simpa using hi)
    rw [hc,hc]
    simpa [encS] using this
 obtain ⟨hc, -⟩:=rows r1
 have HT:Hid _:=tA
 have hmf:∀(fn:Fn) (first cap:Array Value) (w:World),(Instr.makeFunc fn first cap).run prog w=.ok (.func fn first cap) w:=λ_ _ _ _=>rfl
 clear tA r0 r1 hEW hv hE hA hok hk
 go_enter func213,ntmps213
 go_upto_region 1 with fail
 rw [<-HW.o]
 go_wp2_with fail
 refine (HEA _ (by decide)).mono ?_
 rintro e w2 (⟨rfl,I⟩ | ⟨p,sx,vx,w1,rfl,hp,⟨ht,(HBD:Hid _),hv⟩,hbl⟩)
 ·have HT2:Hid _:=HT.go I.tch
  have HEQ:Hid (∀s∈wy.1,bt key s.1=bt (XK wy) s.1):=λs hs=>by
   obtain ⟨j,hj,rfl⟩:=List.getElem_of_mem hs
   exact I.eq j _ hj (Qd hj)
  go_wp2
  go_ret
  exact ⟨HT2,.inl ⟨HEQ,rfl⟩⟩
 ·have HT2:Hid _:=(HT.go ht).go ((Tch.of_below hbl).mono (λ_ hj=>.inr hj))
  clear ht hv hbl hp
  go_wp2
  go_ret
  exact ⟨HT2,.inr ⟨HBD,_,_,rfl⟩⟩
