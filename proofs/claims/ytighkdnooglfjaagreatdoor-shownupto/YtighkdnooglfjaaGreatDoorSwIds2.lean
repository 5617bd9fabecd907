/-
  New writers: the contracts of keys.Of, chain.headerBytes, chain.firstID and chain.txID; digest.Of by the environment.
  The contract of chain.txID.
-/
import Derived.Test.YtighkdnooglfjaaGreatDoorSwHdr2
import Derived.Test.YtighkdnooglfjaaGreatDoorSwSha
import Derived.Deep.RegionHeld3
namespace Go.Proofs.YtighkdnooglfjaaGreatDoor
open Go.RowKit

def RetS (E:Nat->Addr) (r:Option (List UInt8)) (e:Ending) (w':World):Prop:=match r with
 | some d=>e=.returned (.tuple #[.string ⟨d.toArray⟩,.nilIface])
 | none=>∃t u,e=.returned (.tuple #[.string ⟨#[]⟩,.iface t u])/\ErrIs E 7 w' (.iface t u)
theorem RetS.cases {E:Nat->Addr} {r:Option (List UInt8)} {e:Ending} {w':World} (h:RetS E r e w'):(∃d,r=some d/\e=.returned (.tuple #[.string ⟨d.toArray⟩,.nilIface]))\/(r=none/\∃t u,e=.returned (.tuple #[.string ⟨#[]⟩,.iface t u])/\ErrIs E 7 w' (.iface t u)):=by
 cases r with
 | none=>exact .inr ⟨rfl,h⟩
 | some d=>exact .inl ⟨d,rfl,h⟩
def stOut:Option PS->Option (List UInt8)
 | some (.wr d)=>some d
 | _=>none
def stWr (st:Option PS):Prop:=∀p,st=some p->∃d,p=.wr d
theorem stNum_wr {x k:Nat} {st:Option PS} (h:stWr st):stWr (stNum x k st).2:=by
 intro p hp
 cases st with
 | none=>cases hp
 | some q=>
  obtain ⟨d,rfl⟩:=h q rfl
  cases hq:(PS.wr d).num x k with
  | none=>rw [stNum_none hq] at hp;cases hp
  | some r=>
   obtain ⟨m,p1⟩:=r
   rw [stNum_some hq] at hp
   cases hp
   simp only [PS.num] at hq
   split at hq
   ·cases hq;exact ⟨_,rfl⟩
   ·cases hq
theorem stTxt_wr {s:List UInt8} {k:Nat} {st:Option PS} (h:stWr st):stWr (stTxt s k st).2:=by
 intro p hp
 cases st with
 | none=>cases hp
 | some q=>
  obtain ⟨d,rfl⟩:=h q rfl
  cases hq:(PS.wr d).txt s k with
  | none=>rw [stTxt_none hq] at hp;cases hp
  | some r=>
   obtain ⟨m,p1⟩:=r
   rw [stTxt_some hq] at hp
   cases hp
   simp only [PS.txt] at hq
   split at hq
   ·cases hq;exact ⟨_,rfl⟩
   ·cases hq
theorem stWr_new:stWr (some (.wr [])):=λp hp=>by cases hp;exact ⟨_,rfl⟩
theorem stWr_none:stWr none:=λp hp=>by cases hp
theorem stCoin_wr {width:Nat} {c:ByteArray×Int} {st:Option PS} (h:stWr st):stWr (stCoin width c st).2:=by
 unfold stCoin
 dsimp only
 split
 ·exact stWr_none
 ·exact stNum_wr (stTxt_wr h)
theorem stHdr_wr {width:Nat} {h:HdL} {st:Option PS} (hw:stWr st):stWr (stHdr width h st).2:=stTxt_wr (stTxt_wr (stTxt_wr (stNum_wr hw)))
theorem wdone_ret (E:Nat->Addr) (b:Nat) (g:Option Nat) (width:Int) (st:Option PS) (hw:stWr st) (w:World) (hp:PortSt E w b g width st):
  Calls Tryz.prog 79 #[.pointer (some ⟨b,0,none⟩)] w λe w'=>Tch (λ_=>False) w w'/\RetS E (stOut st) e w':=by
 refine (wdone_st E b g width st hw w hp).mono ?_
 rintro e w' ⟨h1,h2⟩
 refine ⟨h1,?_⟩
 cases st with
 | none=>exact h2
 | some p=>obtain ⟨d,rfl⟩:=hw p rfl;exact h2
theorem fresh_wr2 {w w1 w2:World} {b:Nat} (hb:w.heap.size<=b) (h1:Tch (λ_=>False) w w1) (h2:Tch (λk=>k=b\/some k=none) w1 w2):Tch (λ_=>False) w w2:=
 h1.trans h2 (λj hj=>by
  rcases hj with rfl | hj
  ·exact .inr hb
  ·cases hj)
theorem of_env (E:Nat->Addr) (width:Nat) (s:ByteArray) (w:World) (hE:Env E w) (h1:1<=width) (h32:width<=32) (hs:s.size<=1000000000):
  Calls Tryz.prog 130 #[.int .i64 (width:Int),.string s] w λe w'=>e=.returned (.string (dgW width s.data.toList))/\Tch (λ_=>False) w w':=
 (of_any width s w h1 h32 (by omega) (Nat.lt_of_lt_of_le (by decide) hE.size) hE.table).mono λe w' ⟨k1,k2⟩=>⟨k1,(Tch.of_below k2).mono (λj hj=>.inr hj)⟩
theorem add_str (a:List UInt8) (d:List UInt8) (h:d.length<=1000000) (ha:a.length<=100):∃s:ByteArray,s.size<=1000100/\s.data.toList=a++d/\∀W,(Op.stringOp .add (⟨a.toArray⟩:ByteArray) ⟨d.toArray⟩).run Tryz.prog W=.ok (.string s) W:=
 ⟨_,by rw [ByteArray.size_append];show a.toArray.size+d.toArray.size<=1000100;simp;omega,by simp,λW=>run_string_add_sum (P:=Tryz.prog) W _ _ (by show a.toArray.size+d.toArray.size<=_;simp;omega)⟩

set_option maxRecDepth 100000 in
set_option maxHeartbeats 400000 in
theorem keysOf_any (E:Nat->Addr) (width:Nat) (hw:width<=1000) (c:ByteArray×Int) (w:World) (hE:Env E w):
  Calls Tryz.prog 145 #[.int .i64 (width:Int),.agg #[.string c.1,.int .i64 c.2]] w λe w'=>Tch (λ_=>False) w w'/\RetS E (stOut (stCoin width c (some (.wr []))).2) e w':=by
 have hs:=hE.size
 have HE:Hid (Env E w):=hE
 clear hE
 obtain ⟨s,N⟩:=c
 dsimp only
 go_enter Tryz.func145,Tryz.ntmps145
 go_wp2_with fail
 refine (newWriter_any _ _).mono ?_
 rintro _ w1 ⟨rfl,hp1,ht1⟩
 have tA:Tch (λ_=>False) w (w.alloc (.cells #[.string s,.int .i64 N] 49)):=Tch.alloc _ _ _
 have hb:(w.alloc (.cells #[.string s,.int .i64 N] 49)).heap.size=w.heap.size+1:=by simp
 rw [hb] at hp1
 rw [hb]
 have r0:w1.heap[w.heap.size]? =some (.cells #[.string s,.int .i64 N] 49):=(ht1.block _ (by omega) (λh=>h)).trans (heap_alloc_new _ _)
 have d0:w1.cell? ⟨w.heap.size,0,none⟩=some (.string s):=cell_row r0
 have d1:w1.cell? ⟨w.heap.size,1,none⟩=some (.int .i64 N):=cell_row r0
 have HE1:Hid (Env E w1):=(HE.out.tch tA noE).tch ht1 noE
 have HP1:Hid (PortSt E w1 (w.heap.size+1) none width (some (.wr []))):=hp1
 have HT1:Hid (Tch (λ_=>False) w w1):=tA.trans ht1 noE
 clear hp1 ht1 tA r0 hb
 have HC:Hid (∀k,Calls Tryz.prog 203 _ (w1.drewN k) _):=λk=>coin_st E (w.heap.size+1) (by omega) none width (s,N) (some (.wr [])) (w1.drewN k) (HE1.out.tch (Tch.drewN (λ_=>False) w1 k) noE) (HP1.out.next (Tch.drewN _ w1 k)) (by show 0+_<=_;omega)
 go_wp2_with fail
 go_region_with (go_at_call 203;refine (HC.out 1).mono ?_;rintro _ w2 ⟨rfl,g2,hp2,hm2,ht2⟩;have HP2:Hid (PortSt _ _ _ _ _ _):=hp2;have HT2:Hid (Tch _ _ w2):=ht2;clear hp2 hm2 ht2)
 all_goals
  have HR:Hid (Calls Tryz.prog 79 _ w2 _):=wdone_ret E (w.heap.size+1) g2 width _ (stCoin_wr stWr_new) w2 HP2.out
  have HT3:Hid (Tch (λ_=>False) w w2):=fresh_wr2 (b:=w.heap.size+1) (by omega) (HT1.out.trans (Tch.drewN (λ_=>False) w1 1) noE) HT2.out
  clear HP1 HP2 HT1 HT2 d0 d1 HC HE1
  go_wp2_with fail
  refine HR.out.mono ?_
  rintro _ w3 ⟨ht3,hr⟩
  have HR3:Hid (RetS _ _ _ _):=hr
  have HT4:Hid (Tch _ _ _):=ht3
  clear ht3 HR
  rcases hr.cases with ⟨d,hd,rfl⟩ | ⟨hn,t,u,rfl,he⟩
  all_goals
   clear hr
   go_wp2
   go_ret2
   exact ⟨HT3.out.trans HT4.out noE,HR3.out⟩
set_option maxRecDepth 100000 in
set_option maxHeartbeats 400000 in
theorem headerBytes_any (E:Nat->Addr) (width:Nat) (hw:width<=1000) (n:Nat) (s1 s2 s3:ByteArray) (w:World) (hE:Env E w):
  Calls Tryz.prog 84 #[.int .i64 (width:Int),.agg #[.int .u64 (n:Int),.string s1,.string s2,.string s3]] w λe w'=>Tch (λ_=>False) w w'/\RetS E (stOut (stHdr width (n,s1,s2,s3) (some (.wr []))).2) e w':=by
 have hs:=hE.size
 have HE:Hid (Env E w):=hE
 clear hE
 go_enter Tryz.func84,Tryz.ntmps84
 go_wp2_with fail
 refine (newWriter_any _ _).mono ?_
 rintro _ w1 ⟨rfl,hp1,ht1⟩
 have tA:Tch (λ_=>False) w (w.alloc (.cells #[.int .u64 (n:Int),.string s1,.string s2,.string s3] 167)):=Tch.alloc _ _ _
 have hb:(w.alloc (.cells #[.int .u64 (n:Int),.string s1,.string s2,.string s3] 167)).heap.size=w.heap.size+1:=by simp
 rw [hb] at hp1
 rw [hb]
 have r0:w1.heap[w.heap.size]? =some (.cells #[.int .u64 (n:Int),.string s1,.string s2,.string s3] 167):=(ht1.block _ (by omega) (λh=>h)).trans (heap_alloc_new _ _)
 have d0:w1.cell? ⟨w.heap.size,0,none⟩=some (.int .u64 (n:Int)):=cell_row r0
 have d1:w1.cell? ⟨w.heap.size,1,none⟩=some (.string s1):=cell_row r0
 have d2:w1.cell? ⟨w.heap.size,2,none⟩=some (.string s2):=cell_row r0
 have d3:w1.cell? ⟨w.heap.size,3,none⟩=some (.string s3):=cell_row r0
 have HE1:Hid (Env E w1):=(HE.out.tch tA noE).tch ht1 noE
 have HP1:Hid (PortSt E w1 (w.heap.size+1) none width (some (.wr []))):=hp1
 have HT1:Hid (Tch (λ_=>False) w w1):=tA.trans ht1 noE
 clear hp1 ht1 tA r0 hb
 have HC:Hid (∀k,Calls Tryz.prog 86 _ (w1.drewN k) _):=λk=>header_st E (w.heap.size+1) (by omega) none width n s1 s2 s3 (some (.wr [])) (w1.drewN k) (HE1.out.tch (Tch.drewN (λ_=>False) w1 k) noE) (HP1.out.next (Tch.drewN _ w1 k)) (by show 0+_<=_;omega)
 go_wp2_with fail
 go_region_with (go_at_call 86;refine (HC.out 1).mono ?_;rintro _ w2 ⟨rfl,g2,hp2,hm2,ht2⟩;have HP2:Hid (PortSt _ _ _ _ _ _):=hp2;have HT2:Hid (Tch _ _ w2):=ht2;clear hp2 hm2 ht2)
 all_goals
  have HR:Hid (Calls Tryz.prog 79 _ w2 _):=wdone_ret E (w.heap.size+1) g2 width _ (stHdr_wr stWr_new) w2 HP2.out
  have HT3:Hid (Tch (λ_=>False) w w2):=fresh_wr2 (b:=w.heap.size+1) (by omega) (HT1.out.trans (Tch.drewN (λ_=>False) w1 1) noE) HT2.out
  clear HP1 HP2 HT1 HT2 d0 d1 d2 d3 HC HE1
  go_wp2_with fail
  refine HR.out.mono ?_
  rintro _ w3 ⟨ht3,hr⟩
  have HR3:Hid (RetS _ _ _ _):=hr
  have HT4:Hid (Tch _ _ _):=ht3
  clear ht3 HR
  rcases hr.cases with ⟨d,hd,rfl⟩ | ⟨hn,t,u,rfl,he⟩
  all_goals
   clear hr
   go_wp2
   go_ret2
   exact ⟨HT3.out.trans HT4.out noE,HR3.out⟩
theorem wr_takes (d:List UInt8) (v:Value):(PS.wr d).takes v:=λ_ _ h=>by cases h
theorem stWr_map {α:Type} {r:Option (α×PS)} (h:∀a p,r=some (a,p)->∃d,p=.wr d):stWr (r.map (·.2)):=λp hp=>by
 cases r with
 | none=>cases hp
 | some q=>obtain ⟨a,p'⟩:=q;cases hp;exact h a p' rfl
theorem like_wr {d:List UInt8} {p:PS} (h:(PS.wr d).like p):∃d',p=.wr d':=by
 cases p with
 | rd q r=>cases h
 | wr d'=>exact ⟨d',rfl⟩
def outsB? (l:List (Nat×Nat)):Option (List UInt8):=stOut (((PS.wr []).listO 1 3 l).map (·.2))
def txB? (width:Nat) (t:TxL):Option (List UInt8):=stOut (((PS.wr []).tx width t).map (·.2))
def RetD (E:Nat->Addr) (r:Option ByteArray) (e:Ending) (w':World):Prop:=match r with
 | some d=>e=.returned (.tuple #[.string d,.nilIface])
 | none=>∃t u,e=.returned (.tuple #[.string ⟨#[]⟩,.iface t u])/\ErrIs E 7 w' (.iface t u)

set_option maxRecDepth 100000 in
set_option maxHeartbeats 1000000 in
theorem firstID_any (E:Nat->Addr) (width:Nat) (hw1:1<=width) (hw:width<=32) (v:Value) (l:List (Nat×Nat)) (w:World) (hE:Env E w) (h1:OutsAt w.heap.size w v l) (hl1:l.length<1000000) (ho:∀x∈l,x.2<256):
  Calls Tryz.prog 125 #[.int .i64 (width:Int),v] w λe w'=>Tch (λ_=>False) w w'/\RetD E ((outsB? l).map λd=>dgW width (71 :: d)) e w':=by
 have hs:=hE.size
 have HE:Hid (Env E w):=hE
 have H1:Hid (OutsAt _ _ _ _):=h1
 have HO:Hid (∀x∈l,x.2<256):=ho
 obtain ⟨ia,ic,hvs⟩:=h1.shape
 have hlen:∀d,outsB? l=some d->d.length<=100:=λd hd=>by
  unfold outsB? at hd
  cases hq:(PS.wr []).listO 1 3 l with
  | none=>rw [hq] at hd;cases hd
  | some r=>
   obtain ⟨ys,p2⟩:=r
   obtain ⟨k1,_,k2,k3⟩:=listO_facts h1 (wr_takes _ _) hq
   obtain ⟨d',rfl⟩:=like_wr k1
   rw [hq] at hd
   cases hd
   simp only [PS.len,List.length_nil] at k3
   omega
 clear hE h1 ho
 subst hvs
 go_enter Tryz.func125,Tryz.ntmps125
 go_wp2_with fail
 refine (newWriter_any _ _).mono ?_
 rintro _ w1 ⟨rfl,hp1,ht1⟩
 have HC:Hid (Calls Tryz.prog 188 _ w1 _):=firstOuts_all E w.heap.size hs none width _ l (.wr []) w1 (HE.out.tch ht1 noE) hp1 (H1.out.tch ht1 noE) hl1 (wr_takes _ _) HO.out (by show 0<=_;omega)
 have HT1:Hid (Tch (λ_=>False) w w1):=ht1
 clear hp1 ht1
 go_wp2_with fail
 refine HC.out.mono ?_
 intro e w2 h
 obtain ⟨x1,x2,x3,rfl⟩:=h.shape
 obtain ⟨g2,hp2,ht2⟩:∃g2,PortSt E w2 w.heap.size g2 width (((PS.wr []).listO 1 3 l).map (·.2))/\Tch (λk=>k=w.heap.size\/some k=none) w1 w2:=by
  cases hq:(PS.wr []).listO 1 3 l with
  | none=>
   rw [hq] at h
   obtain ⟨_,g',p',vv,k1,k2,_,k4⟩:=h
   obtain ⟨t,u,rfl⟩:=k2.iface
   exact ⟨g',⟨p',t,u,k1,k2⟩,k4⟩
  | some r=>
   obtain ⟨ys,p2⟩:=r
   rw [hq] at h
   obtain ⟨_,_,_,_,g',k1,_,_,k4⟩:=h
   exact ⟨g',k1,k4⟩
 have hwr:stWr (((PS.wr []).listO 1 3 l).map (·.2)):=stWr_map λa p hq=>by
  obtain ⟨k1,_⟩:=listO_facts H1.out (wr_takes [] _) hq
  exact like_wr k1
 have HR:Hid (Calls Tryz.prog 79 _ w2 _):=wdone_ret E w.heap.size g2 width _ hwr w2 hp2
 have HT3:Hid (Tch (λ_=>False) w w2):=fresh_wr2 (Nat.le_refl _) HT1.out ht2
 clear h HC HT1 ht2 hp2 hwr
 go_wp2_with fail
 refine HR.out.mono ?_
 rintro _ w3 ⟨ht3,hr⟩
 have HT4:Hid (Tch (λ_=>False) w w3):=HT3.out.trans ht3 noE
 clear ht3 HR
 rcases hr.cases with ⟨d,hd,rfl⟩ | ⟨hn,t,u,rfl,he⟩
 ·have HD:Hid (outsB? l=some d):=hd
  obtain ⟨s1,hs1,hs2,ha1⟩:=add_str [71] d (by have:=hlen d hd;omega) (by decide)
  have HOF:Hid (Calls Tryz.prog 130 _ w3 _):=of_env E width s1 w3 (HE.out.tch HT4.out noE) hw1 hw (by omega)
  have HS2:Hid (_=_):=hs2
  clear hr hd hlen hs2
  go_wp2_with fail
  refine HOF.out.mono ?_
  rintro _ w4 ⟨rfl,ht4⟩
  have HT5:Hid (Tch _ _ _):=ht4
  clear ht4 HOF
  go_wp2
  go_ret2
  refine ⟨HT4.out.trans HT5.out noE,?_⟩
  rw [HD.out,HS2.out]
  rfl
 ·have HN:Hid (outsB? l=none):=hn
  have HEE:Hid (ErrIs _ _ _ _):=he
  clear hr hn he hlen
  go_wp2
  go_ret2
  refine ⟨HT4.out,?_⟩
  rw [HN.out]
  exact ⟨t,u,rfl,HEE.out⟩
end Go.Proofs.YtighkdnooglfjaaGreatDoor
namespace Go.Proofs.YtighkdnooglfjaaGreatDoor
open Go.RowKit

theorem txB_len {b width:Nat} {w:World} {x:Sl×Sl} {t:TxL} (hw:width<=32) (hI:InitT b w (.wr []) x t) (d:List UInt8) (hd:txB? width t=some d):d.length<=200:=by
 unfold txB? at hd
 cases hq:(PS.wr []).tx width t with
 | none=>rw [hq] at hd;cases hd
 | some r=>
  obtain ⟨t',p2⟩:=r
  obtain ⟨k1,k2,_⟩:=tx_facts hw hI hq
  obtain ⟨d',rfl⟩:=like_wr k1
  rw [hq] at hd
  cases hd
  simpa [PS.len] using k2
set_option maxRecDepth 100000 in
set_option maxHeartbeats 1000000 in
theorem txID_any (E:Nat->Addr) (width:Nat) (hw1:1<=width) (hw:width<=32) (x:Sl×Sl) (t:TxL) (w:World) (hE:Env E w) (h1:CoinsAt w.heap.size w (.slice x.1.1 x.1.2.1 x.1.2.2) t.1) (h2:OutsAt w.heap.size w (.slice x.2.1 x.2.2.1 x.2.2.2) t.2) (hl1:t.1.length<1000000) (hl2:t.2.length<1000000) (ho:∀x∈t.2,x.2<256):
  Calls Tryz.prog 206 #[.int .i64 (width:Int),.agg #[.slice x.1.1 x.1.2.1 x.1.2.2,.slice x.2.1 x.2.2.1 x.2.2.2]] w λe w'=>Tch (λ_=>False) w w'/\RetD E ((txB? width t).map λd=>dgW width (84 :: d)) e w':=by
 have hs:=hE.size
 have HE:Hid (Env E w):=hE
 obtain ⟨⟨a1,n1,c1⟩,a2,n2,c2⟩:=x
 dsimp only at h1 h2 ⊢
 have HI:Hid (∀wA,Tch (λ_=>False) w wA->InitT (w.heap.size+1) wA (.wr []) ((a1,n1,c1),(a2,n2,c2)) t):=λwA hT=>⟨(h1.tch hT noE).up (by omega),(h2.tch hT noE).up (by omega),hl1,hl2,wr_takes _ _,wr_takes _ _,ho⟩
 clear hE h1 h2 ho
 go_enter Tryz.func206,Tryz.ntmps206
 go_wp2_with fail
 refine (newWriter_any _ _).mono ?_
 rintro _ w1 ⟨rfl,hp1,ht1⟩
 have tA:Tch (λ_=>False) w (w.alloc (.cells #[.slice a1 n1 c1,.slice a2 n2 c2] 98)):=Tch.alloc _ _ _
 have hb:(w.alloc (.cells #[.slice a1 n1 c1,.slice a2 n2 c2] 98)).heap.size=w.heap.size+1:=by simp
 rw [hb] at hp1
 rw [hb]
 have r0:w1.heap[w.heap.size]? =some (.cells #[.slice a1 n1 c1,.slice a2 n2 c2] 98):=(ht1.block _ (by omega) (λh=>h)).trans (heap_alloc_new _ _)
 have d0:w1.cell? ⟨w.heap.size,0,none⟩=some (.slice a1 n1 c1):=cell_row r0
 have d1:w1.cell? ⟨w.heap.size,1,none⟩=some (.slice a2 n2 c2):=cell_row r0
 have HT1:Hid (Tch (λ_=>False) w w1.drew):=(tA.trans ht1 noE).trans (Tch.drewN (λ_=>False) w1 1) noE
 have HC:Hid (Calls Tryz.prog 134 _ w1.drew _):=tx_all E (w.heap.size+1) (by omega) none width hw ((a1,n1,c1),(a2,n2,c2)) t (.wr []) w1.drew (HE.out.tch HT1.out noE) (hp1.tch (Tch.drewN (λ_=>False) w1 1) (λh=>h) (λ_ _ h=>h)) (HI.out _ HT1.out) (by show 0<=_;omega)
 have hlen:∀d,txB? width t=some d->d.length<=200:=txB_len hw (HI.out _ HT1.out)
 have HWR:Hid (stWr (((PS.wr []).tx width t).map (·.2))):=stWr_map λa p hq=>like_wr (tx_like hq)
 clear hp1 ht1 tA r0 hb
 go_wp2_with fail
 go_region_with (go_at_call 134;refine HC.out.mono ?_;rintro _ w2 ⟨⟨⟨y1,y2,y3⟩,z1,z2,z3⟩,g2,rfl,hp2,hm2,ht2,_⟩;have HP2:Hid (PortSt _ _ _ _ _ _):=hp2;have HT2:Hid (Tch _ _ w2):=ht2;clear hp2 hm2 ht2)
 all_goals
  have HR:Hid (Calls Tryz.prog 79 _ w2 _):=wdone_ret E (w.heap.size+1) g2 width _ HWR.out w2 HP2.out
  have HT3:Hid (Tch (λ_=>False) w w2):=fresh_wr2 (b:=w.heap.size+1) (by omega) HT1.out HT2.out
  clear HP2 HT1 HT2 d0 d1 HC HI
  go_wp2_with fail
  refine HR.out.mono ?_
  rintro _ w3 ⟨ht3,hr⟩
  have HT4:Hid (Tch (λ_=>False) w w3):=HT3.out.trans ht3 noE
  clear ht3 HR
  rcases hr.cases with ⟨d,hd,rfl⟩ | ⟨hn,t',u,rfl,he⟩
  ·have HD:Hid (txB? width t=some d):=hd
   obtain ⟨s1,hs1,hs2,ha1⟩:=add_str [84] d (by have:=hlen d hd;omega) (by decide)
   have HOF:Hid (Calls Tryz.prog 130 _ w3 _):=of_env E width s1 w3 (HE.out.tch HT4.out noE) hw1 hw (by omega)
   have HS2:Hid (_=_):=hs2
   clear hr hd hlen hs2
   go_wp2_with fail
   refine HOF.out.mono ?_
   rintro _ w4 ⟨rfl,ht4⟩
   have HT5:Hid (Tch _ _ _):=ht4
   clear ht4 HOF
   go_wp2
   go_ret2
   refine ⟨HT4.out.trans HT5.out noE,?_⟩
   rw [HD.out,HS2.out]
   rfl
  ·have HN:Hid (txB? width t=none):=hn
   have HEE:Hid (ErrIs _ _ _ _):=he
   clear hr hn he hlen
   go_wp2
   go_ret2
   refine ⟨HT4.out,?_⟩
   rw [HN.out]
   exact ⟨t',u,rfl,HEE.out⟩
end Go.Proofs.YtighkdnooglfjaaGreatDoor
