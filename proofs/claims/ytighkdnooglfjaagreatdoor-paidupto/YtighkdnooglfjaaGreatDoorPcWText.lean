import Derived.Test.YtighkdnooglfjaaGreatDoorPcIds2
namespace Go.Proofs.YtighkdnooglfjaaGreatDoor
open Tryz
set_option maxRecDepth 100000
set_option maxHeartbeats 1000000
open Go.RowKit

abbrev JaH:=BA×BA×(Nat×Nat)×Int×BA×BA
def Jis:JaH:=(⟨#[]⟩,⟨#[]⟩,(0,0),0,⟨#[]⟩,⟨#[]⟩)
def YW (n:JaH):Array Value:= #[.string n.1,.string n.2.1,.int .u64 (n.2.2.1.1:Int),.int .u8 (n.2.2.1.2:Int),.int .i64 n.2.2.2.1,.string n.2.2.2.2.1,.string n.2.2.2.2.2]
def Xz (wd:Nat) (n:JaH) (st:Option PS):JaH×Option PS:=
 if (Ji n.1.data.toList 1 st).1=[69] then ((⟨#[69]⟩,⟨#[]⟩,(0,0),0,⟨#[]⟩,⟨#[]⟩),(Ji n.1.data.toList 1 st).2)
 else if (Ji n.1.data.toList 1 st).1=[76] then ((⟨#[76]⟩,⟨(Xt wd n.2.1 n.2.2.1 (Ji n.1.data.toList 1 st).2).1.1.toArray⟩,(Xt wd n.2.1 n.2.2.1 (Ji n.1.data.toList 1 st).2).1.2,0,⟨#[]⟩,⟨#[]⟩),(Xt wd n.2.1 n.2.2.1 (Ji n.1.data.toList 1 st).2).2)
 else if (Ji n.1.data.toList 1 st).1=[78] then ((⟨#[78]⟩,⟨#[]⟩,(0,0),((stBr wd n.2.2.2.1 n.2.2.2.2.1 n.2.2.2.2.2 (Ji n.1.data.toList 1 st).2).1.1:Int),⟨(stBr wd n.2.2.2.1 n.2.2.2.2.1 n.2.2.2.2.2 (Ji n.1.data.toList 1 st).2).1.2.1.toArray⟩,⟨(stBr wd n.2.2.2.1 n.2.2.2.2.1 n.2.2.2.2.2 (Ji n.1.data.toList 1 st).2).1.2.2.toArray⟩),(stBr wd n.2.2.2.1 n.2.2.2.2.1 n.2.2.2.2.2 (Ji n.1.data.toList 1 st).2).2)
 else (Jis,none)
theorem JfV {wd:Nat} {n:JaH} {st:Option PS} (h:stWr st):stWr (Xz wd n st).2:=by
 unfold Xz
 split
 ·exact XD h
 ·split
  ·exact JfT (XD h)
  ·split
   ·exact Jh9 (XD h)
   ·exact YE
theorem set7 (w:World) (g:Nat) (t:TypeId) (a b c d e f h v0 v1 v2 v3 v4 v5 v6:Value) (hr:w.heap[g]? =some (.cells #[a,b,c,d,e,f,h] t (0,0))):
  ((((((w.setCell ⟨g,0,none⟩ v0).setCell ⟨g,1,none⟩ v1).setCell ⟨g,2,none⟩ v2).setCell ⟨g,3,none⟩ v3).setCell ⟨g,4,none⟩ v4).setCell ⟨g,5,none⟩ v5).setCell ⟨g,6,none⟩ v6=w.setRow g #[v0,v1,v2,v3,v4,v5,v6]:=by
 rw [Qj w g 0 _ t (0,0) v0 hr,Qj _ g 1 _ t (0,0) v1 (Qi _ _ _ _ _ _ hr),QI,
  Qj _ g 2 _ t (0,0) v2 (Qi _ _ _ _ _ _ hr),QI,Qj _ g 3 _ t (0,0) v3 (Qi _ _ _ _ _ _ hr),QI,
  Qj _ g 4 _ t (0,0) v4 (Qi _ _ _ _ _ _ hr),QI,Qj _ g 5 _ t (0,0) v5 (Qi _ _ _ _ _ _ hr),QI,
  Qj _ g 6 _ t (0,0) v6 (Qi _ _ _ _ _ _ hr),QI]
 refine congrArg (w.setRow g) ?_
 simp
theorem Jaa (k:BA) (a o:Int) (w:World):Calls prog 307 #[.agg #[.string k,.int .u64 a,.int .u8 o]] w λe w'=>e=.returned (.agg #[.string ⟨#[76]⟩,.string k,.int .u64 a,.int .u8 o,.int .i64 0,.string ⟨#[]⟩,.string ⟨#[]⟩])/\Tch NoB w w':=by
 go_enter func307,ntmps307
 go_wp2
 exact QJ (v:=.agg #[.string ⟨#[76]⟩,.string k,.int .u64 a,.int .u8 o,.int .i64 0,.string ⟨#[]⟩,.string ⟨#[]⟩]) (Qq results307 _ _ (w.heap.size+1) _ _ (0,0) _ rfl (heap_alloc2_new _ _ _) underlying281 rfl (by kernel_rfl)) rfl ⟨rfl,Tch.allocs _ _ _ _⟩
theorem Zc (k:Int) (x y:BA) (w:World):Calls prog 309 #[.agg #[.int .i64 k,.string x,.string y]] w λe w'=>e=.returned (.agg #[.string ⟨#[78]⟩,.string ⟨#[]⟩,.int .u64 0,.int .u8 0,.int .i64 k,.string x,.string y])/\Tch NoB w w':=by
 go_enter func309,ntmps309
 go_wp2
 exact QJ (v:=.agg #[.string ⟨#[78]⟩,.string ⟨#[]⟩,.int .u64 0,.int .u8 0,.int .i64 k,.string x,.string y]) (Qq results309 _ _ (w.heap.size+1) _ _ (0,0) _ rfl (heap_alloc2_new _ _ _) underlying281 rfl (by kernel_rfl)) rfl ⟨rfl,Tch.allocs _ _ _ _⟩
theorem Run.next {E:Nat->Addr} {w0 wA w w':World} {b:Nat} {g g':Option Nat} {wd:Int} {st:Option PS} (h:Run E w0 wA w b g g' wd st) (k:Tch NoB w w'):Run E w0 wA w' b g g' wd st:=
 ⟨h.port.next k,h.moved,h.tch.trans k noE,h.env.tch k noE,h.k12,h.low,h.own,h.new⟩
theorem Jh1 (E:Nat->Addr) (b:Nat) (hb12:18<=b) (g:Option Nat) (wd:Nat) (hw:wd<=1000) (n:JaH) (ho:n.2.2.1.2<256) (st:Option PS) (w:World) (hE:Env E w) (hp:Jf E w b g wd st) (hd:JH st<=70000000):
  Calls prog 240 #[.pointer (some ⟨b,0,none⟩),.agg (YW n)] w λe w'=>e=.returned (.agg (YW (Xz wd n st).1))/\StTo E w w' b g wd (Xz wd n st).2:=by
 have hlt:=hp.lt
 obtain ⟨l,k,⟨a,o⟩,bt,x,y⟩:=n
 dsimp only at ho
 have HC:Hid (YW (l,k,(a,o),bt,x,y)= #[.string l,.string k,.int .u64 (a:Int),.int .u8 (o:Int),.int .i64 bt,.string x,.string y]):=rfl
 rw [HC.o]
 have HR0:=Run.start hb12 hE hp (Tch.allocs NoB w (.cells #[.string l,.string k,.int .u64 (a:Int),.int .u8 (o:Int),.int .i64 bt,.string x,.string y] 281) (.cells #[.string ⟨#[]⟩,.string ⟨#[]⟩,.int .u64 0,.int .u8 0,.int .i64 0,.string ⟨#[]⟩,.string ⟨#[]⟩] 281))
 have hl0:=XJ l.data.toList 1 st
 have RUN:Hid _:=HR0
 go_enter func240,ntmps240
 go_wp2_with fail
 refine (JcY E b g wd l 1 st _ RUN.env RUN.port (by omega)).mono ?_
 rintro _ w1 ⟨rfl,h⟩
 obtain ⟨g1,(RUN1:Hid _)⟩:=RUN.step h
 have bx1:=(RUN1.box (k:=w.heap.size) (Ql _) (heap_alloc2_old _ _ _)).1
 have rR:=(RUN1.box (k:=w.heap.size+1) (by omega) (heap_alloc2_new _ _ _)).1
 have hsz1:=(Jb rR)
 obtain ⟨-,c1,c2,c3,c4,c5,c6⟩:=rows bx1
 have RR1:Hid _:=rR
 clear bx1 h rR
 have hn0:∀c:UInt8,(Ji l.data.toList 1 st).1 ≠ [c]->((⟨(Ji l.data.toList 1 st).1.toArray⟩:BA).toList == [c])=false:=λc h=>by
  rw [ByteArray.toList_eq]
  simpa using h
 have HN0:Hid _:=hn0
 by_cases h0:(Ji l.data.toList 1 st).1=[69]
 ·have hb:(⟨(Ji l.data.toList 1 st).1.toArray⟩:BA)=⟨#[69]⟩:=by rw [h0]
  have HS:Hid (Xz wd (l,k,(a,o),bt,x,y) st=((⟨#[69]⟩,⟨#[]⟩,(0,0),0,⟨#[]⟩,⟨#[]⟩),(Ji l.data.toList 1 st).2)):=if_pos h0
  rw [hb]
  obtain ⟨e0,e1,e2,e3,e4,e5,e6⟩:=rows RR1.out
  have fR:∀j,w1.frozen? ⟨w.heap.size+1,j,none⟩=false:=λj=>Qg _ _ _ _ _ RR1.out
  go_wp2
  rw [set7 _ _ _ _ _ _ _ _ _ _ _ _ _ _ _ _ _ RR1.out]
  refine QJ (v:=.agg (YW (⟨#[69]⟩,⟨#[]⟩,(0,0),0,⟨#[]⟩,⟨#[]⟩))) (Qq results240 _ _ (w.heap.size+1) _ _ (0,0) _ rfl (Qi _ _ _ _ _ _ RR1) underlying281 rfl (by kernel_rfl)) rfl ⟨by rw [HS.o],?_⟩
  rw [HS.o]
  exact RUN1.done (k:=w.heap.size+1) (by omega) (heap_alloc2_new _ _ _) (by decide)
 ·by_cases h1:(Ji l.data.toList 1 st).1=[76]
  ·have hb:(⟨(Ji l.data.toList 1 st).1.toArray⟩:BA)=⟨#[76]⟩:=by rw [h1]
   have HS:Hid (Xz wd (l,k,(a,o),bt,x,y) st=((⟨#[76]⟩,⟨(Xt wd k (a,o) (Ji l.data.toList 1 st).2).1.1.toArray⟩,(Xt wd k (a,o) (Ji l.data.toList 1 st).2).1.2,0,⟨#[]⟩,⟨#[]⟩),(Xt wd k (a,o) (Ji l.data.toList 1 st).2).2)):=(if_neg h0).trans (if_pos h1)
   rw [hb]
   go_wp2_with fail
   refine (JhO E b hb12 g1 wd hw k a o ho _ _ RUN1.env RUN1.port (by omega)).mono ?_
   rintro _ w2 ⟨rfl,h⟩
   obtain ⟨g2,(RUN2:Hid _)⟩:=RUN1.step h
   clear h
   go_wp2_with fail
   refine (Jaa _ _ _ _).mono ?_
   rintro _ w3 ⟨rfl,h⟩
   have R3:=RUN2.out.next h
   have rR:=(R3.box (k:=w.heap.size+1) (by omega) (heap_alloc2_new _ _ _)).1
   obtain ⟨e0,e1,e2,e3,e4,e5,e6⟩:=rows rR
   have fR:∀j,w3.frozen? ⟨w.heap.size+1,j,none⟩=false:=λj=>Qg _ _ _ _ _ rR
   have RUN3:Hid _:=R3
   have RR3:Hid _:=rR
   go_wp2
   rw [set7 _ _ _ _ _ _ _ _ _ _ _ _ _ _ _ _ _ RR3.out]
   refine QJ (v:=.agg #[.string ⟨#[76]⟩,.string _,.int .u64 _,.int .u8 _,.int .i64 0,.string ⟨#[]⟩,.string ⟨#[]⟩]) (Qq results240 _ _ (w.heap.size+1) _ _ (0,0) _ rfl (Qi _ _ _ _ _ _ RR3) underlying281 rfl (by kernel_rfl)) rfl ⟨by rw [HS.o];rfl,?_⟩
   rw [HS.o]
   exact RUN3.done (k:=w.heap.size+1) (by omega) (heap_alloc2_new _ _ _) (by decide)
  ·by_cases h2:(Ji l.data.toList 1 st).1=[78]
   ·have hb:(⟨(Ji l.data.toList 1 st).1.toArray⟩:BA)=⟨#[78]⟩:=by rw [h2]
    have HS:Hid (Xz wd (l,k,(a,o),bt,x,y) st=((⟨#[78]⟩,⟨#[]⟩,(0,0),((stBr wd bt x y (Ji l.data.toList 1 st).2).1.1:Int),⟨(stBr wd bt x y (Ji l.data.toList 1 st).2).1.2.1.toArray⟩,⟨(stBr wd bt x y (Ji l.data.toList 1 st).2).1.2.2.toArray⟩),(stBr wd bt x y (Ji l.data.toList 1 st).2).2)):=(if_neg h0).trans ((if_neg h1).trans (if_pos h2))
    rw [hb]
    go_wp2_with fail
    refine (Je1 E b hb12 g1 wd hw bt x y _ _ RUN1.env RUN1.port (by omega)).mono ?_
    rintro _ w2 ⟨rfl,h⟩
    obtain ⟨g2,(RUN2:Hid _)⟩:=RUN1.step h
    clear h
    go_wp2_with fail
    refine (Zc _ _ _ _).mono ?_
    rintro _ w3 ⟨rfl,h⟩
    have R3:=RUN2.out.next h
    have rR:=(R3.box (k:=w.heap.size+1) (by omega) (heap_alloc2_new _ _ _)).1
    obtain ⟨e0,e1,e2,e3,e4,e5,e6⟩:=rows rR
    have fR:∀j,w3.frozen? ⟨w.heap.size+1,j,none⟩=false:=λj=>Qg _ _ _ _ _ rR
    have RUN3:Hid _:=R3
    have RR3:Hid _:=rR
    go_wp2
    rw [set7 _ _ _ _ _ _ _ _ _ _ _ _ _ _ _ _ _ RR3.out]
    refine QJ (v:=.agg #[.string ⟨#[78]⟩,.string ⟨#[]⟩,.int .u64 0,.int .u8 0,.int .i64 _,.string _,.string _]) (Qq results240 _ _ (w.heap.size+1) _ _ (0,0) _ rfl (Qi _ _ _ _ _ _ RR3) underlying281 rfl (by kernel_rfl)) rfl ⟨by rw [HS.o];rfl,?_⟩
    rw [HS.o]
    exact RUN3.done (k:=w.heap.size+1) (by omega) (heap_alloc2_new _ _ _) (by decide)
   ·have HS:Hid (Xz wd (l,k,(a,o),bt,x,y) st=(Jis,none)):=(if_neg h0).trans ((if_neg h1).trans (if_neg h2))
    have b0:=HN0 69 h0
    have b1:=HN0 76 h1
    have b2:=HN0 78 h2
    generalize (⟨(Ji l.data.toList 1 st).1.toArray⟩:BA)=tb at *
    go_wp2_with fail
    refine (Zu E b g1 wd _ _ _ RUN1.env RUN1.port).mono ?_
    rintro _ w2 ⟨rfl,h⟩
    obtain ⟨g2,(RUN2:Hid _)⟩:=RUN1.step h
    have rR:=(RUN2.box (k:=w.heap.size+1) (by omega) (heap_alloc2_new _ _ _)).1
    obtain ⟨e0,e1,e2,e3,e4,e5,e6⟩:=rows rR
    have fR:∀j,w2.frozen? ⟨w.heap.size+1,j,none⟩=false:=λj=>Qg _ _ _ _ _ rR
    have RR2:Hid _:=rR
    clear rR h
    go_wp2
    rw [set7 _ _ _ _ _ _ _ _ _ _ _ _ _ _ _ _ _ RR2.out]
    refine QJ (v:=.agg #[.string ⟨#[]⟩,.string ⟨#[]⟩,.int .u64 0,.int .u8 0,.int .i64 0,.string ⟨#[]⟩,.string ⟨#[]⟩]) (Qq results240 _ _ (w.heap.size+1) _ _ (0,0) _ rfl (Qi _ _ _ _ _ _ RR2) underlying281 rfl (by kernel_rfl)) rfl ⟨by rw [HS.o];rfl,?_⟩
    rw [HS.o]
    exact RUN2.done (k:=w.heap.size+1) (by omega) (heap_alloc2_new _ _ _) (by decide)

theorem JcK (E:Nat->Addr) (wd:Nat) (hw:wd<=1000) (n:JaH) (ho:n.2.2.1.2<256) (w:World) (hE:Env E w):
  Calls prog 154 #[.agg (YW n),.int .i64 (wd:Int)] w λe w'=>Tch NoB w w'/\RetS E (YZ (Xz wd n (some (.wr []))).2) e w':=by
 have hs:=hE.size
 have HE:Hid _:=hE
 have HC:Hid (∀W b,18<=b->Env E W->Jf E W b none wd (some (.wr []))->_):=λW b h12 hE hp=>Jh1 E b h12 none wd hw n ho (some (.wr [])) W hE hp (by show 0<=_;omega)
 obtain ⟨l,k,⟨a,o⟩,bt,x,y⟩:=n
 dsimp only at ho
 have HV:Hid (YW (l,k,(a,o),bt,x,y)= #[.string l,.string k,.int .u64 (a:Int),.int .u8 (o:Int),.int .i64 bt,.string x,.string y]):=rfl
 rw [HV.o] at HC ⊢
 go_enter func154,ntmps154
 go_wp2_with fail
 refine (JV _ _).mono ?_
 rintro _ w1 ⟨rfl,hp1,ht1⟩
 have tA:Tch NoB w (w.alloc (.cells #[.string l,.string k,.int .u64 (a:Int),.int .u8 (o:Int),.int .i64 bt,.string x,.string y] 281)):=Ta _ _ _
 have hb:(w.alloc (.cells #[.string l,.string k,.int .u64 (a:Int),.int .u8 (o:Int),.int .i64 bt,.string x,.string y] 281)).heap.size=w.heap.size+1:=by simp
 rw [hb] at hp1
 rw [hb]
 have r0:=(ht1.block _ (by omega) (λh=>h)).trans (Qf _ _)
 obtain ⟨d0,d1,d2,d3,d4,d5,d6⟩:=rows r0
 have HT1:Hid _:=(tA.trans ht1 noE).trans (Td NoB w1 1) noE
 have HC1:Hid (Calls prog 240 _ w1.drew _):=HC w1.drew (w.heap.size+1) (by omega) (HE.tch HT1 noE) (Jf.next (E:=E) (st:=some (.wr [])) hp1 (Td _ w1 1))
 go_wp2_with fail
 go_region_with (go_at_call 240;refine HC1.o.mono ?_;rintro _ w2 ⟨rfl,g2,hp2,hm2,ht2⟩;have HP2:Hid (Jf _ _ _ _ _ _):=hp2;have HT2:Hid (Tch _ _ w2):=ht2)
 all_goals
  have HR:Hid (Calls prog 79 _ w2 _):=YH E (w.heap.size+1) g2 wd _ (JfV JbC) w2 HP2.o
  have HT3:Hid _:=Xp (b:=w.heap.size+1) (by omega) HT1 HT2.o
  go_wp2_with fail
  refine HR.o.mono ?_
  rintro _ w3 ⟨ht3,hr⟩
  have HR3:Hid _:=hr
  have HT4:Hid _:=ht3
  rcases hr.cases with ⟨d,hd,rfl⟩ | ⟨hn,t,u,rfl,he⟩
  all_goals
   go_wp2
   go_ret2
   exact ⟨HT3.trans HT4 noE,HR3⟩

theorem JcT {k:IntKind} {a b:Int} (h:a=b):Ending.returned (.int k a)=.returned (.int k b):=by rw [h]
theorem bget (t:BA) (m:Nat) (h:m<t.size):t[m]=t.data.getD m 0:=by
 have h':m<t.data.size:=h
 simp only [Array.getD]
 rw [dif_pos h']
 rfl
theorem JhD (n:Nat) (h:n<256):bits .and .i64 (n:Int) 1=((n % 2:Nat):Int):=by
 have:∀m:Fin 256,bits .and .i64 ((m.val:Nat):Int) 1=((m.val % 2:Nat):Int):=by decide +kernel
 exact this ⟨n,h⟩
theorem Yo (k:List UInt8) (i:Nat) (hi:i<8 * k.length) (hl:k.length<=1000000) (w:World):
  Calls prog 288 #[.string ⟨k.toArray⟩,.int .i64 (i:Int)] w λe w'=>e=.returned (.int .i64 (bt k i:Int))/\w'=w:=by
 have hsz:=JB k
 have hix:i / 8<(⟨k.toArray⟩:BA).size:=by omega
 have HB:Hid ((⟨k.toArray⟩:BA)[i / 8].toNat=(k.getD (i / 8) 0).toNat):=by
  show UInt8.toNat _=_
  congr 1
  simp [List.getD_eq_getElem?_getD,show i / 8<k.length by omega]
  rfl
 have hlt:=UInt8.toNat_lt (⟨k.toArray⟩:BA)[i / 8]
 have HBT:Hid (bt k i=(k.getD (i / 8) 0).toNat / 2 ^ (7 - i % 8) % 2):=rfl
 generalize (⟨k.toArray⟩:BA)=tb at *
 have hq:((i:Int) / 8).toNat=i / 8:=by omega
 go_enter func288,ntmps288
 go_wp2
 go_ret
 refine ⟨JcT ?_,rfl⟩
 have e1:((tb[i / 8].toNat:Int) / 2 ^ (7 - i % 8))=((tb[i / 8].toNat / 2 ^ (7 - i % 8):Nat):Int):=by simp
 have hle:tb[i / 8].toNat / 2 ^ (7 - i % 8)<=tb[i / 8].toNat:=Nat.div_le_self _ _
 rw [e1]
 have e2:wrap64 ((tb[i / 8].toNat / 2 ^ (7 - i % 8):Nat):Int)=((tb[i / 8].toNat / 2 ^ (7 - i % 8):Nat):Int):=by
  have h0:(0:Int)<=((tb[i / 8].toNat / 2 ^ (7 - i % 8):Nat):Int):=Int.natCast_nonneg _
  have h1:((tb[i / 8].toNat / 2 ^ (7 - i % 8):Nat):Int)<256:=by omega
  generalize ((tb[i / 8].toNat / 2 ^ (7 - i % 8):Nat):Int)=z at *
  unfold wrap64
  omega
 rw [e2,JhD _ (by omega),HBT.o,HB.o]
theorem JiQ (x:UInt8) (w:World):
  Calls prog 334 #[.int .u8 (x.toNat:Int)] w λe w'=>e=.returned (.int .i64 (lz8 x:Int))/\w'=w:=by
 have h:=UInt8.toNat_lt x
 obtain ⟨n,hn⟩:∃n,n=x.toNat:=⟨_,rfl⟩
 have hx:x=UInt8.ofNat n:=by rw [hn];simp
 have HX:Hid (x=UInt8.ofNat n):=hx
 rw [<-hn] at h ⊢
 clear hn hx
 go_enter func334,ntmps334
 go_wp2
 go_ret
 refine ⟨JcT ?_,rfl⟩
 rw [HX.o,bget]
 have h':n<256:=h
 clear HX h
 rename_i hz
 clear hz
 revert n
 decide +kernel
