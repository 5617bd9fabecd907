import Derived.Test.YtighkdnooglfjaaGreatDoorOcIds2
import Derived.Test.YtighkdnooglfjaaGreatDoorOcPBook
namespace Go.Proofs.YtighkdnooglfjaaGreatDoor
open Tryz
set_option maxRecDepth 100000
set_option maxHeartbeats 1000000
open Go.RowKit

abbrev JbN:=BA×BA×(Nat×Nat)×Int×BA×BA
def Jma:JbN:=(⟨#[]⟩,⟨#[]⟩,(0,0),0,⟨#[]⟩,⟨#[]⟩)
def Jaa (n:JbN):Array Value:= #[.string n.1,.string n.2.1,.int .u64 (n.2.2.1.1:Int),.int .u8 (n.2.2.1.2:Int),.int .i64 n.2.2.2.1,.string n.2.2.2.2.1,.string n.2.2.2.2.2]
def XN (wd:Nat) (n:JbN) (st:Option PS):JbN×Option PS:=
 if (Jj n.1.data.toList 1 st).1=[69] then ((⟨#[69]⟩,⟨#[]⟩,(0,0),0,⟨#[]⟩,⟨#[]⟩),(Jj n.1.data.toList 1 st).2)
 else if (Jj n.1.data.toList 1 st).1=[76] then ((⟨#[76]⟩,⟨(JK wd n.2.1 n.2.2.1 (Jj n.1.data.toList 1 st).2).1.1.toArray⟩,(JK wd n.2.1 n.2.2.1 (Jj n.1.data.toList 1 st).2).1.2,0,⟨#[]⟩,⟨#[]⟩),(JK wd n.2.1 n.2.2.1 (Jj n.1.data.toList 1 st).2).2)
 else if (Jj n.1.data.toList 1 st).1=[78] then ((⟨#[78]⟩,⟨#[]⟩,(0,0),((stBr wd n.2.2.2.1 n.2.2.2.2.1 n.2.2.2.2.2 (Jj n.1.data.toList 1 st).2).1.1:Int),⟨(stBr wd n.2.2.2.1 n.2.2.2.2.1 n.2.2.2.2.2 (Jj n.1.data.toList 1 st).2).1.2.1.toArray⟩,⟨(stBr wd n.2.2.2.1 n.2.2.2.2.1 n.2.2.2.2.2 (Jj n.1.data.toList 1 st).2).1.2.2.toArray⟩),(stBr wd n.2.2.2.1 n.2.2.2.2.1 n.2.2.2.2.2 (Jj n.1.data.toList 1 st).2).2)
 else (Jma,none)
theorem JiK {wd:Nat} {n:JbN} {st:Option PS} (h:stWr st):stWr (XN wd n st).2:=by
 unfold XN
 split
 ·exact XT h
 ·split
  ·exact JiI (XT h)
  ·split
   ·exact JlJ (XT h)
   ·exact ZH
theorem set7 (w:World) (g:Nat) (t:TypeId) (a b c d e f h v0 v1 v2 v3 v4 v5 v6:Value) (hr:w.heap[g]? =some (.cells #[a,b,c,d,e,f,h] t (0,0))):
  ((((((w.setCell ⟨g,0,none⟩ v0).setCell ⟨g,1,none⟩ v1).setCell ⟨g,2,none⟩ v2).setCell ⟨g,3,none⟩ v3).setCell ⟨g,4,none⟩ v4).setCell ⟨g,5,none⟩ v5).setCell ⟨g,6,none⟩ v6=w.setRow g #[v0,v1,v2,v3,v4,v5,v6]:=by
 rw [Qj w g 0 _ t (0,0) v0 hr,Qj _ g 1 _ t (0,0) v1 (Qi _ _ _ _ _ _ hr),QI,
  Qj _ g 2 _ t (0,0) v2 (Qi _ _ _ _ _ _ hr),QI,Qj _ g 3 _ t (0,0) v3 (Qi _ _ _ _ _ _ hr),QI,
  Qj _ g 4 _ t (0,0) v4 (Qi _ _ _ _ _ _ hr),QI,Qj _ g 5 _ t (0,0) v5 (Qi _ _ _ _ _ _ hr),QI,
  Qj _ g 6 _ t (0,0) v6 (Qi _ _ _ _ _ _ hr),QI]
 refine congrArg (w.setRow g) ?_
 simp
theorem ZO (k:BA) (a o:Int) (w:World):Calls prog 307 #[.agg #[.string k,.int .u64 a,.int .u8 o]] w λe w'=>e=.returned (.agg #[.string ⟨#[76]⟩,.string k,.int .u64 a,.int .u8 o,.int .i64 0,.string ⟨#[]⟩,.string ⟨#[]⟩])/\Tch NoB w w':=by
 go_enter func307,ntmps307
 go_wp2
 exact QJ (v:=.agg #[.string ⟨#[76]⟩,.string k,.int .u64 a,.int .u8 o,.int .i64 0,.string ⟨#[]⟩,.string ⟨#[]⟩]) (Qq results307 _ _ (w.heap.size+1) _ _ (0,0) _ rfl (heap_alloc2_new _ _ _) underlying281 rfl (by kernel_rfl)) rfl ⟨rfl,Tch.allocs _ _ _ _⟩
theorem YY (k:Int) (x y:BA) (w:World):Calls prog 309 #[.agg #[.int .i64 k,.string x,.string y]] w λe w'=>e=.returned (.agg #[.string ⟨#[78]⟩,.string ⟨#[]⟩,.int .u64 0,.int .u8 0,.int .i64 k,.string x,.string y])/\Tch NoB w w':=by
 go_enter func309,ntmps309
 go_wp2
 exact QJ (v:=.agg #[.string ⟨#[78]⟩,.string ⟨#[]⟩,.int .u64 0,.int .u8 0,.int .i64 k,.string x,.string y]) (Qq results309 _ _ (w.heap.size+1) _ _ (0,0) _ rfl (heap_alloc2_new _ _ _) underlying281 rfl (by kernel_rfl)) rfl ⟨rfl,Tch.allocs _ _ _ _⟩
theorem Run.next {E:Nat->Addr} {w0 wA w w':World} {b:Nat} {g g':Option Nat} {wd:Int} {st:Option PS} (h:Run E w0 wA w b g g' wd st) (k:Tch NoB w w'):Run E w0 wA w' b g g' wd st:=
 ⟨h.port.next k,h.moved,h.tch.trans k noE,h.env.tch k noE,h.k12,h.low,h.own,h.new⟩
theorem Jlt (E:Nat->Addr) (b:Nat) (hb12:18<=b) (g:Option Nat) (wd:Nat) (hw:wd<=1000) (n:JbN) (ho:n.2.2.1.2<256) (st:Option PS) (w:World) (hE:Env E w) (hp:Jh E w b g wd st) (hd:JN st<=70000000):
  Calls prog 240 #[.pointer (some ⟨b,0,none⟩),.agg (Jaa n)] w λe w'=>e=.returned (.agg (Jaa (XN wd n st).1))/\StTo E w w' b g wd (XN wd n st).2:=by
 have hlt:=hp.lt
 obtain ⟨l,k,⟨a,o⟩,bt,x,y⟩:=n
 dsimp only at ho
 have HC:Hid (Jaa (l,k,(a,o),bt,x,y)= #[.string l,.string k,.int .u64 (a:Int),.int .u8 (o:Int),.int .i64 bt,.string x,.string y]):=rfl
 rw [HC.o]
 have HR0:=Run.start hb12 hE hp (Tch.allocs NoB w (.cells #[.string l,.string k,.int .u64 (a:Int),.int .u8 (o:Int),.int .i64 bt,.string x,.string y] 281) (.cells #[.string ⟨#[]⟩,.string ⟨#[]⟩,.int .u64 0,.int .u8 0,.int .i64 0,.string ⟨#[]⟩,.string ⟨#[]⟩] 281))
 have hl0:=Yc l.data.toList 1 st
 have RUN:Hid _:=HR0
 go_enter func240,ntmps240
 go_wp2_with fail
 refine (JeO E b g wd l 1 st _ RUN.env RUN.port (by omega)).mono ?_
 rintro _ w1 ⟨rfl,h⟩
 obtain ⟨g1,(RUN1:Hid _)⟩:=RUN.step h
 have bx1:=(RUN1.box (k:=w.heap.size) (Ql _) (heap_alloc2_old _ _ _)).1
 have rR:=(RUN1.box (k:=w.heap.size+1) (by omega) (heap_alloc2_new _ _ _)).1
 have hsz1:=(Jb rR)
 obtain ⟨-,c1,c2,c3,c4,c5,c6⟩:=rows bx1
 have RR1:Hid _:=rR
 clear bx1 h rR
 have hn0:∀c:UInt8,(Jj l.data.toList 1 st).1 ≠ [c]->((⟨(Jj l.data.toList 1 st).1.toArray⟩:BA).toList == [c])=false:=λc h=>by
  rw [ByteArray.toList_eq]
  simpa using h
 have HN0:Hid _:=hn0
 by_cases h0:(Jj l.data.toList 1 st).1=[69]
 ·have hb:(⟨(Jj l.data.toList 1 st).1.toArray⟩:BA)=⟨#[69]⟩:=by rw [h0]
  have HS:Hid (XN wd (l,k,(a,o),bt,x,y) st=((⟨#[69]⟩,⟨#[]⟩,(0,0),0,⟨#[]⟩,⟨#[]⟩),(Jj l.data.toList 1 st).2)):=if_pos h0
  rw [hb]
  obtain ⟨e0,e1,e2,e3,e4,e5,e6⟩:=rows RR1.out
  have fR:∀j,w1.frozen? ⟨w.heap.size+1,j,none⟩=false:=λj=>Qg _ _ _ _ _ RR1.out
  go_wp2
  rw [set7 _ _ _ _ _ _ _ _ _ _ _ _ _ _ _ _ _ RR1.out]
  refine QJ (v:=.agg (Jaa (⟨#[69]⟩,⟨#[]⟩,(0,0),0,⟨#[]⟩,⟨#[]⟩))) (Qq results240 _ _ (w.heap.size+1) _ _ (0,0) _ rfl (Qi _ _ _ _ _ _ RR1) underlying281 rfl (by kernel_rfl)) rfl ⟨by rw [HS.o],?_⟩
  rw [HS.o]
  exact RUN1.done (k:=w.heap.size+1) (by omega) (heap_alloc2_new _ _ _) (by decide)
 ·by_cases h1:(Jj l.data.toList 1 st).1=[76]
  ·have hb:(⟨(Jj l.data.toList 1 st).1.toArray⟩:BA)=⟨#[76]⟩:=by rw [h1]
   have HS:Hid (XN wd (l,k,(a,o),bt,x,y) st=((⟨#[76]⟩,⟨(JK wd k (a,o) (Jj l.data.toList 1 st).2).1.1.toArray⟩,(JK wd k (a,o) (Jj l.data.toList 1 st).2).1.2,0,⟨#[]⟩,⟨#[]⟩),(JK wd k (a,o) (Jj l.data.toList 1 st).2).2)):=(if_neg h0).trans (if_pos h1)
   rw [hb]
   go_wp2_with fail
   refine (Jhj E b hb12 g1 wd hw k a o ho _ _ RUN1.env RUN1.port (by omega)).mono ?_
   rintro _ w2 ⟨rfl,h⟩
   obtain ⟨g2,(RUN2:Hid _)⟩:=RUN1.step h
   clear h
   go_wp2_with fail
   refine (ZO _ _ _ _).mono ?_
   rintro _ w3 ⟨rfl,h⟩
   have R3:=RUN2.out.next h
   have rR:=(R3.box (k:=w.heap.size+1) (by omega) (heap_alloc2_new _ _ _)).1
   obtain ⟨e0,e1,e2,e3,e4,e5,e6⟩:=rows rR
   have fR:∀j,w3.frozen? ⟨w.heap.size+1,j,none⟩=false:=λj=>Qg _ _ _ _ _ rR
   have RUN3:Hid _:=R3
   have RR3:Hid _:=rR
   go_wp2
   rw [set7 _ _ _ _ _ _ _ _ _ _ _ _ _ _ _ _ _ RR3.out]
   refine QJ (v:=.agg #[.string ⟨#[76]⟩,.string _,.int .u64 _,.int .u8 _,.int .i64 0,.string ⟨#[]⟩,.string ⟨#[]⟩]) (Qq results240 _ _ (w.heap.size+1) _ _ (0,0) _ rfl (Qi _ _ _ _ _ _ RR3) underlying281 rfl (by kernel_rfl)) rfl ⟨by rw [HS.o];rfl,?_⟩
   rw [HS.o]
   exact RUN3.done (k:=w.heap.size+1) (by omega) (heap_alloc2_new _ _ _) (by decide)
  ·by_cases h2:(Jj l.data.toList 1 st).1=[78]
   ·have hb:(⟨(Jj l.data.toList 1 st).1.toArray⟩:BA)=⟨#[78]⟩:=by rw [h2]
    have HS:Hid (XN wd (l,k,(a,o),bt,x,y) st=((⟨#[78]⟩,⟨#[]⟩,(0,0),((stBr wd bt x y (Jj l.data.toList 1 st).2).1.1:Int),⟨(stBr wd bt x y (Jj l.data.toList 1 st).2).1.2.1.toArray⟩,⟨(stBr wd bt x y (Jj l.data.toList 1 st).2).1.2.2.toArray⟩),(stBr wd bt x y (Jj l.data.toList 1 st).2).2)):=(if_neg h0).trans ((if_neg h1).trans (if_pos h2))
    rw [hb]
    go_wp2_with fail
    refine (JhE E b hb12 g1 wd hw bt x y _ _ RUN1.env RUN1.port (by omega)).mono ?_
    rintro _ w2 ⟨rfl,h⟩
    obtain ⟨g2,(RUN2:Hid _)⟩:=RUN1.step h
    clear h
    go_wp2_with fail
    refine (YY _ _ _ _).mono ?_
    rintro _ w3 ⟨rfl,h⟩
    have R3:=RUN2.out.next h
    have rR:=(R3.box (k:=w.heap.size+1) (by omega) (heap_alloc2_new _ _ _)).1
    obtain ⟨e0,e1,e2,e3,e4,e5,e6⟩:=rows rR
    have fR:∀j,w3.frozen? ⟨w.heap.size+1,j,none⟩=false:=λj=>Qg _ _ _ _ _ rR
    have RUN3:Hid _:=R3
    have RR3:Hid _:=rR
    go_wp2
    rw [set7 _ _ _ _ _ _ _ _ _ _ _ _ _ _ _ _ _ RR3.out]
    refine QJ (v:=.agg #[.string ⟨#[78]⟩,.string ⟨#[]⟩,.int .u64 0,.int .u8 0,.int .i64 _,.string _,.string _]) (Qq results240 _ _ (w.heap.size+1) _ _ (0,0) _ rfl (Qi _ _ _ _ _ _ RR3) underlying281 rfl (by kernel_rfl)) rfl ⟨by rw [HS.o];rfl,?_⟩
    rw [HS.o]
    exact RUN3.done (k:=w.heap.size+1) (by omega) (heap_alloc2_new _ _ _) (by decide)
   ·have HS:Hid (XN wd (l,k,(a,o),bt,x,y) st=(Jma,none)):=(if_neg h0).trans ((if_neg h1).trans (if_neg h2))
    have b0:=HN0 69 h0
    have b1:=HN0 76 h1
    have b2:=HN0 78 h2
    generalize (⟨(Jj l.data.toList 1 st).1.toArray⟩:BA)=tb at *
    go_wp2_with fail
    refine (ZG E b g1 wd _ _ _ RUN1.env RUN1.port).mono ?_
    rintro _ w2 ⟨rfl,h⟩
    obtain ⟨g2,(RUN2:Hid _)⟩:=RUN1.step h
    have rR:=(RUN2.box (k:=w.heap.size+1) (by omega) (heap_alloc2_new _ _ _)).1
    obtain ⟨e0,e1,e2,e3,e4,e5,e6⟩:=rows rR
    have fR:∀j,w2.frozen? ⟨w.heap.size+1,j,none⟩=false:=λj=>Qg _ _ _ _ _ rR
    have RR2:Hid _:=rR
    clear rR h
    go_wp2
    rw [set7 _ _ _ _ _ _ _ _ _ _ _ _ _ _ _ _ _ RR2.out]
    refine QJ (v:=.agg #[.string ⟨#[]⟩,.string ⟨#[]⟩,.int .u64 0,.int .u8 0,.int .i64 0,.string ⟨#[]⟩,.string ⟨#[]⟩]) (Qq results240 _ _ (w.heap.size+1) _ _ (0,0) _ rfl (Qi _ _ _ _ _ _ RR2) underlying281 rfl (by kernel_rfl)) rfl ⟨by rw [HS.o];rfl,?_⟩
    rw [HS.o]
    exact RUN2.done (k:=w.heap.size+1) (by omega) (heap_alloc2_new _ _ _) (by decide)

theorem ZP (E:Nat->Addr) (wd:Nat) (hw:wd<=1000) (n:JbN) (ho:n.2.2.1.2<256) (w:World) (hE:Env E w):
  Calls prog 154 #[.agg (Jaa n),.int .i64 (wd:Int)] w λe w'=>Tch NoB w w'/\RetS E (Jad (XN wd n (some (.wr []))).2) e w':=by
 have hs:=hE.size
 have HE:Hid _:=hE
 have HC:Hid (∀W b,18<=b->Env E W->Jh E W b none wd (some (.wr []))->_):=λW b h12 hE hp=>Jlt E b h12 none wd hw n ho (some (.wr [])) W hE hp (by show 0<=_;omega)
 obtain ⟨l,k,⟨a,o⟩,bt,x,y⟩:=n
 dsimp only at ho
 have HV:Hid (Jaa (l,k,(a,o),bt,x,y)= #[.string l,.string k,.int .u64 (a:Int),.int .u8 (o:Int),.int .i64 bt,.string x,.string y]):=rfl
 rw [HV.o] at HC ⊢
 go_enter func154,ntmps154
 go_wp2_with fail
 refine (JV _ _).mono ?_
 rintro _ w1 ⟨rfl,hp1,ht1⟩
 have tA:Tch NoB w (w.alloc (.cells #[.string l,.string k,.int .u64 (a:Int),.int .u8 (o:Int),.int .i64 bt,.string x,.string y] 281)):=Ta _ _ _
 have hb:(w.alloc (.cells #[.string l,.string k,.int .u64 (a:Int),.int .u8 (o:Int),.int .i64 bt,.string x,.string y] 281)).heap.size=w.heap.size+1:=by simp
 rw [hb] at hp1
 rw [hb]
 have r0:=(ht1.block _ (by omega) (λh=>h)).trans (Qf _ _)
 obtain ⟨d0,d1,d2,d3,d4,d5,d6⟩:=rows r0
 have HT1:Hid _:=(tA.trans ht1 noE).trans (Td NoB w1 1) noE
 have HC1:Hid (Calls prog 240 _ w1.drew _):=HC w1.drew (w.heap.size+1) (by omega) (HE.tch HT1 noE) (Jh.next (E:=E) (st:=some (.wr [])) hp1 (Td _ w1 1))
 go_wp2_with fail
 go_region_with (go_at_call 240;refine HC1.o.mono ?_;rintro _ w2 ⟨rfl,g2,hp2,hm2,ht2⟩;have HP2:Hid (Jh _ _ _ _ _ _):=hp2;have HT2:Hid (Tch _ _ w2):=ht2)
 all_goals
  have HR:Hid (Calls prog 79 _ w2 _):=ZK E (w.heap.size+1) g2 wd _ (JiK JcY) w2 HP2.o
  have HT3:Hid _:=Xt (b:=w.heap.size+1) (by omega) HT1 HT2.o
  go_wp2_with fail
  refine HR.o.mono ?_
  rintro _ w3 ⟨ht3,hr⟩
  have HR3:Hid _:=hr
  have HT4:Hid _:=ht3
  rcases hr.cases with ⟨d,hd,rfl⟩ | ⟨hn,t,u,rfl,he⟩
  all_goals
   go_wp2
   go_ret2
   exact ⟨HT3.trans HT4 noE,HR3⟩

theorem JeG {k:IntKind} {a b:Int} (h:a=b):Ending.returned (.int k a)=.returned (.int k b):=by rw [h]
theorem bget (t:BA) (m:Nat) (h:m<t.size):t[m]=t.data.getD m 0:=by
 have h':m<t.data.size:=h
 simp only [Array.getD]
 rw [dif_pos h']
 rfl
theorem JkU (n:Nat) (h:n<256):bits .and .i64 (n:Int) 1=((n % 2:Nat):Int):=by
 have:∀m:Fin 256,bits .and .i64 ((m.val:Nat):Int) 1=((m.val % 2:Nat):Int):=by decide +kernel
 exact this ⟨n,h⟩
theorem XB (k:List UInt8) (i:Nat) (hi:i<8 * k.length) (hl:k.length<=1000000) (w:World):
  Calls prog 288 #[.string ⟨k.toArray⟩,.int .i64 (i:Int)] w λe w'=>e=.returned (.int .i64 (bt k i:Int))/\w'=w:=by
 have hsz:=Ju k
 have hix:i / 8<(⟨k.toArray⟩:BA).size:=by omega
 have HB:Hid ((⟨k.toArray⟩:BA)[i / 8].toNat=(k.getD (i / 8) 0).toNat):=by
  show UInt8.toNat _=_
  congr 1
  simp [List.getD_eq_getElem?_getD,show i / 8<k.length by omega]
  rfl
 have hlt:=UInt8.toNat_lt (⟨k.toArray⟩:BA)[i / 8]
 have HBT:Hid (bt k i=(k.getD (i / 8) 0).toNat / 2 ^ (7 - i % 8) % 2):=rfl
 generalize (⟨k.toArray⟩:BA)=tb at *
 have hq:((i:Int) / 8).toNat=i / 8:=by omega
 go_enter func288,ntmps288
 go_wp2
 go_ret
 refine ⟨JeG ?_,rfl⟩
 have e1:((tb[i / 8].toNat:Int) / 2 ^ (7 - i % 8))=((tb[i / 8].toNat / 2 ^ (7 - i % 8):Nat):Int):=by simp
 have hle:tb[i / 8].toNat / 2 ^ (7 - i % 8)<=tb[i / 8].toNat:=Nat.div_le_self _ _
 rw [e1]
 have e2:wrap64 ((tb[i / 8].toNat / 2 ^ (7 - i % 8):Nat):Int)=((tb[i / 8].toNat / 2 ^ (7 - i % 8):Nat):Int):=by
  have h0:(0:Int)<=((tb[i / 8].toNat / 2 ^ (7 - i % 8):Nat):Int):=Int.natCast_nonneg _
  have h1:((tb[i / 8].toNat / 2 ^ (7 - i % 8):Nat):Int)<256:=by omega
  generalize ((tb[i / 8].toNat / 2 ^ (7 - i % 8):Nat):Int)=z at *
  unfold wrap64
  omega
 rw [e2,JkU _ (by omega),HBT.o,HB.o]
theorem JmC (x:UInt8) (w:World):
  Calls prog 334 #[.int .u8 (x.toNat:Int)] w λe w'=>e=.returned (.int .i64 (lz8 x:Int))/\w'=w:=by
 have h:=UInt8.toNat_lt x
 obtain ⟨n,hn⟩:∃n,n=x.toNat:=⟨_,rfl⟩
 have hx:x=UInt8.ofNat n:=by rw [hn];simp
 have HX:Hid (x=UInt8.ofNat n):=hx
 rw [<-hn] at h ⊢
 clear hn hx
 go_enter func334,ntmps334
 go_wp2
 go_ret
 refine ⟨JeG ?_,rfl⟩
 rw [HX.o,bget]
 have h':n<256:=h
 clear HX h
 rename_i hz
 clear hz
 revert n
 decide +kernel

theorem JmA (x:UInt8):lz8 x<=8:=by
 unfold lz8
 repeat (first | omega | split)
theorem Jk3:∀(k:Nat) (a b:List UInt8),a.take k=b.take k->k<=a.length->a.length=b.length->fd a b=8 * k+fd (a.drop k) (b.drop k):=by
 intro k
 induction k with
 | zero=>intro a b _ _ _;simp
 | succ k ih=>
  intro a b h hl hab
  cases a with
  | nil=>simp at hl
  | cons x a=>cases b with
   | nil=>simp at hab
   | cons y b=>
    simp only [List.take_succ_cons,QH] at h
    obtain ⟨rfl,h⟩:=h
    simp only [fd,if_true,List.drop_succ_cons]
    rw [ih a b h (by simpa using hl) (by simpa using hab)]
    omega
theorem Jm7 (k:Nat) (a b:List UInt8) (ha:k<a.length) (hb:k<b.length) (h:a[k] ≠ b[k]):fd (a.drop k) (b.drop k)=lz8 (a[k] ^^^ b[k]):=by
 rw [List.drop_eq_getElem_cons ha,List.drop_eq_getElem_cons hb]
 simp only [fd,h,if_false]
theorem JhU (a b:List UInt8) (hl:a.length=b.length) (hne:a ≠ b) (h1:a.length<=1000000) (w:World):
  Calls Tryz.prog 271 #[.string ⟨a.toArray⟩,.string ⟨b.toArray⟩] w λe w'=>e=.returned (.int .i64 (fd a b:Int))/\∃n,w'=w.drewN n:=by
 have hsa:=Ju a
 have hsb:=Ju b
 have HA:Hid (∀k (h:k<(⟨a.toArray⟩:BA).size) (h':k<a.length),(⟨a.toArray⟩:BA)[k]'h=a[k]'h'):=λk h h'=>by show (⟨a.toArray⟩:BA).data[k]=_;simp
 have HB:Hid (∀k (h:k<(⟨b.toArray⟩:BA).size) (h':k<b.length),(⟨b.toArray⟩:BA)[k]'h=b[k]'h'):=λk h h'=>by show (⟨b.toArray⟩:BA).data[k]=_;simp
 have HL:Hid _:=hl
 generalize (⟨a.toArray⟩:BA)=A at *
 generalize (⟨b.toArray⟩:BA)=B at *
 have HSA:Hid _:=hsa
 have HSB:Hid _:=hsb
 go_enter Tryz.func271,Tryz.ntmps271
 go_wp2
 go_loopw [5] (λi wr=>∃k:Nat,i=.int .i64 (k:Int)/\k<a.length/\Hid (a.take k=b.take k)/\∃n,wr=w.drewN n) (λi _=>a.length - (intOf i).toNat)
 case atStart=>
  refine ⟨0,rfl,?_,(by show _=_;simp),0,rfl⟩
  cases a with
  | nil=>have:=HL.o;simp at this;exact absurd (List.length_eq_zero_iff.1 this.symm).symm hne
  | cons x a=>simp
 case round=>
  obtain ⟨k,rfl,hk,htk,n,rfl⟩:=hrel
  have hka:k<A.size:=by rw [HSA.o];exact hk
  have hkb:k<B.size:=by rw [HSB.o,<-HL.o];exact hk
  have hkb':k<b.length:=by rw [<-HL.o];exact hk
  have eA:=HA k hka hk
  have eB:=HB k hkb hkb'
  by_cases heq:A[k]=B[k]
  ·have hb:((A[k].toNat:Int) == (B[k].toNat:Int))=true:=by rw [heq];simp
   have HEQ:Hid (a[k]=b[k]'hkb'):=by show _=_;rw [<-eA,<-eB,heq]
   clear heq eA eB
   go_wp2
   go_region
   go_wp2
   have htk1:a.take (k+1)=b.take (k+1):=by
    rw [QP hk,QP hkb',htk.out,HEQ.o]
   refine ⟨⟨k+1,by go_num,?_,htk1,n+1,rfl⟩,by simp [intOf];omega⟩
   by_cases hl:k+1<a.length
   ·exact hl
   ·exfalso
    rw [QQ (by omega),QQ (by have:=HL.o;omega)] at htk1
    exact hne htk1
  ·have hb:((A[k].toNat:Int) == (B[k].toNat:Int))=false:=by
    rw [beq_eq_false_iff_ne]
    intro e
    exact heq (UInt8.toNat_inj.1 (by omega))
   have HR:Hid (fd a b=8 * k+lz8 (A[k] ^^^ B[k])):=by
    show _=_
    rw [Jk3 k a b htk.out (by omega) HL.o,Jm7 k a b hk hkb' (by rw [<-eA,<-eB];exact heq),eA,eB]
   have hx:bits .xor .u8 (A[k].toNat:Int) (B[k].toNat:Int)=((A[k] ^^^ B[k]).toNat:Int):=by
    rw [u8_xor_nat _ _ (UInt8.toNat_lt _) (UInt8.toNat_lt _),UInt8.toNat_xor]
   have hlz:=JmC (A[k] ^^^ B[k])
   rw [<-hx] at hlz
   have hl8:=JmA (A[k] ^^^ B[k])
   have hw8:IntKind.i64.wrap (8 * (k:Int))=8 * (k:Int):=by simp [IntKind.wrap,IntKind.bits,IntKind.signed];omega
   have hws:IntKind.i64.wrap (8 * (k:Int)+(lz8 (A[k] ^^^ B[k]):Int))=8 * (k:Int)+(lz8 (A[k] ^^^ B[k]):Int):=by simp [IntKind.wrap,IntKind.bits,IntKind.signed];omega
   clear hx
   clear heq eA eB
   go_wp2
   go_region
   go_wp2
   go_region_with (go_at_call 334;refine (hlz _).mono ?_;rintro _ _ ⟨rfl,rfl⟩)
   all_goals go_wp2
   all_goals go_ret
   all_goals exact ⟨JeG (by rw [HR.o];go_num),n+2,rfl⟩
